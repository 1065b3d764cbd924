import PyProof.Rows.All
import Wide.All
import OpenK.AllK
import Wide.FinOn
import PyProof.EqAt
import PyProof.EqKinds
import PyProof.TupleCall
import Lean
import PySem.Challenge.RW_shutways_k21_whole_two_bridges_agree
set_option Elab.async false
set_option bootstrap.genMatcherCode false
set_option compiler.extract_closed false
set_option genSizeOf false
local macro_rules|`(command|def $x:declId $b:bracketedBinder*:$t $v:declVal)=>`(command|theorem $x:declId $b:bracketedBinder*:$t $v:declVal)
local macro_rules|`(command|abbrev $x:declId $s:optDeclSig $v:declVal)=>`(command|noncomputable def $x:declId $s:optDeclSig $v:declVal)
local macro_rules|`(tactic|simp! [$l,*])=>`(tactic|simp only[$l,*])|`(tactic|simp! [$l,*]at $h:ident)=>`(tactic|simp only[$l,*]at $h:ident)
local macro_rules|`(tactic|k_ne)=>do
 let i:=λs=>Lean.mkIdent<|.mkSimple s
 `(tactic|intro $(i "Â") $(i "s") $(i "σ") $(i "H") $(i "x") $(i "y") $(i "v") $(i "u") $(i "Q") $(i "I") $(i "rx") $(i "ry") $(i "h"))
local macro_rules|`(tactic|k_sub)=>do
 let i:=λs=>Lean.mkIdent<|.mkSimple s
 `(tactic|intro $(i "X") $(i "hP") $(i "hw") $(i "hK") $(i "hc") $(i "i") $(i "Â") $(i "s") $(i "σ") $(i "H") $(i "E") $(i "I") $(i "hf") $(i "st") $(i "hg"))
local macro_rules|`(tactic|k_upd)=>do
 let i:=λs=>Lean.mkIdent<|.mkSimple s
 `(tactic|intro $(i "Â") $(i "s") $(i "σ") $(i "H") $(i "Q") $(i "I") $(i "h"))
local macro_rules|`(tactic|k_put)=>do
 let i:=λs=>Lean.mkIdent<|.mkSimple s
 `(tactic|intro $(i "Â") $(i "s") $(i "σ") $(i "H") $(i "xs") $(i "us") $(i "Q") $(i "I") $(i "r") $(i "h"))
local macro_rules|`(tactic|k_get)=>do
 let i:=λs=>Lean.mkIdent<|.mkSimple s
 `(tactic|intro $(i "v") $(i "u") $(i "G") $(i "H") $(i "x") $(i "y") $(i "c") $(i "Q") $(i "g") $(i "rx") $(i "ry") $(i "e") $(i "q"))
set_option linter.all false
set_option maxRecDepth 100000
open PySem.Str renaming ofString->fE
open Decidable renaming decide->fB
open Option renaming some->df, none->dg
open Bool renaming true->dh, false->di
open PySem.W (Frag)
open Array renaming length_toList->ö, getElem?_toList->Ŝ, getElem?_eq_some_iff->ū, getD_eq_getD_getElem?->aa, getD->ao, perm_iff_toList_perm->ap, toList->aX, toList_inj->cW
open Bool renaming false_ne_true->é, false_eq_true->ú, and_true->Ż, not_not->Ϙ, not_eq_true'->ϙ, or_eq_true->ab, or_false->aO, true_xor->aS, and_eq_true_iff->bR
open Char renaming toNat->ň
open Classical renaming byContradiction->Ϩ
open False renaming elim->ı
open ForInStep renaming yield->Ĩ
open Function renaming comp_apply->Ε
open Int renaming toNat_natCast->Ϝ, le_refl->cj, emod_lt_of_pos->de
open List renaming length_map->Á, mem_cons->Æ, map_cons->È, size_toArray->É, mem_append_right->Í, length_cons->Î, getElem?_eq_getElem->Ï, mem_map->Ð, getElem?_eq_some_iff->Ò, replicate->Ó, not_mem_nil->Õ, mem_cons_of_mem->Ù, mem_map_of_mem->Ú, mem_cons_self->Ý, length_append->Þ, lookup_cons->à, map_append->â, getElem?_map->ã, mem_of_getElem?->å, mem_append->æ, getD_eq_getElem?_getD->ì, mem_filter->í, length_replicate->ñ, mem_append_left->õ, nodup_append->ø, mem_singleton->û, contains_iff_mem->ý, getElem?_append_left->ÿ, nodup_cons->Ā, all_eq_true->Ă, replicate_succ->ă, length_range->Ą, map_map->ą, getElem?_append_right->ć, append_nil->Ĉ, filter_cons->ĉ, take_length->Ċ, filterMap_cons->č, map_nil->đ, find?_cons->Ē, map_inj_left->ĕ, drop_eq_getElem_cons->ę, any_cons->Ģ, mem_filterMap->Ħ, foldl_cons->ĭ, nil_append->Į, flatten_cons->į, length_take_le'->İ, getElem?_replicate->ĸ, cons_append->Ĺ, length_nil->ľ, length_filter_le->Ł, length_mergeSort->ł, append_assoc->Ņ, length_eraseIdx_of_lt->ŉ, toArray->ŋ, mergeSort_perm->Ō, map_congr_left->ō, length_drop->Ş, getElem_mem->Š, getElem?_set_ne->Ţ, lookup->ţ, take_succ_cons->Ŧ, mem_range->Ů, take_zero->Ű, foldl_append->ź, mem_of_mem_eraseIdx->ż, length_take->θ, pairwise_mergeSort->ι, length_eq_zero_iff->μ, eraseIdx_cons_succ->ν, getElem?_set_self->ρ, drop_eq_nil_of_le->υ, length_set->ω, forIn_cons->Α, filter_nil->Β, length_singleton->Γ, getElem?_eq_none->Δ, nodup_nil->Μ, length_pos_iff->Υ, zip_nil_right->Χ, zip_cons_cons->Ψ, set_cons_succ->Ω, set_cons_zero->ϊ, filter_append->ϋ, zip_nil_left->ϕ, eraseIdxIfInBounds_toArray->ϛ, zipIdx_cons->Ϥ, eq_nil_of_length_eq_zero->Ϯ, of_mem_zip->Ϻ, mapM_cons->aw, length_filterMap_le->aQ, set_append_left->bP, mem_of_mem_take->bQ, getElem?_range->ca, filter_eq_self->cc, filter_sublist->cf, filterMap_map->cD, foldl->cF, pairwise_cons->cI, take_add_one->cX
open List.cons renaming inj->ŭ
open Nat renaming le_refl->Ê, le_trans->Ü, lt_of_lt_of_le->ß, ne_of_lt->è, lt_of_le_of_lt->ó, lt_irrefl->ģ, zero_le->Ĥ, lt_succ_self->Ļ, le_succ->ő, ne_of_gt->ŗ, lt_succ_of_lt->Ř, succ_le_succ->ξ, le_add_right->ο, le_of_lt->ψ, lt_trans->ϝ, lt_trichotomy->Ϟ, min_le_right->Ϭ, zero_lt_succ->ϰ, not_lt_zero->am, mul_comm->bv
open Option renaming isSome_iff_exists->Ì, map_eq_some_iff->á, bind_eq_some_iff->î, bind_some->ï, map_some->Ĭ, isSome_map->ŀ, not_isSome_iff_eq_none->ϟ, getD_none->cE
open Option.some renaming inj->ë, injEq->ĥ
open Prod.mk renaming inj->ů, injEq->ŵ
open PyProof.Rows renaming seqObj->Ď, IntsAre->ĝ, kindOf->ų, AllBare->π, IsTup->Ϣ, envOfC->ϫ, Constant_none->bW, subscriptTail->bY, listUpdate_at->ce, subscriptTail_builtinR->cS
open PySem renaming wpAny_bind->À, Value->Ã, Shared->Å, Addr->Ç, wpAny_pure->Ë, starEach->Ñ, sizeLine->Ø, model->Û, Program->ä, compareOp->ê, Heap->ù, World->ü, mainGlobals->þ, assignEach->ā, wpAny_holding->Ć, Around->ċ, wpAny_field->Č, wpAny_truthy_bool->ď, foldedSetIterable->Đ, wpAny_seqItems->ē, backTo->Ĕ, attributeBase->ė, argBest->Ę, wpAny_Call_Name_kw->Ğ, cLine->ğ, wpAny_callSpecial?_slot->Ġ, Stmt->ġ, behindInMarks->ĩ, wpAny_call_entry->Ī, binaryOp->ĳ, sizeLine_eq->Ĵ, FuncData->ĵ, keywordEach->Ķ, wpAny_newObj_type->ķ, wpAny_mono->ĺ, sysModules->Ń, bootBuiltins->ń, wpAny_setField_rec->ņ, IsPair->Ŋ, swapsWithSole->œ, holding->Ŕ, wpAny_loadPart'->ŕ, tupleKind_room_in1->ř, swapsWith->ś, backToKw->š, Scope->Ť, assign->ť, swappedStores->ũ, sliceBounds->Ū, wpAny_letGo->Ŭ, wpAny_passesOwn->Ų, call_meets->ž, wpAny_pyIter_tuple->ſ, wpAny_tryCatch->ζ, standAt->ς, getMethod->Ζ, NameKind->Η, IsZip->Θ, wpAny_pyIter_zip->Ι, IsPart->Ν, valueAt->Ξ, call_meetsIn->Ο, letOwnedTupleGo->Τ, codeAny_builtin->Φ, pyNext->ό, PyData->ύ, wpAny_updateSeq_pair->Ϗ, tupleKind->ϑ, PassesOwn->ϒ, getItem->ϓ, callerA->ϔ, seqItems?->ϖ, wpAny_standAt->ϣ, wpAny_onRaise->ϥ, plainId_quiet->Ϧ, wpAny_newList->ϧ, wpAny_rule->ϭ, Operator->ae, codeAny_mono->af, Keyword->ah, ZipApart->aj, wpAny_pyIter_list->ak, rawInt->aB, lastMarks->aC, noFill_tuple_add->aD, noteFrame->aE, CmpOp->aM, wpAny_updateSeq->aZ, relabel->bg, isTrue->bq, callWith->bu, wpAny_setField->bw, atKey->bz, methodCallForm->bB, wpAny_letOwnedTupleGo_zip->bO, seq_tuple_add->bX, wpAny_comprehension_free->bZ, bindC->cC, field->cG, wpAny_pyNext_list_item->cO, concat_meets->cP, wpAny_typeOf->cQ, seqIndex_neg->cR, richCompare_meets_room->cU
open PySem.Around renaming under_plainId->ş, under->aN
open PySem.Builtin.Str renaming strSliceIndices->Ŵ
open PySem.Code renaming isFrame->bd
open PySem.FuncData.mk renaming injEq->aT
open PySem.Heap renaming get?_push_of_some->Ä, lt_size->Ô, get?_push_size->Ö, get?_update_other->ò, size_push->ħ, get?_update_self->ŝ, SameBut->Ũ, LeftW->cH
open PySem.Heap.SameBut renaming update->ai
open PySem.NameKind renaming free->Ě, cell->cT
open PySem.Obj renaming mapSeq->Ė, data_mapFields->cV
open PySem.PyData renaming eqv->ě, depthAll->ī, canLayAll0->Ŀ, canLay0->Œ, eqvAll->Ÿ
open PySem.W renaming boot_heap->Ő, kas_rev->χ, findIn->ώ, boot_drawn->ϯ, kas_descPart->aq, SharedT->au, kas_place->aF, boot_toks->aG, kas_desc->bA, mg_of->bC, nsIn->cY, kitOne->cZ
open String renaming ofList->ŷ, singleton->ϗ, length_toList->bh, toList_ofList->bj
open UInt32.toNat renaming inj->aR
def bAq(a b:Bool):((a&&b)=dh)=(a=dh/\b=dh):=Bool.and_eq_true a b
abbrev fm:=@if_pos
abbrev fo:=@if_neg
abbrev ft:=@decide_eq_false
abbrev fw:=@decide_eq_true
abbrev fz:=@decide_eq_true_eq
@[reducible] noncomputable def fA:=@absurd
local macro_rules|`(tactic|let $p:term:=$e)=>do
 let k:=`Lean.Parser.Tactic
 let n(c:Lean.Name)(a:Array Lean.Syntax):Lean.Syntax:=.node .none (k++c) a
 let m(s:Lean.Syntax):=if s.isIdent then n `rcasesPat.one #[s]else if s.isOfKind ``Lean.Parser.Term.hole then n `rcasesPat.ignore #[s[0]]else if s.isOfKind ``Lean.Parser.Term.anonymousCtor then n `rcasesPat.tuple #[s[0],Lean.mkNullNode (s[1].getArgs.map λx=>if x.isAtom then x else n `rcasesPatLo #[n `rcasesPatMed #[Lean.mkNullNode #[x]],Lean.mkNullNode]),s[2]]else s
 `(tactic|obtain $(⟨n `rcasesPatMed #[Lean.mkNullNode #[p.raw.rewriteBottomUp m]]⟩):rcasesPatMed:=$e)
local macro_rules|`(command|instance $x:declId:$t $v:declVal)=>do
 if t.raw.getId != `Fn then Lean.Macro.throwUnsupported
 `(command|noncomputable abbrev $x:declId:$t $v:declVal)
local macro_rules|`(⇑$h)=>`(by simpa using $h)
namespace L2
open PySem PySem.Spec PyProof.Rows
noncomputable abbrev Key:=Sum Int Str
abbrev W6:Key->Ã->Bool
 |.inl k,v=>Value.isInt k v
 |.inr x,v=>Value.isStrOf x v
abbrev L8(w:ü):Key->Int
 |.inl k=>hashInt k
 |.inr x=>hashStr w x
def Zs:∀{k:Key}{v:Ã},W6 k v=dh->(∃i t,k=Sum.inl i/\v=Value.int i t)\/(∃x t,k=Sum.inr x/\v=Value.str x t)
 |.inl i,v,h=>by let⟨t,e⟩:=Value.isInt_shape (k:=i) (v:=v) h;exact .inl ⟨i,t,rfl,e⟩
 |.inr x,v,h=>by let⟨t,e⟩:=Value.isStrOf_shape (x:=x) (v:=v) h;exact .inr ⟨x,t,rfl,e⟩
def OR(i:Int)(t:Tok):W6 (.inl i) (.int i t)=dh:=by simp[W6,Value.isInt]
def UJ(x:Str)(t:Tok):W6 (.inr x) (.str x t)=dh:=by simp[W6,Value.isStrOf]
def Ht(a b:Int):fB ((Sum.inl a:Key)=Sum.inl b)=(a==b):=by
 by_cases e:a=b
 .subst e;simp
 .have h:¬ (Sum.inl a:Key)=Sum.inl b:=λq=>e<|Sum.inl.inj q;rw[ft h];exact(beq_eq_false_iff_ne.mpr e).symm
def FW(a b:Str):fB ((Sum.inr a:Key)=Sum.inr b)=fB (a=b):=by
 by_cases e:a=b
 .subst e;simp
 .have h:¬ (Sum.inr a:Key)=Sum.inr b:=λq=>e<|Sum.inr.inj q;rw[ft h,ft e]
def Fj(a:Int)(b:Str):fB ((Sum.inl a:Key)=Sum.inr b)=di:=ft (λq=>nomatch q)
def GD(a:Str)(b:Int):fB ((Sum.inr a:Key)=Sum.inl b)=di:=ft (λq=>nomatch q)
abbrev Zj(prog:ä)(w:ü):PySem.KeyKind prog w Key where
 is:=W6
 hash:=L8 w
 inj:=λv a b ha hb=>by
  rcases Zs ha with⟨i,t,rfl,rfl⟩|⟨x,t,rfl,rfl⟩
  .rcases Zs hb with⟨j,u,rfl,e⟩|⟨y,u,rfl,e⟩
   .injection e with e1 _;rw[e1]
   .exact nomatch e
  .rcases Zs hb with⟨j,u,rfl,e⟩|⟨y,u,rfl,e⟩
   .exact nomatch e
   .injection e with e1 _;rw[e1]
 byValue:=λk v h=>by rcases Zs h with⟨i,t,rfl,rfl⟩|⟨x,t,rfl,rfl⟩<;>rfl
 pyHash:=λhv h=>by
  rcases Zs hv with⟨i,t,rfl,rfl⟩|⟨x,t,rfl,rfl⟩
  .exact wpAny_pyHash_int h
  .exact wpAny_pyHash_str h
 eqBool:=λhu hv h=>by
  rcases Zs hu with⟨i,t,rfl,rfl⟩|⟨x,t,rfl,rfl⟩
  .rcases Zs hv with⟨j,u,rfl,rfl⟩|⟨y,u,rfl,rfl⟩
   .rw[Ht]at h;exact wpAny_eqBool_int h
   .rw[Fj]at h;exact SeqAt.EqAt.int_str i t y u _ _ _ _ h
  .rcases Zs hv with⟨j,u,rfl,rfl⟩|⟨y,u,rfl,rfl⟩
   .rw[GD]at h;exact SeqAt.EqAt.str_int x t j u _ _ _ _ h
   .rw[FW]at h;exact wpAny_eqBool_str h
 «strs»:=λk x t v h=>by
  rcases Zs h with⟨i,u,rfl,e⟩|⟨y,u,rfl,e⟩
  .exact nomatch e
  .injection e with e1 _;subst e1;cases v<;>rfl
def Mr(prog:ä)(w:ü)(i:Int)(t:Tok):(Zj prog w).is (.inl i) (.int i t)=dh:=OR i t
def KU(prog:ä)(w:ü)(x:Str)(t:Tok):(Zj prog w).is (.inr x) (.str x t)=dh:=UJ x t
inductive V where
 |non|bl (b:Bool)|int (i:Int)|str (x:Str)|byt (b:Array UInt8)|flt (b:UInt64)|ref (a:Ç)|ty (n:String)
 deriving DecidableEq
abbrev RelV:V->Ã->Prop
 |.non,u=>u=Value.none
 |.bl b,u=>u=Value.bool b
 |.int i,u=>∃t,u=Value.int i t
 |.str x,u=>∃t,u=Value.str x t
 |.byt b,u=>∃t,u=Value.bytes b t
 |.flt b,u=>∃t,u=Value.float b t
 |.ref a,u=>u=Value.ref a
 |.ty n,u=>u=Value.type n
@[reducible] noncomputable def fc:List V->List Ã->Prop:=Paired RelV
def fc.length{xs:List V}{us:List Ã}(r:fc xs us):xs.length=us.length:=Paired.length r
def fc.get:∀{xs:List V}{us:List Ã}{i:Nat}{x:V},fc xs us->xs[i]?=df x->∃u,us[i]?=df u/\RelV x u
 |_,_,_,_,.nil,e=>by simp at e
 |_,_,0,_,.cons r _,e=>by simp at e;subst e;exact⟨_,rfl,r⟩
 |_,_,i+1,x,.cons _ t,e=>by let⟨u,h1,h2⟩:=fc.get (i:=i) (x:=x) t ⇑e;exact⟨u,⇑h1,h2⟩
def fc.set{x:V}{u:Ã}(r:RelV x u):∀{xs:List V}{us:List Ã}(i:Nat),fc xs us->fc (xs.set i x) (us.set i u)
 |_,_,_,.nil=>.nil
 |_,_,0,.cons _ t=>.cons r t
 |_,_,i+1,.cons q t=>.cons q<|fc.set r i t
def fc.append:∀{xs ys:List V}{us ws:List Ã},fc xs us->fc ys ws->fc (xs++ys) (us++ws)
 |_,_,_,_,.nil,s=>s
 |_,_,_,_,.cons r t,s=>.cons r<|fc.append t s
def fc.take:∀{xs:List V}{us:List Ã}(n:Nat),fc xs us->fc (xs.take n) (us.take n)
 |_,_,0,_=>.nil
 |_,_,_+1,.nil=>.nil
 |_,_,n+1,.cons r t=>.cons r<|fc.take n t
def fc.drop:∀{xs:List V}{us:List Ã}(n:Nat),fc xs us->fc (xs.drop n) (us.drop n)
 |_,_,0,r=>r
 |_,_,_+1,.nil=>.nil
 |_,_,n+1,.cons _ t=>fc.drop n t
abbrev dU:Option V->Option Ã->Prop
 |some v,df u=>RelV v u
 |none,dg=>True
 |_,_=>False
abbrev KV{κ:Type}:List (κ×V)->List (κ×Ã)->Prop:=Paired λ(p:κ×V) (q:κ×Ã)=>p.1=q.1/\RelV p.2 q.2
abbrev kV:Key->V
 |.inl i=>.int i
 |.inr x=>.str x
inductive HO where
 |lst (xs:List V)
 |tup (xs:List V)
 |dK (kvs:List<|Key×V)|dT (kvs:List<|List Key×V)
 |set (S:Int->Bool) (n:Nat)
 |ins (C dx:Ç) (fs:List<|Str×V)
 |own (x:Ç)
 |xd (fs:List<|Str×V)
 |met (f x:Ç)
 |rng (lo hi:Int)
 |frz (o:Obj) (u:HO)
 |tbl (ps:Array Ã)
 |ext (φ:ù->Prop)
noncomputable abbrev Hp:=Ç->Option HO
abbrev upd(H:Hp)(a:Ç)(o:HO):Hp:=λb=>if b=a then df o else H b
variable {H:Hp} {a:Ç} {o:HO}
def dm:upd H a o a=df o:=by unfold upd;rw[fm rfl]
variable {b:Ç}
def dj(h:b≠a):upd H a o b=H b:=by unfold upd;rw[fo h]
variable {u:HO}
def dq:upd (upd H a o) a u=upd H a u:=by funext b;unfold upd;split<;>rfl
def IU(h:H a=df o)(h':H b=df u)(d:o≠u):a≠b:=by intro e;subst e;rw[h]at h';exact d (ë h')
def Zo(h:H a=df o)(h':H b=dg):a≠b:=by intro e;subst e;rw[h]at h';cases h'
section
variable (P:ä) (w:ü)
abbrev dC(H:Hp)(h:ù)(a:Ç):HO->Prop
 |.lst xs=>xs.length<=Ø/\∃(ð:List Ã) (n:Nat),fc xs ð/\h.get? a=df {cls:=.type "list",data:=.seq ð.toArray n}
 |.tup xs=>xs.length<=Ø/\∃ð:List Ã,fc xs ð/\Ϣ h a ð.toArray
 |.dK kvs=>kvs.length<=Ø/\(a==Ń)=di/\∃vs,KV kvs vs/\h.DictOf (Zj P w) a vs
 |.dT kvs=>kvs.length<=Ø/\(a==Ń)=di/\∃xs:List<|List Key×Ç×Ã,
   Paired (λ(p:List Key×V) (q:List Key×Ç×Ã)=>p.1=q.1/\H q.2.1=df (.tup<|p.1.map kV)/\RelV p.2 q.2.2) kvs xs/\
   ∃o es ep,h.get? a=df o/\o.ExactDict/\o.data=.dict es ep/\es.toList=xs.map (entryOfKey<|ϑ<|Zj P w)/\(xs.map (·.1)).Nodup
 |.set S n=>h.SetOf (intKind P w) a S n
 |.ins C dx fs=>H dx=df (.own a)/\fs.length<=1000/\dx≠a/\h.get? a=df (PySem.W.instObj C dx)/\
   ∃mA,h.Ns1 dx mA/\(∀f,dU (fs.lookup f)<|mA f)/\PySem.Within mA (fs.map (·.1))
 |.own _=>∃o,h.get? a=df o
 |.xd fs=>∃mA,h.Ns1 a mA/\∀f,dU (fs.lookup f) (mA f)
 |.rng lo hi=>∃t u v,h.get? a=df {cls:=.type "range",data:=.fields #[.int lo t,.int hi u,.int 1 v]}
 |.frz o u=>h.get? a=df o/\dC H h a u
 |.tbl ps=>h.get? a=df {cls:=.none,data:=.fields ps}
 |.met f x=>h.get? a=df (PySem.W.methodObj (.ref f)<|.ref x)
 |.ext φ=>φ h/\(∃o,h.get? a=df o)/\∀h1 h2:ù,φ h1->(∀o,h1.get? a=df o->h2.get? a=df o)->φ h2
abbrev HOk(H:Hp)(h:ù):Prop:=∀a o,H a=df o->dC P w H h a o
end
section
variable {P:ä}{w:ü}{H H':Hp}{h h':ù}{a:Ç}{o:HO}
def dC.lt(x:dC P w H h a o):a<h.objs.size:=by
 cases o with
 |lst xs=>let⟨_,_,_,_,e⟩:=x;exact Ô e
 |tup xs=>let⟨_,_,_,p⟩:=x;exact p.lt
 |dK kvs=>let⟨_,_,_,_,o,_,_,e,_⟩:=x;exact Ô e
 |dT kvs=>let⟨_,_,_,_,o,_,_,e,_⟩:=x;exact Ô e
 |set S n=>let⟨o,_,_,_,e,_⟩:=x;exact Ô e
 |ins C dx fs=>let⟨_,_,_,e,_⟩:=x;exact Ô e
 |own y=>let⟨_,e⟩:=x;exact Ô e
 |xd fs=>let⟨_,⟨_,_,_,e,_⟩,_⟩:=x;exact Ô e
 |rng lo hi=>let⟨_,_,_,e⟩:=x;exact Ô e
 |frz ob u=>let⟨e,_⟩:=x;exact Ô e
 |tbl ps=>exact Ô (show h.get? a=df _ from x)
 |met f y=>exact Ô (show h.get? a=df _ from x)
 |ext φ=>let⟨_,⟨_,e⟩,_⟩:=x;exact Ô e
def Paired.mapP{α β:Type}{F G:α->β->Prop}:∀{l₁:List α}{l₂:List β},Paired F l₁ l₂->(∀a b,F a b->G a b)->Paired G l₁ l₂
 |_,_,.nil,_=>.nil
 |_,_,.cons r t,f=>.cons (f _ _ r)<|Paired.mapP t f
def dC.stay(x:dC P w H h a o)(k:∀b u,(b=a\/H b=df (.own a))->h.get? b=df u->h'.get? b=df u)
  (ho:∀b,H b=df (.own a)->H' b=df (.own a)) (ht:∀b xs,H b=df (.tup xs)->H' b=df (.tup xs)):dC P w H' h' a o:=by
 induction o with
 |lst xs=>let⟨z,ð,n,r,e⟩:=x;exact⟨z,ð,n,r,k _ _ (.inl rfl) e⟩
 |tup xs=>let⟨z,ð,r,ob,e,c⟩:=x;exact⟨z,ð,r,ob,k _ _ (.inl rfl) e,c⟩
 |dK kvs=>let⟨z,y,vs,r,ob,es,ep,e,c⟩:=x;exact⟨z,y,vs,r,ob,es,ep,k _ _ (.inl rfl) e,c⟩
 |dT kvs =>let⟨z,y,xs,r,ob,es,ep,e,c⟩:=x;exact⟨z,y,xs,Paired.mapP r λp q z=>⟨z.1,ht _ _ z.2.1,z.2.2⟩,ob,es,ep,k _ _ (.inl rfl) e,c⟩
 |set S n=>let⟨ob,es,ep,t,e,c⟩:=x;exact⟨ob,es,ep,t,k _ _ (.inl rfl) e,c⟩
 |ins C dx fs =>let⟨d,z,ne,e,mA,⟨od,es,ep,e2,c⟩,r⟩:=x;exact⟨ho _ d,z,ne,k _ _ (.inl rfl) e,mA,⟨od,es,ep,k _ _ (.inr d) e2,c⟩,r⟩
 |own y=>let⟨ob,e⟩:=x;exact⟨ob,k _ _ (.inl rfl) e⟩
 |xd fs=>let⟨mA,⟨od,es,ep,e,c⟩,r⟩:=x;exact⟨mA,⟨od,es,ep,k _ _ (.inl rfl) e,c⟩,r⟩
 |rng lo hi=>let⟨t,u,v,e⟩:=x;exact⟨t,u,v,k _ _ (.inl rfl) e⟩
 |frz ob u ih=>let⟨e,q⟩:=x;exact⟨k _ _ (.inl rfl) e,ih q⟩
 |tbl ps =>have e:h.get? a=df {cls:=.none,data:=.fields ps}:=x;show h'.get? a=df {cls:=.none,data:=.fields ps};exact k a _ (.inl rfl) e
 |met f y =>have e:h.get? a=df (PySem.W.methodObj (.ref f)<|.ref y):=x;show h'.get? a=df (PySem.W.methodObj (.ref f)<|.ref y);exact k a _ (.inl rfl) e
 |ext φ=>let⟨p,⟨o,e⟩,st⟩:=x;exact⟨st _ _ p λo q=>k _ _ (.inl rfl) q,⟨o,k _ _ (.inl rfl) e⟩,st⟩
def HOk.lt(x:HOk P w H h)(e:H a=df o):a<h.objs.size:=(x a o e).lt
def HOk.fresh(x:HOk P w H h)(e:h.objs.size<=a):H a=dg:=by
 cases q:H a with
 |none=>rfl
 |some u=>exact fA (ß (x.lt q) e)<|ģ _
def HOk.kept(x:HOk P w H h)(k:∀b u,h.get? b=df u->h'.get? b=df u):HOk P w H h':=λa o e =>
 (x a o e).stay (λb u _ q=>k b u q) (λ_ q=>q) λ_ _ q=>q
def HOk.laid(x:HOk P w H h)(k:∀b u,h.get? b=df u->h'.get? b=df u)(hp:h.objs.size<=a)(new:dC P w (upd H a o) h' a o):HOk P w (upd H a o) h':=λb u e=>by
 have hn:=x.fresh hp;by_cases hb:b=a
 .subst hb;rw[dm]at e;cases e;exact new
 .rw[dj hb]at e;exact(x b u e).stay (λc v _ q=>k c v q) (λc q=>by rw[dj<|Zo q hn];exact q) λc xs q=>by rw[dj<|Zo q hn];exact q
end
abbrev Rd(H:Hp)(a:Ç)(u:HO):Prop:=H a=df u\/∃o,H a=df (.frz o u)
variable {h:ù}
def Rd.ok{P:ä}{w:ü}(r:Rd H a u)(x:HOk P w H h):dC P w H h a u:=by
 rcases r with r|⟨o,r⟩
 .exact x a u r
 .obtain⟨_,q⟩:=x a _ r;exact q
abbrev Mut:Option HO->Prop
 |some (.lst _)=>True
 |some (.dK _)=>True
 |some (.dT _)=>True
 |some (.set _ _)=>True
 |some (.ins _ _ _)=>True
 |some (.ext _)=>True
 |_=>False
section
variable {P:ä}{w:ü}{H:Hp}{h h':ù}{x e:Ç}{o':HO}
def HOk.write(ok:HOk P w H h)(mu:Mut<|H x)(he:e=x\/H e=df (.own x))(k:∀b u,b≠e->h.get? b=df u->h'.get? b=df u)(heo:∃u,h'.get? e=df u)
  (new:dC P w (upd H x o') h' x o'):HOk P w (upd H x o') h':=λb u q=>by
 have nown:∀c y,H c=df (.own y)->c≠x:=λc y r z=>by subst z;rw[r]at mu;exact mu
 have ntup:∀c xs,H c=df (.tup xs)->c≠x:=λc xs r z=>by subst z;rw[r]at mu;exact mu
 by_cases hb:b=x
 .subst hb;rw[dm]at q;cases q;exact new
 .rw[dj hb]at q;by_cases ck:b=e
  .have q':H b=df (.own x):=by
    rcases he with z|z
    .exact fA (ck.trans z) hb
    .rw[ck];exact z
   rw[q]at q';cases q';let⟨v,hv⟩:=heo;exact⟨v,by rw[ck];exact hv⟩
  .refine(ok b u q).stay (λc v hc r=>k c v ?_ r) (λc r=>by rw[dj<|nown c b r];exact r) λc xs r=>by rw[dj<|ntup c xs r];exact r
   rcases hc with rfl|hc
   .exact ck
   .rintro rfl;rcases he with z|z
    .exact nown c b hc z
    .rw[hc]at z;cases z;exact hb rfl
end
structure Un(fs ex:List Ç)(H H':Hp)(h h':ù):Prop where
 keep:∀b o,h.get? b=df o->H b=dg->b∉fs->b∉ex->h'.get? b=df o
 slot:∀b o,h.get? b=df o->H b=dg->b∈fs->b∉ex->∃sl,h'.get? b=df {o with slots:=sl}
 free:∀b o,h.get? b=df o->H b=dg->b∉ex->H' b=dg
 there:∀b o,h.get? b=df o->b∉ex->∃o',h'.get? b=df o'
 tups:∀b xs,H b=df (.tup xs)->H' b=df (.tup xs)
 frzs:∀b o u,H b=df (.frz o u)->H' b=df (.frz o u)
 tbls:∀b ps,H b=df (.tbl ps)->∃more,H' b=df (.tbl<|ps++more)
section
variable {fs fs' ex ex':List Ç}{H H1 H2:Hp}{h h1 h2 h':ù}{a x e:Ç}{o:HO}
def Un.any(u:Un fs ex H H1 h h1){ob:Obj}(q:h.get? b=df ob)(n:H b=dg)(hx:b∉ex):∃sl,h1.get? b=df {ob with slots:=sl}:=by
 by_cases hb:b∈fs
 .exact u.slot b ob q n hb hx
 .exact⟨ob.slots,u.keep b ob q n hb hx⟩
def Un.kept(k:∀b u,h.get? b=df u->h'.get? b=df u):Un fs ex H H h h' :=
 ⟨λb ob q _ _ _=>k b ob q,λb ob q _ _ _=>⟨ob.slots,k b ob q⟩,λ_ _ _ n _=>n,λb ob q _=>⟨ob,k b ob q⟩,λ_ _ q=>q,λ_ _ _ q=>q,λ_ ps q=>⟨#[],by rw[q];simp⟩⟩
def Un.refl:Un fs ex H H h h:=Un.kept λ_ _ q=>q
def Un.laid(k:∀b u,h.get? b=df u->h'.get? b=df u)(hp:h.objs.size<=a)(hn:H a=dg):Un fs ex H (upd H a o) h h' where
 keep:=λb u q _ _ _=>k b u q
 slot:=λb u q _ _ _=>⟨u.slots,k b u q⟩
 free:=λb u q n _=>by rw[dj<|è<|ß (Ô q) hp];exact n
 there:=λb u q _=>⟨u,k b u q⟩
 tups:=λb xs q=>by rw[dj<|Zo q hn];exact q
 frzs:=λb u xs q=>by rw[dj<|Zo q hn];exact q
 tbls:=λb ps q=>⟨#[],by rw[dj<|Zo q hn,q];simp⟩
def Un.write(mu:Mut<|H x)(he:e=x\/H e=df (.own x))(k:∀b u,b≠e->h.get? b=df u->h'.get? b=df u)(heo:∃u,h'.get? e=df u):Un fs ex H (upd H x o) h h':=by
 have hx:∀b,H b=dg->b≠x:=λb n z=>by subst z;rw[n]at mu;exact mu
 have hb:∀b,H b=dg->b≠e:=λb n z=>by
  subst z;rcases he with r|r
  .exact hx b n r
  .rw[n]at r;cases r
 have hm:∀b u,H b=df u->¬ Mut (df u)->b≠x:=λb u q nm z=>by subst z;rw[q]at mu;exact nm mu
 refine⟨λb u q n _ _=>k b u (hb b n) q,λb u q n _ _=>⟨u.slots,k b u (hb b n) q⟩,λb u q n _=>by rw[dj<|hx b n];exact n,λb u q _=>?_,
   λb xs q=>by rw[dj<|hm b _ q λz=>z];exact q,λb u xs q=>by rw[dj<|hm b _ q λz=>z];exact q,λb ps q=>⟨#[],by rw[dj<|hm b _ q λz=>z,q];simp⟩⟩
 by_cases ck:b=e
 .subst ck;exact heo
 .exact⟨u,k b u ck q⟩
end
abbrev trk(h:ù)(H:Hp):List Ç:=(List.range h.objs.size).filter λa=>(H a).isSome
abbrev Ke(h:ù)(H:Hp):ù:=PySem.W.hideAll h<|trk h H
def Uf(h:ù)(H:Hp):(Ke h H).objs.size=h.objs.size:=PySem.W.hideAll_size _ _
def Aq{o:Obj}(e:h.get? b=df o)(n:H b=dg):(Ke h H).get? b=df o :=
 PySem.W.hideAll_get _ e λhm=>by have q:(H b).isSome=dh:=(í.mp hm).2;rw[n]at q;simp at q
def Dg{o:Obj}(e:(Ke h H).get? b=df o):h.get? b=df o/\H b=dg:=by
 have e':h.get? b=df o:=PySem.W.of_hideAll (trk h H) e;refine⟨e',?_⟩;cases q:H b with
 |none=>rfl
 |some x =>have hm:b∈trk h H:=í.mpr ⟨Ů.mpr<|Ô e',by simp[q]⟩;have z:(Ke h H).get? b=dg:=PySem.W.hideAll_none (trk h H) hm;rw[z]at e;cases e
abbrev Eo(g h:ù)(L:Ç):List<|Ç×Obj:=(List.range h.objs.size).filterMap λa=>if a=L\/(g.get? a).isSome=dh then dg else(h.get? a).map λo=>(a,o)
abbrev rest(g h:ù)(L d:Ç):List<|Ç×Obj:=(Eo g h L).filter λp=>fB (p.1≠d)
structure Mod(K:Frag)(mg:Str->Option Ã)(base:ù):Prop where
 kin:K.In base
 glob:base.Ns þ mg
 blt:∃mb,base.Ns builtinsNs mb/\∀x:Str,x≠"__name__"->mb x=ń x
 nolimit:base.NoLimit
structure Cx where
 prog:ä
 w:ü
 K:Frag
 mg:Str->Option Ã
 base:ù
 A:ċ
 N:List Str
 s₀:Å
 H₀:Hp
 env:Env
 outer:List Env
 stack:List Env
 ex:List Ç
 fn:Str->Bool
 calm:Bool
 pn:List<|Ç×Obj
 xe:Ã->Å->Prop
abbrev frs(l:List Env):List Ç:=l.filterMap (·.frame)
noncomputable abbrev Cx.fs(X:Cx):List Ç:=frs X.outer
abbrev Vis(sc:Ť)(x:Str):Prop:=sc.names.lookup x=df .local\/sc.names.lookup x=df .cell\/sc.names.lookup x=df .free
abbrev Loc(sc:Ť)(x:Str):Prop:=sc.names.lookup x=df .local\/sc.names.lookup x=df .cell
abbrev Pz(env:Env)(h:ù)(m:Str->Option Ã)(x:Str)(u:Ã):Prop :=
 (env.kindOf x=df .local/\m x=df u)\/((env.kindOf x=df .cell\/env.kindOf x=df .free)/\∃c,env.cells.lookup x=df c/\h.IsCell c (df u))
structure Cx.Ok(X:Cx):Prop where
 mod:Mod X.K X.mg X.base
 kind:X.env.scope.kind=.function
 glob:X.env.globals=þ
 blt:X.env.builtins=builtinsNs
 above:X.s₀.heap.objs.size<=X.env.locals
 inj:∀x y c,X.env.cells.lookup x=df c->X.env.cells.lookup y=df c->x=y
 has:∀x,(X.env.kindOf x=df .cell\/X.env.kindOf x=df .free)->∃c,X.env.cells.lookup x=df c
 cab:∀x c,X.fn x=dh->X.env.cells.lookup x=df c->X.s₀.heap.objs.size<=c
 hd:X.calm=dh->X.A.handled=dg
 frames:X.A.frames=df X.stack
 stk:X.stack=X.outer\/(X.stack=X.env::X.outer/\X.env.frame=df X.env.locals)
 exf:∀b∈X.ex,b≠X.env.locals/\∀x c,X.env.cells.lookup x=df c->c≠b
 bs:∀b o,X.base.get? b=df o->X.s₀.heap.get? b=df o/\X.H₀ b=dg
 bsz:X.base.objs.size<=X.s₀.heap.objs.size
 noex:∀b o,X.base.get? b=df o->b∉X.ex
 exfs:∀b∈X.ex,b∉X.fs
 funs:X.s₀.heap.FunFrames X.base X.outer
 frf:∀b∈X.fs,X.H₀ b=dg
structure Inv(X:Cx)(Â:List<|Ç×Obj)(σ:List<|Option V)(H:Hp)(s:Å):Prop where
 ok:X.Ok
 os:s.os=X.s₀.os
 bare:π s.gens
 base:Un X.fs X.ex X.H₀ H X.s₀.heap s.heap
 loc:∃m,s.heap.Ns X.env.locals m/\∀(i:Nat) (x:Str) (v:V),X.N[i]?=df x->σ[i]?=df (df v)->Vis X.env.scope x->∃u,RelV v u/\Pz X.env s.heap m x u
 cell:∀x c,X.env.cells.lookup x=df c->∃v,s.heap.IsCell c v
 free:H X.env.locals=dg
 freeC:∀x c,X.env.cells.lookup x=df c->H c=dg
 pin:∀p∈X.pn++Â,s.heap.get? p.1=df p.2/\H p.1=dg/\p.1≠X.env.locals/\p.1∉X.fs/\∀v,p.2.data≠.cell v
 hok:HOk X.prog X.w H s.heap
 len:σ.length=X.N.length
section
variable {X:Cx}{Â:List (Ç×Obj)}{σ:List (Option V)}{H H':Hp}{s:Å}{h':ù}
def Cx.Ok.nofr(ok:X.Ok){b:Ç}{o:Obj}(e:X.base.get? b=df o):b∉X.fs:=λhb=>by have:=(ok.funs.mem hb).1;rw[e]at this;cases this
def Inv.bs(I:Inv X Â σ H s):∀b o,X.base.get? b=df o->s.heap.get? b=df o/\H b=dg:=λb o e =>
 ⟨I.base.keep b o (I.ok.bs b o e).1 (I.ok.bs b o e).2 (I.ok.nofr e)<|I.ok.noex b o e,I.base.free b o (I.ok.bs b o e).1 (I.ok.bs b o e).2<|I.ok.noex b o e⟩
def Inv.bk(I:Inv X Â σ H s):∀b o,X.base.get? b=df o->s.heap.get? b=df o:=λb o e=>(I.bs b o e).1
def Inv.mod(I:Inv X Â σ H s):Mod X.K X.mg X.base:=I.ok.mod
def Inv.kIn(I:Inv X Â σ H s):X.K.In s.heap:=I.ok.mod.kin.keeps I.bk
def Inv.lt(I:Inv X Â σ H s):X.env.locals<s.heap.objs.size:=let ⟨_,hn,_⟩:=I.loc;hn.lt
def Inv.sz(I:Inv X Â σ H s):X.s₀.heap.objs.size<=s.heap.objs.size:=Ü I.ok.above (ψ I.lt)
variable {a:Ç}
def Inv.nofs(I:Inv X Â σ H s)(h:s.heap.objs.size<=a):a∉X.fs:=λhb=>by let⟨_,o,ho,_⟩:=I.ok.funs.mem hb;exact fA (ß (Ô ho)<|Ü I.sz h) (ģ _)
def Inv.cne(I:Inv X Â σ H s):∀x c,X.env.cells.lookup x=df c->c≠X.env.locals:=λx c e z=>by let⟨v,o,ho,hd⟩:=I.cell x c e;let⟨m,⟨o',es,ep,bD,hd',_⟩,_⟩:=I.loc;rw[z,bD]at ho;cases ho;rw[hd']at hd;cases hd
def Inv.funs(I:Inv X Â σ H s):s.heap.FunFrames X.base X.outer:=by
 have all:∀(l:List Env),(∀b∈frs l,b∈X.fs)->X.s₀.heap.FunFrames X.base l->s.heap.FunFrames X.base l:=by
  intro l;induction l with
  |nil=>intro _ _;trivial
  |cons env r ih =>intro hs hl;let⟨hk,⟨L,o,hf,hn,ho,hd⟩,hr⟩:=hl;have hL:L∈X.fs:=hs L (by unfold frs;rw[č,hf];exact Ý);let⟨sl,e⟩:=I.base.slot L o ho (I.ok.frf L hL) hL λz=>I.ok.exfs L z hL;exact⟨hk,⟨L,_,hf,hn,e,hd⟩,ih (λb hb=>hs b<|by unfold frs;rw[č,hf];exact Ù _ hb) hr⟩
 exact all X.outer (λ_ hb=>hb) I.ok.funs
def Inv.stack(I:Inv X Â σ H s):s.heap.FunFrames X.base X.stack:=by
 rcases I.ok.stk with e|⟨e,hf⟩
 .rw[e];exact I.funs
 .rw[e];let⟨m,hn,_⟩:=I.loc;refine .cons (by rw[I.ok.kind];decide) hf hn ?_ I.funs;exact Heap.get?_none_of_le<|Ü I.ok.bsz I.ok.above
def Inv.stkSub(I:Inv X Â σ H s):∀b∈frs X.stack,b∈X.env.locals::X.fs:=λb hb=>by
 rcases I.ok.stk with e|⟨e,hf⟩
 .rw[e]at hb;exact Ù _ hb
 .rw[e]at hb;unfold frs at hb;rw[č,hf]at hb;exact hb
def Inv.stkFree(I:Inv X Â σ H s):∀b∈frs X.stack,H b=dg:=λb hb=>by
 rcases Æ.mp (I.stkSub b hb)with e|hb
 .rw[e];exact I.free
 .obtain⟨_,o,ho,_⟩:=I.ok.funs.mem hb;exact I.base.free b o ho (I.ok.frf b hb) λz=>I.ok.exfs b z hb
variable {g':Array GenState} {t':Nat} {d':Drawn} {ch:List Ç}
def Inv.step(I:Inv X Â σ H s)
  (hch:∀b∈ch,(b∈X.ex\/X.s₀.heap.objs.size<=b)/\b≠X.env.locals/\(∀x c,X.env.cells.lookup x=df c->c≠b)/\∀p∈X.pn++Â,p.1≠b)
  (keep:∀b o,b≠X.env.locals->b∉X.fs->b∉ch->s.heap.get? b=df o->H b=dg->h'.get? b=df o)
  (slot:∀b o,b≠X.env.locals->b∈X.fs->b∉ch->s.heap.get? b=df o->H b=dg->∃sl,h'.get? b=df {o with slots:=sl}) (free:∀b o,b∉ch->s.heap.get? b=df o->H b=dg->H' b=dg)
  (there:∀b o,b∉ch->s.heap.get? b=df o->∃o',h'.get? b=df o')
  (tups:∀b xs,H b=df (.tup xs)->H' b=df (.tup xs)) (frzs:∀b o u,H b=df (.frz o u)->H' b=df (.frz o u)) (tbls:∀b ps,H b=df (.tbl ps)->∃more,H' b=df (.tbl<|ps++more))
  (ns:∀m,s.heap.Ns X.env.locals m->h'.Ns X.env.locals m) (hok:HOk X.prog X.w H' h') (hg:π g') :
  Inv X Â σ H' {s with heap:=h',gens:=g',drawn:=d',toks:=t'}:=by
 have neL:∀b o,X.s₀.heap.get? b=df o->b≠X.env.locals:=λb o e=>è<|ß (Ô e) I.ok.above;have neC:∀b o,X.s₀.heap.get? b=df o->b∉X.ex->b∉ch:=λb o e hx hb=>by
  rcases (hch b hb).1 with z|z
  .exact hx z
  .exact fA (ß (Ô e) z)<|ģ _
 have cellK:∀x c,X.env.cells.lookup x=df c->∀v,s.heap.IsCell c v->h'.IsCell c v:=λx c e v ⟨o,ho,hd⟩=>by
  have nch:c∉ch:=λz=>(hch c z).2.2.1 x c e rfl;by_cases hc:c∈X.fs
  .obtain⟨sl,q⟩:=slot c o (I.cne x c e) hc nch ho<|I.freeC x c e;exact⟨_,q,hd⟩
  .exact⟨o,keep c o (I.cne x c e) hc nch ho<|I.freeC x c e,hd⟩
 refine⟨I.ok,I.os,hg,⟨λb o e n hb hx=>?_,λb o e n hb hx=>?_,λb o e n hx=>?_,λb o e hx=>?_,λb xs e=>tups b xs<|I.base.tups b xs e,λb o xs e=>frzs b o xs<|I.base.frzs b o xs e,λb ps e=>?_⟩,?_,λx c e=>?_,?_,λx c e=>?_,λp hp=>?_,hok,I.len⟩
 .exact keep b o (neL b o e) hb (neC b o e hx) (I.base.keep b o e n hb hx)<|I.base.free b o e n hx
 .obtain⟨sl,e1⟩:=I.base.slot b o e n hb hx;let⟨sl',e2⟩:=slot b _ (neL b o e) hb (neC b o e hx) e1<|I.base.free b o e n hx;exact⟨sl',e2⟩
 .obtain⟨o',e1⟩:=I.base.there b o e hx;exact free b o' (neC b o e hx) e1<|I.base.free b o e n hx
 .obtain⟨o',e1⟩:=I.base.there b o e hx;exact there b o' (neC b o e hx) e1
 .obtain⟨m1,e1⟩:=I.base.tbls b ps e;let⟨m2,e2⟩:=tbls b _ e1;exact⟨m1++m2,by rw[e2,Array.append_assoc]⟩
 .obtain⟨m,hn,hl⟩:=I.loc;refine⟨m,ns m hn,λi x v e1 e2 e3=>?_⟩;let⟨u,r,l⟩:=hl i x v e1 e2 e3;refine⟨u,r,?_⟩;rcases l with l|⟨k,c,e,z⟩
  .exact .inl l
  .exact .inr ⟨k,c,e,cellK x c e _ z⟩
 .obtain⟨v,z⟩:=I.cell x c e;exact⟨v,cellK x c e v z⟩
 .obtain⟨m,⟨o,_,_,ho,_⟩,_⟩:=I.loc;exact free _ o (λz=>(hch _ z).2.1 rfl) ho I.free
 .obtain⟨v,o,ho,hd⟩:=I.cell x c e;exact free c o (λz=>(hch c z).2.2.1 x c e rfl) ho<|I.freeC x c e
 .obtain⟨e,n,ne,nf,d⟩:=I.pin p hp;have nch:p.1∉ch:=λz=>(hch p.1 z).2.2.2 p hp rfl;exact⟨keep p.1 p.2 ne nf nch e n,free p.1 p.2 nch e n,ne,nf,d⟩
def Inv.un(I:Inv X Â σ H s)(u:Un X.fs [] H H' s.heap h')(hok:HOk X.prog X.w H' h'):Inv X Â σ H' {s with heap:=h',toks:=t'}:=by
 let⟨m,⟨o,es,ep,ho,r⟩,_⟩:=id I.loc;let⟨sl,hL⟩:=u.any ho I.free (by simp);exact I.step (g':=s.gens) (d':=s.drawn) (ch:=[]) (λ_ z=>nomatch z) (λb o _ hb _ e n=>u.keep b o e n hb<|by simp) (λb o _ hb _ e n=>u.slot b o e n hb<|by simp) (λb o _ e n=>u.free b o e n<|by simp) (λb o _ e=>u.there b o e<|by simp) u.tups u.frzs u.tbls (λm' hm=>by
   let⟨o',es',ep',bD,r'⟩:=hm
   rw[ho]at bD;cases bD
   exact⟨_,es',ep',hL,r'⟩) hok I.bare
def Inv.call(I:Inv X Â σ H s)(u:Un (frs X.stack) ch H H' s.heap h')(hok:HOk X.prog X.w H' h')(hg:π g')
  (hch:∀b∈ch,(b∈X.ex\/X.s₀.heap.objs.size<=b)/\b≠X.env.locals/\(∀x c,X.env.cells.lookup x=df c->c≠b)/\∀p∈X.pn++Â,p.1≠b) :
  Inv X Â σ H' {s with heap:=h',gens:=g',drawn:=d',toks:=t'}:=by
 let⟨m,⟨o,es,ep,ho,r⟩,_⟩:=id I.loc;let⟨sl,hL⟩:=u.any ho I.free λz=>(hch _ z).2.1 rfl;exact I.step (ch:=ch) hch (λb o hL hb hc e n=>u.keep b o e n (λz=>(Æ.mp<|I.stkSub b z).elim hL hb) hc) (λb o _ _ hc e n=>u.any e n hc) (λb o hc e n=>u.free b o e n hc) (λb o hc e=>u.there b o e hc) u.tups u.frzs u.tbls (λm' hm=>by
   let⟨o',es',ep',bD,r'⟩:=hm
   rw[ho]at bD;cases bD
   exact⟨_,es',ep',hL,r'⟩) hok hg
def Inv.turned{it:Ç}(I:Inv X Â σ H s)(k:∀b o,b≠it->s.heap.get? b=df o->h'.get? b=df o)(hn:H it=dg)(hL:it≠X.env.locals)
  (h1:it∈X.ex\/X.s₀.heap.objs.size<=it) (h2:∀x c,X.env.cells.lookup x=df c->c≠it) (h3:∀p∈X.pn++Â,p.1≠it):Inv X Â σ H {s with heap:=h',toks:=t'}:=by
 have nit:∀b u,H b=df u->b≠it:=λb u e z=>by rw[z,hn]at e;cases e
 refine I.step (g':=s.gens) (d':=s.drawn) (ch:=[it]) (λb hb=>?_) (λb o _ _ hc e _=>k b o (λz=>hc<|by simp[z]) e) (λb o _ _ hc e _=>⟨o.slots,k b o (λz=>hc<|by simp[z]) e⟩) (λ_ _ _ _ n=>n)
  (λb o hc e=>⟨o,k b o (λz=>hc<|by simp[z]) e⟩) (λ_ _ e=>e) (λ_ _ _ e=>e) (λb ps e=>⟨#[],by rw[e];simp⟩) (λm hm=>?_) (λb u e=>?_) I.bare
 .have e:b=it:=⇑hb
  subst e;exact⟨h1,hL,h2,h3⟩
 .obtain⟨o,es,ep,ho,r⟩:=hm;exact⟨o,es,ep,k _ o (Ne.symm hL) ho,r⟩
 .refine(I.hok b u e).stay (λc v hc q=>k c v ?_ q) (λ_ q=>q) λ_ _ q=>q;rcases hc with z|z
  .rw[z];exact nit b u e
  .exact nit c _ z
def Inv.tok(I:Inv X Â σ H s)(t:Nat):Inv X Â σ H {s with toks:=t}:=I.un (h':=s.heap) (t':=t) Un.refl I.hok
def Inv.kept(I:Inv X Â σ H s)(k:∀b u,s.heap.get? b=df u->h'.get? b=df u):Inv X Â σ H {s with heap:=h',toks:=t'}:=I.un (Un.kept k) (I.hok.kept k)
variable {o:HO}
def Inv.laid(I:Inv X Â σ H s)(k:∀b u,s.heap.get? b=df u->h'.get? b=df u)(hp:s.heap.objs.size<=a)(new:dC X.prog X.w (upd H a o) h' a o) :
  Inv X Â σ (upd H a o) {s with heap:=h',toks:=t'}:=I.un (Un.laid k hp<|I.hok.fresh hp)<|I.hok.laid k hp new
def Inv.write{x e:Ç}(I:Inv X Â σ H s)(mu:Mut<|H x)(he:e=x\/H e=df (.own x))(k:∀b u,b≠e->s.heap.get? b=df u->h'.get? b=df u)(heo:∃u,h'.get? e=df u)
  (new:dC X.prog X.w (upd H x o) h' x o):Inv X Â σ (upd H x o) {s with heap:=h',toks:=t'}:=I.un (Un.write mu he k heo)<|I.hok.write mu he k heo new
def Inv.pins_of{pins':List (Ç×Obj)}(I:Inv X Â σ H s)(h:∀p∈pins',s.heap.get? p.1=df p.2/\H p.1=dg/\p.1≠X.env.locals/\p.1∉X.fs/\∀v,p.2.data≠.cell v):Inv X pins' σ H s :=
 ⟨I.ok,I.os,I.bare,I.base,I.loc,I.cell,I.free,I.freeC,λp hp=>(æ.mp hp).elim (λz=>I.pin p<|õ _ z)<|h p,I.hok,I.len⟩
variable {i:Nat} {x:Str}
def MG{N:List Str}(hN:N.Nodup){j:Nat}(a:N[i]?=df x)(b:N[j]?=df x):i=j:=by let⟨h1,e1⟩:=Ò.mp a;let⟨h2,e2⟩:=Ò.mp b;exact(List.getElem_inj hN).mp (e1.trans e2.symm)
variable {M:Model} {A:ċ} {u:Ã} {Q:Unit->Å->Prop}
def JR{E:Ã->Å->Prop}{v:V}(I:Inv X Â σ H s)(hN:X.N.Nodup)(hi:X.N[i]?=df x)(hx:Loc X.env.scope x)(r:RelV v u)
  (h:∀s',Inv X Â (σ.set i<|df v) H s'->(∃a,Ũ a s.heap s'.heap/\(a=X.env.locals\/X.env.cells.lookup x=df a))->Q () s') (hf:X.fn x=dh\/X.env.scope.names.lookup x=df .local:=by first|exact .inl rfl|exact .inr rfl|assumption):wpAny M A (storeName X.env x u) Q E s:=by
 let⟨m,hn,hl⟩:=id I.loc;have hcls:(X.env.scope.kind == .class||(X.env.scope.kind == .module&&X.env.locals != X.env.globals))=di:=by rw[I.ok.kind];rfl
 have hiσ:i<σ.length:=by rw[I.len];exact(Ò.mp hi).1
 have cne:=I.cne;have bS:∀{a:Ç}{h':ù},(∃o,s.heap.get? a=df o/\H a=dg)->Ũ a s.heap h'->HOk X.prog X.w H h':=λ{a h'} ha hs b ob e=>by
  let⟨_,_,hfree⟩:=ha;refine(I.hok b ob e).stay (λc w' hc q=>(hs.2 c ?_).trans q) (λ_ q=>q) λ_ _ q=>q;rintro rfl;rcases hc with rfl|hc
  .rw[hfree]at e;cases e
  .rw[hfree]at hc;cases hc
 rcases hx with hk|hk
 .refine wpAny_storeName_local hk hn (λh' hn' hs=>?_) hcls;let⟨oL,_,_,hoL,_⟩:=id hn;refine h _ ⟨I.ok,I.os,I.bare,⟨λb o e n hb hx=>?_,λb o e n hb hx=>?_,I.base.free,λb o e hx=>?_,I.base.tups,I.base.frzs,I.base.tbls⟩,⟨_,hn',λj y v' e1 e2 e3=>?_⟩,λy c e=>?_,I.free,I.freeC,λp hp=>?_,bS ⟨oL,hoL,I.free⟩ hs,by simpa using I.len⟩ ⟨_,hs,.inl rfl⟩
  .exact(hs.2 b<|è<|ß (Ô e) I.ok.above).trans<|I.base.keep b o e n hb hx
  .obtain⟨sl,e1⟩:=I.base.slot b o e n hb hx;exact⟨sl,(hs.2 b<|è<|ß (Ô e) I.ok.above).trans e1⟩
  .obtain⟨o',e1⟩:=I.base.there b o e hx;exact⟨o',(hs.2 b<|è<|ß (Ô e) I.ok.above).trans e1⟩
  .by_cases hj:j=i
   .subst hj;rw[hi]at e1;cases e1;rw[ρ hiσ]at e2;cases e2;exact⟨u,r,.inl ⟨hk,by simp⟩⟩
   .rw[Ţ<|Ne.symm hj]at e2;let⟨u',r',q⟩:=hl j y v' e1 e2 e3;refine⟨u',r',?_⟩;rcases q with⟨k,e⟩|⟨k,c,e,z⟩
    .refine .inl ⟨k,?_⟩;have:y≠x:=λe=>hj<|MG hN e1<|e▸hi;simp[this,e]
    .exact .inr ⟨k,c,e,z.sameBut hs<|cne y c e⟩
  .obtain⟨w',z⟩:=I.cell y c e;exact⟨w',z.sameBut hs<|cne y c e⟩
  .obtain⟨e,n,ne,nf,d⟩:=I.pin p hp;exact⟨(hs.2 p.1 ne).trans e,n,ne,nf,d⟩
 .have hfn:X.fn x=dh:=by
   rcases hf with z|z
   .exact z
   .rw[z]at hk;cases hk
  let⟨c,hc⟩:=I.ok.has x<|.inl hk;let⟨w',z⟩:=I.cell x c hc;refine wpAny_storeName_cell I.ok.kind hk hc z λh' bo hs=>?_;let⟨oc,hoc,hocd⟩:=id z;refine h {s with heap:=h'} ⟨I.ok,I.os,I.bare,⟨λb o e n hb hx=>?_,λb o e n hb hx=>?_,I.base.free,λb o e hx=>?_,I.base.tups,I.base.frzs,I.base.tbls⟩,⟨m,hn.sameBut hs<|Ne.symm<|cne x c hc,λj y v' e1 e2 e3=>?_⟩,λy c' e=>?_,I.free,I.freeC,λp hp=>?_,bS ⟨oc,hoc,I.freeC x c hc⟩ hs,by simpa using I.len⟩ ⟨c,hs,.inr hc⟩
  .exact(hs.2 b<|è<|ß (Ô e)<|I.ok.cab x c hfn hc).trans<|I.base.keep b o e n hb hx
  .obtain⟨sl,e1⟩:=I.base.slot b o e n hb hx;exact⟨sl,(hs.2 b<|è<|ß (Ô e)<|I.ok.cab x c hfn hc).trans e1⟩
  .obtain⟨o',e1⟩:=I.base.there b o e hx;exact⟨o',(hs.2 b<|è<|ß (Ô e)<|I.ok.cab x c hfn hc).trans e1⟩
  .by_cases hj:j=i
   .subst hj;rw[hi]at e1;cases e1;rw[ρ hiσ]at e2;cases e2;exact⟨u,r,.inr ⟨.inl hk,c,hc,bo⟩⟩
   .rw[Ţ<|Ne.symm hj]at e2;let⟨u',r',q⟩:=hl j y v' e1 e2 e3;refine⟨u',r',?_⟩;rcases q with q|⟨k,c',e,z'⟩
    .exact .inl q
    .refine .inr ⟨k,c',e,z'.sameBut hs ?_⟩;rintro rfl;exact hj<|MG hN e1<|I.ok.inj _ _ _ e hc▸hi
  .by_cases Ž:c'=c
   .subst Ž;exact⟨_,bo⟩
   .obtain⟨w2,z2⟩:=I.cell y c' e;exact⟨w2,z2.sameBut hs Ž⟩
  .obtain⟨e,n,ne,nf,d⟩:=I.pin p hp;refine⟨(hs.2 p.1 ?_).trans e,n,ne,nf,d⟩;intro q;rw[q,hoc]at e;have q':oc=p.2:=ë e;exact d w' (by rw[<-q'];exact hocd)
def Aa{E:Ã->Å->Prop}{v:V}(I:Inv X Â σ H s)(hN:X.N.Nodup)(hi:X.N[i]?=df x)(hx:Loc X.env.scope x)(r:RelV v u)
  (h:∀s',Inv X Â (σ.set i<|df v) H s'->Q () s') (hf:X.fn x=dh\/X.env.scope.names.lookup x=df .local:=by first|exact .inl rfl|exact .inr rfl|assumption):wpAny M A (storeName X.env x u) Q E s :=
 JR I hN hi hx r (λs' I' _=>h s' I') hf
def Inv.call'{s':Å}(I:Inv X Â σ H s)(ho:s'.os=s.os)(u:Un (frs X.stack) ch H H' s.heap s'.heap)(hok:HOk X.prog X.w H' s'.heap)(hg:π s'.gens)
  (hch:∀b∈ch,(b∈X.ex\/X.s₀.heap.objs.size<=b)/\b≠X.env.locals/\(∀x c,X.env.cells.lookup x=df c->c≠b)/\∀p∈X.pn++Â,p.1≠b):Inv X Â σ H' s':=by
 let⟨h',g',d',t',o'⟩:=s';have e:o'=s.os:=ho;subst e;exact I.call (g':=g') (t':=t') (d':=d') u hok hg hch
end
noncomputable abbrev XK:=Ã->Option Ç->Hp->Prop
noncomputable abbrev St:=List<|Option V
noncomputable abbrev VK:=V->Hp->Prop
noncomputable abbrev TE:=St->Hp->VK->Prop
noncomputable abbrev TT:=St->Hp->(Bool->Hp->Prop)->Prop
noncomputable abbrev TA:=St->Hp->(List V->Hp->Prop)->Prop
structure Ends where
 nx:St->Hp->Prop
 rt:VK
 bk:St->Hp->Prop:=λ_ _=>False
 ct:St->Hp->Prop:=λ_ _=>False
noncomputable abbrev TS:=Ends->St->Hp->Prop
inductive EP (X:Cx) (Â:List<|Ç×Obj) (σ:St) (Q:VK) (u:Ã) (s':Å):Prop
 |mk (v:V) (H':Hp) (i:Inv X Â σ H' s') (r:RelV v u) (q:Q v H')
abbrev TP(X:Cx)(Â:List<|Ç×Obj)(σ:St)(Q:Bool->Hp->Prop)(b:Bool)(s':Å):Prop:=∃H',Inv X Â σ H' s'/\Q b H'
inductive AP (X:Cx) (Â:List<|Ç×Obj) (σ:St) (Q:List V->Hp->Prop) (us:List Ã) (s':Å):Prop
 |mk (vs:List V) (H':Hp) (i:Inv X Â σ H' s') (r:fc vs us) (q:Q vs H')
abbrev SP(X:Cx)(Â:List<|Ç×Obj)(D:Ends)(f:Flow)(s':Å):Prop :=
 match f with
 |.next=>∃Ŏ H',Inv X Â Ŏ H' s'/\D.nx Ŏ H'
 |.brk=>∃Ŏ H',Inv X Â Ŏ H' s'/\D.bk Ŏ H'
 |.cont=>∃Ŏ H',Inv X Â Ŏ H' s'/\D.ct Ŏ H'
 |.ret u=>∃v Ŏ H',Inv X Â Ŏ H' s'/\RelV v u/\D.rt v H'
abbrev PE(X:Cx)(e:Expr)(t:TE):Prop :=
 ∀(Â:List<|Ç×Obj) (s:Å) (σ:St) (H:Hp) (Q:VK),Inv X Â σ H s->t σ H Q->wpAny (Û X.prog X.w) X.A (eval e X.env) (EP X Â σ Q) X.xe s
abbrev PT(X:Cx)(e:Expr)(t:TT):Prop :=
 ∀(Â:List<|Ç×Obj) (s:Å) (σ:St) (H:Hp) (Q:Bool->Hp->Prop),Inv X Â σ H s->t σ H Q->wpAny (Û X.prog X.w) X.A (bq e X.env<|eval e X.env) (TP X Â σ Q) X.xe s
abbrev PW(X:Cx)(e:Expr)(t:TT):Prop :=
 ∀(ϱ:Sem Ã) (Â:List<|Ç×Obj) (s:Å) (σ:St) (H:Hp) (Q:Bool->Hp->Prop),Inv X Â σ H s->t σ H Q->wpAny (Û X.prog X.w) X.A (bq e X.env ϱ) (TP X Â σ Q) X.xe s
def PW.pt{X:Cx}{e:Expr}{t:TT}(h:PW X e t):PT X e t:=h _
abbrev PA(X:Cx)(es:List Expr)(t:TA):Prop :=
 ∀(ç:Pos) (Â:List<|Ç×Obj) (s:Å) (σ:St) (H:Hp) (Q:List V->Hp->Prop),Inv X Â σ H s->t σ H Q->wpAny (Û X.prog X.w) X.A (spliced<|Ĕ ç<|Ñ es X.env) (AP X Â σ Q) X.xe s
abbrev PS(X:Cx)(st:ġ)(t:TS):Prop :=
 ∀(Â:List<|Ç×Obj) (s:Å) (σ:St) (H:Hp) (D:Ends),Inv X Â σ H s->t D σ H->wpAny (Û X.prog X.w) X.A (exec st X.env) (SP X Â D) X.xe s
abbrev PSs(X:Cx)(st:List ġ)(t:TS):Prop :=
 ∀(Â:List<|Ç×Obj) (s:Å) (σ:St) (H:Hp) (D:Ends),Inv X Â σ H s->t D σ H->wpAny (Û X.prog X.w) X.A (execs st X.env) (SP X Â D) X.xe s
def thn{α:Type}{t:Sem α}{Q Q':α->Å->Prop}{M:Model}{A:ċ}{E:Ã->Å->Prop}{s:Å}(h:wpAny M A t Q E s)(hQ:∀a s,Q a s->Q' a s):wpAny M A t Q' E s:=ĺ h hQ λ_ _ x=>x
section
variable {X:Cx}
variable {Â:List (Ç×Obj)} {s:Å} {σ:St} {H:Hp}
def bin{a b:Expr}{ta tb:TE}(ha:PE X a ta)(hb:PE X b tb){R:V->V->Hp->Prop}(I:Inv X Â σ H s)(h:ta σ H λx H1=>tb σ H1 λy H2=>R x y H2)
  {α:Type}{Q:α->Å->Prop}{f:Ã->Ã->Sem α}
  (hf:∀v u s2 x y H2,Inv X Â σ H2 s2->RelV x v->RelV y u->R x y H2->wpAny (Û X.prog X.w) X.A (f v u) Q X.xe s2) :
  wpAny (Û X.prog X.w) X.A (eval a X.env) (λv Ĝ=>wpAny (Û X.prog X.w) X.A (eval b X.env) (λu ba=>wpAny (Û X.prog X.w) X.A (f v u) Q X.xe ba) X.xe Ĝ) X.xe s:=by
 refine thn (ha Â s σ H _ I h) λv s1 ⟨x,H1,I1,r1,q1⟩=>?_;refine thn (hb Â s1 σ H1 _ I1 q1) λu s2 ⟨y,H2,I2,r2,q2⟩=>?_;exact hf v u s2 x y H2 I2 r1 r2 q2
abbrev L6(i:Nat):TE:=λσ H Q=>∃v,σ[i]?=df (df v)/\Q v H
abbrev tC(v:V):TE:=λ_ H Q=>Q v H
variable {x:Str} {ç:Pos}
def FK{i:Nat}(hN:X.N[i]?=df x)(hv:Vis X.env.scope x)(hd:(x==("__debug__" : Str))=di:=by decide)(ax:(x==("__classdict__" : Str))=di:=by decide):PE X (.Name x ç)<|L6 i:=by
 k_upd;let⟨v,e,h⟩:=h;let⟨m,hn,hl⟩:=I.loc;let⟨u,r,l⟩:=hl i x v hN e hv;have fin:EP X Â σ Q u s:=⟨v,H,I,r,h⟩
 rcases l with⟨hk,hm⟩|⟨hk,c,hc,hcell⟩
 .exact wpAny_Name (wpAny_loadName_local I.ok.kind hk hn hm fin) hd
 .rcases hk with hk|hk
  .exact wpAny_Name (wpAny_loadName_cell I.ok.kind hk hc hcell fin) hd
  .exact wpAny_Name (wpAny_loadName_free I.ok.kind hk hc hcell fin ax) hd
def B6{i j ç}:PE X (.Constant (.int i) j ç)<|tC<|.int i:=λ_ _ _ H _ I h=>wpAny_Constant_int ⟨.int i,H,I.tok _,⟨_,rfl⟩,h⟩
def Ie{b j ç}:PE X (.Constant (.bool b) j ç)<|tC<|.bl b:=λ_ _ _ H _ I h=>Constant_bool ⟨.bl b,H,I,rfl,h⟩
def Cc{j ç}:PE X (.Constant .none j ç)<|tC .non:=λ_ _ _ H _ I h=>bW ⟨.non,H,I,rfl,h⟩
def Gr{x j ç}:PE X (.Constant (.str x) j ç)<|tC<|.str x:=λ_ _ _ H _ I h=>Calls.Constant_str ⟨.str x,H,I.tok _,⟨_,rfl⟩,h⟩
abbrev Gl(X:Cx)(x:Str):Prop:=X.env.kindOf x=df .globalImplicit
variable {u:Ã} {Q:Ã->Å->Prop}
def Wm{E:Ã->Å->Prop}(I:Inv X Â σ H s)(hg:Gl X x)(hm:X.mg x=df u)(h:Q u s)
  (hd:(x==("__debug__" : Str))=di:=by decide):wpAny (Û X.prog X.w) X.A (eval (.Name x ç) X.env) Q E s :=
 Calls.Name_function_global I.ok.kind hg (Calls.loadGlobal_global (by rw[I.ok.glob];exact I.mod.glob.keeps I.bk) hm h) hd
def YF{E:Ã->Å->Prop}(I:Inv X Â σ H s)(hg:Gl X x)(hm:X.mg x=dg)(hv:ń x=df u)(h:Q u s)
  (hn:x≠"__name__":=by decide) (hd:(x==("__debug__" : Str))=di:=by decide):wpAny (Û X.prog X.w) X.A (eval (.Name x ç) X.env) Q E s:=by
 let⟨mb,h1,h2⟩:=I.mod.blt;exact Calls.Name_function_global I.ok.kind hg (Calls.loadGlobal_builtin (by rw[I.ok.glob];exact I.mod.glob.keeps I.bk) hm (by rw[I.ok.blt];exact h1.keeps I.bk) ((h2 x hn).trans hv) h) hd
def D8{v:V}(hg:Gl X x)(hm:X.mg x=df u)(r:RelV v u)(hd:(x==("__debug__" : Str))=di:=by decide):PE X (.Name x ç) (tC v) :=
 λ_ _ _ H _ I h=>Wm I hg hm ⟨v,H,I,r,h⟩ hd
def DH{v:V}(hg:Gl X x)(hm:X.mg x=dg)(hv:ń x=df u)(r:RelV v u)(hn:x≠"__name__":=by decide)(hd:(x==("__debug__" : Str))=di:=by decide):PE X (.Name x ç) (tC v) :=
 λ_ _ _ H _ I h=>YF I hg hm hv ⟨v,H,I,r,h⟩ hn hd
variable {a b:Expr}{ta tb:TE}{ç:Pos}
abbrev PC(X:Cx)(op:aM)(a b:Expr)(t:TE):Prop :=
 ∀(Â:List<|Ç×Obj) (s:Å) (σ:St) (H:Hp) (Q:VK),Inv X Â σ H s->t σ H Q->
  wpAny (Û X.prog X.w) X.A (eval a X.env) (λv Ĝ=>wpAny (Û X.prog X.w) X.A (eval b X.env) (λu ba=>wpAny (Û X.prog X.w) X.A (ê op v u) (EP X Â σ Q) X.xe ba) X.xe Ĝ) X.xe s
variable {op:aM}
def ML(b:Expr)(h:op≠.In)(h2:op≠.NotIn):ĩ op b=di:=by
 have e1:(op==CmpOp.In)=di:=by cases op<;>first|rfl|exact fA rfl h
 have e2:(op==CmpOp.NotIn)=di:=by cases op<;>first|rfl|exact fA rfl h2
 cases b<;>simp[ĩ,e1,e2]
abbrev Pr(ta:TE):TE:=λσ H Q=>ta σ H λx H1=>Q (.bl<|fB (x=.non)) H1
abbrev LG(ta:TE):TE:=λσ H Q=>ta σ H λx H1=>Q (.bl (!fB (x=.non))) H1
def RelV.none_iff{x:V}{v:Ã}(r:RelV x v):(v==Value.none)=fB (x=.non):=by
 cases x with
 |non=>cases r;rfl
 |bl _=>cases r;rfl
 |int _=>let⟨t,rfl⟩:=r;rfl
 |str _=>let⟨t,rfl⟩:=r;rfl
 |byt _=>let⟨t,rfl⟩:=r;rfl
 |flt _=>let⟨t,rfl⟩:=r;rfl
 |ref _=>cases r;rfl
 |ty _=>cases r;rfl
def U9{j aH}(ha:PE X a ta):PC X .Is a (.Constant .none j aH)<|Pr ta:=by k_upd;refine thn (ha Â s σ H _ I h) λv s1 ⟨x,H1,I1,r1,q1⟩=>?_;exact bW (is_none_gen ⟨.bl _,H1,I1,by rw[r1.none_iff];rfl,q1⟩)
def Oq{j aH}(ha:PE X a ta):PC X .IsNot a (.Constant .none j aH)<|LG ta:=by k_upd;refine thn (ha Â s σ H _ I h) λv s1 ⟨x,H1,I1,r1,q1⟩=>?_;exact bW (isnot_none_gen ⟨.bl _,H1,I1,by rw[r1.none_iff];rfl,q1⟩)
abbrev tB(t:TE):TT:=λσ H Q=>t σ H λx H1=>∃c,x=.bl c/\Q c H1
def AC{t:TE}(h:PC X op a b t)(h1:ĩ op b=di:=by first|exact ML _ (by decide) (by decide)|rfl):PE X (.Compare a [op] [b] ç) t:=λÂ s σ H Q I hw=>wpAny_Compare1 (h Â s σ H Q I hw) h1
def B7{t:TE}(h:PC X op a b t)(h1:ĩ op b=di:=by first|exact ML _ (by decide) (by decide)|rfl):PT X (.Compare a [op] [b] ç)<|tB t:=by intro Â s σ H Q I hw;refine wpAny_isTrue_Compare1 (thn (h Â s σ H _ I hw) λv s1 h1=>thn h1 λu s2 h2=>thn h2 λc s3 ⟨x,H1,I1,r1,q1⟩=>?_) h1;let⟨d,rfl,q⟩:=q1;cases r1;exact ď ⟨H1,I1,q⟩
variable {tA tB':TT}{rest:List Expr}
abbrev Pp(t u:TT):TT:=λσ H Q=>t σ H λc H1=>if c=dh then u σ H1 Q else Q di H1
abbrev tOr(t u:TT):TT:=λσ H Q=>t σ H λc H1=>if c=dh then Q dh H1 else u σ H1 Q
abbrev PP(t:TT):TT:=λσ H Q=>t σ H λc H1=>Q (!c) H1
def Ev(ha:PT X a tA):PW X (.BoolOp .And [a] ç) tA:=by
 intro wh Â s σ H Q I h;refine isTrue_and<|thn (ha Â s σ H Q I h) λc s1 e=>?_;cases c with
 |true=>exact isTrue_and_nil e
 |false=>exact e
def FZ(ha:PT X a tA):PW X (.BoolOp .Or [a] ç) tA:=by
 intro wh Â s σ H Q I h;refine isTrue_or<|thn (ha Â s σ H Q I h) λc s1 e=>?_;cases c with
 |false=>exact isTrue_or_nil e
 |true=>exact e
def F3(ha:PT X a tA)(hb:PW X (.BoolOp .And (b::rest) ç) tB'):PW X (.BoolOp .And (a::b::rest) ç)<|Pp tA tB':=by
 intro wh Â s σ H Q I h;refine isTrue_and<|thn (ha Â s σ H _ I h) λc s1 ⟨H1,I1,q1⟩=>?_;cases c with
 |true=>exact hb wh Â s1 σ H1 Q I1 q1
 |false=>exact⟨H1,I1,q1⟩
def HL(ha:PT X a tA)(hb:PW X (.BoolOp .Or (b::rest) ç) tB'):PW X (.BoolOp .Or (a::b::rest) ç)<|tOr tA tB':=by
 intro wh Â s σ H Q I h;refine isTrue_or<|thn (ha Â s σ H _ I h) λc s1 ⟨H1,I1,q1⟩=>?_;cases c with
 |true=>exact⟨H1,I1,q1⟩
 |false=>exact hb wh Â s1 σ H1 Q I1 q1
def Hg(ha:PT X a tA):PT X (.UnaryOp .Not a ç)<|PP tA:=by k_upd;exact isTrue_not (ha Â s σ H (λc H1=>Q (!c) H1) I h)
abbrev HG(ta tb:TE):TE:=λσ H Q=>ta σ H λx H1=>∃c,x=.bl c/\if c=dh then tb σ H1 Q else Q (.bl di) H1
abbrev LQ(ta tb:TE):TE:=λσ H Q=>ta σ H λx H1=>∃c,x=.bl c/\if c=dh then Q (.bl dh) H1 else tb σ H1 Q
abbrev HA(ta:TE):TE:=λσ H Q=>ta σ H λx H1=>∃c,x=.bl c/\Q (.bl (!c)) H1
def Ag{op}{t:TE}(h:PE X a t):PE X (.BoolOp op [a] ç) t:=λÂ s σ H Q I hw=>BoolOp_one (h Â s σ H Q I hw)
def F4(ha:PE X a ta)(hb:PE X (.BoolOp .And (b::rest) ç) tb):PE X (.BoolOp .And (a::b::rest) ç)<|HG ta tb:=by
 k_upd;refine BoolOp_and<|thn (ha Â s σ H _ I h) λv s1 ⟨x,H1,I1,r1,q1⟩=>?_;let⟨c,rfl,q1⟩:=q1;cases r1;refine ď ?_;cases c with
 |true=>exact hb Â s1 σ H1 Q I1 q1
 |false=>exact⟨.bl di,H1,I1,rfl,q1⟩
def Lz(ha:PE X a ta)(hb:PE X (.BoolOp .Or (b::rest) ç) tb):PE X (.BoolOp .Or (a::b::rest) ç)<|LQ ta tb:=by
 k_upd;refine BoolOp_or<|thn (ha Â s σ H _ I h) λv s1 ⟨x,H1,I1,r1,q1⟩=>?_;let⟨c,rfl,q1⟩:=q1;cases r1;refine ď ?_;cases c with
 |false=>exact hb Â s1 σ H1 Q I1 q1
 |true=>exact⟨.bl dh,H1,I1,rfl,q1⟩
def G9(ha:PE X a ta):PE X (.UnaryOp .Not a ç)<|HA ta:=by k_upd;refine UnaryOp_<|thn (ha Â s σ H _ I h) λv s1 ⟨x,H1,I1,r1,q1⟩=>?_;let⟨c,rfl,q1⟩:=q1;cases r1;exact not_of (ď ⟨.bl (!c),H1,I1,rfl,q1⟩)
abbrev tIf(t:TT)(ta tb:TE):TE:=λσ H Q=>t σ H λc H1=>if c=dh then ta σ H1 Q else tb σ H1 Q
def Bs{c:Expr}(hc:PT X c tA)(ha:PE X a ta)(hb:PE X b tb):PE X (.IfExp c a b ç)<|tIf tA ta tb:=by
 k_upd;refine wpAny_IfExp<|thn (hc Â s σ H _ I h) λd s1 ⟨H1,I1,q1⟩=>?_;cases d with
 |true=>exact ha Â s1 σ H1 Q I1 q1
 |false=>exact hb Â s1 σ H1 Q I1 q1
end
abbrev eY(K:Frag)(H:Hp)(a:Ç)(xs:List V):Prop :=
 Rd H a (.lst xs)\/
  ∃(o:Obj) (ð:Array Ã) (n:Nat),K.lookup a=df o/\o.cls=.type "list"/\o.dict=dg/\o.data=.seq ð n/\ð.size<=Ø/\fc xs ð.toList
abbrev eZ(K:Frag)(H:Hp)(a:Ç)(xs:List V):Prop :=
 Rd H a (.tup xs)\/
  ∃(o:Obj) (ð:Array Ã) (n:Nat),K.lookup a=df o/\o.cls=.type "tuple"/\o.data=.seq ð n/\ð.size<=Ø/\fc xs ð.toList
abbrev absV:Ã->Option V
 |.none=>df .non
 |.bool b=>df<|.bl b
 |.int i _=>df<|.int i
 |.str x _=>df<|.str x
 |.bytes b _=>df<|.byt b
 |.float b _=>df<|.flt b
 |.ref a=>df<|.ref a
 |.type n=>df<|.ty n
 |_=>dg
variable {x:V} {u:Ã}
def RelV.abs(r:RelV x u):absV u=df x:=by
 cases x with
 |non=>cases r;rfl
 |bl _=>cases r;rfl
 |int _=>let⟨t,rfl⟩:=r;rfl
 |str _=>let⟨t,rfl⟩:=r;rfl
 |byt _=>let⟨t,rfl⟩:=r;rfl
 |flt _=>let⟨t,rfl⟩:=r;rfl
 |ref _=>cases r;rfl
 |ty _=>cases r;rfl
def RelV.inj{y:V}(r:RelV x u)(q:RelV y u):x=y:=ë (r.abs.symm.trans q.abs)
def fc.inj:∀{xs ys:List V}{us:List Ã},fc xs us->fc ys us->xs=ys
 |_,_,_,.nil,.nil=>rfl
 |_,_,_,.cons r t,.cons r' t'=>by rw[r.inj r',fc.inj t t']
section
variable {X:Cx}{Â:List (Ç×Obj)}{σ:St}{H:Hp}{s:Å}{a:Ç}{xs ys:List V}
def eY.of{K:Frag}(h:H a=df (.lst xs)):eY K H a xs:=.inl (.inl h)
def eZ.of{K:Frag}(h:H a=df (.tup xs)):eZ K H a xs:=.inl (.inl h)
def Inv.list(I:Inv X Â σ H s)(h:eY X.K H a xs):∃ð:List Ã,fc xs ð/\PlainL s.heap a ð.toArray/\xs.length<=Ø:=by
 rcases h with h|⟨o,ð,n,hk,hc,hd,hs,hz,r⟩
 .obtain⟨z,ð,n,r,e⟩:=h.ok I.hok;exact⟨ð,r,⟨_,n,e,rfl,rfl,rfl⟩,z⟩
 .refine⟨ð.toList,r,⟨o,n,I.kIn a o hk,hc,hd,⇑hs⟩,?_⟩;have e:=r.length;simp![ö]at e;lia
def Inv.tuple(I:Inv X Â σ H s)(h:eZ X.K H a xs):∃ð:List Ã,fc xs ð/\Ϣ s.heap a ð.toArray/\xs.length<=Ø:=by
 rcases h with h|⟨o,ð,n,hk,hc,hs,hz,r⟩
 .obtain⟨z,ð,r,p⟩:=h.ok I.hok;exact⟨ð,r,p,z⟩
 .refine⟨ð.toList,r,⟨o,I.kIn a o hk,hc,n,⇑hs⟩,?_⟩;have e:=r.length;simp![ö]at e;lia
def Inv.list_inj(I:Inv X Â σ H s)(h:eY X.K H a xs)(h':eY X.K H a ys):xs=ys:=by
 let⟨ð,r,⟨o,n,e,_,_,d⟩,_⟩:=I.list h;let⟨its',r',⟨o',n',e',_,_,d'⟩,_⟩:=I.list h';rw[e]at e';cases e';rw[d]at d';injection d' with d1 _;have:ð=its':=by simpa using congrArg aX d1
 subst this;exact r.inj r'
def Inv.tuple_inj(I:Inv X Â σ H s)(h:eZ X.K H a xs)(h':eZ X.K H a ys):xs=ys:=by
 let⟨ð,r,⟨o,e,_,n,d⟩,_⟩:=I.tuple h;let⟨its',r',⟨o',e',_,n',d'⟩,_⟩:=I.tuple h';rw[e]at e';cases e';rw[d]at d';injection d' with d1 _;have:ð=its':=by simpa using congrArg aX d1
 subst this;exact r.inj r'
end
section
variable {X:Cx}{st:ġ}{rest:List ġ}{t u:TS}{e:Expr}{te:TE}{ç:Pos}
abbrev HX:TS:=λD σ H=>D.nx σ H
abbrev Ps(t u:TS):TS:=λD σ H=>t {D with nx:=u D} σ H
def pss_nil:PSs X [] HX:=λ_ _ σ H _ I h=>wpAny_execs_nil ⟨σ,H,I,h⟩
def BO(h1:PS X st t)(h2:PSs X rest u):PSs X (st::rest)<|Ps t u:=by
 intro Â s σ H D I h;refine wpAny_execs_cons<|thn (h1 Â s σ H {D with nx:=u D} I h) λf s1 q=>?_;cases f with
 |next =>let⟨Ŏ,H',I',q⟩:=q;exact h2 Â s1 Ŏ H' D I' q
 |ret v=>exact q
 |brk=>exact q
 |cont=>exact q
def Inv.quiet{Â:List (Ç×Obj)}{σ:St}{H:Hp}{s:Å}(I:Inv X Â σ H s):interactive X.env=di:=by simp[interactive,I.ok.kind]
abbrev Id(te:TE):TS:=λD σ H=>te σ H λ_ H1=>D.nx σ H1
def DV(he:PE X e te)(hs:ś e dg ç.line X.env=pure di:=by rfl):PS X (.Expr e ç)<|Id te:=by intro Â s σ H D I h;exact wpAny_Expr_any (thn (he Â s σ H _ I h) λv s1 ⟨x,H1,I1,r1,q1⟩=>⟨σ,H1,I1,q1⟩) I.quiet hs
abbrev Pv(te:TE):TS:=λD σ H=>te σ H D.rt
def Gp(he:PE X e te):PS X (.Return (df e) ç)<|Pv te:=by intro Â s σ H D I h;exact wpAny_Return_some (thn (he Â s σ H _ I h) λv s1 ⟨x,H1,I1,r1,q1⟩=>⟨x,σ,H1,I1,r1,q1⟩)
abbrev IM:TS:=λD _ H=>D.rt .non H
def ps_retN:PS X (.Return dg ç) IM:=λ_ _ σ H _ I h=>wpAny_Return_none ⟨.non,σ,H,I,rfl,h⟩
abbrev L9(c:TT)(t u:TS):TS:=λD σ H=>c σ H λb H1=>if b=dh then t D σ H1 else u D σ H1
def Ih{c:Expr}{a b:List ġ}{tc:TT}(hc:PT X c tc)(ha:PSs X a t)(hb:PSs X b u):PS X (.If c a b ç)<|L9 tc t u:=by
 intro Â s σ H D I h;refine wpAny_If<|thn (hc Â s σ H _ I h) λd s1 ⟨H1,I1,q1⟩=>?_;cases d with
 |true=>exact ha Â s1 σ H1 D I1 q1
 |false=>exact hb Â s1 σ H1 D I1 q1
end
noncomputable abbrev TG:=V->St->Hp->(St->Hp->Prop)->Prop
noncomputable abbrev TGs:=List V->St->Hp->(St->Hp->Prop)->Prop
abbrev PG(X:Cx)(ϐ:Expr)(t:TG):Prop :=
 ∀(Â:List<|Ç×Obj) (s:Å) (σ:St) (H:Hp) (v:V) (u:Ã) (Q:St->Hp->Prop),Inv X Â σ H s->RelV v u->t v σ H Q->
  wpAny (Û X.prog X.w) X.A (ť ϐ X.env u) (λ_ s'=>∃Ŏ H',Inv X Â Ŏ H' s'/\Q Ŏ H') X.xe s
abbrev PGs(X:Cx)(ts:List Expr)(t:TGs):Prop :=
 ∀(Â:List<|Ç×Obj) (s:Å) (σ:St) (H:Hp) (vs:List V) (us:List Ã) (Q:St->Hp->Prop),Inv X Â σ H s->fc vs us->t vs σ H Q->
  wpAny (Û X.prog X.w) X.A (assignInOrder ((ā ts X.env).map (·.2)) us) (λ_ s'=>∃Ŏ H',Inv X Â Ŏ H' s'/\Q Ŏ H') X.xe s
noncomputable abbrev GY:=V->V->V->Hp->(Hp->Prop)->Prop
abbrev PSet(X:Cx)(t:GY):Prop :=
 ∀(Â:List<|Ç×Obj) (s:Å) (σ:St) (H:Hp) (o i v:V) (ov iv u:Ã) (Q:Hp->Prop),Inv X Â σ H s->RelV o ov->RelV i iv->RelV v u->t o i v H Q->
  wpAny (Û X.prog X.w) X.A (setItem ov iv u) (λ_ s'=>∃H',Inv X Â σ H' s'/\Q H') X.xe s
section
variable {X:Cx}{ç:Pos}
abbrev Fb(i:Nat):TG:=λv σ H Q=>Q (σ.set i<|df v) H
def NT{i:Nat}{x:Str}(hN:X.N.Nodup)(hi:X.N[i]?=df x)(hx:Loc X.env.scope x)(hf:X.fn x=dh\/X.env.scope.names.lookup x=df .local:=by first|exact .inl rfl|exact .inr rfl|assumption):PG X (.Name x ç)<|Fb i:=by intro Â s σ H v u Q I r h;exact wpAny_assign_Name (Aa I hN hi hx r (λs' I'=>⟨_,H,I',h⟩) hf)
abbrev Pd:TGs:=λvs σ H Q=>vs=[]/\Q σ H
abbrev IW(t:TG)(u:TGs):TGs:=λvs σ H Q=>∃v r,vs=v::r/\t v σ H λŎ H'=>u r Ŏ H' Q
def pgs_nil:PGs X [] Pd:=by intro Â s σ H vs us Q I r h;let⟨e,h⟩:=h;subst e;cases r;exact assignInOrder_nil ⟨σ,H,I,h⟩
variable {e:Expr} {es:List Expr}
def Jj{t:TG}{u:TGs}(h1:PG X e t)(h2:PGs X es u)
  (hs:(ā (e::es) X.env).map (·.2)=ť e X.env::(ā es X.env).map (·.2):=by rfl):PGs X (e::es)<|IW t u:=by
 intro Â s σ H vs us Q I r h;let⟨v,vr,e1,h⟩:=h;subst e1;cases r with
 |cons r rr =>rw[hs];refine assignInOrder_cons<|thn (h1 Â s σ H _ _ _ I r h) λ_ s1 ⟨σ1,H1,I1,q1⟩=>?_;exact h2 Â s1 σ1 H1 _ _ Q I1 rr q1
abbrev LR(K:Frag)(n:Nat)(t:TGs):TG:=λv σ H Q=>∃a xs,v=.ref a/\eZ K H a xs/\xs.length=n/\t xs σ H Q
def AD{k:Nat}{t:TGs}{n:Nat}(hc:X.calm=dh)(h:PGs X es t)
  (hn:(ā es X.env).length=n:=by rfl) (ű:(ā es X.env).findIdx? (·.1)=dg:=by rfl):PG X (.Tuple es k ç)<|LR X.K n t:=by
 intro Â s σ H v u Q I r hw;let⟨a,xs,e1,hq,hl,hw⟩:=hw;subst e1;cases r;let⟨ð,rv,ht,hz⟩:=I.tuple hq;refine assign_Tuple_tuple (I.ok.hd hc) ht (by simp[hn,<-hl,rv.length]) ű λh' hx=>?_;have I1:Inv X Â σ H {s with heap:=h'}:=I.kept (t':=s.toks) λb o e=>hx b o (è<|Ô e) e;exact h Â _ σ H xs _ Q I1 ⇑rv hw
abbrev Il(to ti:TE)(t:GY):TG:=λv σ H Q=>to σ H λo H1=>ti σ H1 λi H2=>t o i v H2 λH3=>Q σ H3
def Fi{o i:Expr}{to ti:TE}{t:GY}(ho:PE X o to)(hi:PE X i ti)(hs:PSet X t)
  (ha:∀v,ť (.Subscript o i ç) X.env v=(do
    let ov<-Ŕ [v] (eval o X.env)
    let iv<-Ŕ [v,ov] (eval i X.env)
    ς ç
    Ŕ [v,ov,iv] (setItem ov iv v)
    release [v,ov,iv] []):=by intro _;rfl):PG X (.Subscript o i ç)<|Il to ti t:=by
 intro Â s σ H v u Q I r h;rw[ha];refine À<|Ć<|thn (ho Â s σ H _ I h) λov s1 ⟨x,H1,I1,r1,q1⟩=>?_;refine À<|Ć<|thn (hi Â s1 σ H1 _ I1 q1) λiv s2 ⟨y,H2,I2,r2,q2⟩=>?_;refine À<|ϣ<|À<|Ć<|thn (hs Â s2 σ H2 x y v ov iv u _ I2 r1 r2 r q2) λ_ s3 ⟨H3,I3,q3⟩=>?_;exact wpAny_release ⟨σ,H3,I3,q3⟩
abbrev Ik(te:TE)(g:TG):TS:=λD σ H=>te σ H λx H1=>g x σ H1 D.nx
def M1{tg:Expr}{te:TE}{g:TG}(he:PE X e te)(hg:PG X tg g)(hs:œ [tg] e ç.line X.env=pure di:=by rfl)(hw:ũ [tg] e X.env=pure dg:=by rfl)
  (h1:(ā [tg] X.env).map (·.2)=[ť tg X.env]:=by rfl):PS X (.Assign [tg] e ç)<|Ik te g:=by
 intro Â s σ H D I h;refine wpAny_Assign_stores (thn (he Â s σ H _ I h) λv s1 ⟨x,H1,I1,r1,q1⟩=>?_) hs hw;rw[h1];exact thn (hg Â s1 σ H1 x v _ I1 r1 q1) λ_ s2 q=>q
end
structure It where
 go:Nat->Hp->Prop
 yld:Nat->Hp->V->Hp->Prop
 stop:Nat->Hp->Prop
abbrev XT(X:Cx)(Â:List<|Ç×Obj)(H:Hp)(b:Ç):Prop :=
 H b=dg/\b≠X.env.locals/\b∉X.fs/\(b∈X.ex\/X.s₀.heap.objs.size<=b)/\(∀x c,X.env.cells.lookup x=df c->c≠b)/\∀p∈X.pn++Â,p.1≠b
variable {s:Å}
def Inv.fpOk{X:Cx}{Â:List (Ç×Obj)}{σ:St}{H H':Hp}{b:Ç}(I:Inv X Â σ H s)(hb:s.heap.objs.size<=b)(hn:H' b=dg):XT X Â H' b:=by
 refine⟨hn,ŗ<|ß I.lt hb,I.nofs hb,.inr<|Ü I.sz hb,λx c e z=>?_,λp hp z=>?_⟩
 .obtain⟨v,q⟩:=I.cell x c e;exact fA (ß q.lt<|by rw[z];exact hb)<|ģ _
 .exact fA (ß (Ô (I.pin p hp).1)<|by rw[z];exact hb)<|ģ _
structure Turn(P:ä)(w:ü)(K:Frag)(tg:Expr)(J:It)(fp:List Ç)(it:Ç)(tn:Nat->ù->Prop):Prop where
 mem:it∈fp
 obj:∀i h,tn i h->∀b∈fp,∃o,h.get? b=df o/\∀v,o.data≠.cell v
 keep:∀i h h',tn i h->(∀b∈fp,∀o,h.get? b=df o->h'.get? b=df o)->tn i h'
 item:∀(X:Cx),X.prog=P->X.w=w->X.K=K->X.calm=dh->∀(i:Nat) (Â:List<|Ç×Obj) (s:Å) (σ:St) (H:Hp) (E:Ã->Å->Prop),Inv X Â σ H s->(∀b∈fp,XT X Â H b)->tn i s.heap->J.go i H->
  wpAny (Û P w) X.A (ό<|.ref it) (λr s1=>∃u,r=df u/\
    wpAny (Û P w) X.A (Τ tg (.ref it) u) (λ_ s2=>∃x H',Inv X Â σ H' s2/\RelV x u/\J.yld i H x H'/\tn (i+1) s2.heap/\∀b∈fp,H' b=dg) E s1) E s
 done:∀(X:Cx),X.prog=P->X.w=w->X.K=K->X.calm=dh->∀(i:Nat) (Â:List<|Ç×Obj) (s:Å) (σ:St) (H:Hp) (E:Ã->Å->Prop),Inv X Â σ H s->(∀b∈fp,XT X Â H b)->tn i s.heap->J.stop i H->
  wpAny (Û P w) X.A (ό<|.ref it) (λr s1=>r=dg/\Inv X Â σ H s1) E s
 self:∀(A:ċ) (i:Nat) (s:Å) (Q:Ã->Å->Prop) (E:Ã->Å->Prop),tn i s.heap->Q (.ref it) s->wpAny (Û P w) A (pyIter<|.ref it) Q E s
noncomputable abbrev TI:=St->Hp->(It->Hp->Prop)->Prop
abbrev PIE(X:Cx)(Â:List<|Ç×Obj)(σ:St)(tg:Expr)(R:It->Hp->Prop)(itv:Ã)(s2:Å):Prop :=
 ∃(it:Ç) (fp:List Ç) (tn:Nat->ù->Prop) (J:It) (H':Hp),itv=.ref it/\Inv X Â σ H' s2/\Turn X.prog X.w X.K tg J fp it tn/\tn 0 s2.heap/\(∀b∈fp,XT X Â H' b)/\R J H'
abbrev PI(X:Cx)(tg iter:Expr)(wi:TI):Prop :=
 ∀(Â:List<|Ç×Obj) (s:Å) (σ:St) (H:Hp) (R:It->Hp->Prop),Inv X Â σ H s->wi σ H R->
  wpAny (Û X.prog X.w) X.A (eval iter X.env) (λv s1=>wpAny (Û X.prog X.w) X.A (pyIter v) (PIE X Â σ tg R) X.xe s1) X.xe s
variable {tg:Expr}
def dy{M:Model}{A:ċ}{E:Ã->Å->Prop}{it:Ç}{o:Obj}{n:String}{vs:Array Ã}{Q:Unit->Å->Prop}(ho:s.heap.get? it=df o)(hc:o.cls=.type n)(hd:o.data=.fields vs)
  (hn:["enumerate","zip","dict_itemiterator","dict_reverseitemiterator","odict_iterator","itertools.zip_longest","itertools.pairwise"].contains n=di) (hQ:Q () s):wpAny M A (Τ tg (.ref it) u) Q E s:=by
 unfold Τ;cases tg<;>first
  |exact Ë hQ
  | (cases u<;>first
      |exact Ë hQ
      | (refine À (wpAny_load ho ?_)
         rw[hc,hd]
         show wpAny M A (if(["enumerate","zip","dict_itemiterator","dict_reverseitemiterator","odict_iterator","itertools.zip_longest","itertools.pairwise"].contains n&&vs[0]? == df (aB _))=dh then _ else _) Q E s
         rw[fo<|by intro h;rw[hn,Bool.false_and]at h;cases h]
         exact Ë hQ))
abbrev Itl(K:Frag)(a:Ç):It :=
 ⟨λi H=>∃xs x,eY K H a xs/\xs[i]?=df x,λi H x H'=>H'=H/\∀xs,eY K H a xs->xs[i]?=df x,λi H=>∃xs,eY K H a xs/\xs.length<=i⟩
abbrev Itt(K:Frag)(a:Ç):It :=
 ⟨λi H=>∃xs x,eZ K H a xs/\xs[i]?=df x,λi H x H'=>H'=H/\∀xs,eZ K H a xs->xs[i]?=df x,λi H=>∃xs,eZ K H a xs/\xs.length<=i⟩
abbrev Itr(lo:Int)(n:Nat):It:=⟨λi _=>i<n,λi H x H'=>H'=H/\x=.int (lo+i),λi _=>n<=i⟩
variable {P:ä} {w:ü}
def OV{K:Frag}(a it:Ç):Turn P w K tg (Itl K a) [it] it (λi h=>h.IsListIter it a i) where
 mem:=by simp
 obj:=λi h st b hb=>by
  have e:b=it:=⇑hb
  subst e;let⟨o,e,c,d⟩:=st;exact⟨o,e,λv z=>by rw[d]at z;cases z⟩
 keep:=λi h h' st k=>st.at λo e=>k it (by simp) o e
 item:=by k_sub;subst hP hw hK;let⟨xs,x,hq,hx⟩:=hg;let⟨ð,rv,p,hz⟩:=I.list hq;let⟨u,hu,ru⟩:=rv.get hx;let⟨f0,f1,f2,f3,f4,f5⟩:=hf it (by simp);refine cO st p.isList (x:=u) ⇑hu λh' cp sb=>?_;have I1:Inv X Â σ H {s with heap:=h'}:=I.turned (t':=s.toks) (λb o hb e=>(sb.2 b hb).trans e) f0 f1 f3 f4 f5;let⟨o,e,c,d⟩:=id cp;exact⟨u,rfl,dy (s:={s with heap:=h'}) e c d (by decide) ⟨x,H,I1,ru,⟨rfl,λys hy=>by rw[I.list_inj hy hq];exact hx⟩,cp,λb hb=>(hf b hb).1⟩⟩
 done:=by k_sub;subst hP hw hK;let⟨xs,hq,hx⟩:=hg;let⟨ð,rv,p,hz⟩:=I.list hq;let⟨f0,f1,f2,f3,f4,f5⟩:=hf it (by simp);have hl:=rv.length;exact wpAny_pyNext_list_end (I.ok.hd hc) st p.isList (by simp;lia) λh' eb=>⟨rfl,I.turned (t':=s.toks) (λb o hb e=>eb b o hb e) f0 f1 f3 f4 f5⟩
 self:=λ_ _ _ _ _ st h=>wpAny_pyIter_listiter st h
def MS{K:Frag}(a it:Ç):Turn P w K tg (Itt K a) [it] it (λi h=>h.IsTupleIter it a i) where
 mem:=by simp
 obj:=λi h st b hb=>by
  have e:b=it:=⇑hb
  subst e;let⟨o,e,c,d⟩:=st;exact⟨o,e,λv z=>by rw[d]at z;cases z⟩
 keep:=λi h h' st k=>st.at λo e=>k it (by simp) o e
 item:=by k_sub;subst hP hw hK;let⟨xs,x,hq,hx⟩:=hg;let⟨ð,rv,p,hz⟩:=I.tuple hq;let⟨u,hu,ru⟩:=rv.get hx;let⟨f0,f1,f2,f3,f4,f5⟩:=hf it (by simp);refine wpAny_pyNext_tuple_item st (show s.heap.IsTuple a ð.toArray from p) (x:=u) ⇑hu λh' cp sb=>?_;have I1:Inv X Â σ H {s with heap:=h'}:=I.turned (t':=s.toks) (λb o hb e=>(sb.2 b hb).trans e) f0 f1 f3 f4 f5;let⟨o,e,c,d⟩:=id cp;exact⟨u,rfl,dy (s:={s with heap:=h'}) e c d (by decide) ⟨x,H,I1,ru,⟨rfl,λys hy=>by rw[I.tuple_inj hy hq];exact hx⟩,cp,λb hb=>(hf b hb).1⟩⟩
 done:=by k_sub;subst hP hw hK;let⟨xs,hq,hx⟩:=hg;let⟨ð,rv,p,hz⟩:=I.tuple hq;let⟨f0,f1,f2,f3,f4,f5⟩:=hf it (by simp);have hl:=rv.length;exact wpAny_pyNext_tuple_end (I.ok.hd hc) st (show s.heap.IsTuple a ð.toArray from p) (by simp;lia) λh' eb=>⟨rfl,I.turned (t':=s.toks) (λb o hb e=>eb b o hb e) f0 f1 f3 f4 f5⟩
 self:=λ_ _ _ _ _ st h=>wpAny_pyIter_tupleiter st h
def Na{K:Frag}(it:Ç)(lo:Int)(n:Nat):Turn P w K tg (Itr lo n) [it] it (λi h=>IsRangeIter h it (lo+(i:Nat)*1) ((n:Int) - (i:Nat)) 1) where
 mem:=by simp
 obj:=λi h st b hb=>by
  have e:b=it:=⇑hb
  subst e;exact⟨_,st,λv z=>by
    have z':Data.fields _=Data.cell v:=z
    cases z'⟩
 keep:=λi h h' st k=>k it (by simp) _ st
 item:=by k_sub;subst hP hw hK;let⟨f0,f1,f2,f3,f4,f5⟩:=hf it (by simp);have W:=Walks.range (prog:=X.prog) (w:=X.w) (I.ok.hd hc) it lo 1 n;refine W.item i s _ _ hg st λv h' tk hv cp kk=>?_;let⟨t,rfl⟩:=hv;have I1:Inv X Â σ H {s with heap:=h',toks:=tk}:=I.turned (λb o hb e=>kk b o ⇑hb e) f0 f1 f3 f4 f5;refine⟨_,rfl,dy (s:={s with heap:=h',toks:=tk}) (n:="range_iterator") cp rfl rfl (by decide) ⟨.int<|lo+i,H,I1,⟨t,?_⟩,⟨rfl,rfl⟩,cp,λb hb=>(hf b hb).1⟩⟩;rw[Int.mul_one]
 done:=by k_sub;subst hP hw hK;let⟨f0,f1,f2,f3,f4,f5⟩:=hf it (by simp);exact wpAny_pyNext_range_end (I.ok.hd hc) st (by have:n<=i:=hg;lia) λh' eb=>⟨rfl,I.turned (t':=s.toks) (λb o hb e=>eb b o hb e) f0 f1 f3 f4 f5⟩
 self:=λ_ _ _ _ _ st h=>wpAny_pyIter_rangeiter st h
section
variable {X:Cx}{tg:Expr}
variable {Â:List (Ç×Obj)} {σ:St} {H:Hp} {s:Å}
def Cg{R:It->Hp->Prop}{E:Ã->Å->Prop}{lo hi:Int}{t u v:Tok}{tk:Nat}(I:Inv X Â σ H s)(h1:-(2 ^ 62)<=lo)(h2:lo<2 ^ 62)(h3:-(2 ^ 62)<=hi)(h4:hi<2 ^ 62)
  (q:R (Itr lo (hi - lo).toNat) H):wpAny (Û X.prog X.w) X.A (pyIter<|.ref s.heap.objs.size) (PIE X Â σ tg R) E {s with heap:=s.heap.push {cls:=.type "range",data:=.fields #[.int lo t,.int hi u,.int 1 v]},toks:=tk}:=by
 refine wpAny_pyIter_range (IsRange.new ..) (small_one h1 h2 h3 h4) ?_;have I1:Inv X Â σ H { s with heap:=s.heap.push { cls:=.type "range",data:=.fields #[.int lo t,.int hi u,.int 1 v] },toks:=tk }:=I.kept λb o e=>Ä _ e;refine⟨(s.heap.push { cls:=.type "range",data:=.fields #[.int lo t,.int hi u,.int 1 v] }).objs.size,[(s.heap.push { cls:=.type "range",data:=.fields #[.int lo t,.int hi u,.int 1 v] }).objs.size],_,_,H,rfl,
   I1.kept (t':=tk) λb o e=>Ä _ e,Na _ lo (hi - lo).toNat,?_,λb hb=>?_,q⟩
 .have e1:lo+((0:Nat):Int)*1=lo:=by simp
  have e2:(((hi - lo).toNat:Nat):Int) - ((0:Nat):Int)=Builtin.Range.rangeSize lo hi 1:=by rw[rangeSize_one];split<;>lia
  show IsRangeIter _ _ (lo+((0:Nat):Int)*1) ((((hi - lo).toNat:Nat):Int) - ((0:Nat):Int)) 1;rw[e1,e2];exact Ö _ rfl
 .have e:b=(s.heap.push {cls:=.type "range",data:=.fields #[.int lo t,.int hi u,.int 1 v]}).objs.size:=⇑hb
  subst e;exact I1.fpOk (Ê _)<|I1.hok.fresh<|Ê _
abbrev LH(ta:TA):TI:=λσ H R=>ta σ H λvs H1=>∃j:Int,vs=[.int j]/\-(2 ^ 62)<=j/\j<2 ^ 62/\R (Itr 0 j.toNat) H1
variable {ç:Pos}
def UG{a:Expr}{ta:TA}{p:Pos}(hg:Gl X "range")(hm:X.mg "range" = dg)(ha:PA X [a] ta)(hs:Ñ [a] X.env=[(di,eval a X.env)]:=by rfl):PI X tg (.Call (.Name "range" p) [a] [] ç)<|LH ta:=by
 intro Â s σ H R I h;refine Call_<|YF I hg hm boot_range<|PyProof.Rows.callWith_type1 (thn (ha ç Â s σ H _ I h) λus s1 ⟨vs,H1,I1,r1,q1⟩=>?_) hs rfl;let⟨j,e,q1,q2,q⟩:=q1;subst e;cases r1 with
 |cons r rr =>cases rr;let⟨t,rfl⟩:=r;exact call_range_1 (Cg I1 (by lia) (by lia) q1 q2<|by simpa using q)
abbrev PH(wi:TI)(g:TG)(tb:TS):TS:=λD σ H=>wi σ H λJ H1=>∃W:Nat->Nat->St->Hp->Prop,(∃m,W 0 m σ H1)/\∀i m σ H,W i m σ H->
 (J.stop i H/\D.nx σ H)\/(J.go i H/\∃N:St->Hp->Prop,(∀Ŏ H',N Ŏ H'->∃m',m'<m/\W (i+1) m' Ŏ H')/\∀x H',J.yld i H x H'->g x σ H' λcJ H2=>tb {D with nx:=N,ct:=N,bk:=D.nx} cJ H2)
abbrev Xc(fp:List Ç)(h:ù):List<|Ç×Obj:=fp.filterMap λb=>(h.get? b).map λo=>(b,o)
variable {fp:List Ç} {h:ù}
def ZS{b:Ç}{o:Obj}(hb:b∈fp)(e:h.get? b=df o):(b,o)∈Xc fp h:=Ħ.mpr ⟨b,hb,by rw[e];rfl⟩
def JI{p:Ç×Obj}(hp:p∈Xc fp h):p.1∈fp/\h.get? p.1=df p.2:=by
 let⟨b,hb,e⟩:=Ħ.mp hp;cases q:h.get? b with
 |none=>rw[q]at e;cases e
 |some o =>rw[q]at e;have e':(b,o)=p:=ë e;subst e';exact⟨hb,q⟩
def Inv.pinned(I:Inv X Â σ H s)(hf:∀b∈fp,XT X Â H b)(ho:∀b∈fp,∃o,s.heap.get? b=df o/\∀v,o.data≠.cell v):Inv X (Â++Xc fp s.heap) σ H s :=
 I.pins_of λp hp=>(æ.mp hp).elim (λz=>I.pin p<|Í _ z) λz=>by let⟨hb,e⟩:=JI z;let⟨f0,f1,f2,_⟩:=hf p.1 hb;let⟨o,e',d⟩:=ho p.1 hb;rw[e]at e';cases e';exact⟨e,f0,f1,f2,d⟩
def Inv.unpinned{pl:List (Ç×Obj)}(I:Inv X (Â++pl) σ H s):Inv X Â σ H s:=I.pins_of λp hp=>I.pin p (Í _<|õ _ hp)
def U8{iter:Expr}{body:List ġ}{wi:TI}{g:TG}{tb:TS}(hp:ϒ (Û X.prog X.w) X.A X.env X.xe)(hc:X.calm=dh)(hi:PI X tg iter wi)(hg:PG X tg g)(hb:PSs X body tb)
  (hs:∀x,Đ iter X.env x=pure x:=by intro _;rfl):PS X (.For tg iter body [] ç)<|PH wi g tb:=by
 intro Â s σ H D I h;refine wpAny_For (thn (hi Â s σ H _ I h) λv s1 h1=>thn h1 λitv s2 h2=>?_) hs;let⟨it,fp,tn,J,H2,e,I2,T,st2,f2,W,⟨m0,w0⟩,turn⟩:=h2;subst e;have stat:∀{H':Hp},(∀b∈fp,H' b=dg)->∀b∈fp,XT X Â H' b:=λhn b hb=>⟨hn b hb,(f2 b hb).2⟩
 refine codeAny_forLoop_any (λn s'=>∃i Ŏ H',Inv X Â Ŏ H' s'/\tn i s'.heap/\(∀b∈fp,H' b=dg)/\W i n Ŏ H') ?_ m0 ⟨0,σ,H2,I2,st2,λb hb=>(f2 b hb).1,w0⟩;rintro n s3 ⟨i,σ3,H3,I3,st3,fr3,w3⟩;rcases turn i n σ3 H3 w3 with⟨stop,qn⟩|⟨go,N,hN,step⟩
 .refine Ų hp<|thn (T.done X rfl rfl rfl hc i Â s3 σ3 H3 X.xe I3 (stat fr3) st3 stop) λr s4 ⟨hr,I4⟩=>?_;subst hr;exact wpAny_execs_nil ⟨σ3,H3,I4,qn⟩
 .refine Ų hp<|thn (T.item X rfl rfl rfl hc i Â s3 σ3 H3 X.xe I3 (stat fr3) st3 go) λr s4 ⟨u,hr,h4⟩=>?_;subst hr;refine Ų hp<|thn h4 λ_ s5 ⟨x,H5,I5,r5,y5,st5,fr5⟩=>?_;have I5':=I5.pinned (stat fr5)<|T.obj _ _ st5;refine Ų hp<|thn (hg _ s5 σ3 H5 x u _ I5' r5<|step x H5 y5) λ_ s6 ⟨σ6,H6,I6,q6⟩=>?_;refine Ų hp<|thn (hb _ s6 σ6 H6 _ I6 q6) λf s7 q7=>?_;have again:∀{aI:St}{H7:Hp},Inv X (Â++Xc fp s5.heap) aI H7 s7->N aI H7->∃m,m<n/\∃i Ŏ H',Inv X Â Ŏ H' s7/\tn i s7.heap/\(∀b∈fp,H' b=dg)/\W i m Ŏ H':=λ{aI H7} I7 n7=>by
   let⟨m',hm,w7⟩:=hN aI H7 n7;refine⟨m',hm,i+1,aI,H7,I7.unpinned,T.keep _ _ _ st5 λb hb o e=>(I7.pin (b,o)<|Í _<|Í _<|ZS hb e).1,λb hb=>?_,w7⟩;let⟨o,e,d⟩:=T.obj _ _ st5 b hb;exact(I7.pin (b,o)<|Í _<|Í _<|ZS hb e).2.1
  cases f with
  |next=>let⟨aI,H7,I7,n7⟩:=q7;exact again I7 n7
  |cont=>let⟨aI,H7,I7,n7⟩:=q7;exact again I7 n7
  |brk=>let⟨aI,H7,I7,q7⟩:=q7;exact⟨aI,H7,I7.unpinned,q7⟩
  |ret v=>let⟨x7,aI,H7,I7,r7,q7⟩:=q7;exact⟨x7,aI,H7,I7.unpinned,r7,q7⟩
end
noncomputable abbrev R2:=V->V->Hp->VK->Prop
abbrev OpR(X:Cx)(f:Ã->Ã->Sem Ã)(r:R2):Prop :=
 ∀(Â:List<|Ç×Obj) (s:Å) (σ:St) (H:Hp) (x y:V) (v u:Ã) (Q:VK),Inv X Â σ H s->RelV x v->RelV y u->r x y H Q->
  wpAny (Û X.prog X.w) X.A (f v u) (EP X Â σ Q) X.xe s
abbrev UnR(X:Cx)(f:Ã->Sem Ã)(r:V->Hp->VK->Prop):Prop :=
 ∀(Â:List<|Ç×Obj) (s:Å) (σ:St) (H:Hp) (x:V) (v:Ã) (Q:VK),Inv X Â σ H s->RelV x v->r x H Q->
  wpAny (Û X.prog X.w) X.A (f v) (EP X Â σ Q) X.xe s
abbrev dB(X:Cx)(f:Ã)(r:List V->Hp->VK->Prop):Prop :=
 ∀(Â:List<|Ç×Obj) (s:Å) (σ:St) (H:Hp) (xs:List V) (us:List Ã) (Q:VK),Inv X Â σ H s->fc xs us->r xs H Q->
  wpAny (Û X.prog X.w) X.A (call f us) (EP X Â σ Q) X.xe s
abbrev Px(X:Cx)(r:V->Hp->(Bool->Hp->Prop)->Prop):Prop :=
 ∀(Â:List<|Ç×Obj) (s:Å) (σ:St) (H:Hp) (x:V) (v:Ã) (Q:Bool->Hp->Prop),Inv X Â σ H s->RelV x v->r x H Q->
  wpAny (Û X.prog X.w) X.A (truthy v) (TP X Â σ Q) X.xe s
abbrev tOp(r:R2)(ta tb:TE):TE:=λσ H Q=>ta σ H λx H1=>tb σ H1 λy H2=>r x y H2 Q
abbrev tUn(r:V->Hp->VK->Prop)(ta:TE):TE:=λσ H Q=>ta σ H λx H1=>r x H1 Q
abbrev rI(C:Int->Int->Prop)(g:Int->Int->V):R2:=λx y H Q=>∃i j,x=.int i/\y=.int j/\C i j/\Q (g i j) H
abbrev rI0(g:Int->Int->V):R2:=λx y H Q=>∃i j,x=.int i/\y=.int j/\Q (g i j) H
abbrev rU(g:Int->V):V->Hp->VK->Prop:=λx H Q=>∃i,x=.int i/\Q (g i) H
section
variable {X:Cx}{a b c:Expr}{ta tb tc:TE}{ç:Pos}
variable {f:Ã->Ã->Sem Ã}
def FY(ha:PE X a ta)(hb:PE X b tb){Â:List (Ç×Obj)}{s:Å}{σ:St}{H:Hp}{R:V->V->Hp->Prop}(I:Inv X Â σ H s)
  (h:ta σ H λx H1=>tb σ H1 λy H2=>R x y H2){Q:Ã->Å->Prop} 
  (hf:∀v u s2 x y H2,Inv X Â σ H2 s2->RelV x v->RelV y u->R x y H2->wpAny (Û X.prog X.w) X.A (f v u) Q X.xe s2) :
  wpAny (Û X.prog X.w) X.A (eval a X.env) (λv Ĝ=>wpAny (Û X.prog X.w) X.A (eval b X.env) (λu ba=>wpAny (Û X.prog X.w) X.A (f v u) Q X.xe ba) X.xe Ĝ) X.xe s:=by
 refine thn (ha Â s σ H _ I h) λv s1 ⟨x,H1,I1,r1,q1⟩=>?_;refine thn (hb Â s1 σ H1 _ I1 q1) λu s2 ⟨y,H2,I2,r2,q2⟩=>?_;exact hf v u s2 x y H2 I2 r1 r2 q2
def IT{op:ae}{r:R2}(ho:OpR X (ĳ op) r)(ha:PE X a ta)(hb:PE X b tb):PE X (.BinOp a op b ç)<|tOp r ta tb:=by k_upd;exact wpAny_BinOp (FY ha hb I h λv u s2 x y H2 I2 rx ry q=>ho Â s2 σ H2 x y v u Q I2 rx ry q)
def IK{op:UnaryOp}{r:V->Hp->VK->Prop}(ho:UnR X (unaryOp op) r)(ha:PE X a ta):PE X (.UnaryOp op a ç)<|tUn r ta:=by k_upd;exact UnaryOp_ (thn (ha Â s σ H _ I h) λv s1 ⟨x,H1,I1,r1,q1⟩=>ho Â s1 σ H1 x v Q I1 r1 q1)
variable {g:Int->Int->Int}
def opI{C:Int->Int->Prop} 
  (rule:∀(i j:Int) (t u:Tok) (s:Å) (Q:Ã->Å->Prop) (E:Ã->Å->Prop),C i j->Q (.int (g i j) s.toks) {s with toks:=s.toks+1}->wpAny (Û X.prog X.w) X.A (f (.int i t)<|.int j u) Q E s) :
  OpR X f (rI C λi j=>.int<|g i j):=by
 k_ne;let⟨i,j,rfl,rfl,hc,q⟩:=h;let⟨t,rfl⟩:=rx;let⟨t',rfl⟩:=ry;exact rule i j t t' s _ _ hc ⟨.int<|g i j,H,I.tok _,⟨_,rfl⟩,q⟩
def Lj  
  (rule:∀(i j:Int) (t u:Tok) (s:Å) (Q:Ã->Å->Prop) (E:Ã->Å->Prop),Q (.int (g i j) s.toks) {s with toks:=s.toks+1}->wpAny (Û X.prog X.w) X.A (f (.int i t)<|.int j u) Q E s) :
  OpR X f (rI0 λi j=>.int<|g i j):=by
 k_ne;let⟨i,j,rfl,rfl,q⟩:=h;let⟨t,rfl⟩:=rx;let⟨t',rfl⟩:=ry;exact rule i j t t' s _ _ ⟨.int<|g i j,H,I.tok _,⟨_,rfl⟩,q⟩
def Db{g:Int->Int->Bool}
  (rule:∀(i j:Int) (t u:Tok) (s:Å) (Q:Ã->Å->Prop) (E:Ã->Å->Prop),Q (.bool<|g i j) s->wpAny (Û X.prog X.w) X.A (f (.int i t)<|.int j u) Q E s) :
  OpR X f (rI0 λi j=>.bl<|g i j):=by
 k_ne;let⟨i,j,rfl,rfl,q⟩:=h;let⟨t,rfl⟩:=rx;let⟨t',rfl⟩:=ry;exact rule i j t t' s _ _ ⟨.bl<|g i j,H,I,rfl,q⟩
abbrev IH(i j:Int):Prop:=0<j/\j<1073741824
abbrev Im(i j:Int):Prop:=0<=j/\j<=1000000/\i.natAbs<2 ^ 64
def op_add:OpR X (ĳ .Add)<|rI0 λi j=>.int<|i+j:=Lj λ_ _ _ _ _ _ _ q=>add_int q
def FO:OpR X (ĳ .Sub)<|rI0 λi j=>.int<|i - j:=Lj λ_ _ _ _ _ _ _ q=>sub_int q
def Dz:OpR X (ĳ .FloorDiv)<|rI IH λi j=>.int<|i / j:=opI λi j _ _ _ _ _ hc q=>by have h1:(0:Int)<j:=hc.1;have h2:j<1073741824:=hc.2;exact floordiv_int (by lia) (by rw[Int.fdiv_eq_ediv_of_nonneg i<|by lia];exact q) (.inl<|PyProof.noPylong_small<|by lia)
def GV:OpR X (ĳ .Mod)<|rI (λ_ j=>0<j) λi j=>.int<|i % j:=opI λi j _ _ _ _ _ hc q=>by have h1:(0:Int)<j:=hc;exact mod_int' (by lia) (by rw[Int.fmod_eq_emod_of_nonneg i<|by lia];exact q)
def FA:OpR X (ĳ .Pow)<|rI Im λi j=>.int<|i ^ j.toNat:=opI λ_ _ _ _ _ _ _ hc q=>pow_int_small hc.1 hc.2.1 hc.2.2 q
def unI{f:Ã->Sem Ã}{g:Int->Int}
  (rule:∀(i:Int) (t:Tok) (s:Å) (Q:Ã->Å->Prop) (E:Ã->Å->Prop),Q (.int (g i) s.toks) {s with toks:=s.toks+1}->wpAny (Û X.prog X.w) X.A (f<|.int i t) Q E s) :
  UnR X f (rU λi=>.int<|g i):=by
 intro Â s σ H x v Q I rx h;let⟨i,rfl,q⟩:=h;let⟨t,rfl⟩:=rx;exact rule i t s _ _ ⟨.int<|g i,H,I.tok _,⟨_,rfl⟩,q⟩
def Gk:UnR X (unaryOp .USub)<|rU λi=>.int (-i):=unI λ_ _ _ _ _ q=>neg_int q
end
section
variable {X:Cx}{a b c:Expr}{ta tb tc:TE}{ç:Pos}
def Ho{Â:List (Ç×Obj)}{σ:St}{H:Hp}{s:Å}{Q:VK}{k k':Bool}(I:Inv X Â σ H s)(q:Q (.bl k) H)(e:k=k'):EP X Â σ Q (.bool k') s:=by subst e;exact⟨.bl k,H,I,rfl,q⟩
def op_lt:OpR X (ê .Lt)<|rI0 λi j=>.bl<|fB (i<j):=Db λ_ _ _ _ _ _ _ q=>lt_int q
def La:OpR X (ê .LtE)<|rI0 λi j=>.bl<|fB (i<=j):=Db λ_ _ _ _ _ _ _ q=>le_int q
def op_gt:OpR X (ê .Gt)<|rI0 λi j=>.bl<|fB (j<i):=Db λ_ _ _ _ _ _ _ q=>gt_int q
def HZ:OpR X (ê .GtE)<|rI0 λi j=>.bl<|fB (j<=i):=Db λ_ _ _ _ _ _ _ q=>ge_int q
def Uq:OpR X (ê .In) λx y H Q=>∃i j,x=.str i/\y=.str j/\Q (.bl (!(Builtin.Str.occurrences j i 0 j.length 1).isEmpty)) H:=by k_ne;let⟨i,j,rfl,rfl,q⟩:=h;let⟨t,rfl⟩:=rx;let⟨t',rfl⟩:=ry;exact in_str (Ho I q rfl)
variable {r:R2} {r':R2}
def OpR.or{f:Ã->Ã->Sem Ã}(h:OpR X f r)(h':OpR X f r'):OpR X f λx y H Q=>r x y H Q\/r' x y H Q:=by
 intro Â s σ H x y v u Q I rx ry q;rcases q with q|q
 .exact h Â s σ H x y v u Q I rx ry q
 .exact h' Â s σ H x y v u Q I rx ry q
variable {op:aM}
def Oz(ho:OpR X (ê op) r)(ha:PE X a ta)(hb:PE X b tb)(hm:ĩ op b=di):PE X (.Compare a [op] [b] ç)<|tOp r ta tb:=by k_upd;exact wpAny_Compare1 (FY ha hb I h λv u s2 x y H2 I2 rx ry q=>ho Â s2 σ H2 x y v u Q I2 rx ry q) hm
abbrev Fa(t:TE):TT:=λσ H Q=>t σ H λx H'=>∃k,x=.bl k/\Q k H'
def Oc(ho:OpR X (ê op) r)(ha:PE X a ta)(hb:PE X b tb)(hm:ĩ op b=di):PT X (.Compare a [op] [b] ç)<|Fa<|tOp r ta tb:=by
 k_upd;refine wpAny_isTrue_Compare1 (thn (ha Â s σ H _ I h) λv s1 ⟨x,H1,I1,r1,q1⟩=>thn (hb Â s1 σ H1 _ I1 q1) λu s2 ⟨y,H2,I2,r2,q2⟩ =>
   thn (ho Â s2 σ H2 x y v u _ I2 r1 r2 q2) λc s3 ⟨z,H3,I3,r3,k,e,q3⟩=>?_) hm
 subst e;cases r3;exact ď ⟨H3,I3,q3⟩
abbrev AZ(r r':R2)(ta tb tc:TE):TE:=λσ H Q=>ta σ H λx H1=>tb σ H1 λy H2=>r x y H2 λz H3=>∃k,z=.bl k/\
 (if k=dh then tc σ H3 λw' H4=>r' y w' H4 Q else Q (.bl di) H3)
variable {cq:aM}
def UZ(ho:OpR X (ê op) r)(bD:OpR X (ê cq) r')(ha:PE X a ta)(hb:PE X b tb)(hc:PE X c tc)
  (hm:aC [op,cq] [b,c]=di:=by with_unfolding_all rfl):PE X (.Compare a [op,cq] [b,c] ç)<|AZ r r' ta tb tc:=by
 k_upd;refine Compare_chain (thn (ha Â s σ H _ I h) λv s1 ⟨x,H1,I1,r1,q1⟩=>chain_link (thn (hb Â s1 σ H1 _ I1 q1) λu s2 ⟨y,H2,I2,r2,q2⟩ =>
   thn (ho Â s2 σ H2 x y v u _ I2 r1 r2 q2) λd s3 ⟨z,H3,I3,r3,k,e,q3⟩=>?_)) hm
 subst e;cases r3;refine ď ?_;cases k with
 |false=>exact ite_ff ⟨.bl di,H3,I3,rfl,q3⟩
 |true=>exact ite_tt<|chain_last<|thn (hc Â s3 σ H3 _ I3 q3) λw' s4 ⟨z',H4,I4,r4,q4⟩=>bD Â s4 σ H4 y z' u w' Q I4 r2 r4 q4
def A5(ho:OpR X (ê op) r)(bD:OpR X (ê cq) r')(ha:PE X a ta)(hb:PE X b tb)(hc:PE X c tc)
  (hm:aC [op,cq] [b,c]=di:=by with_unfolding_all rfl):PT X (.Compare a [op,cq] [b,c] ç)<|Fa<|AZ r r' ta tb tc:=by
 k_upd;refine isTrue_chain (thn (ha Â s σ H _ I h) λv s1 ⟨x,H1,I1,r1,q1⟩=>test_link (thn (hb Â s1 σ H1 _ I1 q1) λu s2 ⟨y,H2,I2,r2,q2⟩ =>
   thn (ho Â s2 σ H2 x y v u _ I2 r1 r2 q2) λd s3 ⟨z,H3,I3,r3,k,e,q3⟩=>?_)) hm
 subst e;cases r3;refine ď ?_;cases k with
 |false =>let⟨k',e',q'⟩:=q3;cases e';exact ite_ff ⟨H3,I3,q'⟩
 |true =>refine ite_tt<|test_last<|thn (hc Â s3 σ H3 _ I3 q3) λw' s4 ⟨z',H4,I4,r4,q4⟩=>thn (bD Â s4 σ H4 y z' u w' _ I4 r2 r4 q4) λd' s5 ⟨z2,H5,I5,r5,k2,e2,q5⟩=>?_;subst e2;cases r5;exact ď ⟨H5,I5,q5⟩
abbrev Io(K:Frag)(x:V)(H:Hp)(k:Bool):Prop :=
 match x with
 |.non=>k=di
 |.bl b=>k=b
 |.int i=>k=(i != 0)
 |.str y=>y.length<=Ø/\k=((y.length:Int) != 0)
 |.byt y=>y.size<=Ø/\k=((y.size:Int) != 0)
 |.ref p=>(∃xs,eY K H p xs/\k=!xs.isEmpty)\/(∃xs,eZ K H p xs/\k=!xs.isEmpty)\/∃kvs,H p=df (.dK kvs)/\k=!kvs.isEmpty
 |_=>False
def Nh{κ:Type}{kvs:List (κ×V)}{vs:List (κ×Ã)}(r:KV kvs vs):(!vs.isEmpty)=!kvs.isEmpty:=by cases r<;>rfl
def WA{xs:List V}{ð:List Ã}(r:fc xs ð):(!ð.toArray.isEmpty)=!xs.isEmpty:=by cases r<;>simp
def Xa:(Ø:Nat)<2 ^ 63:=by rw[Ĵ];decide
def GO:Px X λx H Q=>∃k,Io X.K x H k/\Q k H:=by
 intro Â s σ H x v Q I rx h;let⟨k,e,q⟩:=h;have hl:=Xa;have hs:Ø=16777216:=Ĵ;cases x with
 |non =>cases rx;have e':k=di:=e;subst e';exact truthy_none ⟨H,I,q⟩
 |bl b =>cases rx;have e':k=b:=e;subst e';exact ď ⟨H,I,q⟩
 |int i =>let⟨t,rfl⟩:=rx;have e':k=(i != 0):=e;subst e';exact PySem.P.truthy_int ⟨H,I,q⟩
 |str y =>let⟨t,rfl⟩:=rx;obtain⟨hy,e'⟩:y.length<=Ø/\k=((y.length:Int) != 0):=e;subst e';exact PySem.P.truthy_str (by lia) ⟨H,I.tok _,q⟩
 |byt y =>let⟨t,rfl⟩:=rx;obtain⟨hy,e'⟩:y.size<=Ø/\k=((y.size:Int) != 0):=e;subst e';exact PySem.W.truthy_bytes (by lia) ⟨H,I.tok _,q⟩
 |ref p =>
  cases rx;have e':(∃xs,eY X.K H p xs/\k=!xs.isEmpty)\/(∃xs,eZ X.K H p xs/\k=!xs.isEmpty)\/∃kvs,H p=df (.dK kvs)/\k=!kvs.isEmpty:=e;rcases e' with⟨xs,hx,e'⟩|⟨xs,hx,e'⟩|⟨kvs,hx,e'⟩
  .subst e';let⟨ð,r,pl,hz⟩:=I.list hx;have hlen:=r.length;exact wpAny_truthy_list pl.isList (by simp![É];lia) ⟨H,I.tok _,by rw[WA r];exact q⟩
  .subst e';let⟨ð,r,pl,hz⟩:=I.tuple hx;have hlen:=r.length;exact truthy_tuple pl (by simp![É];lia) ⟨H,I.tok _,by rw[WA r];exact q⟩
  .subst e';obtain⟨hz,hS,vs,r,m⟩:kvs.length<=Ø/\(p==Ń)=di/\∃vs,KV kvs vs/\s.heap.DictOf (Zj X.prog X.w) p vs:=I.hok p _ hx;have hlen:kvs.length=vs.length:=Paired.length r;exact wpAny_truthy_dict hS m (by lia) ⟨H,I.tok _,by rw[Nh r];exact q⟩
 |_=>exact(show False from e).elim
def BN(ha:PE X a ta)(he:∀ϱ,bq a X.env ϱ=(do let v<-ϱ;ς a.pos;Ŕ [v] (truthy v))) :
  PT X a (λσ H Q=>ta σ H λx H'=>∃k,Io X.K x H' k/\Q k H'):=by
 k_upd;exact isTrue_plain (thn (ha Â s σ H _ I h) λv s1 ⟨x,H1,I1,r1,q1⟩=>GO Â s1 σ H1 x v Q I1 r1 q1)<|he _
def Nq:OpR X (ĳ .Add) λx y H Q=>∃i j,x=.str i/\y=.str j/\i.length+j.length<=Ø/\Q (.str<|i++j) H:=by k_ne;let⟨i,j,rfl,rfl,hz,q⟩:=h;let⟨t,rfl⟩:=rx;let⟨t',rfl⟩:=ry;exact add_str (λt' tk=>⟨.str<|i++j,H,I.tok _,⟨_,rfl⟩,q⟩) hz
variable {x:V} {us:List Ã}
def Z9(r:fc [x] us):∃u,us=[u]/\RelV x u:=by
 cases r with
 |cons r1 r2=>cases r2;exact⟨_,rfl,r1⟩
def Ez{y:V}(r:fc [x,y] us):∃u w',us=[u,w']/\RelV x u/\RelV y w':=by
 cases r with
 |cons r1 r2 =>
  cases r2 with
  |cons r3 r4=>cases r4;exact⟨_,_,rfl,r1,r3⟩
def call_int1:dB X (.type "int") λxs H Q=>(∃i,xs=[.int i]/\Q (.int i) H)\/∃k,xs=[.bl k]/\Q (.int<|if k then 1 else 0) H:=by
 k_put;rcases h with⟨i,rfl,q⟩|⟨k,rfl,q⟩
 .obtain⟨u,rfl,t,rfl⟩:=Z9 r;exact call_int_int ⟨.int i,H,I,⟨_,rfl⟩,q⟩
 .obtain⟨u,rfl,r1⟩:=Z9 r;cases r1;exact call_int_bool ⟨.int (if k then 1 else 0),H,I.tok _,⟨_,rfl⟩,q⟩
end
structure ObjM(h:ù)(x dx C:Ç)(mA:Str->Option Ã):Prop where
 obj:h.get? x=df (PySem.W.instObj C dx)
 ns:h.Ns1 dx mA
 ne:dx≠x
variable {h:ù} {dx:Ç} {mA:Str->Option Ã}
def OL(n:h.Ns1 dx mA):∃od,h.get? dx=df od/\∀name,PySem.W.lookIn name od=df (mA name):=by
 let⟨o,es,ep,ho,hd,hk,_,hm⟩:=n;refine⟨o,ho,λname=>?_⟩;have e:=hm name;unfold nsFind findBy at e;rw[<-Array.find?_toList]at e;unfold PySem.W.lookIn;rw[hd];dsimp only;split
 .rename_i y q;rw[q]at e;exact congrArg df e
 .rename_i q;rw[q]at e;have a:es.toList.any (·.refKey)=di:=by
   rw[List.any_eq_false];intro y hy;let⟨z,t,hkey⟩:=hk y<|Array.mem_toList_iff.mp hy;simp[DictEntry.refKey,hkey]
  have a':¬ es.toList.any (·.refKey)=dh:=by rw[a];exact é
  rw[fo a'];exact congrArg df e
variable {C:Ç}
def ObjM.look{x:Ç}(I:ObjM h x dx C mA):∃od,PySem.W.InstAt h x (PySem.W.instObj C dx) C (df od)/\∀name,PySem.W.lookIn name od=df (mA name) :=
 let ⟨od,ho,hl⟩:=OL I.ns
 ⟨od,⟨I.obj,rfl,rfl,ho⟩,hl⟩
section
variable {prog:ä}{w:ü}{A:ċ}{E:Ã->Å->Prop}{s:Å}{K:Frag}{x dx C f:Ç}{mA:Str->Option Ã}{name:Str}{v:Ã}
def DK{expr:Bool}{Q:Ã->Å->Prop}(X:K.In s.heap)(I:ObjM s.heap x dx C mA)(hg:PySem.W.plainGet K C name=dh)(hh:PySem.W.hasDictIn K C=dh)
  (ha:PySem.W.findIn K (.ref C) name=df dg) (hv:mA name=df v) (hv':PySem.W.handedIn v=dh) (h:Q v {s with toks:=s.toks+1}) :
  wpAny (Û prog w) A (getAttr (.ref x) name expr) Q E s:=by
 let⟨od,J,hl⟩:=I.look;exact PySem.W.get_value X J (PySem.W.plainGet_of hg).1 (PySem.W.findObj_own hh ha rfl<|by rw[hl,hv]) hv' h
def U3{pl:Sem Bool}{Q:Ã×List Ã->Å->Prop}(X:K.In s.heap)(I:ObjM s.heap x dx C mA)(hg:PySem.W.plainGet K C name=dh)
  (hf:PySem.W.findIn K (.ref C) name=df (df<|.ref f)) (ht:PySem.W.isFn K (.ref f)=dh) (hv:mA name=dg) (h:Q (.ref f,[.ref x]) s) :
  wpAny (Û prog w) A (Ζ (.ref x) name pl) Q E s:=by
 let⟨od,J,hl⟩:=I.look;exact PySem.W.method_fn X J (PySem.W.plainGet_of hg).1 (PySem.W.plainGet_of hg).2 hf (beq_iff_eq.mp ht) (by show(PySem.W.lookIn name od).map (·.isSome)=df di;rw[hl,hv];rfl) h
def CU{ns:List Str}{Q:Unit->Å->Prop}(X:K.In s.heap)(I:ObjM s.heap x dx C mA)
  (hs:PySem.W.findIn K (.ref C) "__setattr__" = df (df<|.builtin "object.__setattr__")) (hp:PySem.W.plainOver K C=dh) (ht:PySem.W.takerIn K C name=df dg) (hh:PySem.W.hasDictIn K C=dh)
  (hw:PySem.Within mA ns) (hsz:ns.length<=Ø)
  (h:∀h',ObjM h' x dx C (λy=>if y=name then df v else mA y)->Ũ dx s.heap h'->Q () {s with heap:=h',toks:=s.toks+2}) :
  wpAny (Û prog w) A (setAttr (.ref x) name v) Q E s:=by
 let⟨od,J,hl⟩:=I.look;refine PySem.W.set_plain X J hs<|PySem.W.osa_open (s:={s with toks:=s.toks+1}) (r:=dg) X J hp ht λb=>?_;let⟨cd,hc,hd'⟩:=PySem.W.any_some hh;have hx:s.heap.get? x=df ⟨.ref C,df dx,.plain,#[]⟩:=I.obj;refine À<|Ë<|À<|À<|wpAny_loadPart hx<|À<|PySem.W.Looks.here (s:={s with toks:=s.toks+1}) (PySem.W.looks_clsIn X hc) ?_;rw[hd'];refine Ë (a:=df dx)<|À<|Ë<|À ?_;refine wpAny_nsSet1 (s:={s with toks:=s.toks+1}) I.ns λh' hn2 hs2=>?_;let⟨oD,esD,epD,hoD,hdD,hcD⟩:=hn2.count<|PySem.Within.cons name v hw;refine À (wpAny_lookBehind hoD (by rw[hdD];exact pastItsLine_dict<|Ü hcD<|by rw[Î];lia) ?_);exact Ë<|h _ ⟨(hs2.2 _<|Ne.symm I.ne).trans I.obj,hn2,I.ne⟩ hs2
def A9{R:Result->Å->Prop}{vs:List Ã}{kw:List (Str×Ã)}(X:K.In s.heap)(hm:PySem.W.makesIn K C=dh)
  (hi:PySem.W.findIn K (.ref C) "__init__" = df (df<|.ref f)) (hf:PySem.W.typeIn K (.ref f)=df (.type "function"))
  (h:codeAny (Û prog w) (A.under<|.builtin "type.__call__" ⟨.ref C::vs,kw⟩) (.call (.ref f) ⟨.ref (s.heap.objs.size+1)::vs,kw⟩) (PySem.W.InitBack (s.heap.objs.size+1) R)
    { s with heap:=(s.heap.push PySem.W.emptyDict).push (PySem.W.instObj C s.heap.objs.size) }) :
  codeAny (Û prog w) A (.call (.ref C) ⟨vs,kw⟩) R s:=by
 let⟨hh,g,d,t,os⟩:=s;exact PySem.W.make_core (PySem.W.makes_of X hm) (PySem.W.looks_findIn X hi) (λself=>PySem.W.bind_fn X self hf) (.inl rfl) h
end
abbrev dJ(f:Str)(v:V):List (Str×V)->List (Str×V)
 |[]=>[(f,v)]
 |(g,x)::r=>if g=f then(g,v)::r else(g,x)::dJ f v r
def XZ(f g:Str)(v:V):∀fs:List<|Str×V,(dJ f v fs).lookup g=if g=f then df v else fs.lookup g
 |[]=>by
  show ţ g [(f,v)]=_;by_cases h:g=f
  .have hb:(g==f)=dh:=beq_iff_eq.mpr h;simp![ţ,hb,fm h]
  .have hb:(g==f)=di:=beq_eq_false_iff_ne.mpr h;simp![ţ,hb,fo h]
 |(k,x)::r=>by
  have ih:=XZ f g v r;rw[show dJ f v ((k,x)::r)=(if k=f then(k,v)::r else(k,x)::dJ f v r) from rfl];by_cases hk:k=f
  .rw[fm hk];by_cases h:g=k
   .have hb:(g==k)=dh:=beq_iff_eq.mpr h;simp![ţ,hb,fm<|h.trans hk]
   .have hb:(g==k)=di:=beq_eq_false_iff_ne.mpr h;simp![ţ,hb,fo λe:g=f=>h<|e.trans hk.symm]
  .rw[fo hk];by_cases h:g=k
   .have hb:(g==k)=dh:=beq_iff_eq.mpr h;simp![ţ,hb,fo λe:g=f=>hk<|h.symm.trans e]
   .have hb:(g==k)=di:=beq_eq_false_iff_ne.mpr h;simp![ţ,hb];exact ih
def XJ(f:Str)(v:V):∀fs:List<|Str×V,f∈(dJ f v fs).map (·.1)/\∀g,g∈fs.map (·.1)->g∈(dJ f v fs).map (·.1)
 |[]=>⟨by simp[dJ],λg h=>by simp at h⟩
 |(k,x)::r=>by
  let⟨i1,i2⟩:=XJ f v r;rw[show dJ f v ((k,x)::r)=(if k=f then(k,v)::r else(k,x)::dJ f v r) from rfl];by_cases hk:k=f
  .rw[fm hk];subst hk;exact⟨by simp,λg h=>⇑h⟩
  .rw[fo hk];refine⟨?_,λg h=>?_⟩
   .rw[È];exact Ù _ i1
   .rw[È]at h ⊢;rcases Æ.mp h with e|e
    .exact Æ.mpr<|.inl e
    .exact Ù _<|i2 g e
def XX(f:Str)(v:V):∀fs:List<|Str×V,(dJ f v fs).length<=fs.length+1
 |[]=>by simp[dJ]
 |(k,x)::r=>by
  have ih:=XX f v r;rw[show dJ f v ((k,x)::r)=(if k=f then(k,v)::r else(k,x)::dJ f v r) from rfl];by_cases hk:k=f
  .rw[fm hk,Î,Î];lia
  .rw[fo hk,Î,Î];lia
variable {o:Option Ã}
def dU.some_of{v:V}(r:dU (df v) o):∃u,o=df u/\RelV v u:=by
 cases o with
 |none=>exact(show False from r).elim
 |some u=>exact⟨u,rfl,r⟩
def dU.none_of(r:dU dg o):o=dg:=by
 cases o with
 |none=>rfl
 |some u=>exact(show False from r).elim
variable {u:Ã}
def OW{v:V}(r:RelV v u):PySem.W.handedIn u=dh:=by
 cases v with
 |non=>cases (show u=Value.none from r);rfl
 |bl b=>cases (show u=Value.bool b from r);rfl
 |int i=>let⟨t,e⟩:=(show ∃t,u=Value.int i t from r);cases e;rfl
 |str x=>let⟨t,e⟩:=(show ∃t,u=Value.str x t from r);cases e;rfl
 |byt b=>let⟨t,e⟩:=(show ∃t,u=Value.bytes b t from r);cases e;rfl
 |flt b=>let⟨t,e⟩:=(show ∃t,u=Value.float b t from r);cases e;rfl
 |ref a=>cases (show u=Value.ref a from r);rfl
 |ty n=>cases (show u=Value.type n from r);rfl
section
variable {P:ä}{w:ü}{H H':Hp}{h h':ù}{a C dx:Ç}{fs fs':List (Str×V)}
def Wp(hok:HOk P w H h)(e:H a=df (.ins C dx fs)):∃mA,ObjM h a dx C mA/\(∀f,dU (fs.lookup f)<|mA f)/\PySem.Within mA (fs.map (·.1))/\fs.length<=1000/\H dx=df (.own a):=by
 let⟨d,z,ne,ob,mA,n,r,q⟩:=(show dC P w H h a (.ins C dx fs) from hok a _ e)
 exact⟨mA,⟨ob,n,ne⟩,r,q,z,d⟩
end
structure Cls(K:Frag)(C:Ç):Prop where
 pg:PySem.W.plainGet K C Str.empty=dh
 hd:PySem.W.hasDictIn K C=dh
 po:PySem.W.plainOver K C=dh
 sa:PySem.W.findIn K (.ref C) "__setattr__" = df (df<|.builtin "object.__setattr__")
def Cls.get{K:Frag}(c:Cls K C)(f:Str):PySem.W.plainGet K C f=dh:=c.pg
abbrev NoAttr(K:Frag)(C:Ç)(f:Str):Prop:=PySem.W.findIn K (.ref C) f=df dg
def NoAttr.taker{K:Frag}{f:Str}(n:NoAttr K C f):PySem.W.takerIn K C f=df dg:=by unfold PySem.W.takerIn;rw[show PySem.W.findIn K (.ref C) f=df dg from n];rfl
structure Meth(K:Frag)(C:Ç)(m:Str)(f:Ç):Prop where
 at_:PySem.W.findIn K (.ref C) m=df (df<|.ref f)
 fn:PySem.W.isFn K (.ref f)=dh
 kp:PySem.W.keepIn K (.ref f)=dh
section
variable {X:Cx}{Â:List (Ç×Obj)}{σ:St}{H:Hp}{s:Å}{a C dx:Ç}{fs:List (Str×V)}{f:Str}{v:V}{A:ċ}{E:Ã->Å->Prop}
variable {Q:Ã->Å->Prop}
def WV{b:Bool}(I:Inv X Â σ H s)(e:H a=df (.ins C dx fs))(c:Cls X.K C)(n:NoAttr X.K C f)(l:fs.lookup f=df v)
  (h:∀u s',Inv X Â σ H s'->RelV v u->Q u s'):wpAny (Û X.prog X.w) A (getAttr (.ref a) f b) Q E s:=by
 let⟨mA,O,r,_,_,_⟩:=Wp I.hok e;let⟨u,hu,ru⟩:=dU.some_of (v:=v) (o:=mA f) (by rw[<-l];exact r f);exact DK I.kIn O (c.get f) c.hd n hu (OW ru)<|h u _ (I.tok _) ru
def WY{m:Str}{g:Ç}{pl:Sem Bool}{Q:Ã×List Ã->Å->Prop}(I:Inv X Â σ H s)(e:H a=df (.ins C dx fs))(c:Cls X.K C)(k:Meth X.K C m g)(l:fs.lookup m=dg)
  (h:Q (.ref g,[.ref a]) s):wpAny (Û X.prog X.w) A (Ζ (.ref a) m pl) Q E s:=by
 let⟨mA,O,r,_,_,_⟩:=Wp I.hok e;have hn:mA m=dg:=dU.none_of (by rw[<-l];exact r m);exact U3 I.kIn O (c.get m) k.at_ k.fn hn h
def WX{y:V}{Q:Unit->Å->Prop}(I:Inv X Â σ H s)(e:H a=df (.ins C dx fs))(c:Cls X.K C)(n:NoAttr X.K C f)(hl:fs.length<1000)(ry:RelV y u)
  (h:∀s',Inv X Â σ (upd H a<|.ins C dx<|dJ f y fs) s'->Q () s'):wpAny (Û X.prog X.w) A (setAttr (.ref a) f u) Q E s:=by
 let⟨mA,O,r,wi,_,ho⟩:=Wp I.hok e;have hz:(fs.map (·.1)).length<=Ø:=by rw[Á,Ĵ];lia
 refine CU I.kIn O c.sa c.po n.taker c.hd wi hz λh' O' sb=>h _ ?_;have hd:∃o,h'.get? dx=df o:=let ⟨o,_,_,e',_⟩:=O'.ns;⟨o,e'⟩;refine I.write (x:=a) (e:=dx) (by rw[e];exact True.intro) (.inr ho) (λb q hb z=>(sb.2 b hb).trans z) hd ?_;refine⟨by rw[dj O.ne];exact ho,?_,O.ne,O'.obj,_,O'.ns,λg=>?_,λg hg=>?_⟩
 .have:=XX f y fs;lia
 .show dU ((dJ f y fs).lookup g) (if g=f then df u else mA g);rw[XZ];by_cases q:g=f
  .rw[fm q,fm q];exact ry
  .rw[fo q,fo q];exact r g
 .by_cases q:g=f
  .rw[q];exact(XJ f y fs).1
  .refine(XJ f y fs).2 g<|wi g λz=>hg ?_;show(if g=f then df u else mA g)=dg;rw[fo q];exact z
def Inv.made(I:Inv X Â σ H s):Inv X Â σ (upd (upd H s.heap.objs.size<|.own<|s.heap.objs.size+1) (s.heap.objs.size+1)<|.ins C s.heap.objs.size [])
  {s with heap:=(s.heap.push PySem.W.emptyDict).push (PySem.W.instObj C s.heap.objs.size)}:=by
 have e1:(s.heap.push PySem.W.emptyDict).get? s.heap.objs.size=df PySem.W.emptyDict:=Ö s.heap rfl;have e2:((s.heap.push PySem.W.emptyDict).push<|PySem.W.instObj C s.heap.objs.size).get? (s.heap.objs.size+1)=df (PySem.W.instObj C s.heap.objs.size):=by
  have:=Ö (s.heap.push PySem.W.emptyDict) (o:=PySem.W.instObj C s.heap.objs.size) rfl
  rwa [ħ]at this
 have e3:(s.heap.push PySem.W.emptyDict).Ns s.heap.objs.size λ_=>dg:=⟨PySem.W.emptyDict,#[],_,e1,rfl,(λe he=>fA he<|by simp),λ_=>rfl⟩
 have I1:=I.laid (a:=s.heap.objs.size) (o:=.own<|s.heap.objs.size+1) (h':=s.heap.push PySem.W.emptyDict) (t':=s.toks) (λb u q=>Ä _ q) (Ê _) ⟨_,e1⟩;refine I1.laid (a:=s.heap.objs.size+1) (o:=.ins C s.heap.objs.size []) (t':=s.toks) (λb u q=>Ä _ q) (Nat.le_of_eq<|ħ _ _) ?_;have ne:s.heap.objs.size≠s.heap.objs.size+1:=è<|Ļ _;refine⟨by rw[dj ne,dm],Ĥ _,ne,e2,λ_=>dg,(Heap.Ns1.of_empty e3).at λo q=>Ä _ q,λ_=>True.intro,λy hy=>fA rfl hy⟩
def C5{prog:ä}{w:ü}{env:Env}{e:Expr}{ç:Pos}(hb:ė e f env (eval e env)=eval e env)
  (h:wpAny (Û prog w) A (eval e env) (λo Ĝ=>wpAny (Û prog w) A (getAttr o f dh) Q E Ĝ) E s):wpAny (Û prog w) A (eval (.Attribute e f ç) env) Q E s :=
 Attribute_any_ h (by rw[arm_eval_Attribute,hb])
end
abbrev LZ(K:Frag)(ta:TE)(f:Str):TE:=λσ H Q=>ta σ H λx H1=>∃a C dx fs v,x=.ref a/\H1 a=df (.ins C dx fs)/\Cls K C/\NoAttr K C f/\fs.lookup f=df v/\Q v H1
abbrev Ph(K:Frag)(ta tv:TE)(f:Str):TS:=λD σ H=>tv σ H λy H1=>ta σ H1 λx H2=>∃a C dx fs,x=.ref a/\H2 a=df (.ins C dx fs)/\Cls K C/\NoAttr K C f/\fs.length<1000/\
 D.nx σ (upd H2 a<|.ins C dx<|dJ f y fs)
abbrev Aj(X:Cx)(op:ae)(rd:V->V->Hp->VK->Prop):Prop :=
 ∀(Â:List<|Ç×Obj) (s:Å) (σ:St) (H:Hp) (x y:V) (u v:Ã) (Q:VK),Inv X Â σ H s->RelV x u->RelV y v->rd x y H Q->wpAny (Û X.prog X.w) X.A (inplaceOp op u v) (EP X Â σ Q) X.xe s
abbrev Du(K:Frag)(ta tv:TE)(rd:V->V->Hp->VK->Prop)(f:Str):TS:=λD σ H=>ta σ H λx H1=>∃a C dx fs v,x=.ref a/\H1 a=df (.ins C dx fs)/\Cls K C/\NoAttr K C f/\fs.lookup f=df v/\
 tv σ H1 λy H2=>rd v y H2 λz H3=>∃dx' fs',H3 a=df (.ins C dx' fs')/\fs'.length<1000/\D.nx σ (upd H3 a<|.ins C dx'<|dJ f z fs')
section
variable {X:Cx}{o e ŧ:Expr}{f:Str}{ç aH tpos:Pos}{ta tv:TE}
def FP(he:PE X e ta)(hb:ė e f X.env (eval e X.env)=eval e X.env):PE X (.Attribute e f ç)<|LZ X.K ta f:=by k_upd;refine C5 hb<|thn (he Â s σ H _ I h) λu s1 ⟨x,H1,I1,rx,a,C,dx,fs,v,ex,ea,c,n,l,q⟩=>?_;subst ex;obtain rfl:u=Value.ref a:=rx;exact WV I1 ea c n l λu' s2 I2 ru=>⟨v,H1,I2,ru,q⟩
def Gq(ha:PE X o ta)(hv:PE X ŧ tv)(hs:ś ŧ (df<|.Attribute o f aH) ç.line X.env=pure di):PS X (.Assign [.Attribute o f aH] ŧ ç)<|Ph X.K ta tv f:=by intro Â s σ H D I h;refine plainObj_wpAny_Assign_Attribute (thn (hv Â s σ H _ I h) λu s1 ⟨y,H1,I1,ry,q⟩=>thn (ha Â s1 σ H1 _ I1 q) λov s2 ⟨x,H2,I2,rx,a,C,dx,fs,ex,ea,c,n,l,q2⟩=>?_) hs;subst ex;obtain rfl:ov=Value.ref a:=rx;exact WX I2 ea c n l ry λs3 I3=>⟨σ,_,I3,q2⟩
def O2{op:ae}{rd:V->V->Hp->VK->Prop}(ha:PE X o ta)(hv:PE X ŧ tv)(hop:Aj X op rd):PS X (.AugAssign (.Attribute o f tpos) op ŧ ç)<|Du X.K ta tv rd f:=by intro Â s σ H D I h;refine wpAny_AugAssign_AttributeAny<|thn (ha Â s σ H _ I h) λov s1 ⟨x,H1,I1,rx,a,C,dx,fs,v,ex,ea,c,n,l,q⟩=>?_;subst ex;obtain rfl:ov=Value.ref a:=rx;refine WV I1 ea c n l λu s2 I2 ru=>thn (hv Â s2 σ H1 _ I2 q) λw3 s3 ⟨y,H2,I3,ry,q3⟩=>thn (hop Â s3 σ H2 v y u w3 _ I3 ru ry q3) λw4 s4 ⟨z,H3,I4,rz,dx',fs',ea',l',q4⟩=>?_;exact WX I4 ea' c n l' rz λs5 I5=>⟨σ,_,I5,q4⟩
abbrev LL:V->V->Hp->VK->Prop:=λx y H Q=>∃i j,x=.int i/\y=.int j/\Q (.int<|i+j) H
abbrev Pb:V->V->Hp->VK->Prop:=λx y H Q=>∃i j,x=.int i/\y=.int j/\Q (.int<|i - j) H
def GR:Aj X .Add LL:=by
 rintro Â s σ H x y u v Q I rx ry ⟨i,j,rfl,rfl,q⟩;let⟨t,rfl⟩:=(show ∃t,u=Value.int i t from rx)
 let⟨t',rfl⟩:=(show ∃t',v=Value.int j t' from ry)
 exact PyProof.Rows.iadd_int ⟨.int<|i+j,H,I.tok _,⟨_,rfl⟩,q⟩
def Gy:Aj X .Sub Pb:=by
 rintro Â s σ H x y u v Q I rx ry ⟨i,j,rfl,rfl,q⟩;let⟨t,rfl⟩:=(show ∃t,u=Value.int i t from rx)
 let⟨t',rfl⟩:=(show ∃t',v=Value.int j t' from ry)
 exact PyProof.Rows.isub_int ⟨.int<|i - j,H,I.tok _,⟨_,rfl⟩,q⟩
end
section
variable {X:Cx}{Â:List (Ç×Obj)}{σ:St}{H:Hp}{s:Å}{A:ċ}{E:Ã->Å->Prop}{Q:Ã->Å->Prop}{c:Ã}{b:Bool}
inductive eS (K:Frag) (H:Hp):V->Ã->Prop where
 |non:eS K H .non<|.type "NoneType"
 |bl (x:Bool):eS K H (.bl x)<|.type "bool"
 |int (i:Int):eS K H (.int i)<|.type "int"
 |str (x:Str):eS K H (.str x)<|.type "str"
 |flt (x:UInt64):eS K H (.flt x)<|.type "float"
 |lst {a:Ç}{xs:List V}(e:H a=df (.lst xs)):eS K H (.ref a)<|.type "list"
 |frz {a:Ç}{o:Obj}{xs:List V}(e:H a=df (.frz o<|.lst xs)):eS K H (.ref a)<|.type "list"
 |tup {a:Ç}{xs:List V}(e:H a=df (.tup xs)):eS K H (.ref a)<|.type "tuple"
 |dK {a:Ç}{kvs:List (Key×V)}(e:H a=df (.dK kvs)):eS K H (.ref a)<|.type "dict"
 |dT {a:Ç}{kvs:List (List Key×V)}(e:H a=df (.dT kvs)):eS K H (.ref a)<|.type "dict"
 |ins {a C dx:Ç}{fs:List (Str×V)}(e:H a=df (.ins C dx fs)) (cl:Cls K C) (ha:PySem.W.findIn K (.ref C) "__class__" = df (df<|.builtin "object.__class__"))
   (hn:PySem.W.specialIn K (.builtin "object.__class__") "__get__" = df (df<|.builtin "getset_descriptor.__get__")) (htk:PySem.W.takesIn K (.builtin "object.__class__")=df dh)
   (hm:PySem.W.mroIn K C (.type "object")=df dh):eS K H (.ref a)<|.ref C
def OT{x:V}{t:Ã}(I:Inv X Â σ H s)(rx:RelV x u)(ty:eS X.K H x t)(e:PySem.W.kitOne X.K t c=df b)(h:∀tk,Q (.bool b) {s with toks:=tk}) :
  wpAny (Û X.prog X.w) A (call (.builtin "isinstance") [u,c]) Q E s:=by
 cases ty with
 |non=>cases (show u=Value.none from rx);exact PySem.W.kia_one PySem.W.kitx_none I.kIn True.intro e (λz=>nomatch z) h
 |bl y=>cases (show u=Value.bool y from rx);exact PySem.W.kia_one PySem.W.kitx_bool I.kIn True.intro e (λz=>nomatch z) h
 |int i=>let⟨t,q⟩:=(show ∃t,u=Value.int i t from rx);cases q;exact PySem.W.kia_one PySem.W.kitx_int I.kIn True.intro e (λz=>nomatch z) h
 |str y=>let⟨t,q⟩:=(show ∃t,u=Value.str y t from rx);cases q;exact PySem.W.kia_one PySem.W.kitx_str I.kIn True.intro e (λz=>nomatch z) h
 |flt y=>let⟨t,q⟩:=(show ∃t,u=Value.float y t from rx);cases q;exact PySem.W.kia_one PySem.W.kitx_float I.kIn True.intro e (λz=>nomatch z) h
 |@lst a xs ea =>
  cases (show u=Value.ref a from rx);let⟨_,_,n,_,h1⟩:=(show dC X.prog X.w H s.heap a (.lst xs) from I.hok a _ ea)
  exact PySem.W.kia_one PySem.W.kitx_list I.kIn ⟨_,h1,rfl⟩ e (λz=>nomatch z) h
 |@frz a ob xs ea =>
  cases (show u=Value.ref a from rx);let⟨_,_,_,n,_,h1⟩:=(show dC X.prog X.w H s.heap a (.frz ob<|.lst xs) from I.hok a _ ea)
  exact PySem.W.kia_one PySem.W.kitx_list I.kIn ⟨_,h1,rfl⟩ e (λz=>nomatch z) h
 |@tup a xs ea =>
  cases (show u=Value.ref a from rx);let⟨_,_,_,p⟩:=(show dC X.prog X.w H s.heap a (.tup xs) from I.hok a _ ea)
  let⟨o,h1,h2,_⟩:=p;exact PySem.W.kia_one PySem.W.kitx_tuple I.kIn ⟨o,h1,h2⟩ e (λz=>nomatch z) h
 |@dK a kvs ea =>
  cases (show u=Value.ref a from rx);let⟨_,_,vs,_,p⟩:=(show dC X.prog X.w H s.heap a (.dK kvs) from I.hok a _ ea)
  let⟨o,es,ep,h1,h2,_⟩:=p;exact PySem.W.kia_one PySem.W.kitx_dict I.kIn ⟨o,h1,h2.1⟩ e (λz=>nomatch z) h
 |@dT a kvs ea =>
  cases (show u=Value.ref a from rx);let⟨_,_,xs,_,o,es,ep,h1,h2,_⟩:=(show dC X.prog X.w H s.heap a (.dT kvs) from I.hok a _ ea)
  exact PySem.W.kia_one PySem.W.kitx_dict I.kIn ⟨o,h1,h2.1⟩ e (λz=>nomatch z) h
 |@ins a C dx fs ea cl ha hn htk hm =>cases (show u=Value.ref a from rx);let⟨mA,O,_⟩:=Wp I.hok ea;let⟨od,J,_⟩:=O.look;exact PySem.W.kia_one (PySem.W.kitx_own (cl.get _) cl.hd ha hn htk hm) I.kIn J e (λz=>nomatch z) h
end
structure dW(k:Nat)(A:ċ):Prop where
 hd:A.handled=dg
 dp:A.depth+3*k+5<recursionLimit
 un:A.units+16*k+200<ğ
variable {A:ċ}
def dW.mono{j k:Nat}(r:dW k A)(h:j<=k):dW j A:=⟨r.hd,by have:=r.dp;lia,by have:=r.un;lia⟩
def dW.deeper{k:Nat}(r:dW (k+1) A)(env:Env):dW k (A.deeper env) :=
 ⟨r.hd,by have:=r.dp;show A.depth+1+3*k+5<_;lia,by have:=r.un;show A.units+3+16*k+200<_;lia⟩
variable {C:Ç} {us:List Ã} {kw:List (Str×Ã)}
def NH:(A.under<|.builtin "type.__call__" ⟨.ref C::us,kw⟩).depth=A.depth+1:=by
 first|rfl|simp[aN,Code.weight,Code.isCreation,Code.isGuard,Code.isCaller,Code.frames,bd,guardIds]
def Nc:(A.under<|.builtin "type.__call__" ⟨.ref C::us,kw⟩).units=A.units+1:=by
 first|rfl|simp[aN,Code.cUnits,Code.frames,bd]
def dW.make{k:Nat}(r:dW (k+1) A)(C:Ç)(us:List Ã)(kw:List<|Str×Ã):dW k (A.under<|.builtin "type.__call__" ⟨.ref C::us,kw⟩) :=
 ⟨r.hd,by have:=r.dp;rw[NH];lia,by have:=r.un;rw[Nc];lia⟩
def dW.depth{k:Nat}(r:dW k A):A.depth<recursionLimit:=by have:=r.dp;lia
abbrev DA:TA:=λ_ H Q=>Q [] H
abbrev EU(ta:TE)(tr:TA):TA:=λσ H Q=>ta σ H λx H1=>tr σ H1 λxs H2=>Q (x::xs) H2
section
variable {X:Cx}{e:Expr}{es:List Expr}{te:TE}{t:TA}{ç:Pos}
def eW:PA X [] DA:=λ_ _ _ _ H Q I h=>Calls.spliced_nil ⟨[],H,I,.nil,h⟩
def Yd(ha:PE X e te)(hr:PA X es t)(hs:Ñ (e::es) X.env=(di,eval e X.env)::Ñ es X.env:=by rfl):PA X (e::es)<|EU te t:=by intro ç Â s σ H Q I h;rw[hs];show wpAny _ _ (spliced<|(di,eval e X.env)::Ĕ ç (Ñ es X.env)) _ _ s;refine Calls.spliced_cons<|thn (ha Â s σ H _ I h) λu s1 ⟨x,H1,I1,r1,q1⟩=>?_;exact thn (hr ç Â s1 σ H1 _ I1 q1) λus s2 ⟨xs,H2,I2,r2,q2⟩=>⟨x::xs,H2,I2,.cons r1 r2,q2⟩
abbrev Pe(t:TA):TE:=λσ H Q=>t σ H λxs H1=>xs.length<=Ø/\∀p,H1 p=dg->Q (.ref p) (upd H1 p<|.tup xs)
abbrev Pu(t:TA):TE:=λσ H Q=>t σ H λxs H1=>xs.length<=Ø/\∀p,H1 p=dg->Q (.ref p) (upd H1 p<|.lst xs)
def Fo{x1}(h:PA X es t):PE X (.Tuple es x1 ç)<|Pe t:=by intro Â s σ H Q I hq;refine wpAny_Tuple_spliced (thn (h ç Â s σ H _ I hq) λus s1 ⟨xs,H1,I1,r,z,q⟩=>⟨by rw[<-r.length];exact z,?_⟩);have hf:H1 s1.heap.objs.size=dg:=I1.hok.fresh<|Ê _;refine⟨.ref s1.heap.objs.size,upd H1 s1.heap.objs.size<|.tup xs,I1.laid (t':=s1.toks) (λb u e=>Ä _ e) (Ê _) ?_,rfl,q _ hf⟩;exact⟨z,us,r,⟨_,Ö _ rfl,rfl,_,rfl⟩⟩
def Ff(h:PA X es t):PE X (.List es ç)<|Pu t:=by intro Â s σ H Q I hq;refine wpAny_List_spliced (thn (h ç Â s σ H _ I hq) λus s1 ⟨xs,H1,I1,r,z,q⟩=>⟨by rw[<-r.length];exact z,?_⟩);have hf:H1 s1.heap.objs.size=dg:=I1.hok.fresh<|Ê _;refine⟨.ref s1.heap.objs.size,upd H1 s1.heap.objs.size<|.lst xs,I1.laid (t':=s1.toks) (λb u e=>Ä _ e) (Ê _) ?_,rfl,q _ hf⟩;exact⟨z,us,0,r,Ö _ rfl⟩
end
noncomputable abbrev Sp:=List V->Hp->VK->XK->Prop
noncomputable abbrev CXT:=List Env->Hp->Å->XK->Ã->Å->Prop
structure Env0(P:ä)(w:ü)(K:Frag)(mg:Str->Option Ã)(base:ù)(A:ċ)(outer:List Env)(s:Å)(H:Hp):Prop where
 frames:A.frames=df outer
 mod:Mod K mg base
 bs:∀b o,base.get? b=df o->s.heap.get? b=df o/\H b=dg
 bsz:base.objs.size<=s.heap.objs.size
 funs:s.heap.FunFrames base outer
 frf:∀b∈frs outer,H b=dg
 hok:HOk P w H s.heap
 bare:π s.gens
abbrev CE(outer:List Env)(P:ä)(w:ü)(H:Hp)(s:Å)(Q:VK)(u:Ã)(s':Å):Prop :=
 ∃v H',s'.os=s.os/\π s'.gens/\Un (frs outer) [] H H' s.heap s'.heap/\HOk P w H' s'.heap/\RelV v u/\Q v H'
abbrev CR(CX:CXT)(outer:List Env)(P:ä)(w:ü)(H:Hp)(s:Å)(Q:VK)(E:XK)(r:Result)(s':Å):Prop :=
 match r with
 |.ok (.ret u)=>CE outer P w H s Q u s'
 |.ok _=>False
 |.error e=>CX outer H s E e s'
structure dX(P:ä)(w:ü)(K:Frag)(mg:Str->Option Ã)(base:ù)(CX:CXT)(k:Nat)(f:Ç)(fd:ĵ)(ps:List Str)(sp:Sp):Prop where
 len:∀vs H Q E,sp vs H Q E->vs.length=ps.length
 run:∀(A:ċ) (outer:List Env) (s:Å) (H:Hp) (args:Args) (us:List Ã) (vs:List V) (Q:VK) (E:XK),dW k A->Env0 P w K mg base A outer s H->BindsTo s fd args (ps.zip us)->fc vs us->sp vs H Q E->
  codeAny (Û P w) A (.call (.ref f) args) (CR CX outer P w H s Q E) s
variable {P:ä} {w:ü} {mg:Str->Option Ã} {base:ù} {outer:List Env} {s:Å} {H:Hp}
def Env0.make{K:Frag}(e:Env0 P w K mg base A outer s H)(C:Ç)(us:List Ã)(kw:List<|Str×Ã) :
  Env0 P w K mg base (A.under<|.builtin "type.__call__" ⟨.ref C::us,kw⟩) outer s H:=⟨by first|exact e.frames|(simpa[aN,Code.envs,bd,pushEnvs]using e.frames),e.mod,e.bs,e.bsz,e.funs,e.frf,e.hok,e.bare⟩
section
variable {X:Cx}{Â:List (Ç×Obj)}{σ:St}{H:Hp}{s s':Å}
def Inv.env0(I:Inv X Â σ H s):Env0 X.prog X.w X.K X.mg X.base X.A X.stack s H :=
 ⟨I.ok.frames,I.ok.mod,I.bs,Ü I.ok.bsz I.sz,I.stack,I.stkFree,I.hok,I.bare⟩
def Inv.after{Q:VK}{u:Ã}(I:Inv X Â σ H s)(h:CE X.stack X.prog X.w H s Q u s'):EP X Â σ Q u s':=by let⟨v,H',os,bare,un,hok,r,q⟩:=h;let⟨hh,g,d,t,os'⟩:=s';obtain rfl:os'=s.os:=os;exact⟨v,H',I.call (h':=hh) (g':=g) (d':=d) (t':=t) (ch:=[]) un hok bare λb z=>fA z<|by simp,r,q⟩
end
abbrev EA(sp:Sp)(ϲ:List V)(E:XK)(t:TA):TE:=λσ H Q=>t σ H λvs H1=>sp (vs++ϲ) H1 Q E
abbrev EO(C:Ç)(m:Str)(sp:Sp)(ϲ:List V)(E:XK)(ta:TE)(t:TA):TE:=λσ H Q=>ta σ H λx H1=>∃a dx fs,x=.ref a/\H1 a=df (.ins C dx fs)/\fs.lookup m=dg/\
 t σ H1 λvs H2=>sp (x::(vs++ϲ)) H2 Q E
abbrev Ic(C:Ç)(sp:Sp)(ϲ:List V)(E:XK)(t:TA):TE:=λσ H Q=>t σ H λvs H1=>∀x dx,H1 x=dg->H1 dx=dg->dx≠x->
 sp (.ref x::(vs++ϲ)) (upd (upd H1 dx<|.own x) x<|.ins C dx []) (λv H2=>v=.non/\Q (.ref x) H2) E
abbrev Binds(K:Frag)(fd:ĵ)(ps:List Str)(ds:List Ã):Prop :=
 ∀(s:Å) (us:List Ã),K.In s.heap->(us++ds).length=ps.length->BindsTo s fd ⟨us,[]⟩ (ps.zip<|us++ds)
variable {ps:List Str}
def Binds.all{K:Frag}{fd:ĵ}(h:∀us:List Ã,us.length=ps.length->bindArgs fd ⟨us,[]⟩=pure (ps.zip us)):Binds K fd ps []:=λs us _ hl=>by rw[Ĉ]at hl ⊢;exact .of_eq (h us hl)
abbrev YT(CX:CXT)(X:Cx)(E:XK):Prop:=∀(Â:List<|Ç×Obj) (σ:St) (H:Hp) (s:Å) (e:Ã) (s':Å),Inv X Â σ H s->CX X.stack H s E e s'->X.xe e s'
section
variable {X:Cx}{CX:CXT}{k:Nat}{f C:Ç}{fd:ĵ}{ps:List Str}{sp:Sp}{ϲ:List V}{ds:List Ã}{E:XK}{x m:Str}{p ç Ľ:Pos}{e o:Expr}{es:List Expr}{ta:TE}{t:TA}
variable {Â:List (Ç×Obj)} {σ:St} {Q:VK} {vs:List V}
def KA(F:dX X.prog X.w X.K X.mg X.base CX k f fd ps sp)(hr:dW k X.A)(hb:Binds X.K fd ps ds)(hd:fc ϲ ds)(hx:YT CX X E)
  (I:Inv X Â σ H s) (r:fc vs us) (h:sp (vs++ϲ) H Q E):wpAny (Û X.prog X.w) X.A (call (.ref f) us) (EP X Â σ Q) X.xe s:=by
 have r2:fc (vs++ϲ)<|us++ds:=r.append hd;have hl:(us++ds).length=ps.length:=by rw[<-r2.length];exact F.len _ _ _ _ h
 refine wpAny_call<|af (F.run X.A X.stack s H ⟨us,[]⟩ (us++ds) (vs++ϲ) Q E hr I.env0 (hb s us I.kIn hl) r2 h) λr s' hq=>?_;cases r with
 |error e=>exact hx Â σ H s e s' I hq
 |ok fl =>
  cases fl with
  |ret u=>exact I.after hq
  |next=>exact ı hq
  |brk=>exact ı hq
  |cont=>exact ı hq
def Ek(F:dX X.prog X.w X.K X.mg X.base CX k f fd ps sp)(hr:dW k X.A)(hg:Gl X x)(hm:X.mg x=df (.ref f))(hk:PySem.W.keepIn X.K (.ref f)=dh)(hb:Binds X.K fd ps ds)(hd:fc ϲ ds)(hx:YT CX X E)
  (ha:PA X (e::es) t) (bE:(x==("__debug__" : Str))=di:=by decide) (he:Ñ (e::es) X.env=(di,eval e X.env)::Ñ es X.env:=by rfl) (hpl:(Ĕ ç<|Ñ es X.env).any (·.1)=di:=by rfl) :
  PE X (.Call (.Name x p) (e::es) [] ç) (EA sp ϲ E t):=by
 k_upd;refine Ğ<|Wm I hg hm ?_ bE;refine PySem.W.callWith_K (h₀:=X.base) I.ok.mod.kin hk (thn (ha ç Â s σ H _ I h) λus s1 ⟨vs,H1,I1,r,q⟩=>⟨I1.kIn,?_⟩) he hpl;exact KA F hr hb hd hx I1 r q
def Ar(F:dX X.prog X.w X.K X.mg X.base CX k f fd ps sp)(hr:dW k X.A)(hg:Gl X x)(hm:X.mg x=df (.ref f))(hk:PySem.W.keepIn X.K (.ref f)=dh)(hb:Binds X.K fd ps ds)(hd:fc ϲ ds)(hx:YT CX X E)
  (bE:(x==("__debug__" : Str))=di:=by decide):PE X (.Call (.Name x p) [] [] ç)<|EA sp ϲ E DA:=by
 k_upd;refine Ğ<|Wm I hg hm ?_ bE;exact PySem.W.callWith_K0 I.kIn hk<|KA (us:=[]) F hr hb hd hx I .nil h
variable {pl:Sem Bool}
def Ei(he:PE X o ta)(c:Cls X.K C)(hm:Meth X.K C m f)(F:dX X.prog X.w X.K X.mg X.base CX k f fd ps sp)(hr:dW k X.A)(hb:Binds X.K fd ps ds)(hd:fc ϲ ds)(hx:YT CX X E)(ha:PA X (e::es) t)
  (ű:Ñ (e::es) X.env=(di,eval e X.env)::Ñ es X.env:=by rfl) (hpl:(Ĕ ç<|Ñ es X.env).any (·.1)=di:=by rfl)
  (ht:eval (.Call (.Attribute o m Ľ) (e::es) [] ç) X.env=(do
    let ov<-eval o X.env
    ς Ľ.atName
    let (f,first)<-Ŕ [ov] (Ζ ov m pl)
    bu ç f first (Ĕ ç<|Ñ (e::es) X.env) (š ç<|Ķ [] X.env)):=by rfl) :
  PE X (.Call (.Attribute o m Ľ) (e::es) [] ç) (EO C m sp ϲ E ta t):=by
 k_upd;refine PySem.W.methodCall_KW (pl:=pl) (thn (he Â s σ H _ I h) λu s1 ⟨x,H1,I1,rx,a,dx,fs,ex,ea,l,q⟩=>?_) ht;subst ex;obtain rfl:u=Value.ref a:=rx;refine WY I1 ea c hm l ?_;refine PySem.W.callWith_K (first:=[.ref a]) (h₀:=X.base) I.ok.mod.kin hm.kp (thn (ha ç Â s1 σ H1 _ I1 q) λus s2 ⟨vs,H2,I2,r,q2⟩=>⟨I2.kIn,?_⟩) ű hpl;exact KA (us:=.ref a::us) (vs:=.ref a::vs) F hr hb hd hx I2 (.cons rfl r) q2
def AF(he:PE X o ta)(c:Cls X.K C)(hm:Meth X.K C m f)(F:dX X.prog X.w X.K X.mg X.base CX k f fd ps sp)(hr:dW k X.A)(hb:Binds X.K fd ps ds)(hd:fc ϲ ds)(hx:YT CX X E)
  (ht:eval (.Call (.Attribute o m Ľ) [] [] ç) X.env=(do
    let ov<-eval o X.env
    ς Ľ.atName
    let (f,first)<-Ŕ [ov] (Ζ ov m pl)
    bu ç f first (Ĕ ç<|Ñ [] X.env) (š ç<|Ķ [] X.env)):=by rfl) :
  PE X (.Call (.Attribute o m Ľ) [] [] ç) (EO C m sp ϲ E ta DA):=by
 k_upd;refine PySem.W.methodCall_KW (pl:=pl) (thn (he Â s σ H _ I h) λu s1 ⟨x,H1,I1,rx,a,dx,fs,ex,ea,l,q⟩=>?_) ht;subst ex;obtain rfl:u=Value.ref a:=rx;refine WY I1 ea c hm l ?_;exact PySem.W.callWith_K0 (first:=[.ref a]) I1.kIn hm.kp<|KA (us:=[.ref a]) (vs:=[.ref a]) F hr hb hd hx I1 (.cons rfl .nil) q
structure Mk(K:Frag)(C f:Ç):Prop where
 makes:PySem.W.makesIn K C=dh
 init:PySem.W.findIn K (.ref C) "__init__" = df (df<|.ref f)
 fn:PySem.W.isFn K (.ref f)=dh
 kp:PySem.W.keepIn K (.ref C)=dh
def AY(M:Mk X.K C f)(F:dX X.prog X.w X.K X.mg X.base CX k f fd ps sp)(hr:dW (k+1) X.A)(hb:Binds X.K fd ps ds)(hd:fc ϲ ds)
  (hx:YT CX X E) (I:Inv X Â σ H s) (r:fc vs us)
  (h:∀x dx,H x=dg->H dx=dg->dx≠x->sp (.ref x::(vs++ϲ)) (upd (upd H dx<|.own x) x<|.ins C dx []) (λv H2=>v=.non/\Q (.ref x) H2) E) :
  wpAny (Û X.prog X.w) X.A (call (.ref C) us) (EP X Â σ Q) X.xe s:=by
 have hq:=h (s.heap.objs.size+1) s.heap.objs.size (I.hok.fresh<|ő _) (I.hok.fresh<|Ê _)<|è<|Ļ _;have I2:=Inv.made (C:=C) I;have r2:fc (V.ref (s.heap.objs.size+1)::(vs++ϲ))<|Value.ref (s.heap.objs.size+1)::(us++ds):=.cons rfl<|r.append hd;have hl:(Value.ref (s.heap.objs.size+1)::us++ds).length=ps.length:=by have e:=r2.length;rw[F.len _ _ _ _ hq]at e;exact e.symm
 refine wpAny_call (A9 (f:=f) I.kIn M.makes M.init (beq_iff_eq.mp M.fn) (af (F.run _ X.stack _ _ ⟨Value.ref (s.heap.objs.size+1)::us,[]⟩ (Value.ref (s.heap.objs.size+1)::(us++ds)) _ _ E (hr.make C us [])
   (I2.env0.make C us []) (hb _ (Value.ref (s.heap.objs.size+1)::us) I2.kIn hl) r2 hq) λr s' hq'=>?_))
 cases r with
 |error e=>exact hx Â σ _ _ e s' I2 hq'
 |ok fl =>
  cases fl with
  |ret u =>let⟨v,H',I3,rv,ev,q3⟩:=I2.after hq';subst ev;exact⟨rv,⟨V.ref<|s.heap.objs.size+1,H',I3,rfl,q3⟩⟩
  |next=>exact ı hq'
  |brk=>exact ı hq'
  |cont=>exact ı hq'
def D0(M:Mk X.K C f)(F:dX X.prog X.w X.K X.mg X.base CX k f fd ps sp)(hr:dW (k+1) X.A)(hg:Gl X x)(hm:X.mg x=df (.ref C))(hb:Binds X.K fd ps ds)(hd:fc ϲ ds)(hx:YT CX X E)
  (ha:PA X (e::es) t) (bE:(x==("__debug__" : Str))=di:=by decide) (he:Ñ (e::es) X.env=(di,eval e X.env)::Ñ es X.env:=by rfl) (hpl:(Ĕ ç<|Ñ es X.env).any (·.1)=di:=by rfl) :
  PE X (.Call (.Name x p) (e::es) [] ç) (Ic C sp ϲ E t):=by
 k_upd;refine Ğ<|Wm I hg hm ?_ bE;refine PySem.W.callWith_K (h₀:=X.base) I.ok.mod.kin M.kp (thn (ha ç Â s σ H _ I h) λus s1 ⟨vs,H1,I1,r,q⟩=>⟨I1.kIn,?_⟩) he hpl;exact AY M F hr hb hd hx I1 r q
end
structure FnScope(N P:List Str)(sc:Ť):Prop where
 kind:sc.kind=.function
 co:sc.isCoroutine=di
 gen:sc.isGenerator=di
 nd:N.Nodup
 pre:N.take P.length=P
 par:∀x∈P,sc.names.lookup x=df .local\/sc.names.lookup x=df .cell
 nofree:∀y∈sc.names,y.2≠.free
def JN{ų:Str->Option Η}{x:Str}:∀{binds:List (Str×Ã)}{m:Str->Option Ã},(∀v,(x,v)∉binds)->bindL ų binds m x=m x
 |[],_,_=>rfl
 |(n,v)::r,m,h=>by
  unfold bindL;rw[JN λw hw=>h w<|Ù _ hw];split
  .have:x≠n:=by rintro rfl;exact h v Ý
   simp[this]
  .rfl
def JZ{ų:Str->Option Η}{x:Str}:∀{binds:List (Str×Ã)}{m:Str->Option Ã},(∀v,(x,v)∉binds)->cC ų binds m x=m x
 |[],_,_=>rfl
 |(n,v)::r,m,h=>by
  unfold cC;rw[JZ λw hw=>h w<|Ù _ hw];split
  .rfl
  .have:x≠n:=by rintro rfl;exact h v Ý
   simp[this]
def Jv{ų:Str->Option Η}{x:Str}{v:Ã}:∀{P:List Str}{vs:List Ã}{i:Nat}{m:Str->Option Ã},P.Nodup->P[i]?=df x->vs[i]?=df v->ų x=df .local->
  bindL ų (P.zip vs) m x=df v
 |[],_,_,_,_,h,_,_=>by simp at h
 |_::_,[],_,_,_,_,h,_=>by simp at h
 |p::P,w::vs,0,m,nd,h1,h2,hk=>by simp at h1 h2;subst h1;subst h2;show bindL ų ((p,w)::P.zip vs) m p=_;unfold bindL;rw[JN λv hv=>(Ā.mp nd).1 (Ϻ hv).1,fm hk];simp
 |p::P,w::vs,i+1,m,nd,h1,h2,hk=>by show bindL ų ((p,w)::P.zip vs) m x=_;unfold bindL;exact Jv (i:=i) (Ā.mp nd).2 ⇑h1 ⇑h2 hk
def JC{ų:Str->Option Η}{x:Str}{v:Ã}:∀{P:List Str}{vs:List Ã}{i:Nat}{m:Str->Option Ã},P.Nodup->P[i]?=df x->vs[i]?=df v->ų x≠df .local->
  cC ų (P.zip vs) m x=df v
 |[],_,_,_,_,h,_,_=>by simp at h
 |_::_,[],_,_,_,_,h,_=>by simp at h
 |p::P,w::vs,0,m,nd,h1,h2,hk=>by simp at h1 h2;subst h1;subst h2;show cC ų ((p,w)::P.zip vs) m p=_;unfold cC;rw[JZ λv hv=>(Ā.mp nd).1 (Ϻ hv).1,fo hk];simp
 |p::P,w::vs,i+1,m,nd,h1,h2,hk=>by show cC ų ((p,w)::P.zip vs) m x=_;unfold cC;exact JC (i:=i) (Ā.mp nd).2 ⇑h1 ⇑h2 hk
abbrev start(N:List Str)(vs:List V):St:=vs.map df++Ó (N.length - vs.length) dg
abbrev KC(CX:CXT)(P:ä)(w:ü)(K:Frag)(mg:Str->Option Ã)(base:ù)(N:List Str)(qual:Str)(scope:Ť)(f:Ç)(cd:Ã)(A:ċ)(outer:List Env)(s:Å)(H:Hp)(E:XK):Cx where
 prog:=P
 w:=w
 K:=K
 mg:=mg
 base:=base
 A:=A.deeper<|ϫ qual scope s.heap.objs.size f cd
 N:=N
 s₀:=s
 H₀:=H
 env:=ϫ qual scope s.heap.objs.size f cd
 outer:=outer
 stack:=ϫ qual scope s.heap.objs.size f cd::outer
 ex:=[]
 calm:=dh
 fn:=λ_=>dh
 pn:=[]
 xe:=λe s'=>wpAny (Û P w) (A.deeper<|ϫ qual scope s.heap.objs.size f cd) (leaving (ϫ qual scope s.heap.objs.size f cd) e) (λ_ s''=>CX outer H s E e s'') (λe' s''=>CX outer H s E e' s'') s'
def Mz{sc:Ť}{n:Nat}{x:Str}(h:sc.names.lookup x=df .cell):∃c,(cellsFrom n sc.names []).lookup x=df c:=by have q:=PySem.W.cellsFrom_some sc.names n []<|.inl h;exact Ì.mp q
variable {CX:CXT} {N:List Str} {qual:Str} {scope:Ť} {f:Ç}
def O6{K:Frag}{cd:Ã}{s1:Å}{E:XK}{vs:List V}
  (S:FnScope N ps scope) (hd:A.handled=dg) (e0:Env0 P w K mg base A outer s H) (hl:vs.length=ps.length) (r:fc vs us)
  (x:InCallC s s.heap.objs.size (bindL (ϫ qual scope s.heap.objs.size f cd).kindOf (ps.zip us) λ_=>dg) (cellsFrom (s.heap.objs.size+1) scope.names []) (cC (ϫ qual scope s.heap.objs.size f cd).kindOf (ps.zip us) λ_=>dg) s1) :
  Inv (KC CX P w K mg base N qual scope f cd A outer s H E) [] (start N vs) H s1:=by
 have hpl:ps.length<=N.length:=by have:=congrArg List.length S.pre;rw[θ]at this;lia
 let⟨h1,tk,rfl,hk⟩:=x.done;have noA:∀b:Ç,b∉(KC CX P w K mg base N qual scope f cd A outer s H E).ex:=λb z=>fA (show b∈([]:List Ç) from z) (by simp);refine⟨⟨e0.mod,S.kind,rfl,rfl,Ê _,λy z c h1 h2=>?_,λy hy=>?_,λy c _ h=>?_,λ_=>hd,Around.frames_deeper e0.frames,.inr ⟨rfl,rfl⟩,λb z=>fA z<|noA b,e0.bs,e0.bsz,λb _ _=>noA b,λb z=>fA z<|noA b,e0.funs,e0.frf⟩,
   rfl,e0.bare,Un.kept hk,⟨_,x.toInCall.ns,λi y v h1 h2 h3=>?_⟩,λy c h=>⟨_,x.cell y c h⟩,e0.hok.fresh<|Ê _,λy c h=>?_,λp hp=>fA (show p∈([]:List<|Ç×Obj) from hp) (by simp),e0.hok.kept hk,?_⟩
 .exact name_of_addr x.apart (PySem.mem_of_lookup h1)<|PySem.mem_of_lookup h2
 .have hy:scope.names.lookup y=df .cell\/scope.names.lookup y=df .free:=hy;rcases hy with hy|hy
  .exact Mz hy
  .exact fA rfl<|S.nofree _<|PySem.mem_of_lookup hy
 .exact ψ<|x.above y c<|PySem.mem_of_lookup h
 .have hi:i<vs.length:=by
   unfold start at h2;by_cases hi:i<vs.length
   .exact hi
   .rw[ć<|by simpa using hi]at h2;rw[ĸ]at h2;split at h2<;>cases h2
  have ha:vs[i]?=df v:=by
   unfold start at h2;rw[ÿ ⇑hi,ã]at h2;cases e:vs[i]? with
   |none=>rw[e]at h2;cases h2
   |some a=>rw[e]at h2;cases h2;rfl
  let⟨u,hu,rv⟩:=r.get ha;have hp:ps[i]?=df y:=by rw[<-S.pre,List.getElem?_take_of_lt<|by lia];exact h1
  have ndP:ps.Nodup:=by rw[<-S.pre];exact S.nd.sublist<|List.take_sublist _ _
  refine⟨u,rv,?_⟩;rcases S.par y (å hp)with k|k
  .exact .inl ⟨k,Jv ndP hp hu k⟩
  .obtain⟨c,e⟩:=Mz (n:=s.heap.objs.size+1) k;refine .inr ⟨.inl k,c,e,?_⟩;have q:=x.cell y c e;rw[JC ndP hp hu<|by show scope.names.lookup y≠_;rw[k];decide]at q;exact q
 .exact e0.hok.fresh<|ψ<|x.above y c<|PySem.mem_of_lookup h
 .unfold start;show _=N.length;rw[Þ,Á,ñ];lia
def Ig{K:Frag}{k:Nat}{name:Str}{params:Arguments}{body:List ġ}{dV kV doc pm Ρ ct oc:Ã}{an od:Option Ç}
  {osl:Array (Option Ã)}  {sp:Sp}(lk:K.lookup f=df ⟨oc,od,.func<|PySem.W.fnOf name qual params body scope dV kV doc pm an Ρ ct,osl⟩) (ax:PySem.W.codeIn K Ρ qual=dh) (S:FnScope N ps scope)
  (len:∀vs H Q E,sp vs H Q E->vs.length=ps.length)
  (hbody:∀(A:ċ) (outer:List Env) (s:Å) (H:Hp) (vs:List V) (Q:VK) (E:XK),dW k (A.deeper<|ϫ qual scope s.heap.objs.size f Ρ)->sp vs H Q E->
    ∃t,PSs (KC CX P w K mg base N qual scope f Ρ A outer s H E) body t/\t { nx:=λ_ H'=>Q .non H',rt:=Q } (start N vs) H) :
  dX P w K mg base CX (k+1) f (PySem.W.fnOf name qual params body scope dV kV doc pm an Ρ ct) ps sp:=by
 refine⟨len,λA outer s H args us vs Q E hr e0 hb r hsp=>?_⟩;have hl:=len _ _ _ _ hsp;have KX:K.In s.heap:=e0.mod.kin.keeps λb o e=>(e0.bs b o e).1;have lim:s.heap.NoLimit:=e0.mod.nolimit.keeps λb o e=>(e0.bs b o e).1;have hkind:∀y∈ps.zip us,scope.names.lookup y.1=df .local\/(scope.names.lookup y.1=df .cell/\((cellsFrom (s.heap.objs.size+1) scope.names []).lookup y.1).isSome=dh):=λ⟨n,v⟩ hy=>by
  rcases S.par n (Ϻ hy).1 with q|q
  .exact .inl q
  .exact .inr ⟨q,PySem.W.cellsFrom_some _ _ _<|.inl q⟩
 refine codeAny_call_function hr.depth (KX _ _ lk) rfl S.co S.gen rfl (PySem.W.codeRec_of KX ax)<|hb _ _ _ _ ?_;refine wpAny_newFunctionEnv_cells S.kind hkind λenv he s1 x=>?_;subst he;refine⟨lim.keeps x.toInCall.keep,codeAny_func ?_⟩;let⟨t,ht,hq⟩:=hbody A outer s H vs Q E (hr.deeper _) hsp;have I:Inv (KC CX P w K mg base N qual scope f Ρ A outer s H E) [] (start N vs) H s1:=O6 S hr.hd e0 hl r x;refine ĺ (ht [] s1 (start N vs) H _ I hq) (λfl s' hs=>?_) λe s' hs=>hs;have fin:∀{Ŏ:St}{H':Hp}{v:V}{u:Ã},Inv (KC CX P w K mg base N qual scope f Ρ A outer s H E) [] Ŏ H' s'->RelV v u->Q v H'->CE outer P w H s Q u s' :=
  λ{Ŏ H' v u} J rv q=>⟨v,H',J.os,J.bare,J.base,J.hok,rv,q⟩
 cases fl with
 |ret u =>let⟨v,Ŏ,H',J,rv,q⟩:=hs;exact fin J rv q
 |next =>let⟨Ŏ,H',J,q⟩:=hs;exact fin (v:=V.non) (u:=Value.none) J rfl q
 |brk =>let⟨_,_,_,q⟩:=hs;exact ı q
 |cont =>let⟨_,_,_,q⟩:=hs;exact ı q
section
variable {X:Cx}{x:Str}{p ç:Pos}{e:Expr}{es:List Expr}{t:TA}{id T:String}{r:List V->Hp->VK->Prop}
abbrev tCB(r:List V->Hp->VK->Prop)(t:TA):TE:=λσ H Q=>t σ H λvs H1=>r vs H1 Q
def Xx(hc:dB X (.builtin id) r)(hg:Gl X x)(hm:X.mg x=dg)(hv:ń x=df (.builtin id))(ha:PA X (e::es) t)(hn:x≠"__name__":=by decide)(bE:(x==("__debug__" : Str))=di:=by decide)
  (he:Ñ (e::es) X.env=(di,eval e X.env)::Ñ es X.env:=by rfl) (hpl:(Ĕ ç<|Ñ es X.env).any (·.1)=di:=by rfl):PE X (.Call (.Name x p) (e::es) [] ç)<|tCB r t:=by
 k_upd;refine Ğ<|YF I hg hm hv ?_ hn bE;exact PyProof.Rows.callWith_builtin1 (thn (ha ç Â s σ H _ I h) λus s1 ⟨vs,H1,I1,r1,q1⟩=>hc Â s1 σ H1 vs us Q I1 r1 q1) he hpl
def JS(hc:dB X (.type T) r)(hg:Gl X x)(hm:X.mg x=dg)(hv:ń x=df (.type T))(ha:PA X (e::es) t)(hn:x≠"__name__":=by decide)(bE:(x==("__debug__" : Str))=di:=by decide)
  (he:Ñ (e::es) X.env=(di,eval e X.env)::Ñ es X.env:=by rfl) (hpl:(Ĕ ç<|Ñ es X.env).any (·.1)=di:=by rfl):PE X (.Call (.Name x p) (e::es) [] ç)<|tCB r t:=by
 k_upd;refine Ğ<|YF I hg hm hv ?_ hn bE;exact PyProof.Rows.callWith_type1 (thn (ha ç Â s σ H _ I h) λus s1 ⟨vs,H1,I1,r1,q1⟩=>hc Â s1 σ H1 vs us Q I1 r1 q1) he hpl
end
end L2
namespace HT
open PySem PyProof.Rows
abbrev lexLt:List Int->List Int->Bool
 |[],[]=>di
 |[],_::_=>dh
 |_::_,[]=>di
 |x::xs,y::ys=>if x=y then lexLt xs ys else fB (x<y)
def lexLt_cons(x y:Int)(xs ys:List Int):lexLt (x::xs) (y::ys)=if x=y then lexLt xs ys else fB (x<y):=rfl
def eqAt_int(A:ċ)(s:Å)(a:Int)(t:Tok)(c:Int)(u:Tok):∃e,SeqAt.EqAt A s (.int a t) (.int c u) e/\(e=dh↔a=c) :=
 ⟨(a==c),SeqAt.EqAt.int_int a t c u,by simp⟩
def rcLt_int(A:ċ)(s:Å)(a:Int)(t:Tok)(c:Int)(u:Tok)(prog:ä)(w:ü)(E:Ã->Å->Prop)(Q:Ã->Å->Prop)(h:Q (.bool<|fB (a<c)) s) :
  wpAny (Û prog w) A (richCompare .Lt (.int a t)<|.int c u) Q E s :=
 (PyProof.Rows.lt_int h:wpAny (Û prog w) A (ê .Lt (.int a t)<|.int c u) Q E s)
section
open PySem.SeqAt
open PySem.AutoSeq1 (wpAny_loadPart')
open PySem.MeetsSeq PySem.MeetsSeq2 PySem.MeetsSeq3
end
section
variable {prog:ä}{w:ü}{A:ċ}{E:Ã->Å->Prop}{s:Å}
variable {Q:Ã->Å->Prop}
def cat_tup{t b:Ç}{vs ws:List Ã}(ht:Ϣ s.heap t vs.toArray)(hb:Ϣ s.heap b ws.toArray)(hv:vs≠[])
  (h1:ws=[]->Q (.ref t) s) (h2:ws≠[]->Q (.ref s.heap.objs.size) {s with heap:=s.heap.push {cls:=.type "tuple",data:=.seq (vs++ws).toArray}})
  (hsz:vs.length+ws.length<=Ø):wpAny (Û prog w) A (ĳ .Add (.ref t)<|.ref b) Q E s:=by
 let⟨⟨cls,dd,data,sl⟩,ho,hc,n,hd⟩:=id ht;let⟨⟨cls2,dd2,data2,sl2⟩,ho2,bT,n2,aU⟩:=id hb;simp only at hc hd bT aU;subst hc hd bT aU;have e:vs.toArray++ws.toArray=(vs++ws).toArray:=by simp
 by_cases hw:ws=[]
 .exact cP ⟨_,ho,rfl⟩ ⟨_,ho2,rfl⟩ aD bX PySem.F.slot_tuple_add PySem.F.entry_tuple_add (PySem.F.args_tuple_add_2 _ _)
   (tuple_addW1 t b vs.toArray ws.toArray n n2 dd dd2 sl sl2 ⇑hv<|by simp[hw]) ⟨ho,ho2,h1 hw⟩
 .refine cP ⟨_,ho,rfl⟩ ⟨_,ho2,rfl⟩ aD bX PySem.F.slot_tuple_add PySem.F.entry_tuple_add (PySem.F.args_tuple_add_2 _ _)
   (tuple_addW2 t b vs.toArray ws.toArray n n2 dd dd2 sl sl2 ⇑hv ⇑hw<|by rw[É,É];exact hsz) ⟨ho,ho2,?_⟩
  rw[e];exact h2 hw
abbrev sIx(n d:Nat):Option Int->Nat
 |none=>d
 |some v=>if v<0 then(v+(n:Int)).toNat else min v.toNat n
def Fx(n d:Nat)(hd:d<=n)(o:Option Int):sIx n d o<=n:=by
 cases o with
 |none=>exact hd
 |some v =>
  show(if v<0 then(v+(n:Int)).toNat else min v.toNat n)<=n;by_cases hv:v<0
  .rw[fm hv];lia
  .rw[fo hv];exact Ϭ _ _
def clip_eq(v:Int)(n d:Nat):(if v<0 then max (v+(n:Int)) 0 else min v (n:Int))=((sIx n d (df v):Nat):Int):=by
 show(if v<0 then max (v+(n:Int)) 0 else min v (n:Int))=(((if v<0 then(v+(n:Int)).toNat else min v.toNat n):Nat):Int)
 by_cases hv:v<0
 .simp![fm hv];lia
 .simp![fo hv];lia
def M6(lo hi:Option Int)(n:Nat):Builtin.Slice.sliceAdjust lo hi 1 (n:Int)=(((sIx n 0 lo:Nat):Int),((sIx n n hi:Nat):Int)):=by
 have h1:¬ ((1:Int)<0):=by lia
 unfold Builtin.Slice.sliceAdjust;simp![h1,if_false];refine Prod.ext ?_ ?_
 .cases lo with
  |none=>rfl
  |some v=>exact clip_eq v n 0
 .cases hi with
  |none=>rfl
  |some v=>exact clip_eq v n n
def Nb(i j:Nat):Builtin.Slice.slicePlaces (i:Int) (j:Int) 1=j - i:=by
 unfold Builtin.Slice.slicePlaces;have h1:(1:Int) > 0:=by lia
 simp![h1,if_true,Int.ediv_one];split<;>lia
def WQ{v:Ã}{o:Option Int}{Q:Option Int->Å->Prop}(p:Ν v o)(h:Q o s):wpAny (Û prog w) A (Builtin.Slice.slicePartIndex v) Q E s:=by
 cases p with
 |none=>exact slicePart_none h
 |int i t=>exact slicePart_int h
variable {sl:Ç} {vl:Ã} {vu:Ã} {lo:Option Int} {hi:Option Int}
def Yl{n:Nat}{Q:Int×Int×Nat->Å->Prop}(hs:s.heap.IsSliceOf sl vl vu .none)(pl:Ν vl lo)(pu:Ν vu hi)
  (h:Q (((sIx n 0 lo:Nat):Int),1,sIx n n hi - sIx n 0 lo) s):wpAny (Û prog w) A (Builtin.Slice.sliceApplied (.ref sl)<|pure (n:Int)) Q E s:=by
 let⟨os,cK,hcs,hds⟩:=id hs;unfold Builtin.Slice.sliceApplied Builtin.Slice.sliceFields;refine À<|À<|Č cK hds (x:=vl) rfl<|À<|Č cK hds (x:=vu) rfl<|À<|Č cK hds (x:=.none) rfl<|Ë ?_;refine À<|slicePart_none ?_;show wpAny _ _ (if((1:Int)==0)=dh then _ else _) _ _ s;rw[fo<|by decide];refine À<|WQ pl<|À<|WQ pu<|À<|Ë ?_;show wpAny _ _ (match Builtin.Slice.sliceAdjust lo hi 1 (n:Int)with|(lo,hi)=>pure (lo,(1:Int),Builtin.Slice.slicePlaces lo hi 1)) _ _ s;rw[M6 lo hi n];show wpAny _ _ (pure (((sIx n 0 lo:Nat):Int),(1:Int),Builtin.Slice.slicePlaces ((sIx n 0 lo:Nat):Int) ((sIx n n hi:Nat):Int) 1)) _ _ s;rw[Nb];exact Ë h
def BI(xs:Array Ã)(i k:Nat):((List.range k).filterMap λ(m:Nat)=>xs[((i:Int)+(m:Int)*1).toNat]?).toArray=((xs.toList.drop i).take k).toArray:=by
 have e:(λ(m:Nat)=>xs[((i:Int)+(m:Int)*1).toNat]?)=λm=>xs[i+m]?:=by
  funext m;have:((i:Int)+(m:Int)*1).toNat=i+m:=by lia
  rw[this]
 rw[e];have:=pick_run xs i k;rw[cD]at this;have e2:((λx=>xs[x]?) ∘ λx=>i+x)=λm=>xs[i+m]?:=rfl;rw[e2]at this;rw[this]
def getItem_tuple_cut{t:Ç}{items:Array Ã}(ht:Ϣ s.heap t items)(hs:s.heap.IsSliceOf sl vl vu .none)(pl:Ν vl lo)(pu:Ν vu hi)
  (hw:¬ (sIx items.size 0 lo=0/\sIx items.size items.size hi=items.size))
  (h:Q (.ref s.heap.objs.size) {s with heap:=s.heap.push {cls:=.type "tuple",data:=.seq ((items.toList.drop<|sIx items.size 0 lo).take<|sIx items.size items.size hi - sIx items.size 0 lo).toArray}})
  (hsz:items.size<=Ø):wpAny (Û prog w) A (ϓ (.ref t)<|.ref sl) Q E s:=by
 have bU:sizeOk<|.seq ((items.toList.drop<|sIx items.size 0 lo).take<|sIx items.size items.size hi - sIx items.size 0 lo).toArray:=by show((items.toList.drop<|sIx items.size 0 lo).take<|sIx items.size items.size hi - sIx items.size 0 lo).toArray.size<=Ø;rw[É,θ,Ş,ö];lia
 have hj:sIx items.size items.size hi<=items.size:=Fx _ _ (Ê _) hi;let⟨os,cK,hcs,hds⟩:=id hs;have hTs:s.TypeIs (.ref sl) "slice":=⟨os,cK,hcs⟩
 unfold ϓ
 try with_reducible refine Ć ?_
 first|refine À (Ë ?_)|skip
 refine À (wpAny_sequenceKey ht.typeIs (by decide) ?_);refine À (Ġ (name:=fE "__getitem__") ht.typeIs PyProof.Rows.slot_tuple_getitem
   (Ī PyProof.Rows.slot_tuple_getitem ht.typeIs entry_tuple_getitem ?_<|args_tuple_getitem _ _))
 show wpAny _ _ (Builtin.Tuple.tupleItemsOf (.ref t) >>= _) _ _ s;refine À<|tupleItemsOf_ ht ?_;refine À<|cQ hTs ?_;rw[fm<|by decide];refine À<|Yl hs pl pu ?_;have hno:¬ ((((sIx items.size 0 lo:Nat):Int)==0&&(1:Int)==1&&(sIx items.size items.size hi - sIx items.size 0 lo)==items.size)=dh):=by intro q;rw[bAq,bAq]at q;have q1:((sIx items.size 0 lo:Nat):Int)=0:=eq_of_beq q.1.1;have q2:sIx items.size items.size hi - sIx items.size 0 lo=items.size:=eq_of_beq q.2;exact hw ⟨by lia,by lia⟩
 show wpAny _ _ (if(((sIx items.size 0 lo:Nat):Int)==0&&(1:Int)==1&&(sIx items.size items.size hi - sIx items.size 0 lo)==items.size)=dh then _ else _) _ _ s;rw[fo hno,BI]
 first
  |exact À (m:=Builtin.Tuple.tupleExact _)<|ķ (Ë ⟨_,rfl,Ë h⟩) bU
  |exact À (m:=Builtin.Tuple.tupleExact _)<|ķ (À<|Ë<|Ë ⟨_,rfl,Ë h⟩) bU
  |exact À<|À (m:=Builtin.Tuple.tupleExact _)<|ķ (Ë<|Ë ⟨_,rfl,Ë h⟩) bU
  |exact À<|À (m:=Builtin.Tuple.tupleExact _)<|ķ (Ë ⟨_,rfl,Ë h⟩) bU
end
end HT
namespace L2
open PySem PySem.Spec PyProof.Rows
noncomputable abbrev TO:=St->Hp->(Option Int->Hp->Prop)->Prop
abbrev PO(X:Cx)(e:Option Expr)(t:TO):Prop :=
 ∀(Â:List<|Ç×Obj) (s:Å) (σ:St) (H:Hp) (Q:Option Int->Hp->Prop),Inv X Â σ H s->t σ H Q->
  wpAny (Û X.prog X.w) X.A (evalPart e X.env) (λu s'=>∃o H',Inv X Â σ H' s'/\Ν u o/\Q o H') X.xe s
abbrev C7:TO:=λ_ H Q=>Q dg H
abbrev HI(t:TE):TO:=λσ H Q=>t σ H λx H1=>∃i,x=.int i/\Q (df i) H1
def ZT{ns:List Int}:∀{us:List Ã},fc (ns.map V.int) us->ĝ us ns:=by
 induction ns with
 |nil=>intro us r;rw[đ]at r;cases r;exact .nil
 |cons n ns ih =>
  intro us r;rw[È]at r;cases r with
  |cons r1 r2 =>let⟨t,e⟩:=r1;subst e;exact .cons n t<|ih r2
section
variable {X:Cx}{e:Expr}{te:TE}{lo hi:Option Expr}{tl th:TO}{ç p2:Pos}
def po_none:PO X dg C7:=by k_upd;rw[evalPart_none];exact Ë ⟨dg,H,I,.none,h⟩
def Eh(h:PE X e te):PO X (df e)<|HI te:=by intro Â s σ H Q I hw;rw[evalPart_some];refine thn (h Â s σ H _ I hw) λu s1 ⟨x,H1,I1,r1,q1⟩=>?_;let⟨i,rfl,q⟩:=q1;let⟨t,rfl⟩:=r1;exact⟨df i,H1,I1,.int i t,q⟩
abbrev SlR(X:Cx)(r:V->Option Int->Option Int->Hp->VK->Prop):Prop :=
 ∀(Â:List<|Ç×Obj) (s:Å) (σ:St) (H:Hp) (x:V) (v vl vu:Ã) (lo hi:Option Int) (sl:Ç) (Q:VK),Inv X Â σ H s->RelV x v->s.heap.IsSliceOf sl vl vu .none->Ν vl lo->Ν vu hi->r x lo hi H Q->
  ∃T id,typeLookup (.type T) "__getitem__" = pure (df<|.builtin id)/\s.TypeIs v T/\wpAny (Û X.prog X.w) X.A (ϓ v<|.ref sl) (EP X Â σ Q) X.xe s
variable {r:V->Option Int->Option Int->Hp->VK->Prop}
def SlR.or{r':V->Option Int->Option Int->Hp->VK->Prop}(h:SlR X r)(h':SlR X r'):SlR X λx lo hi H Q=>r x lo hi H Q\/r' x lo hi H Q:=by
 intro Â s σ H x v vl vu lo hi sl Q I rx hs pl pu q;rcases q with q|q
 .exact h Â s σ H x v vl vu lo hi sl Q I rx hs pl pu q
 .exact h' Â s σ H x v vl vu lo hi sl Q I rx hs pl pu q
abbrev tSl(r:V->Option Int->Option Int->Hp->VK->Prop)(te:TE)(tl th:TO):TE:=λσ H Q=>te σ H λx H1=>tl σ H1 λl H2=>th σ H2 λu H3=>r x l u H3 Q
def Bz(hr:SlR X r)(he:PE X e te)(hl:PO X lo tl)(hu:PO X hi th):PE X (.Subscript e (.Slice lo hi dg p2) ç)<|tSl r te tl th:=by k_upd;refine Subscript_<|thn (he Â s σ H _ I h) λv s1 ⟨x,H1,I1,r1,q1⟩=>?_;refine wpAny_Slice<|thn (hl Â s1 σ H1 _ I1 q1) λvl s2 ⟨l,H2,I2,pl,q2⟩=>thn (hu Â s2 σ H2 _ I2 q2) λvu s3 ⟨u,H3,I3,pu,q3⟩=>?_;rw[evalPart_none];refine Ë ?_;have I4:Inv X Â σ H3 {s3 with heap:=s3.heap.push {cls:=.type "slice",data:=.fields #[vl,vu,.none]}}:=I3.kept (t':=s3.toks) λb ob q=>Ä _ q;let⟨T,id,hT,ht,hg⟩:=hr Â {s3 with heap:=s3.heap.push {cls:=.type "slice",data:=.fields #[vl,vu,.none]}} σ H3 x v vl vu l u s3.heap.objs.size Q I4 r1 (Heap.IsSliceOf.new ..) pl pu q3;show wpAny (Û X.prog X.w) X.A (bY e (.Slice lo hi dg p2) v<|.ref s3.heap.objs.size) (EP X Â σ Q) X.xe {s3 with heap:=s3.heap.push {cls:=.type "slice",data:=.fields #[vl,vu,.none]}};exact tail_any (ops:=[.ref s3.heap.objs.size,v]) ht hT hg (by with_unfolding_all rfl)
abbrev Ko(xs:List V)(lo hi:Option Int):List V:=(xs.drop<|HT.sIx xs.length 0 lo).take<|HT.sIx xs.length xs.length hi - HT.sIx xs.length 0 lo
def XY(xs:List V)(lo hi:Option Int):(Ko xs lo hi).length<=xs.length:=by unfold Ko;rw[θ,Ş];lia
abbrev Ia(K:Frag):V->Option Int->Option Int->Hp->VK->Prop:=λx lo hi H Q=>∃a xs,x=.ref a/\eZ K H a xs/\
 ¬ (HT.sIx xs.length 0 lo=0/\HT.sIx xs.length xs.length hi=xs.length)/\∀p,H p=dg->Q (.ref p) (upd H p<|.tup<|Ko xs lo hi)
def eM:SlR X<|Ia X.K:=by
 intro Â s σ H x v vl vu lo hi sl Q I rx hs pl pu h;let⟨a,xs,rfl,hx,hw,q⟩:=h;cases rx;let⟨ð,r,ht,hz⟩:=I.tuple hx;have hlen:ð.toArray.size=xs.length:=by rw[É];exact r.length.symm
 refine⟨"tuple",_,PyProof.Rows.slot_tuple_getitem.lookup,ht.typeIs,?_⟩;refine HT.getItem_tuple_cut ht hs pl pu (by rw[hlen];exact hw) ?_ (by rw[hlen];exact hz);rw[hlen];refine⟨.ref s.heap.objs.size,_,I.laid (t':=s.toks) (o:=.tup<|Ko xs lo hi) (λb ob q=>Ä _ q) (Ê _) ?_,rfl,q _<|I.hok.fresh<|Ê _⟩;exact⟨Ü (XY xs lo hi) hz,_,(r.drop<|HT.sIx xs.length 0 lo).take<|HT.sIx xs.length xs.length hi - HT.sIx xs.length 0 lo,IsTup.new _ _⟩
abbrev E7(K:Frag):R2:=λx y H Q=>∃a b xs ys,x=.ref a/\y=.ref b/\eZ K H a xs/\eZ K H b ys/\xs≠[]/\xs.length+ys.length<=Ø/\
 (ys=[]->Q (.ref a) H)/\(ys≠[]->∀p,H p=dg->Q (.ref p) (upd H p<|.tup<|xs++ys))
def fc.nil_iff{xs:List V}{us:List Ã}(r:fc xs us):us=[]↔xs=[]:=by
 cases r with
 |nil=>simp
 |cons _ _=>simp
def CO:OpR X (ĳ .Add)<|E7 X.K:=by k_ne;let⟨a,b,xs,ys,rfl,rfl,ha,hb,hx,hz,q1,q2⟩:=h;cases rx;cases ry;let⟨ð,r1,p1,_⟩:=I.tuple ha;let⟨Κ,r2,p2,_⟩:=I.tuple hb;refine HT.cat_tup p1 p2 (λz=>hx<|r1.nil_iff.mp z) (λz=>⟨.ref a,H,I,rfl,q1<|r2.nil_iff.mp z⟩) (λz=>?_) (by rw[<-r1.length,<-r2.length];exact hz);refine⟨.ref s.heap.objs.size,_,I.laid (t':=s.toks) (o:=.tup<|xs++ys) (λb ob q=>Ä _ q) (Ê _) ?_,rfl,q2 (λw=>z<|r2.nil_iff.mpr w) _<|I.hok.fresh<|Ê _⟩;exact⟨by rw[Þ];exact hz,_,r1.append r2,IsTup.new _ _⟩
end
abbrev ixN(n:Nat)(i:Int):Option Nat:=if 0<=i then(if i<n then df i.toNat else dg)else if -(n:Int)<=i then df (i+n).toNat else dg
variable {α:Type}
abbrev atI(xs:List α)(i:Int):Option α:=(ixN xs.length i).bind λj=>xs[j]?
variable {n:Nat} {i:Int}
def Ku{j:Nat}(h:ixN n i=df j):seqIndex? i n=df j/\j<n/\-(n:Int)<=i/\i<n:=by
 unfold ixN at h;by_cases h0:0<=i
 .rw[fm h0]at h;by_cases h1:i<n
  .rw[fm h1]at h;have e:i.toNat=j:=ë h;exact⟨by rw[seqIndex_of h0 h1,e],by lia,by lia,h1⟩
  .rw[fo h1]at h;cases h
 .rw[fo h0]at h;by_cases h1:-(n:Int)<=i
  .rw[fm h1]at h;have e:(i+n).toNat=j:=ë h;exact⟨by rw[cR (by lia) h1,e],by lia,h1,by lia⟩
  .rw[fo h1]at h;cases h
def Kx{xs:List α}{v:α}(h:atI xs i=df v):∃j,seqIndex? i xs.length=df j/\xs[j]?=df v/\j<xs.length/\-(xs.length:Int)<=i/\i<xs.length:=by
 unfold atI at h;cases e:ixN xs.length i with
 |none=>rw[e]at h;cases h
 |some j =>rw[e]at h;let⟨h1,h2,h3,h4⟩:=Ku e;exact⟨j,h1,h,h2,h3,h4⟩
abbrev Kf(b:Expr):Prop:=∀o i,subscripted b di o i=operate [o,i] (ϓ o i)
abbrev IxR(X:Cx)(r:R2):Prop :=
 ∀(ŧ slice:Expr) (Â:List<|Ç×Obj) (s:Å) (σ:St) (H:Hp) (x y:V) (v u:Ã) (Q:VK),Inv X Â σ H s->RelV x v->RelV y u->r x y H Q->
  subscripted slice di v u=operate [v,u] (ϓ v u)->wpAny (Û X.prog X.w) X.A (bY ŧ slice v u) (EP X Â σ Q) X.xe s
abbrev MtR(X:Cx)(id:String)(r:V->List V->Hp->VK->Prop):Prop :=
 ∀(Â:List<|Ç×Obj) (s:Å) (σ:St) (H:Hp) (x:V) (xs:List V) (v:Ã) (us:List Ã) (Q:VK),Inv X Â σ H s->RelV x v->fc xs us->r x xs H Q->
  wpAny (Û X.prog X.w) X.A (call (.builtin id)<|v::us) (EP X Â σ Q) X.xe s
section
variable {X:Cx}{a b:Expr}{ta tb:TE}{ç:Pos}
variable {r:R2}
def IxR.or{r':R2}(h:IxR X r)(h':IxR X r'):IxR X λx y H Q=>r x y H Q\/r' x y H Q:=by
 intro ŧ slice Â s σ H x y v u Q I rx ry q hs;rcases q with q|q
 .exact h ŧ slice Â s σ H x y v u Q I rx ry q hs
 .exact h' ŧ slice Â s σ H x y v u Q I rx ry q hs
def MtR.or{id:String}{r r':V->List V->Hp->VK->Prop}(h:MtR X id r)(h':MtR X id r'):MtR X id λx xs H Q=>r x xs H Q\/r' x xs H Q:=by
 intro Â s σ H x xs v us Q I rx rs q;rcases q with q|q
 .exact h Â s σ H x xs v us Q I rx rs q
 .exact h' Â s σ H x xs v us Q I rx rs q
def LI(hr:IxR X r)(ha:PE X a ta)(hb:PE X b tb)(hs:Kf b):PE X (.Subscript a b ç)<|tOp r ta tb:=by k_upd;exact Subscript_ (FY ha hb I h λv u s2 x y H2 I2 rx ry q=>hr a b Â s2 σ H2 x y v u Q I2 rx ry q<|hs _ _)
abbrev HK(K:Frag):R2:=λx y H Q=>∃p xs i v,x=.ref p/\y=.int i/\eY K H p xs/\atI xs i=df v/\Q v H
abbrev LA(K:Frag):R2:=λx y H Q=>∃p xs i v,x=.ref p/\y=.int i/\eZ K H p xs/\atI xs i=df v/\Q v H
abbrev LD:R2:=λx y H Q=>∃z i c,x=.str z/\y=.int i/\z.length<=Ø/\atI z.cps.toList i=df c/\Q (.str ⟨#[c]⟩) H
def ix_list:IxR X<|HK X.K:=by
 intro ŧ slice Â s σ H x y v u Q I rx ry h hs;let⟨p,xs,i,z,rfl,rfl,hq,he,q⟩:=h;cases rx;let⟨t,rfl⟩:=ry;let⟨ð,r,pl,hz⟩:=I.list hq;let⟨j,h1,h2,h3,h4,h5⟩:=Kx he;let⟨w,ew,aJ⟩:=r.get h2;have hl:=r.length;have hn:=Xa;have fin:EP X Â σ Q w s:=⟨z,H,I,aJ,q⟩
 by_cases h0:0<=i
 .have hj:i.toNat=j:=by
   rw[seqIndex_of h0 h5]at h1;exact ë h1
  exact item_listR pl.isList h0 (by lia) (by rw[hj];simpa using ew) fin hs
 .have hj:(i+(ð.toArray.size:Int)).toNat=j:=by
   rw[cR (by lia) h4]at h1;rw[É,<-hl];exact ë h1
  exact cS (x:=w) pl.isList.typeIs slot_list_getitem.lookup
   (wpAny_getItem_list_neg (Q:=λr s'=>r=w/\EP X Â σ Q r s') pl.isList (by lia) (by rw[É]<;>lia) (by lia) (by rw[hj];simpa using ew) ⟨rfl,fin⟩) hs
def dz:IxR X<|LA X.K:=by
 intro ŧ slice Â s σ H x y v u Q I rx ry h hs;let⟨p,xs,i,z,rfl,rfl,hq,he,q⟩:=h;cases rx;let⟨t,rfl⟩:=ry;let⟨ð,r,pl,hz⟩:=I.tuple hq;let⟨j,h1,h2,h3,h4,h5⟩:=Kx he;let⟨w,ew,aJ⟩:=r.get h2;have hl:=r.length;have hn:=Xa;have fin:EP X Â σ Q w s:=⟨z,H,I,aJ,q⟩
 exact cS (x:=w) pl.typeIs slot_tuple_getitem.lookup
  (getItem_tuple (j:=j) (Q:=λr s'=>r=w/\EP X Â σ Q r s') pl (by lia) (by lia) (by rw[É,<-hl];exact h1) ⇑ew ⟨rfl,fin⟩) hs
def Hc:IxR X LD:=by
 intro ŧ slice Â s σ H x y v u Q I rx ry h hs;let⟨z,i,c,rfl,rfl,hz,he,q⟩:=h;let⟨t,rfl⟩:=rx;let⟨t',rfl⟩:=ry;let⟨j,h1,h2,h3,h4,h5⟩:=Kx he;have hl:z.cps.toList.length=z.length:=by simp[Str.length]
 rw[hl]at h1 h4 h5;have hn:=Xa;exact tail_any (typeIs_str s z t) slot_str_getitem.lookup (getItem_str (c:=c) (by
   have e1:fB (i < -(2 ^ 63:Int))=di:=ft (by lia)
   have e2:fB (i≥2 ^ 63)=di:=ft (by lia)
   rw[e1,e2,aO]) (by rw[h1];simpa using h2) ⟨.str ⟨#[c]⟩,H,I.tok _,⟨_,rfl⟩,q⟩) hs
abbrev rIx(K:Frag):R2:=λx y H Q=>HK K x y H Q\/LA K x y H Q\/LD x y H Q
def ix_seq:IxR X<|rIx X.K:=ix_list.or (dz.or Hc)
def Nm(ð:List Ã)(n j:Nat)(u:Ã):Ė (·.setIfInBounds j u) {cls:=.type "list",data:=.seq ð.toArray n}={cls:=.type "list",data:=.seq (ð.set j u).toArray n}:=by simp[Ė]
def Inv.lst{Â:List (Ç×Obj)}{σ:St}{H:Hp}{s:Å}{p:Ç}{xs:List V}(I:Inv X Â σ H s)(h:H p=df (.lst xs)) :
  ∃(ð:List Ã) (n:Nat),fc xs ð/\s.heap.get? p=df {cls:=.type "list",data:=.seq ð.toArray n}/\xs.length<=Ø:=by
 let⟨z,ð,n,r,e⟩:=I.hok p _ h;exact⟨ð,n,r,e,z⟩
variable {Â:List (Ç×Obj)} {σ:St} {H:Hp} {s:Å}
def Inv.lstUpd{p:Ç}{xs ys:List V}{ð its':List Ã}{n':Nat}{f:Obj->Obj}(I:Inv X Â σ H s)(h:H p=df (.lst xs))
  (ho:s.heap.get? p=df {cls:=.type "list",data:=.seq ð.toArray n}) (hf:f {cls:=.type "list",data:=.seq ð.toArray n}={cls:=.type "list",data:=.seq its'.toArray n'}) (r:fc ys its') (hz:ys.length<=Ø) (t:Nat) :
  Inv X Â σ (upd H p<|.lst ys) {s with heap:=s.heap.update p f,toks:=t}:=by
 have e:(s.heap.update p f).get? p=df {cls:=.type "list",data:=.seq its'.toArray n'}:=by rw[ŝ f ho (by rw[hf]<;>rfl),hf]
 refine I.write (x:=p) (e:=p) (by rw[h];trivial) (.inl rfl) (λb u hb q=>(ò _ _<|Ne.symm hb).trans q) ⟨_,e⟩ ?_;exact⟨hz,its',n',r,e⟩
abbrev EL:V->V->V->Hp->(Hp->Prop)->Prop:=λo i v H Q=>∃p xs k j,o=.ref p/\i=.int k/\H p=df (.lst xs)/\ixN xs.length k=df j/\Q (upd H p<|.lst<|xs.set j v)
def Ak:PSet X EL:=by
 intro Â s σ H o i v ov iv u Q I ro ri rv h;let⟨p,xs,k,j,rfl,rfl,hp,hj,q⟩:=h;cases ro;let⟨t,rfl⟩:=ri;let⟨ð,n,r,ho,hz⟩:=I.lst hp;let⟨h1,h2,h3,h4⟩:=Ku hj;have hl:=r.length;have hn:=Xa;have I':Inv X Â σ (upd H p<|.lst<|xs.set j v) {s with heap:=s.heap.update p (Ė (·.setIfInBounds j u))} :=
  I.lstUpd hp ho (Nm ð n j u) (r.set rv j) (by rw[ω];exact hz) s.toks
 by_cases h0:0<=k
 .have hk:k.toNat=j:=by
   rw[seqIndex_of h0 h4]at h1;exact ë h1
  exact PySem.W.ki_setAt ho h0 (by lia) (by rw[É,<-hl];exact h4) (by rw[hk];exact⟨_,I',q⟩)
 .have hk:(k+(ð.toArray.size:Int)).toNat=j:=by
   rw[cR (by lia) h3]at h1;rw[É,<-hl];exact ë h1
  exact PySem.W.ki_setBack ho (by lia) (by rw[É,<-hl];exact h3) (by lia) (by rw[hk];exact⟨_,I',q⟩)
def KM(lo hi:Option Int)(n:Nat):(Ū lo hi dg n).1=((HT.sIx n 0 lo:Nat):Int)/\(Ū lo hi dg n).2.1=((HT.sIx n n hi:Nat):Int)/\(Ū lo hi dg n).2.2=1:=by
 refine⟨?_,?_,rfl⟩
 .cases lo with
  |none=>simp[Ū,HT.sIx]
  |some i =>
   simp![Ū,HT.sIx,cE,show(1:Int) > 0 by decide,if_true];by_cases h:i<0
   .simp![h,if_true]<;>lia
   .simp![h,if_false]<;>lia
 .cases hi with
  |none=>simp[Ū,HT.sIx]
  |some i =>
   simp![Ū,HT.sIx,cE,show(1:Int) > 0 by decide,if_true];by_cases h:i<0
   .simp![h,if_true]<;>lia
   .simp![h,if_false]<;>lia
def Jn(ð:List Ã)(lo hi:Option Int):slicePick ð.toArray lo hi dg=((ð.drop<|HT.sIx ð.length 0 lo).take<|HT.sIx ð.length ð.length hi - HT.sIx ð.length 0 lo).toArray:=by let⟨h1,h2,h3⟩:=KM lo hi ð.toArray.size;unfold slicePick;rw[h1,h2,h3];simp![sliceRange_one,pick_run,É]<;>rfl
abbrev Lu(K:Frag):V->Option Int->Option Int->Hp->VK->Prop:=λx lo hi H Q=>∃a xs,x=.ref a/\eY K H a xs/\∀p,H p=dg->Q (.ref p) (upd H p<|.lst<|Ko xs lo hi)
def sl_list:SlR X<|Lu X.K:=by intro Â s σ H x v vl vu lo hi sl Q I rx hs pl pu h;let⟨a,xs,rfl,hx,q⟩:=h;cases rx;let⟨ð,r,ht,hz⟩:=I.list hx;have hlen:=r.length;refine⟨"list",_,slot_list_getitem.lookup,ht.isList.typeIs,?_⟩;refine wpAny_getItem_list_slice ht.isList hs pl pu .none (by simp) ?_ (by rw[É]<;>lia);rw[Jn,<-hlen];refine⟨.ref s.heap.objs.size,_,I.laid (t':=s.toks) (o:=.lst<|Ko xs lo hi) (λb ob q=>Ä _ q) (Ê _) ?_,rfl,q _<|I.hok.fresh<|Ê _⟩;exact⟨Ü (XY xs lo hi) hz,_,0,(r.drop<|HT.sIx xs.length 0 lo).take<|HT.sIx xs.length xs.length hi - HT.sIx xs.length 0 lo,Ö _ rfl⟩
abbrev K6:V->Bool
 |.non=>dh
 |.bl _=>dh
 |.int _=>dh
 |.str _=>dh
 |_=>di
abbrev eqV:V->V->Bool
 |.non,.non=>dh
 |.bl a,.bl b=>a==b
 |.bl a,.int b=>(if a then 1 else 0)==b
 |.int a,.bl b=>a==(if b then 1 else 0)
 |.int a,.int b=>a==b
 |.str a,.str b=>a==b
 |_,_=>di
variable {y:V} {x:V} {u:Ã}
def Hh{A:ċ}{v:Ã}(ry:RelV y u)(rx:RelV x v)(fy:K6 y=dh)(fx:K6 x=dh):SeqAt.EqAt A s u v<|eqV y x:=by
 cases y with
 |non =>
  cases ry;cases x with
  |non=>cases rx;exact SeqAt.EqAt.same _
  |bl b=>cases rx;exact SeqAt.EqAt.none_bool b
  |int b=>let⟨t,rfl⟩:=rx;exact SeqAt.EqAt.none_int b t
  |str b=>let⟨t,rfl⟩:=rx;exact SeqAt.EqAt.none_str b t
  |_=>exact fA (show di=dh from fx) é
 |bl a =>
  cases ry;cases x with
  |non=>cases rx;exact SeqAt.EqAt.bool_none a
  |bl b=>cases rx;exact SeqAt.EqAt.bool_bool a b
  |int b=>let⟨t,rfl⟩:=rx;exact SeqAt.EqAt.bool_int a b t
  |str b=>let⟨t,rfl⟩:=rx;exact SeqAt.EqAt.bool_str a b t
  |_=>exact fA (show di=dh from fx) é
 |int a =>
  let⟨t',rfl⟩:=ry;cases x with
  |non=>cases rx;exact SeqAt.EqAt.int_none a t'
  |bl b=>cases rx;exact SeqAt.EqAt.int_bool a t' b
  |int b=>let⟨t,rfl⟩:=rx;exact SeqAt.EqAt.int_int a t' b t
  |str b=>let⟨t,rfl⟩:=rx;exact SeqAt.EqAt.int_str a t' b t
  |_=>exact fA (show di=dh from fx) é
 |str a =>
  let⟨t',rfl⟩:=ry;cases x with
  |non=>cases rx;exact SeqAt.EqAt.str_none a t'
  |bl b=>cases rx;exact SeqAt.EqAt.str_bool a t' b
  |int b=>let⟨t,rfl⟩:=rx;exact SeqAt.EqAt.str_int a t' b t
  |str b=>let⟨t,rfl⟩:=rx;exact SeqAt.EqAt.str_str a t' b t
  |_=>exact fA (show di=dh from fx) é
 |_=>exact fA (show di=dh from fy) é
abbrev eqU(x:V)(u:Ã):Bool:=match u with
 |.none=>eqV .non x
 |.bool b=>eqV (.bl b) x
 |.int i _=>eqV (.int i) x
 |.str z _=>eqV (.str z) x
 |_=>di
def No(r:RelV y u)(f:K6 y=dh):eqU x u=eqV y x:=by
 cases y with
 |non=>cases r;rfl
 |bl b=>cases r;rfl
 |int i=>let⟨t,rfl⟩:=r;rfl
 |str z=>let⟨t,rfl⟩:=r;rfl
 |_=>exact fA (show di=dh from f) é
def MK{A:ċ}{s:Å}{x:V}{v:Ã}(rx:RelV x v)(fx:K6 x=dh):∀{xs:List V}{us:List Ã},fc xs us->xs.all K6=dh->∀u∈us,SeqAt.EqAt A s u v (eqU x u)
 |_,_,.nil,_=>λu hu=>by cases hu
 |y::xs,u::us,.cons r t,f=>λu' hu=>by
  rw[List.all_cons,bAq]at f;rcases Æ.mp hu with rfl|hu
  .rw[No r f.1];exact Hh r rx f.1 fx
  .exact MK rx fx t f.2 u' hu
abbrev inV(x:V)(xs:List V):Bool:=xs.any λy=>eqV y x
def KF:OpR X (ê .NotIn) λx y H Q=>∃i j,x=.str i/\y=.str j/\Q (.bl (!(!(Builtin.Str.occurrences j i 0 j.length 1).isEmpty))) H:=by k_ne;let⟨i,j,rfl,rfl,q⟩:=h;let⟨t,rfl⟩:=rx;let⟨t',rfl⟩:=ry;exact notIn_str ⟨.bl _,H,I,rfl,q⟩
def call_len_seq:dB X (.builtin "len") λxs H Q=>∃p ys,xs=[.ref p]/\(eY X.K H p ys\/eZ X.K H p ys)/\Q (.int ys.length) H:=by
 k_put;let⟨p,ys,rfl,hq,q⟩:=h;let⟨u,rfl,rx⟩:=Z9 r;cases rx;have hn:=Xa;rcases hq with hq|hq
 .obtain⟨ð,r',pl,hz⟩:=I.list hq;have hlen:=r'.length;exact Calls.call_len_list pl.isList (by simp![É]<;>lia) ⟨.int ys.length,H,I.tok _,⟨s.toks+1,by rw[É,hlen]⟩,q⟩
 .obtain⟨ð,r',pl,hz⟩:=I.tuple hq;have hlen:=r'.length;exact len_tuple pl (by simp![É]<;>lia) ⟨.int ys.length,H,I.tok _,⟨s.toks+1,by rw[É,hlen]⟩,q⟩
def Kr:dB X (.builtin "len") λxs H Q=>∃z,xs=[.str z]/\z.length<=Ø/\Q (.int z.length) H:=by k_put;let⟨z,rfl,hz,q⟩:=h;let⟨u,rfl,t,rfl⟩:=Z9 r;have hn:=Xa;exact len_str (by lia) ⟨.int z.length,H,I.tok _,⟨_,rfl⟩,q⟩
def dB.or{f:Ã}{r r':List V->Hp->VK->Prop}(h:dB X f r)(h':dB X f r'):dB X f λxs H Q=>r xs H Q\/r' xs H Q:=by
 intro Â s σ H xs us Q I rs q;rcases q with q|q
 .exact h Â s σ H xs us Q I rs q
 .exact h' Â s σ H xs us Q I rs q
def Kd:dB X (.type "list") λxs H Q=>∃p ys,xs=[.ref p]/\(eY X.K H p ys\/eZ X.K H p ys)/\∀l,H l=dg->Q (.ref l) (upd H l<|.lst ys):=by
 k_put;let⟨p,ys,rfl,hq,q⟩:=h;let⟨u,rfl,rx⟩:=Z9 r;cases rx;have fin:∀(ð:List Ã),fc ys ð->ys.length<=Ø->∀(h':ù) (c':Nat),(∀b o',s.heap.get? b=df o'->h'.get? b=df o')->
   h'.get? s.heap.objs.size=df {cls:=.type "list",dict:=dg,data:=.seq ð.toArray c',slots:=#[]}->EP X Â σ Q (.ref s.heap.objs.size) {s with heap:=h'}:=λð r' hz h' c' kp e =>
  ⟨.ref s.heap.objs.size,_,I.laid (t':=s.toks) kp (Ê _) (show dC X.prog X.w _ h' _ (.lst ys) from ⟨hz,ð,c',r',e⟩),rfl,q _<|I.hok.fresh<|Ê _⟩
 rcases hq with hq|hq
 .obtain⟨ð,r',pl,hz⟩:=I.list hq;have hlen:=r'.length;let⟨o,ho,hc,n,hd⟩:=pl.isList;exact call_list_seq p (.inl rfl) ho hc hd (λh' c' kp e=>fin ð r' hz h' c' kp e) (by simp![É]<;>lia)
 .obtain⟨ð,r',pl,hz⟩:=I.tuple hq;have hlen:=r'.length;let⟨o,ho,hc,n,hd⟩:=pl;exact call_list_seq p (.inr rfl) ho hc hd (λh' c' kp e=>fin ð r' hz h' c' kp e) (by simp![É]<;>lia)
abbrev tyV(K:Frag)(T:String)(x:V)(H:Hp):Prop:=match x with
 |.str _=>T = "str"
 |.int _=>T = "int"
 |.ref p=>(T = "list"/\∃xs,eY K H p xs)\/(T = "tuple"/\∃o,K.lookup p=df o/\o.cls=.type "tuple"/\o.dict=dg)\/
   (T = "dict"/\((∃kvs,H p=df (.dK kvs))\/∃kvs,H p=df (.dT kvs)))\/(T = "set"/\∃S n,H p=df (.set S n))
 |_=>False
def GA{T:String}{v:Ã}(I:Inv X Â σ H s)(r:RelV x v)(ty:tyV X.K T x H) :
  s.TypeIs v T/\∀a,v=.ref a->∃ob,s.heap.get? a=df ob/\ob.dict=dg:=by
 cases x with
 |str z =>let⟨t,rfl⟩:=r;cases (show T = "str" from ty);exact⟨typeIs_str s z t,λ_ e=>nomatch e⟩
 |int i =>let⟨t,rfl⟩:=r;cases (show T = "int" from ty);exact⟨typeIs_int s i t,λ_ e=>nomatch e⟩
 |ref p =>
  cases r;rcases ty with⟨rfl,xs,hq⟩|⟨rfl,o,hk,hc,hd⟩|⟨rfl,hk⟩|⟨rfl,S,n,hk⟩
  .obtain⟨ð,_,pl,_⟩:=I.list hq;refine⟨pl.isList.typeIs,λa e=>?_⟩;cases e;let⟨o,n,e,c,hd,_⟩:=pl;exact⟨o,e,hd⟩
  .refine⟨⟨o,I.kIn p o hk,hc⟩,λa e=>?_⟩;cases e;exact⟨o,I.kIn _ o hk,hd⟩
  .have z:∃o,s.heap.get? p=df o/\o.ExactDict:=by
    rcases hk with⟨kvs,hk⟩|⟨kvs,hk⟩
    .obtain⟨_,_,_,_,o,_,_,e,ex,_⟩:=I.hok p _ hk;exact⟨o,e,ex⟩
    .obtain⟨_,_,_,_,o,_,_,e,ex,_⟩:=I.hok p _ hk;exact⟨o,e,ex⟩
   let⟨o,e,ex⟩:=z;refine⟨⟨o,e,ex.1⟩,λa e2=>?_⟩;cases e2;exact⟨o,e,ex.2.1⟩
  .obtain⟨o,_,_,_,e,ex,_⟩:=I.hok p _ hk;refine⟨⟨o,e,ex.1⟩,λa e2=>?_⟩;cases e2;exact⟨o,e,ex.2.1⟩
 |_=>exact ı ty
abbrev tBM(K:Frag)(T:String)(r:V->List V->Hp->VK->Prop)(to:TE)(t:TA):TE:=λσ H Q=>to σ H λx H1=>tyV K T x H1/\t σ H1 λxs H2=>r x xs H2 Q
variable {o e:Expr}{es:List Expr}{to:TE}{t:TA}{name:Str}{Ľ ŏ:Pos}{T id:String}{r:V->List V->Hp->VK->Prop}
def Lg(pa:PlainAttrs T)(slot:Slot T name id)(hty:typeOf (.builtin id)=pure (.type "method_descriptor"))(hm:MtR X id r)(ho:PE X o to)(ha:PA X (e::es) t)
  (ϳ:ė o name X.env (eval o X.env)=eval o X.env:=by rfl)
  (Ϡ:((Ĕ ŏ<|Ñ (e::es) X.env).all (λx=>!x.1)&&(š ŏ<|Ķ [] X.env).all (λx=>x.1.isSome)
    && fB ((e::es).length+([]:List ah).length+(if([]:List ah).isEmpty then 0 else 1)<30))=dh:=by rfl)
  (ϴ:(Ľ.endLine==ŏ.line)=dh:=by rfl) (hs:Ñ (e::es) X.env=(di,eval e X.env)::Ñ es X.env:=by rfl) (bF:(Ĕ ŏ<|Ñ es X.env).any (·.1)=di:=by rfl) :
  PE X (.Call (.Attribute o name Ľ) (e::es) [] ŏ) (tBM X.K T r to t):=by
 k_upd;refine wpAny_Call_method_late ϳ Ϡ ϴ rfl<|thn (ho Â s σ H _ I h) λv s1 ⟨x,H1,I1,r1,ty,q1⟩=>?_;let⟨h1,h2⟩:=GA I1 r1 ty;refine⟨T,id,pa,slot,hty,h1,h2,?_⟩;have hA:=ha ŏ Â s1 σ H1 _ I1 q1;rw[hs]at hA ⊢;refine Calls.callWith_builtin (by show(di||(Ĕ ŏ<|Ñ es X.env).any (·.1))=di;rw[bF]<;>rfl)<|Calls.evalArgs_plain ?_;exact thn hA λus s2 ⟨vs,H2,I2,r2,q2⟩=>hm Â s2 σ H2 x vs v us Q I2 r1 r2 q2
/- xs.append(e),list.index on a module's tuple .. are MtR facts of 06m -/
end
abbrev MtM(X:Cx)(id:String)(r:V->List V->Hp->VK->Prop):Prop :=
 ∀(Â:List<|Ç×Obj) (s:Å) (σ:St) (H:Hp) (x:V) (xs:List V) (v:Ã) (us:List Ã) (Q:VK),Inv X Â σ H s->RelV x v->fc xs us->r x xs H Q->
  wpAny (Û X.prog X.w) X.A (call (.builtin id)<|v::us) (EP X Â σ Q) X.xe s
variable {x:V} {us:List Ã}
def fc.one(r:fc [x] us):∃u,us=[u]/\RelV x u:=Z9 r
def fc.two{y:V}(r:fc [x,y] us):∃u v,us=[u,v]/\RelV x u/\RelV y v:=Ez r
def fc.eraseIdx:∀{xs:List V}{us:List Ã}(i:Nat),fc xs us->fc (xs.eraseIdx i) (us.eraseIdx i)
 |_,_,_,.nil=>.nil
 |_,_,0,.cons _ t=>t
 |_,_,i+1,.cons r t=>.cons r<|fc.eraseIdx i t
def fc.rep{xs:List V}{us:List Ã}(h:fc xs us):∀k:Nat,fc (Ó k xs).flatten (Ó k us).flatten
 |0=>.nil
 |k+1=>by rw[ă,ă,į,į];exact fc.append h<|fc.rep h k
def XU{α:Type}:∀(l:List α) (i:Nat),(l.eraseIdx i).length<=l.length
 |[],_=>Ê _
 |_::_,0=>ő _
 |_::r,i+1=>ξ<|XU r i
def JT(ð:List Ã):∀(k:Nat) (ļ:List Ã),
  cF (λx1 x2=>x1++x2) ļ.toArray (Ó k ð.toArray)=(ļ++(Ó k ð).flatten).toArray
 |0,ļ=>by simp
 |k+1,ļ=>by
  have e:ļ.toArray++ð.toArray=(ļ++ð).toArray:=by simp
  have e2:(ļ++ð)++(Ó k ð).flatten=ļ++(Ó (k+1) ð).flatten:=by rw[ă,į,Ņ]
  rw[<-e2,<-JT ð k (ļ++ð),<-e,ă,ĭ]
section
variable {X:Cx}{Â:List (Ç×Obj)}{σ:St}{H:Hp}{s:Å}{l b:Ç}{xs ys zs:List V}
variable {ð:List Ã} {n:Nat} {t':Nat}
def Inv.lset{its':List Ã}{f:Array Ã->Array Ã}(I:Inv X Â σ H s)(hH:H l=df (.lst xs))
  (e:s.heap.get? l=df {cls:=.type "list",data:=.seq ð.toArray n}) (hf:f ð.toArray=its'.toArray) (hv:fc ys its') (hz:ys.length<=Ø) :
  Inv X Â σ (upd H l<|.lst ys) {s with heap:=s.heap.update l<|Ė f,toks:=t'}:=by
 have q:=PySem.IsL.update e f;rw[hf]at q;refine I.write (x:=l) (e:=l) (by rw[hH];exact trivial) (.inl rfl) (λb' u hb hu=>(ò s.heap (Ė f)<|Ne.symm hb).trans hu) ⟨_,q⟩ ?_;exact⟨hz,its',_,hv,q⟩
def Inv.lnew(I:Inv X Â σ H s)(hv:fc ys ð)(hz:ys.length<=Ø) :
  Inv X Â σ (upd H s.heap.objs.size<|.lst ys) {s with heap:=s.heap.push {cls:=.type "list",data:=.seq ð.toArray},toks:=t'} :=
 I.laid (λ_ _ q=>Ä _ q) (Ê _) ⟨hz,ð,0,hv,Ö _ rfl⟩
def Inv.fresh(I:Inv X Â σ H s):H s.heap.objs.size=dg:=I.hok.fresh (Ê _)
def Inv.lstM(I:Inv X Â σ H s)(hH:H l=df (.lst xs)):xs.length<=Ø/\∃(ð:List Ã) (n:Nat),fc xs ð/\xs.length=ð.length/\s.heap.get? l=df {cls:=.type "list",data:=.seq ð.toArray n}:=by let⟨z,ð,n,r,e⟩:=I.hok l _ hH;exact⟨z,ð,n,r,r.length,e⟩
def Af(h:n<=Ø):Builtin.List.listTooLong n=di:=by unfold Builtin.List.listTooLong;exact ft (by lia)
end
section
variable {X:Cx}
abbrev NI:V->List V->Hp->VK->Prop:=λx vs H Q=>∃l xs y,x=.ref l/\vs=[y]/\H l=df (.lst xs)/\xs.length<Ø/\Q .non (upd H l<|.lst<|xs++[y])
def OI:MtM X "list.append" NI:=by intro Â s σ H x vs v us Q I rx rv h;let⟨l,xs,y,rfl,rfl,hH,hz,q⟩:=h;cases rx;let⟨u,rfl,ru⟩:=rv.one;let⟨z,ð,n,r,hl,e⟩:=I.lstM hH;refine ž F.slot_list_append ⟨_,e,rfl⟩ F.entry_list_append (F.args_list_append_2 _ _) (PySem.list_append l ð.toArray n u<|by rw[É];lia) ⟨e,?_⟩;refine⟨.non,_,I.lset (its':=ð++[u]) hH e (by simp) (r.append<|.cons ru .nil) ?_,rfl,q⟩;rw[Þ,Γ];lia
abbrev Co:V->List V->Hp->VK->Prop:=λx vs H Q=>∃l xs i k y,x=.ref l/\vs=[.int i]/\H l=df (.lst xs)/\-(2 ^ 63)<=i/\i<2 ^ 63/\seqIndex? i xs.length=df k/\xs[k]?=df y/\Q y (upd H l<|.lst<|xs.eraseIdx k)
def AK:MtM X "list.pop" Co:=by
 intro Â s σ H x vs v us Q I rx rv h;let⟨l,xs,i,k,y,rfl,rfl,hH,h1,h2,hk,hy,q⟩:=h;cases rx;let⟨u,rfl,ru⟩:=rv.one;let⟨t,rfl⟩:=ru;let⟨z,ð,n,r,hl,e⟩:=I.lstM hH;let⟨w,hw,aJ⟩:=r.get hy;refine ž F.slot_list_pop ⟨_,e,rfl⟩ F.entry_list_pop (F.args_list_pop_2 _ _)
  (MeetsSeq.list_pop_at l ð.toArray n i t k w (fitsIndex_both h1 h2) (by rw[É,<-hl];exact hk) (by rw[<-Ŝ];exact hw)<|by rw[É];lia) ⟨e,?_⟩
 refine⟨y,_,I.lset (its':=ð.eraseIdx k) hH e ?_ (r.eraseIdx k) ?_,aJ,q⟩
 .show ð.toArray.eraseIdxIfInBounds k=(ð.eraseIdx k).toArray;rw[ϛ]
 .have:=XU xs k;lia
abbrev Ib:R2:=λx y H Q=>∃l b xs zs,x=.ref l/\y=.ref b/\H l=df (.lst xs)/\H b=df (.lst zs)/\xs.length+zs.length<=Ø/\∀p,H p=dg->Q (.ref p) (upd H p<|.lst<|xs++zs)
def Ha:OpR X (ĳ .Add) Ib:=by
 k_ne;let⟨l,b,xs,zs,rfl,rfl,hH,hB,hz,q⟩:=h;cases rx;cases ry;let⟨z,ð,n,r,hl,e⟩:=I.lstM hH;let⟨z2,Κ,n2,r2,hl2,e2⟩:=I.lstM hB;refine PySem.P.add_list e e2 ?_ (by rw[É,É];lia);have ea:ð.toArray++Κ.toArray=(ð++Κ).toArray:=by simp
 rw[ea];exact⟨.ref _,_,I.lnew (t':=s.toks) (r.append r2) (by rw[Þ];lia),rfl,q _ I.fresh⟩
abbrev I0:R2:=λx y H Q=>∃l k xs,x=.ref l/\y=.int k/\H l=df (.lst xs)/\-(2 ^ 63)<=k/\k<2 ^ 63/\xs.length*k.toNat<=Ø/\
 ∀p,H p=dg->Q (.ref p) (upd H p<|.lst (Ó k.toNat xs).flatten)
def Ep{α:Type}(xs:List α)(k:Nat):(Ó k xs).flatten.length=k*xs.length:=by
 induction k with
 |zero=>simp
 |succ k ih=>rw[ă,į,Þ,ih,Nat.succ_mul,Nat.add_comm]
def op_rep:OpR X (ĳ .Mult) I0:=by
 k_ne;let⟨l,k,xs,rfl,rfl,hH,h1,h2,hz,q⟩:=h;cases rx;let⟨t,rfl⟩:=ry;let⟨z,ð,n,r,hl,e⟩:=I.lstM hH;have hlen:ð.toArray.size*k.toNat<=Ø:=by rw[É,<-hl];exact hz
 have hcap:¬ ð.toArray.size*k.toNat > (2 ^ 63 - 1) / 8:=by
  have:(Ø:Nat)<=(2 ^ 63 - 1) / 8:=by decide
  lia
 have hfit:¬ (!Builtin.List.listFitsIndex k)=dh:=by rw[fitsIndex_both h1 h2];exact é
 have hlong:¬ Builtin.List.listTooLong (ð.toArray.size*k.toNat)=dh:=by rw[Af hlen];exact é
 have hnew:cF (λx1 x2=>x1++x2) #[] (Ó (if ð.toArray.isEmpty=dh then 0 else k.toNat) ð.toArray)=(Ó k.toNat ð).flatten.toArray:=by
  have f0:∀m:Nat,cF (λx1 x2=>x1++x2) #[] (Ó m ð.toArray)=(Ó m ð).flatten.toArray:=λm=>by have:=JT ð m [];rw[Į]at this;exact this
  rw[f0];cases ð with
  |nil=>simp
  |cons a r'=>rw[fo<|by simp]
 refine wpAny_binaryOp_repeat_ref (T:="list") (U:="int") (by decide) ⟨_,e,rfl⟩ (λs'=>typeIs_int s' k t) noFill_list_mul F.fills_int_mul F.slot_int_rmul repeat_list F.slot_int_index.lookup
  (ž F.slot_int_rmul (typeIs_int s k t) F.entry_int_rmul (F.args_int_rmul_2 _ _) (int___rmul___int_list k t l ð.toArray n)
    ⟨e,rfl,⟨_,e,rfl⟩,ž F.slot_list_mul ⟨_,e,rfl⟩ F.entry_list_mul (F.args_list_mul_2 _ _) (AutoListH.list___mul___list_int_3 l ð.toArray n k t hfit hcap hlong) ⟨e,?_⟩⟩)
 rw[hnew];exact⟨.ref _,_,I.lnew (t':=s.toks) (r.rep k.toNat) (by rw[Ep,bv];exact hz),rfl,q _ I.fresh⟩
end
end L2
namespace Att
open PySem PySem.W PySem.Calls PyProof.Rows
variable {P:Params} {h:ù}
def X3:∀(ns:List Int) (vs:List Ã),WellAll P h vs (ns.map WData.int)->ĝ vs ns:=by
 intro ns;induction ns with
 |nil =>intro vs w;rw[đ]at w;cases w;exact .nil
 |cons n ns ih =>
  intro vs w;rw[È]at w;cases w with
  |cons a b =>cases a;exact .cons _ _<|ih _ b
variable {l:OpenLaw} {n:Nat}
def O9(hn:l.most=df n){args:List WData}{vals:List Ã}
  (hpre:l.row.toRowW.claim.pre args=dh) (hwl:WellAll P h vals args) :
  ∃a vs ns,vals=[Value.ref a]/\args=[WData.list<|ns.map WData.int]/\h.get? a=df {cls:=.type "list",data:=.seq vs.toArray}/\ĝ vs ns/\ns.length<=n:=by
 have hsh:WShape.hasAll [] args [.list .int]=dh:=(pre_splitW hpre).1;have hc:l.pre.holds [] {args:=args}=dh:=(pre_splitW hpre).2;let⟨d,r,rfl,h1,h2⟩:=hasAllW_cons hsh;obtain rfl:=hasAllW_nil h2;let⟨xs,rfl,h3⟩:=hasW_list h1;let⟨ns,rfl⟩:=items_int h3;have hlen:ns.length<=n:=by
  unfold OpenLaw.pre at hc;have h4:(WTm.not<|.lt (.lit<|.int (n:Int))<|.len<|.arg 0).holds [] {args:=[.list<|ns.map .int]}=dh:=by have h4:=(holds_andW hc).1;rw[hn]at h4;exact h4
  have h5:=condW_of h4<|w_not<|w_lt w_lit<|w_len_list<|w_arg rfl;rw[Á]at h5;refine Nat.le_of_not_lt λq=>?_;have q':(n:Int)<((ns.length:Nat):Int):=by lia
  first
   |(rw[fw q']at h5;exact fA h5<|by decide)
   |(simp at h5;lia)
 cases hwl with
 |cons w1 w2 =>
  cases w2;cases w1 with
  |list ho bG=>exact⟨_,_,ns,rfl,rfl,ho,X3 ns _ bG,hlen⟩
def Ux(l:OpenLaw)(args:List WData):l.row.toRowW.claim.post args (.bool dh) args=dh :=
 postW_of (r:=l.row.toRowW) (X:=(dh==dh))
  (show WShape.has [] (.bool dh) .bool=dh by first|rfl|decide|simp[WShape.has,WShape.arms,WShape.armsAll])
  (show(WTm.eq .res<|.lit<|.bool dh).value [] {args:=args,res:=df<|.bool dh,after:=args}=df (.bool<|dh==dh) from w_eq_bool (w_res rfl) w_lit) rfl
def attach_call{q:ä}{loose:List Str}{XP:(Str->Option Ã)->ù->Prop}{YP:ü->ù->Prop}{d:DefRec}
  (hn:l.most=df n) (hdf:d.params.defaults=[])
  (call:∀(w:ü) (s₀ Ĝ:Å) (mg mb:Str->Option Ã) (fa:Ç) (o:Obj) (pm cd doc:Ã) (a:Ç) (vs:List Ã) (ns:List Int),
    Ground q loose [] XP w s₀ mg mb Ĝ.heap->YP w Ĝ.heap->
    Ĝ.heap.get? fa=df o->o.data=.func (docDef d.name d.params d.body d.scope pm cd doc)->Ĝ.heap.CodeRec cd d.name->mg d.name=df (.ref fa)->
    Ĝ.heap.get? a=df {cls:=.type "list",data:=.seq vs.toArray}->ĝ vs ns->ns.length<=n->Ĝ.gens=#[]->
    codeAny (Û l.prog w) ϔ (.call (.ref fa) ⟨[.ref a],[]⟩) (λr s'=>r=.ok (.ret<|.bool dh)/\OldK Ĝ.heap s'.heap/\s'.os=Ĝ.os/\π s'.gens) Ĝ) :
  WalkO q loose XP YP l.row.toRowW d [] (λf vs=>PySem.call f vs):=by
 intro w s₀ Ĝ mg mb G Y fa o pm cd doc dV kV ho hd ax hD hmg hg args vals as hpre hlay hrd hwl hlo;obtain rfl:dV=.none:=Dflts.none hD hdf;obtain rfl:kV=.none:=Dflts.noKw hD;let⟨a,vs,ns,rfl,rfl,cr,hints,hlen⟩:=O9 hn hpre hwl;refine enter_call<|af (call w s₀ Ĝ mg mb fa o pm cd doc a vs ns G Y ho (fd_plain hd) ax hmg cr hints hlen hg) λr s' hq=>?_;let⟨rfl,h2,h3,h4⟩:=hq;exact⟨.inl ⟨.bool dh,.bool dh,[],rfl,λ_=>rfl,.bool dh,Ux l _,λ_=>⟨List.Pairwise.nil,λ_ hm=>(nomatch hm)⟩⟩,h2,h3,h4⟩
end Att
namespace L2
open PySem PySem.Spec PyProof.Rows
def XH:∀{vs:List Ã}{ns:List Int},ĝ vs ns->fc (ns.map V.int) vs
 |_,_,.nil=>.nil
 |_,_,.cons n t h=>.cons ⟨t,rfl⟩<|XH h
abbrev Gv(H:Hp):Prop:=∀b,H b=dg\/∃o xs,H b=df (.frz o<|.lst xs)
def BP{P:ä}{w:ü}{K:Frag}{mg mb:Str->Option Ã}{CX:CXT}{k:Nat}{fa a:Ç}{fd:ĵ}{x:Str}{sp:Sp}{Ĝ:Å}{vs:List Ã}{ns:List Int}
  (KX:K.In Ĝ.heap) (hns:Ĝ.heap.Ns þ mg) (hb:Ĝ.heap.Ns builtinsNs mb) (hbb:∀x:Str,x≠"__name__"->mb x=ń x) (hlim:Ĝ.heap.NoLimit) (hg:Ĝ.gens=#[])
  (ha:Ĝ.heap.get? a=df {cls:=.type "list",data:=.seq vs.toArray}) (hi:ĝ vs ns) (hl:ns.length<=Ø) (hr:dW k ϔ)
  (F:∀base:ù,K.In base->base.Ns þ mg->dX P w K mg base CX k fa fd [x] sp) (hbind:∀(s:Å) (u:Ã),BindsTo s fd ⟨[u],[]⟩ [(x,u)])
  (hsp:∀H:Hp,Gv H->eY K H a (ns.map V.int)->sp [.ref a] H (λv _=>v=.bl dh) λ_ _ _=>False)
  (hCX:∀H e s',CX [] H Ĝ (λ_ _ _=>False) e s'->False) :
  codeAny (Û P w) ϔ (.call (.ref fa) ⟨[.ref a],[]⟩) (λr s'=>r=.ok (.ret<|.bool dh)/\OldK Ĝ.heap s'.heap/\s'.os=Ĝ.os/\π s'.gens) Ĝ:=by
 have rv:=XH hi;have eK:=hi.length;have core:∀H:Hp,Gv H->eY K H a (ns.map V.int)->HOk P w H Ĝ.heap->(∀b,H b≠dg->b=a)->(H a≠dg->K.lookup a=dg)->
   codeAny (Û P w) ϔ (.call (.ref fa) ⟨[.ref a],[]⟩) (λr s'=>r=.ok (.ret<|.bool dh)/\OldK Ĝ.heap s'.heap/\s'.os=Ĝ.os/\π s'.gens) Ĝ:=by
  intro H hO hS hok hA hK;have bV:∀{b:Ç}{o:Obj},Ĝ.heap.get? b=df o->H b=dg->(Ke Ĝ.heap H).get? b=df o:=λe n=>Aq e n;have noA:∀{b:Ç}{o:Obj}{es:Array DictEntry}{ep:Nat},Ĝ.heap.get? b=df o->o.data=.dict es ep->H b=dg:=λ{b o es ep} e d=>by
   cases q:H b with
   |none=>rfl
   |some u =>have e':b=a:=hA b (by rw[q];simp);subst e';rw[ha]at e;cases e;have d':Data.seq vs.toArray _=Data.dict es ep:=d;cases d'
  have nsK:∀{b:Ç}{m:Str->Option Ã},Ĝ.heap.Ns b m->(Ke Ĝ.heap H).Ns b m:=λ{b m} ⟨o,es,ep,e,d,r⟩=>⟨o,es,ep,bV e<|noA e d,d,r⟩
  have hKb:K.In<|Ke Ĝ.heap H:=λb o e=>bV (KX b o e) (by
    cases q:H b with
    |none=>rfl
    |some u =>
      have e':b=a:=hA b (by rw[q];simp)
      subst e'
      rw[hK<|by rw[q];simp]at e;cases e)
  have hM:Mod K mg<|Ke Ĝ.heap H:=⟨hKb,nsK hns,⟨mb,nsK hb,hbb⟩,let ⟨mc,h1,h2⟩:=hlim;⟨mc,nsK h1,h2⟩⟩
  have e0:Env0 P w K mg (Ke Ĝ.heap H) ϔ [] Ĝ H:=⟨rfl,hM,λb o e=>Dg e,Nat.le_of_eq<|Uf _ _,trivial,λb hb=>fA (show b∈([]:List Ç) from hb) (by simp),hok,.of_eq hg⟩
  refine af ((F _ hKb<|nsK hns).run ϔ [] Ĝ H ⟨[.ref a],[]⟩ [.ref a] [.ref a] _ _ hr e0 (hbind Ĝ<|.ref a) (.cons rfl .nil)<|hsp H hO hS) λr s' h=>?_;cases r with
  |error e=>exact(hCX H e s' h).elim
  |ok fl =>
   cases fl with
   |next=>exact ı h
   |brk=>exact ı h
   |cont=>exact ı h
   |ret u =>
    let⟨v,H',os,bare,un,hok',r',q⟩:=h;have q':v=.bl dh:=q;subst q';obtain rfl:u=Value.bool dh:=r';refine⟨rfl,OldK.of_keep λb o e=>?_,os,bare⟩;cases q:H b with
    |none=>exact un.keep b o e q (by intro z;exact fA (show b∈([]:List Ç) from z)<|by simp) (by simp)
    |some u =>
     rcases hO b with z|⟨ob,xs,z⟩
     .rw[q]at z;cases z
     .have z2:=un.frzs b ob _ z;let⟨e1,_⟩:=hok b _ z;let⟨e2,_⟩:=hok' b _ z2;rw[e]at e1;cases e1;exact e2
 cases hk:K.lookup a with
 |some o =>have e:=KX a o hk;rw[ha]at e;cases e;refine core (λ_=>dg) (λ_=>.inl rfl) (.inr ⟨_,vs.toArray,_,hk,rfl,rfl,rfl,by rw[É,eK];exact hl,⇑rv⟩) (λb u z=>by have z':(dg:Option HO)=df u:=z;cases z') (λb z=>fA rfl z) λz=>fA rfl z
 |none =>
  refine core (λb=>if b=a then df (.frz {cls:=.type "list",data:=.seq vs.toArray}<|.lst<|ns.map V.int)else dg) (λb=>?_) (.inl<|.inr ⟨{cls:=.type "list",data:=.seq vs.toArray},fm rfl⟩) (λb u z=>?_) (λb z=>?_) λ_=>hk
  .by_cases hb:b=a
   .exact .inr ⟨_,_,fm hb⟩
   .exact .inl<|fo hb
  .by_cases hb:b=a
   .have z':=(fm hb).symm.trans z;cases z';subst hb;exact⟨ha,by rw[Á];exact hl,vs,_,rv,ha⟩
   .have z':=(fo hb).symm.trans z;cases z'
  .by_cases hb:b=a
   .exact hb
   .exact fA (fo hb) z
abbrev YA(s:ġ):Arguments:=match s with
 |.FunctionDef _ a _ _ _ _ _ _ _ _=>a
 |_=>{posonlyargs:=[],args:=[],vararg:=dg,kwonlyargs:=[],kw_defaults:=[],kwarg:=dg,defaults:=[]}
abbrev ZR(s:ġ):List ġ:=match s with
 |.FunctionDef _ _ b _ _ _ _ _ _ _=>b
 |_=>[]
abbrev Zz(s:ġ):Ť:=match s with
 |.FunctionDef _ _ _ _ _ _ sc _ _ _=>sc
 |_=>{kind:=.function,names:=[],isGenerator:=di,isCoroutine:=di}
noncomputable abbrev E0:XK:=λ_ _ _=>False
structure Fun(K:Frag)(x qual:Str)(st:ġ)(f:Ç)(fd:ĵ):Prop where
 ex:∃(oc:Ã) (od:Option Ç) (kV doc pm:Ã) (an:Option Ç) (Ρ ct:Ã) (osl:Array<|Option Ã),
  fd=PySem.W.fnOf x qual (YA st) (ZR st) (Zz st) .none kV doc pm an Ρ ct/\K.lookup f=df ⟨oc,od,.func fd,osl⟩/\PySem.W.codeIn K Ρ qual=dh
 kp:PySem.W.keepIn K (.ref f)=dh
section
variable {P:ä}{w:ü}{K:Frag}{mg:Str->Option Ã}{base:ù}
variable {x:Str} {qual:Str} {st:ġ} {f:Ç}
def Fun.binds{fd:ĵ}{ps:List Str}(F:Fun K x qual st f fd)
  (h:∀(kV doc pm:Ã) (an:Option Ç) (Ρ ct:Ã) (us:List Ã),us.length=ps.length->bindArgs (PySem.W.fnOf x qual (YA st) (ZR st) (Zz st) .none kV doc pm an Ρ ct) ⟨us,[]⟩=pure (ps.zip us)):Binds K fd ps []:=by
 let⟨oc,od,kV,doc,pm,an,Ρ,ct,osl,rfl,lk,ax⟩:=F.ex;exact .all<|h kV doc pm an Ρ ct
def BC{oc:Ã}{od an:Option Ç}{osl:Array (Option Ã)}{kV doc pm Ρ ct:Ã}(l:K.lookup f=df ⟨oc,od,.func<|PySem.W.fnOf x qual (YA st) (ZR st) (Zz st) .none kV doc pm an Ρ ct,osl⟩)
  (c:PySem.W.codeIn K Ρ qual=dh) (k:PySem.W.keepIn K (.ref f)=dh):Fun K x qual st f<|PySem.W.fnOf x qual (YA st) (ZR st) (Zz st) .none kV doc pm an Ρ ct:=⟨⟨oc,od,kV,doc,pm,an,Ρ,ct,osl,rfl,l,c⟩,k⟩
end
end L2
set_option maxHeartbeats 4000000
namespace L2
open PySem PySem.Spec PyProof.Rows
variable {w:ü}
def HOk.track{P:ä}{H:Hp}{h:ù}{a:Ç}{o:HO}(x:HOk P w H h)(hn:H a=dg)(new:dC P w (upd H a o) h a o):HOk P w (upd H a o) h:=λb u e=>by
 by_cases hb:b=a
 .subst hb;rw[dm]at e;cases e;exact new
 .rw[dj hb]at e;exact(x b u e).stay (λc v _ q=>q) (λc q=>by rw[dj<|Zo q hn];exact q) λc xs q=>by rw[dj<|Zo q hn];exact q
abbrev ZA(X:Cx)(scope:Ť)(N':List Str)(cl:List<|Str×Ç)(C:Ç)(s:Å)(H:Hp)(ex:List Ç):Cx where
 prog:=X.prog
 w:=X.w
 K:=X.K
 mg:=X.mg
 base:=X.base
 A:=X.A
 N:=N'
 s₀:=s
 H₀:=H
 env:=compEnvC scope cl C X.env
 outer:=X.stack
 stack:=X.stack
 ex:=ex
 fn:=λ_=>di
 calm:=X.calm
 pn:=[]
 xe:=λ_ _=>False
abbrev ZZ(X:Cx)(x:List Str)(ô:List Nat):List Str:=x++ô.map λj=>X.N.getD j Str.empty
abbrev MU(σ:St)(ô:List Nat):St:=ô.map λj=>(σ[j]?).getD dg
structure BlkOk(X:Cx)(scope:Ť)(x:List Str)(ô:List Nat):Prop where
 kind:scope.kind=.function
 nocell:∀y∈scope.names,y.2≠.cell
 locs:∀y∈scope.names,y.2=.local->scope.names.lookup y.1=df .local
 own:∀y∈x,scope.names.lookup y=df .local
 frees:∀y∈scope.names,y.2=.free->X.env.kindOf y.1=df .cell
 cap:∀j∈ô,(X.N[j]?).isSome=dh/\X.env.kindOf (X.N.getD j Str.empty)=df .cell/\scope.names.lookup (X.N.getD j Str.empty)=df .free
 nd:(ZZ X x ô).Nodup
def Yx{env:Env}:∀(names:List<|Str×Η) (ļ:List<|Str×Ç),(∀y∈names,y.2=.free->∃c,env.cells.lookup y.1=df c)->(∀x c,ļ.lookup x=df c->env.cells.lookup x=df c)->
  ∃cl,(forIn names ļ λ(p:Str×Η) (r:List<|Str×Ç)=>(do
    if(p.2 == Ě)=dh then do let a<-cellOf env p.1;pure (Ĩ<|(p.1,a)::r)else pure (Ĩ r):Sem _))=pure cl/\
   (∀x c,cl.lookup x=df c->env.cells.lookup x=df c)/\(∀x c,ļ.lookup x=df c->∃c',cl.lookup x=df c')/\∀x,(x,Ě)∈names->∃c,cl.lookup x=df c
 |[],ļ,_,ha=>⟨ļ,rfl,ha,λx c h=>⟨c,h⟩,λx h=>nomatch h⟩
 |(n,k)::r,ļ,hn,ha=>by
  by_cases hk:k=.free
  .subst hk;let⟨c,hc⟩:=hn (n,.free) Ý rfl;have ha':∀x d,(((n,c)::ļ:List<|Str×Ç)).lookup x=df d->env.cells.lookup x=df d:=λx d h=>by
    rw[à]at h;cases e:x==n with
    |true =>
     rw[e]at h;have:x=n:=⇑e
     subst this;cases h;exact hc
    |false=>rw[e]at h;exact ha x d h
   let⟨cl,h1,h2,h3,h4⟩:=Yx r ((n,c)::ļ) (λy hy=>hn y<|Ù _ hy) ha';refine⟨cl,?_,h2,λx d h=>?_,λx hx=>?_⟩
   .rw[Α];have e:cellOf env n=pure c:=by unfold cellOf;rw[hc]
    simp![beq_self_eq_true,if_true,e];exact h1
   .by_cases hx:x=n
    .subst hx;exact h3 x c (by rw[à];simp)
    .exact h3 x d (by rw[à,beq_false_of_ne hx];exact h)
   .rcases Æ.mp hx with e|hx
    .cases e;exact h3 _ c (by rw[à];simp)
    .exact h4 x hx
  .have hb:(k==Ě)=di:=⇑hk
   let⟨cl,h1,h2,h3,h4⟩:=Yx r ļ (λy hy=>hn y<|Ù _ hy) ha;refine⟨cl,?_,h2,h3,λx hx=>?_⟩
   .rw[Α];simp![hb,ú,if_false];exact h1
   .rcases Æ.mp hx with e|hx
    .cases e;exact fA rfl hk
    .exact h4 x hx
def ZW{env:Env}:∀{names:List (Str×Η)}{x:Str}{k:Η},(names.map λ(n,k)=>if(k==Ě&&env.scope.kind == .function&&env.kindOf n==df .cell)then(n,cT)else(n,k)).lookup x=df k->
  (∃k0,(x,k0)∈names/\names.lookup x=df k0/\(k0=k\/(k0=.free/\k=.cell)))
 |[],_,_,h=>by simp at h
 |(n,k0)::r,x,k,h=>by
  rw[È,à]at h;cases hx:x==n with
  |true =>
   have e:x=n:=⇑hx
   subst e;refine⟨k0,Ý,by rw[à];simp,?_⟩;by_cases hc:(k0==Ě&&env.scope.kind == .function&&env.kindOf x==df .cell)=dh
   .rw[fm hc]at h;simp at h;have:k0=.free:=by
     simp![bAq]at hc;simpa using hc.1.1
    exact .inr ⟨this,h.symm⟩
   .rw[fo hc]at h;simp at h;exact .inl h
  |false =>
   have h':(r.map λ(n,k)=>if(k==Ě&&env.scope.kind == .function&&env.kindOf n==df .cell)then(n,cT)else(n,k)).lookup x=df k:=by
    by_cases hc:(k0==Ě&&env.scope.kind == .function&&env.kindOf n==df .cell)=dh
    .rw[fm hc]at h;simpa[hx]using h
    .rw[fo hc]at h;simpa[hx]using h
   let⟨k1,a,b,c⟩:=ZW h';exact⟨k1,Ù _ a,by rw[à,hx];exact b,c⟩
abbrev PIfs(X:Cx)(ay:List Expr)(t:TT):Prop :=
 ∀(Â:List<|Ç×Obj) (s:Å) (σ:St) (H:Hp) (Q:Bool->Hp->Prop),Inv X Â σ H s->t σ H Q->
  wpAny (Û X.prog X.w) X.A (forIn ay dh λc r=>if r=dh then do let ok<-bq c X.env (eval c X.env);pure (Ĩ ok)else pure (Ĩ r)) (TP X Â σ Q) X.xe s
abbrev L0:TT:=λ_ H Q=>Q dh H
variable {X:Cx}
def pifs_nil:PIfs X [] L0:=λ_ _ _ H _ I h=>wpAny_tests_nil ⟨H,I,h⟩
def Xz{c:Expr}{t:TT}(h:PT X c t):PIfs X [c] t:=λÂ s σ H Q I hq=>wpAny_tests_one (h Â s σ H Q I hq)
abbrev Fe(J:It)(tg:TG)(tc:TT)(te:TE)(Fin:List V->Hp->Prop)(W:Nat->Nat->List V->St->Hp->Prop):Prop :=
 ∀i m ys τ H,W i m ys τ H->ys.length<Ø/\((J.stop i H/\Fin ys H)\/(J.go i H/\∃N:List V->St->Hp->Prop,(∀ys' τ' H',N ys' τ' H'->∃m',m'<m/\W (i+1) m' ys' τ' H')/\∀x H',J.yld i H x H'->
   tg x τ H' λτ' H1=>tc τ' H1 λb H2=>if b=dh then te τ' H2 λy H3=>N (ys++[y]) τ' H3 else N ys τ' H2))
abbrev Ab(wi:TI)(k:Nat)(ô:List Nat)(tg:TG)(tc:TT)(te:TE):TE:=λσ H Q=>wi σ H λJ H1=>∃W:Nat->Nat->List V->St->Hp->Prop,(∃m,W 0 m [] (Ó k dg++MU σ ô) H1)/\
 Fe J tg tc te (λys H=>∀p,H p=dg->Q (.ref p) (upd H p<|.lst ys)) W
section
variable {X:Cx}{Â:List (Ç×Obj)}{σ:St}{H2:Hp}{s2:Å}
variable {scope:Ť} {x:List Str} {ô:List Nat} {cl:List (Str×Ç)} {fp:List Ç}
def Uh{s3:Å}{D:Ç}{h1:ù}{tk:Nat}{m:Str->Option Ã}(B:BlkOk X scope x ô)(I2:Inv X Â σ H2 s2)(f2:∀b∈fp,XT X Â H2 b)
  (c1:∀x c,cl.lookup x=df c->X.env.cells.lookup x=df c) (c2:∀x,(x,Ě)∈scope.names->∃c,cl.lookup x=df c)
  (I3:Inv X Â σ H2 s3) (hD:D=s2.heap.objs.size) (h3:s3.heap.objs.size=D+1) (ac:∀b o,s3.heap.get? b=df o->h1.get? b=df o) (hfp:∀b∈fp,b<s2.heap.objs.size)
  (hn:h1.Ns s3.heap.objs.size m) :
  Inv (ZA X scope (ZZ X x ô) cl s3.heap.objs.size s3 H2<|D::fp) [] (Ó x.length dg++MU σ ô) H2 {s3 with heap:=h1,toks:=tk}:=by
 have neD:∀b o,s2.heap.get? b=df o->b≠D:=λb o e=>by rw[hD];exact è<|Ô e
 have exlt:∀b∈D::fp,b<s3.heap.objs.size:=λb hb=>by
  rw[h3];rcases Æ.mp hb with e|hb
  .rw[e];exact Ļ _
  .exact Ř (by rw[hD];exact hfp b hb)
 have keeps:=I3.hok.kept (h':=h1) ac;refine⟨⟨I2.mod,B.kind,I2.ok.glob,I2.ok.blt,Ê _,λy z c e1 e2=>?_,λy hy=>?_,λy c e _=>(by cases e),λhc=>I2.ok.hd hc,I2.ok.frames,.inl rfl,λb hb=>?_,λb o e=>?_,?_,λb o e hb=>?_,λb hb hf=>?_,I3.stack,λb hb=>I2.stkFree b hb⟩,
   rfl,I3.bare,Un.kept ac,⟨m,hn,λi y v e1 e2 e3=>?_⟩,λy c e=>?_,I3.hok.fresh<|Ê _,λy c e=>I3.freeC y c<|c1 y c e,λp hp=>(nomatch hp),keeps,?_⟩
 .exact I2.ok.inj y z c (c1 y c e1)<|c1 z c e2
 .have hy:(bg scope X.env).names.lookup y=df .cell\/(bg scope X.env).names.lookup y=df .free:=hy;rcases hy with hy|hy
  .obtain⟨k0,a,b,c⟩:=ZW hy;rcases c with c|⟨c,_⟩
   .subst c;exact fA rfl<|B.nocell _ a
   .subst c;exact c2 y a
  .obtain⟨k0,a,b,c⟩:=ZW hy;rcases c with c|⟨_,c⟩
   .subst c;exact c2 y a
   .cases c
 .refine⟨è<|exlt b hb,λy c e z=>?_⟩;have e':=c1 y c e;rcases Æ.mp hb with q|q
  .obtain⟨v,o,ho,_⟩:=I2.cell y c e';exact neD c o ho<|z.trans q
  .exact(f2 b q).2.2.2.2.1 y c e' z
 .exact I3.bs b o e
 .exact Ü I2.ok.bsz (Ü I2.sz<|show s2.heap.objs.size<=s3.heap.objs.size by rw[h3,hD];exact ő _)
 .rcases Æ.mp hb with q|q
  .exact neD b o (I2.bk b o e) q
  .rcases (f2 b q).2.2.2.1 with z|z
   .exact I2.ok.noex b o e z
   .exact fA (ß (Ô (I2.ok.bs b o e).1) z)<|ģ _
 .have hf:b∈frs X.stack:=hf;rcases Æ.mp (I2.stkSub b hf)with z|z
  .rcases Æ.mp hb with q|q
   .exact fA I2.lt (by rw[<-z,q,hD];exact ģ _)
   .exact(f2 b q).2.1 z
  .rcases Æ.mp hb with q|q
   .exact I2.nofs (a:=b) (by rw[q,hD];exact Ê _) z
   .exact(f2 b q).2.2.1 z
 .by_cases hik:i<x.length
  .rw[ÿ (by rw[ñ];exact hik),ĸ,fm hik]at e2;cases e2
  .have e1:(x++ô.map λj=>X.N.getD j Str.empty)[i]?=df y:=e1;rw[ć<|by lia]at e1;rw[ć (by rw[ñ];lia),ñ]at e2;generalize i - x.length=j at e1 e2;have e2:(ô.map λj=>(σ[j]?).getD dg)[j]?=df (df v):=e2;rw[ã]at e1 e2;cases hj:ô[j]? with
   |none=>rw[hj]at e1;cases e1
   |some q =>
    rw[hj]at e1 e2;have e1':X.N.getD q Str.empty=y:=ë e1;have e2':(σ[q]?).getD dg=df v:=ë e2;let⟨hs,hk,hsc⟩:=B.cap q<|å hj;let⟨y',hy'⟩:=Ì.mp hs;have ey:y'=y:=by rw[<-e1',ì,hy'];rfl
    subst ey;have es:σ[q]?=df (df v):=by
     cases hq:σ[q]? with
     |none=>rw[hq]at e2';cases e2'
     |some o=>rw[hq]at e2';exact congrArg df e2'
    rw[e1']at hk hsc;let⟨m2,_,hl⟩:=I3.loc;have aV:X.env.scope.names.lookup y'=df .cell:=hk;let⟨u,r,l⟩:=hl q y' v hy' es<|.inr<|.inl aV;refine⟨u,r,.inr ⟨?_,?_⟩⟩
    .rcases e3 with e3|e3|e3
     .obtain⟨k0,a,b,c⟩:=ZW (show(bg scope X.env).names.lookup y'=df .local from e3);rw[hsc]at b;cases b;rcases c with c|⟨_,c⟩<;>cases c
     .exact .inl e3
     .exact .inr e3
    .rcases l with⟨l,_⟩|⟨_,c,hc,z⟩
     .rw[hk]at l;cases l
     .obtain⟨c',bo⟩:=c2 y'<|PySem.mem_of_lookup hsc;have ec:c'=c:=ë<|(c1 y' c' bo).symm.trans hc;subst ec;let⟨o,ho,hd⟩:=z;exact⟨c',bo,o,ac c' o ho,hd⟩
 .obtain⟨v,o,ho,hd⟩:=I3.cell y c<|c1 y c e;exact⟨v,o,ac c o ho,hd⟩
 .show _=(ZZ X x ô).length;unfold ZZ MU;rw[Þ,Þ,Á,Á,ñ]
def Y5{env:Env}(h:∀y∈scope.names,y.2=.free->∃c,env.cells.lookup y.1=df c) :
  ∃cl,closureFor scope env=pure cl/\(∀x c,cl.lookup x=df c->env.cells.lookup x=df c)/\∀x,(x,Ě)∈scope.names->∃c,cl.lookup x=df c:=by
 let⟨cl,h1,h2,_,h4⟩:=Yx (env:=env) scope.names [] h λx c e=>nomatch e;refine⟨cl,?_,h2,h4⟩;simp![closureFor];have e:(forIn scope.names ([]:List<|Str×Ç) λx r =>
     (match x with
     | (name,kind)=>if(kind == Ě)=dh then do let a<-cellOf env name;pure (Ĩ<|(name,a)::r)else pure (Ĩ r):Sem<|ForInStep<|List<|Str×Ç))=pure cl:=h1
 first
  |(rw[e];rfl)
  |(refine Eq.trans (congrArg (· >>= pure) ?_) (rfl:(pure cl >>= pure:Sem _)=pure cl);exact e)
variable {aW:Expr} {iter:Expr} {ay:List Expr} {ç:Pos}
def K8{prog:ä}{A:ċ}{R:Result->Å->Prop}{s:Å}{ϐ:Expr}{it ļ:Ã}{env:Env}(I:Nat->Å->Prop)
  (turn:∀n s,I n s->wpAny (Û prog w) A (ό it) (λr Ĝ=>match r with
    |none=>R (.ok .next) Ĝ
    | some v=>wpAny (Û prog w) A (Τ ϐ it v) (λ_ Ĝ=>wpAny (Û prog w) A (ť ϐ env v) (λ_ ba =>
        wpAny (Û prog w) A (forIn ay dh λc r=>if r=dh then do let ok<-bq c env (eval c env);pure (Ĩ ok)else pure (Ĩ r)) (λok ϵ =>
          if ok=dh then wpAny (Û prog w) A (eval aW env) (λx s₄ =>
            wpAny (Û prog w) A (call (.builtin "list.append") [ļ,x]) (λ_ s₅=>∃m,m<n/\I m s₅) (λ_ _=>False) s₄) (λ_ _=>False) ϵ
          else ∃m,m<n/\I m ϵ) (λ_ _=>False) ba) (λ_ _=>False) Ĝ) (λ_ _=>False) Ĝ) (λ_ _=>False) s)
  (n:Nat) (h:I n s) :
  codeAny (Û prog w) A (.compLoop (.ListComp aW [⟨ϐ,iter,ay,0⟩] scope ç) 0 it ļ env) R s:=by
 refine codeAny_loop rfl I (λn s hI=>?_) n h;show wpAny _ A ((compTurn (.ListComp aW [⟨ϐ,iter,ay,0⟩] scope ç) 0 it ļ env).onRaise λx=>do aE x env;theTreesLotGoes x) _ _ s;refine wpAny_noted ?_;rw[compTurn_list];refine À<|ϣ<|À<|ĺ (turn n s hI) (λr Ĝ ϡ=>?_) λ_ _ h'=>h'.elim;cases r with
 |none=>exact Ë ϡ
 |some v =>
  refine À<|ĺ ϡ (λ_ Ĝ ϡ=>?_) λ_ _ h'=>h'.elim;refine À<|ĺ ϡ (λ_ ba h₂=>À<|ĺ h₂ (λok ϵ h₃=>?_) λ_ _ h'=>h'.elim) λ_ _ h'=>h'.elim;cases ok with
  |false=>exact Ë ⟨rfl,h₃⟩
  |true =>exact À<|À<|ĺ h₃ (λx s₄ h₄=>À<|ĺ h₄ (λ_ s₅ h₅=>Ë<|Ë ⟨rfl,h₅⟩) λ_ _ h'=>h'.elim) λ_ _ h'=>h'.elim
variable {aK:Expr} {tg:TG} {te:TE}
def JA{it:Ç}{tn:Nat->ù->Prop}{J:It}{tc:TT}{Fin:List V->Hp->Prop}{W:Nat->Nat->List V->St->Hp->Prop}{E:Ã->Å->Prop}
  {RR:Ã->Ç->Result->Å->Prop}{m0:Nat}(hc:X.calm=dh) (B:BlkOk X scope x ô) (I2:Inv X Â σ H2 s2) (T:Turn X.prog X.w X.K aK J fp it tn) (st2:tn 0 s2.heap) (f2:∀b∈fp,XT X Â H2 b)
  (c1:∀x c,cl.lookup x=df c->X.env.cells.lookup x=df c) (c2:∀x,(x,Ě)∈scope.names->∃c,cl.lookup x=df c)
  (hI:∀cl C s H ex,PIfs (ZA X scope (ZZ X x ô) cl C s H ex) ay tc) (hE:∀cl C s H ex,PE (ZA X scope (ZZ X x ô) cl C s H ex) aW te)
  (hG:∀cl C s H ex,PG (ZA X scope (ZZ X x ô) cl C s H ex) aK tg) (w0:W 0 m0 [] (Ó x.length dg++MU σ ô) H2) (cw:Fe J tg tc te Fin W)
  (hRR:∀D C s' H' ys m,H' D=dg->s'.heap.Ns C m->XT X Â (upd H' D<|.lst ys) C->Inv X Â σ (upd H' D<|.lst ys) s'->Fin ys H'->RR (.ref D) C (.ok .next) s') :
  wpAny (Û X.prog X.w) X.A (newList []) (λļ ϵ=>wpAny (Û X.prog X.w) X.A (newFunctionEnv scope X.env.globals cl [] X.env.qual dg .none<|df X.env) (λcenv s₄ =>
    codeAny (Û X.prog X.w) X.A (.compStart (.ListComp aW [⟨aK,iter,ay,0⟩] scope ç) 0 (.ref it) ļ { cenv with scope:=bg scope X.env }) (RR ļ cenv.locals) s₄) E ϵ) E s2:=by
 refine ķ (wpAny_newFunctionEnv B.nocell (by intro y hy;simp at hy) (λϡ bH bI=>?_) B.kind);dsimp only at bH bI ⊢;have hfp:∀b∈fp,b<s2.heap.objs.size:=λb hb=>by let⟨o,e,_⟩:=T.obj _ _ st2 b hb;exact Ô e
 have I3:Inv X Â σ H2 {s2 with heap:=s2.heap.push {cls:=.type "list",dict:=dg,data:=.seq ([]:List Ã).toArray}}:=I2.kept (t':=s2.toks) λb o e=>Ä _ e;have h3:(s2.heap.push {cls:=.type "list",dict:=dg,data:=.seq ([]:List Ã).toArray}).objs.size=s2.heap.objs.size+1:=ħ ..;have cr:(s2.heap.push {cls:=.type "list",dict:=dg,data:=.seq ([]:List Ã).toArray}).get? s2.heap.objs.size=df {cls:=.type "list",dict:=dg,data:=.seq ([]:List Ã).toArray}:=Ö _ rfl;have bJ:∀b o,s2.heap.get? b=df o->(s2.heap.push {cls:=.type "list",dict:=dg,data:=.seq ([]:List Ã).toArray}).get? b=df o:=λb o e=>Ä _ e;generalize hH3:s2.heap.push {cls:=.type "list",dict:=dg,data:=.seq ([]:List Ã).toArray}=h3' at bH bI I3 h3 cr bJ ⊢;have ac:∀b o,h3'.get? b=df o->ϡ.get? b=df o:=λb o e=>bI.extBut b o (è<|Ô e)<|Ä _ e;have hDC:s2.heap.objs.size≠h3'.objs.size:=by rw[h3];exact è<|Ļ _
 have IB:=Uh (cl:=cl) (fp:=fp) (s3:={s2 with heap:=h3'}) (D:=s2.heap.objs.size) (h1:=ϡ) (tk:=s2.toks+([]:List<|Str×Ã).length) B I2 f2 c1 c2 I3 rfl h3 ac hfp bH;generalize hY:ZA X scope (ZZ X x ô) cl h3'.objs.size {s2 with heap:=h3'} H2 (s2.heap.objs.size::fp)=Y at IB;have yP:Y.prog=X.prog:=by rw[<-hY];rfl
 have yw:Y.w=X.w:=by rw[<-hY];rfl
 have yK:Y.K=X.K:=by rw[<-hY];rfl
 have yA:Y.A=X.A:=by rw[<-hY];rfl
 have yc:Y.calm=dh:=by rw[<-hY];exact hc
 have yenv:Y.env=compEnvC scope cl h3'.objs.size X.env:=by rw[<-hY];rfl
 have hIY:PIfs Y ay tc:=by rw[<-hY];exact hI _ _ _ _ _
 have hEY:PE Y aW te:=by rw[<-hY];exact hE _ _ _ _ _
 have yxe:Y.xe=λ_ _=>False:=by rw[<-hY];rfl
 have ypn:Y.pn=[]:=by rw[<-hY];rfl
 have hgN:PG Y aK tg:=by rw[<-hY];exact hG _ _ _ _ _
 have fD:∀{H':Hp},H' s2.heap.objs.size=dg->XT Y [] H' s2.heap.objs.size:=λ{H'} hn=>by
  refine⟨hn,?_,?_,?_,?_,λp hp=>?_⟩
  .rw[yenv];exact hDC
  .exact IB.ok.exfs _ (by rw[<-hY];exact Ý)
  .exact .inl (by rw[<-hY];exact Ý)
  .exact λy c e=>(IB.ok.exf _<|by rw[<-hY];exact Ý).2 y c e
  .rw[ypn]at hp;exact nomatch hp
 have fF:∀{H':Hp},(∀b∈fp,H' b=dg)->∀b∈fp,XT Y [] H' b:=λ{H'} hn b hb=>by
  have hm:b∈Y.ex:=by rw[<-hY];exact Ù _ hb
  refine⟨hn b hb,?_,IB.ok.exfs b hm,.inl hm,λy c e=>(IB.ok.exf b hm).2 y c e,λp hp=>?_⟩
  .exact(IB.ok.exf b hm).1
  .rw[ypn]at hp;exact nomatch hp
 have acc0:ϡ.PlainList s2.heap.objs.size ([]:List Ã).toArray:=⟨0,by exact ac _ _ cr⟩
 have loop:∀ϵ:Å,ϵ={s2 with heap:=ϡ,toks:=s2.toks+([]:List<|Str×Ã).length}->
   codeAny (Û X.prog X.w) X.A (.compLoop (.ListComp aW [⟨aK,iter,ay,0⟩] scope ç) 0 (.ref it) (.ref s2.heap.objs.size)<|compEnvC scope cl h3'.objs.size X.env) (RR (.ref s2.heap.objs.size) h3'.objs.size) ϵ:=by
  rintro ϵ rfl;refine K8 (λn s'=>∃i ys ð τ H',Inv Y [] τ H' s'/\tn i s'.heap/\(∀b∈fp,H' b=dg)/\H' s2.heap.objs.size=dg/\fc ys ð/\s'.heap.PlainList s2.heap.objs.size ð.toArray/\W i n ys τ H') ?_ m0
   ⟨0,[],[],_,H2,IB,T.keep _ _ _ st2 λb hb o e=>ac _ _<|bJ _ _ e,λb hb=>(f2 b hb).1,I2.fresh,.nil,acc0,w0⟩
  rintro n s3 ⟨i,ys,ð,τ,H3,I3',st3,fr3,frD,rv,pl,w3⟩;have cv:∀{α:Type}{f:Sem α}{Q Q':α->Å->Prop}{s:Å},wpAny (Û Y.prog Y.w) Y.A f Q Y.xe s->(∀a s',Q a s'->Q' a s')->wpAny (Û X.prog X.w) X.A f Q' (λ_ _=>False) s:=λ{α f Q Q' s} h hq=>by rw[yP,yw,yA,yxe]at h;exact ĺ h hq λ_ _ e=>e
  have cvX:∀{α:Type}{f:Sem α}{Q Q':α->Å->Prop}{s:Å},wpAny (Û X.prog X.w) Y.A f Q (λ_ _=>False) s->(∀a s',Q a s'->Q' a s')->wpAny (Û X.prog X.w) X.A f Q' (λ_ _=>False) s:=λ{α f Q Q' s} h hq=>by rw[yA]at h;exact ĺ h hq λ_ _ e=>e
  let⟨nD,hD3⟩:=id pl;have plD:∀b∈[s2.heap.objs.size],∃o,s3.heap.get? b=df o/\∀v,o.data≠.cell v:=λb hb=>by
   have e:b=s2.heap.objs.size:=⇑hb
   subst e;exact⟨_,hD3,λv z=>by cases z⟩
  have IP:=I3'.pinned (fp:=[s2.heap.objs.size]) (λb hb=>by
    have e:b=s2.heap.objs.size:=⇑hb
    subst e
    exact fD frD) plD
  have memD:=ZS (fp:=[s2.heap.objs.size]) (û.mpr rfl) hD3;have fF':∀b∈fp,XT Y ([]++Xc [s2.heap.objs.size] s3.heap) H3 b:=λb hb=>by
   let⟨q1,q2,q3,q4,q5,q6⟩:=fF fr3 b hb;refine⟨q1,q2,q3,q4,q5,λp hp=>?_⟩;rw[ypn]at hp;let⟨hp1,_⟩:=JI (show p∈Xc [s2.heap.objs.size] s3.heap by simpa using hp);have e:p.1=s2.heap.objs.size:=⇑hp1
   rw[e];exact(è<|hfp b hb).symm
  obtain⟨hys,h|⟨go,N,hN,step⟩⟩:=cw i n ys τ H3 w3
  .obtain⟨stop,fin⟩:=h;refine cvX (T.done Y yP yw yK yc i _ s3 _ H3 _ IP fF' st3 stop) λr s4 ⟨hr,I4⟩=>?_;subst hr;let⟨m4,hm4,_⟩:=I4.loc;rw[yenv]at hm4;have Ϸ:Un (frs X.stack) (s2.heap.objs.size::fp) H2 H3 h3' s4.heap:=by
    have:=I4.base;rw[<-hY]at this;exact this
   have hok4:HOk X.prog X.w H3 s4.heap:=by have:=I4.hok;rw[yP,yw]at this;exact this
   have pl4:=(I4.pin _<|Í _<|Í _ memD).1;have nC:H3 h3'.objs.size=dg:=by have:=I4.free;rw[yenv]at this;exact this
   have hlen:ys.length<=Ø:=ψ hys;have osEq:s4.os=s2.os:=by have:=I4.os;rw[<-hY]at this;exact this
   have neD:∀b o,s2.heap.get? b=df o->b≠s2.heap.objs.size:=λb o e=>è<|Ô e;have nin:∀b o,s2.heap.get? b=df o->b∉fp->b∉s2.heap.objs.size::fp:=λb o e hb z=>(Æ.mp z).elim (neD b o e) hb;have hokN:HOk X.prog X.w (upd H3 s2.heap.objs.size<|.lst ys) s4.heap:=hok4.track frD ⟨hlen,ð,nD,rv,pl4⟩;have U:Un (frs X.stack) fp H2 (upd H3 s2.heap.objs.size<|.lst ys) s2.heap s4.heap:=by
    refine⟨λb o e hn hf hx=>Ϸ.keep b o (bJ b o e) hn hf<|nin b o e hx,λb o e hn hf hx=>Ϸ.slot b o (bJ b o e) hn hf<|nin b o e hx,λb o e hn hx=>?_,λb o e hx=>Ϸ.there b o (bJ b o e)<|nin b o e hx,λb xs e=>?_,λb o xs e=>?_,λb ps e=>?_⟩
    .rw[dj<|neD b o e];exact Ϸ.free b o (bJ b o e) hn<|nin b o e hx
    .have q:=Ϸ.tups b xs e;rw[dj<|Zo q frD];exact q
    .have q:=Ϸ.frzs b o xs e;rw[dj<|Zo q frD];exact q
    .obtain⟨more,q⟩:=Ϸ.tbls b ps e;exact⟨more,by rw[dj<|Zo q frD];exact q⟩
   have I5:Inv X Â σ (upd H3 s2.heap.objs.size<|.lst ys) s4:=I2.call' (ch:=fp) osEq U hokN I4.bare λb hb=>by let⟨_,q2,_,q4,q5,q6⟩:=f2 b hb;exact⟨q4,q2,q5,q6⟩
   exact hRR _ _ _ _ _ m4 frD hm4 (I2.fpOk (ψ<|by rw[h3];exact Ļ _)<|by rw[dj hDC.symm];exact nC) I5 fin
  .refine cvX (T.item Y yP yw yK yc i _ s3 _ H3 _ IP fF' st3 go) λr s4 ⟨u,hr,h4⟩=>?_;subst hr;refine cvX h4 λ_ s5 ⟨y,H5,I5,r5,y5,st5,fr5⟩=>?_;have frD5:H5 s2.heap.objs.size=dg:=(I5.pin _<|Í _<|Í _ memD).2.1;have hD5:=(I5.pin _<|Í _<|Í _ memD).1;have I5p:=I5.unpinned.pinned (fp:=s2.heap.objs.size::fp) (λb hb=>by
     rcases Æ.mp hb with e|hb
     . subst e;exact fD frD5
     . exact fF fr5 b hb) (λb hb=>by
     rcases Æ.mp hb with e|hb
     . subst e;exact⟨_,hD5,λv z=>by cases z⟩
     . exact T.obj _ _ st5 b hb)
   have memD5:=ZS (fp:=s2.heap.objs.size::fp) Ý hD5;rw[<-yenv];refine cv (hgN _ s5 _ H5 y u _ I5p r5<|step y H5 y5) λ_ s6 ⟨σ6,H6,I6,q6⟩=>?_;have ϸ:∀{m':Nat}{aI:St}{H7:Hp}{s7:Å}{ys':List V}{its':List Ã},Inv Y [] aI H7 s7->tn (i+1) s7.heap->(∀b∈fp,H7 b=dg)->H7 s2.heap.objs.size=dg->fc ys' its'->s7.heap.PlainList s2.heap.objs.size its'.toArray->m'<n/\W (i+1) m' ys' aI H7->
     ∃m,m<n/\∃i ys ð τ H',Inv Y [] τ H' s7/\tn i s7.heap/\(∀b∈fp,H' b=dg)/\H' s2.heap.objs.size=dg/\fc ys ð/\s7.heap.PlainList s2.heap.objs.size ð.toArray/\W i m ys τ H' :=
    λ{m' aI H7 s7 ys' its'} J1 st7 fr7 fd7 rv7 pl7 wm=>⟨m',wm.1,i+1,ys',its',aI,H7,J1,st7,fr7,fd7,rv7,pl7,wm.2⟩
   have stay:∀{aI:St}{H7:Hp}{s7:Å},Inv Y ([]++Xc (s2.heap.objs.size::fp) s5.heap) aI H7 s7->tn (i+1) s7.heap/\(∀b∈fp,H7 b=dg)/\H7 s2.heap.objs.size=dg/\s7.heap.get? s2.heap.objs.size=df {cls:=.type "list",data:=.seq ð.toArray nD}:=by intro aI H7 s7 J1;refine⟨T.keep _ _ _ st5 λb hb o e=>(J1.pin (b,o)<|Í _<|Í _<|ZS (Ù _ hb) e).1,λb hb=>?_,(J1.pin _<|Í _<|Í _ memD5).2.1,(J1.pin _<|Í _<|Í _ memD5).1⟩;let⟨o,e,d⟩:=T.obj _ _ st5 b hb;exact(J1.pin (b,o)<|Í _<|Í _<|ZS (Ù _ hb) e).2.1
   refine cv (hIY _ s6 _ H6 _ I6 q6) λok s7 ⟨H7,I7,q7⟩=>?_;cases ok with
   |false =>rw[fo<|by decide]at q7;rw[fo<|by decide];let⟨m',wm⟩:=hN _ _ _ q7;let⟨a1,a2,a3,a4⟩:=stay I7;exact ϸ I7.unpinned a1 a2 a3 rv ⟨nD,a4⟩ wm
   |true =>
    rw[fm rfl]at q7;rw[fm rfl];refine cv (hEY _ s7 _ H7 _ I7 q7) λz s8 ⟨vz,H8,I8,rz,wm⟩=>?_;let⟨m',wm⟩:=hN _ _ _ wm;let⟨a1,a2,a3,a4⟩:=stay I8;have hlen:=rv.length;refine wpAny_list_append_plain (hsz:=by rw[É];lia) (⟨nD,a4⟩:s8.heap.PlainList _ ð.toArray) λh9 hl9 hs9=>?_;let⟨q1,q2,q3,q4,q5,q6⟩:=fD a3;have I9:Inv Y [] _ H8 {s8 with heap:=h9}:=I8.unpinned.turned (t':=s8.toks) (λb o hb e=>hs9.extBut b o hb e) q1 q2 q4 q5 q6;refine ϸ I9 (T.keep _ _ _ a1 λb hb o e=>hs9.extBut b o (è<|hfp b hb) e) a2 a3 (its':=ð++[z]) (rv.append<|.cons rz .nil) ?_ wm;have e:ð.toArray.push z=(ð++[z]).toArray:=by simp
    rw[e]at hl9;exact hl9
 exact codeAny_compStart_list (loop _ rfl)<|T.self _ 0 _ _ _ (T.keep _ _ _ st2 λb hb o e=>ac _ _<|bJ _ _ e)<|loop _ rfl
variable {wi:TI}
def BZ{tc:TT}(hc:X.calm=dh)(B:BlkOk X scope x ô)(hi:PI X aK iter wi)(hG:∀cl C s H ex,PG (ZA X scope (ZZ X x ô) cl C s H ex) aK tg)
  (hI:∀cl C s H ex,PIfs (ZA X scope (ZZ X x ô) cl C s H ex) ay tc) (hE:∀cl C s H ex,PE (ZA X scope (ZZ X x ô) cl C s H ex) aW te)
  (hs:∀x,Đ iter X.env x=pure x:=by intro _;rfl):PE X (.ListComp aW [⟨aK,iter,ay,0⟩] scope ç)<|Ab wi x.length ô tg tc te:=by
 k_upd;let⟨cl,bK,c1,c2⟩:=Y5 (scope:=scope) (env:=X.env) λy hy e=>I.ok.has y.1<|.inl<|B.frees y hy e;rw[eval_ListComp];refine bZ (use:=dg) rfl hs bK B.kind B.locs<|thn (hi Â s σ H _ I h) λv s1 h1=>thn h1 λitv s2 h2=>?_;let⟨it,fp,tn,J,H2,e,I2,T,st2,f2,W,⟨m0,w0⟩,cw⟩:=h2;subst e;refine JA (RR:=λļ C=>compPost (Û X.prog X.w) X.A X.xe dg (EP X Â σ Q) ļ C) hc B I2 T st2 f2 c1 c2 hI hE hG w0 cw ?_;intro D C s' H' ys m hD hn fC I' fin;let⟨q1,q2,q3,q4,q5,q6⟩:=fC;exact⟨m,hn,λh' hs'=>⟨.ref D,_,I'.turned (t':=s'.toks) (λb o hb e=>hs'.extBut b o hb e) q1 q2 q4 q5 q6,rfl,fin D hD⟩⟩
def AG{y:Str}{py:Pos}{i:Nat}{Λ:Pos}{tc:TT}(hN:X.N.Nodup)(hi':X.N[i]?=df y)(hy:Loc X.env.scope y)(hc:X.calm=dh)(B:BlkOk X scope x ô)(hi:PI X aK iter wi)(hG:∀cl C s H ex,PG (ZA X scope (ZZ X x ô) cl C s H ex) aK tg)
  (hI:∀cl C s H ex,PIfs (ZA X scope (ZZ X x ô) cl C s H ex) ay tc) (hE:∀cl C s H ex,PE (ZA X scope (ZZ X x ô) cl C s H ex) aW te)
  (hs:∀x,Đ iter X.env x=pure x:=by intro _;rfl)
  (hsw:ś (.ListComp aW [⟨aK,iter,ay,0⟩] scope ç) (df<|.Name y py) Λ.line X.env=pure dh:=by rfl)
  (hf:X.fn y=dh\/X.env.scope.names.lookup y=df .local:=by first|exact .inl rfl|exact .inr rfl|assumption) :
  PS X (.Assign [.Name y py] (.ListComp aW [⟨aK,iter,ay,0⟩] scope ç) Λ) (Ik (Ab wi x.length ô tg tc te)<|Fb i):=by
 intro Â s σ H D I h;let⟨cl,bK,c1,c2⟩:=Y5 (scope:=scope) (env:=X.env) λy hy e=>I.ok.has y.1<|.inl<|B.frees y hy e;rw[exec_Assign_Name_used _ _ _ _ hsw];refine À<|ϣ<|À ?_;show wpAny _ X.A (do let _<-comprehension (.ListComp aW [⟨aK,iter,ay,0⟩] scope ç) scope X.env _ (newList []) di (eval iter X.env) (df<|ť (.Name y py) X.env)) _ _ s;refine À (ĺ (bZ (use:=df<|ť (.Name y py) X.env) (Q:=λ_ s'=>SP X Â D .next s') rfl hs bK B.kind B.locs
   (thn (hi Â s σ H _ I h) λv s1 h1=>thn h1 λitv s2 h2=>?_)) (λ_ s' hq=>Ë<|Ë hq) λ_ _ e=>e)
 let⟨it,fp,tn,J,H2,e,I2,T,st2,f2,W,⟨m0,w0⟩,cw⟩:=h2;subst e;refine JA (RR:=λļ C=>compPost (Û X.prog X.w) X.A X.xe (df<|ť (.Name y py) X.env) (λ_ s'=>SP X Â D .next s') ļ C) hc B I2 T st2 f2 c1 c2 hI hE hG w0 cw ?_;intro Dd C s' H' ys m hD hn fC I' fin;let⟨q1,q2,q3,q4,q5,q6⟩:=fC;show wpAny _ _ (ť (.Name y py) X.env<|.ref Dd) _ _ _;refine wpAny_assign_Name<|JR I' hN hi' hy (v:=.ref Dd) rfl (λs2 I2 ⟨a,hs2,ha⟩=>?_) hf;have ne:C≠a:=by
  rcases ha with z|z
  .rw[z];exact q2
  .exact(q5 y a z).symm
 refine⟨m,hn.sameBut hs2 ne,λh' hs'=>?_⟩;exact⟨_,_,I2.turned (t':=s2.toks) (λb o hb e=>hs'.extBut b o hb e) q1 q2 q4 q5 q6,fin Dd hD⟩
end
mutual
inductive IsD (K:Frag) (H:Hp):V->ύ->Prop
 |non:IsD K H .non .none
 |bl (b:Bool):IsD K H (.bl b)<|.bool b
 |int (i:Int):IsD K H (.int i)<|.int i
 |str (x:Str):IsD K H (.str x)<|.str x
 |lst {a:Ç}{xs:List V}{ds:List ύ}:eY K H a xs->IsDs K H xs ds->IsD K H (.ref a) (.list ds)
 |tup {a:Ç}{xs:List V}{ds:List ύ}:eZ K H a xs->IsDs K H xs ds->IsD K H (.ref a) (.tuple ds)
inductive IsDs (K:Frag) (H:Hp):List V->List ύ->Prop
 |nil:IsDs K H [] []
 |cons {x:V}{xs:List V}{d:ύ}{ds:List ύ}:IsD K H x d->IsDs K H xs ds->IsDs K H (x::xs) (d::ds)
end
section
variable {X:Cx}{Â:List (Ç×Obj)}{σ:St}{H:Hp}{s:Å}
mutual
theorem IsD.reads(I:Inv X Â σ H s):∀{v:V}{d:ύ}{u:Ã},IsD X.K H v d->RelV v u->∃as,Reads s.heap u d as
 |_,_,_,.non,r=>by cases r;exact⟨_,.none⟩
 |_,_,_,.bl b,r=>by cases r;exact⟨_,.bool b⟩
 |_,_,_,.int i,r=>by let⟨t,rfl⟩:=r;exact⟨_,.int i t⟩
 |_,_,_,.str x,r=>by let⟨t,rfl⟩:=r;exact⟨_,.str x t⟩
 |_,_,_,.lst q qs,r=>by cases r;let⟨ð,rv,⟨o,n,e,c,_,d⟩,_⟩:=I.list q;let⟨as,ra⟩:=IsDs.reads I qs rv;exact⟨_,.list e c d<|by simpa using ra⟩
 |_,_,_,.tup q qs,r=>by cases r;let⟨ð,rv,⟨o,e,c,n,d⟩,_⟩:=I.tuple q;let⟨as,ra⟩:=IsDs.reads I qs rv;exact⟨_,.tuple e c d<|by simpa using ra⟩
theorem IsDs.reads(I:Inv X Â σ H s):∀{vs:List V}{ds:List ύ}{us:List Ã},IsDs X.K H vs ds->fc vs us->∃as,ReadsAll s.heap us ds as
 |_,_,_,.nil,.nil=>⟨_,.nil⟩
 |_,_,_,.cons q qs,.cons r rs=>by let⟨as,ra⟩:=IsD.reads I q r;let⟨bs,rb⟩:=IsDs.reads I qs rs;exact⟨_,.cons ra rb⟩
end
end
def IsDs.ints{K:Frag}{H:Hp}:∀ns:List Int,IsDs K H (ns.map V.int) (ns.map PyData.int)
 |[]=>.nil
 |n::ns=>.cons (.int n)<|IsDs.ints ns
section
variable {X:Cx}
abbrev Lc(K:Frag):R2:=λx y H Q=>∃d e,IsD K H x d/\IsD K H y e/\SeqAt.shaped d=dh/\SeqAt.shaped e=dh/\Q (.bl<|ě d e) H
abbrev HR(K:Frag):R2:=λx y H Q=>∃d e,IsD K H x d/\IsD K H y e/\SeqAt.shaped d=dh/\SeqAt.shaped e=dh/\Q (.bl (!ě d e)) H
def FG(hu:X.A.units+64<ğ):OpR X (ê .Eq)<|Lc X.K:=by k_ne;let⟨d,e,hd,he,sd,se,q⟩:=h;let⟨as,ra⟩:=hd.reads I rx;let⟨bs,rb⟩:=he.reads I ry;exact SeqAt.compareEq_shaped ra rb sd se hu ⟨.bl _,H,I,rfl,q⟩
def GN(hu:X.A.units+64<ğ):OpR X (ê .NotEq)<|HR X.K:=by k_ne;let⟨d,e,hd,he,sd,se,q⟩:=h;let⟨as,ra⟩:=hd.reads I rx;let⟨bs,rb⟩:=he.reads I ry;exact SeqAt.compareNe_shaped ra rb sd se hu ⟨.bl _,H,I,rfl,q⟩
inductive TyV (K:Frag) (H:Hp):V->Ã->Prop
 |of {x:V}{t:Ã}:eS K H x t->TyV K H x t
 |tup {a:Ç}{xs:List V}:eZ K H a xs->TyV K H (.ref a) (.type "tuple")
 |lst {a:Ç}{xs:List V}:eY K H a xs->TyV K H (.ref a) (.type "list")
def Cm:dB X (.builtin "isinstance") λxs H Q=>∃x T t b,xs=[x,.ty T]/\TyV X.K H x t/\PySem.W.kitOne X.K t (.type T)=df b/\Q (.bl b) H:=by
 k_put;let⟨x,T,t,b,rfl,ty,e,q⟩:=h;let⟨u,v,rfl,ru,rv⟩:=Ez r;cases rv;cases ty with
 |of ty=>exact OT I ru ty e λtk=>⟨.bl b,H,I.tok tk,rfl,q⟩
 |tup hq =>cases ru;let⟨ð,_,⟨o,h1,h2,_⟩,_⟩:=I.tuple hq;exact PySem.W.kia_one PySem.W.kitx_tuple I.kIn ⟨o,h1,h2⟩ e (λz=>nomatch z) λtk=>⟨.bl b,H,I.tok tk,rfl,q⟩
 |lst hq =>cases ru;let⟨ð,_,⟨o,n,h1,h2,_⟩,_⟩:=I.list hq;exact PySem.W.kia_one PySem.W.kitx_list I.kIn ⟨o,h1,h2⟩ e (λz=>nomatch z) λtk=>⟨.bl b,H,I.tok tk,rfl,q⟩
abbrev sortI(ns:List Int):List Int:=ns.mergeSort λa b=>fB (a<=b)
def Wt(ns:List Int):(sortI ns).Perm ns:=Ō ns _
def Cf(ns:List Int):(sortI ns).Pairwise (·<=·):=by have h:=ι (le:=λa b:Int=>fB (a<=b)) (λa b c h1 h2=>by simp at *;lia) (λa b=>by simp;lia) ns;exact h.imp λh=>⇑h
def Wy{ns ms:List Int}(hp:ms.Perm ns)(hs:ms.Pairwise (·<=·)):ms=sortI ns:=PySem.W.ksm_same (hp.trans (Wt ns).symm) hs (Cf ns)
def Xy(ns:List Int):(sortI ns).length=ns.length:=(Wt ns).length_eq
def Xv:∀{vs:List Ã}{ns:List Int},ĝ vs ns->fc (ns.map V.int) vs:=XH
def call_sorted:dB X (.builtin "sorted") λxs H Q=>∃p,∃ns:List Int,xs=[.ref p]/\eY X.K H p (ns.map V.int)/\ns.length<64/\∀l,H l=dg->Q (.ref l) (upd H l<|.lst<|(sortI ns).map V.int):=by k_put;let⟨p,ns,rfl,hq,h64,q⟩:=h;let⟨u,rfl,rx⟩:=Z9 r;cases rx;let⟨ð,rv,pl,hz⟩:=I.list hq;have hlen:=rv.length;rw[Á]at hlen;refine sorted_ints pl.isList (ZT rv) (by lia) λout cL a1 a2 a3=>?_;have e:=Wy a2 a3;subst e;let⟨n,he⟩:=sortedAll_at s.heap ð out;refine⟨.ref<|s.heap.objs.size+1,_,I.laid (a:=s.heap.objs.size+1) (o:=.lst<|(sortI ns).map V.int) (t':=s.toks) (λb o e=>sortedAll_old e) (ő _) ?_,rfl,q _<|I.hok.fresh<|ő _⟩;exact⟨by rw[Á,Xy];rw[Á]at hz;exact hz,out.toList,n,Xv a1,by simpa[Ď]using he⟩
def UV{Â:List (Ç×Obj)}{σ:St}{H:Hp}{s:Å}{p:Ç}{i j:Int}(I:Inv X Â σ H s)(hq:eZ X.K H p [.int i,.int j]) :
  ∃ð:List Ã,ð.length=2/\Ϣ s.heap p ð.toArray/\p<s.heap.objs.size/\∀k v,ð[k]?=df v->∃t,v=Value.int ([i,j].getD k 0) t:=by
 let⟨ð,rv,pl,hz⟩:=I.tuple hq;refine⟨ð,rv.length.symm,pl,?_,λk v hv=>?_⟩
 .obtain⟨o,e,_⟩:=pl;exact Ô e
 .have hk:k<2:=by
   have:=(Ò.mp hv).1;rw[<-rv.length]at this;exact this
  have hb:([V.int i,V.int j]:List V)[k]?=df (.int<|[i,j].getD k 0):=by
   match k,hk with
   |0,_=>rfl
   |1,_=>rfl
  let⟨u,hu,ru⟩:=rv.get hb;rw[hv]at hu;cases hu;exact ru
def Us(hc:X.calm=dh):dB X (.builtin "max") λxs H Q=>∃p i j,xs=[.ref p]/\eZ X.K H p [.int i,.int j]/\Q (.int<|if j > i then j else i) H:=by
 k_put;let⟨p,i,j,rfl,hq,q⟩:=h;let⟨u,rfl,rx⟩:=Z9 r;cases rx;let⟨ð,hl,pl,ϩ,hv⟩:=UV I hq;refine call_max_walk (ſ (show s.heap.IsTuple p ð.toArray from pl) ?_);refine⟨s.heap.objs.size,_,_,ð.toArray.size,_,_,λa b=>fB ([i,j].getD a 0 > [i,j].getD b 0),rfl,Walks.tuple (A:=X.A.in1) (I.ok.hd hc) s.heap.objs.size p (è ϩ) ð.toArray,⟨⟨_,Ö _ rfl,rfl,rfl⟩,?_⟩,?_,?_,?_,λv h' tk hP hk=>?_⟩
 .obtain⟨o,e,r⟩:=pl;exact⟨o,Ä _ e,r⟩
 .intro b hb;show b<(s.heap.push _).objs.size;rw[ħ];rcases Æ.mp hb with e|hb
  .rw[e];exact Ļ _
  .have:b=p:=⇑hb
   rw[this];exact Ř ϩ
 .rw[É,hl];decide
 .exact CmpOf.ints_gt (λk=>[i,j].getD k 0) λk v hP=>hv k v ⇑hP
 .rw[É,hl]at hP;have hP:ð[Ę (λa b=>fB ([i,j].getD a 0 > [i,j].getD b 0)) 1]?=df v:=⇑hP
  let⟨t,rfl⟩:=hv _ _ hP;have e:([i,j].getD (Ę (λa b=>fB ([i,j].getD a 0 > [i,j].getD b 0)) 1) 0)=if j > i then j else i:=by
   unfold Ę;show([i,j].getD (if fB (j > i)=dh then 1 else 0) 0)=_;by_cases hji:j > i
   .have h2:i<j:=hji;simp[h2]
   .have h2:¬ i<j:=hji;simp[h2]
  rw[e];refine⟨.int _,H,I.kept (t':=tk) λb o e=>hk b o (λhm=>?_)<|Ä _ e,⟨_,rfl⟩,q⟩;have:b=s.heap.objs.size:=⇑hm
  exact fA (this▸Ô e)<|ģ _
end
end L2
namespace HT2
open PySem PySem.Spec PyProof.Rows L2
abbrev Ms(g:Bool)(ns ms:List Int):Bool:=match g with
 |true=>HT.lexLt ms ns
 |false=>HT.lexLt ns ms
abbrev cb(g:Bool)(a c:Int):Bool:=match g with
 |true=>fB (a > c)
 |false=>fB (a<c)
def Ua(g:Bool)(x y:Int)(xs ys:List Int):Ms g (x::xs) (y::ys)=if x=y then Ms g xs ys else cb g x y:=by
 cases g
 .rfl
 .show(if y=x then _ else _)=_;by_cases e:x=y
  .rw[fm e,fm e.symm];rfl
  .rw[fo e,fo<|Ne.symm e];rfl
def BQ(A:ċ)(s:Å)(a:Int)(t:Tok)(c:Int)(u:Tok)(prog:ä)(w:ü)(E:Ã->Å->Prop)(Q:Ã->Å->Prop)(h:Q (.bool<|fB (a > c)) s) :
  wpAny (Û prog w) A (richCompare .Gt (.int a t)<|.int c u) Q E s :=
 (PyProof.Rows.gt_int h:wpAny (Û prog w) A (ê .Gt (.int a t)<|.int c u) Q E s)
noncomputable abbrev opC(g:Bool):aM:=match g with
 |true=>.Gt
 |false=>.Lt
section
open PySem.SeqAt
open PySem.AutoSeq1 (wpAny_loadPart')
open PySem.MeetsSeq PySem.MeetsSeq2 PySem.MeetsSeq3
def UL(q:Bool)(l b:Ç)(items Ś:Array Ã)(n n2:Nat)(dd dd2:Option Ç)(sl sl2:Array<|Option Ã)(ns ms:List Int)(hi:ĝ items.toList ns)(hj:ĝ Ś.toList ms) :
  Meets ((match q with|true=>Builtin.«tuple.__gt__»|false=>Builtin.«tuple.__lt__») ⟨[.ref l,.ref b],[]⟩)
   (λ_ R s=>s.heap.get? l=df { cls:=.type "tuple",dict:=dd,data:=.seq items n,slots:=sl }/\s.heap.get? b=df { cls:=.type "tuple",dict:=dd2,data:=.seq Ś n2,slots:=sl2 }/\
     R (.ok<|.ret<|.bool<|Ms q ns ms) s) :=
 .of_wp λprog w A R s h=>by
  let⟨hp,g,d,tk,os⟩:=s;let⟨hl,hb,h⟩:=h;have f2:=AutoSeq1.sub_tuple_tuple;have z1:items.size=ns.length:=by rw[<-hi.length];simp
  have z2:Ś.size=ms.length:=by rw[<-hj.length];simp
  have hv:∀{vs ws:List Ã}{cL ms':List Int},ĝ vs cL->ĝ ws ms'->[]=vs.zip ws->cL.length+Ś.size=ms'.length+items.size->Ms q cL ms'=cb q items.size Ś.size:=λ{vs ws cL ms'} hvi hwi hz hlen=>by
   cases hvi with
   |nil =>
    cases hwi with
    |nil =>simp![ľ]at hlen;cases q<;>exact(ft<|by lia).symm
    |cons c u hw =>
     simp![ľ,Î]at hlen;cases q
     .exact(fw<|by lia).symm
     .exact(ft<|by lia).symm
   |cons a t hv =>
    cases hwi with
    |nil =>
     simp![ľ,Î]at hlen;cases q
     .exact(ft<|by lia).symm
     .exact(fw<|by lia).symm
    |cons c u hw=>cases hz
  have hcons:=Ua q;generalize Ms q=L at hv hcons h;generalize eB:cb q=B at hv hcons;cases q<;>(
    wp_walk using ŕ hl,ŕ hb,wpAny_forIn_list _ (λrest b s'=>b.1=dg/\s'=⟨hp,g,d,tk,os⟩/\∃(vs ws:List Ã) (cL ms':List Int),rest=vs.zip ws/\
      ĝ vs cL/\ĝ ws ms'/\cL.length+Ś.size=ms'.length+items.size/\R (.ok<|.ret<|.bool<|L cL ms') ⟨hp,g,d,tk,os⟩) _
    case turn =>
      rintro⟨y,x⟩ rest b s' ⟨hb',rfl,vs,ws,cL,ms',hz,hvi,hwi,hlen,hR⟩
      cases hvi with
      |nil=>rw[ϕ]at hz;cases hz
      |cons a t hvi' =>
        cases hwi with
        |nil=>rw[Χ]at hz;cases hz
        |cons c u hwi' =>
          rw[Ψ]at hz
          injection hz with hyx hrest
          injection hyx with hy hx
          subst hy hx
          rw[hcons]at hR
          simp![Î]at hlen
          let⟨e,he,hiff⟩:=HT.eqAt_int A.in1 ⟨hp,g,d,tk,os⟩ a t c u
          refine À<|he prog w _ _ ?_
          cases e with
          |true =>
            rw[fm<|hiff.mp rfl]at hR
            wp_walk
            exact⟨rfl,rfl,_,_,_,_,hrest,hvi',hwi',by lia,hR⟩
          |false =>
            rw[fo λq=>fA (hiff.mpr q) é,<-eB]at hR
            have h1:=BQ A.in1 ⟨hp,g,d,tk,os⟩ a t c u prog w
            have h2:=HT.rcLt_int A.in1 ⟨hp,g,d,tk,os⟩ a t c u prog w
            wp_walk using h1,h2
            exact⟨_,rfl,by simpa[cb]using hR⟩
    case fin =>
      rintro⟨b1,b2⟩ s' ⟨hb',rfl,vs,ws,cL,ms',hz,hvi,hwi,hlen,hR⟩
      simp only at hb'
      subst hb'
      rw[hv hvi hwi hz hlen,<-eB]at hR
      wp_walk
      exact⟨_,rfl,by simpa[Builtin.Tuple.tupleCompareSizes,cb]using hR⟩
    case h =>
      exact⟨rfl,rfl,items.toList,Ś.toList,ns,ms,rfl,hi,hj,by lia,h⟩)
end
variable {prog:ä} {w:ü} {A:ċ} {s:Å} {l:Ç} {b:Ç} {items:Array Ã} {Ś:Array Ã} {ns:List Int} {ms:List Int} {Q:Ã->Å->Prop}
def MM(q:Bool){E:Ã->Å->Prop}(hl:Ϣ s.heap l items)(hb:Ϣ s.heap b Ś)(hi:ĝ items.toList ns)(hj:ĝ Ś.toList ms)
  (hu:A.units<ğ) (h:Q (.bool<|Ms q ns ms) s):wpAny (Û prog w) A (ê (opC q) (.ref l)<|.ref b) Q E s:=by
 let⟨⟨cls,dd,data,sl⟩,ho,hc,n,hd⟩:=id hl;let⟨⟨cls2,dd2,data2,sl2⟩,ho2,bT,n2,aU⟩:=id hb;simp only at hc hd bT aU;subst hc hd bT aU;have m:=UL q l b items Ś n n2 dd dd2 sl sl2 ns ms hi hj;cases q
 .exact cU (op:=.Lt) ⟨_,ho,rfl⟩ ⟨_,ho2,rfl⟩ PySem.F.slot_tuple_lt PySem.F.entry_tuple_lt (PySem.F.args_tuple_lt_2 _ _) m ⟨ho,ho2,(λx=>nomatch x),h⟩ hu
 .exact cU (op:=.Gt) ⟨_,ho,rfl⟩ ⟨_,ho2,rfl⟩ PySem.F.slot_tuple_gt PySem.F.entry_tuple_gt (PySem.F.args_tuple_gt_2 _ _) m ⟨ho,ho2,(λx=>nomatch x),h⟩ hu
def lt_tups{E:Ã->Å->Prop}(hl:Ϣ s.heap l items)(hb:Ϣ s.heap b Ś)(hi:ĝ items.toList ns)(hj:ĝ Ś.toList ms)
  (hu:A.units<ğ) (h:Q (.bool<|HT.lexLt ns ms) s):wpAny (Û prog w) A (ê .Lt (.ref l)<|.ref b) Q E s:=MM di hl hb hi hj hu h
abbrev rCT(q:Bool)(K:Frag):R2:=λx y H Q=>∃a b ns ms,x=.ref a/\y=.ref b/\eZ K H a (ns.map V.int)/\eZ K H b (ms.map V.int)/\Q (.bl<|Ms q ns ms) H
def op_cT(q:Bool){X:Cx}(hu:X.A.units<ğ):OpR X (ê<|opC q)<|rCT q X.K:=by k_ne;let⟨a,b,ns,ms,rfl,rfl,ha,hb,k⟩:=h;cases rx;cases ry;let⟨ð,r1,p1,_⟩:=I.tuple ha;let⟨Κ,r2,p2,_⟩:=I.tuple hb;exact MM q p1 p2 (ZT r1) (ZT r2) hu ⟨.bl<|Ms q ns ms,H,I,rfl,k⟩
end HT2
namespace L2
open PySem PySem.Spec PyProof.Rows
section
variable {X:Cx}{x:Str}{p ç:Pos}{e:Expr}{es:List Expr}{t:TA}
def LF{T:String}(hg:Gl X x)(hm:X.mg x=dg)(hv:ń x=df (.type T))(hn:x≠"__name__":=by decide)(hd:(x==("__debug__" : Str))=di:=by decide):PE X (.Name x ç)<|tC<|.ty T:=DH hg hm hv rfl hn hd
end
abbrev Yy(scope sc:Ť)(N:List Str)(x:List Str)(ô:List Nat):Bool :=
 scope.names.all (λy=>y.2 != .cell)&&scope.names.all (λy=>y.2 != .local||scope.names.lookup y.1==df .local)&&x.all (λy=>scope.names.lookup y==df .local) &&
 scope.names.all (λy=>y.2 != .free||sc.names.lookup y.1==df .cell) &&
 ô.all (λj=>fB (j<N.length)&&sc.names.lookup (N.getD j Str.empty)==df .cell&&scope.names.lookup (N.getD j Str.empty)==df .free)&&fB (x++ô.map λj=>N.getD j Str.empty).Nodup
def NG{X:Cx}{scope sc:Ť}{x:List Str}{ô:List Nat}{N:List Str}(hsc:X.env.scope=sc)(hN:X.N=N)(hk:scope.kind=.function)(h:Yy scope sc N x ô=dh):BlkOk X scope x ô:=by
 unfold Yy at h;simp![bAq]at h;let⟨⟨⟨⟨⟨h1,h2⟩,h3⟩,h4⟩,h5⟩,h6⟩:=h;rw[Ă]at h1 h2 h4 h5;refine⟨hk,λy hy=>by simpa using h1 y hy,λy hy e=>?_,λy hy=>by simpa using Ă.mp h3 y hy,λy hy e=>?_,λj hj=>?_,?_⟩
 .have:=h2 y hy;rw[e]at this;simpa using this
 .have:=h4 y hy;rw[e]at this;show X.env.scope.names.lookup y.1=_;rw[hsc];simpa using this
 .have:=h5 j hj;simp![bAq,fz,beq_iff_eq]at this;let⟨⟨a,b⟩,c⟩:=this;refine⟨?_,?_,?_⟩
  .rw[hN,Ï a];rfl
  .show X.env.scope.names.lookup _=_;rw[hsc,hN];exact b
  .rw[hN];exact c
 .unfold ZZ;rw[hN];exact of_decide_eq_true h6
abbrev dN(r:Ç)(H H':Hp):Prop:=∀b o,H b=df o->b≠r->H' b=df o
def dN.refl(r:Ç)(H:Hp):dN r H H:=λ_ _ h _=>h
def dN.trans{r:Ç}{H H1 H2:Hp}(a:dN r H H1)(b:dN r H1 H2):dN r H H2:=λc o h n=>b c o (a c o h n) n
noncomputable abbrev Tie:=Int×Int×Int
variable {c:Bool} {A:Prop} {B:Prop}
def eN(e:c=dh)(h:A):if c=dh then A else B:=by rw[fm e];exact h
def eP(e:c=di)(h:B):if c=dh then A else B:=by rw[e,fo é];exact h
abbrev mn(x y:Int):Int:=if y<x then y else x
section
variable {X:Cx}(K:Frag) (h:X.K=K)
include h
end
section
variable {prog:ä}{w:ü}{A:ċ}{E:Ã->Å->Prop}{s:Å}
variable {it:Ç} {i:Nat} {items:Array Ã} {Q:Ã->Å->Prop}
def Xf{t:Ç}{x:Ã}(cu:s.heap.IsTupleIter it t i)(ht:s.heap.IsTuple t items)(hx:items[i]?=df x)
  (hQ:∀h',h'.IsTupleIter it t (i+1)->Ũ it s.heap h'->Q x {s with heap:=h'}):wpAny (Û prog w) A (Builtin.SmallTypes.nextOf<|.ref it) Q E s:=by
 let⟨o,ho,hc,hd⟩:=id cu;let⟨ot,hot,_,nt,hdt⟩:=ht;unfold Builtin.SmallTypes.nextOf;refine À<|Ġ (name:=fE "__next__") cu.typeIs F.slot_tuple_iterator_next<|Ī F.slot_tuple_iterator_next cu.typeIs F.entry_tuple_iterator_next ?_<|F.args_tuple_iterator_next_1 _;show wpAny _ _ (cG (.ref it) 0 >>= _) _ _ s;refine À<|Č ho hd (x:=.ref t) rfl ?_;show wpAny _ _ (if(Value.ref t==Value.none)=dh then _ else _) _ _ s;rw[fo<|show ¬ ((Value.ref t==Value.none)=dh) from é];show wpAny _ _ (cG (.ref it) 1 >>= _) _ _ s;refine À<|Č ho hd (x:=.int i 0) rfl ?_;show wpAny _ _ (ϖ (.ref t) >>= _) _ _ s;refine À<|ē hot hdt ?_;simp![Ϝ,hx];refine À (bw ho hd (by simp)<|Ë ⟨x,rfl,Ë<|hQ _ ⟨_,ŝ _ ho<|Obj.isFreed_of_fields<|cV hd _,(Obj.cls_mapFields ..).trans hc,?_⟩<|ai ..⟩);rw[cV hd];simp[aB]
def JP{t:Ç}(hh:A.handled=dg)(cu:s.heap.IsTupleIter it t i)(ht:s.heap.IsTuple t items)(hx:items[i]?=dg)
  (hE:∀h' e,Heap.ExtBut it s.heap h'->(∃o,h'.get? e=df o/\o.cls=.type "StopIteration")->E (.ref e) {s with heap:=h'}):wpAny (Û prog w) A (Builtin.SmallTypes.nextOf<|.ref it) Q E s:=by
 let⟨o,ho,hc,hd⟩:=id cu;let⟨ot,hot,_,nt,hdt⟩:=ht;unfold Builtin.SmallTypes.nextOf;refine À<|Ġ (name:=fE "__next__") cu.typeIs F.slot_tuple_iterator_next<|Ī F.slot_tuple_iterator_next cu.typeIs F.entry_tuple_iterator_next ?_<|F.args_tuple_iterator_next_1 _;show wpAny _ _ (cG (.ref it) 0 >>= _) _ _ s;refine À<|Č ho hd (x:=.ref t) rfl ?_;show wpAny _ _ (if(Value.ref t==Value.none)=dh then _ else _) _ _ s;rw[fo<|show ¬ ((Value.ref t==Value.none)=dh) from é];show wpAny _ _ (cG (.ref it) 1 >>= _) _ _ s;refine À<|Č ho hd (x:=.int i 0) rfl ?_;show wpAny _ _ (ϖ (.ref t) >>= _) _ _ s;refine À<|ē hot hdt ?_;simp![Ϝ,hx];refine À (ϭ<|À<|bw ho hd (by simp) ?_);show wpAny _ _ (newExc (.type "StopIteration") [] >>= _) _ _ _;refine À ?_;simp![newExc,newTuple];refine À (ķ (À (m:=firstArgMember _ _)<|wpAny_of_eq (a:=Value.none) (by first|rfl|(simp![firstArgMember];rfl))<|ķ ?_<|by size_fits)<|by size_fits);simp![raiseNew];refine À<|wpAny_handled ?_
 first
 |rw[show A.in1.handled=dg from hh]
 |rw[hh]
 exact À<|Ë<|wpAny_throw<|hE _ _ (((ai ..).extBut.push _).push _) ⟨_,Ö _ rfl,rfl⟩
end
open AutoSeq1 (wpAny_loadPart') in
section
variable {X:Cx}{Â:List (Ç×Obj)}{σ:St}{H:Hp}{s:Å}{h':ù}
def Inv.turnedL{t':Nat}{ch:List Ç}(I:Inv X Â σ H s)(k:∀b o,b∉ch->s.heap.get? b=df o->h'.get? b=df o)(hc:∀b∈ch,XT X Â H b):Inv X Â σ H {s with heap:=h',toks:=t'}:=by
 have nit:∀b u,H b=df u->b∉ch:=λb u e z=>by rw[(hc b z).1]at e;cases e
 refine I.step (g':=s.gens) (d':=s.drawn) (ch:=ch) (λb hb=>?_) (λb o _ _ hcb e _=>k b o hcb e) (λb o _ _ hcb e _=>⟨o.slots,k b o hcb e⟩) (λ_ _ _ _ n=>n)
  (λb o hcb e=>⟨o,k b o hcb e⟩) (λ_ _ e=>e) (λ_ _ _ e=>e) (λb ps e=>⟨#[],by rw[e];simp⟩) (λm hm=>?_) (λb u e=>?_) I.bare
 .obtain⟨_,q2,_,q4,q5,q6⟩:=hc b hb;exact⟨q4,q2,q5,q6⟩
 .obtain⟨o,es,ep,ho,r⟩:=hm;exact⟨o,es,ep,k _ o (λz=>(hc _ z).2.1 rfl) ho,r⟩
 .refine(I.hok b u e).stay (λc v Ž q=>k c v ?_ q) (λ_ q=>q) λ_ _ q=>q;rcases Ž with z|z
  .rw[z];exact nit b u e
  .exact nit c _ z
def Inv.track{T:Ç}{o:HO}(I:Inv X Â σ H s)(hT:H T=dg)(h0:X.s₀.heap.objs.size<=T)(hL:T≠X.env.locals)(bK:∀x c,X.env.cells.lookup x=df c->c≠T)(hp:∀p∈X.pn++Â,p.1≠T)
  (new:dC X.prog X.w (upd H T o) s.heap T o):Inv X Â σ (upd H T o) s:=by
 have neT:∀b ob,X.s₀.heap.get? b=df ob->b≠T:=λb ob e=>è<|ß (Ô e) h0;refine⟨I.ok,I.os,I.bare,⟨I.base.keep,I.base.slot,λb ob e n hx=>?_,I.base.there,λb xs e=>?_,λb ob xs e=>?_,λb ps e=>?_⟩,I.loc,I.cell,?_,λx c e=>?_,λp hpp=>?_,I.hok.track hT new,I.len⟩
 .rw[dj<|neT b ob e];exact I.base.free b ob e n hx
 .have q:=I.base.tups b xs e;rw[dj<|Zo q hT];exact q
 .have q:=I.base.frzs b ob xs e;rw[dj<|Zo q hT];exact q
 .obtain⟨m,q⟩:=I.base.tbls b ps e;exact⟨m,by rw[dj<|Zo q hT];exact q⟩
 .rw[dj hL.symm];exact I.free
 .rw[dj<|bK x c e];exact I.freeC x c e
 .obtain⟨a,b,c,d,e⟩:=I.pin p hpp;exact⟨a,by rw[dj<|hp p hpp];exact b,c,d,e⟩
end
end L2
namespace L2
open PySem PySem.Spec PyProof.Rows
open PySem.Builtin PySem.Builtin.Str
noncomputable abbrev TJ:=St->Hp->Str->(Str->Hp->Prop)->Prop
abbrev PJ(X:Cx)(vs:List Expr)(t:TJ):Prop :=
 ∀(Â:List<|Ç×Obj) (s:Å) (σ:St) (H:Hp) (ļ:Str) (Q:Str->Hp->Prop),Inv X Â σ H s->t σ H ļ Q->
  Joins (Û X.prog X.w) X.A X.xe (evalEach vs X.env) ļ (λout s1=>∃H1,Inv X Â σ H1 s1/\out.length<=Ø/\Q out H1) s
section
variable {X:Cx}{e:Expr}{es:List Expr}{te:TE}{tr:TJ}{ç:Pos}
def Joins.imp{M:Model}{A:ċ}{E:Ã->Å->Prop}:∀{ps:List (Sem Ã)}{ļ:Str}{Q Q':Str->Å->Prop}{s:Å},(∀o s,Q o s->Q' o s)->Joins M A E ps ļ Q s->Joins M A E ps ļ Q' s
 |[],_,_,_,_,f,h=>f _ _ h
 |_::_,_,_,_,_,f,h=>thn h λv s1 ⟨y,t,e,hz,hr⟩=>⟨y,t,e,hz,Joins.imp f hr⟩
end
abbrev wB:Str:="bridge"
abbrev wT:Str:="tie"
end L2
namespace L2
open PySem PySem.Spec PyProof.Rows
variable {P:ä} {w:ü} {H:Hp} {h:ù} {a:Ç}
def dC.obj{o:HO}(x:dC P w H h a o):∃u,h.get? a=df u:=by
 cases o with
 |lst xs=>let⟨_,_,_,_,e⟩:=x;exact⟨_,e⟩
 |tup xs=>let⟨_,_,_,ob,e,_⟩:=x;exact⟨_,e⟩
 |dK kvs=>let⟨_,_,_,_,o,_,_,e,_⟩:=x;exact⟨_,e⟩
 |dT kvs=>let⟨_,_,_,_,o,_,_,e,_⟩:=x;exact⟨_,e⟩
 |set S n=>let⟨o,_,_,_,e,_⟩:=x;exact⟨_,e⟩
 |ins C dx fs=>let⟨_,_,_,e,_⟩:=x;exact⟨_,e⟩
 |own y=>exact x
 |xd fs=>let⟨_,⟨_,_,_,e,_⟩,_⟩:=x;exact⟨_,e⟩
 |rng lo hi=>let⟨_,_,_,e⟩:=x;exact⟨_,e⟩
 |frz ob u=>exact⟨_,x.1⟩
 |tbl ps=>exact⟨_,(show h.get? a=df _ from x)⟩
 |met f y=>exact⟨_,(show h.get? a=df _ from x)⟩
 |ext φ=>exact x.2.1
abbrev Di(h:ù)(a:Ç)(cls:Ã)(T:Option Ç):Prop :=
 ∃oe vs a0,h.get? a=df oe/\oe.cls=cls/\oe.data=.fields vs/\vs[0]?=df a0/\
  match T with
  |none=>vs[1]?=df .none
  |some T=>vs[1]?=df (.ref T)/\T≠a/\∃oT ts fl,h.get? T=df oT/\oT.data=.fields ts/\ts[3]?=df fl
structure Fl(P:ä)(w:ü)(l:List Env)(H:Hp)(s:Å)(H':Hp)(a:Ç)(cls:Ã)(s':Å):Prop where
 os:s'.os=s.os
 bare:π s'.gens
 un:Un (frs l) [] H H' s.heap s'.heap
 hok:HOk P w H' s'.heap
 na:s.heap.get? a=dg
 ha:H' a=dg
 ex:∃T,Di s'.heap a cls T/\∀t,T=df t->s.heap.get? t=dg/\H' t=dg
abbrev CX1(P:ä)(w:ü):CXT:=λl H s E e s'=>∃a cls H',e=.ref a/\Fl P w l H s H' a cls s'/\E cls dg H'
abbrev XW(X:Cx)(E:XK):Prop:=∀(Â:List<|Ç×Obj) (σ:St) (H:Hp) (s:Å) (H':Hp) (a:Ç) (cls:Ã) (s':Å),
 Inv X Â σ H s->Fl X.prog X.w X.stack H s H' a cls s'->E cls dg H'->X.xe (.ref a) s'
def XW.passes{X:Cx}{E:XK}(h:XW X E):YT (CX1 X.prog X.w) X E:=λÂ σ H s e s' I ⟨a,cls,H',z,f,q⟩=>by subst z;exact h Â σ H s H' a cls s' I f q
section
variable {M:Model}{A:ċ}{E:Ã->Å->Prop}{s:Å}{B:ù}{env:Env}{outer:List Env}{L a:Ç}{cls:Ã}{T:Option Ç}{Q:Unit->Å->Prop}
abbrev YI(h:ù)(l:List Env)(a:Ç)(T:Option Ç):ù:=PySem.W.hideAll h<|a::(T.toList++frs l)
def YO(h:ù)(l:List Env)(a:Ç)(T:Option Ç):(YI h l a T).StaysIn h:=λb o e=>PySem.W.of_hideAll _ e
def Wx{l:List Env}(a:Ç)(T:Option Ç)(hl:h.FunFrames B l):h.FunFrames (YI h l a T) l :=
 PySem.W.funFrames_hide hl λe he b hb=>Ù _<|Í _<|Ħ.mpr ⟨e,he,hb⟩
def Op(h:ù)(l:List Env)(a:Ç)(T:Option Ç):(YI h l a T).get? a=dg:=PySem.W.hideAll_none _ Ý
def OF(h:ù)(l:List Env)(a t:Ç):(YI h l a<|df t).get? t=dg:=PySem.W.hideAll_none _ (Ù _<|õ _<|by simp)
def UW(bp:A.frames=df (env::outer))(hf:env.frame=df L)(hl:s.heap.FunFrames B<|env::outer)(hx:Di s.heap a cls T)
  (fin:∀h' a0,Heap.NotedW (YI s.heap (env::outer) a T) (env::outer) a cls a0 (aB L) s.heap h'->Q () {s with heap:=h'}):wpAny M A (aE (.ref a) env) Q E s:=by
 let⟨oe,vs,a0,he,hc,hd,h0,ht⟩:=hx;have fin:=λh'=>fin h' a0;cases T with
 |none =>subst hc;unfold aE;simp![hf];refine À<|Č he hd ht ?_;rw[fo<|by decide];exact wpAny_entryW bp (Wx a dg hl) hf he (YO _ _ _ _) (Op _ _ _ _) hd (ū.mp ht).1 h0 fin
 |some t =>
  let⟨h1,Ź,oT,ts,fl,e1,e2,e3⟩:=ht;by_cases c:fl=aB L
  .subst c;have tr:s.heap.TracedAtW (YI s.heap (env::outer) a<|df t) a cls a0<|aB L:=⟨oe,vs,t,oT,ts,he,⟨hc,h0⟩,hd,h1,OF _ _ _ _,Ź,e1,e2,e3⟩
   exact wpAny_noteFrame_againW hf tr<|fin _ ⟨YO _ _ _ _,Wx a (df t) hl,tr,λb o e nf=>⟨o.slots,e⟩⟩
  .subst hc;unfold aE;simp![hf];refine À<|Č he hd h1 ?_;rw[fm<|by simp];refine À<|Č e1 e2 e3 ?_;rw[fo<|by simpa using c];refine À<|bw e1 e2 (ū.mp e3).1 ?_;have off:∀b,b≠t->(s.heap.update t (Obj.mapFields (·.setIfInBounds 3 Value.none))).get? b=s.heap.get? b:=λb hb=>ò _ _ hb.symm;have nr:∀b o,s.heap.get? b=df o->(∀vs,o.data≠.fields vs)->b≠t:=λb o hb nf z=>by
    rw[z,e1]at hb;cases hb;exact nf ts e2
   have bn:=OF s.heap (env::outer) a t;exact wpAny_entryW bp ((Wx a (df t) hl).of_keeps λb o hb nf=>⟨o,(off b<|nr b o hb nf).trans hb,rfl⟩) hf ((off a Ź.symm).trans he) (λb o hbo=>(off b λz=>by rw[z,bn]at hbo;cases hbo).trans<|YO _ _ _ _ b o hbo) (Op _ _ _ _) hd (ū.mp h1).1 h0 λh' ⟨x1,x2,x3,x4⟩=>fin h' ⟨x1,x2,x3,λb o hb nf=>x4 b o ((off b<|nr b o hb nf).trans hb) nf⟩
def Uv(bp:A.frames=df (env::outer))(hf:env.frame=df L)(hl:s.heap.FunFrames B<|env::outer)(hx:Di s.heap a cls T)
  (h:∀h' a0,cH (YI s.heap (env::outer) a T) (env::outer) a cls a0 s.heap h'->Q () {s with heap:=h'}):wpAny M A (aE (.ref a) env) (λ_ s2=>wpAny M A (setFlight (.ref a) dg) Q E s2) E s :=
 UW bp hf hl hx λh' a0 ⟨k1,k2,k3,k4⟩=>wpAny_setFlight_noneW k1 k2 k3 λh2 j1 j2 j3 j4=>h h2 a0 ⟨j1,j2,j3,λb o e nf=>by
   let⟨sl,e2⟩:=k4 b o e nf
   exact⟨sl,j4 b _ e2 nf⟩⟩
def Nt(bp:A.frames=df (env::outer))(hf:env.frame=df L)(hl:s.heap.FunFrames B<|env::outer)(hx:Di s.heap a cls T)
  (h:∀h' a0,cH (YI s.heap (env::outer) a T) (env::outer) a cls a0 s.heap h'->Q () {s with heap:=h'}):wpAny M A (leaving env<|.ref a) Q E s:=À<|Uv bp hf hl hx h
end
variable {l:List Env} {H':Hp} {s:Å} {s':Å} {cls:Ã} {a0:Ã} {h':ù} {B:ù} {T:Option Ç}
def Fl.noted{fl:Ã}(f:Fl P w l H s H' a cls s')(hT:∀t,T=df t->s.heap.get? t=dg/\H' t=dg)
  (hl:s'.heap.FunFrames B l) (bp:∀b∈frs l,H' b=dg) (z:Heap.NotedW (YI s'.heap l a T) l a cls a0 fl s'.heap h'):Fl P w l H s H' a cls {s' with heap:=h'}:=by
 let⟨k1,k2,k3,k4⟩:=z;have inb:∀b o,s'.heap.get? b=df o->b≠a->(∀t,T=df t->b≠t)->b∉frs l->h'.get? b=df o:=λb o e na nt nf=>k1 b o (PySem.W.hideAll_get _ e (by
   intro m
   rcases Æ.mp m with m|m
   . exact na m
   . rcases æ.mp m with m|m
     . cases T with
       |none=>cases m
       |some t=>exact nt t rfl ⇑m
     . exact nf m))
 have slot:∀b o,s'.heap.get? b=df o->b∈frs l->∃sl,h'.get? b=df {o with slots:=sl}:=λb o e hb=>by let⟨_,o2,e2,nf⟩:=hl.mem hb;rw[e]at e2;cases e2;exact k4 b o e nf
 have ac:∀b o,s.heap.get? b=df o->b≠a/\∀t,T=df t->b≠t:=λb o e=>⟨(λz=>by rw[z,f.na]at e;cases e),(λt ht z=>by rw[z,(hT t ht).1]at e;cases e)⟩
 refine⟨f.os,f.bare,⟨λb o e n nf _=>?_,λb o e n hb _=>?_,f.un.free,λb o e _=>?_,f.un.tups,f.un.frzs,f.un.tbls⟩,?_,f.na,f.ha,?_⟩
 .exact inb b o (f.un.keep b o e n nf<|by simp) (ac b o e).1 (ac b o e).2 nf
 .obtain⟨sl,e1⟩:=f.un.slot b o e n hb (by simp);let⟨sl',e2⟩:=slot b _ e1 hb;exact⟨sl',e2⟩
 .obtain⟨o1,e1⟩:=f.un.there b o e (by simp);by_cases hb:b∈frs l
  .obtain⟨sl,e2⟩:=slot b _ e1 hb;exact⟨_,e2⟩
  .exact⟨o1,inb b o1 e1 (ac b o e).1 (ac b o e).2 hb⟩
 .intro b u e;have good:∀c v,H' c=df v->∀ob,s'.heap.get? c=df ob->h'.get? c=df ob:=λc v ec ob eo =>
   inb c ob eo (λz=>by rw[z,f.ha]at ec;cases ec) (λt ht z=>by rw[z,(hT t ht).2]at ec;cases ec) λm=>by rw[bp c m]at ec;cases ec
  refine(f.hok b u e).stay (λc v hc q=>?_) (λ_ q=>q) λ_ _ q=>q;rcases hc with z|z
  .rw[z]at q ⊢;exact good b u e v q
  .exact good c _ z v q
 .obtain⟨oe,vs,t',oT,ts,e1,⟨e2,e3⟩,e4,e5,e6,e7,e8,e9,e10⟩:=k3;refine⟨df t',⟨oe,vs,a0,e1,e2,e4,e3,e5,e7,oT,ts,fl,e8,e9,e10⟩,λt ht=>?_⟩;cases ht;have hid:∀o,s'.heap.get? t'=df o->T=df t':=λo e=>by
   have nin:¬ (t'∉(a::(T.toList++frs l))):=λm=>by have q:(YI s'.heap l a T).get? t'=df o:=PySem.W.hideAll_get _ e m;rw[e6]at q;cases q
   have m:=Classical.not_not.mp nin;rcases Æ.mp m with m|m
   .exact fA m e7
   .rcases æ.mp m with m|m
    .cases T with
     |none=>cases m
     |some t=>rw[show t'=t by simpa using m]
    .obtain⟨_,o2,q,nf⟩:=k2.mem m;rw[e8]at q;cases q;exact fA e9<|nf ts
  constructor
  .cases q:s.heap.get? t' with
   |none=>rfl
   |some o =>let⟨o1,q1⟩:=f.un.there t' o q (by simp);have:=(hT t'<|hid o1 q1).1;rw[q]at this;cases this
  .cases q:H' t' with
   |none=>rfl
   |some u =>let⟨o1,q1⟩:=(f.hok t' u q).obj;have:=(hT t'<|hid o1 q1).2;rw[q]at this;cases this
def Fl.left(f:Fl P w l H s H' a cls s')(hT:∀t,T=df t->s.heap.get? t=dg/\H' t=dg)
  (hl:s'.heap.FunFrames B l) (bp:∀b∈frs l,H' b=dg) (z:cH (YI s'.heap l a T) l a cls a0 s'.heap h'):Fl P w l H s H' a cls {s' with heap:=h'}:=f.noted (fl:=.none) hT hl bp z
section
variable {P:ä}{w:ü}{K:Frag}{mg:Str->Option Ã}{base:ù}
variable {X:Cx} {H:Hp} {s:Å}
def Inv.raised{Â:List (Ç×Obj)}{σ:St}{H':Hp}{s':Å}{a:Ç}{cls:Ã}(I:Inv X Â σ H s)(f:Fl X.prog X.w X.stack H s H' a cls s'):Inv X Â σ H' s' :=
 I.call' (ch:=[]) f.os f.un f.hok f.bare (λb z=>fA z<|by simp)
def Nl(ok:X.Ok)(h:X.stack=X.env::X.outer):X.env.frame=df X.env.locals:=by
 rcases ok.stk with e|e
 .rw[h]at e;exact fA (congrArg List.length e) (by simp)
 .exact e.2
variable {N:List Str} {qual:Str} {f:Ç}
def FV{scope:Ť}{cd:Ã}{A:ċ}{outer:List Env}{E:XK}:XW (KC (CX1 P w) P w K mg base N qual scope f cd A outer s H E) E:=by
 intro Â σ H2 s2 H' a cls s' I f q;have J:=I.raised f;let⟨T,hx,hT⟩:=f.ex;show wpAny _ _ (leaving _ _) _ _ _;refine Nt (outer:=outer) J.ok.frames (Nl J.ok rfl) J.stack hx λh' a0 z=>?_;have f2:=f.left hT J.stack J.stkFree z;have J2:=I.raised f2;have ϸ:∀b,s2.heap.get? b=dg->s.heap.get? b=dg:=λb e=>by
  cases z:s.heap.get? b with
  |none=>rfl
  |some o =>let⟨o',e'⟩:=I.base.there b o z (by intro m;cases m);rw[e]at e';cases e'
 let⟨T2,hx2,hT2⟩:=f2.ex;exact⟨a,cls,H',rfl,⟨J2.os,J2.bare,J2.base,J2.hok,ϸ a f2.na,f2.ha,T2,hx2,λt ht=>⟨ϸ t (hT2 t ht).1,(hT2 t ht).2⟩⟩,q⟩
def Fun.ok1{x:Str}{st:ġ}{fd:ĵ}{ps:List Str}{k:Nat}{sp:Sp}(F:Fun K x qual st f fd)(S:FnScope N ps<|Zz st)(len:∀vs H Q E,sp vs H Q E->vs.length=ps.length)
  (hbody:∀(Ρ:Ã) (A:ċ) (outer:List Env) (s:Å) (H:Hp) (vs:List V) (Q:VK) (E:XK),dW k (A.deeper<|ϫ qual (Zz st) s.heap.objs.size f Ρ)->sp vs H Q E->
    XW (KC (CX1 P w) P w K mg base N qual (Zz st) f Ρ A outer s H E) E->
    ∃t,PSs (KC (CX1 P w) P w K mg base N qual (Zz st) f Ρ A outer s H E) (ZR st) t/\t { nx:=λ_ H'=>Q .non H',rt:=Q } (start N vs) H):dX P w K mg base (CX1 P w) (k+1) f fd ps sp:=by
 let⟨oc,od,kV,doc,pm,an,Ρ,ct,osl,rfl,lk,ax⟩:=F.ex;exact Ig lk ax S len λA outer s H vs Q E hr hsp=>hbody Ρ A outer s H vs Q E hr hsp FV
end
abbrev XP(X:Cx)(Â:List<|Ç×Obj)(σ:St)(E:XK)(v:Ã)(s':Å):Prop :=
 ∃a cls H1 H' s1,v=.ref a/\Inv X Â σ H1 s1/\Fl X.prog X.w X.stack H1 s1 H' a cls s'/\E cls dg H'
abbrev xcO(a:Ç)(cls:Ã):HO:=.ext λh=>∃o vs,h.get? a=df o/\o.cls=cls/\o.data=.fields vs
end L2
namespace L2
open PySem PySem.Spec PySem.W PySem.Calls PyProof.Rows PySem.Builtin PySem.Builtin.ObjectAttr PySem.Builtin.Getset_descriptor
section
variable {prog:ä}{w:ü}{A:ċ}{E:Ã->Å->Prop}{K:Frag}{h:ù}{g:Array GenState}{d:Drawn}{t:Nat}{os:OsState}{a C:Ç}{o:Obj}
structure XCls(K:Frag)(C:Ç):Prop where
 ga:ώ K (.ref C) "__getattribute__" = df (df<|.builtin "BaseException.__getattribute__")
 gr:ώ K (.ref C) "__getattr__" = df dg
 cl:ώ K (.ref C) "__class__" = df (df<|.builtin "object.__class__")
 mo:mroIn K C (.type "object")=df dh
 mb:mroIn K C (.type "BaseException")=df dh
 ci:(clsIn K C).isSome=dh
end
end L2
namespace L2
open PySem PySem.Spec PyProof.Rows
section
variable {X:Cx}
def Jq:dB X (.type "int") λxs H Q=>∃z n,xs=[.str z]/\PySem.intText? z=df n/\z.length<=640/\Q (.int n) H:=by k_put;let⟨z,n,rfl,e,hl,q⟩:=h;let⟨u,rfl,t,rfl⟩:=Z9 r;exact PySem.W.KIN.call_text e hl ⟨.int n,H,I.tok _,⟨_,rfl⟩,q⟩
end
end L2
namespace L2
open PySem PySem.Spec PyProof.Rows
open PySem.Builtin PySem.Builtin.Str
abbrev US(z:Str)(lo hi:Option Int):Str:=if(Ŵ lo hi 1 z.length).length=z.length then z else⟨((Ŵ lo hi 1 z.length).filterMap (z.cps[·]?)).toArray⟩
def BB(z:Str)(lo hi:Option Int):(US z lo hi).length<=z.length:=by
 unfold US;split
 .exact Ê _
 .show((Ŵ lo hi 1 z.length).filterMap (z.cps[·]?)).toArray.size<=_;rw[É];exact Ü (aQ _ _)<|indices_len_le lo hi z.length
section
variable {X:Cx}
abbrev HQ:V->Option Int->Option Int->Hp->VK->Prop:=λx lo hi H Q=>∃z,x=.str z/\z.length<=Ø/\Q (.str<|US z lo hi) H
def Os{v:Ã}{lo:Option Int}(h:Ν v lo):∃l:Option<|Int×Tok,v=partValue l/\l.map (·.1)=lo:=by
 cases h with
 |none=>exact⟨dg,rfl,rfl⟩
 |int i t=>exact⟨df (i,t),rfl,rfl⟩
def sl_str:SlR X HQ:=by
 intro Â s σ H x v vl vu lo hi sl Q I rx hs pl pu h;let⟨z,rfl,hz,q⟩:=h;let⟨t,rfl⟩:=rx;refine⟨"str",_,slot_str_getitem.lookup,typeIs_str s z t,?_⟩;let⟨l,rfl,el⟩:=Os pl;let⟨u,rfl,eu⟩:=Os pu;have hs':s.heap.IsSlice sl l u dg:=hs;refine wpAny_getItem_str_slice hs' rfl ?_;have e:sliceMade z t l u dg=if(Ŵ lo hi 1 z.length).length=z.length then .val (.str z t)else .str ⟨((Ŵ lo hi 1 z.length).filterMap (z.cps[·]?)).toArray⟩:=by unfold sliceMade slicePicked;rw[el,eu];simp
 rw[e];have cl:=BB z lo hi;unfold US at q cl;split
 .rename_i hh;rw[fm hh]at q;exact⟨.str z,H,I,⟨t,rfl⟩,q⟩
 .rename_i hh;rw[fo hh]at q cl;exact⟨Ü cl hz,.str _,H,I.tok _,⟨_,rfl⟩,q⟩
end
section
variable {X:Cx}
def OH(z:Str):∀(n:Nat) (a:Array Nat),((Ó n z.cps).foldl (· ++ ·) a).size=a.size+n*z.cps.size
 |0,a=>by simp
 |n+1,a=>by rw[ă,ĭ,OH z n,Array.size_append,Nat.succ_mul];lia
end
end L2
namespace L2
open PySem PySem.Spec PyProof.Rows
section
variable {X:Cx}(K:Frag) (h:X.K=K)
include h
end
end L2
namespace HT
open PySem PyProof.Rows
open PySem.SeqAt
open PySem.AutoSeq1 (wpAny_loadPart')
open PySem.MeetsSeq PySem.MeetsSeq2 PySem.MeetsSeq3
section
variable {prog:ä}{w:ü}{A:ċ}{E:Ã->Å->Prop}{s:Å}
def getItem_tuple_whole{t sl:Ç}{items:Array Ã}{vl vu:Ã}{lo hi:Option Int}{Q:Ã->Å->Prop}(ht:Ϣ s.heap t items)(hs:s.heap.IsSliceOf sl vl vu .none)(pl:Ν vl lo)(pu:Ν vu hi)
  (hw:sIx items.size 0 lo=0/\sIx items.size items.size hi=items.size)
  (h:Q (.ref t) s):wpAny (Û prog w) A (ϓ (.ref t)<|.ref sl) Q E s:=by
 let⟨os,cK,hcs,hds⟩:=id hs;have hTs:s.TypeIs (.ref sl) "slice":=⟨os,cK,hcs⟩
 unfold ϓ
 try with_reducible refine Ć ?_
 first|refine À (Ë ?_)|skip
 refine À (wpAny_sequenceKey ht.typeIs (by decide) ?_);refine À (Ġ (name:=fE "__getitem__") ht.typeIs PyProof.Rows.slot_tuple_getitem
   (Ī PyProof.Rows.slot_tuple_getitem ht.typeIs entry_tuple_getitem ?_<|args_tuple_getitem _ _))
 show wpAny _ _ (Builtin.Tuple.tupleItemsOf (.ref t) >>= _) _ _ s;refine À<|tupleItemsOf_ ht ?_;refine À<|cQ hTs ?_;rw[fm<|by decide];refine À<|Yl hs pl pu ?_;have hyes:(((sIx items.size 0 lo:Nat):Int)==0&&(1:Int)==1&&(sIx items.size items.size hi - sIx items.size 0 lo)==items.size)=dh:=by rw[hw.1,hw.2];simp
 show wpAny _ _ (if(((sIx items.size 0 lo:Nat):Int)==0&&(1:Int)==1&&(sIx items.size items.size hi - sIx items.size 0 lo)==items.size)=dh then _ else _) _ _ s;rw[fm hyes];refine À ?_;unfold Builtin.Tuple.tupleIsExact;refine À<|cQ ht.typeIs<|Ë ?_;rw[fm<|by decide]
 first
  |exact À<|Ë<|Ë ⟨_,rfl,Ë h⟩
  |exact À<|ϭ<|Ë ⟨_,rfl,Ë h⟩
  |exact Ë ⟨_,rfl,Ë h⟩
end
end HT
namespace L2
open PySem PySem.Spec PyProof.Rows
section
variable {X:Cx}
abbrev HB(K:Frag):V->Option Int->Option Int->Hp->VK->Prop:=λx lo hi H Q=>∃a xs,x=.ref a/\eZ K H a xs/\(HT.sIx xs.length 0 lo=0/\HT.sIx xs.length xs.length hi=xs.length)/\Q (.ref a) H
def DR:SlR X<|HB X.K:=by
 intro Â s σ H x v vl vu lo hi sl Q I rx hs pl pu h;let⟨a,xs,rfl,hx,hw,q⟩:=h;cases rx;let⟨ð,r,ht,hz⟩:=I.tuple hx;have hlen:ð.toArray.size=xs.length:=by rw[É];exact r.length.symm
 refine⟨"tuple",_,PyProof.Rows.slot_tuple_getitem.lookup,ht.typeIs,?_⟩;exact HT.getItem_tuple_whole ht hs pl pu (by rw[hlen];exact hw) ⟨.ref a,H,I,rfl,q⟩
end
end L2
namespace L2
open PySem PySem.Spec PyProof.Rows
open PySem.Builtin PySem.Builtin.Str
section
variable {X:Cx}
abbrev GC(z:Str)(n:Nat):Str:=⟨(Ó n z.cps).foldl (· ++ ·) #[]⟩
def JX(z:Array Nat):∀(n:Nat) (a:Array Nat),((Ó n z).foldl (· ++ ·) a).toList=a.toList++(Ó n z.toList).flatten
 |0,a=>by simp
 |n+1,a=>by rw[ă,ĭ,JX z n,ă,į,Array.toList_append,Ņ]
abbrev EB:R2:=λx y H Q=>∃z k,x=.str z/\y=.int k/\2<=k/\k<=1000000/\1<=z.length/\z.length*k.toNat<=1000000/\Q (.str<|GC z k.toNat) H
def DJ:OpR X (ĳ .Mult) EB:=by
 k_ne;let⟨z,k,rfl,rfl,h2,h6,h1,hz,q⟩:=h;let⟨t,rfl⟩:=rx;let⟨t',rfl⟩:=ry;have big:(1000000:Nat)<=Ø:=by decide
 have nb:(k==1||z.length==0)=di:=by have e1:(k==1)=di:=beq_false_of_ne (by lia);have e2:(z.length==0)=di:=beq_false_of_ne (by lia);rw[e1,e2];rfl
 have zl:z.length<=1000000:=by have:z.length*1<=z.length*k.toNat:=Nat.mul_le_mul_left _ (by lia);lia
 have hr:(fB (k < -(2 ^ 63:Int))||fB (k≥2 ^ 63))=di:=by rw[ft (by lia),ft<|by lia];rfl
 have hb:¬ k<1->(k==1||z.length==0)=di->¬ ((z.length:Int) > (2 ^ 63 - 1) / k):=λ_ _=>by have:(1000000:Int)<=(2 ^ 63 - 1) / k:=(Int.le_ediv_iff_mul_le<|by lia).mpr (by lia);lia
 have hl:¬ k<1->(k==1||z.length==0)=di->tooLong (z.length*k.toNat)=di:=λ_ _=>by unfold tooLong;exact ft (by lia)
 refine P.mul_str hr hb hl ?_;rw[fo (by lia),fo<|by rw[nb];exact é];have el:(⟨(Ó k.toNat z.cps).foldl (· ++ ·) #[]⟩:Str).length=z.length*k.toNat:=by show((Ó k.toNat z.cps).foldl (· ++ ·) #[]).size=_;rw[OH,bv z.length];simp[Str.length]
 exact⟨by rw[el];lia,.str _,H,I.tok _,⟨_,rfl⟩,q⟩
variable {c y z a b:Str}{k1 k2 k3:Nat}{p1 p2 p3 p4 pa pb Ľ ŏ:Pos}
end
end L2
namespace L2
open PySem PySem.Spec PyProof.Rows
section
variable {X:Cx}
abbrev EV(K:Frag):R2:=λx y H Q=>∃a b ys,x=.ref a/\y=.ref b/\eZ K H a []/\eZ K H b ys/\Q (.ref b) H
def op_cat0:OpR X (ĳ .Add)<|EV X.K:=by
 k_ne;let⟨a,b,ys,rfl,rfl,ha,hb,q⟩:=h;cases rx;cases ry;let⟨ð,r1,p1,_⟩:=I.tuple ha;let⟨Κ,r2,p2,_⟩:=I.tuple hb;cases r1;let⟨⟨cls,dd,data,sl⟩,ho,hc,n,hd⟩:=id p1;let⟨⟨cls2,dd2,data2,sl2⟩,ho2,bT,n2,aU⟩:=id p2;simp only at hc hd bT aU;subst hc hd bT aU;exact cP ⟨_,ho,rfl⟩ ⟨_,ho2,rfl⟩ aD bX PySem.F.slot_tuple_add PySem.F.entry_tuple_add (PySem.F.args_tuple_add_2 _ _)
  (tuple_addW0 a b _ _ n n2 dd dd2 sl sl2 rfl) ⟨ho,ho2,.ref b,H,I,rfl,q⟩
def CP{xs:Array (Int×Tok)}{k:Nat}(h:k<xs.size):numAt xs k∈xs.toList.map (·.1):=by rw[numAt_eq];exact PySem.getD_mem (by rw[Á,ö];exact h)
def UI(hc:X.calm=dh):dB X (.builtin "max") λxs H Q=>∃p,∃ns:List Int,xs=[.ref p]/\eY X.K H p (ns.map V.int)/\ns≠[]/\∀M,M∈ns->(∀a∈ns,a<=M)->Q (.int M) H:=by
 k_put;let⟨p,ns,rfl,hq,Ź,q⟩:=h;let⟨u,rfl,rx⟩:=Z9 r;cases rx;let⟨ð,rv,pl,hz⟩:=I.list hq;have hi:=ZT rv;let⟨xs,e⟩:=hi.allInts.items;have hns:ns=xs.toList.map (·.1):=by rw[<-hi.numsOf,<-nums_intItems,<-e]
 have hsz:0<xs.size:=by have h3:=Υ.mpr Ź;rw[hns,Á,ö]at h3;exact h3
 have hl:=pl.isList;rw[e]at hl;refine max_intList (I.ok.hd hc) hl hsz λv h' tk hv hk=>?_;let⟨t,rfl⟩:=intItems_at hv;let⟨h1,h2⟩:=argBest_gt (numAt xs)<|xs.size - 1;refine⟨.int _,H,I.kept (t':=tk) hk,⟨t,rfl⟩,q _ ?_ λa ha=>?_⟩
 .rw[hns];exact CP (by lia)
 .rw[hns]at ha;let⟨j,hj,rfl⟩:=mem_getD ha;rw[Á,ö]at hj;rw[<-numAt_eq];exact h2 j (by lia)
end
abbrev Itz(K:Frag)(a b:Ç):It :=
 ⟨λi H=>∃xs ys x y,eY K H a xs/\eY K H b ys/\xs[i]?=df x/\ys[i]?=df y,
  λi H v H'=>∃p,v=.ref p/\H p=dg/\∀xs ys x y,eY K H a xs->eY K H b ys->xs[i]?=df x->ys[i]?=df y->H'=upd H p (.tup [x,y]),
  λi H=>∃xs ys,eY K H a xs/\eY K H b ys/\(xs.length<=i\/ys.length<=i)⟩
abbrev ZSt(z TI TO i1 i2 a b:Ç)(i:Nat)(h:ù):Prop:=Θ h z TI TO .none/\Ŋ h TI (.ref i1) (.ref i2)/\(∃u v,Ŋ h TO u v)/\h.IsListIter i1 a i/\h.IsListIter i2 b i
variable {z:Ç} {i1:Ç} {i2:Ç} {a:Ç} {b:Ç} {i:Nat} {h:ù}
def ZSt.keep{TI TO:Ç}{h':ù}(st:ZSt z TI TO i1 i2 a b i h)(k:∀c∈[z,TI,TO,i1,i2],∀o,h.get? c=df o->h'.get? c=df o):ZSt z TI TO i1 i2 a b i h':=by let⟨h1,h2,⟨u,v,h3⟩,h4,h5⟩:=st;exact⟨k z (by simp) _ h1,k TI (by simp) _ h2,⟨u,v,k TO (by simp) _ h3⟩,h4.at λo q=>k i1 (by simp) o q,h5.at λo q=>k i2 (by simp) o q⟩
def ZSt.obj{TI TO:Ç}(st:ZSt z TI TO i1 i2 a b i h):∀c∈[z,TI,TO,i1,i2],∃o,h.get? c=df o/\(∀v,o.data≠.cell v)/\o.cls≠.type "list":=by
 let⟨h1,h2,⟨u,v,h3⟩,⟨o4,e4,c4,d4⟩,⟨o5,e5,c5,d5⟩⟩:=st;intro c hc;simp![Æ,Õ,or_false]at hc;rcases hc with rfl|rfl|rfl|rfl|rfl
 .exact⟨_,h1,(λv z=>(by cases z)),(show Value.type "zip"≠.type "list" by decide)⟩
 .exact⟨_,h2,(λv z=>(by cases z)),(show Value.type "tuple"≠.type "list" by decide)⟩
 .exact⟨_,h3,(λv z=>(by cases z)),(show Value.type "tuple"≠.type "list" by decide)⟩
 .exact⟨_,e4,(λv z=>(by rw[d4]at z;cases z)),(by rw[c4];decide)⟩
 .exact⟨_,e5,(λv z=>(by rw[d5]at z;cases z)),(by rw[c5];decide)⟩
def BY{P:ä}{w:ü}{K:Frag}{es:List Expr}{kk:Nat}{tp:Pos}(a b z TI TO i1 i2:Ç)(hnd:[z,TI,TO,i1,i2].Nodup) :
  Turn P w K (.Tuple es kk tp) (Itz K a b) [z,TI,TO,i1,i2] z (λi h=>ZSt z TI TO i1 i2 a b i h) where
 mem:=by simp
 obj:=λi h st c hc=>let ⟨o,e,d,_⟩:=ZSt.obj st c hc;⟨o,e,d⟩
 keep:=λi h h' st k=>ZSt.keep st k
 item:=by
  k_sub;subst hP hw hK;let⟨xs,ys,x,y,av,Ϲ,hx,hy⟩:=hg;let⟨bb,rv1,pl1,hz1⟩:=I.list av;let⟨Κ,rv2,pl2,hz2⟩:=I.list Ϲ;let⟨u1,hu1,ru1⟩:=rv1.get hx;let⟨u2,hu2,ru2⟩:=rv2.get hy;have cM:∀c∈[z,TI,TO,i1,i2],a≠c/\b≠c:=λc Ž=>by
   let⟨o,e,_,nl⟩:=ZSt.obj st c Ž;refine⟨λq=>?_,λq=>?_⟩
   .subst q;let⟨o',e',c',_⟩:=pl1.isList;rw[e]at e';cases e';exact nl c'
   .subst q;let⟨o',e',c',_⟩:=pl2.isList;rw[e]at e';cases e';exact nl c'
  simp![Ā,Æ,Õ,or_false,not_or]at hnd;let⟨⟨n1,n2,n3,n4⟩,⟨n5,n6,n7⟩,⟨n8,n9⟩,n10,_⟩:=hnd;have D:aj z TI TO i1 i2 a b:=by constructor<;>first|exact Ne.symm (by assumption)|assumption|exact(cM _<|by simp).1|exact(cM _<|by simp).2
  let⟨h1,h2,⟨o1,o2,h3⟩,h4,h5⟩:=st;refine wpAny_pyNext_zip_item D h1 h2 h3 h4 h5 pl1.isList pl2.isList (x:=u1) (y:=u2) ⇑hu1 ⇑hu2 λh' a1 a2 a3 a4 a5 a6 a7=>?_;have bp:=I.fpOk (H':=H) (Ê s.heap.objs.size) I.fresh;refine⟨.ref s.heap.objs.size,rfl,bO a1 λcx b1 b2=>?_⟩;have nT:∀c∈[z,TI,TO,i1,i2],s.heap.objs.size≠c:=λc Ž q=>by let⟨o,e,_⟩:=ZSt.obj ⟨h1,h2,⟨o1,o2,h3⟩,h4,h5⟩ c Ž;exact fA (Ô e) (by rw[<-q];exact ģ _)
  have I4:Inv X Â σ H {s with heap:=cx,toks:=s.toks}:=I.turnedL (t':=s.toks) (ch:=[z,TI,TO,i1,i2]) (λc o Ž q=>b2.extBut c o (λe=>Ž<|by simp[e])<|a7 c o (λe=>Ž<|by simp[e]) (λe=>Ž<|by simp[e]) (λe=>Ž<|by simp[e]) (λe=>Ž<|by simp[e]) q) hf;have hT4:Ŋ cx s.heap.objs.size u1 u2:=b2.extBut _ _ (nT z<|by simp) a5;let⟨f0,f1,f2,f3,f4,f5⟩:=bp;have I5:Inv X Â σ (upd H s.heap.objs.size<|.tup [x,y]) {s with heap:=cx,toks:=s.toks}:=I4.track f0 I.sz f1 f4 f5 ⟨by show 2<=Ø;decide,[u1,u2],.cons ru1<|.cons ru2 .nil,_,hT4,rfl,_,rfl⟩;refine⟨.ref s.heap.objs.size,_,I5,rfl,⟨s.heap.objs.size,rfl,f0,λxs' ys' x' y' q1 q2 q3 q4=>?_⟩,⟨b1,b2.extBut _ _ D.TIz<|a7 TI _ D.TIz D.TITO D.TIi1 D.TIi2 h2,⟨u1,u2,b2.extBut _ _ D.TOz a2⟩,a3.at λo q=>b2.extBut i1 o D.i1z q,a4.at λo q=>b2.extBut i2 o D.i2z q⟩,λc Ž=>?_⟩
  .have e1:xs'=xs:=I.list_inj q1 av;have e2:ys'=ys:=I.list_inj q2 Ϲ;subst e1 e2;rw[hx]at q3;rw[hy]at q4;cases q3;cases q4;rfl
  .rw[dj (nT c Ž).symm];exact(hf c Ž).1
 done:=by
  k_sub;subst hP hw hK;let⟨xs,ys,av,Ϲ,hend⟩:=hg;let⟨bb,rv1,pl1,hz1⟩:=I.list av;let⟨Κ,rv2,pl2,hz2⟩:=I.list Ϲ;have hl1:=rv1.length;have hl2:=rv2.length;have cM:∀c∈[z,TI,TO,i1,i2],a≠c/\b≠c:=λc Ž=>by
   let⟨o,e,_,nl⟩:=ZSt.obj st c Ž;refine⟨λq=>?_,λq=>?_⟩
   .subst q;let⟨o',e',c',_⟩:=pl1.isList;rw[e]at e';cases e';exact nl c'
   .subst q;let⟨o',e',c',_⟩:=pl2.isList;rw[e]at e';cases e';exact nl c'
  simp![Ā,Æ,Õ,or_false,not_or]at hnd;let⟨⟨n1,n2,n3,n4⟩,⟨n5,n6,n7⟩,⟨n8,n9⟩,n10,_⟩:=hnd;have D:aj z TI TO i1 i2 a b:=by constructor<;>first|exact Ne.symm (by assumption)|assumption|exact(cM _<|by simp).1|exact(cM _<|by simp).2
  let⟨h1,h2,⟨o1,o2,h3⟩,h4,h5⟩:=st;refine wpAny_pyNext_zip_end (I.ok.hd hc) D h1 h2 h3 h4 h5 pl1.isList pl2.isList ?_ λh' hk=>?_
  .rcases hend with e|e
   .left;simp;lia
   .right;simp;lia
  .exact⟨rfl,I.turnedL (t':=s.toks) (ch:=[z,TI,TO,i1,i2]) (λc o Ž q=>hk c o (λe=>Ž<|by simp[e]) (λe=>Ž<|by simp[e]) (λe=>Ž<|by simp[e]) (λe=>Ž<|by simp[e]) q) hf⟩
 self:=λA i s Q E st h=>Ι st.1 h
section
variable {X:Cx}
abbrev Ef(K:Frag)(neg:Bool):R2:=λx y H Q=>∃ds d,(IsD K H y (.tuple ds)\/IsD K H y (.list ds))/\IsD K H x d/\Ŀ ds=dh/\d.canLay0=dh/\d.depth<=64/\Q (.bl<|if neg then !ds.any (λe=>ě e d)else ds.any λe=>ě e d) H
def FS(hu:X.A.units+65<ğ):OpR X (ê .In)<|Ef X.K di:=by
 k_ne;let⟨ds,d,hd,he,sd,se,hdp,q⟩:=h;let⟨bs,rb⟩:=he.reads I rx;have hr:X.A.units+1+min (ī ds) d.depth<ğ:=by have:min (ī ds) d.depth<=d.depth:=Ϭ _ _;lia
 rcases hd with hd|hd
 .obtain⟨as,ra⟩:=hd.reads I ry;exact SeqAt.in_tuple_reads ra rb sd se hr ⟨.bl _,H,I,rfl,q⟩
 .obtain⟨as,ra⟩:=hd.reads I ry;exact SeqAt.in_list_reads ra rb sd se hr ⟨.bl _,H,I,rfl,q⟩
def UQ(hu:X.A.units+65<ğ):OpR X (ê .NotIn)<|Ef X.K dh:=by
 k_ne;let⟨ds,d,hd,he,sd,se,hdp,q⟩:=h;let⟨bs,rb⟩:=he.reads I rx;have hr:X.A.units+1+min (ī ds) d.depth<ğ:=by have:min (ī ds) d.depth<=d.depth:=Ϭ _ _;lia
 rcases hd with hd|hd
 .obtain⟨as,ra⟩:=hd.reads I ry;exact SeqAt.notIn_tuple_reads ra rb sd se hr ⟨.bl _,H,I,rfl,q⟩
 .obtain⟨as,ra⟩:=hd.reads I ry;exact SeqAt.notIn_list_reads ra rb sd se hr ⟨.bl _,H,I,rfl,q⟩
end
section
variable {prog:ä}{w:ü}{A:ċ}{E:Ã->Å->Prop}{s:Å}
variable {z:Ç}
def N8{TI TO:Ç}{Q:Bool->Å->Prop}(q1:Θ s.heap z TI TO .none)(q:Q dh s):wpAny (Û prog w) A (Builtin.SmallTypes.ownedTupleIsFree<|.ref z) Q E s:=by unfold Builtin.SmallTypes.ownedTupleIsFree;exact À (Č q1 rfl (x:=.none) rfl<|Ë q)
variable {i1:Ç} {i2:Ç} {t1:Ç} {t2:Ç} {xs:Array Ã} {ys:Array Ã} {u:Ã}
def UT{TI TO:Ç}{k:Nat}{x y v:Ã}{Q:Ã->Å->Prop}(D:aj z TI TO i1 i2 t1 t2)
  (q1:Θ s.heap z TI TO .none) (q2:Ŋ s.heap TI (.ref i1)<|.ref i2) (q3:Ŋ s.heap TO u v) (p1:s.heap.IsTupleIter i1 t1 k) (p2:s.heap.IsTupleIter i2 t2 k) (r1:s.heap.IsTuple t1 xs) (r2:s.heap.IsTuple t2 ys) (hx:xs[k]?=df x) (hy:ys[k]?=df y)
  (q:∀g,Θ g z TI TO (aB s.heap.objs.size)->Ŋ g TO x y->g.IsTupleIter i1 t1 (k+1)->g.IsTupleIter i2 t2 (k+1)->Ŋ g s.heap.objs.size x y->
    (∀c o,c≠z->c≠TO->c≠i1->c≠i2->s.heap.get? c=df o->g.get? c=df o)->Q (.ref s.heap.objs.size) { s with heap:=g }) :
  wpAny (Û prog w) A (Builtin.«zip.__next__» ⟨[.ref z],[]⟩) (λfin s'=>∃a,fin=.done (.ret a)/\Q a s') E s:=by
 show wpAny _ _ (cG (.ref z) 2 >>= _) _ _ s;refine À<|Č q1 rfl (x:=.bool di) rfl ?_;show wpAny _ _ (cG (.ref z) 3 >>= _) _ _ s;refine À<|Č q1 rfl (x:=.ref TI) rfl<|À<|ē q2 rfl ?_;show wpAny _ _ (Builtin.SmallTypes.ownedTupleIsFree (.ref z) >>= _) _ _ s;refine À<|N8 q1 ?_;simp![if_true];refine À (ϭ<|À<|Č q1 rfl (x:=.ref TO) rfl<|À<|ņ q1 (by simp) λg1 y1 m1=>?_)
 replace y1:Θ g1 z TI TO .ellipsis:=y1
 simp![Ϥ,List.zipIdx_nil,Α,List.forIn_nil];refine À<|À<|À<|ϥ ?_;show wpAny _ _ (Builtin.SmallTypes.nextOf (.ref i1) >>= _) _ _ _;refine À<|Xf (p1.extBut m1.extBut D.i1z) (r1.extBut m1.extBut D.l1z) hx λg2 y2 m2=>Ë ?_;have o2:Ŋ g2 TO u v:=m2.extBut _ _ D.TOi1<|m1.extBut _ _ D.TOz q3;refine À<|ē o2 rfl<|À<|Ϗ o2 λg3 o3 m3=>À<|Ŭ<|Ë ?_
 replace o3:Ŋ g3 TO x v:=o3
 refine À<|À<|ϥ ?_;show wpAny _ _ (Builtin.SmallTypes.nextOf (.ref i2) >>= _) _ _ _;have n2:=((p2.extBut m1.extBut D.i2z).extBut m2.extBut D.i12.symm).extBut m3.extBut D.TOi2.symm;have w2:=((r2.extBut m1.extBut D.l2z).extBut m2.extBut D.l2i1).extBut m3.extBut D.l2TO;refine À<|Xf n2 w2 hy λg4 y4 m4=>Ë ?_;have o4:Ŋ g4 TO x v:=m4.extBut _ _ D.TOi2 o3;refine À<|ē o4 rfl<|À<|Ϗ o4 λg5 o5 m5=>À<|Ŭ<|Ë<|Ë ?_
 replace o5:Ŋ g5 TO x y:=o5
 refine À<|ē o5 rfl<|À<|wpAny_newTuple ?_;have sz:g5.objs.size=s.heap.objs.size:=by rw[m5.1,m4.1,m3.1,m2.1,m1.1]
 have y5:Θ g5 z TI TO .ellipsis:=m5.extBut _ _ D.TOz.symm<|m4.extBut _ _ D.i2z.symm<|m3.extBut _ _ D.TOz.symm<|m2.extBut _ _ D.i1z.symm y1;have kp:∀c o,c≠z->c≠TO->c≠i1->c≠i2->s.heap.get? c=df o->g5.get? c=df o:=λc o a1 a2 a3 a4 e=>m5.extBut _ _ a2<|m4.extBut _ _ a4<|m3.extBut _ _ a2<|m2.extBut _ _ a3<|m1.extBut _ _ a1 e;have j1:g5.IsTupleIter i1 t1<|k+1:=((y2.extBut m3.extBut D.TOi1.symm).extBut m4.extBut D.i12).extBut m5.extBut D.TOi1.symm;have j2:g5.IsTupleIter i2 t2<|k+1:=y4.extBut m5.extBut D.TOi2.symm;have zl:z<g5.objs.size:=Ô y5;show wpAny _ _ (Builtin.SmallTypes.ownedTupleHandOut (.ref z) (.ref g5.objs.size) >>= _) _ _ _;refine À ?_;unfold Builtin.SmallTypes.ownedTupleHandOut;have y6:Θ (g5.push {cls:=.type "tuple",data:=.seq #[x,y]}) z TI TO .ellipsis:=Ä _ y5;refine À (ņ y6 (by simp) λg7 y7 m7=>?_)
 replace y7:Θ g7 z TI TO<|aB g5.objs.size:=y7
 refine ņ y7 (by simp) λg8 y8 m8=>?_
 replace y8:Θ g8 z TI TO<|aB g5.objs.size:=y8
 have up:∀c o,c≠z->g5.get? c=df o->g8.get? c=df o:=λc o a1 e=>m8.extBut _ _ a1<|m7.extBut _ _ a1<|Ä _ e;have o8:Ŋ g8 g5.objs.size x y:=m8.extBut _ _ (ŗ zl)<|m7.extBut _ _ (ŗ zl)<|Ö _ rfl;rw[sz]at y8 o8;refine Ë ⟨_,rfl,?_⟩;show Q (.ref g5.objs.size) _;rw[sz];exact q g8 y8 (up _ _ D.TOz o5) (j1.at λo e=>up _ o D.i1z e) (j2.at λo e=>up _ o D.i2z e) o8 λc o a1 a2 a3 a4 e=>up c o a1<|kp c o a1 a2 a3 a4 e
def BK{TI TO:Ç}{k:Nat}{v:Ã}{Q:Fin->Å->Prop}(hh:A.handled=dg)(D:aj z TI TO i1 i2 t1 t2)
  (q1:Θ s.heap z TI TO .none) (q2:Ŋ s.heap TI (.ref i1)<|.ref i2) (q3:Ŋ s.heap TO u v) (p1:s.heap.IsTupleIter i1 t1 k) (p2:s.heap.IsTupleIter i2 t2 k) (r1:s.heap.IsTuple t1 xs) (r2:s.heap.IsTuple t2 ys) (hend:xs[k]?=dg\/ys[k]?=dg)
  (q:∀g e,(∀c o,c≠z->c≠TO->c≠i1->c≠i2->s.heap.get? c=df o->g.get? c=df o)->(∃o,g.get? e=df o/\o.cls=.type "StopIteration")->E (.ref e) {s with heap:=g}) :
  wpAny (Û prog w) A (Builtin.«zip.__next__» ⟨[.ref z],[]⟩) Q E s:=by
 show wpAny _ _ (cG (.ref z) 2 >>= _) _ _ s;refine À<|Č q1 rfl (x:=.bool di) rfl ?_;show wpAny _ _ (cG (.ref z) 3 >>= _) _ _ s;refine À<|Č q1 rfl (x:=.ref TI) rfl<|À<|ē q2 rfl ?_;show wpAny _ _ (Builtin.SmallTypes.ownedTupleIsFree (.ref z) >>= _) _ _ s;refine À<|N8 q1 ?_;simp![if_true];refine À (ϭ<|À<|Č q1 rfl (x:=.ref TO) rfl<|À<|ņ q1 (by simp) λg1 y1 m1=>?_)
 replace y1:Θ g1 z TI TO .ellipsis:=y1
 simp![Ϥ,List.zipIdx_nil,Α,List.forIn_nil];refine À<|À<|À<|ϥ ?_;show wpAny _ _ (Builtin.SmallTypes.nextOf (.ref i1) >>= _) _ _ _;cases hx:xs[k]? with
 |none =>
  refine À<|JP hh (p1.extBut m1.extBut D.i1z) (r1.extBut m1.extBut D.l1z) hx λg2 e m2 he=>?_;let⟨oe,e1,e2⟩:=he;have y2:Θ g2 z TI TO .ellipsis:=m2 _ _ D.i1z.symm y1;have ne:e≠z:=λa=>by subst a;rw[y2]at e1;cases e1;simp at e2
  exact ņ y2 (by simp) λg3 _ m3=>q g3 e (λc o a1 _ a3 _ b=>m3.extBut _ _ a1<|m2 _ _ a3<|m1.extBut _ _ a1 b) ⟨oe,m3.extBut _ _ ne e1,e2⟩
 |some x =>
  have hy:ys[k]?=dg:=hend.elim (λh=>by rw[hx]at h;cases h) id;refine À<|Xf (p1.extBut m1.extBut D.i1z) (r1.extBut m1.extBut D.l1z) hx λg2 y2 m2=>Ë ?_;have o2:Ŋ g2 TO u v:=m2.extBut _ _ D.TOi1<|m1.extBut _ _ D.TOz q3;refine À<|ē o2 rfl<|À<|Ϗ o2 λg3 o3 m3=>À<|Ŭ<|Ë ?_;refine À<|À<|ϥ ?_;show wpAny _ _ (Builtin.SmallTypes.nextOf (.ref i2) >>= _) _ _ _;have n2:=((p2.extBut m1.extBut D.i2z).extBut m2.extBut D.i12.symm).extBut m3.extBut D.TOi2.symm;have w2:=((r2.extBut m1.extBut D.l2z).extBut m2.extBut D.l2i1).extBut m3.extBut D.l2TO;refine À<|JP hh n2 w2 hy λg4 e m4 he=>?_;let⟨oe,e1,e2⟩:=he;have y4:Θ g4 z TI TO .ellipsis:=m4 _ _ D.i2z.symm<|m3.extBut _ _ D.TOz.symm<|m2.extBut _ _ D.i1z.symm y1;have ne:e≠z:=λa=>by subst a;rw[y4]at e1;cases e1;simp at e2
  exact ņ y4 (by simp) λg5 _ m5=>q g5 e (λc o a1 a2 a3 a4 b=>m5.extBut _ _ a1<|m4 _ _ a4<|m3.extBut _ _ a2<|m2.extBut _ _ a3<|m1.extBut _ _ a1 b) ⟨oe,m5.extBut _ _ ne e1,e2⟩
end
noncomputable abbrev zh1(h:ù)(l:Ç):ù:=h.push {cls:=.type "tuple_iterator",data:=.fields #[.ref l,.int 0 0]}
noncomputable abbrev zh2(h:ù)(l m:Ç):ù:=(zh1 h l).push {cls:=.type "tuple_iterator",data:=.fields #[.ref m,.int 0 0]}
noncomputable abbrev zh3(h:ù)(l m:Ç):ù:=(zh2 h l m).push {cls:=.type "tuple",data:=.seq #[.ref h.objs.size,.ref (zh1 h l).objs.size]}
noncomputable abbrev zh4(h:ù)(l m:Ç):ù:=(zh3 h l m).push {cls:=.type "tuple",data:=.seq #[.none,.none]}
noncomputable abbrev zh5(h:ù)(l m:Ç):ù:=(zh4 h l m).push {cls:=.type "zip",data:=.fields #[.none,.bool di,.bool di,.ref (zh2 h l m).objs.size,.ref (zh3 h l m).objs.size]}
variable {h:ù} {l:Ç} {xs:Array Ã}
def IsTuple.push'(r:h.IsTuple l xs)(o:Obj):(h.push o).IsTuple l xs:=by let⟨ob,e,q⟩:=r;exact⟨ob,Ä _ e,q⟩
def MR(l m:Ç)(xs ys:Array Ã):Meets (Builtin.«zip.__new__» ⟨[.type "zip",.ref l,.ref m],[]⟩) (λ_ R s=>s.heap.IsTuple l xs/\s.heap.IsTuple m ys/\R (.ok<|.ret<|.ref (zh4 s.heap l m).objs.size) {s with heap:=zh5 s.heap l m}) :=
 .of_wp λprog w A R s h=>by
  let⟨hp,g,d,tk,os⟩:=s;let⟨r1,r2,q⟩:=h;have hsub:=sub_zip;have c1:Heap.IsTuple (Shared.heap ⟨hp,g,d,tk,os⟩) l xs:=r1;have c2:Heap.IsTuple (Shared.heap ⟨hp.push {cls:=.type "tuple_iterator",data:=.fields #[.ref l,.int 0 0]},g,d,tk,os⟩) m ys:=IsTuple.push' r2 _
  wp_walk using ſ c1,ſ c2
  exact⟨_,rfl,q⟩
variable {w:ü}
def OY{prog:ä}{A:ċ}{E:Ã->Å->Prop}{s:Å}{m:Ç}{ys:Array Ã}{Q:Ã->Å->Prop}(r1:s.heap.IsTuple l xs)(r2:s.heap.IsTuple m ys)
  (q:∀g,Θ g (s.heap.objs.size+4) (s.heap.objs.size+2) (s.heap.objs.size+3) .none->Ŋ g (s.heap.objs.size+2) (.ref s.heap.objs.size) (.ref<|s.heap.objs.size+1)->Ŋ g (s.heap.objs.size+3) .none .none->
    g.IsTupleIter s.heap.objs.size l 0->g.IsTupleIter (s.heap.objs.size+1) m 0->(∀c o,s.heap.get? c=df o->g.get? c=df o)->Q (.ref<|s.heap.objs.size+4) { s with heap:=g }):wpAny (Û prog w) A (call (.type "zip") [.ref l,.ref m]) Q E s:=by
 refine callType_new F.called_zip (by decide) (F.typeCall_zip_2 _ _) (F.newCall_zip_2 _ _) (λobj=>F.args_object_init_3 obj _ _) F.entry_zip_new (MR l m xs ys) ⟨r1,r2,?_⟩;have s1:(zh1 s.heap l).objs.size=s.heap.objs.size+1:=ħ ..;have s2:(zh2 s.heap l m).objs.size=s.heap.objs.size+2:=by rw[ħ,s1]
 have s3:(zh3 s.heap l m).objs.size=s.heap.objs.size+3:=by rw[ħ,s2]
 have s4:(zh4 s.heap l m).objs.size=s.heap.objs.size+4:=by rw[ħ,s3]
 have f5:(zh5 s.heap l m).get? (zh4 s.heap l m).objs.size=df _:=Ö _ rfl;have f4:(zh5 s.heap l m).get? (zh3 s.heap l m).objs.size=df _:=Ä _<|Ö _ rfl;have f3:(zh5 s.heap l m).get? (zh2 s.heap l m).objs.size=df _:=Ä _<|Ä _<|Ö _ rfl;have f2:(zh5 s.heap l m).get? (zh1 s.heap l).objs.size=df _:=Ä _<|Ä _<|Ä _<|Ö _ rfl;have f1:(zh5 s.heap l m).get? s.heap.objs.size=df _:=Ä _<|Ä _<|Ä _<|Ä _<|Ö _ rfl;show _/\_;rw[s2,s3,s4]at f5;rw[s1,s2]at f3;rw[s3]at f4;rw[s1]at f2;rw[s4];exact⟨⟨_,f5,rfl⟩,q _ f5 f3 f4 ⟨_,f1,rfl,rfl⟩ ⟨_,f2,rfl,rfl⟩ λc o b=>Ä _<|Ä _<|Ä _<|Ä _<|Ä _ b⟩
abbrev Ity(K:Frag)(a b:Ç):It :=
 ⟨λi H=>∃xs ys x y,eZ K H a xs/\eZ K H b ys/\xs[i]?=df x/\ys[i]?=df y,
  λi H v H'=>∃p,v=.ref p/\H p=dg/\∀xs ys x y,eZ K H a xs->eZ K H b ys->xs[i]?=df x->ys[i]?=df y->H'=upd H p (.tup [x,y]),
  λi H=>∃xs ys,eZ K H a xs/\eZ K H b ys/\(xs.length<=i\/ys.length<=i)⟩
abbrev ZSy(z TI TO i1 i2 a b:Ç)(i:Nat)(h:ù):Prop:=Θ h z TI TO .none/\Ŋ h TI (.ref i1) (.ref i2)/\(∃u v,Ŋ h TO u v)/\h.IsTupleIter i1 a i/\h.IsTupleIter i2 b i
variable {z:Ç} {i1:Ç} {i2:Ç} {a:Ç} {b:Ç} {i:Nat}
def ZSy.keep{TI TO:Ç}{h':ù}(st:ZSy z TI TO i1 i2 a b i h)(k:∀c∈[z,TI,TO,i1,i2],∀o,h.get? c=df o->h'.get? c=df o):ZSy z TI TO i1 i2 a b i h':=by let⟨h1,h2,⟨u,v,h3⟩,h4,h5⟩:=st;exact⟨k z (by simp) _ h1,k TI (by simp) _ h2,⟨u,v,k TO (by simp) _ h3⟩,h4.at λo q=>k i1 (by simp) o q,h5.at λo q=>k i2 (by simp) o q⟩
def ZSy.obj{TI TO:Ç}(st:ZSy z TI TO i1 i2 a b i h):∀c∈[z,TI,TO,i1,i2],∃o,h.get? c=df o/\∀v,o.data≠.cell v:=by
 let⟨h1,h2,⟨u,v,h3⟩,⟨o4,e4,c4,d4⟩,⟨o5,e5,c5,d5⟩⟩:=st;intro c hc;simp![Æ,Õ,or_false]at hc;rcases hc with rfl|rfl|rfl|rfl|rfl
 .exact⟨_,h1,λv z=>by cases z⟩
 .exact⟨_,h2,λv z=>by cases z⟩
 .exact⟨_,h3,λv z=>by cases z⟩
 .exact⟨_,e4,λv z=>by rw[d4]at z;cases z⟩
 .exact⟨_,e5,λv z=>by rw[d5]at z;cases z⟩
variable {es:List Expr} {kk:Nat} {tp:Pos}
def OQ{P:ä}{K:Frag}(a b z TI TO i1 i2:Ç)(hnd:[z,TI,TO,i1,i2].Nodup) :
  Turn P w K (.Tuple es kk tp) (Ity K a b) [z,TI,TO,i1,i2] z (λi h=>ZSy z TI TO i1 i2 a b i h/\(∀c∈[z,TI,TO,i1,i2],a≠c/\b≠c)) where
 mem:=by simp
 obj:=λi h st c hc=>ZSy.obj st.1 c hc
 keep:=λi h h' st k=>⟨ZSy.keep st.1 k,st.2⟩
 item:=by
  k_sub;subst hP hw hK;let⟨st,cM⟩:=st;let⟨xs,ys,x,y,av,Ϲ,hx,hy⟩:=hg;let⟨bb,rv1,pl1,hz1⟩:=I.tuple av;let⟨Κ,rv2,pl2,hz2⟩:=I.tuple Ϲ;let⟨u1,hu1,ru1⟩:=rv1.get hx;let⟨u2,hu2,ru2⟩:=rv2.get hy;have hnd':=hnd;simp![Ā,Æ,Õ,or_false,not_or]at hnd';let⟨⟨n1,n2,n3,n4⟩,⟨n5,n6,n7⟩,⟨n8,n9⟩,n10,_⟩:=hnd';have D:aj z TI TO i1 i2 a b:=by constructor<;>first|exact Ne.symm (by assumption)|assumption|exact(cM _<|by simp).1|exact(cM _<|by simp).2
  have nT:∀c∈[z,TI,TO,i1,i2],s.heap.objs.size≠c:=λc Ž q=>by let⟨o,e,_⟩:=ZSy.obj st c Ž;exact fA (Ô e) (by rw[<-q];exact ģ _)
  let⟨h1,h2,⟨o1,o2,h3⟩,h4,h5⟩:=st;have hT:s.TypeIs (.ref z) "zip":=⟨_,h1,rfl⟩
  have bp:=I.fpOk (H':=H) (Ê s.heap.objs.size) I.fresh;unfold ό;refine À (wpAny_attempt<|Ġ (name:=fE "__next__") hT F.slot_zip_next<|Ī F.slot_zip_next hT F.entry_zip_next (UT D h1 h2 h3 h4 h5 (show s.heap.IsTuple a bb.toArray from pl1) (show s.heap.IsTuple b Κ.toArray from pl2) (x:=u1) (y:=u2) ⇑hu1 ⇑hu2 λh' a1 a2 a3 a4 a5 a7=>Ë ?_)<|F.args_zip_next_1 _);refine⟨.ref s.heap.objs.size,rfl,bO a1 λcx b1 b2=>?_⟩;have I4:Inv X Â σ H {s with heap:=cx,toks:=s.toks}:=I.turnedL (t':=s.toks) (ch:=[z,TI,TO,i1,i2]) (λc o Ž q=>b2.extBut c o (λe=>Ž<|by simp[e])<|a7 c o (λe=>Ž<|by simp[e]) (λe=>Ž<|by simp[e]) (λe=>Ž<|by simp[e]) (λe=>Ž<|by simp[e]) q) hf;have hT4:Ŋ cx s.heap.objs.size u1 u2:=b2.extBut _ _ (nT z<|by simp) a5;let⟨f0,f1,f2,f3,f4,f5⟩:=bp;have I5:Inv X Â σ (upd H s.heap.objs.size<|.tup [x,y]) {s with heap:=cx,toks:=s.toks}:=I4.track f0 I.sz f1 f4 f5 ⟨by show 2<=Ø;decide,[u1,u2],.cons ru1<|.cons ru2 .nil,_,hT4,rfl,_,rfl⟩;refine⟨.ref s.heap.objs.size,_,I5,rfl,⟨s.heap.objs.size,rfl,f0,λxs' ys' x' y' q1 q2 q3 q4=>?_⟩,⟨⟨b1,b2.extBut _ _ D.TIz<|a7 TI _ D.TIz D.TITO D.TIi1 D.TIi2 h2,⟨u1,u2,b2.extBut _ _ D.TOz a2⟩,a3.at λo q=>b2.extBut i1 o D.i1z q,a4.at λo q=>b2.extBut i2 o D.i2z q⟩,cM⟩,λc Ž=>?_⟩
  .have e1:xs'=xs:=I.tuple_inj q1 av;have e2:ys'=ys:=I.tuple_inj q2 Ϲ;subst e1 e2;rw[hx]at q3;rw[hy]at q4;cases q3;cases q4;rfl
  .rw[dj (nT c Ž).symm];exact(hf c Ž).1
 done:=by
  k_sub;subst hP hw hK;let⟨st,cM⟩:=st;let⟨xs,ys,av,Ϲ,hend⟩:=hg;let⟨bb,rv1,pl1,hz1⟩:=I.tuple av;let⟨Κ,rv2,pl2,hz2⟩:=I.tuple Ϲ;have hl1:=rv1.length;have hl2:=rv2.length;have hnd':=hnd;simp![Ā,Æ,Õ,or_false,not_or]at hnd';let⟨⟨n1,n2,n3,n4⟩,⟨n5,n6,n7⟩,⟨n8,n9⟩,n10,_⟩:=hnd';have D:aj z TI TO i1 i2 a b:=by constructor<;>first|exact Ne.symm (by assumption)|assumption|exact(cM _<|by simp).1|exact(cM _<|by simp).2
  let⟨h1,h2,⟨o1,o2,h3⟩,h4,h5⟩:=st;have hT:s.TypeIs (.ref z) "zip":=⟨_,h1,rfl⟩
  unfold ό;refine À (wpAny_attempt<|Ġ (name:=fE "__next__") hT F.slot_zip_next<|Ī F.slot_zip_next hT F.entry_zip_next (BK (A:=X.A.in1) (I.ok.hd hc) D h1 h2 h3 h4 h5 (show s.heap.IsTuple a bb.toArray from pl1) (show s.heap.IsTuple b Κ.toArray from pl2) ?_ λh' e hk he=>?_)<|F.args_zip_next_1 _)
  .rcases hend with e|e
   .left;simp;lia
   .right;simp;lia
  .obtain⟨o,ho,bK⟩:=he;exact À (wpAny_isInstance (T:="StopIteration") (b:=dh) ⟨o,ho,bK⟩ isSubtype_stop<|Ë ⟨rfl,I.turnedL (t':=s.toks) (ch:=[z,TI,TO,i1,i2]) (λc o Ž q=>hk c o (λe=>Ž<|by simp[e]) (λe=>Ž<|by simp[e]) (λe=>Ž<|by simp[e]) (λe=>Ž<|by simp[e]) q) hf⟩)
 self:=λA i s Q E st h=>Ι st.1.1 h
section
variable {X:Cx}
abbrev Ly(K:Frag)(ta:TA):TI:=λσ H R=>ta σ H λvs H1=>∃a b,vs=[.ref a,.ref b]/\(((∃xs,eY K H1 a xs)/\(∃ys,eY K H1 b ys)/\R (Itz K a b) H1)\/((∃xs,eZ K H1 a xs)/\(∃ys,eZ K H1 b ys)/\R (Ity K a b) H1))
def Eb{p ç:Pos}{e e2:Expr}{ta:TA}(hg:Gl X "zip")(hm:X.mg "zip" = dg)(ha:PA X [e,e2] ta)(hs:Ñ [e,e2] X.env=(di,eval e X.env)::Ñ [e2] X.env)(hpl:(Ĕ ç<|Ñ [e2] X.env).any (·.1)=di) :
  PI X (.Tuple es kk tp) (.Call (.Name "zip" p) [e,e2] [] ç) (Ly X.K ta):=by
 intro Â s σ H R I h;refine Call_ (YF (u:=.type "zip") I hg hm (by kernel_rfl)<|PyProof.Rows.callWith_type1 (T:="zip") (thn (ha ç Â s σ H _ I h) λus s1 ⟨vs,H1,I1,r1,q1⟩=>?_) hs hpl);let⟨a,b,e1,q1⟩:=q1;subst e1;cases r1 with
 |cons ra rt =>
 cases rt with
 |cons rb rt =>
 cases rt;cases ra;cases rb;have far:∀c∈[s1.heap.objs.size+4,s1.heap.objs.size+2,s1.heap.objs.size+3,s1.heap.objs.size,s1.heap.objs.size+1],s1.heap.objs.size<=c:=λc hc=>by
  simp![Æ,Õ,or_false]at hc;rcases hc with rfl|rfl|rfl|rfl|rfl
  .exact ο _ _
  .exact ο _ _
  .exact ο _ _
  .exact Ê _
  .exact ο _ _
 rcases q1 with⟨⟨xs,av⟩,⟨ys,Ϲ⟩,q⟩|⟨⟨xs,av⟩,⟨ys,Ϲ⟩,q⟩
 .obtain⟨bb,rv1,pl1,hz1⟩:=I1.list av;let⟨Κ,rv2,pl2,hz2⟩:=I1.list Ϲ;refine call_zip_2 pl1.isList pl2.isList λh2 a1 a2 a3 a4 a5 a6 a7=>?_;have I2:Inv X Â σ H1 {s1 with heap:=h2}:=I1.kept (t':=s1.toks) a7;exact Ι a1 ⟨s1.heap.objs.size+4,[s1.heap.objs.size+4,s1.heap.objs.size+2,s1.heap.objs.size+3,s1.heap.objs.size,s1.heap.objs.size+1],_,_,H1,rfl,I2,BY a b _ _ _ _ _ (by simp),⟨a1,a2,⟨_,_,a3⟩,a4,a5⟩,λc hc=>I1.fpOk (far c hc)<|I1.hok.fresh<|far c hc,q⟩
 .obtain⟨bb,rv1,pl1,hz1⟩:=I1.tuple av;let⟨Κ,rv2,pl2,hz2⟩:=I1.tuple Ϲ;have lt1:a<s1.heap.objs.size:=by let⟨o,e,_⟩:=pl1;exact Ô e
  have lt2:b<s1.heap.objs.size:=by let⟨o,e,_⟩:=pl2;exact Ô e
  refine OY (show s1.heap.IsTuple a bb.toArray from pl1) (show s1.heap.IsTuple b Κ.toArray from pl2) λh2 a1 a2 a3 a4 a5 a7=>?_;have I2:Inv X Â σ H1 {s1 with heap:=h2}:=I1.kept (t':=s1.toks) a7;exact Ι a1 ⟨s1.heap.objs.size+4,[s1.heap.objs.size+4,s1.heap.objs.size+2,s1.heap.objs.size+3,s1.heap.objs.size,s1.heap.objs.size+1],_,_,H1,rfl,I2,OQ a b _ _ _ _ _ (by simp),⟨⟨a1,a2,⟨_,_,a3⟩,a4,a5⟩,λc hc=>⟨è<|ß lt1<|far c hc,è<|ß lt2<|far c hc⟩⟩,λc hc=>I1.fpOk (far c hc)<|I1.hok.fresh<|far c hc,q⟩
end
section
variable {κ:Type} [DecidableEq κ]
abbrev Yk(kvs:List<|κ×V)(k:κ):Option V:=(kvs.find? λkv=>fB (kv.1=k)).map (·.2)
abbrev dQ(kvs:List<|κ×V)(k:κ)(v:V):List (κ×V) :=
 if(kvs.any λkv=>fB (kv.1=k))=dh then kvs.map (λkv=>if kv.1=k then(kv.1,v)else kv)else kvs++[(k,v)]
abbrev dR(kvs:List<|κ×V)(k:κ):List<|κ×V:=kvs.filter λkv=>fB (kv.1≠k)
variable {p:κ×V} {r:List (κ×V)}
def YN{k:κ}(e:p.1=k):Yk (p::r) k=df p.2:=by simp[Yk,Ē,e]
def YG{k:κ}(e:¬ p.1=k):Yk (p::r) k=Yk r k:=by simp[Yk,Ē,e]
def YK(k:κ):∀kvs:List<|κ×V,(kvs.any λkv=>fB (kv.1=k))=(Yk kvs k).isSome
 |[]=>rfl
 |p::r=>by
  rw[Ģ];by_cases e:p.1=k
  .simp![YN e,fw e,Bool.true_or,Option.isSome_some]
  .rw[YG e,ft e,Bool.false_or];exact YK k r
def YU(kvs:List<|κ×V)(k:κ)(v:V):(dQ kvs k v).length<=kvs.length+1:=by
 unfold dQ;split
 .rw[Á];lia
 .rw[Þ,Î,ľ];lia
variable {o:Option V} {u:Option Ã}
def dU.isSome_eq(r:dU o u):o.isSome=u.isSome:=by
 cases o with
 |none=>cases u with
  |none=>rfl
  |some _=>exact(show False from r).elim
 |some _=>cases u with
  |none=>exact(show False from r).elim
  |some _=>rfl
def dU.getD{d:V}{d':Ã}(r:dU o u)(rd:RelV d d'):RelV (o.getD d)<|u.getD d':=by
 cases o with
 |none=>cases u with
  |none=>exact rd
  |some _=>exact(show False from r).elim
 |some _=>cases u with
  |none=>exact(show False from r).elim
  |some _=>exact r
variable {kvs:List (κ×V)} {vs:List (κ×Ã)}
def KV.val(r:KV kvs vs)(k:κ):dU (Yk kvs k)<|Ξ vs k:=by
 unfold KV at r;induction r with
 |nil=>exact True.intro
 |@cons p q ps qs h t ih =>
  let⟨h1,h2⟩:=h;by_cases e:p.1=k
  .have e':q.1=k:=h1.symm.trans e;have b:Ξ (q::qs) k=df q.2:=by simp[Ξ,Ē,e']
   rw[YN e,b];exact h2
  .have e':¬ q.1=k:=λz=>e<|h1.trans z;have b:Ξ (q::qs) k=Ξ qs k:=by simp[Ξ,Ē,e']
   rw[YG e,b];exact ih
def KV.any(r:KV kvs vs)(k:κ):(kvs.any λkv=>fB (kv.1=k))=vs.any λkv=>fB (kv.1=k):=by
 unfold KV at r;induction r with
 |nil=>rfl
 |cons h t ih=>rw[Ģ,Ģ,ih,h.1]
variable {y:V}
def KV.repl(r:KV kvs vs)(k:κ){u:Ã}(ry:RelV y u) :
  KV (kvs.map λkv=>if kv.1=k then(kv.1,y)else kv) (vs.map λkv=>if kv.1=k then(kv.1,u)else kv):=by
 unfold KV at r ⊢;induction r with
 |nil=>exact .nil
 |@cons p q ps qs h t ih =>
  rw[È,È];refine .cons ?_ ih;let⟨h1,h2⟩:=h;by_cases e:p.1=k
  .rw[fm e,fm<|h1.symm.trans e];exact⟨h1,ry⟩
  .rw[fo e,fo λz=>e<|h1.trans z];exact⟨h1,h2⟩
def KV.put(r:KV kvs vs)(k:κ){u:Ã}(ry:RelV y u):KV (dQ kvs k y)<|stored vs k u:=by
 unfold dQ stored;rw[r.any k];by_cases e:(vs.any λkv=>fB (kv.1=k))=dh
 .rw[fm e,fm e];exact r.repl k ry
 .rw[fo e,fo e];exact Paired.snoc r ⟨rfl,ry⟩
def KV.drop(r:KV kvs vs)(k:κ):KV (dR kvs k)<|without vs k:=by
 unfold KV at r ⊢;unfold dR without;induction r with
 |nil=>exact .nil
 |@cons p q ps qs h t ih =>
  let⟨h1,h2⟩:=h;rw[ĉ,ĉ];by_cases e:p.1=k
  .have a:¬ fB (p.1≠k)=dh:=by simp[e]
   have b:¬ fB (q.1≠k)=dh:=by simp[h1.symm.trans e]
   rw[fo a,fo b];exact ih
  .have e':¬ q.1=k:=λz=>e<|h1.trans z;have a:fB (p.1≠k)=dh:=by simp[e]
   have b:fB (q.1≠k)=dh:=by simp[e']
   rw[fm a,fm b];exact .cons ⟨h1,h2⟩ ih
def KV.keys(r:KV kvs vs):kvs.map (·.1)=vs.map (·.1):=by
 unfold KV at r;induction r with
 |nil=>rfl
 |cons h t ih=>rw[È,È,ih,h.1]
def KV.length(r:KV kvs vs):kvs.length=vs.length:=Paired.length r
def BG(kvs:List<|κ×V)(k:κ):(dR kvs k).length<=kvs.length:=Ł _ _
end
variable {P:ä} {w:ü} {u:Ã}
def Xs{k:Key}(r:RelV (kV k) u):(Zj P w).is k u=dh:=by
 cases k with
 |inl i=>let⟨t,e⟩:=(show ∃t,u=Value.int i t from r);subst e;exact Mr P w i t
 |inr x=>let⟨t,e⟩:=(show ∃t,u=Value.str x t from r);subst e;exact KU P w x t
def JO{P:ä}{w:ü}:∀{ks:List Key}{us:List Ã},fc (ks.map kV) us->ItemsAre (Zj P w) ks us
 |[],_,r=>by rw[đ]at r;cases r;exact .nil
 |k::ks,_,r=>by
  rw[È]at r;cases r with
  |cons h t=>exact .cons (Xs h)<|JO t
@[reducible] noncomputable def KTd(H:Hp):List (List Key×V)->List (List Key×Ç×Ã)->Prop:=Paired λp q=>p.1=q.1/\H q.2.1=df (.tup<|p.1.map kV)/\RelV p.2 q.2.2
variable {H:Hp} {kvs:List (List Key×V)} {xs:List (List Key×Ç×Ã)}
def KTd.val(r:KTd H kvs xs)(k:List Key):dU (Yk kvs k) ((bz xs k).map (·.2)):=by
 induction r with
 |nil=>exact True.intro
 |@cons p q ps qs h t ih =>
  let⟨h1,_,h2⟩:=h;by_cases e:p.1=k
  .have e':q.1=k:=h1.symm.trans e;have b:bz (q::qs) k=df q.2:=by simp[bz,Ē,e']
   rw[YN e,b];exact h2
  .have e':¬ q.1=k:=λz=>e<|h1.trans z;have b:bz (q::qs) k=bz qs k:=by simp[bz,Ē,e']
   rw[YG e,b];exact ih
variable {y:V}
def KTd.repl(r:KTd H kvs xs)(k:List Key)(ry:RelV y u) :
  KTd H (kvs.map λkv=>if kv.1=k then(kv.1,y)else kv) (xs.map<|putAt k u):=by
 induction r with
 |nil=>exact .nil
 |@cons p q ps qs h t ih =>
  rw[È,È];refine .cons ?_ ih;let⟨h1,h2,h3⟩:=h;unfold putAt;by_cases e:p.1=k
  .rw[fm e,fm<|h1.symm.trans e];exact⟨h1,h2,ry⟩
  .rw[fo e,fo λz=>e<|h1.trans z];exact⟨h1,h2,h3⟩
variable {b:Ç}
def KTd.put(r:KTd H kvs xs)(k:List Key)(hb:H b=df (.tup<|k.map kV))(ry:RelV y u) :
  KTd H (dQ kvs k y) (storedH xs k b u):=by
 have e:(kvs.any λkv=>fB (kv.1=k))=(bz xs k).isSome:=by rw[YK,(r.val k).isSome_eq,ŀ]
 unfold dQ storedH;rw[e];by_cases q:(bz xs k).isSome=dh
 .rw[fm q,fm q];exact r.repl k ry
 .rw[fo q,fo q];exact Paired.snoc r ⟨rfl,hb,ry⟩
variable {H':Hp}
def KTd.keeps(r:KTd H kvs xs)(ht:∀b ys,H b=df (.tup ys)->H' b=df (.tup ys)):KTd H' kvs xs :=
 Paired.mapP r λ_ _ z=>⟨z.1,ht _ _ z.2.1,z.2.2⟩
section
variable {P:ä}{w:ü}{H:Hp}{h:ù}{a:Ç}
def EX{u:HO}(ok:HOk P w H h)(e:Rd H a u):dC P w H h a u:=e.ok ok
def Xp{kvs:List (Key×V)}(ok:HOk P w H h)(e:Rd H a<|.dK kvs):kvs.length<=Ø/\(a==Ń)=di/\∃vs,KV kvs vs/\h.DictOf (Zj P w) a vs :=
 show dC P w H h a (.dK kvs) from EX ok e
def WZ{kvs:List (Key×V)}(ok:HOk P w H h)(e:H a=df (.dK kvs)):kvs.length<=Ø/\(a==Ń)=di/\∃vs,KV kvs vs/\h.DictOf (Zj P w) a vs:=Xp ok (.inl e)
def dI{ks:List Key}(ok:HOk P w H h)(e:H a=df (.tup<|ks.map kV)):(ϑ<|Zj P w).is h ks a:=by
 let⟨_,ð,r,o,h1,h2,n,h3⟩:=(show dC P w H h a (.tup<|ks.map kV) from ok a _ e)
 exact⟨o,ð.toArray,n,h1,h2,h3,by simpa using JO r⟩
def WK(ok:HOk P w H h)(e:Rd H a<|.dT kvs):kvs.length<=Ø/\(a==Ń)=di/\
  ∃xs,KTd H kvs xs/\h.DictOfH (ϑ<|Zj P w) a xs:=by
 let⟨z,y,xs,r,o,es,ep,h1,h2,h3,h4,h5⟩:=(show dC P w H h a (.dT kvs) from EX ok e)
 refine⟨z,y,xs,r,o,es,ep,h1,h2,h3,h4,λx hx=>?_,h5⟩;have all:∀{l:List (List Key×V)}{m:List (List Key×Ç×Ã)},KTd H l m->∀x∈m,(ϑ<|Zj P w).is h x.1 x.2.1:=by
  intro l m q;induction q with
  |nil=>intro x hx;exact nomatch hx
  |@cons p q ps qs hq t ih =>
   intro x hx;rcases Æ.mp hx with e|hx
   .subst e;exact dI ok (by rw[<-hq.1];exact hq.2.1)
   .exact ih x hx
 exact all r x hx
def Le(ok:HOk P w H h)(e:H a=df (.dT kvs)):kvs.length<=Ø/\(a==Ń)=di/\
  ∃xs,KTd H kvs xs/\h.DictOfH (ϑ<|Zj P w) a xs:=WK ok<|.inl e
end
abbrev DGet(H:Hp)(a:Ç)(y:V)(r:Option V):Prop :=
 (∃kvs k,Rd H a (.dK kvs)/\y=kV k/\r=Yk kvs k)\/∃kvs k b,Rd H a (.dT kvs)/\y=.ref b/\H b=df (.tup<|k.map kV)/\r=Yk kvs k
abbrev DPut(H:Hp)(a:Ç)(y v:V)(H':Hp):Prop :=
 (∃kvs k,H a=df (.dK kvs)/\y=kV k/\kvs.length<Ø/\H'=upd H a (.dK<|dQ kvs k v))\/
 ∃kvs k b,H a=df (.dT kvs)/\y=.ref b/\H b=df (.tup<|k.map kV)/\kvs.length<Ø/\H'=upd H a (.dT<|dQ kvs k v)
def DGet.k{H:Hp}{a:Ç}{kvs:List (Key×V)}{k:Key}(e:H a=df (.dK kvs)):DGet H a (kV k)<|Yk kvs k:=.inl ⟨kvs,k,.inl e,rfl,rfl⟩
variable {a:Ç}
def DGet.t{k:List Key}(e:H a=df (.dT kvs))(eb:H b=df (.tup<|k.map kV)):DGet H a (.ref b)<|Yk kvs k:=.inr ⟨kvs,k,b,.inl e,rfl,eb,rfl⟩
def DPut.k{H:Hp}{a:Ç}{kvs:List (Key×V)}{k:Key}{v:V}(e:H a=df (.dK kvs))(hl:kvs.length<Ø):DPut H a (kV k) v<|upd H a<|.dK<|dQ kvs k v:=.inl ⟨kvs,k,e,rfl,hl,rfl⟩
def DPut.t{k:List Key}{v:V}(e:H a=df (.dT kvs))(eb:H b=df (.tup<|k.map kV))(hl:kvs.length<Ø) :
  DPut H a (.ref b) v (upd H a<|.dT<|dQ kvs k v):=.inr ⟨kvs,k,b,e,rfl,eb,hl,rfl⟩
section
variable {X:Cx}{Â:List (Ç×Obj)}{σ:St}{H:Hp}{s:Å}{a:Ç}{y v:V}{u r:Ã}{o:Option V}{A:ċ}{E:Ã->Å->Prop}
def Inv.big(I:Inv X Â σ H s):Ń<s.heap.objs.size:=by have h:þ<s.heap.objs.size:=(I.mod.glob.keeps I.bk).lt;exact ϝ (by decide) h
variable {Q:Ã->Å->Prop}
def OX(hu:A.units+1<ğ)(I:Inv X Â σ H s)(g:DGet H a y<|df v)(ry:RelV y u)(h:∀w' s',Inv X Â σ H s'->RelV v w'->Q w' s') :
  wpAny (Û X.prog X.w) A (ϓ (.ref a) u) Q E s:=by
 rcases g with⟨kvs,k,e,ey,l⟩|⟨kvs,k,b,e,ey,eb,l⟩
 .subst ey;let⟨z,hd,vs,Ŗ,dd⟩:=Xp I.hok e;let⟨w',hw,aJ⟩:=dU.some_of (v:=v) (o:=Ξ vs k) (by rw[l];exact Ŗ.val k);exact wpAny_getItem_of (Xs ry) dd.mapOf hw<|h w' _ (I.tok _) aJ
 .subst ey;cases (show u=Value.ref b from ry);let⟨z,hd,xs,Ŗ,dd⟩:=WK I.hok e;let⟨w',hw,aJ⟩:=dU.some_of (v:=v) (o:=(bz xs k).map (·.2)) (by rw[l];exact Ŗ.val k);let⟨p,hp,hp2⟩:=á.mp hw;refine wpAny_getItem_heap (ř hu) (dI I.hok eb) dd hp ?_;rw[hp2];exact h w' _ (I.tok _) aJ
def Py(hu:A.units+1<ğ)(I:Inv X Â σ H s)(g:DGet H a y o)(ry:RelV y u)(h:∀s',Inv X Â σ H s'->Q (.bool o.isSome) s') :
  wpAny (Û X.prog X.w) A (ê .In u<|.ref a) Q E s:=by
 rcases g with⟨kvs,k,e,ey,l⟩|⟨kvs,k,b,e,ey,eb,l⟩
 .subst ey;let⟨z,hd,vs,Ŗ,dd⟩:=Xp I.hok e;refine wpAny_in_of (Xs ry) hd dd.mapOf ?_;rw[<-(Ŗ.val k).isSome_eq,<-l];exact h _<|I.tok _
 .subst ey;cases (show u=Value.ref b from ry);let⟨z,hd,xs,Ŗ,dd⟩:=WK I.hok e;refine wpAny_in_heap (ř hu) (dI I.hok eb) hd dd ?_;have q:=(Ŗ.val k).isSome_eq;rw[ŀ]at q;rw[<-q,<-l];exact h _<|I.tok _
def CN(hu:A.units+1<ğ)(I:Inv X Â σ H s)(g:DGet H a y o)(ry:RelV y u)(h:∀s',Inv X Â σ H s'->Q (.bool (!o.isSome)) s') :
  wpAny (Û X.prog X.w) A (ê .NotIn u<|.ref a) Q E s:=by
 rcases g with⟨kvs,k,e,ey,l⟩|⟨kvs,k,b,e,ey,eb,l⟩
 .subst ey;let⟨z,hd,vs,Ŗ,dd⟩:=Xp I.hok e;refine wpAny_notIn_of (Xs ry) hd dd.mapOf ?_;rw[<-(Ŗ.val k).isSome_eq,<-l];exact h _<|I.tok _
 .subst ey;cases (show u=Value.ref b from ry);let⟨z,hd,xs,Ŗ,dd⟩:=WK I.hok e;refine wpAny_notIn_heap (ř hu) (dI I.hok eb) hd dd ?_;have q:=(Ŗ.val k).isSome_eq;rw[ŀ]at q;rw[<-q,<-l];exact h _<|I.tok _
variable {h':ù}
def X6{t':Nat}{ob:HO}(I:Inv X Â σ H s)(mu:Mut<|H a)(hs:Ũ a s.heap h')(he:∃q,h'.get? a=df q)(new:dC X.prog X.w (upd H a ob) h' a ob) :
  Inv X Â σ (upd H a ob) {s with heap:=h',toks:=t'} :=
 I.write (x:=a) (e:=a) mu (.inl rfl) (λb q hb z=>(hs.2 b hb).trans z) he new
def MT{kvs:List (Key×V)}{vs:List (Key×Ã)}(z:kvs.length<=Ø)(hd:(a==Ń)=di)(Ŗ:KV kvs vs)(dd:h'.DictOf (Zj P w) a vs) :
  dC P w H' h' a (.dK kvs):=⟨z,hd,vs,Ŗ,dd⟩
def Uk{Q:Unit->Å->Prop}(hu:A.units+1<ğ)(I:Inv X Â σ H s)(g:DPut H a y v H')(ry:RelV y u)(rv:RelV v r)(h:∀s',Inv X Â σ H' s'->Q () s') :
  wpAny (Û X.prog X.w) A (setItem (.ref a) u r) Q E s:=by
 rcases g with⟨kvs,k,e,ey,l,eH⟩|⟨kvs,k,b,e,ey,eb,l,eH⟩
 .subst ey eH;let⟨z,hd,vs,Ŗ,dd⟩:=WZ I.hok e;have hz:vs.length<=Ø:=by rw[<-Ŗ.length];exact z
  have hl:(dQ kvs k v).length<=Ø:=by have:=YU kvs k v;lia
  refine wpAny_setItem_pairs (hsz:=hz) (Xs ry) dd λh' dd' hs=>h _ ?_;have he:∃q,h'.get? a=df q:=let ⟨q,_,_,hq,_⟩:=dd';⟨q,hq⟩;exact X6 I (by rw[e];exact True.intro) hs he<|MT hl hd (Ŗ.put k rv) dd'
 .subst ey eH;cases (show u=Value.ref b from ry);let⟨z,hd,xs,Ŗ,dd⟩:=Le I.hok e;have hz:xs.length<=Ø:=by rw[<-Paired.length Ŗ];exact z
  have hl:(dQ kvs k v).length<=Ø:=by have:=YU kvs k v;lia
  refine wpAny_setItem_heap (hsz:=hz) (ř hu) (dI I.hok eb) dd λh' dd' hs=>h _ ?_;let⟨q,es,ep,hq,h2,h3,h4,_,h5⟩:=dd';refine X6 I (by rw[e];exact True.intro) hs ⟨q,hq⟩ ⟨hl,hd,_,(Ŗ.put k eb rv).keeps λc ys ec=>?_,q,es,ep,hq,h2,h3,h4,h5⟩;rw[dj<|IU ec e λz=>nomatch z];exact ec
end
section
variable {X:Cx}{Â:List (Ç×Obj)}{σ:St}{H:Hp}{s:Å}{a:Ç}{kvs:List (Key×V)}{k:Key}{u:Ã}{A:ċ}{E:Ã->Å->Prop}
variable {Q:Ã->Å->Prop}
def E3{v:V}{more:List Ã}(I:Inv X Â σ H s)(e:H a=df (.dK kvs))(ry:RelV (kV k) u)(l:Yk kvs k=df v)(hm:more=[]\/∃x,more=[x])
  (h:∀w' s',Inv X Â σ (upd H a<|.dK<|dR kvs k) s'->RelV v w'->Q w' s'):wpAny (Û X.prog X.w) A (call (.builtin "dict.pop")<|.ref a::u::more) Q E s:=by
 let⟨z,hd,vs,Ŗ,dd⟩:=WZ I.hok e;let⟨w',hw,aJ⟩:=dU.some_of (v:=v) (o:=Ξ vs k) (by rw[<-l];exact Ŗ.val k);have hp:(keyPart u).isSome=dh:=by
  cases k with
  |inl i=>let⟨t,q⟩:=(show ∃t,u=Value.int i t from ry);subst q;rfl
  |inr x=>let⟨t,q⟩:=(show ∃t,u=Value.str x t from ry);subst q;rfl
 have ha:argsOk "dict.pop" ⟨.ref a::u::more,[]⟩:=by
  rcases hm with q|⟨x,q⟩
  .subst q;exact PySem.F.args_dict_pop_2 _ _
  .subst q;exact PySem.F.args_dict_pop_3 _ _ _
 refine Ο PySem.F.slot_dict_pop dd.typeIs PySem.F.entry_dict_pop ha (meets_dict_pop_there (Zj X.prog X.w) a (Xs ry) more hm hp)
  ⟨vs,w',dd,by rw[<-Ŗ.length];exact z,hw,λh' dd' hs=>h w' _ ?_ aJ⟩
 have he:∃q,h'.get? a=df q:=let ⟨q,_,_,hq,_⟩:=dd';⟨q,hq⟩;exact X6 I (by rw[e];exact True.intro) hs he<|MT (Ü (BG kvs k) z) hd (Ŗ.drop k) dd'
def Ge{r:Ã}(I:Inv X Â σ H s)(e:H a=df (.dK kvs))(ry:RelV (kV k) u)(l:Yk kvs k=dg)(h:∀s',Inv X Â σ H s'->Q r s') :
  wpAny (Û X.prog X.w) A (call (.builtin "dict.pop") [.ref a,u,r]) Q E s:=by
 let⟨z,hd,vs,Ŗ,dd⟩:=WZ I.hok e;have hn:Ξ vs k=dg:=dU.none_of (by rw[<-l];exact Ŗ.val k);have hp:(keyPart u).isSome=dh:=by
  cases k with
  |inl i=>let⟨t,q⟩:=(show ∃t,u=Value.int i t from ry);subst q;rfl
  |inr x=>let⟨t,q⟩:=(show ∃t,u=Value.str x t from ry);subst q;rfl
 exact Ο PySem.F.slot_dict_pop dd.typeIs PySem.F.entry_dict_pop (PySem.F.args_dict_pop_3 _ _ _) (meets_dict_pop_default (Zj X.prog X.w) a (Xs ry) hd hp r) ⟨vs,dd,hn,h _<|I.tok _⟩
def HC(I:Inv X Â σ H s)(e:Rd H a<|.dK kvs)(h:∀t s',Inv X Â σ H s'->Q (.int kvs.length t) s'):wpAny (Û X.prog X.w) A (call (.builtin "len") [.ref a]) Q E s:=by let⟨z,hd,vs,Ŗ,dd⟩:=Xp I.hok e;refine call_len_dict hd dd (by rw[<-Ŗ.length];rw[Ĵ]at z;lia) ?_;rw[<-Ŗ.length];exact h _ _ (I.tok _)
end
variable {X:Cx} {Â:List (Ç×Obj)} {σ:St} {s:Å}
def MJ{o:Option V}(I:Inv X Â σ H s)(g:DGet H a y o):s.TypeIs (.ref a) "dict":=by
 rcases g with⟨kvs,k,e,_,_⟩|⟨kvs,k,b,e,_,_,_⟩
 .obtain⟨_,_,vs,_,dd⟩:=Xp I.hok e;exact dd.typeIs
 .obtain⟨_,_,xs,_,dd⟩:=WK I.hok e;exact dd.typeIs
def KQ(h:ù)(hb:Ń<h.objs.size):dC P w H (h.push {cls:=.type "dict",data:=.dict #[]}) h.objs.size (.dK []) :=
 ⟨Ĥ _,beq_eq_false_iff_ne.mpr<|Ne.symm<|è hb,[],.nil,Heap.DictOf.new h⟩
abbrev Gu:TE:=λ_ H Q=>∀p,H p=dg->Q (.ref p) (upd H p<|.dK [])
section
variable {X:Cx}{ç:Pos}
def pe_dnewK:PE X (.Dict [] [] ç) Gu:=λÂ s σ H Q I h =>
 wpAny_Dict_empty ⟨.ref s.heap.objs.size,_,I.laid (a:=s.heap.objs.size) (o:=.dK []) (t':=s.toks) (λ_ _ q=>Ä _ q) (Ê _)<|KQ s.heap I.big,rfl,h _<|I.hok.fresh<|Ê _⟩
end
abbrev KE:List (TE×TE)->St->Hp->(List (V×V)->Hp->Prop)->Prop
 |[],_,H,Q=>Q [] H
 |(tk,tv)::r,σ,H,Q=>tk σ H λx H1=>tv σ H1 λy H2=>KE r σ H2 λps H3=>Q ((x,y)::ps) H3
@[reducible] noncomputable def VV:List (V×V)->List (Ã×Ã)->Prop:=Paired λp q=>RelV p.1 q.1/\RelV p.2 q.2
abbrev PPs(X:Cx)(ç:Pos)(keys:List<|Option Expr)(η:List Expr)(trs:List<|TE×TE):Prop :=
 ∀(Â:List<|Ç×Obj) (s:Å) (σ:St) (H:Hp) (Q:List (V×V)->Hp->Prop),Inv X Â σ H s->KE trs σ H Q->
  wpAny (Û X.prog X.w) X.A (evalPairs<|pairTrees keys η X.env ç) (λvs s'=>∃ps H',Inv X Â σ H' s'/\VV ps vs/\Q ps H') X.xe s
variable {ç:Pos}
def Da:PPs X ç [] [] []:=λÂ s σ H Q I h=>pairTrees_nil_walk ⟨[],H,I,.nil,h⟩
variable {trs:List (TE×TE)}
def BR{k v:Expr}{ks:List (Option Expr)}{vs:List Expr}{tk tv:TE}(hk:PE X k tk)(hv:PE X v tv)(hr:PPs X ç ks vs trs) :
  PPs X ç (df k::ks) (v::vs) ((tk,tv)::trs):=λÂ s σ H Q I h =>
 pairTrees_cons_walk (thn (hk Â s σ H _ I h) λu s1 ⟨x,H1,I1,rx,q1⟩=>thn (hv Â s1 σ H1 _ I1 q1) λw2 s2 ⟨y,H2,I2,ry,q2⟩ =>
   thn (hr Â s2 σ H2 _ I2 q2) λws s3 ⟨ps,H3,I3,Ŗ,q3⟩=>⟨(x,y)::ps,H3,I3,.cons ⟨rx,ry⟩ Ŗ,q3⟩)
abbrev YM(kvs more:List<|Key×V):List<|Key×V:=more.foldl (λļ kv=>dQ ļ kv.1 kv.2) kvs
def KV.merge:∀{more:List (Key×V)}{rs:List (Key×Ã)}{kvs:List (Key×V)}{vs:List (Key×Ã)},KV more rs->KV kvs vs->KV (YM kvs more) (merged vs rs):=by
 intro more rs kvs vs r;unfold KV at r;induction r generalizing kvs vs with
 |nil=>intro q;exact q
 |@cons p q ps qs h t ih =>
  intro r0;have e:KV (dQ kvs p.1 p.2)<|stored vs q.1 q.2:=by have:=r0.put p.1 h.2;rw[<-h.1];exact this
  exact ih e
def Y3:∀(more kvs:List<|Key×V),(YM kvs more).length<=kvs.length+more.length
 |[],kvs=>by show kvs.length<=kvs.length+0;lia
 |p::r,kvs=>by have h1:=Y3 r<|dQ kvs p.1 p.2;have h2:=YU kvs p.1 p.2;show(YM (dQ kvs p.1 p.2) r).length<=_;rw[Î];lia
def Jh{P:ä}{w:ü}:∀{kvs:List (Key×V)}{ws:List (Ã×Ã)},VV (kvs.map λkv=>(kV kv.1,kv.2)) ws->∃rs,Carries (Zj P w) ws rs/\KV kvs rs
 |[],_,r=>by rw[đ]at r;cases r;exact⟨[],True.intro,.nil⟩
 |p::kvs,_,r=>by
  rw[È]at r;cases r with
  |@cons a b as bs h t =>let⟨rs,c,q⟩:=Jh (P:=P) (w:=w) t;let⟨b1,b2⟩:=b;exact⟨(p.1,b2)::rs,⟨Xs h.1,rfl,c⟩,.cons ⟨rfl,h.2⟩ q⟩
abbrev HV(trs:List<|TE×TE):TE:=λσ H Q=>∀p,H p=dg->KE trs σ (upd H p<|.dK []) λps H2=>H2 p=df (.dK [])/\∃kvs:List<|Key×V,ps=kvs.map (λkv=>(kV kv.1,kv.2))/\kvs.length<=15/\Q (.ref p) (upd H2 p<|.dK<|YM [] kvs)
def Er{keys:List (Option Expr)}{η:List Expr}(h:PPs X ç keys η trs)(bG:keys.all (·.isSome)=dh)(hl:keys.length=η.length)(h0:keys≠[])
  (h15:keys.length<=15):PE X (.Dict keys η ç)<|HV trs:=by
 intro Â s σ H Q I q;have hn:=I.hok.fresh<|Ê s.heap.objs.size;have I1:=I.laid (a:=s.heap.objs.size) (o:=.dK []) (h':=s.heap.push {cls:=.type "dict",data:=.dict #[]}) (t':=s.toks) (λ_ _ q=>Ä _ q) (Ê _)<|KQ s.heap I.big;refine wpAny_Dict_walk (knd:=Zj X.prog X.w) bG hl h0 h15<|thn (h Â _ σ _ _ I1<|q _ hn) λws s2 ⟨ps,H2,I2,Ŗ,e,kvs,ep,lk,q2⟩=>?_;subst ep;let⟨rs,c,rk⟩:=Jh (P:=X.prog) (w:=X.w) Ŗ;let⟨z,hd,vs0,r0,dd⟩:=WZ I2.hok e;cases r0;refine⟨rs,c,dd,λh' dd' hs=>⟨.ref s.heap.objs.size,_,?_,rfl,q2⟩⟩;have hz:(YM [] kvs).length<=Ø:=by have h1:=Y3 kvs [];rw[ľ]at h1;rw[Ĵ];lia
 have he:∃q,h'.get? s.heap.objs.size=df q:=let ⟨q,_,_,hq,_⟩:=dd';⟨q,hq⟩;exact X6 I2 (by rw[e];exact True.intro) hs he<|MT hz hd (rk.merge .nil) dd'
abbrev PB(H:Hp)(a:Ç):Prop:=(∃kvs,Rd H a<|.dK kvs)\/∃kvs,Rd H a (.dT kvs)
def Fp(I:Inv X Â σ H s)(d:PB H a) :
  s.TypeIs (.ref a) "dict"/\(∀b,Value.ref a=.ref b->∃ob,s.heap.get? b=df ob/\ob.dict=dg)/\(a==Ń)=di:=by
 rcases d with⟨kvs,e⟩|⟨kvs,e⟩
 .obtain⟨_,hd,vs,_,dd⟩:=Xp I.hok e;refine⟨dd.typeIs,λb q=>?_,hd⟩;cases q;let⟨ob,_,_,h1,h2,_⟩:=dd;exact⟨ob,h1,h2.2.1⟩
 .obtain⟨_,hd,xs,_,dd⟩:=WK I.hok e;refine⟨dd.typeIs,λb q=>?_,hd⟩;cases q;let⟨ob,_,_,h1,h2,_⟩:=dd;exact⟨ob,h1,h2.2.1⟩
section
variable {X:Cx}{Â:List (Ç×Obj)}{σ:St}{H:Hp}{s:Å}{a:Ç}{y d:V}{u r:Ã}{o:Option V}{A:ċ}{E:Ã->Å->Prop}
def FH{Q:Ã->Å->Prop}(hu:A.units+1<ğ)(I:Inv X Â σ H s)(g:DGet H a y o)(ry:RelV y u)(h:∀w' s',Inv X Â σ H s'->RelV (o.getD .non) w'->Q w' s') :
  wpAny (Û X.prog X.w) A (call (.builtin "dict.get") [.ref a,u]) Q E s:=by
 rcases g with⟨kvs,k,e,ey,l⟩|⟨kvs,k,b,e,ey,eb,l⟩
 .subst ey;let⟨z,hd,vs,Ŗ,dd⟩:=Xp I.hok e;refine Ο PySem.F.slot_dict_get dd.typeIs PySem.F.entry_dict_get (PySem.F.args_dict_get_2 _ _) (meets_dict_get (Zj X.prog X.w) a (Xs ry) hd) ⟨_,dd.mapOf,h _ _ (I.tok _) ?_⟩;rw[l];exact(Ŗ.val k).getD rfl
 .subst ey;cases (show u=Value.ref b from ry);let⟨z,hd,xs,Ŗ,dd⟩:=WK I.hok e;refine Ο PySem.F.slot_dict_get dd.typeIs PySem.F.entry_dict_get (PySem.F.args_dict_get_2 _ _) (meetsH_dict_get (ϑ<|Zj X.prog X.w) a b hd) ⟨ř hu,k,xs,dI I.hok eb,dd,h _ _ (I.tok _) ?_⟩;rw[l];exact(Ŗ.val k).getD rfl
end
section
variable {X:Cx}
def UB:dB X (.builtin "len") λxs H Q=>∃a kvs,xs=[V.ref a]/\H a=df (.dK kvs)/\Q (.int kvs.length) H:=by k_put;let⟨a,kvs,rfl,ha,q⟩:=h;let⟨u,rfl,ru⟩:=Z9 r;cases ru;exact HC I (.inl ha) λt s' I'=>⟨.int kvs.length,H,I',⟨t,rfl⟩,q⟩
end
end L2
namespace O
noncomputable abbrev Ad:=Nat
inductive Val where
 |non|bl (b:Bool)|int (i:Int)|str (s:String)|tup (xs:List Val)|ref (a:Ad)|scr (ns:List Int)|key (i j:Int)
 deriving Inhabited
mutual
noncomputable def Val.eqb:Val->Val->Bool
 |.non,b=>match b with|.non=>dh|_=>di
 |.bl a,b=>match b with|.bl c=>a==c|_=>di
 |.int a,b=>match b with|.int c=>a==c|_=>di
 |.str a,b=>match b with|.str c=>a==c|_=>di
 |.tup a,b=>match b with|.tup c=>Val.eqs a c|_=>di
 |.ref a,b=>match b with|.ref c=>a==c|_=>di
 |.scr a,b=>match b with|.scr c=>a==c|_=>di
 |.key a b,x=>match x with|.key c d=>a==c&&b==d|_=>di
noncomputable def Val.eqs:List Val->List Val->Bool
 |[],b=>match b with|[]=>dh|_=>di
 |x::xs,b=>match b with|y::ys=>Val.eqb x y&&Val.eqs xs ys|_=>di
end
mutual
theorem Val.eqb_iff:∀{a b:Val},Val.eqb a b=dh↔a=b
 |.non,b=>by cases b<;>simp[Val.eqb]
 |.bl _,b=>by cases b<;>simp[Val.eqb]
 |.int _,b=>by cases b<;>simp[Val.eqb]
 |.str _,b=>by cases b<;>simp[Val.eqb]
 |.tup _,b=>by cases b<;>simp[Val.eqb,Val.eqs_iff]
 |.ref _,b=>by cases b<;>simp[Val.eqb]
 |.scr _,b=>by cases b<;>simp[Val.eqb]
 |.key _ _,b=>by cases b<;>simp[Val.eqb]
theorem Val.eqs_iff:∀{a b:List Val},Val.eqs a b=dh↔a=b
 |[],b=>by cases b<;>simp[Val.eqs]
 |_::_,b=>by cases b<;>simp[Val.eqs,Val.eqb_iff,Val.eqs_iff]
end
noncomputable instance:DecidableEq Val:=λa b=>if h:Val.eqb a b=dh then isTrue (Val.eqb_iff.mp h)else isFalse λe=>h<|Val.eqb_iff.mpr e
inductive Ob where
 |lst (xs:List Val)|dct (kvs:List<|Val×Val)|ins (C:String) (fs:List<|String×Val)|exc (C:String)|frz (kvs:List<|Val×Val)|dtp (kvs:List<|Val×Val)
 deriving Inhabited
abbrev figB(c:Char):Bool:=fB (48<=c.toNat)&&fB (c.toNat<=57)
abbrev decN(l:List Char):Nat:=l.foldl (λa c=>10*a+(c.toNat - 48)) 0
abbrev strsOf:List Val->Option (List String)
 |[]=>df []
 |.str s::xs=>(strsOf xs).map (s :: ·)
 |_=>dg
abbrev IJ:Val->Option String
 |.str s=>df s
 |_=>dg
abbrev oneC(s:String):Option Char:=match s.toList with
 |[c]=>df c
 |_=>dg
abbrev Dp(i:Int):String:=toString i
abbrev Pw:Val->Option String
 |.str s=>df s
 |.int i=>if i.natAbs<10 ^ 200 then df (Dp i)else dg
 |_=>dg
noncomputable abbrev Hs:=Ad->Option Ob
@[irreducible] noncomputable def upd(h:Hs)(a:Ad)(o:Ob):Hs:=λb=>if b=a then df o else h b
variable {h:Hs} {a:Ad} {o:Ob}
def dm:upd h a o a=df o:=by simp[upd]
def dj{b:Ad}(e:b≠a):upd h a o b=h b:=by simp[upd,e]
def dq{u:Ob}:upd (upd h a o) a u=upd h a u:=by funext b;simp![upd];split<;>rfl
noncomputable abbrev Env:=List<|Option Val
noncomputable abbrev Q1:=Val->Hs->Prop
noncomputable abbrev XQ:=String->Hs->Prop
noncomputable abbrev Fs:=String->List Val->Hs->Q1->XQ->Prop
abbrev lim:Nat:=1000000
variable {α:Type}
@[irreducible] noncomputable def go(o:Option α)(k:α->Prop):Prop:=match o with|some a=>k a|none=>False
@[simp] theorem dr{a:α}{k:α->Prop}:go (df a) k=k a:=by unfold go;rfl
@[simp] theorem Cw{k:α->Prop}:go dg k=False:=by unfold go;rfl
def dy{o:Option α}{a:α}{k:α->Prop}(e:o=df a)(h:k a):go o k:=by rw[e,dr];exact h
set_option genInjectivity false
inductive Bop where|add|sub|mul|fdiv|mod|pow
inductive Cop where|eq|ne|lt|le|gt|ge|isin|notin|is|isnot|eqE|neE|ntT
inductive Bi where
 |len|int|str|bool|abs|min2|max2|minL|maxL|minD|sum|all|any|sorted|sortedI|sortedSet|lenSet|list|tuple|dict|isi (Ts:List String)|isx (Ts:List String)|isc (C:String)|repr|listRev|listRange|tupRange|dictEnum|minP|maxP|listD|listT
inductive Bm where
 |append|extend|pop|popAt|insert|remove|clear|reverse|index|count|dget|dgetD|dpop|dpopD|setdefault|join|split|replace|upper|partition|sidx|dpopT|lidx
inductive Pt where|one (i:Nat)|many (is:List Nat)|nest (i:Nat) (is:List Nat)
mutual
inductive E where
 |cst (v:Val)|var (i:Nat)|glob (x:String) (v:Val)
 |bin (op:Bop) (a b:E)|neg (a:E)|not (a:E)|and (a b:E)|or (a b:E)
 |cmp (op:Cop) (a b:E)|chain (o1 o2:Cop) (a b c:E)
 |call (f:String) (as:Es)|make (C:String) (as:Es)|meth (C m:String) (o:E) (as:Es)|meth2 (C D m:String) (o:E) (as:Es)|fld (o:E) (f:String)
 |bi (f:Bi) (as:Es)|bm (m:Bm) (o:E) (as:Es)
 |idx (a i:E)|slc (a:E) (lo hi:Oe)|rev (a:E)|pick (a:E) (lo hi:Oe) (st:E)|sortT (a:E)
 |tup (es:Es)|lst (es:Es)|dct (es:Es)
 |ife (c:Tt) (a b:E)
 |comp (ô:List Nat) (n:Nat) (p:Pt) (it:It) (c:Tt) (e:E)
 |fstr (es:Es)
 |split (o a:E)
 |repl (o:E) (y z:String)
 |key (es:Es)|dctP
inductive Es where|nil|cons (e:E) (es:Es)
inductive Oe where|none|some (e:E)
inductive Tt where|yes|val (e:E)|not (t:Tt)|and (a b:Tt)|or (a b:Tt)
inductive It where
 |seq (e:E)|chars (e:E)|range (a:E)|range2 (a b:E)|enum (e:E)|enumL (e:E)|zip (a b:E)|items (e:E)|rev (e:E)|keysF (e:E)|seqT (k:Nat) (e:E)
end
mutual
inductive S where
 |set (p:Pt) (e:E)|setIdx (a i e:E)|setFld (o:E) (f:String) (e:E)
 |augVar (i:Nat) (op:Bop) (e:E)|augFld (o:E) (f:String) (op:Bop) (n:Int)|augIdx (a i:E) (op:Bop) (n:Int)
 |setPair (a i b j e:E)|setFront (a e:E)
 |expr (e:E)|ret (e:E)|retN|ite (c:Tt) (a b:Ss)|whl (c:Tt) (b:Ss)|for (p:Pt) (it:It) (b:Ss)|forI (k:Bool) (p:Pt) (e:E) (b:Ss)
 |never|thw (s:S)|setL (is:List Nat) (e:E)|brk|cnt|pass|raise (C:String) (as:Es)|try (t:Option Nat) (e:E) (hs:Hn)|try2 (e:E) (C:String) (b:Ss) (D:String) (d:Ss)
inductive Ss where|nil|cons (s:S) (ss:Ss)
inductive Hn where|nil|cons (C:String) (n:Option Nat) (b:Ss) (r:Hn)
end
set_option genInjectivity true
abbrev ixN(n:Nat)(i:Int):Option Nat:=if 0<=i then(if i<n then df i.toNat else dg)else if -(n:Int)<=i then df (i+n).toNat else dg
abbrev atI(xs:List α)(i:Int):Option α:=(ixN xs.length i).bind λj=>xs[j]?
abbrev d6(n d:Nat):Option Int->Nat
 |none=>d
 |some i=>if 0<=i then min i.toNat n else(i+n).toNat
abbrev cut(xs:List α)(lo hi:Option Int):List α:=(xs.drop<|d6 xs.length 0 lo).take<|d6 xs.length xs.length hi - d6 xs.length 0 lo
abbrev dF:Option Ob->Option (List Val)
 |some (.lst xs)=>df xs
 |_=>dg
@[simp] theorem lsOf_lst{xs:List Val}:dF (df<|.lst xs)=df xs:=rfl
abbrev An(h:Hs):Val->Option (List Val)
 |.ref a=>dF<|h a
 |.tup xs=>df xs
 |.scr ns=>df<|ns.map .int
 |_=>dg
abbrev fe:Option Ob->Option (List<|Val×Val)
 |some (.dct kvs)=>df kvs
 |_=>dg
abbrev dO(kvs:List<|Val×Val)(k:Val):Option Val:=(kvs.find? λp=>p.1==k).map (·.2)
abbrev dP(kvs:List<|Val×Val)(k:Val):Bool:=kvs.any λp=>p.1==k
abbrev dQ(kvs:List<|Val×Val)(k v:Val):List<|Val×Val:=if dP kvs k then kvs.map λp=>if p.1==k then(k,v)else p else kvs++[(k,v)]
abbrev dR(kvs:List<|Val×Val)(k:Val):List<|Val×Val:=kvs.filter λp=>!(p.1==k)
abbrev dM:Val->Bool
 |.int _=>dh
 |.str _=>dh
 |_=>di
inductive D where
 |non|bl (b:Bool)|int (i:Int)|str (s:String)|tup (ds:List D)|lst (ds:List D)
 deriving Inhabited
mutual
noncomputable def D.eqv:D->D->Bool
 |.non,.non=>dh
 |.bl a,.bl b=>a==b
 |.bl a,.int i=>(if a then 1 else 0)==i
 |.int i,.bl a=>i==(if a then 1 else 0)
 |.int a,.int b=>a==b
 |.str a,.str b=>a==b
 |.tup a,.tup b=>D.eqvs a b
 |.lst a,.lst b=>D.eqvs a b
 |_,_=>di
noncomputable def D.eqvs:List D->List D->Bool
 |[],[]=>dh
 |x::xs,y::ys=>D.eqv x y&&D.eqvs xs ys
 |_,_=>di
end
abbrev dat(h:Hs):Nat->Val->Option D
 |_,.non=>df .non
 |_,.bl b=>df<|.bl b
 |_,.int i=>df<|.int i
 |_,.str s=>df<|.str s
 |0,_=>dg
 |n+1,.tup xs=>(xs.mapM<|dat h n).map .tup
 |n+1,.ref a=>(dF<|h a).bind λxs=>(xs.mapM<|dat h n).map .lst
 |n+1,.scr ns=>df<|.lst<|ns.map .int
 |_+1,.key _ _=>dg
abbrev deep:Nat:=12
abbrev eqV(h:Hs)(v u:Val):Option Bool:=(dat h deep v).bind λd=>(dat h deep u).map λe=>D.eqv d e
abbrev dA:List Val->Option (List Int)
 |[]=>df []
 |.int i::xs=>(dA xs).map (i :: ·)
 |_=>dg
abbrev d7:List Int->List Int->Bool
 |[],[]=>di
 |[],_::_=>dh
 |_::_,[]=>di
 |x::xs,y::ys=>if x=y then d7 xs ys else fB (x<y)
abbrev d8:Val->Val->Option Bool
 |.int i,.int j=>df<|fB (i<j)
 |.tup xs,.tup ys=>(dA xs).bind λns=>(dA ys).map λms=>d7 ns ms
 |_,_=>dg
abbrev inL(h:Hs)(x:Val)(ys:List Val):Option Bool:=(dat h deep x).bind λd=>(ys.mapM<|dat h<|deep - 1).map λds=>ds.any λe=>D.eqv e d
abbrev leV:Val->Val->Option Bool
 |.int i,.int j=>df<|fB (i<=j)
 |_,_=>dg
abbrev isKeyT:Val->Bool
 |.key _ _=>dh
 |_=>di
abbrev inV(h:Hs)(v u:Val):Option Bool:=match u with
 |.tup xs=>inL h v xs
 |.ref a=>match h a with
  |some (.lst xs)=>inL h v xs
  |some (.dct kvs)=>if dM v then df (dP kvs v)else dg
  |some (.frz kvs)=>if dM v then df (dP kvs v)else dg
  |some (.dtp kvs)=>if isKeyT v then df (dP kvs v)else dg
  |_=>dg
 |.str t=>(match v with|.str s=>(oneC s).map λc=>fB (c∈t.toList)|_=>dg)
 |_=>dg
abbrev isV(v u:Val):Option Bool:=match u with
 |.non=>df<|fB (v=.non)
 |.bl b=>df<|fB (v=.bl b)
 |_=>dg
abbrev asLst(h:Hs):Val->Option (List Val)
 |.ref a=>dF<|h a
 |_=>dg
abbrev dL(h:Hs)(op:Cop)(v u:Val):Option Bool:=match op with
 |.eq=>eqV h v u
 |.ne=>(eqV h v u).map (!·)
 |.lt=>d8 v u
 |.gt=>d8 u v
 |.le=>leV v u
 |.ge=>leV u v
 |.isin=>inV h v u
 |.notin=>(inV h v u).map (!·)
 |.is=>isV v u
 |.isnot=>(isV v u).map (!·)
 |.neE=>(asLst h v).bind λxs=>(asLst h u).bind λys=>if ys.isEmpty then df (!xs.isEmpty)else dg
 |_=>dg
abbrev W9(h:Hs):Val->Option Bool
 |.bl b=>df b
 |.int i=>df<|fB (i≠0)
 |.non=>df di
 |.str s=>if s.length<=lim then df (fB (s.length≠0))else dg
 |.tup xs=>df (!xs.isEmpty)
 |.scr ns=>df (!ns.isEmpty)
 |.ref a=>match h a with
  |some (.lst xs)=>df (!xs.isEmpty)
  |some (.dct kvs)=>df (!kvs.isEmpty)
  |_=>dg
 |.key _ _=>dg
abbrev mulOk(i j:Int):Prop:=(i.natAbs<2 ^ 64\/j.natAbs<2 ^ 64)\/(i.natAbs<=10 ^ 200/\j.natAbs<=10 ^ 200)
instance (i j:Int):Decidable<|mulOk i j:=inferInstanceAs<|Decidable<|_\/_
@[irreducible] noncomputable def new(h:Hs)(o:Ob)(Q:Q1):Prop:=∀p,h p=dg->Q (.ref p) (upd h p o)
variable {Q:Q1}
def Ze(q:∀p,h p=dg->Q (.ref p) (upd h p o)):new h o Q:=by unfold new;exact q
inductive Rs where|val (v:Val)|new (o:Ob)|no
@[irreducible] noncomputable def Rs.wp(r:Rs)(h:Hs)(Q:Q1):Prop:=match r with|.val v=>Q v h|.new o=>O.new h o Q|.no=>False
@[simp] theorem Rs.wp_val{v:Val}:(Rs.val v).wp h Q=Q v h:=by unfold Rs.wp;rfl
@[simp] theorem Rs.wp_new:(Rs.new o).wp h Q=O.new h o Q:=by unfold Rs.wp;rfl
@[simp] theorem Rs.wp_no:Rs.no.wp h Q=False:=by unfold Rs.wp;rfl
abbrev Rs.ofO:Option Val->Rs
 |some v=>.val v
 |none=>.no
abbrev Rs.lst(xs:List Val):Rs:=if xs.length<=lim then .new (.lst xs)else .no
abbrev addV(h:Hs):Val->Val->Rs
 |.int i,.int j=>.val<|.int<|i+j
 |.str s,.str t=>if s.length+t.length<=lim then .val (.str<|s++t)else .no
 |.tup xs,.tup ys=>if xs.length+ys.length<=lim then .val (.tup<|xs++ys)else .no
 |.ref a,.ref b=>match h a,h b with
  |some (.lst xs),df (.lst ys)=>Rs.lst<|xs++ys
  |_,_=>.no
 |_,_=>.no
abbrev repT(s:String)(n:Nat):String:=ŷ (Ó n s.toList).flatten
abbrev mulV(h:Hs):Val->Val->Rs
 |.int i,.int j=>if mulOk i j then .val (.int<|i*j)else .no
 |.ref a,.int k=>match h a with
  |some (.lst xs)=>if -(2 ^ 62)<k/\k<2 ^ 62/\xs.length*k.toNat<=lim then Rs.lst (Ó k.toNat xs).flatten else .no
  |_=>.no
 |.str s,.int k=>if 2<=k/\k<=1000000/\1<=s.length/\s.length*k.toNat<=lim then .val (.str<|repT s k.toNat)else .no
 |_,_=>.no
abbrev intV(f:Int->Int->Rs):Val->Val->Rs
 |.int i,.int j=>f i j
 |_,_=>.no
abbrev binV(h:Hs)(op:Bop)(v u:Val):Rs:=match op with
 |.add=>addV h v u
 |.sub=>intV (λi j=>.val<|.int<|i - j) v u
 |.mul=>mulV h v u
 |.fdiv=>intV (λi j=>if 0<j/\j<1073741824 then .val (.int<|i / j)else .no) v u
 |.mod=>intV (λi j=>if 0<j then .val (.int<|i % j)else .no) v u
 |.pow=>intV (λi j=>if 0<=j/\j<=1000000/\i.natAbs<2 ^ 64 then .val (.int<|i ^ j.toNat)else .no) v u
abbrev fg:Val->Option Int
 |.int i=>df i
 |_=>dg
abbrev eh(h:Hs):Val->Val->Option Val
 |.tup xs,.int k=>atI xs k
 |.str s,.int k=>if s.length<=lim then(atI s.toList k).map λc=>.str (ϗ c)else dg
 |.ref a,k=>match h a with
  |some (.lst xs)=>(fg k).bind<|atI xs
  |some (.dct kvs)=>if dM k then dO kvs k else dg
  |some (.frz kvs)=>if dM k then dO kvs k else dg
  |some (.dtp kvs)=>if isKeyT k then dO kvs k else dg
  |_=>dg
 |.scr ns,.int i=>atI (ns.map .int) i
 |_,_=>dg
abbrev ek(h:Hs)(v:Val)(lo hi:Option Int):Rs :=
 match v with
 |.tup xs=>if d6 xs.length 0 lo=0/\d6 xs.length xs.length hi=xs.length then .val (.tup xs)else .val (.tup<|cut xs lo hi)
 |.ref a=>match dF (h a)with
  |some xs=>.new<|.lst<|cut xs lo hi
  |none=>.no
 |.scr ns=>.new<|.lst<|cut (ns.map .int) lo hi
 |.str s=>if s.length<=lim then .val (.str<|ŷ<|cut s.toList lo hi)else .no
 |_=>.no
abbrev sortI(ns:List Int):List Int:=ns.mergeSort λa b=>fB (a<=b)
abbrev minL:List Val->Option Val
 |[]=>dg
 |x::xs=>xs.foldl (λm y=>m.bind λb=>(d8 y b).map λc=>if c then y else b)<|df x
abbrev maxL:List Val->Option Val
 |[]=>dg
 |x::xs=>xs.foldl (λm y=>m.bind λb=>(d8 b y).map λc=>if c then y else b)<|df x
abbrev eX(c d:String):Bool:=c==d||d == "ShutError" || d == "ValueError" || d == "Exception"
abbrev fi(h:Hs):Val->Option String
 |.non=>df "NoneType"
 |.bl _=>df "bool"
 |.int _=>df "int"
 |.str _=>df "str"
 |.tup _=>df "tuple"
 |.scr _=>df "list"
 |.ref a=>match h a with
  |some (.lst _)=>df "list"
  |some (.dct _)=>df "dict"
  |_=>dg
 |.key _ _=>dg
abbrev fj(h:Hs)(v:Val)(T:String):Option Bool:=(fi h v).map λt=>t==T||(t == "bool" && T == "int")
abbrev isiAny(h:Hs)(v:Val):List String->Option Bool
 |[]=>df di
 |T::Ts=>(fj h v T).bind λb=>(isiAny h v Ts).map (b || ·)
abbrev pairUp:List Val->Option (List<|Val×Val)
 |[]=>df []
 |k::v::r=>if dM k then(pairUp r).map ((k,v) :: ·)else dg
 |_=>dg
abbrev putAll(kvs:List<|Val×Val):List (Val×Val)->List (Val×Val)
 |[]=>kvs
 |(k,v)::r=>putAll (dQ kvs k v) r
abbrev eK(h:Hs):Val->Rs
 |.ref a=>match h a with
  |some (.lst xs)=>.val<|.int xs.length
  |some (.dct kvs)=>.val<|.int kvs.length
  |_=>.no
 |.tup xs=>.val<|.int xs.length
 |.scr ns=>.val<|.int ns.length
 |.str s=>if s.length<=lim then .val (.int s.length)else .no
 |_=>.no
abbrev Lr:Val->Rs
 |.int i=>.val<|.int i
 |.bl b=>.val (.int<|if b then 1 else 0)
 |.str s=>if s.length<=640/\s.toList≠[]/\s.toList.all figB=dh then .val (.int<|decN s.toList)else .no
 |_=>.no
abbrev absV:Val->Rs
 |.int i=>.val (.int<|if i<0 then -i else i)
 |_=>.no
abbrev dG(f:Val->Rs):List Val->Rs
 |[v]=>f v
 |_=>.no
abbrev rowsOf:List Val->Option (List<|List Int)
 |[]=>df []
 |.tup xs::r=>(dA xs).bind λns=>(rowsOf r).map (ns :: ·)
 |_=>dg
abbrev minR(b:List Int):List (List Int)->List Int
 |[]=>b
 |y::r=>minR (if d7 y b then y else b) r
abbrev eL(h:Hs)(v:Val):Rs:=match v with
 |.ref a=>match (dF<|h a).bind rowsOf with
  |some []=>.val .non
  |some (x::r)=>.val<|.tup<|(minR x r).map .int
  |none=>.no
 |_=>.no
abbrev keysOf(kvs:List<|Val×Val):Option<|List Int:=dA (kvs.map (·.1))
abbrev sortAny(h:Hs)(v:Val):Option<|List Int:=match v with
 |.ref a=>match h a with
  |some (.lst xs)=>dA xs
  |some (.dct kvs)=>keysOf kvs
  |_=>dg
 |.scr ns=>df ns
 |_=>dg
abbrev sortR(rows:List<|List Int):List<|List Int:=rows.mergeSort λa b=>!d7 b a
abbrev rowsAt(h:Hs)(v:Val):Option<|List<|List Int:=match v with
 |.ref a=>(dF<|h a).bind rowsOf
 |_=>dg
abbrev biSortedR(h:Hs)(v:Val):Rs:=match rowsAt h v with
 |some rows=>if rows.length<64/\(rows.all λr=>!r.isEmpty)=dh then .new (.lst<|(sortR rows).map λr=>.tup<|r.map .int)else .no
 |none=>.no
abbrev biSorted(h:Hs)(v:Val):Rs:=match sortAny h v with
 |some ns=>if ns.length<64 then .new (.lst<|(sortI ns).map .int)else .no
 |none=>biSortedR h v
abbrev XS(h:Hs)(v:Val):Rs:=match sortAny h v with
 |some ns=>if ns.length<64 then .new (.lst<|(sortI ns).map .int)else .no
 |none=>.no
abbrev toList(h:Hs):Val->Rs
 |.ref a=>match h a with
  |some (.lst xs)=>.new<|.lst xs
  |_=>.no
 |.tup xs=>.new<|.lst xs
 |_=>.no
abbrev maxI:List Int->Int
 |[]=>0
 |x::r=>r.foldl (λa b=>if b > a then b else a) x
abbrev intsAt(h:Hs):Val->Option (List Int)
 |.ref a=>(dF<|h a).bind dA
 |_=>dg
abbrev pairI:Val->Option (Int×Int)
 |.tup [.int i,.int j]=>df (i,j)
 |_=>dg
abbrev rangeL:Val->Rs
 |.int k=>if 0<=k/\k<=1000 then .new (.lst<|(List.range k.toNat).map λn=>.int (n:Nat))else .no
 |_=>.no
abbrev biMaxL(h:Hs)(v:Val):Rs:=match pairI v with
 |some p=>.val (.int<|if p.2 > p.1 then p.2 else p.1)
 |none=>match intsAt h v with
  |some (x::r)=>.val<|.int<|maxI<|x::r
  |_=>.no
abbrev biV(h:Hs)(b:Bi)(vs:List Val):Rs:=match b with
 |.len=>dG (eK h) vs
 |.int=>dG Lr vs
 |.maxL=>dG (biMaxL h) vs
 |.minD=>dG (eL h) vs
 |.sorted=>dG (biSorted h) vs
 |.sortedI=>dG (XS h) vs
 |.list=>dG (toList h) vs
 |.isi Ts=>dG (λv=>.ofO<|(isiAny h v Ts).map .bl) vs
 |.listRange=>dG rangeL vs
 |_=>.no
abbrev bmL(h:Hs)(v:Val)(f:Ad->List Val->Option (Val×Hs)):Option<|Val×Hs:=match v with
 |.ref a=>(dF<|h a).bind<|f a
 |_=>dg
abbrev bmD(h:Hs)(v:Val)(f:Ad->List (Val×Val)->Option (Val×Hs)):Option<|Val×Hs:=match v with
 |.ref a=>(fe<|h a).bind<|f a
 |_=>dg
abbrev AA(h:Hs)(vs:List Val)(a:Ad)(xs:List Val):Option<|Val×Hs:=match vs with
 |[v]=>if xs.length<lim then df (.non,upd h a<|.lst<|xs++[v])else dg
 |_=>dg
abbrev bmPopAt(h:Hs)(vs:List Val)(a:Ad)(xs:List Val):Option<|Val×Hs:=match vs with
 |[.int i]=>if -(2 ^ 62)<i/\i<2 ^ 62 then(ixN xs.length i).bind λk=>(xs[k]?).map λv=>(v,upd h a<|.lst<|xs.eraseIdx k)else dg
 |_=>dg
abbrev bmRemove(h:Hs)(vs:List Val)(a:Ad)(xs:List Val):Option<|Val×Hs:=match vs with
 |[.int i]=>(dA xs).bind λns=>if i∈ns then df (.non,upd h a<|.lst<|(ns.erase i).map .int)else dg
 |_=>dg
abbrev HW(h:Hs)(vs:List Val)(a:Ad)(kvs:List<|Val×Val):Option<|Val×Hs:=match vs with
 |[k]=>if dM k then df ((dO kvs k).getD .non,h)else dg
 |_=>dg
abbrev D7(h:Hs)(vs:List Val)(a:Ad)(kvs:List<|Val×Val):Option<|Val×Hs:=match vs with
 |[k,d]=>if dM k then df ((dO kvs k).getD d,upd h a<|.dct<|dR kvs k)else dg
 |_=>dg
abbrev bmLidx(h:Hs)(vs:List Val)(a:Ad)(xs:List Val):Option<|Val×Hs:=match vs,xs with
 |[.str s],[.str p,.str q]=>if p=s then df (.int 0,h)else if q=s then df (.int 1,h)else dg
 |_,_=>dg
abbrev bmV(h:Hs)(m:Bm)(v:Val)(vs:List Val):Option<|Val×Hs:=match m with
 |.append=>bmL h v<|AA h vs
 |.popAt=>bmL h v<|bmPopAt h vs
 |.remove=>bmL h v<|bmRemove h vs
 |.lidx=>bmL h v<|bmLidx h vs
 |.dget=>bmD h v<|HW h vs
 |.dpopD=>bmD h v<|D7 h vs
 |_=>dg
abbrev isLst:Option Ob->Bool
 |some (.lst _)=>dh
 |_=>di
abbrev isDct:Option Ob->Bool
 |some (.dct _)=>dh
 |some (.dtp _)=>dh
 |_=>di
inductive Ty where|l|d|s|t
abbrev Bm.ty:Bm->Ty
 |.dget=>.d
 |.dgetD=>.d
 |.dpop=>.d
 |.dpopD=>.d
 |.dpopT=>.d
 |.setdefault=>.d
 |.join=>.s
 |.split=>.s
 |.replace=>.s
 |.upper=>.s
 |.partition=>.s
 |.sidx=>.s
 |.index=>.t
 |_=>.l
abbrev Je(p:Option Ob->Bool)(h:Hs):Val->Bool
 |.ref a=>p<|h a
 |_=>di
abbrev Fh:Val->Bool
 |.str _=>dh
 |_=>di
abbrev Go:Val->Bool
 |.tup _=>dh
 |_=>di
abbrev bmTy(h:Hs)(m:Bm)(v:Val):Bool:=match m.ty with
 |.l=>Je isLst h v
 |.d=>Je isDct h v
 |.s=>Fh v
 |.t=>Je isLst h v||Go v
abbrev dJ:List (String×Val)->String->Val->List (String×Val)
 |[],f,v=>[(f,v)]
 |(g,x)::r,f,v=>if g=f then(g,v)::r else(g,x)::dJ r f v
abbrev getV(env:Env)(i:Nat):Option Val:=match env[i]? with
 |some (df v)=>df v
 |_=>dg
abbrev fh:Val->Option Bool
 |.bl b=>df b
 |_=>dg
abbrev dZ:Val->Option Ad
 |.ref a=>df a
 |_=>dg
abbrev insOf:Option Ob->Option (String×List (String×Val))
 |some (.ins C fs)=>df (C,fs)
 |_=>dg
abbrev tupOf:Val->Option (List Val)
 |.tup xs=>df xs
 |_=>dg
abbrev bindL:List Nat->List Val->Env->Option Env
 |[],[],env=>df env
 |i::is,x::xs,env=>bindL is xs<|env.set i<|df x
 |_,_,_=>dg
abbrev bind(p:Pt)(h:Hs)(v:Val)(env:Env):Option Env :=
 match p with
 |.one i=>df<|env.set i<|df v
 |.many is=>(tupOf v).bind λxs=>bindL is xs env
 |.nest i is=>(tupOf v).bind λxs=>match xs with
  |[x,y]=>(tupOf y).bind λys=>bindL is ys<|env.set i<|df x
  |_=>dg
abbrev wComp(st:Hs->Prop)(step:Val->Hs->(Option Val->Hs->Prop)->XQ->Prop):List Val->List Val->Hs->(List Val->Hs->Prop)->XQ->Prop
 |[],ļ,h,Q,_=>st h/\Q ļ h
 |v::vs,ļ,h,Q,X=>st h/\step v h (λr h'=>wComp st step vs (ļ++r.toList) h' Q X) X
abbrev enumL:Nat->List Val->List Val
 |_,[]=>[]
 |k,x::xs=>.tup [.int k,x]::enumL (k+1) xs
abbrev zipL:List Val->List Val->List Val
 |x::xs,y::ys=>.tup [x,y]::zipL xs ys
 |_,_=>[]
abbrev itV(h:Hs):Val->Option ((Hs->Prop)×List Val)
 |.tup xs=>df (λ_=>True,xs)
 |.scr ns=>df (λ_=>True,ns.map .int)
 |.ref a=>(dF<|h a).map λxs=>(λg=>dF (g a)=df xs,xs)
 |_=>dg
abbrev CK(h:Hs):Val->Val->Option ((Hs->Prop)×List Val)
 |.tup xs,.tup ys=>df (λ_=>True,zipL xs ys)
 |.ref p,.ref q=>(dF<|h p).bind λxs=>(dF<|h q).map λys=>(λg=>dF (g p)=df xs/\dF (g q)=df ys,zipL xs ys)
 |_,_=>dg
abbrev itemOf(k:Bool)(p:Val×Val):Val:=if k then p.1 else .tup [p.1,p.2]
abbrev dY(i j:Int):List Val:=(List.range (j - i).toNat).map λ(k:Nat)=>.int<|i+k
abbrev eC(h:Hs)(o k v:Val):Option Hs :=
 match o with
 |.ref p=>match h p with
  |some (.lst xs)=>(fg k).bind λn=>(ixN xs.length n).map λj=>upd h p<|.lst<|xs.set j v
  |some (.dct kvs)=>if dM k/\kvs.length<lim then df (upd h p<|.dct<|dQ kvs k v)else dg
  |some (.dtp kvs)=>if isKeyT k/\kvs.length<lim then df (upd h p<|.dtp<|dQ kvs k v)else dg
  |_=>dg
 |_=>dg
abbrev eJ(h:Hs)(o:Val)(f:String)(v:Val):Option Hs :=
 match o with
 |.ref p=>match h p with
  |some (.ins C fs)=>if fs.length<900 then df (upd h p<|.ins C<|dJ fs f v)else dg
  |_=>dg
 |_=>dg
abbrev eF(h:Hs)(o:Val)(f:String):Option Val:=(dZ o).bind λa=>(insOf<|h a).bind λp=>p.2.lookup f
abbrev clsV(h:Hs)(o:Val)(m:String):Option String:=(dZ o).bind λa=>(insOf<|h a).bind λp=>if(p.2.lookup m).isNone then df p.1 else dg
abbrev augV(op:Bop)(x y:Val):Option Val:=match op,x,y with
 |.add,.int i,.int j=>df<|.int<|i+j
 |.sub,.int i,.int j=>df<|.int<|i - j
 |_,_,_=>dg
@[irreducible] noncomputable def Mi(F:Hs->(List Val->Hs->Prop)->XQ->Prop)(h:Hs)(Q:Q1)(X:XQ):Prop:=new h (.dct []) λr h1=>go (dZ r) λp=>F h1 (λvs h2=>go (pairUp vs) λkvs=>h2 p=df (.dct [])/\Q (.ref p) (upd h2 p<|.dct<|putAll [] kvs)) X
mutual
@[reducible] noncomputable def xE(Z:Fs):E->Env->Hs->Q1->XQ->Prop
 |.cst v,_,h,Q,_=>Q v h
 |.glob _ v,_,h,Q,_=>Q v h
 |.var i,env,h,Q,_=>go (getV env i) λv=>Q v h
 |.bin op a b,env,h,Q,X=>xE Z a env h (λv h1=>xE Z b env h1 (λu h2=>(binV h2 op v u).wp h2 Q) X) X
 |.neg a,env,h,Q,X=>xE Z a env h (λv h1=>go (fg v) λi=>Q (.int (-i)) h1) X
 |.not a,env,h,Q,X=>xE Z a env h (λv h1=>go (fh v) λb=>Q (.bl (!b)) h1) X
 |.and a b,env,h,Q,X=>xE Z a env h (λv h1=>go (fh v) λc=>if c=dh then xE Z b env h1 Q X else Q (.bl di) h1) X
 |.or a b,env,h,Q,X=>xE Z a env h (λv h1=>go (fh v) λc=>if c=dh then Q (.bl dh) h1 else xE Z b env h1 Q X) X
 |.cmp op a b,env,h,Q,X=>xE Z a env h (λv h1=>xE Z b env h1 (λu h2=>go (dL h2 op v u) λc=>Q (.bl c) h2) X) X
 | .chain o1 o2 a b c,env,h,Q,X=>xE Z a env h (λv h1=>xE Z b env h1 (λu h2=>go (dL h2 o1 v u) λk =>
     if k=dh then xE Z c env h2 (λw h3=>go (dL h3 o2 u w) λk2=>Q (.bl k2) h3) X else Q (.bl di) h2) X) X
 |.call f as,env,h,Q,X=>xA Z as env h (λvs h1=>Z f vs h1 Q X) X
 |.make C as,env,h,Q,X=>xA Z as env h (λvs h1=>∀p,h1 p=dg->Z (C ++ ".__init__") (.ref p::vs) (upd h1 p<|.ins C []) (λv h2=>v=.non/\Q (.ref p) h2) X) X
 |.meth C m o as,env,h,Q,X=>xE Z o env h (λv h1=>clsV h1 v m=df C/\xA Z as env h1 (λvs h2=>Z (C ++ "." ++ m) (v::vs) h2 Q X) X) X
 |.fld o f,env,h,Q,X=>xE Z o env h (λv h1=>go (eF h1 v f) λu=>Q u h1) X
 |.bi f as,env,h,Q,X=>xA Z as env h (λvs h1=>(biV h1 f vs).wp h1 Q) X
 |.bm m o as,env,h,Q,X=>xE Z o env h (λv h1=>bmTy h1 m v=dh/\xA Z as env h1 (λvs h2=>go (bmV h2 m v vs) λr=>Q r.1 r.2) X) X
 |.idx a i,env,h,Q,X=>xE Z a env h (λv h1=>xE Z i env h1 (λk h2=>go (eh h2 v k) λu=>Q u h2) X) X
 |.slc a lo hi,env,h,Q,X=>xE Z a env h (λv h1=>xO Z lo env h1 (λl h2=>xO Z hi env h2 (λu h3=>(ek h3 v l u).wp h3 Q) X) X) X
 |.tup es,env,h,Q,X=>xA Z es env h (λvs h1=>Q (.tup vs) h1) X
 |.lst es,env,h,Q,X=>xA Z es env h (λvs h1=>new h1 (.lst vs) Q) X
 |.dct es,env,h,Q,X=>Mi (xA Z es env) h Q X
 |.ife c a b,env,h,Q,X=>xT Z c env h (λk h1=>if k=dh then xE Z a env h1 Q X else xE Z b env h1 Q X) X
 | .comp ô n p it c e,env,h,Q,X=>xI Z it env h (λst xs h1=>xs.length<lim/\
     wComp st (λv h2 K X2=>go (bind p h2 v<|Ó n dg++ô.map λj=>(env[j]?).getD dg) λĲ =>
       xT Z c Ĳ h2 (λk h3=>if k=dh then xE Z e Ĳ h3 (λu h4=>K (df u) h4) X2 else K dg h3) X2) xs [] h1 (λys h5=>new h5 (.lst ys) Q) λ_ _=>False) X
 |_,_,_,_,_=>False
@[reducible] noncomputable def xA(Z:Fs):Es->Env->Hs->(List Val->Hs->Prop)->XQ->Prop
 |.nil,_,h,Q,_=>Q [] h
 |.cons e es,env,h,Q,X=>xE Z e env h (λv h1=>xA Z es env h1 (λvs h2=>Q (v::vs) h2) X) X
@[reducible] noncomputable def xJ(Z:Fs):Es->Env->Hs->String->(String->Hs->Prop)->XQ->Prop
 |.nil,_,h,ļ,Q,_=>Q ļ h
 |.cons e es,env,h,ļ,Q,X=>xE Z e env h (λv h1=>go (Pw v) λs=>ļ.length+s.length<=lim/\xJ Z es env h1 (ļ++s) Q X) X
@[reducible] noncomputable def xO(Z:Fs):Oe->Env->Hs->(Option Int->Hs->Prop)->XQ->Prop
 |.none,_,h,Q,_=>Q dg h
 |.some e,env,h,Q,X=>xE Z e env h (λv h1=>go (fg v) λi=>Q (df i) h1) X
@[reducible] noncomputable def xT(Z:Fs):Tt->Env->Hs->(Bool->Hs->Prop)->XQ->Prop
 |.yes,_,h,Q,_=>Q dh h
 |.val e,env,h,Q,X=>xE Z e env h (λv h1=>go (W9 h1 v) λk=>Q k h1) X
 |.not a,env,h,Q,X=>xT Z a env h (λk h1=>Q (!k) h1) X
 |.and a b,env,h,Q,X=>xT Z a env h (λk h1=>if k=dh then xT Z b env h1 Q X else Q di h1) X
 |.or a b,env,h,Q,X=>xT Z a env h (λk h1=>if k=dh then Q dh h1 else xT Z b env h1 Q X) X
@[reducible] noncomputable def xI(Z:Fs):It->Env->Hs->((Hs->Prop)->List Val->Hs->Prop)->XQ->Prop
 |.seq e,env,h,Q,X=>xE Z e env h (λv h1=>go (itV h1 v) λp=>Q p.1 p.2 h1) X
 |.range a,env,h,Q,X=>xE Z a env h (λv h1=>go (fg v) λn=>(-(2 ^ 62)<=n/\n<2 ^ 62)/\Q (λ_=>True) (dY 0 n) h1) X
 |.zip a b,env,h,Q,X=>xE Z a env h (λv h1=>xE Z b env h1 (λu h2=>go (CK h2 v u) λp=>Q p.1 p.2 h2) X) X
 |.items e,env,h,Q,X=>xE Z e env h (λv h1=>go (dZ v) λa=>go (fe<|h1 a) λkvs=>Q (λg=>g a=df (.frz kvs)) (kvs.map<|itemOf dh)<|upd h1 a<|.frz kvs) X
 |_,_,_,_,_=>False
end
@[reducible] noncomputable def wE:Fs->E->Env->Hs->Q1->XQ->Prop:=xE
@[reducible] noncomputable def wA:Fs->Es->Env->Hs->(List Val->Hs->Prop)->XQ->Prop:=xA
@[reducible] noncomputable def wO:Fs->Oe->Env->Hs->(Option Int->Hs->Prop)->XQ->Prop:=xO
@[reducible] noncomputable def wT:Fs->Tt->Env->Hs->(Bool->Hs->Prop)->XQ->Prop:=xT
@[reducible] noncomputable def wI:Fs->It->Env->Hs->((Hs->Prop)->List Val->Hs->Prop)->XQ->Prop:=xI
def wE_eq:wE=xE:=by unfold wE;rfl
noncomputable abbrev NQ:=Env->Hs->Prop
noncomputable abbrev EQ:=Env->String->Hs->Prop
abbrev wFor(st:Hs->Prop)(W:Val->Env->Hs->NQ->NQ->Prop)(N:NQ):List Val->Env->Hs->Prop
 |[],env,h=>st h/\N env h
 |v::vs,env,h=>st h/\W v env h (λe g=>wFor st W N vs e g) N
mutual
@[reducible] noncomputable def xS(Z:Fs):S->Env->Hs->NQ->Q1->NQ->NQ->EQ->Prop
 |.set p e,env,h,N,_,_,_,X=>wE Z e env h (λv h1=>go (bind p h1 v env) λĲ=>N Ĳ h1)<|X env
 |.setIdx a i e,env,h,N,_,_,_,X=>wE Z e env h (λv h1=>wE Z a env h1 (λo h2=>wE Z i env h2 (λk h3=>go (eC h3 o k v) λg=>N env g)<|X env)<|X env)<|X env
 |.setFld o f e,env,h,N,_,_,_,X=>wE Z e env h (λv h1=>wE Z o env h1 (λu h2=>go (eJ h2 u f v) λg=>N env g)<|X env)<|X env
 |.augFld o f op n,env,h,N,_,_,_,X=>wE Z o env h (λu h1=>go (eF h1 u f) λx=>go (augV op x<|.int n) λy=>go (eJ h1 u f y) λg=>N env g)<|X env
 |.expr e,env,h,N,_,_,_,X=>wE Z e env h (λ_ h1=>N env h1)<|X env
 |.ret e,env,h,_,R,_,_,X=>wE Z e env h R<|X env
 |.retN,_,h,_,R,_,_,_=>R .non h
 |.ite c a b,env,h,N,R,B,C,X=>wT Z c env h (λk h1=>if k=dh then xSs Z a env h1 N R B C X else xSs Z b env h1 N R B C X)<|X env
 |.for p it b,env,h,N,R,_,_,X=>wI Z it env h (λst xs h1=>wFor st (λv e g K M=>go (bind p g v e) λe2=>xSs Z b e2 g K R M K X) N xs env h1)<|X env
 | .forI k p e b,env,h,N,R,_,_,X=>wE Z e env h (λv h1=>go (dZ v) λa=>go (fe<|h1 a) λkvs =>
     wFor (λg=>g a=df (.frz kvs)) (λv e g K M=>go (bind p g v e) λe2=>xSs Z b e2 g K (λu g2=>g2 a=df (.frz kvs)/\R u (upd g2 a<|.dct kvs)) M K λ_ _ _=>False)
       (λe g=>g a=df (.frz kvs)/\N e (upd g a<|.dct kvs)) (kvs.map<|itemOf k) env (upd h1 a<|.frz kvs))<|X env
 |.never,_,_,_,_,_,_,_=>False
 |.thw s,env,h,N,_,_,_,_=>∃a kvs,h a=df (.dct kvs)/\xS Z s env h (λe g=>g a=df (.frz kvs)/\N e (upd g a<|.dct kvs)) (λ_ _=>False) (λ_ _=>False) (λ_ _=>False) λ_ _ _=>False
 |.setL is e,env,h,N,_,_,_,X=>wE Z e env h (λv h1=>go (asLst h1 v) λxs=>go (bindL is xs env) λĲ=>N Ĳ h1)<|X env
 |_,_,_,_,_,_,_,_=>False
@[reducible] noncomputable def xSs(Z:Fs):Ss->Env->Hs->NQ->Q1->NQ->NQ->EQ->Prop
 |.nil,env,h,N,_,_,_,_=>N env h
 |.cons s ss,env,h,N,R,B,C,X=>xS Z s env h (λe g=>xSs Z ss e g N R B C X) R B C X
@[reducible] noncomputable def xH(Z:Fs):Hn->String->Env->Hs->NQ->Q1->NQ->NQ->Prop
 |.nil,_,_,_,_,_,_,_=>False
 |.cons K dg b r,c,env,h,N,R,B,C=>if eX c K=dh then xSs Z b env h N R B C (λ_ _ _=>False)else xH Z r c env h N R B C
 |.cons K (df i) b r,c,env,h,N,R,B,C=>if eX c K=dh then(∀p,h p=dg->xSs Z b (env.set i<|df<|.ref p) (upd h p<|.exc c) (λe g=>N (e.set i dg) g) R (λe g=>B (e.set i dg) g) (λe g=>C (e.set i dg) g) λ_ _ _=>False)
  else xH Z r c env h N R B C
end
@[reducible] noncomputable def wS:Fs->S->Env->Hs->NQ->Q1->NQ->NQ->EQ->Prop:=xS
@[reducible] noncomputable def wSs:Fs->Ss->Env->Hs->NQ->Q1->NQ->NQ->EQ->Prop:=xSs
def wS_eq:wS=xS:=by unfold wS;rfl
structure Fn where
 ar:Nat
 sz:Nat
 body:Ss
noncomputable abbrev Pg:=String->Option Fn
class In(P:Pg)(f:String)(d:outParam Fn):Prop where
 eq:P f=df d
abbrev Fn.env(d:Fn)(vs:List Val):Env:=vs.map df++Ó (d.sz - d.ar) dg
abbrev wF0(P:Pg):Nat->Fs
 |0=>λ_ _ _ _ _=>False
 |n+1=>λf vs h Q X=>go (P f) λd=>vs.length=d.ar/\wSs (wF0 P n) d.body (d.env vs) h (λ_ g=>Q .non g) Q (λ_ _=>False) (λ_ _=>False) λ_ c g=>X c g
@[irreducible] noncomputable def wF(P:Pg)(n:Nat):Fs:=wF0 P n
variable {P:Pg} {n:Nat}
def wF_eq:wF P n=wF0 P n:=by unfold wF;rfl
def Zn{f:String}{d:Fn}{vs:List Val}{X:XQ}(e:P f=df d)(hl:vs.length=d.ar)
  (q:wSs (wF P n) d.body (d.env vs) h (λ_ g=>Q .non g) Q (λ_ _=>False) (λ_ _=>False) λ_ c g=>X c g):wF P (n+1) f vs h Q X:=by
 rw[wF_eq]at q ⊢;exact dy e ⟨hl,q⟩
section
variable {Z:Fs}{env:Env}{h:Hs}{Q:Q1}{X:XQ}{a b c e o:E}{as:Es}{v u:Val}
def Iu{es:Es}(q:new h (.dct []) λr h1=>go (dZ r) λp=>wA Z es env h1 (λvs h2=>go (pairUp vs) λkvs=>h2 p=df (.dct [])/\Q (.ref p) (upd h2 p<|.dct<|putAll [] kvs)) X):wE Z (.dct es) env h Q X:=by show Mi _ _ _ _;unfold Mi;exact q
variable {QA:List Val->Hs->Prop}{QO:Option Int->Hs->Prop}{QT:Bool->Hs->Prop}{QI:(Hs->Prop)->List Val->Hs->Prop}
def IR(q:QA [] h):wA Z .nil env h QA X:=q
end
section
variable {h:Hs}{Q:Q1}{i j k:Int}{a b:Ad}{xs ys:List Val}{v u:Val}{K:Val->Prop}{KB:Bool->Prop}
def wp_val{r:Rs}(e:r=.val v)(q:Q v h):r.wp h Q:=by rw[e,Rs.wp_val];exact q
def wp_new{r:Rs}{o:Ob}(e:r=.new o)(q:new h o Q):r.wp h Q:=by rw[e,Rs.wp_new];exact q
def b_add(q:Q (.int<|i+j) h):(binV h .add (.int i)<|.int j).wp h Q:=wp_val rfl q
def b_sub(q:Q (.int<|i - j) h):(binV h .sub (.int i)<|.int j).wp h Q:=wp_val rfl q
def b_mul(m:mulOk i j)(q:Q (.int<|i*j) h):(binV h .mul (.int i)<|.int j).wp h Q:=wp_val (fm m) q
def b_fdiv(m:0<j/\j<1073741824)(q:Q (.int<|i / j) h):(binV h .fdiv (.int i)<|.int j).wp h Q:=wp_val (fm m) q
def b_mod(m:0<j)(q:Q (.int<|i % j) h):(binV h .mod (.int i)<|.int j).wp h Q:=wp_val (fm m) q
def b_pow(m:0<=j/\j<=1000000/\i.natAbs<2 ^ 64)(q:Q (.int<|i ^ j.toNat) h):(binV h .pow (.int i)<|.int j).wp h Q:=wp_val (fm m) q
def FB{z:Int}(m:0<=j/\j<=1000000/\i.natAbs<2 ^ 64)(e:i ^ j.toNat=z)(q:Q (.int z) h):(binV h .pow (.int i)<|.int j).wp h Q:=b_pow m (by rw[e];exact q)
def F1(m:xs.length+ys.length<=lim)(q:Q (.tup<|xs++ys) h):(binV h .add (.tup xs)<|.tup ys).wp h Q:=wp_val (fm m) q
def M2(e1:h a=df (.lst xs))(e2:h b=df (.lst ys))(m:(xs++ys).length<=lim)(q:new h (.lst<|xs++ys) Q):(binV h .add (.ref a)<|.ref b).wp h Q:=by refine wp_new ?_ q;show(match h a,h b with|some (.lst xs),df (.lst ys)=>Rs.lst (xs++ys)|_,_=>.no:Rs)=_;simp![e1,e2,Rs.lst];rw[fm m]
def lsE(e1:h a=df (.lst xs)):dF (h a)=df xs:=by rw[e1];rfl
variable {kvs:List (Val×Val)}
def dcE(e1:h a=df (.dct kvs)):fe (h a)=df kvs:=by rw[e1];rfl
def g_int{K:Int->Prop}(q:K i):go (fg<|.int i) K:=dy rfl q
def g_bl{b:Bool}(q:KB b):go (fh<|.bl b) KB:=dy rfl q
def g_ref{K:Ad->Prop}(q:K a):go (dZ<|.ref a) K:=dy rfl q
def g_tbl{b:Bool}(q:KB b):go (W9 h<|.bl b) KB:=dy rfl q
def L3(q:KB<|fB (i≠0)):go (W9 h<|.int i) KB:=dy rfl q
def Pa(e:h a=df (.lst xs))(q:KB (!xs.isEmpty)):go (W9 h<|.ref a) KB:=dy (by unfold W9;simp![e]) q
def dz(e:atI xs i=df v)(q:K v):go (eh h (.tup xs)<|.int i) K:=dy e q
def Zi(e1:h a=df (.lst xs))(e:atI xs i=df v)(q:K v):go (eh h (.ref a)<|.int i) K:=dy (by unfold eh;simp![e1];exact e) q
def Zb{k:Val}(e1:h a=df (.dct kvs))(hk:dM k=dh)(e:dO kvs k=df v)(q:K v):go (eh h (.ref a) k) K:=dy (by unfold eh;simp![e1];rw[fm hk];exact e) q
def c_lt(q:KB<|fB (i<j)):go (dL h .lt (.int i)<|.int j) KB:=dy rfl q
def c_gt(q:KB<|fB (j<i)):go (dL h .gt (.int i)<|.int j) KB:=dy rfl q
def c_le(q:KB<|fB (i<=j)):go (dL h .le (.int i)<|.int j) KB:=dy rfl q
def c_ge(q:KB<|fB (j<=i)):go (dL h .ge (.int i)<|.int j) KB:=dy rfl q
def Ot:D.eqv (.int i) (.int j)=fB (i=j):=by rw[D.eqv];by_cases e:i=j<;>simp[e]
variable {s:String}
def Mf{t:String}:D.eqv (.str s) (.str t)=fB (s=t):=by rw[D.eqv];by_cases e:s=t<;>simp[e]
def c_eqI(q:KB<|fB (i=j)):go (dL h .eq (.int i)<|.int j) KB:=dy (by show df (D.eqv (.int i)<|.int j)=_;rw[Ot]) q
def c_neI(q:KB (!fB (i=j))):go (dL h .ne (.int i)<|.int j) KB:=dy (by show df (!D.eqv (.int i) (.int j))=_;rw[Ot]) q
def c_eqS{t:String}(q:KB<|fB (s=t)):go (dL h .eq (.str s)<|.str t) KB:=dy (by show df (D.eqv (.str s)<|.str t)=_;rw[Mf]) q
def PR{t:String}(q:KB (!fB (s=t))):go (dL h .ne (.str s)<|.str t) KB:=dy (by show df (!D.eqv (.str s) (.str t))=_;rw[Mf]) q
variable {c:Bool}
def PQ{d:Bool}(q:KB<|c==d):go (dL h .eq (.bl c)<|.bl d) KB:=dy (by show df (D.eqv (.bl c)<|.bl d)=_;rw[D.eqv]) q
def c_isN(q:KB<|fB (v=.non)):go (dL h .is v .non) KB:=dy (by unfold dL;rfl) q
def c_notN(q:KB (!fB (v=.non))):go (dL h .isnot v .non) KB:=dy (by unfold dL;rfl) q
def c_neE(e1:h a=df (.lst xs))(e2:h b=df (.lst []))(q:KB (!xs.isEmpty)):go (dL h .neE (.ref a)<|.ref b) KB:=dy (by show(dF<|h a).bind _=_;rw[e1,lsOf_lst];show(dF<|h b).bind _=_;rw[e2,lsOf_lst];rfl) q
variable {ns:List Int}
def G7{ms:List Int}(e1:dA xs=df ns)(e2:dA ys=df ms)(q:KB<|d7 ms ns):go (dL h .gt (.tup xs)<|.tup ys) KB:=dy (by show(dA ys).bind _=_;rw[e1,e2];rfl) q
variable {n:Nat} {Ň:Env}
def Hv{env:Env}{K:Env->Prop}(e:env.set n (df v)=Ň)(q:K Ň):go (bind (.one n) h v env) K:=by subst e;exact dy rfl q
def F7{is:List Nat}{env:Env}{K:Env->Prop}(e:bindL is xs env=df Ň)(q:K Ň):go (bind (.many is) h (.tup xs) env) K:=dy e q
def Nk{K:Hs->Prop}(e1:h a=df (.lst xs))(e:ixN xs.length i=df n)(q:K<|upd h a<|.lst<|xs.set n v):go (eC h (.ref a) (.int i) v) K:=dy (by unfold eC;simp![e1,fg,ï,e,Ĭ]) q
def YS{K:Hs->Prop}{k:Val}(e1:h a=df (.dct kvs))(m:dM k=dh/\kvs.length<lim)(q:K<|upd h a<|.dct<|dQ kvs k v):go (eC h (.ref a) k v) K:=dy (by unfold eC;simp![e1];rw[fm m]) q
def IY(e1:h a=df (.dct kvs))(hk:dM v=dh)(q:KB<|dP kvs v):go (dL h .isin v<|.ref a) KB:=dy (by show inV h v (.ref a)=_;unfold inV;simp![e1];rw[fm hk]) q
def U4(e1:h a=df (.dct kvs))(hk:dM v=dh)(q:KB (!dP kvs v)):go (dL h .notin v<|.ref a) KB:=dy (by show(inV h v<|.ref a).map _=_;unfold inV;simp![e1];rw[fm hk];rfl) q
variable {C:String} {f:String}
def YR{fs:List (String×Val)}{K:Hs->Prop}(e1:h a=df (.ins C fs))(m:fs.length<900)(q:K<|upd h a<|.ins C<|dJ fs f v):go (eJ h (.ref a) f v) K:=dy (by unfold eJ;simp![e1];rw[fm m]) q
def GS{fs:List (String×Val)}(e1:h a=df (.ins C fs))(e:fs.lookup f=df v)(q:K v):go (eF h (.ref a) f) K:=dy (by unfold eF dZ;simp![e1,insOf,ï];exact e) q
variable {P:Prop}
def FU{m:String}{fs:List (String×Val)}(e1:h a=df (.ins C fs))(e:fs.lookup m=dg)(q:P):clsV h (.ref a) m=df C/\P:=⟨by unfold clsV dZ;simp![e1,insOf,ï,e,Option.isNone_none,if_true],q⟩
def ag_add(q:K<|.int<|i+j):go (augV .add (.int i)<|.int j) K:=dy rfl q
def ln_lst(e1:h a=df (.lst xs))(q:Q (.int xs.length) h):(biV h .len [.ref a]).wp h Q:=wp_val (by show eK h (.ref a)=_;unfold eK;dsimp only;rw[e1]) q
def Po(q:Q (.int ns.length) h):(biV h .len [.scr ns]).wp h Q:=wp_val rfl q
def ln_tup(q:Q (.int xs.length) h):(biV h .len [.tup xs]).wp h Q:=wp_val rfl q
def in_str(m:s.length<=640/\s.toList≠[]/\s.toList.all figB=dh)(q:Q (.int<|decN s.toList) h):(biV h .int [.str s]).wp h Q:=wp_val (fm m) q
def PU{K:String->Prop}(q:K s):go (IJ<|.str s) K:=dy rfl q
variable {m:Bm}
def LU(hm:m=.join)(q:P):bmTy h m (.str s)=dh/\P:=⟨by subst hm;rfl,q⟩
def GT{K:(Hs->Prop)×List Val->Prop}(e1:h a=df (.lst xs))(e2:h b=df (.lst ys))(q:K (λg=>dF (g a)=df xs/\dF (g b)=df ys,zipL xs ys)):go (CK h (.ref a)<|.ref b) K:=dy (by unfold CK;simp![e1,e2,dF,ï,Ĭ]) q
def FE{K:(Hs->Prop)×List Val->Prop}(q:K (λ_=>True,zipL xs ys)):go (CK h (.tup xs)<|.tup ys) K:=dy rfl q
def mxL{x:Int}{r:List Int}(e1:h a=df (.lst<|(x::r).map Val.int))(e2:dA ((x::r).map Val.int)=df (x::r))(q:Q (.int<|maxI<|x::r) h):(biV h .maxL [.ref a]).wp h Q:=wp_val (by show biMaxL h (.ref a)=_;unfold biMaxL pairI intsAt;simp![e1,dF,ï];rw[e2]) q
def LV(q:Q (.int i) h):(biV h .int [.int i]).wp h Q:=wp_val rfl q
def in_bl(q:Q (.int<|if c then 1 else 0) h):(biV h .int [.bl c]).wp h Q:=wp_val rfl q
def Ny{Ts:List String}(e:isiAny h v Ts=df c)(q:Q (.bl c) h):(biV h (.isi Ts) [v]).wp h Q:=wp_val (by show Rs.ofO ((isiAny h v Ts).map .bl)=_;rw[e];rfl) q
def ls_lst(e1:h a=df (.lst xs))(q:new h (.lst xs) Q):(biV h .list [.ref a]).wp h Q:=wp_new (by show toList h (.ref a)=_;unfold toList;dsimp only;rw[e1]) q
def Pk(q:new h (.lst xs) Q):(biV h .list [.tup xs]).wp h Q:=wp_new rfl q
variable {lo:Option Int} {hi:Option Int}
def eM(n:¬ (d6 xs.length 0 lo=0/\d6 xs.length xs.length hi=xs.length))(q:Q (.tup<|cut xs lo hi) h):(ek h (.tup xs) lo hi).wp h Q:=wp_val (by unfold ek;simp only;rw[fo n]) q
def Hr(hm:m.ty=.l\/m.ty=.t)(e:h a=df (.lst xs))(q:P):bmTy h m (.ref a)=dh/\P:=⟨by unfold bmTy;rcases hm with hm|hm<;>rw[hm]<;>simp[Je,e,isLst],q⟩
def FJ(hm:m.ty=.d)(e:h a=df (.dct kvs))(q:P):bmTy h m (.ref a)=dh/\P:=⟨by unfold bmTy;rw[hm];simp[Je,e,isDct],q⟩
abbrev Iz:Bi->Bool
 |.sorted=>dh
 |.sortedI=>dh
 |_=>di
def Hm{f:Bi}(hf:Iz f=dh)(e:sortAny h v=df ns)(m:ns.length<64)(q:new h (.lst<|(sortI ns).map Val.int) Q):(biV h f [v]).wp h Q:=by
 cases f with
 |sorted=>exact wp_new (by show biSorted h v=_;unfold biSorted;simp![e];exact fm m) q
 |sortedI=>exact wp_new (by show XS h v=_;unfold XS;simp![e];exact fm m) q
 |_=>cases hf
def KK{f:Bi}(e1:h a=df (.dct kvs))(e2:keysOf kvs=df ns)(m:ns.length<64)(q:new h (.lst<|(sortI ns).map Val.int) Q)(hf:Iz f=dh:=by rfl):(biV h f [.ref a]).wp h Q:=Hm hf (by unfold sortAny;simp![e1,e2]) m q
def DP{rows:List (List Int)}(e1:h a=df (.lst xs))(e0:dA xs=dg)(e2:rowsOf xs=df rows)(m:rows.length<64/\(rows.all λr=>!r.isEmpty)=dh)(q:new h (.lst<|(sortR rows).map λr=>.tup<|r.map .int) Q):(biV h .sorted [.ref a]).wp h Q:=wp_new (by show biSorted h (.ref a)=_;unfold biSorted sortAny;simp![e1,e0];unfold biSortedR rowsAt;simp![e1,dF,ï,e2];exact fm m) q
def Gz(e1:h a=df (.lst []))(q:Q .non h):(biV h .minD [.ref a]).wp h Q:=wp_val (by show eL h (.ref a)=_;unfold eL;simp![e1,dF,ï,rowsOf]) q
def CT{x:List Int}{r:List (List Int)}(e1:h a=df (.lst xs))(e2:rowsOf xs=df (x::r))(q:Q (.tup<|(minR x r).map Val.int) h):(biV h .minD [.ref a]).wp h Q:=wp_val (by show eL h (.ref a)=_;unfold eL;simp![e1,dF,ï,e2]) q
def sl_str(n:s.length<=lim)(q:Q (.str<|ŷ<|cut s.toList lo hi) h):(ek h (.str s) lo hi).wp h Q:=wp_val (by unfold ek;simp only;rw[fm n]) q
def Pq(e1:h a=df (.lst xs))(q:new h (.lst<|cut xs lo hi) Q):(ek h (.ref a) lo hi).wp h Q:=wp_new (by unfold ek;simp![e1,dF]) q
def sl_scr(q:new h (.lst<|cut (ns.map Val.int) lo hi) Q):(ek h (.scr ns) lo hi).wp h Q:=wp_new rfl q
def Yj{K:Val×Hs->Prop}(e1:h a=df (.lst xs))(m:xs.length<lim)(q:K (.non,upd h a<|.lst<|xs++[v])):go (bmV h .append (.ref a) [v]) K:=dy (by show(dF<|h a).bind _=_;rw[lsE e1];exact fm m) q
def GM{K:Val×Hs->Prop}(e1:h a=df (.dct kvs))(hk:dM v=dh)(q:K ((dO kvs v).getD .non,h)):go (bmV h .dget (.ref a) [v]) K:=dy (by show(fe<|h a).bind _=_;rw[dcE e1];exact fm hk) q
def it_lst{K:(Hs->Prop)×List Val->Prop}(e1:h a=df (.lst xs))(q:K (λg=>dF (g a)=df xs,xs)):go (itV h<|.ref a) K:=dy (by unfold itV;simp![e1,dF,Ĭ]) q
def it_scr{K:(Hs->Prop)×List Val->Prop}(q:K (λ_=>True,ns.map Val.int)):go (itV h<|.scr ns) K:=dy rfl q
def it_tup{K:(Hs->Prop)×List Val->Prop}(q:K (λ_=>True,xs)):go (itV h<|.tup xs) K:=dy rfl q
def L4{K:List Val->Prop}(q:K xs):go (An h<|.tup xs) K:=dy rfl q
def PK{K:List Val->Prop}(e1:h a=df (.lst xs))(q:K xs):go (An h<|.ref a) K:=dy (by unfold An;simp![e1,dF]) q
variable {A:Prop} {B:Prop}
def eN(e:c=dh)(q:A):if c=dh then A else B:=by rw[fm e];exact q
def eP(e:c=di)(q:B):if c=dh then A else B:=by rw[fo<|by rw[e];decide];exact q
def eR(q:c=dh->A)(r:c=di->B):if c=dh then A else B:=by cases c;exact r rfl;exact q rfl
variable {p:Prop}
def eQ[Decidable p](q:p->A)(r:¬p->B):if decide p=dh then A else B:=by
 by_cases e:p
 .rw[fm<|fw e];exact q e
 .rw[fo<|by simpa using e];exact r e
def Mc[Decidable p](q:¬p->A)(r:p->B):if(!decide p)=dh then A else B:=by
 by_cases e:p
 .rw[fo<|by simpa using e];exact r e
 .rw[fm<|by simpa using e];exact q e
end
structure Ext(h g:Hs):Prop where
 get:∀{a:Ad}{o:Ob},h a=df o->g a=df o
variable {h:Hs}
def Ext.refl:Ext h h:=⟨λe=>e⟩
variable {g:Hs}
def Ext.trans{k:Hs}(e:Ext h g)(f:Ext g k):Ext h k:=⟨λx=>f.get<|e.get x⟩
variable {p:Ad} {o:Ob}
def Ext.new(e:h p=dg):Ext h<|upd h p o:=⟨λ{a u} x=>by
  rw[dj<|by intro z;rw[z,e]at x;cases x];exact x⟩
structure ExtB(w:Ad)(h g:Hs):Prop where
 get:∀{a:Ad}{o:Ob},a≠w->h a=df o->g a=df o
variable {w:Ad}
def ExtB.trans{k:Hs}(e:ExtB w h g)(f:ExtB w g k):ExtB w h k:=⟨λn x=>f.get n<|e.get n x⟩
def ExtB.upd:ExtB w h<|upd h w o:=⟨λn x=>by rw[dj n];exact x⟩
def ExtB.of(e:Ext h g):ExtB w h g:=⟨λ_ x=>e.get x⟩
variable {a:Ad}
def Za(x:h a=df o)(n:h p=dg):a≠p:=by intro z;rw[z,n]at x;cases x
def ne_none'(n:h p=dg)(x:h a=df o):a≠p:=Za x n
def upd_ne'{b:Ad}{r:Option Ob}(n:b≠a)(e:h b=r):upd h a o b=r:=by rw[dj n];exact e
inductive Sm2 {α β:Type}(p:α->β->Prop):Prop|mk (a:α) (b:β) (h:p a b)
inductive Sm3 {α β γ:Type}(p:α->β->γ->Prop):Prop|mk (a:α) (b:β) (c:γ) (h:p a b c)
inductive Sm4 {α β γ δ:Type}(p:α->β->γ->δ->Prop):Prop|mk (a:α) (b:β) (c:γ) (d:δ) (h:p a b c d)
inductive Sm5 {α β γ δ ε:Type}(p:α->β->γ->δ->ε->Prop):Prop|mk (a:α) (b:β) (c:γ) (d:δ) (e:ε) (h:p a b c d e)
inductive Cj3 (a b c:Prop):Prop|mk (h1:a) (h2:b) (h3:c)
inductive Cj4 (a b c d:Prop):Prop|mk (h1:a) (h2:b) (h3:c) (h4:d)
inductive Cj5 (a b c d e:Prop):Prop|mk (h1:a) (h2:b) (h3:c) (h4:d) (h5:e)
inductive Cj6 (a b c d e f:Prop):Prop|mk (h1:a) (h2:b) (h3:c) (h4:d) (h5:e) (h6:f)
inductive Cj7 (a b c d e f g:Prop):Prop|mk (h1:a) (h2:b) (h3:c) (h4:d) (h5:e) (h6:f) (h7:g)
inductive Cj8 (a b c d e f g h:Prop):Prop|mk (h1:a) (h2:b) (h3:c) (h4:d) (h5:e) (h6:f) (h7:g) (h8:h)
inductive Cj9 (a b c d e f g h i:Prop):Prop|mk (h1:a) (h2:b) (h3:c) (h4:d) (h5:e) (h6:f) (h7:g) (h8:h) (h9:i)
variable {st:Hs->Prop} {xs:List Val}
def Zm{W:Val->Env->Hs->NQ->NQ->Prop}{N:NQ}(I:Nat->Env->Hs->Prop){env:Env}(h0:I 0 env h)(ű:∀i e g,i<=xs.length->I i e g->st g)
  (step:∀i v e g,xs[i]?=df v->I i e g->∀K:NQ,(∀e' g',I (i+1) e' g'->K e' g')->W v e g K N) (fin:∀e g,I xs.length e g->N e g):wFor st W N xs env h:=by
 have key:∀(ys:List Val) (i:Nat) e g,xs.drop i=ys->i<=xs.length->I i e g->wFor st W N ys e g:=by
  intro ys;induction ys with
  |nil =>
   intro i e g hd hi hI;have:i=xs.length:=by have:=congrArg List.length hd;simp at this;lia
   subst this;exact⟨ű _ e g (Ê _) hI,fin e g hI⟩
  |cons v vs ih =>
   intro i e g hd hi hI;have ϩ:i<xs.length:=by have:=congrArg List.length hd;simp at this;lia
   have hv:xs[i]?=df v:=by have:=congrArg (λl=>l[0]?) hd;simpa using this
   refine⟨ű i e g hi hI,step i v e g hv hI _ λe' g' hI'=>ih (i+1) e' g' ?_ (by lia) hI'⟩;have:=congrArg List.tail hd;simpa using this
 exact key xs 0 env h (by simp) (by lia) h0
variable {Q:List Val->Hs->Prop} {X:XQ}
def AR{step:Val->Hs->(Option Val->Hs->Prop)->XQ->Prop}(I:Nat->List Val->Hs->Prop)(h0:I 0 [] h)(ű:∀i ys g,i<=xs.length->I i ys g->st g)
  (go:∀i v ys g,xs[i]?=df v->I i ys g->∀K,(∀r g',I (i+1) (ys++r.toList) g'->K r g')->step v g K X) (fin:∀ys g,I xs.length ys g->Q ys g):wComp st step xs [] h Q X:=by
 have key:∀(zs:List Val) (i:Nat) ys g,xs.drop i=zs->i<=xs.length->I i ys g->wComp st step zs ys g Q X:=by
  intro zs;induction zs with
  |nil =>
   intro i ys g hd hi hI;have:i=xs.length:=by have:=congrArg List.length hd;simp at this;lia
   subst this;exact⟨ű _ ys g (Ê _) hI,fin ys g hI⟩
  |cons v vs ih =>
   intro i ys g hd hi hI;have ϩ:i<xs.length:=by have:=congrArg List.length hd;simp at this;lia
   have hv:xs[i]?=df v:=by have:=congrArg (λl=>l[0]?) hd;simpa using this
   refine⟨ű i ys g hi hI,go i v ys g hv hI _ λr g' hI'=>ih (i+1) _ g' ?_ (by lia) hI'⟩;have:=congrArg List.tail hd;simpa using this
 exact key xs 0 [] h (by simp) (by lia) h0
def J5{step:Val->Hs->(Option Val->Hs->Prop)->XQ->Prop}(f:Val->Option Val)(ű:st h)
  (go:∀v∈xs,∀K,K (f v) h->step v h K X) (fin:Q (xs.filterMap f) h):wComp st step xs [] h Q X:=by
 have key:∀(zs ys:List Val),(∀v∈zs,v∈xs)->Q (ys++zs.filterMap f) h->wComp st step zs ys h Q X:=by
  intro zs;induction zs with
  |nil=>intro ys _ q;exact⟨ű,⇑q⟩
  |cons v vs ih =>
   intro ys hm q;refine⟨ű,go v (hm v<|by simp) _<|ih _ (λw hw=>hm w<|by simp[hw]) ?_⟩;cases e:f v with
   |none=>simpa[č,e]using q
   |some u=>simpa[č,e]using q
 exact key xs [] (λ_ h=>h) ⇑fin
section
variable {Z:Fs}{env:Env}{h:Hs}{Q:Q1}{X:XQ}{a b c e o:E}{as:Es}{v u:Val}
variable {es:Es}
def q_e_dct:(wE Z (.dct es) env h Q X)=(new h (.dct []) λr h1=>go (dZ r) λp=>wA Z es env h1 (λvs h2=>go (pairUp vs) λkvs=>h2 p=df (.dct [])/\Q (.ref p) (upd h2 p<|.dct<|putAll [] kvs)) X):=by show Mi _ _ _ _=_;unfold Mi;rfl
variable {QA:List Val->Hs->Prop}{QO:Option Int->Hs->Prop}{QT:Bool->Hs->Prop}{QI:(Hs->Prop)->List Val->Hs->Prop}
def q_a_nil:(wA Z .nil env h QA X)=(QA [] h):=rfl
def q_a_cons:(wA Z (.cons e es) env h QA X)=(wE Z e env h (λv h1=>wA Z es env h1 (λvs h2=>QA (v::vs) h2) X) X):=rfl
end
def OC{α:Type}{o:Option α}{k k':α->Prop}(h:go o k)(f:∀a,k a->k' a):go o k':=by
 cases o with
 |none=>rw[Cw]at h;exact h.elim
 |some a=>rw[dr]at h ⊢;exact f a h
section
variable {Z:Fs}{env:Env}{h:Hs}{Q:Q1}{X:XQ}{a:Ad}{v:Val}{kvs:List (Val×Val)}
def Fy(q:∀p,h p=dg->Q (.ref p) (upd h p<|.dct [])):wE Z (.dct .nil) env h Q X:=by refine Iu<|Ze λp hp=>g_ref<|IR<|dy rfl ⟨dm,?_⟩;rw[dq];exact q p hp
def dw0(q:∀p,h p=dg->Q (.ref p) (upd h p<|.dct [])):Mi (xA Z .nil env) h Q X:=Fy q
def dw{F:Hs->(List Val->Hs->Prop)->XQ->Prop}(q:new h (.dct []) λr h1=>go (dZ r) λp=>F h1 (λvs h2=>go (pairUp vs) λkvs=>h2 p=df (.dct [])/\Q (.ref p) (upd h2 p<|.dct<|putAll [] kvs)) X):Mi F h Q X:=by unfold Mi;exact q
def Ld{i:Nat}{K:Val->Prop}(g:getV env i=df v)(q:K v):go (getV env i) K:=dy g q
def dc_of{K:List (Val×Val)->Prop}(e1:h a=df (.dct kvs))(q:K kvs):go (fe<|h a) K:=dy (dcE e1) q
variable {u:Val}
def MP{K:Val->Prop}{k:Val}(e1:h a=df (.frz kvs))(hk:dM k=dh)(e:dO kvs k=df u)(q:K u):go (eh h (.ref a) k) K:=dy (by unfold eh;simp![e1];rw[fm hk];exact e) q
def NK{K:Val×Hs->Prop}(e1:h a=df (.dct kvs))(hk:dM v=dh)(q:K ((dO kvs v).getD u,upd h a<|.dct<|dR kvs v)):go (bmV h .dpopD (.ref a) [v,u]) K:=dy (by show(fe<|h a).bind _=_;rw[dcE e1];exact fm hk) q
end
end O
namespace Snd
open PySem L2
abbrev KT(K:Frag)(a:Ç)(xs:List V):Prop :=
 ∃(o:Obj) (ð:Array Ã) (n:Nat),K.lookup a=df o/\o.cls=.type "tuple"/\o.data=.seq ð n/\ð.size<=Ø/\fc xs ð.toList
abbrev KL(K:Frag)(a:Ç)(xs:List V):Prop :=
 ∃(o:Obj) (ð:Array Ã) (n:Nat),K.lookup a=df o/\o.cls=.type "list"/\o.dict=dg/\o.data=.seq ð n/\ð.size<=Ø/\fc xs ð.toList
mutual
inductive RV (K:Frag) (H:Hp):O.Val->V->Prop
 |non:RV K H .non .non
 |bl (b:Bool):RV K H (.bl b)<|.bl b
 |int (i:Int):RV K H (.int i)<|.int i
 |str (s:String):RV K H (.str s)<|.str<|fE s
 |tup {xs:List O.Val}{a:Ç}{vs:List V}:(H a=df (.tup vs)\/KT K a vs)->RVs K H xs vs->RV K H (.tup xs) (.ref a)
 |ref (a:Ç):RV K H (.ref a)<|.ref a
 |scr {ns:List Int}{a:Ç}:((∃o,H a=df (.frz o<|.lst<|ns.map V.int))\/KL K a (ns.map V.int))->RV K H (.scr ns) (.ref a)
 |key {i j:Int}{a:Ç}:H a=df (.tup [.int i,.int j])->RV K H (.key i j) (.ref a)
inductive RVs (K:Frag) (H:Hp):List O.Val->List V->Prop
 |nil:RVs K H [] []
 |cons {v:O.Val}{x:V}{vs:List O.Val}{xs:List V}:RV K H v x->RVs K H vs xs->RVs K H (v::vs) (x::xs)
end
structure dN(H H':Hp):Prop where
 t:∀a xs,H a=df (.tup xs)->H' a=df (.tup xs)
 f:∀a o u,H a=df (.frz o u)->H' a=df (.frz o u)
def dN.refl(H:Hp):dN H H:=⟨λ_ _ e=>e,λ_ _ _ e=>e⟩
variable {H:Hp}
def dN.trans{H1 H2:Hp}(a:dN H H1)(b:dN H1 H2):dN H H2:=⟨λc xs e=>b.t c xs<|a.t c xs e,λc o u e=>b.f c o u<|a.f c o u e⟩
variable {a:Ç} {o:HO}
def dN.put(h:∀xs,H a≠df (.tup xs))(h2:∀p u,H a≠df (.frz p u)):dN H<|upd H a o:=⟨λb xs e=>by
  rw[dj<|by rintro rfl;exact h xs e];exact e,λb p u e=>by rw[dj<|by rintro rfl;exact h2 p u e];exact e⟩
def dN.new(h:H a=dg):dN H<|upd H a o:=dN.put (λxs e=>by rw[h]at e;cases e) λp u e=>by rw[h]at e;cases e
variable {K:Frag}{H H':Hp}
mutual
theorem RV.keep(k:dN H H'):∀{v:O.Val}{x:V},RV K H v x->RV K H' v x
 |_,_,.non=>.non
 |_,_,.bl b=>.bl b
 |_,_,.int i=>.int i
 |_,_,.str s=>.str s
 |_,_,.tup (.inl e) r=>.tup (.inl<|k.t _ _ e)<|RVs.keep k r
 |_,_,.tup (.inr e) r=>.tup (.inr e)<|RVs.keep k r
 |_,_,.ref a=>.ref a
 |_,_,.scr (.inl ⟨o,e⟩)=>.scr<|.inl ⟨o,k.f _ _ _ e⟩
 |_,_,.scr (.inr e)=>.scr<|.inr e
 |_,_,.key e=>.key<|k.t _ _ e
theorem RVs.keep(k:dN H H'):∀{vs:List O.Val}{xs:List V},RVs K H vs xs->RVs K H' vs xs
 |_,_,.nil=>.nil
 |_,_,.cons r t=>.cons (RV.keep k r)<|RVs.keep k t
end
def RVs.length:∀{vs:List O.Val}{xs:List V},RVs K H vs xs->vs.length=xs.length
 |_,_,.nil=>rfl
 |_,_,.cons _ t=>by rw[Î,Î,RVs.length t]
def RVs.get:∀{vs:List O.Val}{xs:List V}{i:Nat}{v:O.Val},RVs K H vs xs->vs[i]?=df v->∃x,xs[i]?=df x/\RV K H v x
 |_,_,_,_,.nil,e=>by simp at e
 |_,_,0,_,.cons r _,e=>by simp at e;subst e;exact⟨_,rfl,r⟩
 |_,_,i+1,v,.cons _ t,e=>by let⟨x,h1,h2⟩:=RVs.get (i:=i) (v:=v) t ⇑e;exact⟨x,⇑h1,h2⟩
def RVs.append:∀{vs us:List O.Val}{xs ys:List V},RVs K H vs xs->RVs K H us ys->RVs K H (vs++us) (xs++ys)
 |_,_,_,_,.nil,h=>h
 |_,_,_,_,.cons r t,h=>.cons r<|RVs.append t h
def RVs.set{v:O.Val}{x:V}(r:RV K H v x):∀{vs:List O.Val}{xs:List V}(i:Nat),RVs K H vs xs->RVs K H (vs.set i v) (xs.set i x)
 |_,_,_,.nil=>.nil
 |_,_,0,.cons _ t=>.cons r t
 |_,_,i+1,.cons q t=>.cons q<|RVs.set r i t
def RVs.take:∀{vs:List O.Val}{xs:List V}(n:Nat),RVs K H vs xs->RVs K H (vs.take n) (xs.take n)
 |_,_,0,_=>.nil
 |_,_,_+1,.nil=>.nil
 |_,_,n+1,.cons r t=>.cons r<|RVs.take n t
def RVs.drop:∀{vs:List O.Val}{xs:List V}(n:Nat),RVs K H vs xs->RVs K H (vs.drop n) (xs.drop n)
 |_,_,0,r=>r
 |_,_,_+1,.nil=>.nil
 |_,_,n+1,.cons _ t=>RVs.drop n t
def RVs.eraseIdx:∀{vs:List O.Val}{xs:List V}(i:Nat),RVs K H vs xs->RVs K H (vs.eraseIdx i) (xs.eraseIdx i)
 |_,_,_,.nil=>.nil
 |_,_,0,.cons _ t=>t
 |_,_,i+1,.cons q t=>.cons q<|RVs.eraseIdx i t
def Zl{vs:List V}(h:H a=df (.tup vs)\/KT K a vs):eZ K H a vs:=by
 rcases h with h|h
 .exact eZ.of h
 .exact .inr h
structure Inf where
 K:Frag
 cl:String->Ç->Prop
 ins:String->Bool
 xc:String->Ç->Prop
abbrev X0:O.Val->Key->Prop
 |.int i,.inl j=>i=j
 |.str s,.inr t=>t=fE s
 |_,_=>False
inductive RKs (K:Frag) (H:Hp):List (O.Val×O.Val)->List (Key×V)->Prop
 |nil:RKs K H [] []
 |cons {k v:O.Val}{c:Key}{x:V}{kvs:List (O.Val×O.Val)}{ps:List (Key×V)}:X0 k c->RV K H v x->RKs K H kvs ps->RKs K H ((k,v)::kvs) ((c,x)::ps)
inductive RFs (K:Frag) (H:Hp):List (String×O.Val)->List (Str×V)->Prop
 |nil:RFs K H [] []
 |cons {f:String}{v:O.Val}{x:V}{fs:List (String×O.Val)}{ps:List (Str×V)}:RV K H v x->RFs K H fs ps->RFs K H ((f,v)::fs) ((fE f,x)::ps)
def RKs.keep(k:dN H H'):∀{kvs:List (O.Val×O.Val)}{ps:List (Key×V)},RKs K H kvs ps->RKs K H' kvs ps
 |_,_,.nil=>.nil
 |_,_,.cons a r t=>.cons a (r.keep k)<|RKs.keep k t
inductive RTs (K:Frag) (H:Hp):List (O.Val×O.Val)->List (List Key×V)->Prop
 |nil:RTs K H [] []
 |cons {i j:Int}{v:O.Val}{x:V}{kvs:List (O.Val×O.Val)}{ps:List (List Key×V)}:RV K H v x->RTs K H kvs ps->RTs K H ((.key i j,v)::kvs) (([.inl i,.inl j],x)::ps)
def RTs.keep(k:dN H H'):∀{kvs:List (O.Val×O.Val)}{ps:List (List Key×V)},RTs K H kvs ps->RTs K H' kvs ps
 |_,_,.nil=>.nil
 |_,_,.cons r t=>.cons (r.keep k)<|RTs.keep k t
def RFs.keep(k:dN H H'):∀{fs:List (String×O.Val)}{ps:List (Str×V)},RFs K H fs ps->RFs K H' fs ps
 |_,_,.nil=>.nil
 |_,_,.cons r t=>.cons (r.keep k)<|RFs.keep k t
abbrev RO(i:Inf)(H:Hp)(a:Ç):O.Ob->Prop
 |.lst xs=>∃vs,H a=df (.lst vs)/\RVs i.K H xs vs
 |.dct kvs=>∃ps,H a=df (.dK ps)/\RKs i.K H kvs ps
 |.ins C fs=>∃c dx ps,i.ins C=dh/\i.cl C c/\H a=df (.ins c dx ps)/\RFs i.K H fs ps
 |.exc C=>∃c,i.xc C c/\H a=df (xcO a<|.ref c)
 |.frz kvs=>∃o ps,H a=df (.frz o<|.dK ps)/\RKs i.K H kvs ps
 |.dtp kvs=>∃ps,H a=df (.dT ps)/\RTs i.K H kvs ps
variable {i:Inf}
def RO.there{o:O.Ob}(r:RO i H a o):∃u,H a=df u:=by
 cases o with
 |lst xs=>let⟨_,e,_⟩:=r;exact⟨_,e⟩
 |dct kvs=>let⟨_,e,_⟩:=r;exact⟨_,e⟩
 |ins C fs=>let⟨_,_,_,_,_,e,_⟩:=r;exact⟨_,e⟩
 |exc C=>let⟨_,_,e⟩:=r;exact⟨_,e⟩
 |frz kvs=>let⟨_,_,e,_⟩:=r;exact⟨_,e⟩
 |dtp kvs=>let⟨_,e,_⟩:=r;exact⟨_,e⟩
def RO.move{o:O.Ob}(r:RO i H a o)(k:dN H H')(e:H' a=H a):RO i H' a o:=by
 cases o with
 |lst xs=>let⟨vs,q,r⟩:=r;exact⟨vs,e.trans q,r.keep k⟩
 |dct kvs=>let⟨ps,q,r⟩:=r;exact⟨ps,e.trans q,r.keep k⟩
 |ins C fs=>let⟨c,dx,ps,h0,h,q,r⟩:=r;exact⟨c,dx,ps,h0,h,e.trans q,r.keep k⟩
 |exc C=>let⟨c,h,q⟩:=r;exact⟨c,h,e.trans q⟩
 |frz kvs=>let⟨o,ps,q,r⟩:=r;exact⟨o,ps,e.trans q,r.keep k⟩
 |dtp kvs=>let⟨ps,q,r⟩:=r;exact⟨ps,e.trans q,r.keep k⟩
abbrev RH(i:Inf)(G:O.Hs)(H:Hp):Prop:=∀a o,G a=df o->RO i H a o
variable {G:O.Hs}
def RH.free(r:RH i G H)(e:H a=dg):G a=dg:=by
 cases q:G a with
 |none=>rfl
 |some o=>let⟨u,z⟩:=(r a o q).there;rw[e]at z;cases z
def RH.put{o:O.Ob}{u:HO}(r:RH i G H)(k:dN H<|upd H a u)(n:RO i (upd H a u) a o):RH i (O.upd G a o)<|upd H a u:=λb p e=>by
 by_cases hb:b=a
 .subst hb;rw[O.dm]at e;cases e;exact n
 .rw[O.dj hb]at e;exact(r b p e).move k<|dj hb
def RH.hid(r:RH i G H)(k:dN H H')(e:∀a o,G a=df o->H' a=H a):RH i G H':=λb p q=>(r b p q).move k (e b p q)
structure REn(K:Frag)(H:Hp)(env:O.Env)(σ:St):Prop where
 len:env.length=σ.length
 get:∀(i:Nat) (v:O.Val),env[i]?=df (df v)->∃x,σ[i]?=df (df x)/\RV K H v x
variable {σ:St}
def REn.keep{env:O.Env}(r:REn K H env σ)(k:dN H H'):REn K H' env σ:=⟨r.len,λi v e=>by
  let⟨x,h1,h2⟩:=r.get i v e
  exact⟨x,h1,h2.keep k⟩⟩
def REn.set{env:O.Env}{v:O.Val}{x:V}(r:REn K H env σ)(q:RV K H v x)(j:Nat):REn K H (env.set j<|df v)<|σ.set j<|df x:=⟨by simp[r.len],λi u e=>by
  by_cases aL:j=i
  . subst aL
    rw[List.getElem?_set_self']at e
    cases z:env[j]? with
    |none=>rw[z]at e;cases e
    |some w =>
      rw[z]at e
      cases e
      have hj:j<σ.length:=by rw[<-r.len];exact(Ò.mp z).1
      exact⟨x,ρ hj,q⟩
  . rw[Ţ aL]at e
    let⟨y,h1,h2⟩:=r.get i u e
    exact⟨y,by rw[Ţ aL];exact h1,h2⟩⟩
def REn.start{vs:List O.Val}{xs:List V}{n:Nat}(r:RVs K H vs xs):REn K H (vs.map df++Ó n dg)<|xs.map df++Ó n dg:=⟨by simp[r.length],λi v e=>by
  by_cases hi:i<vs.length
  . rw[ÿ ⇑hi,ã]at e
    cases z:vs[i]? with
    |none=>rw[z]at e;cases e
    |some w =>
      rw[z]at e
      cases e
      let⟨x,h1,h2⟩:=r.get z
      exact⟨x,by rw[ÿ (by rw[Á,<-r.length];exact hi),ã,h1];rfl,h2⟩
  . rw[ć ⇑hi,ĸ]at e
    split at e<;>cases e⟩
def RVs.ints{K:Frag}{H:Hp}:∀ns:List Int,RVs K H (ns.map O.Val.int) (ns.map V.int)
 |[]=>.nil
 |n::ns=>.cons (.int n)<|RVs.ints ns
def Ye{ns:List Int}(h:(∃o,H a=df (.frz o<|.lst<|ns.map V.int))\/KL K a (ns.map V.int)):eY K H a<|ns.map V.int:=by
 rcases h with⟨o,h⟩|h
 .exact .inl<|.inr ⟨o,h⟩
 .exact .inr h
variable {i:Inf}{X:Cx}{Z:O.Fs}
abbrev XK1(i:Inf)(H:Hp)(Em:O.XQ):XK:=λcls _ H'=>∃c G' ad,cls=.ref ad/\i.xc c ad/\dN H H'/\RH i G' H'/\Em c G'
abbrev XOk(X:Cx)(i:Inf)(H:Hp)(Em:O.XQ):Prop:=XW X<|XK1 i H Em
variable {H:Hp} {H1:Hp} {Em:O.XQ}
def XK1.go{H':Hp}{cls:Ã}{d:Option Ç}(k:dN H H1)(h:XK1 i H1 Em cls d H'):XK1 i H Em cls d H':=by let⟨c,G',ad,e,q,k',r,m⟩:=h;exact⟨c,G',ad,e,q,k.trans k',r,m⟩
def XOk.go(x:XOk X i H Em)(k:dN H H1):XOk X i H1 Em:=λÂ σ H0 s H' a cls s' I f e=>x Â σ H0 s H' a cls s' I f (e.go k)
structure Pre(X:Cx)(i:Inf)(σ:St)(H:Hp)(env:O.Env)(G:O.Hs)(Em:O.XQ):Prop where
 en:REn i.K H env σ
 hp:RH i G H
 xo:XOk X i H Em
variable {σ:St} {G:O.Hs}
def Pre.go{env:O.Env}{G1:O.Hs}(p:Pre X i σ H env G Em)(k:dN H H1)(r:RH i G1 H1):Pre X i σ H1 env G1 Em:=⟨p.en.keep k,r,p.xo.go k⟩
abbrev Cn(i:Inf)(H:Hp)(Q:VK)(Qm:O.Q1):Prop:=∀v G' H' x,dN H H'->RH i G' H'->RV i.K H' v x->Qm v G'->Q x H'
variable {Q:VK} {Qm:O.Q1}
def Cn.go(c:Cn i H Q Qm)(k:dN H H1):Cn i H1 Q Qm:=λv G' H' x k'=>c v G' H' x (k.trans k')
inductive tEx (X:Cx) (i:Inf) (Z:O.Fs) (m:O.E) (σ:St) (H:Hp) (Q:VK):Prop
 |mk (env:O.Env) (G:O.Hs) (Qm:O.Q1) (Em:O.XQ) (p:Pre X i σ H env G Em) (w:O.wE Z m env G Qm Em) (c:Cn i H Q Qm)
abbrev tE(X:Cx)(i:Inf)(Z:O.Fs)(m:O.E):TE:=tEx X i Z m
inductive tArx (X:Cx) (i:Inf) (Z:O.Fs) (ms:O.Es) (n:Nat) (σ:St) (H:Hp) (Q:List V->Hp->Prop):Prop
 |mk (env:O.Env) (G:O.Hs) (Qm:List O.Val->O.Hs->Prop) (Em:O.XQ) (p:Pre X i σ H env G Em) (w:O.wA Z ms env G Qm Em) (c:∀vs G' H' xs,dN H H'->RH i G' H'->RVs i.K H' vs xs->xs.length=n->Qm vs G'->Q xs H')
abbrev tAr(X:Cx)(i:Inf)(Z:O.Fs)(ms:O.Es)(n:Nat):TA:=tArx X i Z ms n
inductive tTtx (X:Cx) (i:Inf) (Z:O.Fs) (m:O.Tt) (σ:St) (H:Hp) (Q:Bool->Hp->Prop):Prop
 |mk (env:O.Env) (G:O.Hs) (Qm:Bool->O.Hs->Prop) (Em:O.XQ) (p:Pre X i σ H env G Em) (w:O.wT Z m env G Qm Em) (c:∀b G' H',dN H H'->RH i G' H'->Qm b G'->Q b H')
abbrev tTt(X:Cx)(i:Inf)(Z:O.Fs)(m:O.Tt):TT:=tTtx X i Z m
variable {e:Expr}
def _root_.L2.PE.imp{t t':TE}(h:PE X e t)(f:∀σ H Q,t' σ H Q->t σ H Q):PE X e t':=λÂ s σ H Q I q=>h Â s σ H Q I (f σ H Q q)
variable {t':TT}
def _root_.L2.PT.imp{t:TT}(h:PT X e t)(f:∀σ H Q,t' σ H Q->t σ H Q):PT X e t':=λÂ s σ H Q I q=>h Â s σ H Q I (f σ H Q q)
def _root_.L2.PW.imp{t:TT}(h:PW X e t)(f:∀σ H Q,t' σ H Q->t σ H Q):PW X e t':=λwh Â s σ H Q I q=>h wh Â s σ H Q I (f σ H Q q)
variable {es:List Expr}
def _root_.L2.PA.imp{t t':TA}(h:PA X es t)(f:∀σ H Q,t' σ H Q->t σ H Q):PA X es t':=λç Â s σ H Q I q=>h ç Â s σ H Q I (f σ H Q q)
variable {j:Nat}
def IA{env:O.Env}{h:O.Hs}{Q:O.Q1}{E:O.XQ}:(O.wE Z (.var j) env h Q E)=(O.go (O.getV env j) λv=>Q v h):=rfl
def dr{α:Type}{o:Option α}{k:α->Prop}(h:O.go o k):∃a,o=df a/\k a:=by
 cases o with
 |none=>simp at h
 |some a=>exact⟨a,rfl,⇑h⟩
def Uz{env:O.Env}{v:O.Val}(h:O.getV env j=df v):env[j]?=df (df v):=by
 unfold O.getV at h;split at h
 .rename_i u e;cases h;exact e
 .cases h
variable {ç:Pos}
def LB{x:Str}(hN:X.N[j]?=df x)(hv:Vis X.env.scope x)(hd:(x==("__debug__" : Str))=di)(ax:(x==("__classdict__" : Str))=di):PE X (.Name x ç) (tE X i Z<|.var j) :=
 (FK hN hv hd ax).imp λσ H Q ⟨env,G,Qm,Em,p,w,c⟩=>by rw[IA]at w;let⟨v,e,q⟩:=dr w;let⟨y,h1,h2⟩:=p.en.get j v<|Uz e;exact⟨y,h1,c v G H y (dN.refl H) p.hp h2 q⟩
variable {x:V}
def Wl{v:O.Val}(h:PE X e<|tC x)(r:∀H,RV i.K H v x):PE X e (tE X i Z<|.cst v) :=
 h.imp λσ H Q ⟨env,G,Qm,Em,p,w,c⟩=>by exact c v G H x (dN.refl H) p.hp (r H) w
def Fu{y:String}{v:O.Val}(h:PE X e<|tC x)(r:∀H,RV i.K H v x):PE X e (tE X i Z<|.glob y v) :=
 h.imp λσ H Q ⟨env,G,Qm,Em,p,w,c⟩=>by exact c v G H x (dN.refl H) p.hp (r H) w
variable {a:O.E}
def two{b:O.E}{env:O.Env}{F:O.Val->O.Val->O.Hs->Prop}{R:V->V->Hp->Prop}(p:Pre X i σ H env G Em)
  (w:O.wE Z a env G (λv G1=>O.wE Z b env G1 (λu G2=>F v u G2) Em) Em)
  (h:∀v u G2 H2 x y,dN H H2->Pre X i σ H2 env G2 Em->RV i.K H2 v x->RV i.K H2 u y->F v u G2->R x y H2):tE X i Z a σ H λx H1=>tE X i Z b σ H1 λy H2=>R x y H2 :=
 ⟨env,G,_,Em,p,w,λv G1 H1 x k1 g1 r1 w1=>⟨env,G1,_,Em,p.go k1 g1,w1,λu G2 H2 y k2 g2 r2 w2=>h v u G2 H2 x y (k1.trans k2) ((p.go k1 g1).go k2 g2) (r1.keep k2) r2 w2⟩⟩
def one{env:O.Env}{F:O.Val->O.Hs->Prop}{R:V->Hp->Prop}(p:Pre X i σ H env G Em)
  (w:O.wE Z a env G (λv G1=>F v G1) Em) (h:∀v G1 H1 x,dN H H1->Pre X i σ H1 env G1 Em->RV i.K H1 v x->F v G1->R x H1):tE X i Z a σ H λx H1=>R x H1 :=
 ⟨env,G,_,Em,p,w,λv G1 H1 x k1 g1 r1 w1=>h v G1 H1 x k1 (p.go k1 g1) r1 w1⟩
abbrev W8(i:Inf)(op:O.Bop)(r:R2):Prop:=∀(v u:O.Val) (G:O.Hs) (H:Hp) (x y:V) (Q:VK) (Qm:O.Q1),RH i G H->RV i.K H v x->RV i.K H u y->(O.binV G op v u).wp G Qm->Cn i H Q Qm->r x y H Q
variable {b:Expr} {ma:O.E} {mb:O.E} {r:R2}
def JU{a:Expr}{op:ae}{bop:O.Bop}(ho:OpR X (ĳ op) r)(hr:W8 i bop r)(ha:PE X a<|tE X i Z ma)(hb:PE X b<|tE X i Z mb):PE X (.BinOp a op b ç) (tE X i Z<|.bin bop ma mb) :=
 (IT ho ha hb).imp λσ H Q ⟨env,G,Qm,Em,p,w,c⟩=>by exact two p w λv u G2 H2 x y k2 p2 rx ry q=>hr v u G2 H2 x y Q Qm p2.hp rx ry q<|c.go k2
abbrev ZY(i:Inf)(op:O.Cop)(r:R2):Prop:=∀(v u:O.Val) (G:O.Hs) (H:Hp) (x y:V) (c:Bool) (Q:VK),RH i G H->RV i.K H v x->RV i.K H u y->O.dL G op v u=df c->Q (.bl c) H->r x y H Q
variable {op:aM} {cop:O.Cop}
def Hz{a:Expr}(ho:OpR X (ê op) r)(hr:ZY i cop r)(ha:PE X a<|tE X i Z ma)(hb:PE X b<|tE X i Z mb)(hm:ĩ op b=di):PE X (.Compare a [op] [b] ç) (tE X i Z<|.cmp cop ma mb) :=
 (Oz ho ha hb hm).imp λσ H Q ⟨env,G,Qm,Em,p,w,c⟩=>by
  exact two p w λv u G2 H2 x y k2 p2 rx ry q=>by let⟨d,e,q⟩:=dr q;exact hr v u G2 H2 x y d Q p2.hp rx ry e<|c (.bl d) G2 H2 (.bl d) k2 p2.hp (.bl d) q
def GK{a:Expr}(ho:OpR X (ê op) r)(hr:ZY i cop r)(ha:PE X a<|tE X i Z ma)(hb:PE X b<|tE X i Z mb)(hm:ĩ op b=di):PT X (.Compare a [op] [b] ç) (tTt X i Z<|.val<|.cmp cop ma mb) :=
 (Oc ho ha hb hm).imp λσ H Q ⟨env,G,Qm,Em,p,w,c⟩=>by
  exact two p w λv u G2 H2 x y k2 p2 rx ry q=>by let⟨d,e,q⟩:=dr q;let⟨d',e',q⟩:=dr q;cases e';exact hr v u G2 H2 x y d _ p2.hp rx ry e ⟨d,rfl,c d G2 H2 k2 p2.hp q⟩
def XF{v:O.Val}{b:Bool}(h:O.fh v=df b):v=.bl b:=by cases v<;>simp_all [O.fh]
def Z7{v:O.Val}{b:Int}(h:O.fg v=df b):v=.int b:=by cases v<;>simp_all [O.fg]
def WF{v:O.Val}{b:O.Ad}(h:O.dZ v=df b):v=.ref b:=by cases v<;>simp_all [O.dZ]
def RV.bl_inv{K:Frag}{b:Bool}(r:RV K H (.bl b) x):x=.bl b:=by cases r;rfl
def RV.int_inv{K:Frag}{b:Int}(r:RV K H (.int b) x):x=.int b:=by cases r;rfl
def RV.ref_inv{K:Frag}{b:Ç}(r:RV K H (.ref b) x):x=.ref b:=by cases r;rfl
def RV.str_inv{K:Frag}{b:String}(r:RV K H (.str b) x):x=.str (fE b):=by cases r;rfl
def RV.non_inv{K:Frag}(r:RV K H .non x):x=.non:=by cases r;rfl
def IG{a:Expr}(ha:PE X a<|tE X i Z ma):PE X (.UnaryOp .Not a ç) (tE X i Z<|.not ma) :=
 (G9 ha).imp λσ H Q ⟨env,G,Qm,Em,p,w,c⟩=>by
  exact one p w λv G1 H1 x k1 p1 r q=>by let⟨b,e,q2⟩:=dr q;clear q;cases XF e;exact⟨b,r.bl_inv,c _ G1 H1 _ k1 p1.hp (.bl _) q2⟩
def Lp{a:Expr}(ha:PE X a<|tE X i Z ma):PE X (.UnaryOp .USub a ç) (tE X i Z<|.neg ma) :=
 (IK Gk ha).imp λσ H Q ⟨env,G,Qm,Em,p,w,c⟩=>by
  exact one p w λv G1 H1 x k1 p1 r q=>by let⟨b,e,q2⟩:=dr q;clear q;cases Z7 e;exact⟨b,r.int_inv,c _ G1 H1 _ k1 p1.hp (.int _) q2⟩
def Ll{a:Expr}{rest:List Expr}(ha:PE X a<|tE X i Z ma)(hb:PE X (.BoolOp .And (b::rest) ç)<|tE X i Z mb):PE X (.BoolOp .And (a::b::rest) ç) (tE X i Z<|.and ma mb) :=
 (F4 ha hb).imp λσ H Q ⟨env,G,Qm,Em,p,w,c⟩=>by
  exact one p w λv G1 H1 x k1 p1 r q=>by
   let⟨d,e,q2⟩:=dr q;clear q;cases XF e;refine⟨d,r.bl_inv,?_⟩;cases d with
   |true=>exact⟨env,G1,Qm,Em,p1,⇑q2,c.go k1⟩
   |false=>simp at q2 ⊢;exact c _ G1 H1 _ k1 p1.hp (.bl _) q2
def PD{a:Expr}{rest:List Expr}(ha:PE X a<|tE X i Z ma)(hb:PE X (.BoolOp .Or (b::rest) ç)<|tE X i Z mb):PE X (.BoolOp .Or (a::b::rest) ç) (tE X i Z<|.or ma mb) :=
 (Lz ha hb).imp λσ H Q ⟨env,G,Qm,Em,p,w,c⟩=>by
  exact one p w λv G1 H1 x k1 p1 r q=>by
   let⟨d,e,q2⟩:=dr q;clear q;cases XF e;refine⟨d,r.bl_inv,?_⟩;cases d with
   |false=>exact⟨env,G1,Qm,Em,p1,⇑q2,c.go k1⟩
   |true=>simp at q2 ⊢;exact c _ G1 H1 _ k1 p1.hp (.bl _) q2
def Fm{a:Expr}{ma:O.Tt}(ha:PT X a<|tTt X i Z ma):PT X (.UnaryOp .Not a ç) (tTt X i Z<|.not ma) :=
 (Hg ha).imp λσ H Q ⟨env,G,Qm,Em,p,w,c⟩=>by exact⟨env,G,_,Em,p,w,λb G1 H1 k1 g1 q=>c (!b) G1 H1 k1 g1 q⟩
def Gw{a:Expr}{rest:List Expr}{ma mb:O.Tt}(ha:PT X a<|tTt X i Z ma)(hb:PW X (.BoolOp .And (b::rest) ç)<|tTt X i Z mb):PW X (.BoolOp .And (a::b::rest) ç) (tTt X i Z<|.and ma mb) :=
 (F3 ha hb).imp λσ H Q ⟨env,G,Qm,Em,p,w,c⟩=>by
  refine⟨env,G,_,Em,p,w,λd G1 H1 k1 g1 q=>?_⟩;cases d with
  |true=>exact⟨env,G1,Qm,Em,p.go k1 g1,⇑q,λb G2 H2 k2=>c b G2 H2<|k1.trans k2⟩
  |false=>simp at q ⊢;exact c di G1 H1 k1 g1 q
def HM{a:Expr}{rest:List Expr}{ma mb:O.Tt}(ha:PT X a<|tTt X i Z ma)(hb:PW X (.BoolOp .Or (b::rest) ç)<|tTt X i Z mb):PW X (.BoolOp .Or (a::b::rest) ç) (tTt X i Z<|.or ma mb) :=
 (HL ha hb).imp λσ H Q ⟨env,G,Qm,Em,p,w,c⟩=>by
  refine⟨env,G,_,Em,p,w,λd G1 H1 k1 g1 q=>?_⟩;cases d with
  |false=>exact⟨env,G1,Qm,Em,p.go k1 g1,⇑q,λb G2 H2 k2=>c b G2 H2<|k1.trans k2⟩
  |true=>simp at q ⊢;exact c dh G1 H1 k1 g1 q
def DY{a:Expr}{ma:O.Tt}(ha:PT X a<|tTt X i Z ma):PW X (.BoolOp .And [a] ç)<|tTt X i Z ma:=Ev ha
def Fk{a:Expr}{ma:O.Tt}(ha:PT X a<|tTt X i Z ma):PW X (.BoolOp .Or [a] ç)<|tTt X i Z ma:=FZ ha
def Ij{c a:Expr}{mc:O.Tt}(hc:PT X c<|tTt X i Z mc)(ha:PE X a<|tE X i Z ma)(hb:PE X b<|tE X i Z mb):PE X (.IfExp c a b ç) (tE X i Z<|.ife mc ma mb) :=
 (Bs hc ha hb).imp λσ H Q ⟨env,G,Qm,Em,p,w,c⟩=>by
  refine⟨env,G,_,Em,p,w,λd G1 H1 k1 g1 q=>?_⟩;cases d with
  |true=>exact⟨env,G1,Qm,Em,p.go k1 g1,⇑q,c.go k1⟩
  |false=>exact⟨env,G1,Qm,Em,p.go k1 g1,⇑q,c.go k1⟩
def Gg:PA X []<|tAr X i Z .nil 0:=eW.imp λσ H Q ⟨env,G,Qm,Em,p,w,c⟩=>by exact c [] G H [] (dN.refl H) p.hp .nil rfl w
def CW{m:O.E}{ms:O.Es}{n:Nat}(he:PE X e<|tE X i Z m)(hes:PA X es<|tAr X i Z ms n)(hs:Ñ (e::es) X.env=(di,eval e X.env)::Ñ es X.env):PA X (e::es) (tAr X i Z (.cons m ms)<|n+1) :=
 (Yd he hes hs).imp λσ H Q ⟨env,G,Qm,Em,p,w,c⟩=>by exact⟨env,G,_,Em,p,w,λv G1 H1 x k1 g1 r1 w1=>⟨env,G1,_,Em,p.go k1 g1,w1,λvs G2 H2 xs k2 g2 r2 hn w2=>c (v::vs) G2 H2 (x::xs) (k1.trans k2) g2 (.cons (r1.keep k2) r2) (by rw[Î,hn]) w2⟩⟩
def Z5:O.lim<=Ø:=by decide
def Z6{o:O.Ob}{u:HO}(g:RH i G H)(w:O.new G o Qm)(c:Cn i H Q Qm)(r:∀p,H p=dg->RO i (upd H p u) p o):∀p,H p=dg->Q (.ref p) (upd H p u):=λp hp=>by unfold O.new at w;exact c (.ref p) _ _ (.ref p) (dN.new hp) (g.put (dN.new hp)<|r p hp) (.ref p) (w p<|g.free hp)
mutual
noncomputable def toD:O.D->ύ
 |.non=>.none
 |.bl b=>.bool b
 |.int i=>.int i
 |.str s=>.str<|fE s
 |.tup ds=>.tuple<|toDs ds
 |.lst ds=>.list<|toDs ds
noncomputable def toDs:List O.D->List ύ
 |[]=>[]
 |d::ds=>toD d::toDs ds
end
def ofS_inj{s t:String}:fE s=fE t↔s=t:=by
 constructor
 .intro h;rw[Str.ofString_eq_toList,Str.ofString_eq_toList]at h;injection h with h;have h2:s.toList.map ň=t.toList.map ň:=by simpa using congrArg aX h
  have inj:∀{a b:Char},a.toNat=b.toNat->a=b:=λ{a b} e=>Char.ext<|aR e;have:s.toList=t.toList:=by
   revert h2;generalize s.toList=a;generalize t.toList=b;intro h2;induction a generalizing b with
   |nil=>cases b with
    |nil=>rfl
    |cons _ _=>cases h2
   |cons x xs ih=>cases b with
    |nil=>cases h2
    |cons y ys =>simp![È,List.cons.injEq]at h2;rw[inj h2.1,ih _ h2.2]
  exact String.toList_inj.mp this
 .rintro rfl;rfl
def CF(s t:String):(fE s==fE t)=(s==t):=by
 by_cases e:s=t
 .subst e;simp
 .have:fE s≠fE t:=λz=>e<|ofS_inj.mp z;rw[beq_eq_false_iff_ne.mpr this,beq_eq_false_iff_ne.mpr e]
def UM(s:String):PyData.strOk (fE s)=dh:=by
 rw[Str.ofString_eq_toList];unfold PyData.strOk;rw[Array.all_eq_true'];intro n hn;have:n∈s.toList.map ň:=⇑hn
 let⟨c,_,rfl⟩:=Ð.mp this;have:=c.valid;have h2:c.toNat=c.val.toNat:=rfl;simp![UInt32.isValidChar,Nat.isValidChar]at this;simp![fz];lia
mutual
theorem KI:∀d e:O.D,ě (toD d) (toD e)=O.D.eqv d e
 |.non,e=>by cases e<;>simp[toD,ě,O.D.eqv]
 |.bl _,e=>by cases e<;>simp[toD,ě,O.D.eqv]
 |.int _,e=>by cases e<;>simp[toD,ě,O.D.eqv]
 |.str s,e=>by cases e<;>simp![toD,ě,O.D.eqv];exact CF _ _
 |.tup ds,e=>by cases e<;>simp![toD,ě,O.D.eqv];exact toDs_eqv _ _
 |.lst ds,e=>by cases e<;>simp![toD,ě,O.D.eqv];exact toDs_eqv _ _
theorem toDs_eqv:∀ds es:List O.D,Ÿ (toDs ds) (toDs es)=O.D.eqvs ds es
 |[],[]=>by simp[toDs,Ÿ,O.D.eqvs]
 |[],_::_=>by simp[toDs,Ÿ,O.D.eqvs]
 |_::_,[]=>by simp[toDs,Ÿ,O.D.eqvs]
 |d::ds,e::es=>by simp![toDs,Ÿ,O.D.eqvs,KI d e,toDs_eqv ds es]
end
mutual
theorem Kl:∀d:O.D,(toD d).canLay0=dh
 |.non=>by simp[toD,Œ]
 |.bl _=>by simp[toD,Œ]
 |.int _=>by simp[toD,Œ]
 |.str s=>by simp![toD,Œ];exact UM s
 |.tup ds=>by simp![toD,Œ];exact toDs_lay ds
 |.lst ds=>by simp![toD,Œ];exact toDs_lay ds
theorem toDs_lay:∀ds:List O.D,Ŀ (toDs ds)=dh
 |[]=>by simp[toDs,Ŀ]
 |d::ds=>by simp![toDs,Ŀ,Kl d,toDs_lay ds,Bool.and_self]
end
section
variable {i:Inf}{G:O.Hs}{H:Hp}
def Um{α β:Type}{f:α->Option β}:∀{xs:List α}{ys:List β},xs.mapM f=df ys->List.length xs=ys.length/\∀(n:Nat) (x:α),xs[n]?=df x->∃y,ys[n]?=df y/\f x=df y:=by
 intro xs;induction xs with
 |nil=>intro ys h;simp at h;subst h;exact⟨rfl,λn x e=>by simp at e⟩
 |cons a as ih =>
  intro ys h;rw[aw]at h;cases e:f a with
  |none=>rw[e]at h;simp at h
  |some b =>
   rw[e]at h;cases e2:as.mapM f with
   |none=>rw[e2]at h;simp at h
   |some bs =>
    rw[e2]at h;simp at h;subst h;let⟨h1,h2⟩:=ih e2;refine⟨by simp[h1],λn x hn=>?_⟩;cases n with
    |zero=>simp at hn;subst hn;exact⟨b,rfl,e⟩
    |succ n=>simp at hn ⊢;exact h2 n x hn
def NS{K:Frag}{f:O.Val->Option O.D}(hf:∀v d x,f v=df d->RV K H v x->IsD K H x (toD d)):∀{vs:List O.Val}{xs:List V}{ds:List O.D},vs.mapM f=df ds->RVs K H vs xs->IsDs K H xs (toDs ds):=by
 intro vs;induction vs with
 |nil=>intro xs ds h r;simp at h;subst h;cases r;exact .nil
 |cons a as ih =>
  intro xs ds h r;rw[aw]at h;cases e:f a with
  |none=>rw[e]at h;simp at h
  |some b =>
   rw[e]at h;cases e2:as.mapM f with
   |none=>rw[e2]at h;simp at h
   |some bs =>
    rw[e2]at h;simp at h;subst h;cases r with
    |cons r1 r2=>exact .cons (hf a b _ e r1)<|ih e2 r2
def Zy(g:RH i G H){a:Ç}{xs:List O.Val}(e:O.dF (G a)=df xs):∃vs,eY i.K H a vs/\RVs i.K H xs vs:=by
 cases q:G a with
 |none=>rw[q]at e;cases e
 |some o =>
  rw[q]at e;cases o with
  |lst ys=>cases e;let⟨vs,h,r⟩:=g a _ q;exact⟨vs,eY.of h,r⟩
  |dct _=>cases e
  |ins _ _=>cases e
  |exc _=>cases e
  |frz _=>cases e
  |dtp _=>cases e
def Jx:∀ns:List Int,toDs (ns.map O.D.int)=ns.map PyData.int
 |[]=>by simp[toDs]
 |n::ns=>by simp![È,toDs,toD,Jx ns]
def Xn(g:RH i G H):∀(n:Nat) (v:O.Val) (d:O.D) (x:V),O.dat G n v=df d->RV i.K H v x->IsD i.K H x (toD d):=by
 intro n;induction n with
 |zero =>
  intro v d x e r;cases v with
  |non=>cases r;simp[O.dat]at e;subst e;rw[toD];exact .non
  |bl b=>cases r;simp[O.dat]at e;subst e;rw[toD];exact .bl b
  |int b=>cases r;simp[O.dat]at e;subst e;rw[toD];exact .int b
  |str s=>cases r;simp[O.dat]at e;subst e;rw[toD];exact .str _
  |tup xs=>simp[O.dat]at e
  |ref a=>simp[O.dat]at e
  |scr ns=>simp[O.dat]at e
  |key _ _=>simp[O.dat]at e
 |succ n ih =>
  intro v d x e r;cases v with
  |non=>cases r;simp[O.dat]at e;subst e;rw[toD];exact .non
  |bl b=>cases r;simp[O.dat]at e;subst e;rw[toD];exact .bl b
  |int b=>cases r;simp[O.dat]at e;subst e;rw[toD];exact .int b
  |str s=>cases r;simp[O.dat]at e;subst e;rw[toD];exact .str _
  |tup xs =>
   rw[O.dat]at e;cases z:xs.mapM (O.dat G n)with
   |none=>rw[z]at e;cases e
   |some ds =>
    rw[z]at e;cases e;cases r with
    |tup hp hr=>rw[toD];exact .tup (Zl hp)<|NS ih z hr
  |ref a =>
   rw[O.dat]at e;cases q:O.dF (G a)with
   |none=>rw[q]at e;cases e
   |some xs =>
    rw[q]at e;simp![ï]at e;cases z:xs.mapM (O.dat G n)with
    |none=>rw[z]at e;cases e
    |some ds =>rw[z]at e;cases e;cases r.ref_inv;let⟨vs,h1,h2⟩:=Zy g q;rw[toD];exact .lst h1<|NS ih z h2
  |scr ns =>
   simp[O.dat]at e;subst e;cases r with
   |scr h =>rw[toD,Jx];exact .lst (Ye h)<|IsDs.ints ns
  |key _ _=>simp[O.dat]at e
def Xg{n:Nat}:∀{ds:List O.D},(∀d∈ds,(toD d).depth<=n)->ī (toDs ds)<=n
 |[],_=>by rw[toDs];simp[ī]
 |d::ds,h=>by rw[toDs];simp![ī];exact Nat.max_le.mpr ⟨h d (by simp),Xg λe he=>h e<|by simp[he]⟩
def J6:∀(n:Nat) (v:O.Val) (d:O.D),O.dat G n v=df d->(toD d).depth<=n:=by
 have sc:∀(n:Nat) (v:O.Val) (d:O.D),(∀xs,v≠.tup xs)->(∀a,v≠.ref a)->(∀ns,v≠.scr ns)->O.dat G n v=df d->(toD d).depth<=n:=by
  intro n v d h1 h2 h3 e;cases v with
  |tup xs=>exact fA rfl<|h1 xs
  |ref a=>exact fA rfl<|h2 a
  |scr ns=>exact fA rfl<|h3 ns
  |key _ _=>cases n<;>simp[O.dat]at e
  |_=>simp[O.dat]at e;subst e;simp[toD,PyData.depth]
 have ms:∀(n:Nat),(∀v d,O.dat G n v=df d->(toD d).depth<=n)->∀(xs:List O.Val) (ds:List O.D),xs.mapM (O.dat G n)=df ds->ī (toDs ds)<=n:=by
  intro n ih xs ds z;refine Xg λd hd=>?_;let⟨k,hk⟩:=List.mem_iff_getElem?.mp hd;let⟨h1,h2⟩:=Um z;have ϩ:k<xs.length:=by rw[h1];exact(Ò.mp hk).1
  let⟨y,hy,hf⟩:=h2 k xs[k]<|Ï ϩ;rw[hk]at hy;cases hy;exact ih _ _ hf
 intro n;induction n with
 |zero =>
  intro v d e;cases v with
  |tup xs=>simp[O.dat]at e
  |ref a=>simp[O.dat]at e
  |scr ns=>simp[O.dat]at e
  |_=>exact sc 0 _ d (by simp) (by simp) (by simp) e
 |succ n ih =>
  intro v d e;cases v with
  |tup xs =>
   rw[O.dat]at e;cases z:xs.mapM (O.dat G n)with
   |none=>rw[z]at e;cases e
   |some ds =>rw[z]at e;cases e;rw[toD];exact ξ<|ms n ih xs ds z
  |ref a =>
   rw[O.dat]at e;cases q:O.dF (G a)with
   |none=>rw[q]at e;cases e
   |some xs =>
    rw[q]at e;simp![ï]at e;cases z:xs.mapM (O.dat G n)with
    |none=>rw[z]at e;cases e
    |some ds =>rw[z]at e;cases e;rw[toD];exact ξ<|ms n ih xs ds z
  |scr ns =>simp[O.dat]at e;subst e;rw[toD];refine ξ<|Ü ?_<|Ĥ n;refine Xg λd hd=>?_;let⟨m,_,rfl⟩:=Ð.mp hd;simp[toD,PyData.depth]
  |_=>exact sc (n+1) _ d (by simp) (by simp) (by simp) e
def WN{v:O.Val}{d:O.D}(e:O.dat G O.deep v=df d):SeqAt.shaped (toD d)=dh:=by show((toD d).canLay0&&fB ((toD d).depth<=64))=dh;rw[Kl,fw<|Ü (J6 _ _ _ e)<|by decide];rfl
def NV(g:RH i G H){v u:O.Val}{x y:V}{c:Bool}(rx:RV i.K H v x)(ry:RV i.K H u y)(e:O.eqV G v u=df c):∃d d',IsD i.K H x d/\IsD i.K H y d'/\SeqAt.shaped d=dh/\SeqAt.shaped d'=dh/\ě d d'=c:=by
 unfold O.eqV at e;cases z:O.dat G O.deep v with
 |none=>rw[z]at e;cases e
 |some d =>
  cases z2:O.dat G O.deep u with
  |none=>rw[z,z2]at e;cases e
  |some d' =>rw[z,z2]at e;cases e;exact⟨_,_,Xn g _ _ _ _ z rx,Xn g _ _ _ _ z2 ry,WN z,WN z2,KI d d'⟩
def LS:ZY i .eq<|Lc i.K:=by k_get;let⟨d,d',h1,h2,h3,h4,h5⟩:=NV g rx ry e;exact⟨d,d',h1,h2,h3,h4,by rw[h5];exact q⟩
def LW:ZY i .ne<|HR i.K:=by
 k_get;have e:(O.eqV G v u).map (!·)=df c:=e;cases z:O.eqV G v u with
 |none=>rw[z]at e;cases e
 |some b =>rw[z]at e;cases e;let⟨d,d',h1,h2,h3,h4,h5⟩:=NV g rx ry z;exact⟨d,d',h1,h2,h3,h4,by rw[h5];exact q⟩
end
def ZH(s:String):(fE s).length=s.length:=by rw[Str.ofString_eq_toList];show(List.map ň s.toList).toArray.size=_;rw[É,Á];first|rfl|exact bh
def CD(s t:String):fE (s++t)=fE s++fE t:=by rw[Str.ofString_eq_toList,Str.ofString_eq_toList,Str.ofString_eq_toList];show _=Str.append _ _;unfold Str.append;simp
variable {xs:List O.Val}
def UU{o:Option O.Ob}(h:O.dF o=df xs):o=df (.lst xs):=by
 cases o with
 |none=>cases h
 |some o=>cases o with
  |lst ys=>cases h;rfl
  |_=>cases h
variable {p:Prop}
def ZD{α:Type}[Decidable p]{o:Option α}{a:α}(e:(if p then o else dg)=df a):p/\o=df a:=by
 by_cases q:p
 .rw[fm q]at e;exact⟨q,e⟩
 .rw[fo q]at e;cases e
variable {h:O.Hs} {Q:O.Q1}
def Zv(w:O.Rs.no.wp h Q):False:=by rw[O.Rs.wp_no]at w;exact w
def ZB{v:O.Val}(w:(O.Rs.val v).wp h Q):Q v h:=by rw[O.Rs.wp_val]at w;exact w
def Wu{o:O.Ob}(w:(O.Rs.new o).wp h Q):O.new h o Q:=by rw[O.Rs.wp_new]at w;exact w
def Xo[Decidable p]{r:O.Rs}(w:(if p then r else .no).wp h Q):p/\r.wp h Q:=by
 by_cases e:p
 .rw[fm e]at w;exact⟨e,w⟩
 .rw[fo e]at w;exact(Zv w).elim
variable {u:O.Val}
def Wg{f:Int->Int->O.Rs}{v:O.Val}(w:(O.intV f v u).wp h Q):∃i j,v=.int i/\u=.int j/\(f i j).wp h Q:=by
 cases v with
 |int i=>cases u with
  |int j=>exact⟨i,j,rfl,rfl,w⟩
  |_=>exact(Zv w).elim
 |_=>exact(Zv w).elim
abbrev Ew(K:Frag):R2:=λx y H Q=>(rI0 λi j=>.int<|i+j) x y H Q\/(((EV K x y H Q\/E7 K x y H Q)\/Ib x y H Q)\/∃i j,x=.str i/\y=.str j/\i.length+j.length<=Ø/\Q (.str<|i++j) H)
def Lo:OpR X (ĳ .Add)<|Ew X.K:=op_add.or (((op_cat0.or CO).or Ha).or Nq)
def b_add:W8 i .add<|Ew i.K:=by
 intro v u G H x y Q Qm g rx ry w c;cases v<;>cases u<;>first|exact(Zv w).elim|skip
 case int.int a b =>
  replace w:=ZB w
  exact .inl ⟨a,b,rx.int_inv,ry.int_inv,c _ G H _ (dN.refl H) g (.int _) w⟩
 case str.str a b =>
  let⟨h,w⟩:=Xo w
  replace w:=ZB w
  refine .inr<|.inr ⟨_,_,rx.str_inv,ry.str_inv,?_,?_⟩
  .rw[ZH,ZH];exact Ü h Z5
  .rw[<-CD];exact c _ G H _ (dN.refl H) g (.str _) w
 case tup.tup xs ys =>
  let⟨h,w⟩:=Xo w
  replace w:=ZB w
  .skip
   cases rx with
   |@tup _ p vs hp hr =>
   cases ry with
   |@tup _ q us hq hs =>
   by_cases h0:vs=[]
   .subst h0;have:xs=[]:=Ϯ hr.length;subst this;exact .inr<|.inl<|.inl<|.inl ⟨p,q,us,rfl,rfl,Zl hp,Zl hq,c _ G H _ (dN.refl H) g (.tup hq hs) w⟩
   refine .inr<|.inl<|.inl<|.inr ⟨p,q,vs,us,rfl,rfl,Zl hp,Zl hq,h0,?_,λz=>?_,λz a ha=>?_⟩
   .rw[<-hr.length,<-hs.length];exact Ü h Z5
   .have:ys=[]:=Ϯ (by rw[hs.length,z];rfl);subst this;rw[Ĉ]at w;exact c _ G H _ (dN.refl H) g (.tup hp hr) w
   .have k:=dN.new (o:=.tup<|vs++us) ha;refine c _ G _ _ k (g.hid k λb o e=>dj ?_) (.tup (.inl dm)<|(hr.keep k).append<|hs.keep k) w;rintro rfl;rw[g.free ha]at e;cases e
 case ref.ref a b =>
  dsimp only[O.binV,O.addV]at w;split at w
  .rename_i xs ys e1 e2;unfold O.Rs.lst at w;split at w
   .rename_i hl;rw[O.Rs.wp_new]at w;cases rx.ref_inv;cases ry.ref_inv;let⟨vs,h1,r1⟩:=g a _ e1;let⟨us,h2,r2⟩:=g b _ e2;refine .inr (.inl<|.inr ⟨a,b,vs,us,rfl,rfl,h1,h2,?_,Z6 g w c λp hp=>?_⟩)
    .rw[<-r1.length,<-r2.length,<-Þ];exact Ü hl Z5
    .have k:=dN.new (o:=.lst<|vs++us) hp;exact⟨_,dm,(r1.keep k).append<|r2.keep k⟩
   .exact(Zv w).elim
  .exact(Zv w).elim
def b_sub:W8 i .sub<|rI0 λi j=>.int<|i - j:=by intro v u G H x y Q Qm g rx ry w c;let⟨a,b,rfl,rfl,w⟩:=Wg w;exact⟨a,b,rx.int_inv,ry.int_inv,c _ G H _ (dN.refl H) g (.int _)<|ZB w⟩
def RVs.rep{K:Frag}{H:Hp}{vs:List O.Val}{xs:List V}(r:RVs K H vs xs):∀n,RVs K H (Ó n vs).flatten (Ó n xs).flatten
 |0=>.nil
 |n+1=>by rw[ă,ă,į,į];exact r.append<|RVs.rep r n
set_option exponentiation.threshold 2000 in
def F9{i j:Int}(h:O.mulOk i j):IntMulOk i j:=by
 rcases h with(h|h)|⟨h1,h2⟩
 .exact .of_left (intBits_le_64 (by lia)<|by lia)
 .exact .of_right (intBits_le_64 (by lia)<|by lia)
 .have e:(10:Nat) ^ 200<2 ^ 1000:=by decide
  exact .of_bits (Ü (PyProof.Rows.intBits_le<|ó h1 e)<|by decide) (Ü (PyProof.Rows.intBits_le<|ó h2 e)<|by decide)
def CI(s:String)(n:Nat):GC (fE s) n=fE (O.repT s n):=by unfold GC O.repT;rw[Str.ofString_eq_toList,Str.ofString_eq_toList,bj];congr 1;apply cW.mp;rw[JX];simp[List.map_flatten,List.map_replicate]
abbrev EE:R2:=λx y H Q=>rI O.mulOk (λi j=>.int<|i*j) x y H Q\/(I0 x y H Q\/EB x y H Q)
def IQ:OpR X (ĳ .Mult) EE:=OpR.or (opI λ_ _ _ _ _ _ _ hc q=>PyProof.Rows.mul_int q<|F9 hc) (op_rep.or DJ)
def b_mul:W8 i .mul EE:=by
 intro v u G H x y Q Qm g rx ry w c;cases v<;>cases u<;>first|exact(Zv w).elim|skip
 case int.int a b =>let⟨h,w⟩:=Xo w;exact .inl ⟨a,b,rx.int_inv,ry.int_inv,h,c _ G H _ (dN.refl H) g (.int _)<|ZB w⟩
 case ref.int a k =>
  dsimp only[O.binV,O.mulV]at w;split at w
  .rename_i xs e1;split at w
   .rename_i hk;unfold O.Rs.lst at w;split at w
    .rw[O.Rs.wp_new]at w;cases rx.ref_inv;cases ry.int_inv;let⟨vs,h1,r1⟩:=g a _ e1;refine .inr (.inl ⟨a,k,vs,rfl,rfl,h1,by lia,by lia,?_,Z6 g w c λp hp=>?_⟩)
     .rw[<-r1.length];exact Ü hk.2.2 Z5
     .have kk:=dN.new (o:=.lst (Ó k.toNat vs).flatten) hp;exact⟨_,dm,(r1.keep kk).rep _⟩
    .exact(Zv w).elim
   .exact(Zv w).elim
  .exact(Zv w).elim
 case str.int a k =>
  let⟨hk,w⟩:=Xo w
  replace w:=ZB w
  refine .inr (.inr ⟨_,k,rx.str_inv,ry.int_inv,hk.1,hk.2.1,by rw[ZH];exact hk.2.2.1,by rw[ZH];exact hk.2.2.2,?_⟩);rw[CI];exact c _ G H _ (dN.refl H) g (.str _) w
def b_fdiv:W8 i .fdiv<|rI IH λi j=>.int<|i / j:=by intro v u G H x y Q Qm g rx ry w c;let⟨a,b,rfl,rfl,w⟩:=Wg w;let⟨h,w⟩:=Xo w;exact⟨a,b,rx.int_inv,ry.int_inv,h,c _ G H _ (dN.refl H) g (.int _)<|ZB w⟩
def b_mod:W8 i .mod<|rI (λ_ j=>0<j) λi j=>.int<|i % j:=by intro v u G H x y Q Qm g rx ry w c;let⟨a,b,rfl,rfl,w⟩:=Wg w;let⟨h,w⟩:=Xo w;exact⟨a,b,rx.int_inv,ry.int_inv,h,c _ G H _ (dN.refl H) g (.int _)<|ZB w⟩
def b_pow:W8 i .pow<|rI Im λi j=>.int<|i ^ j.toNat:=by intro v u G H x y Q Qm g rx ry w c;let⟨a,b,rfl,rfl,w⟩:=Wg w;let⟨h,w⟩:=Xo w;exact⟨a,b,rx.int_inv,ry.int_inv,h,c _ G H _ (dN.refl H) g (.int _)<|ZB w⟩
def ZN{K:Frag}{H:Hp}:∀{xs:List O.Val}{ns:List Int}{vs:List V},O.dA xs=df ns->RVs K H xs vs->vs=ns.map V.int
 |[],_,_,e,r=>by cases r;cases e;rfl
 |v::xs,_,_,e,r=>by
  cases r with
  |cons r t=>cases v with
   |int k =>
    have e:(O.dA xs).map (k :: ·)=df _:=e;cases z:O.dA xs with
    |none=>rw[z]at e;cases e
    |some ns=>rw[z]at e;cases e;cases r;rw[ZN z t];rfl
   |_=>cases e
def X5:∀(ns ms:List Int),O.d7 ns ms=HT.lexLt ns ms
 |[],[]=>rfl
 |[],_::_=>rfl
 |_::_,[]=>rfl
 |x::xs,y::ys=>by rw[O.d7,HT.lexLt_cons,X5 xs ys]
abbrev Iy(K:Frag):R2:=λx y H Q=>rI0 (λi j=>.bl<|fB (i<j)) x y H Q\/HT2.rCT di K x y H Q
def PN(hu:X.A.units<ğ):OpR X (ê .Lt)<|Iy X.K:=op_lt.or (HT2.op_cT di hu)
abbrev LE(K:Frag):R2:=λx y H Q=>rI0 (λi j=>.bl<|fB (j<i)) x y H Q\/HT2.rCT dh K x y H Q
def L7(hu:X.A.units<ğ):OpR X (ê .Gt)<|LE X.K:=op_gt.or (HT2.op_cT dh hu)
variable {H:Hp} {x:V} {c:Bool}
def Fc{K:Frag}{ys:List O.Val}{y:V}(rx:RV K H (.tup xs) x)(ry:RV K H (.tup ys) y)(e:O.d8 (.tup xs) (.tup ys)=df c):∃a b ns ms,x=.ref a/\y=.ref b/\eZ K H a (ns.map V.int)/\eZ K H b (ms.map V.int)/\HT.lexLt ns ms=c:=by
 simp![O.d8]at e;cases z1:O.dA xs with
 |none=>rw[z1]at e;cases e
 |some ns =>
  cases z2:O.dA ys with
  |none=>rw[z1,z2]at e;cases e
  |some ms =>
   rw[z1,z2]at e;cases e;cases rx with
   |@tup _ p vs hp hr =>
   cases ry with
   |@tup _ q us hq hs =>
   have h1:=ZN z1 hr;have h2:=ZN z2 hs;subst h1 h2;exact⟨p,q,ns,ms,rfl,rfl,Zl hp,Zl hq,(X5 _ _).symm⟩
def ET{v:O.Val}(e:O.d8 v u=df c):(∃a b,v=.int a/\u=.int b/\fB (a<b)=c)\/∃xs ys,v=.tup xs/\u=.tup ys:=by
 cases v with
 |int a=>cases u with
  |int b=>cases e;exact .inl ⟨a,b,rfl,rfl,rfl⟩
  |_=>cases e
 |tup xs=>cases u with
  |tup ys=>exact .inr ⟨xs,ys,rfl,rfl⟩
  |_=>cases e
 |_=>cases e
def c_lt:ZY i .lt<|Iy i.K:=by
 k_get;rcases ET e with⟨a,b,rfl,rfl,rfl⟩|⟨xs,ys,rfl,rfl⟩
 .exact .inl ⟨a,b,rx.int_inv,ry.int_inv,q⟩
 .obtain⟨a,b,ns,ms,h1,h2,h3,h4,h5⟩:=Fc rx ry e;exact .inr ⟨a,b,ns,ms,h1,h2,h3,h4,by show Q (.bl<|HT.lexLt ns ms) _;rw[h5];exact q⟩
def c_gt:ZY i .gt<|LE i.K:=by
 k_get;rcases ET e with⟨a,b,rfl,rfl,rfl⟩|⟨xs,ys,rfl,rfl⟩
 .exact .inl ⟨b,a,rx.int_inv,ry.int_inv,q⟩
 .obtain⟨a,b,ns,ms,h1,h2,h3,h4,h5⟩:=Fc ry rx e;exact .inr ⟨b,a,ms,ns,h2,h1,h4,h3,by show Q (.bl<|HT.lexLt ns ms) _;rw[h5];exact q⟩
def EC{v:O.Val}(e:O.leV v u=df c):∃i j,v=.int i/\u=.int j/\fB (i<=j)=c:=by
 cases v with
 |int i=>cases u with
  |int j=>cases e;exact⟨i,j,rfl,rfl,rfl⟩
  |_=>cases e
 |_=>cases e
def c_le:ZY i .le<|rI0 λi j=>.bl<|fB (i<=j):=by k_get;let⟨a,b,rfl,rfl,rfl⟩:=EC e;exact⟨a,b,rx.int_inv,ry.int_inv,q⟩
def c_ge:ZY i .ge<|rI0 λi j=>.bl<|fB (j<=i):=by k_get;let⟨a,b,rfl,rfl,rfl⟩:=EC e;exact⟨b,a,rx.int_inv,ry.int_inv,q⟩
def RV.isN{K:Frag}{v:O.Val}(r:RV K H v x):fB (x=.non)=fB (v=.non):=by cases r<;>simp
variable {a:Expr} {ma:O.E} {ç:Pos} {p2:Pos} {j:Nat}
def IE(ha:PE X a<|tE X i Z ma):PE X (.Compare a [.Is] [.Constant .none j p2] ç) (tE X i Z<|.cmp .is ma<|.cst .non) :=
 (AC (U9 ha) rfl).imp λσ H Q ⟨env,G,Qm,Em,p,w,c⟩=>by refine one p w λv G1 H1 x k1 p1 r q=>?_;let⟨d,e,q2⟩:=dr q;have e:df (fB (v=.non))=df d:=e;cases e;rw[r.isN];exact c _ G1 H1 _ k1 p1.hp (.bl _) q2
def Gn(ha:PE X a<|tE X i Z ma):PE X (.Compare a [.IsNot] [.Constant .none j p2] ç) (tE X i Z<|.cmp .isnot ma<|.cst .non) :=
 (AC (Oq ha) rfl).imp λσ H Q ⟨env,G,Qm,Em,p,w,c⟩=>by refine one p w λv G1 H1 x k1 p1 r q=>?_;let⟨d,e,q2⟩:=dr q;have e:df (!fB (v=.non))=df d:=e;cases e;rw[r.isN];exact c _ G1 H1 _ k1 p1.hp (.bl _) q2
def GE(ha:PE X a<|tE X i Z ma):PT X (.Compare a [.Is] [.Constant .none j p2] ç) (tTt X i Z<|.val<|.cmp .is ma<|.cst .non) :=
 (B7 (U9 ha) rfl).imp λσ H Q ⟨env,G,Qm,Em,p,w,c⟩=>by refine one p w λv G1 H1 x k1 p1 r q=>?_;let⟨d,e,q2⟩:=dr q;let⟨d',e',q3⟩:=dr q2;cases e';have e:df (fB (v=.non))=df d:=e;cases e;rw[r.isN];exact⟨_,rfl,c _ G1 H1 k1 p1.hp q3⟩
def DF(ha:PE X a<|tE X i Z ma):PT X (.Compare a [.IsNot] [.Constant .none j p2] ç) (tTt X i Z<|.val<|.cmp .isnot ma<|.cst .non) :=
 (B7 (Oq ha) rfl).imp λσ H Q ⟨env,G,Qm,Em,p,w,c⟩=>by refine one p w λv G1 H1 x k1 p1 r q=>?_;let⟨d,e,q2⟩:=dr q;let⟨d',e',q3⟩:=dr q2;cases e';have e:df (!fB (v=.non))=df d:=e;cases e;rw[r.isN];exact⟨_,rfl,c _ G1 H1 k1 p1.hp q3⟩
end Snd
namespace Snd
open PySem L2 PySem.Spec PyProof.Rows
variable {i:Inf}{X:Cx}{Z:O.Fs}
def RKs.length{K:Frag}{H:Hp}:∀{kvs:List (O.Val×O.Val)}{ps:List (Key×V)},RKs K H kvs ps->kvs.length=ps.length
 |_,_,.nil=>rfl
 |_,_,.cons _ _ t=>by rw[Î,Î,RKs.length t]
def Wk{k j:O.Val}{c d:Key}(a:X0 k c)(b:X0 j d):(k==j)=fB (c=d):=by
 have key:k=j↔c=d:=by
  cases k<;>cases c<;>first|(cases a;done)|skip
  .cases j<;>cases d<;>first|(cases b;done)|skip
   .cases a;cases b;simp
   .cases a;cases b;simp
  .cases j<;>cases d<;>first|(cases b;done)|skip
   .cases a;cases b;simp
   .cases a;cases b;simp[ofS_inj]
 by_cases e:k=j
 .rw[fw<|key.mp e,e];simp
 .rw[ft λz=>e<|key.mpr z];simpa using e
def dI{k:O.Val}{x:V}{K:Frag}{H:Hp}(h:O.dM k=dh)(r:RV K H k x):∃c,X0 k c/\x=kV c:=by
 cases k with
 |int n=>cases r.int_inv;exact⟨.inl n,rfl,rfl⟩
 |str s=>cases r.str_inv;exact⟨.inr<|fE s,rfl,rfl⟩
 |_=>cases h
def RKs.look{K:Frag}{H:Hp}{k:O.Val}{c:Key}(a:X0 k c):∀{kvs:List (O.Val×O.Val)}{ps:List (Key×V)},RKs K H kvs ps->
  (∀v,O.dO kvs k=df v->∃x,Yk ps c=df x/\RV K H v x)/\(O.dO kvs k=dg->Yk ps c=dg)
 |_,_,.nil=>⟨λv e=>(by cases e),λ_=>rfl⟩
 |_,_,.cons (k:=j) (v:=u) (c:=d) (x:=y) (kvs:=kvs) (ps:=ps) b r t=>by
  have ih:=RKs.look a t;have q:=Wk b a;by_cases e:d=c
  .rw[fw e]at q;have e1:O.dO ((j,u)::kvs) k=df u:=by simp[O.dO,Ē,q]
   rw[e1,YN e];exact⟨λv z=>(by cases z;exact⟨y,rfl,r⟩),λz=>(by cases z)⟩
  .rw[ft e]at q;have e1:O.dO ((j,u)::kvs) k=O.dO kvs k:=by simp[O.dO,Ē,q]
   rw[e1,YG e];exact ih
def RKs.has{K:Frag}{H:Hp}{k:O.Val}{c:Key}(a:X0 k c):∀{kvs:List (O.Val×O.Val)}{ps:List (Key×V)},RKs K H kvs ps->O.dP kvs k=ps.any λkv=>fB (kv.1=c)
 |_,_,.nil=>rfl
 |_,_,.cons b r t=>by have ih:=RKs.has a t;unfold O.dP at ih ⊢;rw[Ģ,Ģ,ih,Wk b a]
def RKs.app{K:Frag}{H:Hp}{k v:O.Val}{c:Key}{x:V}(a:X0 k c)(q:RV K H v x):∀{kvs:List (O.Val×O.Val)}{ps:List (Key×V)},RKs K H kvs ps->RKs K H (kvs++[(k,v)]) (ps++[(c,x)])
 |_,_,.nil=>.cons a q .nil
 |_,_,.cons b r t=>.cons b r<|RKs.app a q t
def RKs.repl{K:Frag}{H:Hp}{k v:O.Val}{c:Key}{x:V}(a:X0 k c)(q:RV K H v x):∀{kvs:List (O.Val×O.Val)}{ps:List (Key×V)},RKs K H kvs ps->
  RKs K H (kvs.map λp=>if p.1==k then(k,v)else p) (ps.map λkv=>if kv.1=c then(kv.1,x)else kv)
 |_,_,.nil=>.nil
 |_,_,.cons (k:=j) (v:=u) (c:=d) (x:=y) b r t=>by
  have ih:=RKs.repl a q t;have z:=Wk b a;rw[È,È];by_cases e:d=c
  .rw[fw e]at z;rw[fm z,fm e];exact .cons (e▸a) q ih
  .rw[ft e]at z;rw[fo (by rw[z];decide),fo e];exact .cons b r ih
def RKs.put{K:Frag}{H:Hp}{k v:O.Val}{c:Key}{x:V}(a:X0 k c)(q:RV K H v x){kvs:List (O.Val×O.Val)}{ps:List (Key×V)}(r:RKs K H kvs ps):RKs K H (O.dQ kvs k v)<|L2.dQ ps c x:=by
 unfold O.dQ L2.dQ;rw[r.has a];by_cases e:(ps.any λkv=>fB (kv.1=c))=dh
 .rw[fm e,fm e];exact r.repl a q
 .rw[fo e,fo e];exact r.app a q
def RKs.drop{K:Frag}{H:Hp}{k:O.Val}{c:Key}(a:X0 k c):∀{kvs:List (O.Val×O.Val)}{ps:List (Key×V)},RKs K H kvs ps->RKs K H (O.dR kvs k) (L2.dR ps c)
 |_,_,.nil=>.nil
 |_,_,.cons (k:=j) (v:=u) (c:=d) (x:=y) b r t=>by
  have ih:=RKs.drop a t;have z:=Wk b a;unfold O.dR L2.dR at ih ⊢;rw[ĉ,ĉ];by_cases e:d=c
  .rw[fw e]at z;rw[fo (by rw[z];decide),fo<|by simpa using e];exact ih
  .rw[ft e]at z;rw[fm (by rw[z];rfl),fm<|by simpa using e];exact .cons b r ih
variable {G:O.Hs} {H:Hp} {a:Ç} {kvs':List (O.Val×O.Val)}
def N9{kvs:List (O.Val×O.Val)}{ps bL:List (Key×V)}(g:RH i G H)(h:H a=df (.dK ps))(r:RKs i.K H kvs' bL):dN H (upd H a<|.dK bL)/\RH i (O.upd G a<|.dct kvs') (upd H a<|.dK bL):=by
 have k:dN H<|upd H a<|.dK bL:=dN.put (λxs e=>by rw[h]at e;cases e) λp u e=>by rw[h]at e;cases e
 exact⟨k,g.put k ⟨bL,dm,r.keep k⟩⟩
def RTs.length{K:Frag}{H:Hp}:∀{kvs:List (O.Val×O.Val)}{ps:List (List Key×V)},RTs K H kvs ps->kvs.length=ps.length
 |_,_,.nil=>rfl
 |_,_,.cons _ t=>by rw[Î,Î,RTs.length t]
def Kg(a b i j:Int):(O.Val.key a b == .key i j)=fB (([.inl a,.inl b]:List Key)=[.inl i,.inl j]):=by
 by_cases e:a=i/\b=j
 .obtain⟨rfl,rfl⟩:=e;rw[fw rfl];simp
 .rw[ft λz=>e<|by simpa using z];exact beq_eq_false_iff_ne.mpr λz=>e ⇑z
def RTs.look{K:Frag}{H:Hp}{i j:Int}:∀{kvs:List (O.Val×O.Val)}{ps:List (List Key×V)},RTs K H kvs ps->
  (∀v,O.dO kvs (.key i j)=df v->∃x,Yk ps [.inl i,.inl j]=df x/\RV K H v x)/\(O.dO kvs (.key i j)=dg->Yk ps [.inl i,.inl j]=dg)
 |_,_,.nil=>⟨λv e=>(by cases e),λ_=>rfl⟩
 |_,_,.cons (i:=a) (j:=b) (v:=u) (x:=y) (kvs:=kvs) (ps:=ps) r t=>by
  have ih:=RTs.look (i:=i) (j:=j) t;have q:=Kg a b i j;by_cases e:([.inl a,.inl b]:List Key)=[.inl i,.inl j]
  .rw[fw e]at q;have e1:O.dO ((.key a b,u)::kvs) (.key i j)=df u:=by simp[O.dO,Ē,q]
   rw[e1,YN e];exact⟨λv z=>(by cases z;exact⟨y,rfl,r⟩),λz=>(by cases z)⟩
  .rw[ft e]at q;have e1:O.dO ((.key a b,u)::kvs) (.key i j)=O.dO kvs (.key i j):=by simp[O.dO,Ē,q]
   rw[e1,YG e];exact ih
def RTs.has{K:Frag}{H:Hp}{i j:Int}:∀{kvs:List (O.Val×O.Val)}{ps:List (List Key×V)},RTs K H kvs ps->O.dP kvs (.key i j)=ps.any λkv=>fB (kv.1=[.inl i,.inl j])
 |_,_,.nil=>rfl
 |_,_,.cons (i:=a) (j:=b) r t=>by have ih:=RTs.has (i:=i) (j:=j) t;unfold O.dP at ih ⊢;rw[Ģ,Ģ,ih,Kg a b i j]
def RTs.app{K:Frag}{H:Hp}{v:O.Val}{i j:Int}{x:V}(q:RV K H v x):∀{kvs:List (O.Val×O.Val)}{ps:List (List Key×V)},RTs K H kvs ps->RTs K H (kvs++[(.key i j,v)]) (ps++[([.inl i,.inl j],x)])
 |_,_,.nil=>.cons q .nil
 |_,_,.cons r t=>.cons r<|RTs.app q t
def RTs.repl{K:Frag}{H:Hp}{v:O.Val}{i j:Int}{x:V}(q:RV K H v x):∀{kvs:List (O.Val×O.Val)}{ps:List (List Key×V)},RTs K H kvs ps->
  RTs K H (kvs.map λp=>if p.1 == .key i j then(.key i j,v)else p) (ps.map λkv=>if kv.1=[.inl i,.inl j]then(kv.1,x)else kv)
 |_,_,.nil=>.nil
 |_,_,.cons (i:=a) (j:=b) (v:=u) (x:=y) r t=>by
  have ih:=RTs.repl (i:=i) (j:=j) q t;have z:=Kg a b i j;rw[È,È];by_cases e:([.inl a,.inl b]:List Key)=[.inl i,.inl j]
  .rw[fw e]at z;simp![z,if_true,e];exact .cons q ih
  .rw[ft e]at z;simp![z,e,if_false,ú];exact .cons r ih
def RTs.put{K:Frag}{H:Hp}{v:O.Val}{i j:Int}{x:V}(q:RV K H v x){kvs:List (O.Val×O.Val)}{ps:List (List Key×V)}(r:RTs K H kvs ps):RTs K H (O.dQ kvs (.key i j) v)<|L2.dQ ps [.inl i,.inl j] x:=by
 unfold O.dQ L2.dQ;rw[r.has];by_cases e:(ps.any λkv=>fB (kv.1=[.inl i,.inl j]))=dh
 .rw[fm e,fm e];exact r.repl q
 .rw[fo e,fo e];exact r.app q
def Ed{ps bL:List (List Key×V)}(g:RH i G H)(h:H a=df (.dT ps))(r:RTs i.K H kvs' bL):dN H (upd H a<|.dT bL)/\RH i (O.upd G a<|.dtp kvs') (upd H a<|.dT bL):=by
 have k:dN H<|upd H a<|.dT bL:=dN.put (λxs e=>by rw[h]at e;cases e) λp u e=>by rw[h]at e;cases e
 exact⟨k,g.put k ⟨bL,dm,r.keep k⟩⟩
def KJ{k:O.Val}{x:V}{K:Frag}{H:Hp}(h:O.isKeyT k=dh)(r:RV K H k x):∃a b c,k=.key a b/\x=.ref c/\H c=df (.tup<|([.inl a,.inl b]:List Key).map kV):=by
 cases k with
 |key a b=>cases r with|key e=>exact⟨a,b,_,rfl,rfl,e⟩
 |_=>cases h
abbrev Li:R2:=λx y H Q=>∃a v,x=.ref a/\DGet H a y (df v)/\Q v H
def CY(hu:X.A.units+1<ğ):IxR X Li:=by
 intro ŧ slice Â s σ H x y v u Q I rx ry h hs;let⟨a,z,rfl,g,q⟩:=h;cases rx;have hT:=MJ I g;unfold bY;refine À ?_;rw[getitemInPython_of_ne hT.not_modules];refine À<|wpAny_specialOf hT PySem.F.slot_dict_getitem.lookup ?_;have fin:wpAny (Û X.prog X.w) X.A (subscripted slice di (.ref a) u) (λr ϵ=>wpAny (Û X.prog X.w) X.A (letTemporaryGo ŧ (.ref a) r >>= λ_=>pure r) (EP X Â σ Q) X.xe ϵ) X.xe s:=by rw[hs];exact wpAny_operating<|OX hu I g ry λw' s' I' aJ=>À<|wpAny_letTemporaryGo<|Ë ⟨_,_,I',aJ,q⟩
 first
  |exact Ë<|À fin
  |exact À<|Ë<|À fin
  |exact À fin
abbrev CQ(b:Bool):R2:=λx y H Q=>∃a o,y=.ref a/\DGet H a x o/\Q (.bl<|b ^^ o.isSome) H
def Hl(hu:X.A.units+1<ğ):OpR X (ê .In)<|CQ di:=by k_ne;let⟨a,o,rfl,g,q⟩:=h;cases ry;rw[Bool.false_xor]at q;exact Py hu I g rx λs' I'=>⟨.bl o.isSome,_,I',rfl,q⟩
def Gf(hu:X.A.units+1<ğ):OpR X (ê .NotIn)<|CQ dh:=by k_ne;let⟨a,o,rfl,g,q⟩:=h;cases ry;rw[aS]at q;exact CN hu I g rx λs' I'=>⟨.bl (!o.isSome),_,I',rfl,q⟩
abbrev E2:V->V->V->Hp->(Hp->Prop)->Prop:=λo y v H Q=>∃a H',o=.ref a/\DPut H a y v H'/\Q H'
def B3(hu:X.A.units+1<ğ):PSet X E2:=by intro Â s σ H o y v ov iv u Q I ro ri rv h;let⟨a,H',rfl,g,q⟩:=h;cases ro;exact Uk hu I g ri rv λs' I'=>⟨H',I',q⟩
def PSet.or{r r':V->V->V->Hp->(Hp->Prop)->Prop}(h:PSet X r)(h':PSet X r'):PSet X λo y v H Q=>r o y v H Q\/r' o y v H Q:=by
 intro Â s σ H o y v ov iv u Q I ro ri rv q;rcases q with q|q
 .exact h Â s σ H o y v ov iv u Q I ro ri rv q
 .exact h' Â s σ H o y v ov iv u Q I ro ri rv q
end Snd
namespace Snd
open PySem L2
variable {i:Inf}{X:Cx}{Z:O.Fs}
def Kv(n:Nat)(k:Int):O.ixN n k=L2.ixN n k:=rfl
variable {H:Hp} {xs:List O.Val} {vs:List V}
def KD{K:Frag}{k:Int}{v:O.Val}(r:RVs K H xs vs)(e:O.atI xs k=df v):∃x,L2.atI vs k=df x/\RV K H v x:=by
 unfold O.atI at e;unfold L2.atI;rw[Kv,r.length]at e;cases z:L2.ixN vs.length k with
 |none=>rw[z]at e;cases e
 |some j =>rw[z]at e;let⟨x,h1,h2⟩:=r.get (show xs[j]?=df v from e);exact⟨x,h1,h2⟩
abbrev Iv(i:Inf)(r:R2):Prop:=∀(v u:O.Val) (G:O.Hs) (H:Hp) (x y:V) (w:O.Val) (Q:VK),RH i G H->RV i.K H v x->RV i.K H u y->O.eh G v u=df w->(∀z,RV i.K H w z->Q z H)->r x y H Q
variable {a:Expr} {ma:O.E} {ç:Pos}
def Iq{b:Expr}{mb:O.E}{r:R2}(hr:IxR X r)(ho:Iv i r)(ha:PE X a<|tE X i Z ma)(hb:PE X b<|tE X i Z mb)(hs:Kf b):PE X (.Subscript a b ç) (tE X i Z<|.idx ma mb) :=
 (LI hr ha hb hs).imp λσ H Q ⟨env,G,Qm,Em,p,w,c⟩=>by
  exact two p w λv u G2 H2 x y k2 p2 rx ry q=>by let⟨z,e,q⟩:=dr q;exact ho v u G2 H2 x y z Q p2.hp rx ry e λt rt=>c z G2 H2 t k2 p2.hp rt q
def DN{s:String}{k:Int}{c:Char}(e:O.atI s.toList k=df c):L2.atI (fE s).cps.toList k=df c.toNat:=by
 rw[Str.ofString_eq_toList];show L2.atI (List.map ň s.toList).toArray.toList k=_;unfold O.atI at e;unfold L2.atI;simp![Á];rw[Kv]at e;cases z:L2.ixN s.toList.length k with
 |none=>rw[z]at e;cases e
 |some j =>rw[z]at e;have e:s.toList[j]?=df c:=e;show(List.map ň s.toList)[j]?=_;rw[ã,e];rfl
def MO(c:Char):fE (ϗ c)=⟨#[c.toNat]⟩:=by rw[Str.ofString_eq_toList];simp
abbrev L1(K:Frag):R2:=λx y H Q=>rIx K x y H Q\/Li x y H Q
def HH:Iv i<|L1 i.K:=by
 intro v u G H x y w Q g rx ry e q;cases v with
 |tup xs =>
  cases u with
  |int k =>
   cases rx with
   |tup hp hr =>let⟨z,h1,h2⟩:=KD hr (show O.atI xs k=df w from e);exact .inl<|.inr<|.inl ⟨_,_,k,z,rfl,ry.int_inv,Zl hp,h1,q z h2⟩
  |_=>cases e
 |str s =>
  cases u with
  |int k =>
   simp![O.eh]at e;split at e
   .rename_i hl;cases z:O.atI s.toList k with
    |none=>rw[z]at e;cases e
    |some c =>rw[z]at e;cases e;refine .inl (.inr<|.inr ⟨_,k,_,rx.str_inv,ry.int_inv,by rw[ZH];exact Ü hl Z5,DN z,?_⟩);have:=q _<|.str<|ϗ c;rw[MO]at this;exact this
   .cases e
  |_=>cases e
 |ref a =>
  cases rx.ref_inv
  replace e:(match G a with|some (.lst xs)=>(O.fg u).bind (O.atI xs)|some (.dct kvs)=>if O.dM u then O.dO kvs u else dg|some (.frz kvs)=>if O.dM u then O.dO kvs u else dg|some (.dtp kvs)=>if O.isKeyT u then O.dO kvs u else dg|_=>dg)=df w:=e
  cases z:G a with
  |none=>rw[z]at e;cases e
  |some o =>
   rw[z]at e;cases o with
   |lst xs =>let⟨k,hk,e⟩:=î.mp e;cases Z7 hk;let⟨vs,h1,h2⟩:=g a _ z;let⟨t,h3,h4⟩:=KD h2 e;exact .inl<|.inl ⟨a,vs,k,t,rfl,ry.int_inv,eY.of h1,h3,q t h4⟩
   |dct kvs =>let⟨hk,e⟩:=ZD (show(if O.dM u then O.dO kvs u else dg)=df w from e);let⟨ps,h1,h2⟩:=g a _ z;let⟨d,kr,rfl⟩:=dI hk ry;let⟨t,hx,rv⟩:=(h2.look kr).1 w e;exact .inr ⟨a,t,rfl,by rw[<-hx];exact DGet.k h1,q t rv⟩
   |frz kvs =>let⟨hk,e⟩:=ZD (show(if O.dM u then O.dO kvs u else dg)=df w from e);let⟨ob,ps,h1,h2⟩:=g a _ z;let⟨d,kr,rfl⟩:=dI hk ry;let⟨t,hx,rv⟩:=(h2.look kr).1 w e;exact .inr ⟨a,t,rfl,.inl ⟨ps,d,.inr ⟨ob,h1⟩,rfl,hx.symm⟩,q t rv⟩
   |dtp kvs =>let⟨hk,e⟩:=ZD (show(if O.isKeyT u then O.dO kvs u else dg)=df w from e);let⟨ps,h1,h2⟩:=g a _ z;let⟨k1,k2,b,rfl,rfl,hb⟩:=KJ hk ry;let⟨t,hx,rv⟩:=(h2.look).1 w e;exact .inr ⟨a,t,rfl,by rw[<-hx];exact DGet.t h1 hb,q t rv⟩
   |_=>cases e
 |scr ns =>
  cases u with
  |int k =>
   cases rx with
   |scr h =>let⟨t,h3,h4⟩:=KD (RVs.ints ns) (show O.atI (ns.map .int) k=df w from e);exact .inl<|.inl ⟨_,_,k,t,rfl,ry.int_inv,Ye h,h3,q t h4⟩
  |_=>cases e
 |_=>cases e
abbrev tOx(X:Cx)(i:Inf)(Z:O.Fs)(m:O.Oe):TO:=λσ H Q=>∃env G Qm Em,Pre X i σ H env G Em/\O.wO Z m env G Qm Em/\∀k G' H',dN H H'->RH i G' H'->Qm k G'->Q k H'
def _root_.L2.PO.imp{e:Option Expr}{t t':TO}(h:PO X e t)(f:∀σ H Q,t' σ H Q->t σ H Q):PO X e t':=λÂ s σ H Q I q=>h Â s σ H Q I (f σ H Q q)
def DL:PO X dg<|tOx X i Z .none:=po_none.imp λσ H Q ⟨env,G,Qm,Em,p,w,c⟩=>by exact c dg G H (dN.refl H) p.hp w
def Et{e:Expr}{m:O.E}(he:PE X e<|tE X i Z m):PO X (df e)<|tOx X i Z<|.some m:=(Eh he).imp λσ H Q ⟨env,G,Qm,Em,p,w,c⟩=>by
 exact one p w λv G1 H1 x k1 p1 r q=>by let⟨b,e,q2⟩:=dr q;cases Z7 e;exact⟨b,r.int_inv,c _ G1 H1 k1 p1.hp q2⟩
def Nn{K:Frag}(r:RVs K H xs vs)(lo hi:Option Int):RVs K H (O.cut xs lo hi)<|Ko vs lo hi:=by
 have e:∀(n d:Nat) (o:Option Int),O.d6 n d o=HT.sIx n d o:=by
  intro n d o;cases o with
  |none=>rfl
  |some k =>
   show(if 0<=k then min k.toNat n else(k+n).toNat)=(if k<0 then(k+(n:Int)).toNat else min k.toNat n)
   by_cases h:k<0
   .rw[fm h,fo<|by lia]
   .rw[fo h,fm<|by lia]
 unfold O.cut Ko;rw[e,e,r.length];exact(r.drop _).take _
abbrev LJ(i:Inf)(r:V->Option Int->Option Int->Hp->VK->Prop):Prop:=∀(v:O.Val) (lo hi:Option Int) (G:O.Hs) (H:Hp) (x:V) (Q:VK) (Qm:O.Q1),RH i G H->RV i.K H v x->(O.ek G v lo hi).wp G Qm->Cn i H Q Qm->r x lo hi H Q
def Lw{lo hi:Option Expr}{ml mh:O.Oe}{r:V->Option Int->Option Int->Hp->VK->Prop}{p2:Pos}(hr:SlR X r)(ho:LJ i r)(ha:PE X a<|tE X i Z ma)(hl:PO X lo<|tOx X i Z ml)(hh:PO X hi<|tOx X i Z mh):PE X (.Subscript a (.Slice lo hi dg p2) ç) (tE X i Z<|.slc ma ml mh) :=
 (Bz hr ha hl hh).imp λσ H Q ⟨env,G,Qm,Em,p,w,c⟩=>by
  exact⟨env,G,_,Em,p,w,λv G1 H1 x k1 g1 r1 w1=>⟨env,G1,_,Em,p.go k1 g1,w1,λl G2 H2 k2 g2 w2=>⟨env,G2,_,Em,(p.go k1 g1).go k2 g2,w2,λu G3 H3 k3 g3 w3 =>
    ho v l u G3 H3 x Q Qm g3 ((r1.keep k2).keep k3) w3 (((c.go k1).go k2).go k3)⟩⟩⟩
abbrev Ip(K:Frag):V->Option Int->Option Int->Hp->VK->Prop:=λx lo hi H Q=>Lu K x lo hi H Q\/Ia K x lo hi H Q\/HQ x lo hi H Q\/HB K x lo hi H Q
def L5:SlR X<|Ip X.K:=sl_list.or (eM.or<|sl_str.or DR)
def Xq(n d:Nat)(o:Option Int):O.d6 n d o=HT.sIx n d o:=by
 cases o with
 |none=>rfl
 |some k =>
  show(if 0<=k then min k.toNat n else(k+n).toNat)=(if k<0 then(k+(n:Int)).toNat else min k.toNat n)
  by_cases h:k<0
  .rw[fm h,fo<|by lia]
  .rw[fo h,fm<|by lia]
def K4(n d:Nat)(h:d<=n)(o:Option Int):O.d6 n d o<=n:=by
 cases o with
 |none=>exact h
 |some k =>show(if 0<=k then min k.toNat n else(k+n).toNat)<=n;split<;>lia
def clip_eq(n d:Nat)(h:d<=n)(o:Option Int):(match o with
    |none=>(d:Int)
    | some i=>max 0<|min (if i<0 then i+(n:Int)else i) (n:Int))=(O.d6 n d o:Int):=by
 cases o with
 |none=>rfl
 |some k =>
  show _=(((if 0<=k then min k.toNat n else(k+n).toNat):Nat):Int)
  by_cases hk:k<0
  .rw[fo<|show ¬ 0<=k by lia];simp![hk,if_true];lia
  .rw[fm<|show 0<=k by lia];simp![hk,if_false];lia
def Fz(n:Nat)(lo hi:Option Int):PySem.Builtin.Str.strSliceIndices lo hi 1 n=(List.range<|O.d6 n n hi - O.d6 n 0 lo).map λk=>O.d6 n 0 lo+k:=by
 have e1:=clip_eq n 0 (Ĥ _) lo;have e2:=clip_eq n n (Ê _) hi;have e3:PySem.Builtin.Str.strSliceIndices lo hi 1 n=sliceRange (O.d6 n 0 lo:Int) (O.d6 n n hi:Int) 1:=by unfold PySem.Builtin.Str.strSliceIndices;rw[<-e1,<-e2];cases lo<;>cases hi<;>rfl
 rw[e3];unfold sliceRange;have e4:(if(1:Int) > 0 then(if(O.d6 n 0 lo:Int)<(O.d6 n n hi:Int)then((O.d6 n n hi:Int) - (O.d6 n 0 lo:Int)+1 - 1) / 1 else 0)else(if(O.d6 n 0 lo:Int) > (O.d6 n n hi:Int)then((O.d6 n 0 lo:Int) - (O.d6 n n hi:Int) - 1 - 1) / (-1)else 0)).toNat=O.d6 n n hi - O.d6 n 0 lo:=by rw[fm (by decide),Int.ediv_one];split<;>lia
 show(List.range<|Int.toNat<|if(1:Int) > 0 then _ else _).map _=_;rw[e4];refine ō λk _=>?_;lia
def CM(s:String)(lo hi:Option Int):US (fE s) lo hi=fE (ŷ<|O.cut s.toList lo hi):=by
 have hl:(fE s).length=s.toList.length:=by rw[ZH,bh]
 have ha:=K4 s.toList.length 0 (Ĥ _) lo;have hb:=K4 s.toList.length s.toList.length (Ê _) hi;have e:=Fz s.toList.length lo hi;rw[<-hl]at e;unfold US;rw[e];simp![hl];have ec:(fE s).cps.toList=s.toList.map ň:=by rw[Str.ofString_eq_toList]
 split
 .rename_i z;rw[Á,Ą]at z;have e0:O.d6 s.toList.length 0 lo=0\/s.toList.length=0:=by lia
  have e5:O.cut s.toList lo hi=s.toList:=by
   unfold O.cut;rw[z];rcases e0 with e0|e0
   .rw[e0,List.drop_zero,Ċ]
   .have:s.toList=[]:=μ.mp e0;rw[this];simp
  rw[e5,String.ofList_toList]
 .rw[Str.ofString_eq_toList<|ŷ _,bj];congr 2;have e3:(λi:Nat=>(fE s).cps[i]?)=λi:Nat=>(s.toList.map ň)[i]?:=by
   funext i;rw[<-ec];simp
  rw[e3];by_cases hab:O.d6 s.toList.length 0 lo<=O.d6 s.toList.length s.toList.length hi
  .rw[PySem.StrLaws.picks _ _ _<|by rw[Á];lia];unfold O.cut;rw[List.map_take,List.map_drop]
  .have:O.d6 s.toList.length s.toList.length hi - O.d6 s.toList.length 0 lo=0:=by lia
   unfold O.cut;rw[this];simp
def Lv:LJ i<|Ip i.K:=by
 intro v lo hi G H x Q Qm g r w c;cases v with
 |tup xs =>
  simp![O.ek]at w;split at w
  .rename_i hn;rw[O.Rs.wp_val]at w;cases r with
   |@tup _ a vs hp hr=>exact .inr (.inr<|.inr ⟨a,vs,rfl,Zl hp,by rw[<-Xq,<-Xq,<-hr.length];exact hn,c _ G H _ (dN.refl H) g (.tup hp hr) w⟩)
  .rename_i hn;rw[O.Rs.wp_val]at w;cases r with
   |@tup _ a vs hp hr =>refine .inr (.inl ⟨a,vs,rfl,Zl hp,by rw[<-Xq,<-Xq,<-hr.length];exact hn,λp hp'=>?_⟩);have k:=dN.new (o:=.tup<|Ko vs lo hi) hp';refine c _ G _ _ k (g.hid k λb o e=>dj ?_) (.tup (.inl dm)<|Nn (hr.keep k) lo hi) w;rintro rfl;rw[g.free hp']at e;cases e
 |ref a =>
  cases r.ref_inv;simp![O.ek]at w;cases z:O.dF (G a)with
  |none=>rw[z]at w;simp at w
  |some xs =>rw[z]at w;rw[O.Rs.wp_new]at w;let⟨vs,h1,h2⟩:=Zy g z;exact .inl ⟨a,vs,rfl,h1,Z6 g w c λp hp=>⟨_,dm,Nn (h2.keep<|dN.new hp) lo hi⟩⟩
 |scr ns =>
  simp![O.ek,O.Rs.wp_new]at w;cases r with
  |scr h=>exact .inl ⟨_,_,rfl,Ye h,Z6 g w c λp hp=>⟨_,dm,Nn (RVs.ints ns) lo hi⟩⟩
 |str s =>
  cases r.str_inv;simp![O.ek]at w;split at w
  .rename_i hl;rw[O.Rs.wp_val]at w;refine .inr (.inr <| .inl ⟨_,rfl,by rw[ZH];exact Ü hl (by decide),?_⟩);rw[CM];exact c _ G H _ (dN.refl H) g (.str _) w
  .simp at w
 |_=>simp[O.ek]at w
variable {H:Hp} {vs:List O.Val} {xs:List V} {x:V}
def RVs.app1{K:Frag}{v:O.Val}(r:RVs K H vs xs)(q:RV K H v x):RVs K H (vs++[v])<|xs++[x]:=r.append (.cons q .nil)
variable {es:List Expr} {ms:O.Es} {n:Nat} {ç:Pos}
def Ln{k:Nat}(hn:n<=1000)(h:PA X es<|tAr X i Z ms n):PE X (.Tuple es k ç) (tE X i Z<|.tup ms) :=
 (Fo h).imp λσ H Q ⟨env,G,Qm,Em,p,w,c⟩=>by refine⟨env,G,_,Em,p,w,λvs G1 H1 xs k1 g1 r1 hl w1=>⟨by rw[hl];exact Ü hn (by decide),λa ha=>?_⟩⟩;have k:=dN.new (o:=.tup xs) ha;refine c _ G1 _ _ (k1.trans k) (g1.hid k λb o e=>dj ?_) (.tup (.inl dm)<|r1.keep k) w1;rintro rfl;rw[g1.free ha]at e;cases e
def LC(hn:n<=1000)(h:PA X es<|tAr X i Z ms n):PE X (.List es ç) (tE X i Z<|.lst ms) :=
 (Ff h).imp λσ H Q ⟨env,G,Qm,Em,p,w,c⟩=>by refine⟨env,G,_,Em,p,w,λvs G1 H1 xs k1 g1 r1 hl w1=>⟨by rw[hl];exact Ü hn (by decide),Z6 g1 w1 (c.go k1) λa ha=>?_⟩⟩;exact⟨xs,dm,r1.keep<|dN.new ha⟩
abbrev Uw(i:Inf)(f:O.Bi)(r:List V->Hp->VK->Prop):Prop:=∀(vs:List O.Val) (G:O.Hs) (H:Hp) (xs:List V) (Q:VK) (Qm:O.Q1),RH i G H->RVs i.K H vs xs->(O.biV G f vs).wp G Qm->Cn i H Q Qm->r xs H Q
def MF{f:O.Bi}{r:List V->Hp->VK->Prop}(hr:Uw i f r):∀σ H Q,tE X i Z (.bi f ms) σ H Q->tCB r (tAr X i Z ms n) σ H Q:=λσ H Q ⟨env,G,Qm,Em,p,w,c⟩=>by exact⟨env,G,_,Em,p,w,λvs G1 H1 xs k1 g1 r1 _ w1=>hr vs G1 H1 xs Q Qm g1 r1 w1<|c.go k1⟩
def RVs.inv1{K:Frag}{v:O.Val}(r:RVs K H [v] xs):∃x,xs=[x]/\RV K H v x:=by cases r with|cons a t=>cases t;exact⟨_,rfl,a⟩
def RVs.inv2{K:Frag}{v u:O.Val}(r:RVs K H [v,u] xs):∃x y,xs=[x,y]/\RV K H v x/\RV K H u y:=by cases r with|cons a t=>cases t with|cons b t=>cases t;exact⟨_,_,rfl,a,b⟩
def JF(s:String):(fE s).cps.toList=s.toList.map ň:=by rw[Str.ofString_eq_toList]
def N6:∀(l:List Char) (a:Nat),(l.map ň).foldl (λļ c=>ļ*10+(c - 48)) a=l.foldl (λa c=>10*a+(c.toNat - 48)) a
 |[],_=>rfl
 |c::l,a=>by rw[È,ĭ,ĭ,N6 l,bv a 10]
def Do{s:String}(h1:s.toList≠[])(h2:s.toList.all O.figB=dh)(h3:s.length<=640):PySem.intText? (fE s)=df ((O.decN s.toList:Nat):Int):=by
 have hc:=JF s;rw[intText_digits (x:=fE s)]
 .rw[hc];unfold NumText.digitsVal O.decN;rw[N6]
 .rw[hc];intro c hm;let⟨d,hd,rfl⟩:=Ð.mp hm;have:=Ă.mp h2 d hd;unfold O.figB at this;simpa using this
 .rw[hc];simpa using h1
 .rw[ZH];lia
variable {h:O.Hs} {Q:O.Q1}
def Wz{f:O.Val->O.Rs}(w:(O.dG f vs).wp h Q):∃v,vs=[v]/\(f v).wp h Q:=by
 cases vs with
 |nil=>exact(Zv w).elim
 |cons v vs=>cases vs with
  |nil=>exact⟨v,rfl,w⟩
  |cons _ _=>exact(Zv w).elim
def Fv:Uw i .int λxs H Q=>((∃i,xs=[.int i]/\Q (.int i) H)\/∃k,xs=[.bl k]/\Q (.int<|if k then 1 else 0) H)\/∃z n,xs=[.str z]/\PySem.intText? z=df n/\z.length<=640/\Q (.int n) H:=by
 intro vs G H xs Q Qm g r w c;let⟨v,rfl,w⟩:=Wz w;let⟨x,rfl,rx⟩:=r.inv1;cases v with
 |int k=>cases rx.int_inv;exact .inl<|.inl ⟨k,rfl,c _ G H _ (dN.refl H) g (.int _)<|ZB w⟩
 |bl k=>cases rx.bl_inv;exact .inl<|.inr ⟨k,rfl,c _ G H _ (dN.refl H) g (.int _)<|ZB w⟩
 |str s =>cases rx.str_inv;let⟨hl,w⟩:=Xo w;exact .inr ⟨_,_,rfl,Do hl.2.1 hl.2.2 hl.1,by rw[ZH];exact hl.1,c _ G H _ (dN.refl H) g (.int _)<|ZB w⟩
 |_=>exact(Zv w).elim
abbrev H9(o:Option O.Ob)(f:List O.Val->O.Rs):O.Rs:=match o with
 |some (.lst xs)=>f xs
 |_=>.no
variable {o:Option O.Ob}
def AU{f:List O.Val->O.Rs}(w:(H9 o f).wp h Q):∃xs,o=df (.lst xs)/\(f xs).wp h Q:=by
 cases o with
 |none=>exact(Zv w).elim
 |some o=>cases o with
  |lst xs=>exact⟨xs,rfl,w⟩
  |_=>exact(Zv w).elim
abbrev kinds:List String:=["int","bool","str","list","tuple","dict"]
def DC(K:Frag):∀t∈["NoneType","bool","int","str","tuple","list","dict"],∀T∈kinds,PySem.W.kitOne K (.type t) (.type T)=df (t==T||(t == "bool" && T == "int")):=by intro t ht T hT;simp only[kinds,Æ,Õ,or_false]at ht hT;rcases ht with rfl|rfl|rfl|rfl|rfl|rfl|rfl<;>rcases hT with rfl|rfl|rfl|rfl|rfl|rfl<;>rfl
def kn(j:Nat){t:String}(h:["NoneType","bool","int","str","tuple","list","dict"][j]?=df t:=by rfl):t∈["NoneType","bool","int","str","tuple","list","dict"]:=å h
variable {G:O.Hs}
def OO(g:RH i G H){v:O.Val}{t:String}(r:RV i.K H v x)(e:O.fi G v=df t):TyV i.K H x (.type t)/\t∈["NoneType","bool","int","str","tuple","list","dict"]:=by
 cases v with
 |non=>cases r;cases e;exact⟨.of .non,kn 0⟩
 |bl b=>cases r;cases e;exact⟨.of<|.bl b,kn 1⟩
 |int b=>cases r;cases e;exact⟨.of<|.int b,kn 2⟩
 |str b=>cases r;cases e;exact⟨.of<|.str _,kn 3⟩
 |tup xs=>cases e;cases r with|tup hp hr=>exact⟨.tup<|Zl hp,kn 4⟩
 |scr ns=>cases e;cases r with|scr h=>exact⟨.lst<|Ye h,kn 5⟩
 |ref a =>
  cases r.ref_inv;simp![O.fi]at e;cases q:G a with
  |none=>rw[q]at e;cases e
  |some o =>
   rw[q]at e;cases o with
   |lst xs=>cases e;let⟨vs,h1,_⟩:=g a _ q;exact⟨.lst<|eY.of h1,kn 5⟩
   |dct kvs=>cases e;let⟨ps,h1,_⟩:=g a _ q;exact⟨.of<|.dK h1,kn 6⟩
   |ins C fs=>cases e
   |exc C=>cases e
   |frz _=>cases e
   |dtp _=>cases e
 |key _ _=>cases e
def Iw{e:Expr}{m:O.E}{T:String}{p p2:Pos}(hT:T∈kinds)(he:PE X e<|tE X i Z m)(hk:X.K=i.K)(hg:Gl X "isinstance")(hm:X.mg "isinstance" = dg)(hg2:Gl X<|fE T)(hm2:X.mg (fE T)=dg)
  (hv2:ń (fE T)=df (.type T)) (hn2:fE T≠"__name__") (aU:(fE T==("__debug__" : Str))=di) (ű:Ñ [e,.Name (fE T) p2] X.env=(di,eval e X.env)::Ñ [.Name (fE T) p2] X.env) :
  PE X (.Call (.Name "isinstance" p) [e,.Name (fE T) p2] [] ç) (tE X i Z<|.bi (.isi [T])<|.cons m .nil):=by
 refine(Xx Cm hg hm (by kernel_rfl) (Yd he (Yd (LF (T:=T) hg2 hm2 hv2 hn2 aU) eW) ű) (he:=ű)).imp λσ H Q ⟨env,G,Qm,Em,p,w,c⟩=>?_;refine one p w λv G1 H1 x k1 p1 r q=>?_
 replace q:(O.Rs.ofO (((O.fj G1 v T).bind λb=>(O.isiAny G1 v []).map (b || ·)).map .bl)).wp G1 Qm:=q
 simp![O.isiAny,O.fj]at q;cases z:O.fi G1 v with
 |none=>rw[z]at q;simp[O.Rs.ofO]at q
 |some t =>rw[z]at q;simp![Ĭ,ï,O.Rs.ofO,O.Rs.wp_val,aO]at q;let⟨h1,h2⟩:=OO p1.hp r z;refine⟨x,T,.type t,_,rfl,by rw[hk];exact h1,by rw[hk];exact DC _ t h2 T hT,c _ G1 H1 _ k1 p1.hp (.bl _) q⟩
def Ni(h:O.isLst o=dh):∃xs,o=df (.lst xs):=by
 cases o with
 |none=>cases h
 |some o=>cases o with
  |lst xs=>exact⟨xs,rfl⟩
  |_=>cases h
variable {a:Ç}
def U5{f:O.Ad->List O.Val->Option (O.Val×O.Hs)}{t:O.Val×O.Hs}(e:O.bmL G (.ref a) f=df t):∃xs,G a=df (.lst xs)/\f a xs=df t:=by let⟨xs,h1,h2⟩:=î.mp (show(O.dF<|G a).bind (f a)=df t from e);exact⟨xs,UU h1,h2⟩
def Wb{xs:List O.Val}{vs:List V}(g:RH i G H)(h:H a=df (.lst vs))(ys:List O.Val)(us:List V)(r:RVs i.K H ys us):dN H (upd H a<|.lst us)/\RH i (O.upd G a<|.lst ys) (upd H a<|.lst us):=by
 have k:dN H<|upd H a<|.lst us:=dN.put (λxs e=>by rw[h]at e;cases e) λp u e=>by rw[h]at e;cases e
 exact⟨k,g.put k ⟨us,dm,r.keep k⟩⟩
abbrev spF(i:Inf)(P:O.Pg)(n:Nat)(f:String):Sp:=λvs H Q E=>∃args G Qm Em,RVs i.K H args vs/\RH i G H/\O.wF P n f args G Qm Em/\Cn i H Q Qm/\∀cls d H',XK1 i H Em cls d H'->E cls d H'
abbrev Dfo(pr:ä)(w:ü)(mg:Str->Option Ã)(base:ù)(i:Inf)(P:O.Pg)(n:Nat)(f:String):Prop :=
 ∃fa fd ps,dX pr w i.K mg base (CX1 pr w) (2*n) fa fd ps (spF i P n f)/\mg (fE f)=df (.ref fa)/\PySem.W.keepIn i.K (.ref fa)=dh/\Binds i.K fd ps []
variable {e:Expr} {es:List Expr} {ç:Pos}
def Gi{P:O.Pg}{n k:Nat}{f:String}{ms:O.Es}{p:Pos}(hK:X.K=i.K)(D:Dfo X.prog X.w X.mg X.base i P n f)(hr:dW (2*n) X.A)(hg:Gl X<|fE f)(bE:(fE f==("__debug__" : Str))=di)
  (ha:PA X (e::es)<|tAr X i (O.wF P n) ms k) (he:Ñ (e::es) X.env=(di,eval e X.env)::Ñ es X.env) (hpl:(Ĕ ç<|Ñ es X.env).any (·.1)=di) :
  PE X (.Call (.Name (fE f) p) (e::es) [] ç) (tE X i (O.wF P n)<|.call f ms):=by
 let⟨fa,fd,ps,F,hm,hk,hb⟩:=D;rw[<-hK]at F hk hb;k_upd;let⟨env,G,Qm,Em,pr,w,c⟩:=h;refine Ek (E:=XK1 i H Em) F hr hg hm hk hb .nil (XW.passes pr.xo) ha bE he hpl Â s σ H Q I ⟨env,G,_,Em,pr,w,λvs G1 H1 xs k1 g1 r1 hl w1=>?_⟩;exact⟨vs,G1,Qm,Em,by rw[Ĉ];exact r1,g1,w1,c.go k1,λcls d H' h=>h.go k1⟩
abbrev XKS(i:Inf)(H:Hp)(Xe:O.EQ):XK:=λcls _ H'=>∃e c G' ad,cls=.ref ad/\i.xc c ad/\dN H H'/\RH i G' H'/\Xe e c G'
structure PreS(X:Cx)(i:Inf)(σ:St)(H:Hp)(env:O.Env)(G:O.Hs)(Xe:O.EQ):Prop where
 en:REn i.K H env σ
 hp:RH i G H
 xo:XW X<|XKS i H Xe
variable {σ:St} {H:Hp} {H1:Hp} {G:O.Hs} {Xe:O.EQ}
def PreS.go{σ1:St}{env env1:O.Env}{G1:O.Hs}(p:PreS X i σ H env G Xe)(k:dN H H1)(r:RH i G1 H1)(e:REn i.K H1 env1 σ1):PreS X i σ1 H1 env1 G1 Xe :=
 ⟨e,r,λÂ σ H0 s H' a cls s' I f ⟨e,c,G',ad,q1,q2,q3,q4⟩=>p.xo Â σ H0 s H' a cls s' I f ⟨e,c,G',ad,q1,q2,k.trans q3,q4⟩⟩
def PreS.pre{env:O.Env}(p:PreS X i σ H env G Xe):Pre X i σ H env G (Xe env) :=
 ⟨p.en,p.hp,λÂ σ H0 s H' a cls s' I f ⟨c,G',ad,q1,q2,q3,q4⟩=>p.xo Â σ H0 s H' a cls s' I f ⟨env,c,G',ad,q1,q2,q3,q4⟩⟩
structure EOk(i:Inf)(H:Hp)(D:Ends)(N:O.NQ)(R:O.Q1)(B C:O.NQ):Prop where
 nx:∀Ň Ŏ G' H',dN H H'->RH i G' H'->REn i.K H' Ň Ŏ->N Ň G'->D.nx Ŏ H'
 rt:∀v G' H' x,dN H H'->RH i G' H'->RV i.K H' v x->R v G'->D.rt x H'
 bk:∀Ň Ŏ G' H',dN H H'->RH i G' H'->REn i.K H' Ň Ŏ->B Ň G'->D.bk Ŏ H'
 ct:∀Ň Ŏ G' H',dN H H'->RH i G' H'->REn i.K H' Ň Ŏ->C Ň G'->D.ct Ŏ H'
def EOk.go{D:Ends}{N:O.NQ}{R:O.Q1}{B C:O.NQ}(e:EOk i H D N R B C)(k:dN H H1):EOk i H1 D N R B C :=
 ⟨λa b c d k'=>e.nx a b c d<|k.trans k',λa b c d k'=>e.rt a b c d<|k.trans k',λa b c d k'=>e.bk a b c d<|k.trans k',λa b c d k'=>e.ct a b c d<|k.trans k'⟩
inductive tStx (X:Cx) (i:Inf) (Z:O.Fs) (m:O.S) (D:Ends) (σ:St) (H:Hp):Prop
 |mk (env:O.Env) (G:O.Hs) (N:O.NQ) (R:O.Q1) (B C:O.NQ) (Xe:O.EQ) (p:PreS X i σ H env G Xe) (w:O.wS Z m env G N R B C Xe) (e:EOk i H D N R B C)
abbrev tSt(X:Cx)(i:Inf)(Z:O.Fs)(m:O.S):TS:=tStx X i Z m
inductive tBlx (X:Cx) (i:Inf) (Z:O.Fs) (m:O.Ss) (D:Ends) (σ:St) (H:Hp):Prop
 |mk (env:O.Env) (G:O.Hs) (N:O.NQ) (R:O.Q1) (B C:O.NQ) (Xe:O.EQ) (p:PreS X i σ H env G Xe) (w:O.wSs Z m env G N R B C Xe) (e:EOk i H D N R B C)
abbrev tBl(X:Cx)(i:Inf)(Z:O.Fs)(m:O.Ss):TS:=tBlx X i Z m
variable {st:ġ} {t':TS}
def _root_.L2.PS.imp{t:TS}(h:PS X st t)(f:∀D σ H,t' D σ H->t D σ H):PS X st t':=λÂ s σ H D I q=>h Â s σ H D I (f D σ H q)
def _root_.L2.PSs.imp{st:List ġ}{t:TS}(h:PSs X st t)(f:∀D σ H,t' D σ H->t D σ H):PSs X st t':=λÂ s σ H D I q=>h Â s σ H D I (f D σ H q)
def Hu:PSs X []<|tBl X i Z .nil:=pss_nil.imp λD σ H ⟨env,G,N,R,B,C,Xe,p,w,c⟩=>by exact c.nx env σ G H (dN.refl H) p.hp p.en w
def Dk{sts:List ġ}{m:O.S}{ms:O.Ss}(h1:PS X st<|tSt X i Z m)(h2:PSs X sts<|tBl X i Z ms):PSs X (st::sts) (tBl X i Z<|.cons m ms) :=
 (BO h1 h2).imp λD σ H ⟨env,G,N,R,B,C,Xe,p,w,c⟩=>by exact⟨env,G,_,R,B,C,Xe,p,w,⟨λŇ Ŏ G' H' k g e w'=>⟨Ň,G',N,R,B,C,Xe,p.go k g e,w',c.go k⟩,c.rt,c.bk,c.ct⟩⟩
variable {m:O.E}
def Ga(he:PE X e<|tE X i Z m):PS X (.Return (df e) ç) (tSt X i Z<|.ret m) :=
 (Gp he).imp λD σ H ⟨env,G,N,R,B,C,Xe,p,w,c⟩=>by exact⟨env,G,R,Xe env,p.pre,w,c.rt⟩
def C4:PS X (.Return dg ç) (tSt X i Z .retN) :=
 ps_retN.imp λD σ H ⟨env,G,N,R,B,C,Xe,p,w,c⟩=>by exact c.rt _ G H _ (dN.refl H) p.hp .non w
def Dx(he:PE X e<|tE X i Z m)(hs:ś e dg ç.line X.env=pure di):PS X (.Expr e ç) (tSt X i Z<|.expr m) :=
 (DV he hs).imp λD σ H ⟨env,G,N,R,B,C,Xe,p,w,c⟩=>by exact⟨env,G,_,Xe env,p.pre,w,λv G1 H1 x k1 g1 r1 w1=>c.nx env σ G1 H1 k1 g1 (p.en.keep k1) w1⟩
def FC{t:Expr}{a b:List ġ}{mt:O.Tt}{ma mb:O.Ss}(ht:PT X t<|tTt X i Z mt)(ha:PSs X a<|tBl X i Z ma)(hb:PSs X b<|tBl X i Z mb):PS X (.If t a b ç) (tSt X i Z<|.ite mt ma mb) :=
 (Ih ht ha hb).imp λD σ H ⟨env,G,N,R,B,C,Xe,p,w,c⟩=>by
  refine⟨env,G,_,Xe env,p.pre,w,λd G1 H1 k1 g1 q=>?_⟩;cases d with
  |true=>exact⟨env,G1,N,R,B,C,Xe,p.go k1 g1<|p.en.keep k1,⇑q,c.go k1⟩
  |false=>exact⟨env,G1,N,R,B,C,Xe,p.go k1 g1<|p.en.keep k1,⇑q,c.go k1⟩
abbrev gPt(i:Inf)(p:O.Pt):TG:=λx σ H Q=>∃v env G Ĳ,RV i.K H v x/\RH i G H/\REn i.K H env σ/\O.bind p G v env=df Ĳ/\∀cJ,REn i.K H Ĳ cJ->Q cJ H
variable {tg:Expr}
def _root_.L2.PG.imp{t t':TG}(h:PG X tg t)(f:∀v σ H Q,t' v σ H Q->t v σ H Q):PG X tg t':=λÂ s σ H v u Q I r q=>h Â s σ H v u Q I r (f v σ H Q q)
def _root_.L2.PGs.imp{tg:List Expr}{t t':TGs}(h:PGs X tg t)(f:∀v σ H Q,t' v σ H Q->t v σ H Q):PGs X tg t':=λÂ s σ H v u Q I r q=>h Â s σ H v u Q I r (f v σ H Q q)
variable {x:Str} {j:Nat}
def NB(hN:X.N.Nodup)(hi:X.N[j]?=df x)(hx:Loc X.env.scope x)(hf:X.fn x=dh\/X.env.scope.names.lookup x=df .local):PG X (.Name x ç) (gPt i<|.one j) :=
 (NT hN hi hx hf).imp λv σ H Q ⟨u,env,G,Ĳ,r,g,e,b,h⟩=>by cases b;exact h _<|e.set r j
abbrev ON(i:Inf)(js:List Nat):TGs:=λxs σ H Q=>∃vs env Ĳ,RVs i.K H vs xs/\REn i.K H env σ/\O.bindL js vs env=df Ĳ/\∀cJ,REn i.K H Ĳ cJ->Q cJ H
def DS:PGs X []<|ON i []:=pgs_nil.imp λxs σ H Q ⟨vs,env,Ĳ,r,e,b,h⟩=>by
 cases vs with
 |nil=>cases r;cases b;exact⟨rfl,h _ e⟩
 |cons _ _=>cases b
variable {js:List Nat}
def Aw(hN:X.N.Nodup)(hi:X.N[j]?=df x)(hx:Loc X.env.scope x)(hf:X.fn x=dh\/X.env.scope.names.lookup x=df .local)(h2:PGs X es<|ON i js)
  (hs:(ā (.Name x ç::es) X.env).map (·.2)=ť (.Name x ç) X.env::(ā es X.env).map (·.2)):PGs X (.Name x ç::es) (ON i<|j::js) :=
 (Jj (NT hN hi hx hf) h2 hs).imp λxs σ H Q ⟨vs,env,Ĳ,r,e,b,h⟩=>by
  cases vs with
  |nil=>cases b
  |cons v vs =>
   cases r with
   |cons r t=>exact⟨_,_,rfl,vs,env.set j<|df v,Ĳ,t,e.set r j,b,h⟩
def XM:∀{js:List Nat}{vs:List O.Val}{env Ĳ:O.Env},O.bindL js vs env=df Ĳ->vs.length=js.length
 |[],[],_,_,_=>rfl
 |j::js,v::vs,env,_,h=>by rw[Î,Î,XM<|show O.bindL js vs (env.set j<|df v)=_ from h]
 |[],_::_,_,_,h=>by cases h
 |_::_,[],_,_,h=>by cases h
def Oj{k:Nat}(hK:X.K=i.K)(hc:X.calm=dh)(h:PGs X es<|ON i js)(hn:(ā es X.env).length=js.length)(ű:(ā es X.env).findIdx? (·.1)=dg):PG X (.Tuple es k ç) (gPt i<|.many js) :=
 (AD (n:=js.length) hc h hn ű).imp λv σ H Q ⟨u,env,G,Ĳ,r,g,e,b,h⟩=>by
  cases u with
  |tup vs =>
   have b:O.bindL js vs env=df Ĳ:=b;cases r with
   |tup hp hr=>exact⟨_,_,rfl,by rw[hK];exact Zl hp,by rw[<-hr.length];exact XM b,vs,env,Ĳ,hr,e,b,h⟩
  |_=>cases b
def Dq{k k2:Nat}{p1 p2:Pos}(hK:X.K=i.K)(hc:X.calm=dh)(h1:PG X (.Name x p1)<|gPt i<|.one j)(h2:PG X (.Tuple es k2 p2)<|gPt i<|.many js):PG X (.Tuple [.Name x p1,.Tuple es k2 p2] k ç) (gPt i<|.nest j js) :=
 (AD (n:=2) hc (Jj h1 (Jj h2 pgs_nil rfl) rfl) rfl rfl).imp λv σ H Q ⟨u,env,G,Ĳ,r,g,e,b,h⟩=>by
  cases u with
  |tup vs =>
   cases vs with
   |nil=>cases b
   |cons x0 vs=>cases vs with
    |nil=>cases b
    |cons y vs=>cases vs with
     |cons _ _=>cases b
     |nil =>
      have b:(O.tupOf y).bind (λys=>O.bindL js ys<|env.set j<|df x0)=df Ĳ:=b;cases r with
      |tup hp hr =>
       cases hr with
       |cons r0 t=>cases t with
        |cons r1 t =>cases t;exact⟨_,_,rfl,by rw[hK];exact Zl hp,rfl,_,_,rfl,x0,env,G,_,r0,g,e,rfl,λcJ e2=>⟨_,_,rfl,y,_,G,Ĳ,r1,g,e2,b,λσ3 e3=>⟨rfl,h σ3 e3⟩⟩⟩
  |_=>cases b
def Gb{q:O.Pt}(he:PE X e<|tE X i Z m)(hg:PG X tg<|gPt i q)(hs:œ [tg] e ç.line X.env=pure di)(hw:ũ [tg] e X.env=pure dg)
  (h1:(ā [tg] X.env).map (·.2)=[ť tg X.env]):PS X (.Assign [tg] e ç) (tSt X i Z<|.set q m) :=
 (M1 he hg hs hw h1).imp λD σ H ⟨env,G,N,R,B,C,Xe,p,w,c⟩=>by refine⟨env,G,_,Xe env,p.pre,w,λv G1 H1 x k1 g1 r1 w1=>?_⟩;let⟨Ĳ,e2,w1⟩:=dr w1;exact⟨v,env,G1,Ĳ,r1,g1,p.en.keep k1,e2,λcJ h2=>c.nx Ĳ cJ G1 H1 k1 g1 h2 w1⟩
abbrev EY:V->V->V->Hp->(Hp->Prop)->Prop:=λo y v H Q=>EL o y v H Q\/E2 o y v H Q
def Hw{G G3:O.Hs}{H:Hp}{o k v:O.Val}{y z x:V}{Q:Hp->Prop}(g:RH i G H)(ry:RV i.K H o y)(rz:RV i.K H k z)(rx:RV i.K H v x)(e:O.eC G o k v=df G3)(c:∀H3,dN H H3->RH i G3 H3->Q H3):EY y z x H Q:=by
 cases o with
 |ref b =>
  cases ry.ref_inv
  replace e:(match G b with|some (.lst xs)=>(O.fg k).bind λn=>(O.ixN xs.length n).map λj=>O.upd G b (.lst<|xs.set j v)|some (.dct kvs)=>if O.dM k/\kvs.length<O.lim then df (O.upd G b<|.dct<|O.dQ kvs k v)else dg|some (.dtp kvs)=>if O.isKeyT k/\kvs.length<O.lim then df (O.upd G b<|.dtp<|O.dQ kvs k v)else dg|_=>dg)=df G3:=e
  cases z4:G b with
  |none=>rw[z4]at e;cases e
  |some o =>
   rw[z4]at e;cases o with
   |lst xs =>let⟨n,hn,e⟩:=î.mp e;let⟨jj,hj,rfl⟩:=á.mp e;cases Z7 hn;cases rz.int_inv;let⟨vs,h2,r2⟩:=g b _ z4;rw[Kv,r2.length]at hj;let⟨k3,g3⟩:=Wb (xs:=xs) g h2 (xs.set jj v) (vs.set jj x)<|r2.set rx jj;exact .inl ⟨b,vs,n,jj,rfl,rfl,h2,hj,c _ k3 g3⟩
   |dct kvs =>let⟨hk,e⟩:=ZD (show(if O.dM k/\kvs.length<O.lim then df (O.upd G b<|.dct<|O.dQ kvs k v)else dg)=df G3 from e);cases e;let⟨ps,h2,r2⟩:=g b _ z4;let⟨d,kr,rfl⟩:=dI hk.1 rz;let⟨k3,g3⟩:=N9 (kvs:=kvs) g h2<|r2.put kr rx;exact .inr ⟨b,_,rfl,DPut.k h2 (by rw[<-RKs.length r2];exact ß hk.2 Z5),c _ k3 g3⟩
   |dtp kvs =>let⟨hk,e⟩:=ZD (show(if O.isKeyT k/\kvs.length<O.lim then df (O.upd G b<|.dtp<|O.dQ kvs k v)else dg)=df G3 from e);cases e;let⟨ps,h2,r2⟩:=g b _ z4;let⟨a1,a2,d,rfl,rfl,hd⟩:=KJ hk.1 rz;let⟨k3,g3⟩:=Ed g h2<|r2.put (i:=a1) (j:=a2) rx;exact .inr ⟨b,_,rfl,DPut.t h2 hd (by rw[<-RTs.length r2];exact ß hk.2 Z5),c _ k3 g3⟩
   |_=>cases e
 |_=>cases e
def OS{a j:Expr}{ma mj:O.E}{Λ:Pos}(hK:X.K=i.K)(he:PE X e<|tE X i Z m)(ha:PE X a<|tE X i Z ma)(hj:PE X j<|tE X i Z mj)(hgl:PG X (.Subscript a j Λ)<|Il (tE X i Z ma) (tE X i Z mj) EY)(hs:œ [.Subscript a j Λ] e ç.line X.env=pure di)(hw:ũ [.Subscript a j Λ] e X.env=pure dg)
  (h1:(ā [.Subscript a j Λ] X.env).map (·.2)=[ť (.Subscript a j Λ) X.env]):PS X (.Assign [.Subscript a j Λ] e ç) (tSt X i Z<|.setIdx ma mj m) :=
 (M1 he hgl hs hw h1).imp λD σ H ⟨env,G,N,R,B,C,Xe,p,w,c⟩=>by refine⟨env,G,_,Xe env,p.pre,w,λv G1 H1 x k1 g1 r1 w1=>?_⟩;refine two (p.go k1 g1<|p.en.keep k1).pre w1 λo k G2 H2 y z k2 p2 ry rz q=>?_;let⟨G3,e3,q⟩:=dr q;exact Hw p2.hp ry rz (r1.keep k2) e3 λH3 k3 g3=>c.nx env σ _ _ ((k1.trans k2).trans k3) g3 (p2.en.keep k3) q
structure ItOk(i:Inf)(H0:Hp)(J:It)(st:O.Hs->Prop)(xs:List O.Val):Prop where
 go:∀n G H v,dN H0 H->RH i G H->st G->xs[n]?=df v->J.go n H/\∀x H',J.yld n H x H'->dN H H'/\RH i G H'/\RV i.K H' v x
 stop:∀n G H,dN H0 H->RH i G H->st G->xs.length<=n->J.stop n H
abbrev tIt(X:Cx)(i:Inf)(Z:O.Fs)(m:O.It):TI:=λσ H R=>∃env G QI Em,Pre X i σ H env G Em/\O.wI Z m env G QI Em/\∀st xs G' H' J,dN H H'->RH i G' H'->ItOk i H' J st xs->QI st xs G'->R J H'
variable {tg:Expr} {e:Expr}
def _root_.L2.PI.imp{t t':TI}(h:PI X tg e t)(f:∀σ H Q,t' σ H Q->t σ H Q):PI X tg e t':=λÂ s σ H Q I q=>h Â s σ H Q I (f σ H Q q)
abbrev LK(K:Frag)(tl:TE):TI:=λσ H R=>tl σ H λx H1=>∃a,x=.ref a/\(((∃xs,eY K H1 a xs)/\R (Itl K a) H1)\/((∃xs,eZ K H1 a xs)/\R (Itt K a) H1))
def GF{l:Expr}{tl:TE}(hl:PE X l tl):PI X tg l<|LK X.K tl:=by
 intro Â s σ H R I h;refine thn (hl Â s σ H _ I h) λv s1 ⟨x,H1,I1,r1,q1⟩=>?_;let⟨a,e,q1⟩:=q1;subst e;cases r1;rcases q1 with⟨⟨xs,hq⟩,q⟩|⟨⟨xs,hq⟩,q⟩
 .obtain⟨ð,rv,p,hz⟩:=I1.list hq;refine ak p.isList ?_;refine⟨s1.heap.objs.size,[s1.heap.objs.size],_,_,H1,rfl,I1.kept (t':=s1.toks) λb o e=>Ä _ e,OV a _,⟨_,Ö _ rfl,rfl,rfl⟩,λb hb=>?_,q⟩;have e:b=s1.heap.objs.size:=⇑hb
  subst e;exact I1.fpOk (Ê _)<|I1.hok.fresh<|Ê _
 .obtain⟨ð,rv,p,hz⟩:=I1.tuple hq;refine ſ (show s1.heap.IsTuple a ð.toArray from p) ?_;refine⟨s1.heap.objs.size,[s1.heap.objs.size],_,_,H1,rfl,I1.kept (t':=s1.toks) λb o e=>Ä _ e,MS a _,⟨_,Ö _ rfl,rfl,rfl⟩,λb hb=>?_,q⟩;have e:b=s1.heap.objs.size:=⇑hb
  subst e;exact I1.fpOk (Ê _)<|I1.hok.fresh<|Ê _
variable {H0:Hp} {a:Ç} {xs:List O.Val}
def it_lst:ItOk i H0 (Itl i.K a) (λg=>O.dF (g a)=df xs) xs where
 go:=λn G H v _ g e hv=>by let⟨vs,h1,h2⟩:=Zy g e;let⟨x,h3,h4⟩:=h2.get hv;refine⟨⟨vs,x,h1,h3⟩,λy H' ⟨e1,e2⟩=>?_⟩;subst e1;have:=e2 vs h1;rw[h3]at this;cases this;exact⟨dN.refl _,g,h4⟩
 stop:=λn G H _ g e hn=>by let⟨vs,h1,h2⟩:=Zy g e;exact⟨vs,h1,by rw[<-h2.length];exact hn⟩
def it_tup{vs:List V}(hp:H0 a=df (.tup vs)\/KT i.K a vs)(hr:RVs i.K H0 xs vs):ItOk i H0 (Itt i.K a) (λ_=>True) xs where
 go:=λn G H v k g e hv=>by have hp':H a=df (.tup vs)\/KT i.K a vs:=hp.imp (k.t _ _) id;let⟨x,h3,h4⟩:=(hr.keep k).get hv;refine⟨⟨vs,x,Zl hp',h3⟩,λy H' ⟨e1,e2⟩=>?_⟩;subst e1;have:=e2 vs<|Zl hp';rw[h3]at this;cases this;exact⟨dN.refl _,g,h4⟩
 stop:=λn G H k g e hn=>by have hp':H a=df (.tup vs)\/KT i.K a vs:=hp.imp (k.t _ _) id;exact⟨vs,Zl hp',by rw[<-hr.length];exact hn⟩
def it_scr{ns:List Int}(h:(∃o,H0 a=df (.frz o<|.lst<|ns.map V.int))\/KL i.K a (ns.map V.int)):ItOk i H0 (Itl i.K a) (λ_=>True) (ns.map .int) where
 go:=λn G H v k g e hv=>by have h':eY i.K H a<|ns.map V.int:=Ye<|h.imp (λ⟨o,e⟩=>⟨o,k.f _ _ _ e⟩) id;let⟨x,h3,h4⟩:=(RVs.ints (K:=i.K) (H:=H) ns).get hv;refine⟨⟨_,x,h',h3⟩,λy H' ⟨e1,e2⟩=>?_⟩;subst e1;have:=e2 _ h';rw[h3]at this;cases this;exact⟨dN.refl _,g,h4⟩
 stop:=λn G H k g e hn=>⟨_,Ye<|h.imp (λ⟨o,e⟩=>⟨o,k.f _ _ _ e⟩) id,⇑hn⟩
def He{lo hi:Int}{n:Nat}(hn:n=(hi - lo).toNat):ItOk i H0 (Itr lo n) (λ_=>True) (O.dY lo hi) where
 go:=λk G H v _ g _ hv=>by
  unfold O.dY at hv;rw[ã]at hv;have hk:k<(hi - lo).toNat:=by
   by_cases h:k<(hi - lo).toNat
   .exact h
   .rw[Δ<|by simpa using h]at hv;cases hv
  rw[ca hk]at hv;cases hv;refine⟨by rw[hn];exact hk,λx H' ⟨e1,e2⟩=>?_⟩;subst e1 e2;exact⟨dN.refl _,g,.int _⟩
 stop:=λk G H _ g _ hk=>by unfold O.dY at hk;show n<=k;simp at hk;lia
variable {m:O.E}
def FX(hK:X.K=i.K)(he:PE X e<|tE X i Z m):PI X tg e (tIt X i Z<|.seq m) :=
 (GF he).imp λσ H R ⟨env,G,QI,Em,p,w,c⟩=>by
  refine one p w λv G1 H1 x k1 p1 r q=>?_;let⟨⟨st,xs⟩,e1,q2⟩:=dr q;clear q;rw[hK];cases v with
  |tup ys =>
   cases e1;cases r with
   |tup hp hr=>exact⟨_,rfl,.inr ⟨⟨_,Zl hp⟩,c _ _ G1 H1 _ k1 p1.hp (it_tup hp hr) q2⟩⟩
  |scr ns =>
   cases e1;cases r with
   |scr h=>exact⟨_,rfl,.inl ⟨⟨_,Ye h⟩,c _ _ G1 H1 _ k1 p1.hp (it_scr h) q2⟩⟩
  |ref a =>
   cases r.ref_inv;simp![O.itV]at e1;cases z:O.dF (G1 a)with
   |none=>rw[z]at e1;cases e1
   |some ys =>rw[z]at e1;cases e1;let⟨vs,h1,h2⟩:=Zy p1.hp z;exact⟨a,rfl,.inl ⟨⟨vs,h1⟩,c _ _ G1 H1 _ k1 p1.hp it_lst q2⟩⟩
  |_=>cases e1
variable {ç:Pos}
def Bh{a:Expr}{p:Pos}(hg:Gl X "range")(hm:X.mg "range" = dg)(ha:PE X a<|tE X i Z m)(hs:Ñ [a] X.env=[(di,eval a X.env)]):PI X tg (.Call (.Name "range" p) [a] [] ç) (tIt X i Z<|.range m) :=
 (UG hg hm (Yd ha eW<|by rw[hs];rfl) hs).imp λσ H R ⟨env,G,QI,Em,p,w,c⟩=>by refine one p w λv G1 H1 x k1 p1 r q=>?_;let⟨n,e1,q2⟩:=dr q;clear q;cases Z7 e1;cases r.int_inv;exact⟨n,rfl,q2.1.1,q2.1.2,c _ _ G1 H1 _ k1 p1.hp (He<|by rw[Int.sub_zero]) q2.2⟩
def GL{iter:Expr}{body:List ġ}{q:O.Pt}{mi:O.It}{mb:O.Ss}(hp:ϒ (Û X.prog X.w) X.A X.env X.xe)(hc:X.calm=dh)(hi:PI X tg iter<|tIt X i Z mi)(hg:PG X tg<|gPt i q)(hb:PSs X body<|tBl X i Z mb)
  (hs:∀x,Đ iter X.env x=pure x):PS X (.For tg iter body [] ç) (tSt X i Z<|.for q mi mb) :=
 (U8 hp hc hi hg hb hs).imp λD σ H ⟨env,G,N,R,B,C,Xe,p,w,c⟩=>by
  refine⟨env,G,_,Xe env,p.pre,w,λst xs G1 H1 J k1 g1 it w1=>?_⟩;refine⟨λn m Ŏ H'=>n+m=xs.length/\∃Ň G',dN H1 H'/\RH i G' H'/\REn i.K H' Ň Ŏ/\O.wFor st (λv e g K M=>O.go (O.bind q g v e) λe2=>O.wSs Z mb e2 g K R M K Xe) N (xs.drop n) Ň G',⟨xs.length,by lia,env,G1,dN.refl _,g1,p.en.keep k1,⇑w1⟩,?_⟩;rintro n m Ŏ H' ⟨hnm,Ň,G',k2,g2,e2,w2⟩;by_cases hn:n<xs.length
  .right;have hd:xs.drop n=xs[n]::xs.drop (n+1):=ę hn;rw[hd]at w2;let⟨s2,w2⟩:=w2;have hv:xs[n]?=df xs[n]:=Ï hn;let⟨a1,a2⟩:=it.go n G' H' xs[n] k2 g2 s2 hv;refine⟨a1,λσ3 H3=>∃env3 G3,dN H1 H3/\RH i G3 H3/\REn i.K H3 env3 σ3/\O.wFor st (λv e g K M=>O.go (O.bind q g v e) λe2=>O.wSs Z mb e2 g K R M K Xe) N (xs.drop<|n+1) env3 G3,λσ3 H3 h=>⟨m - 1,by lia,by lia,h⟩,λx H3 hy=>?_⟩;let⟨k3,g3,r3⟩:=a2 x H3 hy;let⟨bM,e4,w4⟩:=dr w2;refine⟨xs[n],Ň,G',bM,r3,g3,e2.keep k3,e4,λσ4 h4=>?_⟩;have kk:dN H H3:=(k1.trans k2).trans k3;refine⟨bM,G',_,R,N,_,Xe,p.go kk g3 h4,w4,⟨λcy σ5 G5 H5 k5 g5 e5 w5=>?_,(c.go kk).rt,(c.go kk).nx,λcy σ5 G5 H5 k5 g5 e5 w5=>?_⟩⟩
   .exact⟨cy,G5,(k2.trans k3).trans k5,g5,e5,w5⟩
   .exact⟨cy,G5,(k2.trans k3).trans k5,g5,e5,w5⟩
  .left;have hd:xs.drop n=[]:=υ (by lia);rw[hd]at w2;exact⟨it.stop n G' H' k2 g2 w2.1 (by lia),c.nx Ň Ŏ G' H' (k1.trans k2) g2 e2 w2.2⟩
def F0:Uw i .len λxs H Q=>((∃p ys,xs=[.ref p]/\(eY i.K H p ys\/eZ i.K H p ys)/\Q (.int ys.length) H)\/∃z,xs=[.str z]/\z.length<=Ø/\Q (.int z.length) H)\/∃a kvs,xs=[V.ref a]/\H a=df (.dK kvs)/\Q (.int kvs.length) H:=by
 intro vs G H xs Q Qm g r w c;let⟨v,rfl,w⟩:=Wz w;let⟨x,rfl,rx⟩:=r.inv1;cases v with
 |ref a =>
  cases rx.ref_inv
  replace w:(match G a with|some (.lst xs)=>.val (.int xs.length)|some (.dct kvs)=>.val (.int kvs.length)|_=>.no:O.Rs).wp G Qm:=w
  cases z:G a with
  |none=>rw[z]at w;exact(Zv w).elim
  |some o =>
   rw[z]at w;cases o with
   |lst ys =>let⟨us,h1,h2⟩:=g a _ z;refine .inl<|.inl ⟨a,us,rfl,.inl<|eY.of h1,?_⟩;rw[<-h2.length];exact c _ G H _ (dN.refl H) g (.int _)<|ZB w
   |dct kvs =>let⟨ps,h1,h2⟩:=g a _ z;refine .inr ⟨a,ps,rfl,h1,?_⟩;rw[<-h2.length];exact c _ G H _ (dN.refl H) g (.int _)<|ZB w
   |_=>exact(Zv w).elim
 |tup ys =>
  cases rx with
  |tup hp hr =>refine .inl<|.inl ⟨_,_,rfl,.inr<|Zl hp,?_⟩;rw[<-hr.length];exact c _ G H _ (dN.refl H) g (.int _)<|ZB w
 |scr ns =>
  cases rx with
  |scr h =>refine .inl<|.inl ⟨_,_,rfl,.inl<|Ye h,?_⟩;rw[Á];exact c _ G H _ (dN.refl H) g (.int _)<|ZB w
 |str s =>cases rx.str_inv;let⟨hl,w⟩:=Xo w;refine .inl (.inr ⟨_,rfl,by rw[ZH];exact Ü hl Z5,?_⟩);rw[ZH];exact c _ G H _ (dN.refl H) g (.int _)<|ZB w
 |_=>exact(Zv w).elim
def Cz:Uw i .list λxs H Q=>∃p ys,xs=[.ref p]/\(eY i.K H p ys\/eZ i.K H p ys)/\∀l,H l=dg->Q (.ref l) (upd H l<|.lst ys):=by
 intro vs G H xs Q Qm g r w c;let⟨v,rfl,w⟩:=Wz w;let⟨x,rfl,rx⟩:=r.inv1;cases v with
 |ref a =>cases rx.ref_inv;let⟨ys,e,w⟩:=AU (f:=λxs=>.new<|.lst xs) w;let⟨us,h1,h2⟩:=g a _ e;exact⟨a,us,rfl,.inl<|eY.of h1,Z6 g (Wu w) c λp hp=>⟨_,dm,h2.keep<|dN.new hp⟩⟩
 |tup ys =>
  cases rx with
  |tup hp hr=>exact⟨_,_,rfl,.inr<|Zl hp,Z6 g (Wu w) c λp hp=>⟨_,dm,hr.keep<|dN.new hp⟩⟩
 |_=>exact(Zv w).elim
variable {H:Hp}
def M0{K:Frag}:∀{xs:List O.Val}{bs:List String}{vs:List V},O.strsOf xs=df bs->RVs K H xs vs->vs=(bs.map fE).map V.str:=by
 intro xs;induction xs with
 |nil=>intro bs vs e r;cases e;cases r;rfl
 |cons v xs ih =>
  intro bs vs e r;cases v<;>first|(cases e;done)|skip
  case str b =>
  simp![O.strsOf]at e;cases z:O.strsOf xs with
  |none=>rw[z]at e;cases e
  |some ns=>rw[z]at e;cases e;cases r with|cons a t=>cases a.str_inv;rw[ih z t];rfl
def Ca(ds:List O.D)(d:O.D):(toDs ds).any (λe=>ě e<|toD d)=ds.any λe=>O.D.eqv e d:=by
 induction ds with
 |nil=>rfl
 |cons e es ih=>simp![toDs,Ģ,ih,KI]
variable {G:O.Hs} {y:V} {ys:List O.Val}
def NZ(g:RH i G H){v u:O.Val}{x:V}{c:Bool}(rx:RV i.K H v x)(e:O.inL G v ys=df c)(hy:∀ds,ys.mapM (O.dat G<|O.deep - 1)=df ds->IsD i.K H y (.tuple<|toDs ds)\/IsD i.K H y (.list<|toDs ds)) :
  ∃ds d,(IsD i.K H y (.tuple ds)\/IsD i.K H y (.list ds))/\IsD i.K H x d/\Ŀ ds=dh/\d.canLay0=dh/\d.depth<=64/\ds.any (λe=>ě e d)=c:=by
 unfold O.inL at e;cases z:O.dat G O.deep v with
 |none=>rw[z]at e;cases e
 |some d =>
  rw[z]at e;simp![ï]at e;cases z2:ys.mapM (O.dat G<|O.deep - 1)with
  |none=>rw[z2]at e;cases e
  |some ds =>rw[z2]at e;cases e;exact⟨_,_,hy ds z2,Xn g _ _ _ _ z rx,toDs_lay ds,Kl d,Ü (J6 _ _ _ z) (by decide),Ca ds d⟩
def Oi(g:RH i G H){u:O.Val}(ry:RV i.K H u y)(hu:u=.tup ys\/∃a,u=.ref a/\O.dF (G a)=df ys):∀ds,ys.mapM (O.dat G<|O.deep - 1)=df ds->IsD i.K H y (.tuple<|toDs ds)\/IsD i.K H y (.list<|toDs ds):=by
 intro ds hd;rcases hu with rfl|⟨a,rfl,hl⟩
 .left;have:=Xn g O.deep (.tup ys) (.tup ds) y (by show Option.map _ (List.mapM (O.dat G<|O.deep - 1) ys)=_;rw[hd];rfl) ry;simpa[toD]using this
 .right;have:=Xn g O.deep (.ref a) (.lst ds) y (by show(O.dF<|G a).bind _=_;rw[hl];show Option.map _ (List.mapM (O.dat G<|O.deep - 1) ys)=_;rw[hd];rfl) ry;simpa[toD]using this
def GG(s t:String)(c:Char)(h:O.oneC s=df c):(!(Builtin.Str.occurrences (fE t) (fE s) 0 (fE t).length 1).isEmpty)=fB (c∈t.toList):=by
 have e:fE s=⟨#[c.toNat]⟩:=by
  unfold O.oneC at h;split at h
  .rename_i d hd;cases h;rw[Str.ofString_eq_toList,hd];rfl
  .cases h
 rw[e,StrLaws.found_one,JF];have inj:∀{a b:Char},a.toNat=b.toNat->a=b:=λ{a b} e=>Char.ext<|aR e;by_cases hc:c∈t.toList
 .rw[fw hc,fz];exact Ú hc
 .rw[ft hc,decide_eq_false_iff_not];intro m;let⟨d,hd,he⟩:=Ð.mp m;exact hc<|inj he▸hd
abbrev HS(K:Frag):R2:=λx y H Q=>CQ di x y H Q\/Ef K di x y H Q\/∃i j,x=.str i/\y=.str j/\Q (.bl (!(Builtin.Str.occurrences j i 0 j.length 1).isEmpty)) H
abbrev IL(K:Frag):R2:=λx y H Q=>CQ dh x y H Q\/Ef K dh x y H Q\/∃i j,x=.str i/\y=.str j/\Q (.bl (!(!(Builtin.Str.occurrences j i 0 j.length 1).isEmpty))) H
def PF(hu:X.A.units+65<ğ):OpR X (ê .In)<|HS X.K:=(Hl<|by lia).or ((FS hu).or Uq)
def LX(hu:X.A.units+65<ğ):OpR X (ê .NotIn)<|IL X.K:=(Gf<|by lia).or ((UQ hu).or KF)
def EJ{v u:O.Val}{G:O.Hs}{H:Hp}{x y:V}{b:Bool}(g:RH i G H)(rx:RV i.K H v x)(ry:RV i.K H u y)(e:O.inV G v u=df b) :
  (∃ds d,(IsD i.K H y (.tuple ds)\/IsD i.K H y (.list ds))/\IsD i.K H x d/\Ŀ ds=dh/\d.canLay0=dh/\d.depth<=64/\ds.any (λe=>ě e d)=b)\/
  (∃j k,x=.str j/\y=.str k/\(!(Builtin.Str.occurrences k j 0 k.length 1).isEmpty)=b)\/∃a o,y=.ref a/\DGet H a x o/\o.isSome=b:=by
 cases u with
 |tup ys=>exact .inl<|NZ (u:=.tup ys) g rx e<|Oi g ry<|.inl rfl
 |ref a =>
  replace e:(match G a with|some (.lst xs)=>O.inL G v xs|some (.dct kvs)=>if O.dM v then df (O.dP kvs v)else dg|some (.frz kvs)=>if O.dM v then df (O.dP kvs v)else dg|some (.dtp kvs)=>if O.isKeyT v then df (O.dP kvs v)else dg|_=>dg)=df b:=e
  cases z:G a with
  |none=>rw[z]at e;cases e
  |some o =>
   rw[z]at e;cases o with
   |lst ys=>exact .inl (NZ (u:=.ref a) g rx e<|Oi g ry<|.inr ⟨a,rfl,by rw[z];rfl⟩)
   |dct kvs =>let⟨hk,e⟩:=ZD (show(if O.dM v then df (O.dP kvs v)else dg)=df b from e);cases e;let⟨ps,h1,h2⟩:=g a _ z;let⟨d,kr,rfl⟩:=dI hk rx;exact .inr (.inr ⟨a,_,ry.ref_inv,DGet.k h1,by rw[h2.has kr,YK]⟩)
   |frz kvs =>let⟨hk,e⟩:=ZD (show(if O.dM v then df (O.dP kvs v)else dg)=df b from e);cases e;let⟨ob,ps,h1,h2⟩:=g a _ z;let⟨d,kr,rfl⟩:=dI hk rx;exact .inr (.inr ⟨a,_,ry.ref_inv,.inl ⟨ps,d,.inr ⟨ob,h1⟩,rfl,rfl⟩,by rw[h2.has kr,YK]⟩)
   |dtp kvs =>let⟨hk,e⟩:=ZD (show(if O.isKeyT v then df (O.dP kvs v)else dg)=df b from e);cases e;let⟨ps,h1,h2⟩:=g a _ z;let⟨k1,k2,d,rfl,rfl,hd⟩:=KJ hk rx;exact .inr (.inr ⟨a,_,ry.ref_inv,DGet.t h1 hd,by rw[h2.has,YK]⟩)
   |_=>cases e
 |str t =>
  cases v with
  |str s =>let⟨c,z,rfl⟩:=á.mp e;exact .inr<|.inl ⟨_,_,rx.str_inv,ry.str_inv,GG s t c z⟩
  |_=>cases e
 |_=>cases e
def D6{o:Option Bool}{b:Bool}(e:o.map (!·)=df b):o=df (!b):=by let⟨c,z,rfl⟩:=á.mp e;rw[z,Ϙ]
def LP:ZY i .isin<|HS i.K:=by
 k_get;rcases EJ g rx ry e with⟨ds,d,h1,h2,h3,h4,h5,h6⟩|⟨j,k,h1,h2,h3⟩|⟨a,o,h1,h2,h3⟩
 .exact .inr (.inl ⟨ds,d,h1,h2,h3,h4,h5,by show Q (.bl<|List.any _ _) H;rw[h6];exact q⟩)
 .exact .inr (.inr ⟨j,k,h1,h2,by rw[h3];exact q⟩)
 .exact .inl ⟨a,o,h1,h2,by rw[h3,Bool.false_xor];exact q⟩
def PL:ZY i .notin<|IL i.K:=by
 k_get;rcases EJ g rx ry (D6 e)with⟨ds,d,h1,h2,h3,h4,h5,h6⟩|⟨j,k,h1,h2,h3⟩|⟨a,o,h1,h2,h3⟩
 .exact .inr (.inl ⟨ds,d,h1,h2,h3,h4,h5,by show Q (.bl (!List.any _ _)) H;rw[h6,Ϙ];exact q⟩)
 .exact .inr (.inr ⟨j,k,h1,h2,by rw[h3,Ϙ];exact q⟩)
 .exact .inl ⟨a,o,h1,h2,by rw[h3,aS,Ϙ];exact q⟩
variable {a:Expr} {b:Expr} {d:Expr} {ma:O.E} {mb:O.E} {op:aM} {cq:aM} {cop:O.Cop} {cop':O.Cop} {r:R2} {r':R2} {ç:Pos}
def CJ{md:O.E}(ho:OpR X (ê op) r)(hr:ZY i cop r)(bD:OpR X (ê cq) r')(hr':ZY i cop' r')(ha:PE X a<|tE X i Z ma)(hb:PE X b<|tE X i Z mb)(hd:PE X d<|tE X i Z md)(hm:aC [op,cq] [b,d]=di) :
  PE X (.Compare a [op,cq] [b,d] ç) (tE X i Z<|.chain cop cop' ma mb md) :=
 (UZ ho bD ha hb hd hm).imp λσ H Q ⟨env,G,Qm,Em,p,w,k⟩=>by
  exact two p w λv u G2 H2 x y k2 p2 rx ry q=>by
   let⟨c,e,q⟩:=dr q;refine hr v u G2 H2 x y c _ p2.hp rx ry e ⟨c,rfl,?_⟩;cases c with
   |true =>
    rw[fm rfl]at q ⊢;exact one p2 q λt G3 H3 z k3 p3 rz q=>by let⟨d2,e2,q⟩:=dr q;exact hr' u t G3 H3 y z d2 Q p3.hp (ry.keep k3) rz e2<|k (.bl d2) G3 H3 (.bl d2) (k2.trans k3) p3.hp (.bl d2) q
   |false =>rw[fo é]at q ⊢;exact k _ G2 H2 _ k2 p2.hp (.bl _) q
def Be{md:O.E}(ho:OpR X (ê op) r)(hr:ZY i cop r)(bD:OpR X (ê cq) r')(hr':ZY i cop' r')(ha:PE X a<|tE X i Z ma)(hb:PE X b<|tE X i Z mb)(hd:PE X d<|tE X i Z md)(hm:aC [op,cq] [b,d]=di) :
  PT X (.Compare a [op,cq] [b,d] ç) (tTt X i Z<|.val<|.chain cop cop' ma mb md) :=
 (A5 ho bD ha hb hd hm).imp λσ H Q ⟨env,G,Qm,Em,p,w,k⟩=>by
  exact two p w λv u G2 H2 x y k2 p2 rx ry q=>by
   let⟨c,e,q⟩:=dr q;refine hr v u G2 H2 x y c _ p2.hp rx ry e ⟨c,rfl,?_⟩;cases c with
   |true =>
    rw[fm rfl]at q ⊢;exact one p2 q λt G3 H3 z k3 p3 rz q=>by let⟨d2,e2,q⟩:=dr q;let⟨d3,e3,q⟩:=dr q;cases e3;exact hr' u t G3 H3 y z d2 _ p3.hp (ry.keep k3) rz e2 ⟨d2,rfl,k d2 G3 H3 (k2.trans k3) p3.hp q⟩
   |false =>rw[fo é]at q ⊢;let⟨d3,e3,q⟩:=dr q;cases e3;exact⟨di,rfl,k _ G2 H2 k2 p2.hp q⟩
def BL{st:ġ}:PS X st<|tSt X i Z .never:=λÂ s σ H D I ⟨env,G,N,R,B,C,Xe,p,w,c⟩=>by exact w.elim
end Snd
namespace L2
open PySem PySem.Spec PyProof.Rows
def HY{x:V}{xs:List V}{ð:List Ã}(hl:(x::xs).length=ð.length):(ð.toArray.size != (#[]:Array Ã).size)=dh:=by
 cases ð with
 |nil=>cases hl
 |cons y ys=>simp
section
variable {X:Cx}
abbrev Lf(K:Frag)(n:Bool):R2:=λx y H Q=>∃a b xs,x=.ref a/\y=.ref b/\eY K H a xs/\eY K H b []/\Q (.bl<|n ^^ xs.isEmpty) H
def AS(hu:X.A.units+64<ğ):OpR X (ê .NotEq)<|Lf X.K dh:=by
 k_ne;let⟨a,b,xs,rfl,rfl,ha,hb,q⟩:=h;cases rx;cases ry;let⟨ð,rv,pl,_⟩:=I.list ha;let⟨Κ,rv2,pl2,_⟩:=I.list hb;cases rv2;have hl:=rv.length;cases xs with
 |nil =>have:ð=[]:=μ.mp hl.symm;subst this;exact SeqAt.RcNeAt.lists (A:=X.A) (e:=λ_=>dh) pl.isList pl2.isList rfl (by lia) (λj j1 _=>by simp at j1) X.prog X.w X.xe _ ⟨.bl di,H,I,rfl,q⟩
 |cons x xs =>exact SeqAt.RcNeAt.lists_lengths (A:=X.A) pl.isList pl2.isList (HY hl) (by lia) X.prog X.w X.xe _ ⟨.bl dh,H,I,rfl,q⟩
end
end L2
namespace Snd
open PySem L2
variable {i:Inf}{G:O.Hs}{H:Hp}
variable {x:V} {xs:List O.Val}
def JQ(g:RH i G H){v:O.Val}(r:RV i.K H v x)(e:O.asLst G v=df xs):∃a vs,x=.ref a/\eY i.K H a vs/\RVs i.K H xs vs:=by
 cases v with
 |ref a =>cases r;let⟨vs,h1,h2⟩:=Zy g e;exact⟨a,vs,rfl,h1,h2⟩
 |_=>cases e
def AH(g:RH i G H){v u:O.Val}{y:V}(rx:RV i.K H v x)(ry:RV i.K H u y){c:Bool}{f:List O.Val->List O.Val->Option Bool}(e:((O.asLst G v).bind λxs=>(O.asLst G u).bind λys=>f xs ys)=df c):∃xs ys a b vs us,f xs ys=df c/\x=.ref a/\y=.ref b/\eY i.K H a vs/\eY i.K H b us/\RVs i.K H xs vs/\RVs i.K H ys us:=by
 cases z:O.asLst G v with
 |none=>rw[z]at e;cases e
 |some xs =>
  cases z2:O.asLst G u with
  |none=>rw[z,z2]at e;cases e
  |some ys =>rw[z,z2]at e;let⟨a,vs,h1,h2,h3⟩:=JQ g rx z;let⟨b,us,k1,k2,k3⟩:=JQ g ry z2;exact⟨xs,ys,a,b,vs,us,e,h1,k1,h2,k2,h3,k3⟩
def D3{vs:List V}(h:RVs i.K H xs vs):vs.isEmpty=xs.isEmpty:=by cases h<;>rfl
def c_neE:ZY i .neE<|Lf i.K dh:=by
 k_get;let⟨xs,ys,a,b,vs,us,e,h1,h2,h3,h4,h5,h6⟩:=AH g rx ry e;split at e
 .rename_i z;cases e;cases h6 with
  |nil=>exact⟨a,b,vs,h1,h2,h3,h4,by rw[D3 h5,aS];exact q⟩
  |cons _ _=>cases z
 .cases e
variable {i:Inf}{X:Cx}{Z:O.Fs}
def _root_.L2.PJ.imp{vs:List Expr}{t t':TJ}(h:PJ X vs t)(f:∀σ H ļ Q,t' σ H ļ Q->t σ H ļ Q):PJ X vs t':=λÂ s σ H ļ Q I q=>h Â s σ H ļ Q I (f σ H ļ Q q)
def Jl:∀{xs ys:List O.Val}{n:Nat}{v:O.Val},(O.zipL xs ys)[n]?=df v->∃x y,xs[n]?=df x/\ys[n]?=df y/\v=.tup [x,y]
 |[],_,_,_,h=>by simp[O.zipL]at h
 |_::_,[],_,_,h=>by simp[O.zipL]at h
 |x::xs,y::ys,0,v,h=>by simp[O.zipL]at h;exact⟨x,y,rfl,rfl,h.symm⟩
 |x::xs,y::ys,n+1,v,h=>by let⟨a,b,h1,h2,h3⟩:=Jl (xs:=xs) (ys:=ys) (n:=n) (v:=v) (by simpa[O.zipL]using h);exact⟨a,b,⇑h1,⇑h2,h3⟩
def WM:∀{xs ys:List O.Val}{n:Nat},(O.zipL xs ys).length<=n->xs.length<=n\/ys.length<=n
 |[],_,_,_=>by simp
 |_::_,[],_,_=>by simp
 |x::xs,y::ys,0,h=>by simp[O.zipL]at h
 |x::xs,y::ys,n+1,h=>by have:=WM (xs:=xs) (ys:=ys) (n:=n) (by simpa[O.zipL]using h);simpa using this
def X9{G:O.Hs}{H:Hp}{p:Ç}{o:HO}(g:RH i G H)(hp:H p=dg):RH i G<|upd H p o:=g.hid (dN.new hp) λb u e=>dj (by rintro rfl;rw[g.free hp]at e;cases e)
variable {H0:Hp} {a:Ç} {b:Ç} {xs:List O.Val} {ys:List O.Val}
def Fg:ItOk i H0 (Itz i.K a b) (λg=>O.dF (g a)=df xs/\O.dF (g b)=df ys) (O.zipL xs ys) where
 go:=λn G H v _ g e hv=>by let⟨x,y,hx,hy,rfl⟩:=Jl hv;let⟨us,h1,h2⟩:=Zy g e.1;let⟨vs,h3,h4⟩:=Zy g e.2;let⟨x',h5,h6⟩:=h2.get hx;let⟨y',h7,h8⟩:=h4.get hy;refine⟨⟨us,vs,x',y',h1,h3,h5,h7⟩,λw H' ⟨p,e1,hp,e2⟩=>?_⟩;subst e1;have:=e2 us vs x' y' h1 h3 h5 h7;subst this;have k:=dN.new (o:=.tup [x',y']) hp;exact⟨k,X9 g hp,.tup (.inl dm)<|.cons (h6.keep k)<|.cons (h8.keep k) .nil⟩
 stop:=λn G H _ g e hn=>by let⟨us,h1,h2⟩:=Zy g e.1;let⟨vs,h3,h4⟩:=Zy g e.2;exact⟨us,vs,h1,h3,by rw[<-h2.length,<-h4.length];exact WM hn⟩
def DM{us vs:List V}(ha:H0 a=df (.tup us)\/KT i.K a us)(hb:H0 b=df (.tup vs)\/KT i.K b vs)(ra:RVs i.K H0 xs us)(rb:RVs i.K H0 ys vs):ItOk i H0 (Ity i.K a b) (λ_=>True) (O.zipL xs ys) where
 go:=λn G H v k g e hv=>by let⟨x,y,hx,hy,rfl⟩:=Jl hv;have h1:eZ i.K H a us:=Zl<|ha.imp (k.t _ _) id;have h3:eZ i.K H b vs:=Zl<|hb.imp (k.t _ _) id;let⟨x',h5,h6⟩:=(ra.keep k).get hx;let⟨y',h7,h8⟩:=(rb.keep k).get hy;refine⟨⟨us,vs,x',y',h1,h3,h5,h7⟩,λw H' ⟨p,e1,hp,e2⟩=>?_⟩;subst e1;have:=e2 us vs x' y' h1 h3 h5 h7;subst this;have k:=dN.new (o:=.tup [x',y']) hp;exact⟨k,X9 g hp,.tup (.inl dm)<|.cons (h6.keep k)<|.cons (h8.keep k) .nil⟩
 stop:=λn G H k g e hn=>by have h1:eZ i.K H a us:=Zl<|ha.imp (k.t _ _) id;have h3:eZ i.K H b vs:=Zl<|hb.imp (k.t _ _) id;exact⟨us,vs,h1,h3,by rw[<-ra.length,<-rb.length];exact WM hn⟩
def GW{es:List Expr}{kk:Nat}{tp p ç:Pos}{a b:Expr}{ma mb:O.E}(hK:X.K=i.K)(hg:Gl X "zip")(hm:X.mg "zip" = dg)(ha:PE X a<|tE X i Z ma)(hb:PE X b<|tE X i Z mb)(hs:Ñ [a,b] X.env=(di,eval a X.env)::Ñ [b] X.env)(hs1:Ñ [b] X.env=(di,eval b X.env)::Ñ [] X.env) :
  PI X (.Tuple es kk tp) (.Call (.Name "zip" p) [a,b] [] ç) (tIt X i Z<|.zip ma mb) :=
 (Eb hg hm (Yd ha (Yd hb eW hs1) hs) hs<|by rw[hs1];rfl).imp λσ H R ⟨env,G,QI,Em,p,w,c⟩=>by
  refine two p w λv u G1 H1 x y k1 p1 rx ry q=>?_;let⟨⟨st,zs⟩,e1,q2⟩:=dr q;clear q;rw[hK];cases v with
  |tup xs =>
   cases u with
   |tup ys =>
    cases e1;cases rx with
    |tup hp hr =>
    cases ry with
    |tup hq hs=>exact⟨_,_,rfl,.inr ⟨⟨_,Zl hp⟩,⟨_,Zl hq⟩,c _ _ G1 H1 _ k1 p1.hp (DM hp hq hr hs) q2⟩⟩
   |_=>cases e1
  |ref a1 =>
   cases u with
   |ref b1 =>
    cases rx.ref_inv;cases ry.ref_inv;have e1:(O.dF<|G1 a1).bind _=df (st,zs):=e1;cases z1:O.dF (G1 a1)with
    |none=>rw[z1]at e1;cases e1
    |some xs =>
     rw[z1]at e1;have e1:(O.dF<|G1 b1).map _=df (st,zs):=e1;cases z2:O.dF (G1 b1)with
     |none=>rw[z2]at e1;cases e1
     |some ys =>rw[z2]at e1;cases e1;let⟨us,h1,_⟩:=Zy p1.hp z1;let⟨vs,h3,_⟩:=Zy p1.hp z2;exact⟨a1,b1,rfl,.inl ⟨⟨us,h1⟩,⟨vs,h3⟩,c _ _ G1 H1 _ k1 p1.hp Fg q2⟩⟩
   |_=>cases e1
  |_=>cases e1
abbrev tE0(i:Inf)(Z:O.Fs)(m:O.E):TE:=λσ H Q=>∃env G Qm,REn i.K H env σ/\RH i G H/\O.wE Z m env G Qm (λ_ _=>False)/\Cn i H Q Qm
abbrev tT0(i:Inf)(Z:O.Fs)(m:O.Tt):TT:=λσ H Q=>∃env G Qm,REn i.K H env σ/\RH i G H/\O.wT Z m env G Qm (λ_ _=>False)/\∀b G' H',dN H H'->RH i G' H'->Qm b G'->Q b H'
variable {H:Hp}
def On:XOk X i H λ_ _=>False:=λÂ σ H0 s H' a cls s' I f ⟨_,_,_,_,_,_,_,z⟩=>z.elim
variable {e:Expr}
def pe0{m:O.E}(h:PE X e<|tE X i Z m):PE X e<|tE0 i Z m:=h.imp λσ H Q ⟨env,G,Qm,r,g,w,c⟩=>⟨env,G,Qm,_,⟨r,g,On⟩,w,c⟩
def pt0{m:O.Tt}(h:PT X e<|tTt X i Z m):PT X e<|tT0 i Z m:=h.imp λσ H Q ⟨env,G,Qm,r,g,w,c⟩=>⟨env,G,Qm,_,⟨r,g,On⟩,w,c⟩
def _root_.L2.PIfs.imp{es:List Expr}{t t':TT}(h:PIfs X es t)(f:∀σ H Q,t' σ H Q->t σ H Q):PIfs X es t':=λÂ s σ H Q I q=>h Â s σ H Q I (f σ H Q q)
def GI:PIfs X []<|tT0 i Z .yes:=pifs_nil.imp λσ H Q ⟨env,G,Qm,r,g,w,c⟩=>by exact c dh G H (dN.refl H) g w
variable {ô:List Nat}
def DD{K:Frag}{H':Hp}{env:O.Env}{σ:St}{k:Nat}(r:REn K H env σ)(kp:dN H H'):REn K H' (Ó k dg++ô.map λj=>(env[j]?).getD dg)<|Ó k dg++MU σ ô:=by
 refine⟨by simp[MU],λn u e=>?_⟩;by_cases hn:n<k
 .rw[ÿ (by rw[ñ];exact hn),ĸ,fm hn]at e;cases e
 .rw[ć (by rw[ñ];lia),ñ]at e ⊢;generalize n - k=n at e ⊢;simp![ã]at e;cases z:ô[n]? with
  |none=>rw[z]at e;cases e
  |some j =>
   rw[z]at e;simp![Ĭ,ĥ]at e;cases z2:env[j]? with
   |none=>rw[z2]at e;cases e
   |some o =>rw[z2]at e;have e:o=df u:=e;subst e;let⟨y,h1,h2⟩:=r.get j u z2;exact⟨y,by unfold MU;rw[ã,z];show df ((σ[j]?).getD dg)=_;rw[h1];rfl,h2.keep kp⟩
abbrev OK(k:Nat):O.Pt->Bool
 |.one j=>fB (j<k)
 |.many js=>js.all λj=>fB (j<k)
 |.nest _ _=>di
def JK{r:O.Env}:∀{js:List Nat}{vs:List O.Val}{l Ĳ:O.Env},(js.all λj=>fB (j<l.length))=dh->O.bindL js vs (l++r)=df Ĳ->∃l',Ĳ=l'++r/\l'.length=l.length
 |[],[],l,_,_,e=>by cases e;exact⟨l,rfl,rfl⟩
 |j::js,v::vs,l,_,h,e=>by rw[List.all_cons,bAq,fz]at h;have e:O.bindL js vs ((l++r).set j<|df v)=_:=e;rw[bP _ _ h.1]at e;let⟨l',h1,h2⟩:=JK (l:=l.set j<|df v) (by rw[ω];exact h.2) e;exact⟨l',h1,by rw[h2,ω]⟩
 |[],_::_,_,_,_,h=>by cases h
 |_::_,[],_,_,_,h=>by cases h
variable {l:O.Env} {r:O.Env}
def BA{p:O.Pt}{G:O.Hs}{v:O.Val}{Ĳ:O.Env}(h:OK l.length p=dh)(e:O.bind p G v (l++r)=df Ĳ):∃l',Ĳ=l'++r/\l'.length=l.length:=by
 cases p with
 |one j =>have e:df ((l++r).set j<|df v)=df Ĳ:=e;cases e;exact⟨l.set j<|df v,by rw[bP _ _<|of_decide_eq_true h],ω⟩
 |many js =>
  cases v with
  |tup vs=>exact JK h e
  |_=>cases e
 |nest j js=>cases h
def REn.pre{K:Frag}{τ:St}(q:REn K H (l++r) τ):REn K H (Ó l.length dg++r) τ:=by
 refine⟨by rw[<-q.len];simp,λn u e=>?_⟩;by_cases hn:n<l.length
 .rw[ÿ (by rw[ñ];exact hn),ĸ,fm hn]at e;cases e
 .rw[ć (by rw[ñ];lia),ñ]at e;exact q.get n u (by rw[ć<|by lia];exact e)
def NJ{k:Nat}{pt:O.Pt}(hk:OK k pt=dh){mi:O.It}{mt:O.Tt}{me:O.E}:∀σ H Q,tE X i Z (.comp ô k pt mi mt me) σ H Q->Ab (tIt X i Z mi) k ô (gPt i pt) (tT0 i Z mt) (tE0 i Z me) σ H Q:=λσ H Q ⟨env,G,Qm,Em,p,w,c⟩=>by
 refine⟨env,G,_,Em,p,w,λst xs G1 H1 J k1 g1 it w1=>?_⟩;let⟨hl,w1⟩:=w1;generalize hstep:(λ(v:O.Val) (h2:O.Hs) (K:Option O.Val->O.Hs->Prop) (X2:O.XQ)=>O.go (O.bind pt h2 v<|Ó k dg++ô.map λj=>(env[j]?).getD dg) λĲ =>
       O.wT Z mt Ĳ h2 (λk h3=>if k=dh then O.wE Z me Ĳ h3 (λu h4=>K (df u) h4) X2 else K dg h3) X2)=step at w1
 refine⟨λn m ys τ H'=>n+m=xs.length/\ys.length<=n/\REn i.K H' (Ó k dg++ô.map λj=>(env[j]?).getD dg) τ/\∃ļ G',dN H1 H'/\RH i G' H'/\RVs i.K H' ļ ys/\O.wComp st step (xs.drop n) ļ G' (λys h5=>O.new h5 (.lst ys) Qm) (λ_ _=>False),⟨xs.length,by lia,by simp,DD p.en k1,[],G1,dN.refl _,g1,.nil,⇑w1⟩,?_⟩;rintro n m ys τ H' ⟨hnm,hly,en2,ļ,G',k2,g2,r2,w2⟩;refine⟨ß (ó (Ü hly<|by lia) hl) Z5,?_⟩;by_cases hn:n<xs.length
 .right;have hd:xs.drop n=xs[n]::xs.drop (n+1):=ę hn;rw[hd]at w2;let⟨s2,w2⟩:=w2;have hv:xs[n]?=df xs[n]:=Ï hn;let⟨a1,a2⟩:=it.go n G' H' xs[n] k2 g2 s2 hv;refine⟨a1,λys3 τ3 H3=>ys3.length<=n+1/\REn i.K H3 (Ó k dg++ô.map λj=>(env[j]?).getD dg) τ3/\∃acc3 G3,dN H1 H3/\RH i G3 H3/\RVs i.K H3 acc3 ys3/\O.wComp st step (xs.drop<|n+1) acc3 G3 (λys h5=>O.new h5 (.lst ys) Qm) (λ_ _=>False),λys3 τ3 H3 h=>⟨m - 1,by lia,by lia,h.1,h.2⟩,λx H3 hy=>?_⟩;let⟨k3,g3,r3⟩:=a2 x H3 hy;rw[<-hstep]at w2;let⟨bM,e4,w4⟩:=dr w2;rw[hstep]at w4;let⟨l',e5,h5⟩:=BA (l:=Ó k dg) (by rw[ñ];exact hk) e4;rw[ñ]at h5;refine⟨xs[n],_,G',bM,r3,g3,en2.keep k3,e4,λτ4 en4=>?_⟩;have ϸ:REn i.K H3 (Ó k dg++ô.map λj=>(env[j]?).getD dg) τ4:=by
   rw[e5]at en4;have:=en4.pre;rw[h5]at this;exact this
  refine⟨_,G',_,en4,g3,w4,λd G5 H5 k5 g5 q5=>?_⟩;have kk:=(k2.trans k3).trans k5;cases d with
  |true =>refine⟨_,G5,_,en4.keep k5,g5,⇑q5,λu G6 H6 y k6 g6 r6 q6=>?_⟩;exact⟨⇑hly,(ϸ.keep k5).keep k6,_,G6,kk.trans k6,g6,((((r2.keep k3).keep k5).keep k6).append<|.cons r6 .nil),q6⟩
  |false =>rw[fo é]at q5;change if di=dh then _ else _;rw[fo é];have q5:O.wComp st step (xs.drop<|n+1) (ļ++[]) G5 (λys h5=>O.new h5 (.lst ys) Qm) λ_ _=>False:=q5;rw[Ĉ]at q5;exact⟨by lia,ϸ.keep k5,ļ,G5,kk,g5,(r2.keep k3).keep k5,q5⟩
 .left;have hd:xs.drop n=[]:=υ (by lia);rw[hd]at w2;refine⟨it.stop n G' H' k2 g2 w2.1 (by lia),?_⟩;exact Z6 g2 w2.2 ((c.go k1).go k2) λq hq=>⟨_,dm,r2.keep<|dN.new hq⟩
abbrev Np(i:Inf)(m:O.Bm)(r:V->List V->Hp->VK->Prop):Prop:=∀(v:O.Val) (vs:List O.Val) (G:O.Hs) (H:Hp) (x:V) (xs:List V) (t:O.Val×O.Hs) (Q:VK) (Qm:O.Q1),
 RH i G H->RV i.K H v x->RVs i.K H vs xs->O.bmV G m v vs=df t->Qm t.1 t.2->Cn i H Q Qm->r x xs H Q
abbrev Gx(i:Inf)(m:O.Bm)(T:String):Prop:=∀(v:O.Val) (G:O.Hs) (H:Hp) (x:V),RH i G H->RV i.K H v x->O.bmTy G m v=dh->tyV i.K T x H
variable {m:O.Bm}
def OP{o e:Expr}{es:List Expr}{name:Str}{Ľ ŏ:Pos}{T id:String}{r:V->List V->Hp->VK->Prop}{mo:O.E}{ms:O.Es}{n:Nat}(hK:X.K=i.K)(pa:PlainAttrs T)(slot:Slot T name id)(hty:typeOf (.builtin id)=pure (.type "method_descriptor"))(mt:MtR X id r)(hT:Gx i m T)(hr:Np i m r)
  (ho:PE X o<|tE X i Z mo) (ha:PA X (e::es)<|tAr X i Z ms n) (ϳ:ė o name X.env (eval o X.env)=eval o X.env)
  (Ϡ:((Ĕ ŏ<|Ñ (e::es) X.env).all (λx=>!x.1)&&(š ŏ<|Ķ [] X.env).all (λx=>x.1.isSome)&&fB ((e::es).length+([]:List ah).length+(if([]:List ah).isEmpty then 0 else 1)<30))=dh)
  (ϴ:(Ľ.endLine==ŏ.line)=dh) (hs:Ñ (e::es) X.env=(di,eval e X.env)::Ñ es X.env) (bF:(Ĕ ŏ<|Ñ es X.env).any (·.1)=di) :
  PE X (.Call (.Attribute o name Ľ) (e::es) [] ŏ) (tE X i Z<|.bm m mo ms) :=
 (Lg pa slot hty mt ho ha ϳ Ϡ ϴ hs bF).imp λσ H Q ⟨env,G,Qm,Em,p,w,c⟩=>by
  refine one p w λv G1 H1 x k1 p1 rv q=>⟨by rw[hK];exact hT v G1 H1 x p1.hp rv q.1,env,G1,_,Em,p1,q.2,λvs G2 H2 xs k2 g2 r2 _ w2=>?_⟩
  let⟨t,e,w3⟩:=dr w2;exact hr v vs G2 H2 x xs t Q Qm g2 (rv.keep k2) r2 e w3<|(c.go k1).go k2
def NA{o:Option O.Ob}(h:O.isDct o=dh):(∃xs,o=df (.dct xs))\/∃xs,o=df (.dtp xs):=by
 cases o with
 |none=>cases h
 |some o=>cases o with
  |dct xs=>exact .inl ⟨xs,rfl⟩
  |dtp xs=>exact .inr ⟨xs,rfl⟩
  |_=>cases h
def CS(hm:m.ty=.l):Gx i m "list":=λv G H x g r h=>by
 unfold O.bmTy at h;rw[hm]at h;cases v with
 |ref a =>cases r.ref_inv;let⟨xs,e⟩:=Ni (show O.isLst (G a)=dh from h);let⟨vs,h1,_⟩:=g a _ e;exact .inl ⟨rfl,vs,eY.of h1⟩
 |_=>cases h
def HN(hm:m.ty=.d):Gx i m "dict":=λv G H x g r h=>by
 unfold O.bmTy at h;rw[hm]at h;cases v with
 |ref a =>
  cases r.ref_inv;rcases NA (show O.isDct (G a)=dh from h)with⟨xs,e⟩|⟨xs,e⟩
  .obtain⟨vs,h1,_⟩:=g a _ e;exact .inr<|.inr<|.inl ⟨rfl,.inl ⟨vs,h1⟩⟩
  .obtain⟨vs,h1,_⟩:=g a _ e;exact .inr<|.inr<|.inl ⟨rfl,.inr ⟨vs,h1⟩⟩
 |_=>cases h
variable {G:O.Hs}
def X8{v:O.Val}{f:O.Ad->List O.Val->Option (O.Val×O.Hs)}{t:O.Val×O.Hs}(e:O.bmL G v f=df t):∃a xs,v=.ref a/\G a=df (.lst xs)/\f a xs=df t:=by
 cases v with
 |ref a=>let⟨xs,h1,h2⟩:=U5 e;exact⟨a,xs,rfl,h1,h2⟩
 |_=>cases e
variable {vs:List O.Val} {α:Type} {a:α}
def HE{f:O.Val->Option α}(e:(match vs with|[v]=>f v|_=>dg)=df a):∃v,vs=[v]/\f v=df a:=by
 cases vs with
 |nil=>cases e
 |cons v vs=>cases vs with
  |nil=>exact⟨v,rfl,e⟩
  |cons _ _=>cases e
def Fw:Np i .append NI:=λv vs G H x xs t Q Qm g rx rs e q c=>by let⟨a,ys,rfl,e4,e3⟩:=X8 e;let⟨u,rfl,e3⟩:=HE e3;let⟨hl,e3⟩:=ZD e3;cases e3;cases rx.ref_inv;let⟨y,rfl,ry⟩:=rs.inv1;let⟨us,h2,r2⟩:=g a _ e4;let⟨k3,g3⟩:=Wb (xs:=ys) g h2 (ys++[u]) (us++[y])<|r2.app1 ry;exact⟨a,us,y,rfl,rfl,h2,by rw[<-r2.length];exact ß hl Z5,c _ _ _ _ k3 g3 .non q⟩
def CH:Np i .popAt Co:=λv vs G H x xs t Q Qm g rx rs e q c=>by
 let⟨a,ys,rfl,e4,e3⟩:=X8 e;unfold O.bmPopAt at e3;split at e3
 .rename_i n;let⟨hn,e3⟩:=ZD e3;let⟨k,z,e3⟩:=î.mp e3;let⟨yv,z2,rfl⟩:=á.mp e3;cases rx.ref_inv;let⟨y,rfl,ry⟩:=rs.inv1;cases ry.int_inv;let⟨us,h2,r2⟩:=g a _ e4;let⟨xv,hx,rv⟩:=r2.get z2;rw[Kv,r2.length]at z;let⟨s1,s2,s3,s4⟩:=Ku z;let⟨k3,g3⟩:=Wb (xs:=ys) g h2 (ys.eraseIdx k) (us.eraseIdx k)<|r2.eraseIdx k;exact⟨a,us,n,k,xv,rfl,rfl,h2,by lia,by lia,s1,hx,c _ _ _ _ k3 g3 (rv.keep k3) q⟩
 .cases e3
def N3{v:O.Val}{f:O.Ad->List (O.Val×O.Val)->Option (O.Val×O.Hs)}{t:O.Val×O.Hs}(e:O.bmD G v f=df t):∃a kvs,v=.ref a/\G a=df (.dct kvs)/\f a kvs=df t:=by
 cases v with
 |ref a =>
  let⟨kvs,h1,h2⟩:=î.mp (show(O.fe<|G a).bind (f a)=df t from e);refine⟨a,kvs,rfl,?_,h2⟩;cases z:G a with
  |none=>rw[z]at h1;cases h1
  |some o =>
   rw[z]at h1;cases o with
   |dct ys=>cases h1;rfl
   |_=>cases h1
 |_=>cases e
def PM{f:O.Val->O.Val->Option α}(e:(match vs with|[v,u]=>f v u|_=>dg)=df a):∃v u,vs=[v,u]/\f v u=df a:=by
 cases vs with
 |nil=>cases e
 |cons v vs=>cases vs with
  |nil=>cases e
  |cons u us=>cases us with
   |nil=>exact⟨v,u,rfl,e⟩
   |cons _ _=>cases e
abbrev BV:V->List V->Hp->VK->Prop:=λx vs H Q=>∃a y o,x=.ref a/\vs=[y]/\DGet H a y o/\Q (o.getD .non) H
def Bv(hu:X.A.units+1<ğ):MtR X "dict.get" BV:=by intro Â s σ H x vs v us Q I rx rv h;let⟨a,y,o,rfl,rfl,d,q⟩:=h;cases rx;let⟨u,rfl,ru⟩:=rv.one;exact FH hu I d ru λw' s' I' aJ=>⟨_,_,I',aJ,q⟩
abbrev EZ:V->List V->Hp->VK->Prop:=λx vs H Q=>∃a kvs k v more,x=.ref a/\vs=kV k::more/\(more=[]\/∃z,more=[z])/\H a=df (.dK kvs)/\Yk kvs k=df v/\Q v (upd H a<|.dK<|dR kvs k)
def mt_dpop:MtR X "dict.pop" EZ:=by
 intro Â s σ H x vs v us Q I rx rv h;let⟨a,kvs,k,y,more,rfl,rfl,hm,hH,l,q⟩:=h;cases rx;rcases hm with rfl|⟨z,rfl⟩
 .obtain⟨u,rfl,ru⟩:=rv.one;exact E3 I hH ru l (.inl rfl) λw' s' I' aJ=>⟨_,_,I',aJ,q⟩
 .obtain⟨u,t,rfl,ru,rt⟩:=rv.two;exact E3 I hH ru l (.inr ⟨_,rfl⟩) λw' s' I' aJ=>⟨_,_,I',aJ,q⟩
abbrev Au:V->List V->Hp->VK->Prop:=λx vs H Q=>∃a kvs k z,x=.ref a/\vs=[kV k,z]/\H a=df (.dK kvs)/\Yk kvs k=dg/\Q z H
def Ck:MtR X "dict.pop" Au:=by intro Â s σ H x vs v us Q I rx rv h;let⟨a,kvs,k,z,rfl,rfl,hH,l,q⟩:=h;cases rx;let⟨u,t,rfl,ru,rt⟩:=rv.two;exact Ge I hH ru l λs' I'=>⟨_,_,I',rt,q⟩
def GJ:Np i .dget BV:=λv vs G H x xs t Q Qm g rx rs e q c=>by
 let⟨a,kvs,rfl,e4,e3⟩:=N3 e;let⟨k,rfl,e3⟩:=HE e3;let⟨hk,e3⟩:=ZD e3;cases e3;cases rx.ref_inv;let⟨y,rfl,ry⟩:=rs.inv1;let⟨ps,h2,r2⟩:=g a _ e4;let⟨d,kr,rfl⟩:=dI hk ry;refine⟨a,_,_,rfl,rfl,DGet.k (k:=d) h2,?_⟩;let⟨l1,l2⟩:=r2.look kr;cases z:O.dO kvs k with
 |none=>rw[l2 z];rw[z]at q;exact c _ _ _ _ (dN.refl H) g .non q
 |some u=>let⟨x,hx,rv⟩:=l1 u z;rw[hx];rw[z]at q;exact c _ _ _ _ (dN.refl H) g rv q
def MX{kvs:List (O.Val×O.Val)}{k:O.Val}(h:O.dO kvs k=dg):O.dR kvs k=kvs:=by
 unfold O.dR;rw[cc];intro p hp;have h2:kvs.find? (λp=>p.1==k)=dg:=by unfold O.dO at h;exact Option.map_eq_none_iff.mp h
 simpa using List.find?_eq_none.mp h2 p hp
def DG:Np i .dpopD λx vs H Q=>EZ x vs H Q\/Au x vs H Q:=λv vs G H x xs t Q Qm g rx rs e q c=>by
 let⟨a,kvs,rfl,e4,e3⟩:=N3 e;let⟨k,dv,rfl,e3⟩:=PM e3;let⟨hk,e3⟩:=ZD e3;cases e3;cases rx.ref_inv;let⟨y,z,rfl,ry,rz⟩:=rs.inv2;let⟨ps,h2,r2⟩:=g a _ e4;let⟨d,kr,rfl⟩:=dI hk ry;let⟨l1,l2⟩:=r2.look kr;cases z:O.dO kvs k with
 |none =>
  refine .inr ⟨a,ps,d,_,rfl,rfl,h2,l2 z,?_⟩;rw[z,MX z]at q;have e:O.upd G a (.dct kvs)=G:=by
   funext b;by_cases hb:b=a
   .subst hb;rw[O.dm,e4]
   .rw[O.dj hb]
  rw[e]at q;exact c _ _ _ _ (dN.refl H) g rz q
 |some u =>let⟨x,hx,rv⟩:=l1 u z;let⟨k3,g3⟩:=N9 (kvs:=kvs) g h2<|r2.drop kr;rw[z]at q;exact .inl ⟨a,ps,d,x,_,rfl,rfl,.inr ⟨_,rfl⟩,h2,hx,c _ _ _ _ k3 g3 (rv.keep k3) q⟩
end Snd
namespace L2
open PySem PySem.Spec PyProof.Rows
section
variable {X:Cx}
def OA:∀{ns:List Int}{us:List Ã},fc (ns.map V.int) us->PySem.W.kf_ints us=dh
 |[],_,.nil=>rfl
 |_::ns,_,.cons ⟨_,e⟩ r=>by subst e;unfold PySem.W.kf_ints;exact OA (ns:=ns) r
def AN{i:Int}:∀{ns:List Int}{us:List Ã},fc (ns.map V.int) us->i∈ns->∃j,PySem.W.kf_at i us=df j/\ns.erase i=ns.eraseIdx j
 |[],_,_,h=>nomatch h
 |n::ns,_,.cons ⟨t,e⟩ r,h=>by
  subst e;by_cases e:n=i
  .subst e;exact⟨0,by simp[PySem.W.kf_at,isInt],by simp⟩
  .obtain⟨j,h1,h2⟩:=AN r<|(Æ.mp h).resolve_left<|Ne.symm e;have e2:(n==i)=di:=⇑e
   refine⟨j+1,?_,by simp[List.erase_cons,e,h2]⟩;simp[PySem.W.kf_at,isInt,e2,h1]
def U0:∀(ns:List Int) (j:Nat),(ns.eraseIdx j).map V.int=(ns.map V.int).eraseIdx j
 |[],_=>rfl
 |_::_,0=>rfl
 |_::ns,j+1=>congrArg (_ :: ·)<|U0 ns j
abbrev NN:V->List V->Hp->VK->Prop:=λx vs H Q=>∃(l:Ç) (ns:List Int) (i:Int),x=.ref l/\vs=[.int i]/\H l=df (.lst<|ns.map V.int)/\i∈ns/\Q .non (upd H l<|.lst<|(ns.erase i).map V.int)
def Uu:MtM X "list.remove" NN:=by
 intro Â s σ H x vs v us Q I rx rv h;let⟨l,ns,i,rfl,rfl,hH,hm,q⟩:=h;cases rx;let⟨u,rfl,ru⟩:=rv.one;let⟨t,rfl⟩:=ru;let⟨z,ð,n,r,hl,e⟩:=I.lstM hH;let⟨j,hj,he⟩:=AN r hm;let⟨a,b,c⟩:=PySem.W.kf_at_spec hj;refine ž F.slot_list_remove ⟨_,e,rfl⟩ F.entry_list_remove (F.args_list_remove_2 _ _)
  (MeetsSeq.list_remove l ð.toArray n (.int i t) (isInt i) (λy hy=>PySem.W.kf_eq (OA r) y<|by simpa using hy) j ⇑a ⇑b (λm hm h2=>by simpa using c m ⇑hm h2)<|by rw[É];lia) ⟨e,?_⟩
 rw[he]at q;refine⟨.non,_,I.lset (its':=ð.eraseIdx j) hH e ?_ (by rw[U0];exact r.eraseIdx j) ?_,rfl,q⟩
 .show ð.toArray.eraseIdxIfInBounds j=(ð.eraseIdx j).toArray;rw[ϛ]
 .have:=XU ns j;rw[Á]at z ⊢;lia
end
end L2
namespace Snd
open PySem L2 PyProof.Rows
variable {i:Inf}
def FI:Np i .remove NN:=λv vs G H x xs t Q Qm g rx rs e q c=>by
 let⟨a,ys,rfl,e4,e3⟩:=X8 e;unfold O.bmRemove at e3;split at e3
 .rename_i n;let⟨ns,z,e3⟩:=î.mp e3;let⟨hn,e3⟩:=ZD e3;cases e3;cases rx.ref_inv;let⟨y,rfl,ry⟩:=rs.inv1;cases ry.int_inv;let⟨us,h2,r2⟩:=g a _ e4;cases ZN z r2;let⟨k3,g3⟩:=Wb (xs:=ys) g h2 ((ns.erase n).map .int) ((ns.erase n).map V.int)<|RVs.ints _;exact⟨a,ns,n,rfl,rfl,h2,hn,c _ _ _ _ k3 g3 .non q⟩
 .cases e3
end Snd
namespace L2
open PySem PySem.Spec PyProof.Rows
section
variable {X:Cx}
abbrev EN:V->List V->Hp->VK->Prop:=λx vs H Q=>∃l p q s,x=.ref l/\vs=[.str s]/\H l=df (.lst [.str p,.str q])/\((p=s/\Q (.int 0) H)\/((p==s)=di/\q=s/\Q (.int 1) H))
def DU:MtR X "list.index" EN:=by
 intro Â s σ H x vs v us Q I rx rv h;let⟨l,p,q,z,rfl,rfl,hH,h⟩:=h;cases rx;let⟨u,rfl,ru⟩:=rv.one;let⟨_,ð,n,r,hl,e⟩:=I.lstM hH;obtain⟨u1,u2,rfl⟩:∃u1 u2,ð=[u1,u2]:=by
  cases r with
  |cons _ r=>cases r with
   |cons _ r=>cases r;exact⟨_,_,rfl⟩
 have r1:RelV (.str p) u1:=by cases r with|cons a _=>exact a
 have r2:RelV (.str q) u2:=by cases r with|cons _ r=>cases r with|cons a _=>exact a
 have e1:eqU (.str z) u1=(p==z):=No r1 rfl;have e2:eqU (.str z) u2=(q==z):=No r2 rfl;have he:∀y,y∈[u1,u2].toArray->SeqAt.EqAt X.A.in1 s y u (eqU (.str z) y):=λy hy=>MK ru rfl r rfl y ⇑hy;have ht:s.heap.get? l=df (Ď "list" [u1,u2].toArray n):=e;have fin:∀j:Int,Q (.int j) H->EP X Â σ Q (.int j s.toks) {s with toks:=s.toks+1}:=λj q=>⟨.int j,H,I.tok _,⟨_,rfl⟩,q⟩
 rcases h with⟨rfl,w⟩|⟨h1,rfl,w⟩
 .refine ž F.slot_list_index ⟨_,e,rfl⟩ F.entry_list_index (F.args_list_index_2 _ _) (SeqAt.list_indexAt l [u1,u2].toArray n dg #[] u (eqU<|.str p) 0 (by simp) (by decide) ?_ λm _ h2=>fA h2<|am _) ⟨ht,λy hy=>he y hy,fin _ w⟩;show eqU (.str p) u1=dh;rw[e1];exact beq_self_eq_true _
 .refine ž F.slot_list_index ⟨_,e,rfl⟩ F.entry_list_index (F.args_list_index_2 _ _) (SeqAt.list_indexAt l [u1,u2].toArray n dg #[] u (eqU<|.str q) 1 (by simp) (by decide) ?_ λm _ h2=>?_) ⟨ht,λy hy=>he y hy,fin _ w⟩
  .show eqU (.str q) u2=dh;rw[e2];exact beq_self_eq_true _
  .obtain rfl:m=0:=by lia
   show eqU (.str q) u1=di;rw[e1];exact h1
end
end L2
namespace Snd
open PySem L2 PyProof.Rows
variable {i:Inf}{X:Cx}{Z:O.Fs}
def FF:Np i .lidx EN:=λv vs G H x xs t Q Qm g rx rs e q c=>by
 let⟨a,ys,rfl,e4,e3⟩:=X8 e;unfold O.bmLidx at e3;split at e3
 .rename_i s p y;cases rx.ref_inv;let⟨u,rfl,ru⟩:=rs.inv1;cases ru.str_inv;let⟨us,h2,r2⟩:=g a _ e4;cases M0 (bs:=[p,y]) rfl r2;refine⟨a,_,_,_,rfl,rfl,h2,?_⟩;by_cases h1:p=s
  .subst h1;rw[fm rfl]at e3;cases e3;exact .inl ⟨rfl,c _ _ _ _ (dN.refl H) g (.int _) q⟩
  .rw[fo h1]at e3;by_cases h2:y=s
   .rw[fm h2]at e3;cases e3;exact .inr ⟨beq_eq_false_iff_ne.mpr λz=>h1<|ofS_inj.mp z,by rw[h2],c _ _ _ _ (dN.refl H) g (.int _) q⟩
   .rw[fo h2]at e3;cases e3
 .cases e3
end Snd
namespace Snd
open PySem L2
variable {i:Inf}{X:Cx}{Z:O.Fs}
def RFs.look{K:Frag}{H:Hp}{f:String}:∀{fs:List (String×O.Val)}{ps:List (Str×V)},RFs K H fs ps->
  (∀v,fs.lookup f=df v->∃x,ps.lookup (fE f)=df x/\RV K H v x)/\(fs.lookup f=dg->ps.lookup (fE f)=dg)
 |_,_,.nil=>⟨λv e=>(by cases e),λ_=>rfl⟩
 |_,_,.cons (f:=g) (v:=u) (x:=y) r t=>by
  have ih:=RFs.look (f:=f) t;rw[à,à];by_cases e:f=g
  .subst e;rw[beq_self_eq_true,beq_self_eq_true];exact⟨λv z=>(by cases z;exact⟨y,rfl,r⟩),λz=>(by cases z)⟩
  .rw[show(f==g)=di by simpa using e,show(fE f==fE g)=di by rw[beq_eq_false_iff_ne];exact λz=>e<|ofS_inj.mp z];exact ih
def RFs.put{K:Frag}{H:Hp}{f:String}{v:O.Val}{x:V}(q:RV K H v x):∀{fs:List (String×O.Val)}{ps:List (Str×V)},RFs K H fs ps->RFs K H (O.dJ fs f v) (L2.dJ (fE f) x ps)
 |_,_,.nil=>.cons q .nil
 |_,_,.cons (f:=g) (v:=u) (x:=y) r t=>by
  unfold O.dJ L2.dJ;by_cases e:g=f
  .subst e;rw[fm rfl,fm rfl];exact .cons q t
  .rw[fo e,fo λz=>e<|ofS_inj.mp z];exact .cons r<|RFs.put q t
def RFs.length{K:Frag}{H:Hp}:∀{fs:List (String×O.Val)}{ps:List (Str×V)},RFs K H fs ps->fs.length=ps.length
 |_,_,.nil=>rfl
 |_,_,.cons _ t=>by rw[Î,Î,RFs.length t]
structure FldOk(i:Inf)(f:String):Prop where
 no:∀C c,i.cl C c->NoAttr i.K c (fE f)
structure IC(K:Frag)(C:Ç):Prop where
 ha:PySem.W.findIn K (.ref C) "__class__" = df (df<|.builtin "object.__class__")
 hn:PySem.W.specialIn K (.builtin "object.__class__") "__get__" = df (df<|.builtin "getset_descriptor.__get__")
 htk:PySem.W.takesIn K (.builtin "object.__class__")=df dh
 hm:PySem.W.mroIn K C (.type "object")=df dh
structure ClsA(i:Inf):Prop where
 cls:∀C c,i.ins C=dh->i.cl C c->Cls i.K c
 ic:∀C c,i.cl C c->IC i.K c
 un:∀C a b,i.cl C a->i.cl C b->a=b
def W4{o:Option O.Ob}{p:String×List (String×O.Val)}(h:O.insOf o=df p):o=df (.ins p.1 p.2):=by
 cases o with
 |none=>cases h
 |some o=>cases o with
  |ins C fs=>cases h;rfl
  |_=>cases h
variable {G:O.Hs} {f:String}
def Jz{v u:O.Val}(h:O.eF G v f=df u):∃a C fs,v=.ref a/\G a=df (.ins C fs)/\fs.lookup f=df u:=by let⟨a,h1,h⟩:=î.mp h;let⟨p,h2,h3⟩:=î.mp h;exact⟨a,p.1,p.2,WF h1,W4 h2,h3⟩
variable {o:Expr} {mo:O.E} {ç:Pos}
def IV(hK:X.K=i.K)(A:ClsA i)(F:FldOk i f)(ho:PE X o<|tE X i Z mo)(hb:ė o (fE f) X.env (eval o X.env)=eval o X.env) :
  PE X (.Attribute o (fE f) ç) (tE X i Z<|.fld mo f) :=
 (FP ho hb).imp λσ H Q ⟨env,G,Qm,Em,p,w,c⟩=>by
  exact one p w λv G1 H1 x k1 p1 r q=>by let⟨u,e,q2⟩:=dr q;clear q;let⟨a,C,fs,rfl,e2,e3⟩:=Jz e;cases r.ref_inv;let⟨c',dx,ps,hi,hc,h1,rf⟩:=p1.hp a _ e2;let⟨y,l,ry⟩:=rf.look.1 u e3;exact⟨a,c',dx,ps,y,rfl,h1,by rw[hK];exact A.cls _ _ hi hc,by rw[hK];exact F.no _ _ hc,l,c _ _ _ _ k1 p1.hp ry q2⟩
variable {C:String}
def OG{H:Hp}{a:Ç}{c' dx:Ç}{fs:List (String×O.Val)}{ps ps2:List (Str×V)}(g:RH i G H)(hi:i.ins C=dh)(hc:i.cl C c')(h:H a=df (.ins c' dx ps2))(r:RFs i.K H fs ps) :
  dN H (upd H a<|.ins c' dx ps)/\RH i (O.upd G a<|.ins C fs) (upd H a<|.ins c' dx ps):=by
 have k:dN H<|upd H a<|.ins c' dx ps:=dN.put (λxs e=>by rw[h]at e;cases e) λp u e=>by rw[h]at e;cases e
 exact⟨k,g.put k ⟨c',dx,ps,hi,hc,dm,r.keep k⟩⟩
def Ww{G':O.Hs}{o v:O.Val}(h:O.eJ G o f v=df G'):∃a C fs,o=.ref a/\G a=df (.ins C fs)/\fs.length<900/\G'=O.upd G a (.ins C<|O.dJ fs f v):=by
 cases o with
 |ref a =>
  unfold O.eJ at h;dsimp only at h;split at h
  .rename_i C fs e;let⟨hl,h⟩:=ZD h;cases h;exact⟨a,C,fs,rfl,e,hl,rfl⟩
  .cases h
 |_=>cases h
variable {e:Expr}
def O4{m:O.E}{aH:Pos}(hK:X.K=i.K)(A:ClsA i)(F:FldOk i f)(ho:PE X o<|tE X i Z mo)(he:PE X e<|tE X i Z m)(hs:ś e (df<|.Attribute o (fE f) aH) ç.line X.env=pure di) :
  PS X (.Assign [.Attribute o (fE f) aH] e ç) (tSt X i Z<|.setFld mo f m) :=
 (Gq ho he hs).imp λD σ H ⟨env,G,N,R,B,C,Xe,p,w,c⟩=>by refine one p.pre w λv G1 H1 x k1 p1 r q=>?_;refine one p1 q λu G2 H2 y k2 p2 ry q=>?_;let⟨G3,e3,q2⟩:=dr q;clear q;let⟨a,D',fs,rfl,e2,hl,rfl⟩:=Ww e3;cases ry.ref_inv;let⟨c',dx,ps,hi,hc,h1,rf⟩:=p2.hp a _ e2;let⟨k3,g3⟩:=OG p2.hp hi hc h1<|rf.put (f:=f)<|r.keep k2;refine⟨a,c',dx,ps,rfl,h1,by rw[hK];exact A.cls _ _ hi hc,by rw[hK];exact F.no _ _ hc,by rw[<-rf.length];lia,?_⟩;have k:=(k1.trans k2).trans k3;exact c.nx _ _ _ _ k g3 (p.en.keep k) q2
def Ch{op:O.Bop}{x y z:O.Val}(h:O.augV op x y=df z):∃a b,x=.int a/\y=.int b/\((op=.add/\z=.int (a+b))\/(op=.sub/\z=.int (a - b))):=by
 unfold O.augV at h;split at h
 .cases h;exact⟨_,_,rfl,rfl,.inl ⟨rfl,rfl⟩⟩
 .cases h;exact⟨_,_,rfl,rfl,.inr ⟨rfl,rfl⟩⟩
 .cases h
abbrev rAS(op:O.Bop):V->V->Hp->VK->Prop:=λx y H Q=>∃a b,x=.int a/\y=.int b/\((op=.add/\Q (.int<|a+b) H)\/(op=.sub/\Q (.int<|a - b) H))
def O3{op:ae}{bop:O.Bop}{n:Int}{k:Nat}{tpos ŏ:Pos}(hK:X.K=i.K)(A:ClsA i)(F:FldOk i f)(hop:Aj X op<|rAS bop)(ho:PE X o<|tE X i Z mo) :
  PS X (.AugAssign (.Attribute o (fE f) tpos) op (.Constant (.int n) k ŏ) ç) (tSt X i Z<|.augFld mo f bop n) :=
 (O2 ho B6 hop).imp λD σ H ⟨env,G,N,R,B,C,Xe,p,w,c⟩=>by
  refine one p.pre w λv G1 H1 x k1 p1 r q=>?_;let⟨u,e1,q2⟩:=dr q;clear q;let⟨a,C',fs,rfl,e2,e3⟩:=Jz e1;cases r.ref_inv;let⟨c',dx,ps,hi,hc,h1,rf⟩:=p1.hp a _ e2;let⟨y,l,ry⟩:=rf.look.1 u e3;refine⟨a,c',dx,ps,y,rfl,h1,by rw[hK];exact A.cls _ _ hi hc,by rw[hK];exact F.no _ _ hc,l,?_⟩;let⟨z,e4,q3⟩:=dr q2;clear q2;let⟨G3,e5,q4⟩:=dr q3;clear q3;let⟨n1,n2,rfl,e0,hz⟩:=Ch e4;cases e0;cases ry.int_inv;let⟨a2,C2,fs2,e6,e7,hl,rfl⟩:=Ww e5;cases e6;rw[e2]at e7;cases e7;have fin:∀n:Int,z=.int n->∃dx' fs',H1 a=df (.ins c' dx' fs')/\fs'.length<1000/\D.nx σ (upd H1 a<|.ins c' dx'<|L2.dJ (fE f) (.int n) fs'):=λn hn=>by subst hn;let⟨k3,g3⟩:=OG p1.hp hi hc h1<|rf.put (f:=f) (x:=.int n)<|.int n;refine⟨dx,ps,h1,by rw[<-rf.length];lia,?_⟩;exact c.nx _ _ _ _ (k1.trans k3) g3 (p.en.keep<|k1.trans k3) q4
  rcases hz with⟨e,hz⟩|⟨e,hz⟩
  .exact⟨n1,n,rfl,rfl,.inl ⟨e,fin _ hz⟩⟩
  .exact⟨n1,n,rfl,rfl,.inr ⟨e,fin _ hz⟩⟩
abbrev Dfm(pr:ä)(w:ü)(mg:Str->Option Ã)(base:ù)(i:Inf)(P:O.Pg)(n:Nat)(f:String)(fa:Ç):Prop :=
 ∃fd ps,dX pr w i.K mg base (CX1 pr w) (2*n) fa fd ps (spF i P n f)/\Binds i.K fd ps []
variable {P:O.Pg} {n:Nat} {es:List Expr} {ms:O.Es} {p:Pos}
def GB{k:Nat}{Cn:String}{C f:Ç}(hK:X.K=i.K)(hi:i.ins Cn=dh)(hc:i.cl Cn C)(M:Mk i.K C f)(D:Dfm X.prog X.w X.mg X.base i P n (Cn ++ ".__init__") f)(hr:dW (2*n+1) X.A)
  (hg:Gl X<|fE Cn) (hm:X.mg (fE Cn)=df (.ref C)) (bE:(fE Cn==("__debug__" : Str))=di)
  (ha:PA X (e::es)<|tAr X i (O.wF P n) ms k) (he:Ñ (e::es) X.env=(di,eval e X.env)::Ñ es X.env) (hpl:(Ĕ ç<|Ñ es X.env).any (·.1)=di) :
  PE X (.Call (.Name (fE Cn) p) (e::es) [] ç) (tE X i (O.wF P n)<|.make Cn ms):=by
 let⟨fd,ps,F,hb⟩:=D;rw[<-hK]at F hb M;k_upd;let⟨env,G,Qm,Em,pr,w,c⟩:=h;refine D0 (E:=XK1 i H Em) M F hr hg hm hb .nil (XW.passes pr.xo) ha bE he hpl Â s σ H Q I ⟨env,G,_,Em,pr,w,λvs G1 H1 xs k1 g1 r1 hl w1 x dx hx hd Ź=>?_⟩;have ka:dN H1<|upd H1 dx<|.own x:=dN.new hd;have hx2:upd H1 dx (.own x) x=dg:=by rw[dj λz=>Ź z.symm];exact hx
 have kb:dN (upd H1 dx<|.own x)<|upd (upd H1 dx<|.own x) x<|.ins C dx []:=dN.new hx2;have g2:RH i G1<|upd H1 dx<|.own x:=X9 g1 hd;have g3:RH i (O.upd G1 x<|.ins Cn [])<|upd (upd H1 dx<|.own x) x<|.ins C dx []:=g2.put kb ⟨C,dx,[],hi,hc,dm,.nil⟩;have k:=ka.trans kb;refine⟨.ref x::vs,_,_,Em,.cons (.ref x) (by rw[Ĉ];exact r1.keep k),g3,w1 x<|g1.free hx,?_,λcls d H' h=>(h.go k).go k1⟩;intro v G' H' y k' g' rv ⟨hv,hq⟩;subst hv;exact⟨rv.non_inv,c _ G' H' _ ((k1.trans k).trans k') g' (.ref x) hq⟩
variable {m:String}
def JY{v:O.Val}(h:O.clsV G v m=df C):∃a fs,v=.ref a/\G a=df (.ins C fs)/\fs.lookup m=dg:=by
 let⟨a,h1,h⟩:=î.mp h;let⟨p,h2,h3⟩:=î.mp h;have e:=W4 h2;by_cases z:(p.2.lookup m).isNone=dh
 .rw[fm z]at h3;cases h3;exact⟨a,p.2,WF h1,e,Option.isNone_iff_eq_none.mp z⟩
 .rw[fo z]at h3;cases h3
variable {Ľ:Pos} {pl:Sem Bool}
def Hk{k:Nat}{Cn:String}{C f:Ç}(hK:X.K=i.K)(hfn:∀c,i.cl Cn c->c=C)(A:Cls i.K C)(M:Meth i.K C (fE m) f)(D:Dfm X.prog X.w X.mg X.base i P n (Cn ++ "." ++ m) f)(hr:dW (2*n) X.A)
  (ho:PE X o<|tE X i (O.wF P n) mo) (ha:PA X (e::es)<|tAr X i (O.wF P n) ms k) (he:Ñ (e::es) X.env=(di,eval e X.env)::Ñ es X.env) (hpl:(Ĕ ç<|Ñ es X.env).any (·.1)=di)
  (ht:eval (.Call (.Attribute o (fE m) Ľ) (e::es) [] ç) X.env=(do
    let ov<-eval o X.env
    ς Ľ.atName
    let (f,first)<-Ŕ [ov] (Ζ ov (fE m) pl)
    bu ç f first (Ĕ ç<|Ñ (e::es) X.env) (š ç<|Ķ [] X.env))) :
  PE X (.Call (.Attribute o (fE m) Ľ) (e::es) [] ç) (tE X i (O.wF P n)<|.meth Cn m mo ms):=by
 let⟨fd,ps,F,hb⟩:=D;rw[<-hK]at F hb M A;k_upd;let⟨env,G,Qm,Em,pr,w,c⟩:=h;refine Ei (E:=XK1 i H Em) ho A M F hr hb .nil (XW.passes pr.xo) ha he hpl ht Â s σ H Q I<|one pr w λv G1 H1 x k1 p1 rv q=>?_;let⟨hq,w1⟩:=q;let⟨a,fs,rfl,e2,e3⟩:=JY hq;cases rv.ref_inv;let⟨c',dx,bL,hi,hc,h1,rf⟩:=p1.hp a _ e2;cases hfn c' hc;refine⟨a,dx,bL,rfl,h1,rf.look.2 e3,env,G1,_,Em,p1,w1,λvs G2 H2 xs k2 g2 r2 hl w2=>?_⟩;exact⟨.ref a::vs,G2,Qm,Em,.cons (.ref a) (by rw[Ĉ];exact r2),g2,w2,(c.go k1).go k2,λcls d H' h=>(h.go k2).go k1⟩
def Ea{Cn:String}{C f:Ç}(hK:X.K=i.K)(hfn:∀c,i.cl Cn c->c=C)(A:Cls i.K C)(M:Meth i.K C (fE m) f)(D:Dfm X.prog X.w X.mg X.base i P n (Cn ++ "." ++ m) f)(hr:dW (2*n) X.A)
  (ho:PE X o<|tE X i (O.wF P n) mo)
  (ht:eval (.Call (.Attribute o (fE m) Ľ) [] [] ç) X.env=(do
    let ov<-eval o X.env
    ς Ľ.atName
    let (f,first)<-Ŕ [ov] (Ζ ov (fE m) pl)
    bu ç f first (Ĕ ç<|Ñ [] X.env) (š ç<|Ķ [] X.env))) :
  PE X (.Call (.Attribute o (fE m) Ľ) [] [] ç) (tE X i (O.wF P n)<|.meth Cn m mo .nil):=by
 let⟨fd,ps,F,hb⟩:=D;rw[<-hK]at F hb M A;k_upd;let⟨env,G,Qm,Em,pr,w,c⟩:=h;refine AF (E:=XK1 i H Em) ho A M F hr hb .nil (XW.passes pr.xo) ht Â s σ H Q I<|one pr w λv G1 H1 x k1 p1 rv q=>?_;let⟨hq,w1⟩:=q;let⟨a,fs,rfl,e2,e3⟩:=JY hq;cases rv.ref_inv;let⟨c',dx,bL,hi,hc,h1,rf⟩:=p1.hp a _ e2;cases hfn c' hc;refine⟨a,dx,bL,rfl,h1,rf.look.2 e3,?_⟩;exact⟨[.ref a],G1,Qm,Em,.cons (.ref a) .nil,p1.hp,w1,c.go k1,λcls d H' h=>h.go k1⟩
def En(hK:X.K=i.K)(D:Dfo X.prog X.w X.mg X.base i P n f)(hr:dW (2*n) X.A)(hg:Gl X<|fE f)(bE:(fE f==("__debug__" : Str))=di) :
  PE X (.Call (.Name (fE f) p) [] [] ç) (tE X i (O.wF P n)<|.call f .nil):=by
 let⟨fa,fd,ps,F,hm,hk,hb⟩:=D;rw[<-hK]at F hk hb;k_upd;let⟨env,G,Qm,Em,pr,w,c⟩:=h;refine Ar (E:=XK1 i H Em) F hr hg hm hk hb .nil (XW.passes pr.xo) bE Â s σ H Q I ?_;exact⟨[],G,Qm,Em,.nil,pr.hp,w,c,λcls d H' h=>h⟩
abbrev Mj(X:Cx)(i:Inf)(Z:O.Fs):O.Es->List (TE×TE)
 |.cons k (.cons v r)=>(tE X i Z k,tE X i Z v)::Mj X i Z r
 |_=>[]
abbrev Wv:O.Es->Bool
 |.nil=>dh
 |.cons _ .nil=>di
 |.cons _ (.cons _ r)=>Wv r
abbrev esL:O.Es->Nat
 |.nil=>0
 |.cons _ es=>esL es+1
abbrev NO:List V->List (V×V)
 |x::y::r=>(x,y)::NO r
 |_=>[]
def Mv:∀(es:O.Es),Wv es=dh->∀{σ:St}{H:Hp}{env:O.Env}{G:O.Hs}{Qm:List O.Val->O.Hs->Prop}{Em:O.XQ}{Q:List (V×V)->Hp->Prop},Pre X i σ H env G Em->O.wA Z es env G Qm Em->
  (∀vs G' H' xs,dN H H'->RH i G' H'->RVs i.K H' vs xs->xs.length=esL es->Qm vs G'->Q (NO xs) H')->KE (Mj X i Z es) σ H Q
 |.nil,_,σ,H,env,G,Qm,Em,Q,p,w,c=>by rw[O.q_a_nil]at w;exact c [] G H [] (dN.refl H) p.hp .nil rfl w
 |.cons k .nil,h,_,_,_,_,_,_,_,_,_,_=>by cases h
 |.cons k (.cons v r),h,σ,H,env,G,Qm,Em,Q,p,w,c=>by rw[O.q_a_cons]at w;refine one p w λa G1 H1 x k1 p1 ra q=>?_;rw[O.q_a_cons]at q;refine one p1 q λb G2 H2 y k2 p2 rb q2=>?_;refine Mv r h p2 q2 λvs G' H' xs k3 g3 rv hl hq=>?_;exact c (a::b::vs) G' H' (x::y::xs) ((k1.trans k2).trans k3) g3 (.cons ((ra.keep k2).keep k3)<|.cons (rb.keep k3) rv) (by rw[Î,Î,hl];rfl) hq
def WE{K:Frag}{H:Hp}:∀{vs:List O.Val}{xs:List V}{kvs:List (O.Val×O.Val)},RVs K H vs xs->O.pairUp vs=df kvs->∃ps:List<|Key×V,NO xs=ps.map (λkv=>(kV kv.1,kv.2))/\RKs K H kvs ps/\2*ps.length=xs.length
 |[],_,_,r,e=>by cases r;cases e;exact⟨[],rfl,.nil,rfl⟩
 |[_],_,_,_,e=>by cases e
 |a::b::vs,_,kvs,r,e=>by
  cases r with
  |cons ra r=>cases r with
  |cons rb t =>
  rename_i y _;unfold O.pairUp at e;split at e
  .rename_i hk;let⟨ks,e2,rfl⟩:=á.mp e;let⟨ps,h1,h2,h3⟩:=WE t e2;let⟨c,hc,rfl⟩:=dI hk ra;refine⟨(c,y)::ps,?_,.cons hc rb h2,by rw[Î,Î,Î];lia⟩;show(kV c,y)::NO _=_;rw[h1];rfl
  .cases e
def RKs.merge{K:Frag}{H:Hp}:∀{kvs:List (O.Val×O.Val)}{ps:List (Key×V)}{ļ:List (O.Val×O.Val)}{bs:List (Key×V)},RKs K H ļ bs->RKs K H kvs ps->RKs K H (O.putAll ļ kvs) (YM bs ps)
 |_,_,_,_,r,.nil=>r
 |_,_,ļ,bs,r,.cons (k:=k) (v:=v) (c:=c) (x:=x) (kvs:=kvs) (ps:=ps) a q t=>by show RKs K H (O.putAll (O.dQ ļ k v) kvs) (YM (L2.dQ bs c x) ps);exact RKs.merge (RKs.put a q r) t
variable {ç:Pos}
def G8:PE X (.Dict [] [] ç) (tE X i Z<|.dct .nil) :=
 pe_dnewK.imp λσ H Q ⟨env,G,Qm,Em,p,w,c⟩=>by rw[O.q_e_dct]at w;unfold O.new at w;intro a ha;have w1:=w a<|p.hp.free ha;let⟨a',e,w2⟩:=dr w1;cases e;rw[O.q_a_nil]at w2;let⟨ks,e2,_,w3⟩:=dr w2;cases e2;rw[O.dq]at w3;have k:=dN.new (o:=.dK []) ha;exact c _ _ _ _ k (p.hp.put (o:=.dct []) k ⟨[],dm,.nil⟩) (.ref a) w3
def Ir{es:O.Es}{keys:List (Option Expr)}{η:List Expr}(he:Wv es=dh)(h30:esL es<=30)(h:PPs X ç keys η<|Mj X i Z es)(bG:keys.all (·.isSome)=dh)(hl:keys.length=η.length)(h0:keys≠[])(h15:keys.length<=15):PE X (.Dict keys η ç) (tE X i Z<|.dct es) :=
 (Er h bG hl h0 h15).imp λσ H Q ⟨env,G,Qm,Em,p,w,c⟩=>by
  rw[O.q_e_dct]at w;unfold O.new at w;intro a ha;have w1:=w a<|p.hp.free ha;let⟨a',e,w2⟩:=dr w1;cases e;have k:=dN.new (o:=.dK []) ha;have p2:Pre X i σ (upd H a<|.dK []) env (O.upd G a<|.dct []) Em:=p.go k<|p.hp.put (o:=.dct []) k ⟨[],dm,.nil⟩;refine Mv es he p2 w2 λvs G' H' xs k2 g2 rv hl w3=>?_;let⟨ks,e2,e3,w4⟩:=dr w3;let⟨ps,e4,r4⟩:=g2 a _ e3;cases r4;let⟨qs,h1,h2,h3⟩:=WE rv e2;refine⟨e4,qs,h1,by lia,?_⟩;have k3:dN H'<|upd H' a<|.dK<|YM [] qs:=dN.put (λxs e=>by rw[e4]at e;cases e) λp u e=>by rw[e4]at e;cases e
  exact c _ _ _ _ ((k.trans k2).trans k3) (g2.put (o:=.dct<|O.putAll [] ks) k3 ⟨_,dm,(RKs.merge .nil h2).keep k3⟩) (.ref a) w4
end Snd
namespace L2
open PySem PySem.Spec PyProof.Rows
section
variable {X:Cx}{Â:List (Ç×Obj)}{σ:St}{H:Hp}{s:Å}{a:Ç}{o:Obj}{ps:List (Key×V)}
def Inv.freeze(I:Inv X Â σ H s)(e:H a=df (.dK ps))(ho:s.heap.get? a=df o):Inv X Â σ (upd H a<|.frz o<|.dK ps) s:=by have h:=I.hok a _ e;exact I.write (t':=s.toks) (x:=a) (e:=a) (h':=s.heap) (by rw[e];exact True.intro) (.inl rfl) (λ_ _ _ q=>q) ⟨o,ho⟩ ⟨ho,h⟩
def Inv.thaw(I:Inv X Â σ H s)(e:H a=df (.frz o<|.dK ps))(h0:∀o u,X.H₀ a≠df (.frz o u)):Inv X Â σ (upd H a<|.dK ps) s:=by
 have hn:∀b,H b=dg->upd H a (.dK ps) b=dg:=λb z=>by rw[dj<|by rintro rfl;rw[e]at z;cases z];exact z
 have ho:=I.hok a _ e;refine⟨I.ok,I.os,I.bare,⟨I.base.keep,I.base.slot,λb ob q n hx=>hn b<|I.base.free b ob q n hx,I.base.there,λb xs q=>?_,λb ob u q=>?_,λb qs q=>?_⟩,I.loc,I.cell,hn _ I.free,λx c q=>hn _<|I.freeC x c q,λp hp=>?_,λb u q=>?_,I.len⟩
 .have z:=I.base.tups b xs q;rw[dj<|by rintro rfl;rw[e]at z;cases z];exact z
 .have z:=I.base.frzs b ob u q;rw[dj<|by rintro rfl;exact h0 _ _ q];exact z
 .obtain⟨m,z⟩:=I.base.tbls b qs q;exact⟨m,by rw[dj<|by rintro rfl;rw[e]at z;cases z];exact z⟩
 .obtain⟨q1,q2,q3,q4,q5⟩:=I.pin p hp;exact⟨q1,hn _ q2,q3,q4,q5⟩
 .by_cases hb:b=a
  .subst hb;rw[dm]at q;cases q;exact ho.2
  .rw[dj hb]at q;refine(I.hok b u q).stay (λ_ _ _ q=>q) (λc z=>?_) λc xs z=>?_
   .rw[dj<|by rintro rfl;rw[e]at z;cases z];exact z
   .rw[dj<|by rintro rfl;rw[e]at z;cases z];exact z
end
abbrev Ends.thaw(X:Cx)(D:Ends):Ends where
 nx:=λσ H=>∃a o ps,H a=df (.frz o<|.dK ps)/\(∀o u,X.H₀ a≠df (.frz o u))/\D.nx σ (upd H a<|.dK ps)
 rt:=λv H=>∃a o ps,H a=df (.frz o<|.dK ps)/\(∀o u,X.H₀ a≠df (.frz o u))/\D.rt v (upd H a<|.dK ps)
 bk:=D.bk
 ct:=D.ct
variable {X:Cx}
def N5{st:ġ}{t:TS}(h:PS X st t):PS X st λD σ H=>t (D.thaw X) σ H:=λÂ s σ H D I q =>
 thn (h Â s σ H _ I q) λf s' z=>by
  cases f with
  |next =>let⟨Ŏ,H',I',a,o,ps,e,h0,q⟩:=z;exact⟨Ŏ,_,I'.thaw e h0,q⟩
  |ret u =>let⟨v,Ŏ,H',I',r,a,o,ps,e,h0,q⟩:=z;exact⟨v,Ŏ,_,I'.thaw e h0,r,q⟩
  |brk=>exact z
  |cont=>exact z
abbrev Iti(a:Ç)(o:Obj)(ps:List<|Key×V):It :=
 ⟨λi H=>H a=df (.frz o<|.dK ps)/\i<ps.length,λi H v H'=>∃p k x,v=.ref p/\H p=dg/\ps[i]?=df (k,x)/\H'=upd H p (.tup [kV k,x]),λi H=>H a=df (.frz o<|.dK ps)/\ps.length<=i⟩
def Bx{k:Key}{u:Ã}(h:W6 k u=dh):RelV (kV k) u:=by
 rcases Zs h with⟨i,t,rfl,rfl⟩|⟨x,t,rfl,rfl⟩
 .exact⟨t,rfl⟩
 .exact⟨t,rfl⟩
def KV.at:∀{ps:List (Key×V)}{vs:List (Key×Ã)}{i:Nat}{k:Key}{x:V},KV ps vs->ps[i]?=df (k,x)->∃u,vs[i]?=df (k,u)/\RelV x u:=by
 intro ps vs i k x r;unfold KV at r;induction r generalizing i with
 |nil=>intro h;simp at h
 |@cons p q ps qs h t ih =>
  intro e;cases i with
  |zero =>simp at e;subst e;let⟨q1,q2⟩:=q;let⟨h1,h2⟩:=h;have h1:k=q1:=h1;subst h1;exact⟨q2,rfl,h2⟩
  |succ i=>simpa using ih ⇑e
section
variable {X:Cx}{Â:List (Ç×Obj)}{σ:St}{H:Hp}{s:Å}{a:Ç}{o:Obj}{ps:List (Key×V)}{es:Array DictEntry}{ep:Nat}
def Xk(I:Inv X Â σ H s)(e:H a=df (.frz o<|.dK ps))(hd:o.data=.dict es ep):∃vs,KV ps vs/\s.heap.DictAt (Zj X.prog X.w) a vs ep:=by
 let⟨ho,_,_,vs,Ŗ,o2,es2,ep2,h1,h2,h3,h4⟩:=(show dC X.prog X.w H s.heap a (.frz o<|.dK ps) from I.hok a _ e)
 rw[ho]at h1;cases h1;rw[hd]at h3;cases h3;exact⟨vs,Ŗ,o,es,ho,h2,hd,h4⟩
end
variable {P:ä} {w:ü} {es:List Expr} {kk:Nat} {tp:Pos} {ds:Array DictEntry} {ep:Nat} {o:Obj} {ps:List (Key×V)}
def MN{K:Frag}(a it:Ç)(hd:o.data=.dict ds ep) :
  Turn P w K (.Tuple es kk tp) (Iti a o ps) [it] it (λi h=>∃ok ov,IsItemIter h it a i ps.length ep ok ov) where
 mem:=by simp
 obj:=λi h st b hb=>by
  let⟨ok,ov,h1⟩:=st;have q:b=it:=⇑hb
  subst q;exact⟨_,h1,λv z=>by cases z⟩
 keep:=λi h h' ⟨ok,ov,h1⟩ k=>⟨ok,ov,k it (by simp) _ h1⟩
 item:=by
  k_sub;subst hP hw hK;let⟨e,hi⟩:=hg;let⟨ok,ov,h1⟩:=st;let⟨vs,Ŗ,da⟩:=Xk I e hd;have hl:ps.length=vs.length:=Ŗ.length;have hx:ps[i]?=df ps[i]:=Ï hi;let⟨u,hu,ru⟩:=Ŗ.at (k:=ps[i].1) (x:=ps[i].2) hx;rw[hl]at h1;refine wpAny_pyNext_items_item h1 da hu λkey h3 hk hout hT hsz hkeep=>?_;have hfi:=hf it (by simp);have cu:it<s.heap.objs.size:=Ô h1;have nT:s.heap.objs.size≠it:=ŗ cu;have bp:=I.fpOk (H':=H) (Ê s.heap.objs.size) I.fresh;refine⟨.ref s.heap.objs.size,rfl,wpAny_letOwnedTupleGo_items (s:={s with heap:=h3}) hout λh4 he4 hs4=>?_⟩;have I4:Inv X Â σ H {s with heap:=h4,toks:=s.toks}:=I.turnedL (t':=s.toks) (ch:=[it]) (λb ob hb q=>hs4.extBut b ob (λz=>hb<|by simp[z])<|hkeep b ob (λz=>hb<|by simp[z]) q) hf;have hT4:h4.get? s.heap.objs.size=df {cls:=.type "tuple",data:=.seq #[key,u]}:=hs4.extBut _ _ nT hT;let⟨f0,f1,f2,f3,f4,f5⟩:=bp;have I5:Inv X Â σ (upd H s.heap.objs.size<|.tup [kV ps[i].1,ps[i].2]) {s with heap:=h4,toks:=s.toks}:=I4.track f0 I.sz f1 f4 f5 ⟨by show 2<=Ø;decide,[key,u],.cons (Bx hk)<|.cons ru .nil,_,hT4,rfl,_,rfl⟩;refine⟨.ref s.heap.objs.size,_,I5,rfl,⟨s.heap.objs.size,_,_,rfl,f0,hx,rfl⟩,⟨key,u,by rw[hl];exact he4⟩,λb hb=>?_⟩;have q:b=it:=⇑hb
  subst q;rw[dj nT.symm];exact hfi.1
 done:=by
  k_sub;subst hP hw hK;let⟨e,hi⟩:=hg;let⟨ok,ov,h1⟩:=st;let⟨vs,Ŗ,da⟩:=Xk I e hd;have hl:ps.length=vs.length:=Ŗ.length;rw[hl]at h1 hi;refine wpAny_pyNext_items_end (I.ok.hd hc) h1 da (Δ hi) λh' he'=>⟨rfl,?_⟩
  exact I.turnedL (t':=s.toks) (ch:=[it]) (λb ob hb q=>he' b ob (λz=>hb<|by simp[z]) q) hf
 self:=λA i s Q E st h=>by let⟨ok,ov,h1⟩:=st;exact PySem.W.kcp_self h1 h
abbrev Itk(a:Ç)(o:Obj)(ps:List<|Key×V):It :=
 ⟨λi H=>H a=df (.frz o<|.dK ps)/\i<ps.length,λi H v H'=>H'=H/\∃k x,ps[i]?=df (k,x)/\v=kV k,λi H=>H a=df (.frz o<|.dK ps)/\ps.length<=i⟩
variable {tg:Expr}
def UK{K:Frag}(a it:Ç)(hd:o.data=.dict ds ep) :
  Turn P w K tg (Itk a o ps) [it] it (λi h=>h.IsKeyIter it a i ps.length ep) where
 mem:=by simp
 obj:=λi h st b hb=>by
  let⟨ob,h1,_,h2⟩:=st;have q:b=it:=⇑hb
  subst q;exact⟨ob,h1,λv z=>by rw[h2]at z;cases z⟩
 keep:=λi h h' st k=>st.at λo e=>k it (by simp) o e
 item:=by k_sub;subst hP hw hK;let⟨e,hi⟩:=hg;let⟨vs,Ŗ,da⟩:=Xk I e hd;have hl:ps.length=vs.length:=Ŗ.length;have hx:ps[i]?=df ps[i]:=Ï hi;let⟨u,hu,ru⟩:=Ŗ.at (k:=ps[i].1) (x:=ps[i].2) hx;rw[hl]at st;refine wpAny_pyNext_dict_item st da hu λkey h3 hk st3 hs=>?_;have I3:Inv X Â σ H {s with heap:=h3,toks:=s.toks}:=I.turnedL (t':=s.toks) (ch:=[it]) (λb ob hb q=>hs.extBut b ob (λz=>hb<|by simp[z]) q) hf;let⟨ob,ho,bK,hda⟩:=id st3;refine⟨key,rfl,dy (s:={s with heap:=h3,toks:=s.toks}) ho bK hda (by decide) ⟨kV ps[i].1,H,I3,Bx hk,⟨rfl,_,_,hx,rfl⟩,?_,λb hb=>(hf b hb).1⟩⟩;show h3.IsKeyIter it a (i+1) ps.length ep;rw[hl];exact st3
 done:=by
  k_sub;subst hP hw hK;let⟨e,hi⟩:=hg;let⟨vs,Ŗ,da⟩:=Xk I e hd;have hl:ps.length=vs.length:=Ŗ.length;rw[hl]at st hi;refine wpAny_pyNext_dict_end (I.ok.hd hc) st da (Δ hi) λh' he'=>⟨rfl,?_⟩
  exact I.turnedL (t':=s.toks) (ch:=[it]) (λb ob hb q=>he' b ob (λz=>hb<|by simp[z]) q) hf
 self:=λA i s Q E st h=>wpAny_pyIter_keyiter st h
abbrev Hb(X:Cx)(J:Ç->Obj->List (Key×V)->It)(td:TE):TI:=λσ H R=>td σ H λx H1=>∃a ps,x=.ref a/\H1 a=df (.dK ps)/\∀o,(∀o u,X.H₀ a≠df (.frz o u))->R (J a o ps) (upd H1 a<|.frz o<|.dK ps)
variable {d:Expr} {td:TE}
def U1{Ľ ŏ:Pos}(hd:PE X d td)(ϳ:ė d "items" X.env (eval d X.env)=eval d X.env)(ϴ:(Ľ.endLine==ŏ.line)=dh) :
  PI X (.Tuple es kk tp) (.Call (.Attribute d "items" Ľ) [] [] ŏ) (Hb X Iti td):=by
 intro Â s σ H R I h;refine wpAny_Call_method0_late ϳ ϴ<|thn (hd Â s σ H _ I h) λv s1 ⟨x,H1,I1,r1,a,ps,ex,ea,q1⟩=>?_;subst ex;obtain rfl:v=Value.ref a:=r1;let⟨t1,t2,t3⟩:=Fp I1<|.inl ⟨ps,.inl ea⟩;refine⟨"dict","dict.items",PySem.F.plainAttrs_dict,PySem.F.slot_dict_items,PySem.F.type_dict_items,t1,t2,Calls.callWith_builtin rfl<|PySem.evalArgs_none ?_⟩;let⟨z,hsm,vs,Ŗ,dd⟩:=WZ I1.hok ea;refine Ο PySem.F.slot_dict_items dd.typeIs PySem.F.entry_dict_items (PySem.F.args_dict_items_1 _) (meets_dict_items (Zj X.prog X.w) a hsm) ⟨⟨vs,dd⟩,?_⟩;have I2:Inv X Â σ H1 {s1 with heap:=s1.heap.push {cls:=.type "dict_items",data:=.fields #[.ref a]}}:=I1.kept (t':=s1.toks) λb o e=>Ä _ e;let⟨z2,hsm2,vs2,rel2,dd2⟩:=WZ I2.hok ea;let⟨ep,da⟩:=dd2.dictAt;refine wpAny_pyIter_items (s:={s1 with heap:=s1.heap.push {cls:=.type "dict_items",data:=.fields #[.ref a]}}) (d:=a) ⟨_,Ö _ rfl,rfl,rfl⟩ da ?_;have I3:=I2.kept (t':=s1.toks) (h':=(s1.heap.push {cls:=.type "dict_items",data:=.fields #[.ref a]}).push {cls:=.type "dict_itemiterator",data:=.fields #[.none,.bool di,.ref a,.int 0 0,.int vs2.length 0,.int ep 0,.none,.none]}) λb o e=>Ä _ e;let⟨ob,ds,ho,_,hdat,_⟩:=da;have I4:=I3.freeze ea<|Ä _ ho;refine⟨_,[_],_,_,_,rfl,I4,MN a _ hdat,⟨.none,.none,?_⟩,λb hb=>?_,q1 ob λo u z=>by have:=I1.base.frzs a o u z;rw[ea]at this;cases this⟩
 .rw[rel2.length];exact Ö _ rfl
 .have e:b=(s1.heap.push {cls:=.type "dict_items",data:=.fields #[.ref a]}).objs.size:=⇑hb
  subst e;have hn:=I2.hok.fresh<|Ê (s1.heap.push {cls:=.type "dict_items",data:=.fields #[.ref a]}).objs.size;exact I2.fpOk (Ê _) (by rw[dj<|by intro z;rw[z]at hn;rw[ea]at hn;cases hn];exact hn)
def Oo(hd:PE X d td):PI X tg d<|Hb X Itk td:=by
 intro Â s σ H R I h;refine thn (hd Â s σ H _ I h) λv s1 ⟨x,H1,I1,r1,a,ps,ex,ea,q1⟩=>?_;subst ex;obtain rfl:v=Value.ref a:=r1;let⟨z,hsm,vs,Ŗ,dd⟩:=WZ I1.hok ea;let⟨ep,da⟩:=dd.dictAt;refine wpAny_pyIter_dict hsm da ?_;have I2:=I1.kept (t':=s1.toks) (h':=s1.heap.push {cls:=.type "dict_keyiterator",data:=.fields #[.ref a,.int 0 0,.int vs.length 0,.int ep 0]}) λb o e=>Ä _ e;let⟨ob,ds,ho,_,hdat,_⟩:=da;have I3:=I2.freeze ea<|Ä _ ho;refine⟨_,[_],_,_,_,rfl,I3,UK a _ hdat,⟨_,Ö _ rfl,rfl,by rw[Ŗ.length];rfl⟩,λb hb=>?_,q1 ob λo u z=>by have:=I1.base.frzs a o u z;rw[ea]at this;cases this⟩;have e:b=s1.heap.objs.size:=⇑hb
 subst e;have hn:=I1.hok.fresh<|Ê s1.heap.objs.size;exact I1.fpOk (Ê _) (by rw[dj<|by intro z;rw[z]at hn;rw[ea]at hn;cases hn];exact hn)
abbrev TupsH(I S:Ç)(items:Array Ã)(val:Nat->List Int)(h:ù):Prop:=∀i v,items[i]?=df v->∃a ð,v=.ref a/\a≠I/\a≠S/\Ϣ h a ð/\ĝ ð.toList (val i)
def TupsH.keep{I S:Ç}{items:Array Ã}{val:Nat->List Int}{h h':ù}(t:TupsH I S items val h)(k:∀b o,b≠I->b≠S->h.get? b=df o->h'.get? b=df o):TupsH I S items val h':=λi v e=>by let⟨a,ð,h1,h2,h3,⟨o,q1,q2⟩,h5⟩:=t i v e;exact⟨a,ð,h1,h2,h3,⟨o,k a o h2 h3 q1,q2⟩,h5⟩
abbrev btL(val:Nat->List Int)(i j:Nat):Bool:=HT.lexLt (val i)<|val j
section
variable {prog:ä}{w:ü}{A:ċ}{R:Result->Å->Prop}{I l:Ç}{items:Array Ã}{val:Nat->List Int}{kw:List (Str×Ã)}{fp:List Ç}{St:Nat->ù->Prop}
def Ue(W:Walks prog w A.in1 I fp [I] items.size (λi v=>items[i]?=df v) St)(hu:A.units+1<ğ)(S:Ç)(hSI:S≠I)(hSf:S∉fp) :
  ∀(k j:Nat) (s:Å) (vb:Ã) (c:Nat),items.size - (j+1)=k->j+1<=items.size->St (j+1) s.heap->TupsH I S items val s.heap->items[Ę (btL val) j]?=df vb->
  s.heap.get? S=df {cls:=.type "list",dict:=dg,data:=.seq #[vb,vb] c,slots:=#[]}->
  (∀v h' tk,items[Ę (btL val)<|items.size - 1]?=df v->(∀b o,b≠I->b≠S->s.heap.get? b=df o->h'.get? b=df o)->R (.ok<|.ret v) {s with heap:=h',toks:=tk})->
  codeAny (Û prog w) A (.builtin "min.loop" ⟨[.ref I,.none,.ref S],kw⟩) R s:=by
 have az:(toString "min" ++ toString ".loop" : String) = "min.loop":=by decide
 have hSw:S∉[I]:=by simp[hSI]
 intro k;induction k with
 |zero =>
  intro j s vb c hk hj ű hT hPb hS hR;have aA:j+1=items.size:=by lia
  refine Φ PySem.F.entry_min_loop ?_;rw[ş PySem.F.plain_min_loop _];show wpAny _ A.in1 (ϖ (.ref S) >>= _) _ _ s;refine À<|ē hS rfl ?_;show wpAny _ A.in1 (tryCatch (ό<|.ref I) _ >>= _) _ _ s;refine À<|ζ<|W.done s _ _ (aA▸ű) λh' tk aV=>?_;have hS':=aV S _ hSw hS;show wpAny _ A.in1 (updateSeq S (λ_=>#[]) >>= _) _ _ _;refine À ?_;refine aZ hS' rfl<|À<|Ŭ<|Ë ?_;refine hR vb _ tk (by rw[<-aA];exact hPb) λb o hbw hbS e=>(ò _ _<|Ne.symm hbS).trans (aV b o ⇑hbw e)
 |succ k ih =>
  intro j s vb c hk hj ű hT hPb hS hR;have ϩ:j+1<items.size:=by lia
  refine Φ PySem.F.entry_min_loop ?_;rw[ş PySem.F.plain_min_loop _];show wpAny _ A.in1 (ϖ (.ref S) >>= _) _ _ s;refine À<|ē hS rfl ?_;show wpAny _ A.in1 (tryCatch (ό<|.ref I) _ >>= _) _ _ s;refine À<|ζ<|W.item (j+1) s _ _ ϩ ű λv h' tk hP hst' aV=>?_;have hS':=aV S _ hSw hS;have hT':TupsH I S items val h':=hT.keep λb o h1 _ e=>aV b o ⇑h1 e;have hP:items[j+1]?=df v:=hP;let⟨a,ð,rfl,_,_,pa,ia⟩:=hT' _ _ hP;let⟨b0,Κ,rfl,_,_,pb,ib⟩:=hT' _ _ hPb;show wpAny _ A.in1 (tryCatch (Ŕ [.ref a,.ref a]<|ê .Lt (.ref a) (.ref b0) >>= _) _ >>= _) _ _ _;refine À<|ζ<|Ć<|À<|HT2.lt_tups pa pb ia ib hu ?_;refine À<|Ć<|ď ?_;refine À<|Ŭ<|Ë ?_;cases hb:HT.lexLt (val<|j+1) (val<|Ę (btL val) j)with
  |true =>
   have hb':btL val (j+1) (Ę (btL val) j)=dh:=hb;simp![if_true];refine À ?_;refine aZ hS' rfl<|À<|Ŭ ?_;rw[az];refine Ë ⟨Ϧ PySem.F.plain_min_loop _,ih (j+1) _ (.ref a) _ (by lia) ϩ (W.frame _ _ _ hst' λb hbf o e=>?_) (hT'.keep λb o _ h2 e=>(ò _ _<|Ne.symm h2).trans e) (by simp![Ę,hb',if_true];exact hP) (ŝ _ hS' rfl)
     λv' cx tk'' hP' hk''=>?_⟩
   .exact(ò _ _ λh:S=b=>hSf<|by rw[h];exact hbf).trans e
   .exact hR v' cx tk'' hP' λb o hbw hbS e=>hk'' b o hbw hbS ((ò _ _<|Ne.symm hbS).trans<|aV b o ⇑hbw e)
  |false =>have hb':btL val (j+1) (Ę (btL val) j)=di:=hb;simp![ú,if_false];refine À<|Ŭ ?_;rw[az];refine Ë ⟨Ϧ PySem.F.plain_min_loop _,ih (j+1) _ (.ref b0) c (by lia) ϩ hst' hT' (by simp![Ę,hb',ú,if_false];exact hPb) hS' λv' cx tk'' hP' hk''=>?_⟩;exact hR v' cx tk'' hP' λb o hbw hbS e=>hk'' b o hbw hbS (aV b o ⇑hbw e)
variable {s:Å} {c:Nat}
def M7(W:Walks prog w A.in1 I fp [I] items.size (λi v=>items[i]?=df v) St)(hu:A.units+1<ğ)(S:Ç)(hSI:S≠I)(hSf:S∉fp)(hn:0<items.size)(ű:St 0 s.heap)(hT:TupsH I S items val s.heap)
  (hS:s.heap.get? S=df {cls:=.type "list",dict:=dg,data:=.seq #[] c,slots:=#[]})
  (hR:∀v h' tk,items[Ę (btL val)<|items.size - 1]?=df v->(∀b o,b≠I->b≠S->s.heap.get? b=df o->h'.get? b=df o)->R (.ok<|.ret v) {s with heap:=h',toks:=tk}) :
  codeAny (Û prog w) A (.builtin "min.loop" ⟨[.ref I,.none,.ref S],kw⟩) R s:=by
 have az:(toString "min" ++ toString ".loop" : String) = "min.loop":=by decide
 have hSw:S∉[I]:=by simp[hSI]
 refine Φ PySem.F.entry_min_loop ?_;rw[ş PySem.F.plain_min_loop _];show wpAny _ A.in1 (ϖ (.ref S) >>= _) _ _ s;refine À<|ē hS rfl ?_;show wpAny _ A.in1 (tryCatch (ό<|.ref I) _ >>= _) _ _ s;refine À<|ζ<|W.item 0 s _ _ hn ű λv h' tk hP hst' aV=>?_;have hS':=aV S _ hSw hS;have hT':TupsH I S items val h':=hT.keep λb o h1 _ e=>aV b o ⇑h1 e;show wpAny _ A.in1 (updateSeq S (λ_=>#[v,v]) >>= _) _ _ _;refine À ?_;refine aZ hS' rfl ?_;rw[az];refine Ë ⟨Ϧ PySem.F.plain_min_loop _,Ue W hu S hSI hSf _ 0 _ v _ rfl hn (W.frame _ _ _ hst' λb hbf o e=>?_) (hT'.keep λb o _ h2 e=>(ò _ _<|Ne.symm h2).trans e) hP (ŝ _ hS' rfl) λv' cx tk'' hP' hk''=>?_⟩
 .exact(ò _ _ λh:S=b=>hSf<|by rw[h];exact hbf).trans e
 .exact hR v' cx tk'' hP' λb o hbw hbS e=>hk'' b o hbw hbS ((ò _ _<|Ne.symm hbS).trans<|aV b o ⇑hbw e)
def Ul(hh:A.handled=dg)(hlI:l≠I)(S:Ç)(hSI:S≠I)(hn:items.size=0){nm:Str}{d:Ã}(ű:s.heap.IsListIter I l 0/\s.heap.IsList l items)
  (hS:s.heap.get? S=df {cls:=.type "list",dict:=dg,data:=.seq #[] c,slots:=#[]})
  (hR:∀h' tk,(∀b o,b≠I->s.heap.get? b=df o->h'.get? b=df o)->R (.ok<|.ret d) {s with heap:=h',toks:=tk}) :
  codeAny (Û prog w) A (.builtin "min.loop" ⟨[.ref I,.none,.ref S],[(nm,d)]⟩) R s:=by
 have W:=Walks.list (prog:=prog) (w:=w) (A:=A.in1) hh I l hlI items;refine Φ PySem.F.entry_min_loop ?_;rw[ş PySem.F.plain_min_loop _];show wpAny _ A.in1 (ϖ (.ref S) >>= _) _ _ s;refine À<|ē hS rfl ?_;show wpAny _ A.in1 (tryCatch (ό<|.ref I) _ >>= _) _ _ s;refine À (ζ<|W.done s _ _ (by rw[hn];exact ű) λh' tk aV=>?_);show wpAny _ A.in1 (rule _ >>= λ_=>ret d) _ _ _;exact À (ϭ<|Ë<|hR h' tk λb o hb e=>aV b o ⇑hb e)
end
def Ui(a:Ã):argsOk "min" ⟨[a],[(fE "default",.none)]⟩:=by unfold argsOk;kernel_rfl
def Ws(bt:Nat->Nat->Bool):∀k,Ę bt k<=k
 |0=>Ê _
 |k+1=>by
  unfold Ę;split
  .exact Ê _
  .exact Nat.le_succ_of_le<|Ws bt k
def Kc:∀{xs:List V}{us:List Ã}{i:Nat}{u:Ã},fc xs us->us[i]?=df u->∃x,xs[i]?=df x/\RelV x u
 |_,_,_,_,.nil,e=>by simp at e
 |_,_,0,_,.cons r _,e=>by simp at e;subst e;exact⟨_,rfl,r⟩
 |_,_,i+1,_,.cons _ t,e=>by let⟨x,h1,h2⟩:=Kc (i:=i) t ⇑e;exact⟨x,⇑h1,h2⟩
section
variable {X:Cx}
def OZ{Â:List (Ç×Obj)}{s:Å}{σ:St}{H:Hp}{a:Ç}{xs:List V}{rows:List (List Int)}{Q:VK}(hc:X.calm=dh)(hu:X.A.units+1<ğ)(I:Inv X Â σ H s)(hl:eY X.K H a xs)(hr:rows.length=xs.length)
  (ht:∀i,i<rows.length->∃p,xs[i]?=df (.ref p)/\eZ X.K H p ((rows.getD i []).map V.int))
  (q0:xs=[]->Q .non H) (q1:xs≠[]->∀x,xs[Ę (btL λi=>rows.getD i [])<|xs.length - 1]?=df x->Q x H) :
  wpAny (Û X.prog X.w) X.A (call (.builtin "min") [.ref a] [(fE "default",.none)]) (EP X Â σ Q) X.xe s:=by
 have az:(toString "min" ++ toString ".loop" : String) = "min.loop":=by decide
 let⟨ð,rv,pl,hz⟩:=I.list hl;have hlen:=rv.length;have hls:=pl.isList;let⟨ol,hol,_⟩:=id hls;have hll:a<s.heap.objs.size:=Ô hol;refine PyProof.Rows.kmk_tree PySem.F.kind_min PySem.F.plain_min PySem.F.entry_min (Ui _) ?_;show wpAny _ X.A.in1 (Builtin.Builtins.bindParams "min" ["key","default"] 0 ⟨[],[(fE "default",.none)]⟩ >>= _) _ _ s;refine À (wpAny_of_eq (show Builtin.Builtins.bindParams "min" ["key","default"] 0 ⟨[],[(fE "default",.none)]⟩=pure [dg,df .none] from rfl) ?_);refine À<|Ë ?_;refine À<|ak hls ?_;refine À<|ϧ ?_<|Ĥ _;rw[az];have hS:(s.heap.push {cls:=.type "list_iterator",data:=.fields #[.ref a,.int 0 0]}).objs.size=s.heap.objs.size+1:=size_push' ..;have hlI:a≠s.heap.objs.size:=è hll;have hSI:(s.heap.push {cls:=.type "list_iterator",data:=.fields #[.ref a,.int 0 0]}).objs.size≠s.heap.objs.size:=by rw[hS];exact ŗ<|Ļ _
 have hSl:(s.heap.push {cls:=.type "list_iterator",data:=.fields #[.ref a,.int 0 0]}).objs.size≠a:=by rw[hS];exact ŗ<|Ř hll
 have kk:∀b o,s.heap.get? b=df o->((s.heap.push {cls:=.type "list_iterator",data:=.fields #[.ref a,.int 0 0]}).push<|Ď "list" #[] 0).get? b=df o:=λb o e=>Ä _<|Ä _ e;have gI:((s.heap.push {cls:=.type "list_iterator",data:=.fields #[.ref a,.int 0 0]}).push<|Ď "list" #[] 0).get? s.heap.objs.size=df {cls:=.type "list_iterator",data:=.fields #[.ref a,.int 0 0]} :=
  Ä _ (Ö _ rfl)
 have gS:((s.heap.push {cls:=.type "list_iterator",data:=.fields #[.ref a,.int 0 0]}).push<|Ď "list" #[] 0).get? (s.heap.push {cls:=.type "list_iterator",data:=.fields #[.ref a,.int 0 0]}).objs.size=df (Ď "list" #[] 0):=Ö _ rfl;have ac:∀b o,s.heap.get? b=df o->b≠s.heap.objs.size/\b≠(s.heap.push {cls:=.type "list_iterator",data:=.fields #[.ref a,.int 0 0]}).objs.size:=λb o e=>by have:=Ô e;rw[hS];exact⟨è this,è<|Ř this⟩
 have ű:Heap.IsListIter ((s.heap.push {cls:=.type "list_iterator",data:=.fields #[.ref a,.int 0 0]}).push<|Ď "list" #[] 0) s.heap.objs.size a 0/\Heap.IsList ((s.heap.push {cls:=.type "list_iterator",data:=.fields #[.ref a,.int 0 0]}).push<|Ď "list" #[] 0) a ð.toArray:=by refine⟨⟨_,gI,rfl,rfl⟩,?_⟩;let⟨o,e,r⟩:=hls;exact⟨o,kk _ _ e,r⟩
 refine Ë ⟨Ϧ PySem.F.plain_min_loop _,?_⟩;by_cases h0:xs=[]
 .have hi:ð.toArray.size=0:=by rw[É,<-hlen,h0];rfl
  refine Ul (I:=s.heap.objs.size) (A:=X.A) (l:=a) (items:=ð.toArray) (I.ok.hd hc) hlI _ hSI hi ű gS λh' tk hk=>?_;exact⟨.non,H,I.kept (t':=tk) λb o e=>hk b o (ac b o e).1<|kk b o e,rfl,q0 h0⟩
 .have hi:0<ð.toArray.size:=by
   rw[É,<-hlen];exact Υ.mpr h0
  refine M7 (A:=X.A) (items:=ð.toArray) (val:=λi=>rows.getD i []) (Walks.list (A:=X.A.in1) (I.ok.hd hc) s.heap.objs.size a hlI ð.toArray) hu _ hSI (λz=>(Æ.mp z).elim hSI λz=>hSl<|û.mp z) hi ű (λi v e=>?_) gS λv h' tk hv hk=>?_
  .have e:ð[i]?=df v:=⇑e
   have hi':i<rows.length:=by rw[hr,hlen];exact(Ò.mp e).1
   let⟨p,hp1,hp2⟩:=ht i hi';let⟨x,hx,rx⟩:=Kc rv e;rw[hp1]at hx;cases hx;obtain rfl:v=Value.ref p:=rx;let⟨tt,r2,⟨o2,e2,rest⟩,_⟩:=I.tuple hp2;exact⟨p,tt.toArray,rfl,(ac p o2 e2).1,(ac p o2 e2).2,⟨o2,kk _ _ e2,rest⟩,ZT r2⟩
  .have hv:ð[Ę (btL λi=>rows.getD i [])<|xs.length - 1]?=df v:=by rw[hlen];simpa using hv
   let⟨x,hx,rx⟩:=Kc rv hv;exact⟨x,H,I.kept (t':=tk) λb o e=>hk b o (ac b o e).1 (ac b o e).2<|kk b o e,rx,q1 h0 x hx⟩
abbrev Lk(K:Frag)(ta:TA):TE:=λσ H Q=>ta σ H λvs H1=>∃a xs,∃rows:List<|List Int,vs=[.ref a]/\eY K H1 a xs/\rows.length=xs.length/\
 (∀i,i<rows.length->∃p,xs[i]?=df (.ref p)/\eZ K H1 p ((rows.getD i []).map V.int))/\(xs=[]->Q .non H1)/\(xs≠[]->∀x,xs[Ę (btL λi=>rows.getD i [])<|xs.length - 1]?=df x->Q x H1)
def Eg{e:Expr}{ta:TA}{p ç kp kpos:Pos}{kk:Nat}(hc:X.calm=dh)(hu:X.A.units+1<ğ)(hg:Gl X "min")(hm:X.mg "min" = dg)(ha:PA X [e] ta)(hs:Ñ [e] X.env=[(di,eval e X.env)]) :
  PE X (.Call (.Name "min" p) [e] [⟨df "default",.Constant .none kk kp,kpos⟩] ç) (Lk X.K ta):=by
 k_upd;refine Ğ (YF (u:=.builtin "min") I hg hm (by kernel_rfl) ?_);refine PyProof.Rows.callWith_kw (e:=e) (rest:=[]) ?_ (by rw[hs];rfl) (by rw[hs];rfl) rfl rfl;refine thn (ha ç Â s σ H _ I h) λus s1 ⟨vs,H1,I1,r1,a,xs,rows,ev,hl,hr,ht,q0,q1⟩=>?_;subst ev;let⟨u,rfl,ru⟩:=Z9 r1;cases ru;refine PyProof.Rows.kws_cons<|thn (Cc Â s1 σ H1 (λv H2=>v=.non/\H2=H1) I1 ⟨rfl,rfl⟩) λv s2 ⟨x,H2,I2,r2,e1,e2⟩=>PyProof.Rows.kws_nil ?_;subst e1 e2;obtain rfl:v=Value.none:=r2;exact OZ hc hu I2 hl hr ht q0 q1
def Xr{P:ä}{w:ü}:∀{ns:List Int}{vs:List (Key×Ã)}{ļ:List Ã},vs.map (·.1)=ns.map Sum.inl->ļ.length=vs.length->(∀(j:Nat) (v:Ã),ļ[j]?=df v->∃(k:Key) (x:Ã),vs[j]?=df (k,x)/\(Zj P w).is k v=dh)->ĝ ļ ns
 |[],[],[],_,_,_=>.nil
 |[],_::_,_,h,_,_=>by cases h
 |_::_,[],_,h,_,_=>by cases h
 |[],[],_::_,_,h,_=>by cases h
 |_::_,_::_,[],_,h,_=>by cases h
 |n::ns,p::vs,u::ļ,h1,h2,h3=>by rw[È,È]at h1;injection h1 with h1 h1';let⟨k,x,e1,e2⟩:=h3 0 u rfl;simp at e1;subst e1;have h1:k=Sum.inl n:=h1;subst h1;obtain⟨t,rfl⟩:∃t,u=Value.int n t:=Bx (k:=Sum.inl n) (u:=u) e2;exact .cons n t (Xr (P:=P) (w:=w) h1' ⇑h2 λj v e=>by simpa using h3 (j+1) v ⇑e)
def Kz(hc:X.calm=dh):dB X (.builtin "sorted") (λxs H Q=>∃p kvs,∃ns:List Int,xs=[.ref p]/\Rd H p (.dK kvs)/\kvs.map (·.1)=ns.map Sum.inl/\ns.length<64/\∀l,H l=dg->Q (.ref l) (upd H l<|.lst<|(sortI ns).map V.int)):=by
 k_put;let⟨p,kvs,ns,rfl,hp,hk,h64,q⟩:=h;let⟨u,rfl,rx⟩:=Z9 r;cases rx;let⟨z,hsm,vs,Ŗ,dd⟩:=Xp I.hok hp;let⟨ep,da⟩:=dd.dictAt;have hlen:vs.length=ns.length:=by have:=congrArg List.length hk;simpa[Ŗ.length]using this
 refine Calls.call_function_entry kind_sorted plain_sorted entry_sorted (args_sorted1 _) ?_;unfold Builtin.«sorted»;refine À (m:=checkCount "sorted" 1 1 _)<|Ë ?_;refine À (PySem.W.kdu_collect (A:=X.A.in1) (PySem.W.kdl_dict (knd:=Zj X.prog X.w) (kvs:=vs) (ep:=ep) hsm) (I.ok.hd hc) da (by rw[<-Ŗ.length];exact z) λh' tk ļ hkeep hacc=>?_);have hl:ļ.toList.length=vs.length:=by rw[ö];exact hacc.1
 refine À (ϧ ?_<|by rw[hl,<-Ŗ.length];exact z);have hI:ĝ ļ.toList ns:=Xr (P:=X.prog) (w:=X.w) (by rw[<-Ŗ.keys];exact hk) hl λj v e=>hacc.2 j v (by rw[<-Ŝ];exact e);have hoL:(h'.push<|Ď "list" ļ.toList.toArray 0).get? h'.objs.size=df (Ď "list" ļ.toList.toArray 0):=Ö _ rfl;have I1:Inv X Â σ H {s with heap:=h',toks:=tk}:=I.kept hkeep;refine À (Ć<|Ī slot_list_sort ⟨_,hoL,rfl⟩ entry_list_sort (list_sort_tree hoL hI (by rw[hl,hlen];exact h64) λout cL a1 a2 a3=>⟨_,rfl,?_⟩)<|args_list_sort _);have e:=Wy a2 a3;subst e;let⟨n,he⟩:=sortedHeap_at (out:=out) hoL;refine Ë ⟨_,rfl,.ref h'.objs.size,_,I1.laid (a:=h'.objs.size) (o:=.lst<|(sortI ns).map V.int) (t':=tk) (λb o e=>?_) (Ê _) ?_,rfl,q _<|I1.hok.fresh<|Ê _⟩
 .have e:h'.get? b=df o:=e;have hb:=Ô e;rw[sortedHeap_old (è hb)<|by rw[size_push'];exact Ř hb];exact Ä _ e
 .exact⟨by rw[Á,Xy];unfold Ø;lia,out.toList,n,Xv a1,by simpa[Ď]using he⟩
end
end L2
namespace Srt
open PySem.W PyProof.Rows
abbrev ok(n:Nat)(lt:Nat->Nat->Bool){α:Type}:KasT α->(α->Prop)->Prop
 |.ret a,Q=>Q a
 |.ask i j k,Q=>i<n/\j<n/\ok n lt (k<|lt i j) Q
section
variable {n:Nat}{lt:Nat->Nat->Bool}
def YZ{α β:Type}{f:α->KasT β}{Q:β->Prop}:∀{t:KasT α},ok n lt t (λa=>ok n lt (f a) Q)->ok n lt (t.bind f) Q
 |.ret _,h=>h
 |.ask _ _ k,h=>⟨h.1,h.2.1,YZ (t:=k _) h.2.2⟩
structure LO(lt:Nat->Nat->Bool):Prop where
 asym:∀i j,lt i j=dh->lt j i=di
 tr:∀i j k,lt j i=di->lt k j=di->lt k i=di
abbrev K(p:Array Nat)(k:Nat):Nat:=p.getD k 0
abbrev Up(lt:Nat->Nat->Bool)(p:Array Nat)(m:Nat):Prop:=∀i j,i<=j->j<m->lt (K p j) (K p i)=di
abbrev Dn(lt:Nat->Nat->Bool)(p:Array Nat)(m:Nat):Prop:=∀i j,i<=j->j<m->lt (K p i) (K p j)=di
structure Good(n:Nat)(p:Array Nat):Prop where
 sz:p.size=n
 pm:p.toList.Perm<|List.range n
variable {p:Array Nat}
def Good.at(g:Good n p)(h0:0<n)(k:Nat):K p k<n:=by
 unfold K;by_cases h:k<p.size
 .have e:p.getD k 0=p[k]:=by simp[ao,h]
  rw[e];have:p[k]∈List.range n:=g.pm.mem_iff.mp (by simp);exact Ů.mp this
 .have e:p.getD k 0=0:=by simp[ao,h]
  rw[e];exact h0
variable {i:Nat} {j:Nat}
def At{q:Array Nat}(h:p[i]?=q[j]?):K p i=K q j:=by unfold K;rw[aa,aa,h]
def Xw(hj:j<=p.size)(k:Nat):K (χ p i j) k=if i<=k/\k<j then K p (i+j - 1 - k)else K p k:=by
 have h:=getElem?_mirror_all (xs:=p) (i:=i) hj k;split
 .rename_i c;rw[fm c]at h;exact At h
 .rename_i c;rw[fo c]at h;exact At h
def Good.rev(g:Good n p)(i j:Nat):Good n<|χ p i j:=⟨(mirror_size ..).trans g.sz,(ap.mp<|mirror_perm ..).trans g.pm⟩
def Good.bub(g:Good n p)(i j:Nat):Good n<|bubble p i j:=⟨(bubble_size ..).trans g.sz,(ap.mp<|bubble_perm ..).trans g.pm⟩
def Nu(o:LO lt)(h0:0<n){p:Array Nat}(g:Good n p){Q:Nat->Prop}:∀(f m:Nat),(∀m',m<=m'->m'<=m+f->(∀k,m<=k->k<m'->lt (K p k) (K p<|k - 1)=di)->(m'=m+f\/lt (K p m') (K p<|m' - 1)=dh)->Q m')->ok n lt (kas_asc p f m) Q
 |0,m,h=>h m (Ê _) (Ê _) (λk h1 h2=>by lia)<|.inl rfl
 |f+1,m,h=>by
  refine⟨g.at h0 _,g.at h0 _,?_⟩;show ok n lt (if lt (K p m) (K p<|m - 1)=dh then .ret m else kas_asc p f (m+1)) Q;split
  .rename_i c;exact h m (Ê _) (by lia) (λk h1 h2=>by lia)<|.inr c
  .rename_i c;refine Nu o h0 g f (m+1) λm' h1 h2 h3 h4=>h m' (by lia) (by lia) (λk h5 h6=>?_) (h4.imp (λz=>by lia) id);by_cases hk:k=m
   .subst hk;simpa using c
   .exact h3 k (by lia) h6
variable {m:Nat}
def ES(o:LO lt){m':Nat}(h:Up lt p m)(h1:1<=m)(hs:∀k,m<=k->k<m'->lt (K p k) (K p<|k - 1)=di):Up lt p m':=by
 have key:∀d,m+d<=m'->Up lt p (m+d):=by
  intro d;induction d with
  |zero=>intro _;exact h
  |succ d ih =>
   intro hd i j aL hj;have u:=ih (by lia);by_cases hjm:j<m+d
   .exact u i j aL hjm
   .have ej:j=m+d:=by lia
    subst ej;by_cases hi:i=m+d
    .subst hi;cases z:lt (K p<|m+d) (K p<|m+d)with
     |false=>rfl
     |true=>have:=o.asym _ _ z;rw[z]at this;cases this
    .exact o.tr _ _ _ (u i (m+d - 1) (by lia)<|by lia) (hs (m+d) (by lia)<|by lia)
 by_cases hm:m<=m'
 .have:=key (m' - m) (by lia)
  rwa [show m+(m' - m)=m' by lia]at this
 .intro i j aL hj;exact h i j aL (by lia)
def irr(o:LO lt)(i:Nat):lt i i=di:=by
 cases z:lt i i with
 |false=>rfl
 |true=>have:=o.asym _ _ z;rw[z]at this;cases this
abbrev Alk(lt:Nat->Nat->Bool)(p:Array Nat)(m q:Nat):Prop:=∀i j,m - (q+1)<=i->i<m->m - (q+1)<=j->j<m->lt (K p i) (K p j)=di
def A6{q:Nat}(hm:m<=p.size)(h:Dn lt p m)(ha:Alk lt p m q):Dn lt (χ p (m - (q+1)) m) m:=by
 intro i j aL hj;rw[Xw hm,Xw hm];by_cases hi:m - (q+1)<=i
 .rw[fm ⟨hi,by lia⟩,fm ⟨by lia,hj⟩];exact ha _ _ (by lia) (by lia) (by lia) (by lia)
 .rw[fo<|by lia];by_cases hj2:m - (q+1)<=j
  .rw[fm ⟨hj2,hj⟩];exact h _ _ (by lia) (by lia)
  .rw[fo<|by lia];exact h _ _ aL hj
def AQ{k:Nat}(hj:j<=p.size)(hk:j<=k):K (χ p i j) k=K p k:=by rw[Xw hj,fo<|by lia]
def Ox(o:LO lt)(h:Dn lt p m)(h1:1<=m)(hs:lt (K p<|m - 1) (K p m)=di):Dn lt p<|m+1:=by
 intro i j aL hj;by_cases hjm:j<m
 .exact h i j aL hjm
 .have ej:j=m:=by lia
  subst ej;by_cases hi:i=j
  .subst hi;exact irr o _
  .exact o.tr _ _ _ hs (h i (j - 1) (by lia)<|by lia)
def X7(o:LO lt)(h0:0<n){Q:Array Nat×Nat×Nat->Prop}:∀(f:Nat) (p:Array Nat) (m q:Nat),Good n p->m+f<=n->q+1<=m->Dn lt p m->Alk lt p m q->
  (∀p' m' q',Good n p'->m<=m'->m'<=m+f->q'+1<=m'->Dn lt p' m'->Alk lt p' m' q'->Q (p',m',q'))->ok n lt (bA f p m q) Q
 |0,p,m,q,g,hm,hq,hd,ha,h=>h p m q g (Ê _) (Ê _) hq hd ha
 |f+1,p,m,q,g,hm,hq,hd,ha,h=>by
  have hmp:m<=p.size:=by rw[g.sz];lia
  refine⟨g.at h0 _,g.at h0 _,?_⟩;show ok n lt (if lt (K p m) (K p<|m - 1)=dh then(if q > 0 then bA f (χ p (m - (q+1)) m) (m+1) 0 else bA f p (m+1) 0)else .ask (K p<|m - 1) (K p m) λd=>if d=dh then .ret (p,m,q)else bA f p (m+1) (q+1)) Q;split
  .rename_i c;have alone:∀p',Alk lt p' (m+1) 0:=λp' i j h1 h2 h3 h4=>by
    have e1:i=m:=by lia
    have e2:j=m:=by lia
    subst e1;rw[e2];exact irr o _
   split
   .have g':=g.rev (m - (q+1)) m;have d':=A6 hmp hd ha;refine X7 o h0 f _ (m+1) 0 g' (by lia) (by lia) (Ox o d' (by lia) ?_) (alone _) λp' m' q' a1 a2 a3 a4 a5 a6=>h p' m' q' a1 (by lia) (by lia) a4 a5 a6;rw[AQ hmp<|Ê _,Xw hmp,fm ⟨by lia,by lia⟩];exact o.tr _ _ _ (o.asym _ _ c) (ha _ _ (by lia) (by lia) (by lia)<|by lia)
   .exact X7 o h0 f _ (m+1) 0 g (by lia) (by lia) (Ox o hd (by lia)<|o.asym _ _ c) (alone _) λp' m' q' a1 a2 a3 a4 a5 a6=>h p' m' q' a1 (by lia) (by lia) a4 a5 a6
  .rename_i c;have c:lt (K p m) (K p<|m - 1)=di:=⇑c
   refine⟨g.at h0 _,g.at h0 _,?_⟩;show ok n lt (if lt (K p<|m - 1) (K p m)=dh then .ret (p,m,q)else bA f p (m+1) (q+1)) Q;split
   .exact h p m q g (Ê _) (by lia) hq hd ha
   .rename_i e;have e:lt (K p<|m - 1) (K p m)=di:=⇑e
    refine X7 o h0 f p (m+1) (q+1) g (by lia) (by lia) (Ox o hd (by lia) e) (λi j h1 h2 h3 h4=>?_) λp' m' q' a1 a2 a3 a4 a5 a6=>h p' m' q' a1 (by lia) (by lia) a4 a5 a6;by_cases hi:i=m
    .by_cases hj:j=m
     .rw[hi,hj];exact irr o _
     .rw[hi];exact o.tr _ _ _ (ha (m - 1) j (by lia) (by lia) (by lia)<|by lia) c
    .by_cases hj:j=m
     .rw[hj];exact o.tr _ _ _ e (ha i (m - 1) (by lia) (by lia) (by lia)<|by lia)
     .exact ha i j (by lia) (by lia) (by lia) (by lia)
abbrev Cnt(n:Nat)(lt:Nat->Nat->Bool)(r:Nat×Array Nat):Prop:=Good n r.2/\1<=r.1/\r.1<=n/\Up lt r.2 r.1
def Om(o:LO lt)(h0:0<n)(g:Good n p)(h1:1<=m)(hm:m<=n)(hd:Dn lt p m):ok n lt (kas_tail3 m n p)<|Cnt n lt:=by
 have g':=g.rev 0 m;refine YZ<|Nu o h0 g' _ _ λm' a1 a2 a3 _=>?_;refine⟨g',by show 1<=m';lia,by show m'<=n;lia,ES o (m:=m) ?_ h1 a3⟩;intro i j aL hj;have hs:m<=p.size:=by rw[g.sz];exact hm
 show lt (K (χ p 0 m) j) (K (χ p 0 m) i)=di;rw[Xw hs,Xw hs,fm ⟨by lia,hj⟩,fm ⟨by lia,by lia⟩];exact hd _ _ (by lia) (by lia)
def Mb(o:LO lt)(h0:0<n)(g:Good n p)(h1:1<=m)(hm:m<n)(ha:∀i j,i<m->j<m->lt (K p i) (K p j)=di)(hs:lt (K p m) (K p<|m - 1)=dh):ok n lt (aq m n p)<|Cnt n lt:=by
 refine YZ (X7 o h0 _ p (m+1) 0 g (by lia) (by lia) (Ox o (λi j aL hj=>ha i j (by lia) hj) h1<|o.asym _ _ hs) (λi j a1 a2 a3 a4=>?_) λp' m' q' a1 a2 a3 a4 a5 a6=>?_)
 .have e1:i=m:=by lia
  have e2:j=m:=by lia
  rw[e1,e2];exact irr o _
 .show ok n lt (if q' > 0 then kas_tail3 m' n (χ p' (m' - (q'+1)) m')else kas_tail3 m' n p') _;split
  .exact Om o h0 (a1.rev _ _) (by lia) (by lia) (A6 (by rw[a1.sz];lia) a5 a6)
  .exact Om o h0 a1 (by lia) (by lia) a5
def Ae(o:LO lt)(h0:0<n)(g:Good n p):ok n lt (kas_count n p)<|Cnt n lt:=by
 refine YZ<|Nu o h0 g _ _ λm a1 a2 a3 a4=>?_;have u:Up lt p m:=ES o (m:=1) (λi j aL hj=>by rw[show i=0 by lia,show j=0 by lia];exact irr o _) (Ê _) a3;show ok n lt (if(m==n)=dh then .ret (m,p)else if m > 1 then .ask (K p 0) (K p<|m - 1) λc=>if c=dh then .ret (m,p)else aq m n (χ p 0 m)else aq m n p) _;split
 .exact⟨g,a1,by show m<=n;lia,u⟩
 .rename_i hn;have hn:m≠n:=⇑hn
  have hs:lt (K p m) (K p<|m - 1)=dh:=a4.resolve_left (by lia);split
  .rename_i h1;refine⟨g.at h0 _,g.at h0 _,?_⟩;show ok n lt (if lt (K p 0) (K p<|m - 1)=dh then .ret (m,p)else aq m n (χ p 0 m)) _;split
   .exact⟨g,a1,by show m<=n;lia,u⟩
   .rename_i c;have c:lt (K p 0) (K p<|m - 1)=di:=⇑c
    have hsz:m<=p.size:=by rw[g.sz];lia
    have al:∀i j,i<m->j<m->lt (K p i) (K p j)=di:=λi j hi hj =>
     o.tr _ _ _ (o.tr _ _ _ (u j (m - 1) (by lia)<|by lia) c) (u 0 i (by lia) hi)
    refine Mb o h0 (g.rev _ _) a1 (by lia) (λi j hi hj=>?_) ?_
    .rw[Xw hsz,Xw hsz,fm ⟨by lia,hi⟩,fm ⟨by lia,hj⟩];exact al _ _ (by lia) (by lia)
    .rw[AQ hsz<|Ê _,Xw hsz,fm ⟨by lia,by lia⟩];cases z:lt (K p m) (K p<|0+m - 1 - (m - 1))with
     |true=>rfl
     |false =>have:=o.tr _ _ _ (al (0+m - 1 - (m - 1)) (m - 1) (by lia)<|by lia) z;rw[hs]at this;cases this
  .rename_i h1;have e:m=1:=by lia
   subst e;exact Mb o h0 g (Ê _) (by lia) (λi j hi hj=>by rw[show i=0 by lia,show j=0 by lia];exact irr o _) hs
def W2(o:LO lt)(h0:0<n){p:Array Nat}{k:Nat}(g:Good n p)(u:Up lt p k){Q:Nat->Prop}:∀(f l r:Nat),r - l<=f->l<=r->r<=k->(∀i,i<l->lt (K p k) (K p i)=di)->(∀i,r<=i->i<k->lt (K p k) (K p i)=dh)->
  (∀l',l'<=k->(∀i,i<l'->lt (K p k) (K p i)=di)->(∀i,l'<=i->i<k->lt (K p k) (K p i)=dh)->Q l')->ok n lt (aF p k f l r) Q
 |0,l,r,hf,hl,hr,ha,hb,h=>by
  have e:l=r:=by lia
  subst e;exact h l hr ha hb
 |f+1,l,r,hf,hl,hr,ha,hb,h=>by
  show ok n lt (if l≥r then .ret l else .ask (K p k) (K p<|(l+r) / 2) λc=>if c=dh then aF p k f l ((l+r) / 2)else aF p k f ((l+r) / 2+1) r) Q;split
  .have e:l=r:=by lia
   subst e;exact h l hr ha hb
  .refine⟨g.at h0 _,g.at h0 _,?_⟩;show ok n lt (if lt (K p k) (K p<|(l+r) / 2)=dh then aF p k f l ((l+r) / 2)else aF p k f ((l+r) / 2+1) r) Q;split
   .rename_i c;refine W2 o h0 g u f l ((l+r) / 2) (by lia) (by lia) (by lia) ha (λi h1 h2=>?_) h;cases z:lt (K p k) (K p i)with
    |true=>rfl
    |false =>have:=o.tr _ _ _ (u ((l+r) / 2) i h1 h2) z;rw[c]at this;cases this
   .rename_i c;have c:lt (K p k) (K p<|(l+r) / 2)=di:=⇑c
    refine W2 o h0 g u f ((l+r) / 2+1) r (by lia) (by lia) hr (λi h1=>?_) hb h;exact o.tr _ _ _ (u i ((l+r) / 2) (by lia)<|by lia) c
def AO{s d:Nat}(hs:s<p.size)(hd:d<=s)(k:Nat):K (bubble p s d) k=if k=s - d then K p s else if s - d<k/\k<=s then K p (k - 1)else K p k:=by
 have h:=getElem?_bubble hs d hd k;split
 .rename_i c;rw[fm c]at h;exact At h
 .rename_i c;rw[fo c]at h;split
  .rename_i c2;rw[fm c2]at h;exact At h
  .rename_i c2;rw[fo c2]at h;exact At h
def As(o:LO lt)(h0:0<n):∀(f:Nat) (p:Array Nat) (k:Nat),Good n p->1<=k->k+f=n->Up lt p k->ok n lt (kas_bin f p k) (λp'=>Good n p'/\Up lt p' n)
 |0,p,k,g,hk,hf,u=>by
  have e:k=n:=by lia
  subst e;exact⟨g,u⟩
 |f+1,p,k,g,hk,hf,u=>by
  refine YZ (W2 o h0 g u k 0 k (by lia) (by lia) (Ê _) (λi hi=>by lia) (λi h1 h2=>by lia) λl hl ha hb=>?_);have hs:k<p.size:=by rw[g.sz];lia
  refine As o h0 f _ (k+1) (g.bub _ _) (by lia) (by lia) λi j aL hj=>?_;have el:k - (k - l)=l:=by lia
  have e1:K (bubble p k<|k - l) l=K p k:=by rw[AO hs (by lia),el,fm rfl]
  have e2:∀x,l<x->x<=k->K (bubble p k<|k - l) x=K p (x - 1):=λx h1 h2=>by rw[AO hs (by lia),el,fo (by lia),fm ⟨h1,h2⟩]
  have e3:∀x,x<l->K (bubble p k<|k - l) x=K p x:=λx h1=>by rw[AO hs (by lia),el,fo (by lia),fo<|by lia]
  rcases Ϟ i l with hi|hi|hi
  .rw[e3 i hi];rcases Ϟ j l with hj2|hj2|hj2
   .rw[e3 j hj2];exact u _ _ aL (by lia)
   .rw[hj2,e1];exact ha i hi
   .rw[e2 j hj2<|by lia];exact u _ _ (by lia) (by lia)
  .rw[hi,e1];rcases Ϟ j l with hj2|hj2|hj2
   .lia
   .rw[hj2,e1];exact irr o _
   .rw[e2 j hj2<|by lia];exact o.asym _ _ (hb _ (by lia)<|by lia)
  .rw[e2 i hi (by lia),e2 j (by lia)<|by lia];exact u _ _ (by lia) (by lia)
def ok_sort(o:LO lt)(h2:2<=n):ok n lt (kas_sort n) λp=>Good n p/\Up lt p n:=by
 have g:Good n<|ŋ<|List.range n:=⟨by simp,by simp⟩
 have h0:0<n:=by lia
 unfold kas_sort;refine YZ (t:=kas_count n<|ŋ<|List.range n) ?_;have key:∀(t:KasT<|Nat×Array Nat){Q Q':Nat×Array Nat->Prop},ok n lt t Q->(∀a,Q a->Q' a)->ok n lt t Q':=by
  intro t;induction t with
  |ret a=>intro Q Q' h hq;exact hq a h
  |ask i j k ih=>intro Q Q' h hq;exact⟨h.1,h.2.1,ih _ h.2.2 hq⟩
 refine key _ (Ae o h0 g) λr ⟨a1,a2,a3,a4⟩=>?_;split
 .have e:max r.1 1=r.1:=by lia
  rw[e];exact As o h0 _ _ _ a1 a2 (by lia) a4
 .have e:r.1=n:=by lia
  exact⟨a1,e▸a4⟩
def wp_of{α:Type}{cmp:Nat->Nat->(Bool->PySem.Shared->Prop)->PySem.Shared->Prop}{s:PySem.Shared}(hc:∀i j C,i<n->j<n->C (lt i j) s->cmp i j C s):∀{t:KasT α}{Q:α->Prop}{G:α->PySem.Shared->Prop},ok n lt t Q->(∀a,Q a->G a s)->t.kasWp cmp G s
 |.ret a,Q,G,h,hq=>hq a h
 |.ask i j k,Q,G,h,hq=>hc i j _ h.1 h.2.1<|wp_of hc (t:=k<|lt i j) h.2.2 hq
end
end Srt
namespace L2
open PySem PySem.Spec PyProof.Rows PySem.W
def WR:∀{a b:List Int},HT.lexLt a b=dh->HT.lexLt b a=di
 |[],[],h=>by cases h
 |[],_::_,_=>rfl
 |_::_,[],h=>by cases h
 |x::xs,y::ys,h=>by
  rw[HT.lexLt_cons]at h ⊢;by_cases e:x=y
  .subst e;rw[fm rfl]at h ⊢;exact WR h
  .rw[fo e]at h;have h:x<y:=⇑h
   rw[fo<|Ne.symm e];simp;lia
def MZ:∀{a b c:List Int},HT.lexLt b a=di->HT.lexLt c b=di->HT.lexLt c a=di
 |[],[],[],_,_=>rfl
 |[],_,_::_,_,_=>rfl
 |[],_::_,[],_,h=>by cases h
 |_::_,[],_,h,_=>by cases h
 |_::_,_::_,[],_,h=>by cases h
 |x::xs,y::ys,z::zs,h1,h2=>by
  rw[HT.lexLt_cons]at h1 h2 ⊢;by_cases e1:y=x
  .subst e1;rw[fm rfl]at h1;by_cases e2:z=y
   .subst e2;rw[fm rfl]at h2 ⊢;exact MZ h1 h2
   .rw[fo e2]at h2 ⊢;exact h2
  .rw[fo e1]at h1;have h1:¬ y<x:=⇑h1
   by_cases e2:z=y
   .subst e2;rw[fo e1];simpa using h1
   .rw[fo e2]at h2;have h2:¬ z<y:=⇑h2
    rw[fo<|by lia];simp;lia
def lex_eq:∀{a b:List Int},HT.lexLt a b=di->HT.lexLt b a=di->a=b
 |[],[],_,_=>rfl
 |[],_::_,h,_=>by cases h
 |_::_,[],_,h=>by cases h
 |x::xs,y::ys,h1,h2=>by
  rw[HT.lexLt_cons]at h1 h2;by_cases e:x=y
  .subst e;rw[fm rfl]at h1 h2;rw[lex_eq h1 h2]
  .rw[fo e]at h1;rw[fo<|Ne.symm e]at h2;have h1:¬ x<y:=⇑h1
   have h2:¬ y<x:=⇑h2
   lia
def Bn(rows:List<|List Int):Srt.LO λi j=>HT.lexLt (rows.getD i [])<|rows.getD j []:=⟨λ_ _ h=>WR h,λ_ _ _ h1 h2=>MZ h1 h2⟩
section
variable {prog:ä}{w:ü}{A:ċ}{E:Ã->Å->Prop}{s:Å}
def Bt{Q:Bool->Å->Prop}{fin:Bool}:∀{xs ys:List Ã}{ns ms:List Int}(i:Nat),ĝ xs ns->ĝ ys ms->fin=fB (xs.length+i<ys.length+i)->Q (HT.lexLt ns ms) s->KatLex prog w A dh fin Q (xs.zip ys) i s
 |_,_,_,_,i,.nil,.nil,hf,h=>by
  have:fin=di:=by rw[hf];simp
  subst this;exact h
 |_,_,_,_,i,.nil,.cons n t r,hf,h=>by
  have:fin=dh:=by rw[hf];simp
  subst this;exact h
 |_,_,_,_,i,.cons n t r,.nil,hf,h=>by
  have:fin=di:=by rw[hf];simp
  subst this;exact h
 |_,_,_,_,i,.cons n t r,.cons m u q,hf,h=>by
  refine kat_cons<|wpAny_eqBool_int ?_;rw[HT.lexLt_cons]at h;by_cases e:n=m
  .have:(n==m)=dh:=⇑e
   rw[this];rw[fm e]at h;refine kat_yes<|Bt (i+1) r q ?_ h;rw[hf,Î,Î];congr 1;simp![eq_iff_iff];lia
  .have:(n==m)=di:=⇑e
   rw[this];rw[fo e]at h;refine kat_no ?_;by_cases hi:i=0
   .have:(dh&&i==0)=dh:=by simp[hi]
    rw[this];exact oneLt_int h
   .have:(dh&&i==0)=di:=by simp[hi]
    rw[this];exact kat_one _ _<|lt_int h
abbrev RowsAt(h:ù)(vs:List Ã)(rows:List<|List Int):Prop:=rows.length=vs.length/\∀i,i<vs.length->∃p o ð n,vs.getD i Value.none=.ref p/\h.get? p=df o/\o.cls=.type "tuple"/\o.data=.seq ð n/\ĝ ð.toList (rows.getD i [])/\rows.getD i []≠[]
variable {vs:List Ã} {rows:List (List Int)}
def RowsAt.keep{h h':ù}(r:RowsAt h vs rows)(k:∀b o,h.get? b=df o->o.cls=.type "tuple"->h'.get? b=df o):RowsAt h' vs rows:=⟨r.1,λi hi=>by
  let⟨p,o,ð,n,h1,h2,h3,h4,h5⟩:=r.2 i hi
  exact⟨p,o,ð,n,h1,k p o h2 h3,h3,h4,h5⟩⟩
def RowsAt.kat:∀{h:ù}{vs:List Ã}{rows:List (List Int)},RowsAt h vs rows->∃fs,KatTups h vs fs/\fs.length=vs.length/\∀f∈fs,∃n t,f=Value.int n t
 |h,[],rows,r=>⟨[],.nil,rfl,λ_ m=>nomatch m⟩
 |h,v::vs,[],r=>by have:=r.1;cases this
 |h,v::vs,row::rows,r=>by
  let⟨fs,k1,k2,k3⟩:=RowsAt.kat (h:=h) (vs:=vs) (rows:=rows) ⟨by have:=r.1;simpa using this,λi hi=>by simpa using r.2 (i+1) ⇑hi⟩;let⟨p,o,ð,n,h1,h2,h3,h4,h5,h6⟩:=r.2 0 (by simp);have h1:v=.ref p:=h1;subst h1;have h5:ĝ ð.toList row:=h5;have h6:row≠[]:=h6;cases row with
  |nil=>exact fA rfl h6
  |cons a row =>
   generalize hl:ð.toList=l at h5;cases h5 with
   |cons _ t rr =>
    refine⟨.int a t::fs,.cons h2 h3 h4 ?_ k1,by rw[Î,Î,k2],λf hf=>?_⟩
    .rw[<-Ŝ,hl];rfl
    .rcases Æ.mp hf with e|hf
     .exact⟨_,_,e⟩
     .exact k3 f hf
def WS{a:Ç}{n:Nat}{P:PySem.Fin->Å->Prop}(ho:s.heap.get? a=df (Ď "list" vs.toArray n))(hr:RowsAt s.heap vs rows)(h64:vs.length<64)
  (h:∀(p:Array Nat),Srt.Good vs.length p->Srt.Up (λi j=>HT.lexLt (rows.getD i [])<|rows.getD j []) p vs.length->P (.done<|.ret .none) {s with heap:=sortedHeap s.heap a vs (ŋ<|p.toList.map λi=>vs.getD i Value.none)}) :
  wpAny (Û prog w) A (Builtin.«list.sort» ⟨[.ref a],[]⟩) P E s:=by
 rw[list_sort_plain];have ha:a<s.heap.objs.size:=Ô ho;refine À<|listItems_at ho rfl ?_;refine À (ce ho rfl ?_ (by rw[É,Ĵ];lia)<|Ĥ _);obtain⟨e1,ho1⟩:∃e1,(s.heap.update a<|Ė λ_=>#[]).get? a=df (Ď "list" #[] e1):=⟨_,get?_update_seq ho λ_=>#[]⟩
 refine À<|seqEpoch_at ho1 rfl ?_;refine À (wpAny_newTuple ?_<|by show vs.length<=_;rw[Ĵ];lia);refine À<|ϧ ?_<|Ĥ _;refine Ć ?_;have ac:∀b o,b≠a->s.heap.get? b=df o->(((s.heap.update a<|Ė λ_=>(#[]:Array Ã)).push<|Ď "tuple" vs.toArray 0).push<|Ď "list" #[] 0).get? b=df o:=λb o hb e =>
  Ä _ (Ä _<|(ò _ _<|Ne.symm hb).trans e)
 have ho6:(((s.heap.update a<|Ė λ_=>(#[]:Array Ã)).push<|Ď "tuple" vs.toArray 0).push<|Ď "list" #[] 0).get? a=df (Ď "list" #[] e1):=Ä _<|Ä _ ho1;have hr6:RowsAt (((s.heap.update a<|Ė λ_=>(#[]:Array Ã)).push<|Ď "tuple" vs.toArray 0).push<|Ď "list" #[] 0) vs rows:=hr.keep λb o e hc=>ac b o (λz=>by
   subst z
   rw[ho]at e
   cases e
   exact fA (Value.type.inj hc)<|by decide) e
 show wpAny (Û prog w) A _ P E {s with heap:=((s.heap.update a<|Ė λ_=>(#[]:Array Ã)).push<|Ď "tuple" vs.toArray 0).push (Ď "list" #[] 0)};dsimp only;by_cases h2:vs.toArray.size<2
 .rw[fm h2,fm h2];refine À<|Ë ?_;rw[StateT.run_pure];refine À<|Ë ?_;dsimp only;have hz:((vs.toArray.zip vs.toArray).map (·.2))=ŋ ((ŋ<|List.range vs.length).toList.map λi=>vs.getD i Value.none):=by
   rw[É]at h2
   match vs,h2 with
   |[],_=>simp
   |[v],_=>simp[List.range_succ]
  have hz':(arrOf<|SortSt.mk' general' (vs.toArray.zip vs.toArray) #[] 7 dg).map (·.2)=_:=hz;rw[hz'];refine À<|seqEpoch_at ho6 rfl ?_;refine À (ce ho6 rfl ?_ (Ĥ _)<|by rw[É,Á];simp;rw[Ĵ];lia);simp![bne_self_eq_false,ú,if_false];refine Ë (h (ŋ<|List.range vs.length) ⟨by simp,by simp⟩ λi j aL hj=>?_);rw[É]at h2;rw[show i=0 by lia,show j=0 by lia];exact Srt.irr (Bn rows) _
 .rw[fo h2,fo h2];rw[É]at h2;let⟨fs,k1,k2,k3⟩:=hr6.kat;refine À (kat_kind (T:=.type "int") k1 (by lia) (λv hv=>?_) (by decide) ?_)
  .obtain⟨n,t,rfl⟩:=k3 v hv;exact λA Q E s _ q=>Ë q
  refine À (ĺ (kat_run (vs:=vs) (ks:=vs) (Q:=λcp s'=>s'={ s with heap:=((s.heap.update a<|Ė λ_=>(#[]:Array Ã)).push<|Ď "tuple" vs.toArray 0).push (Ď "list" #[] 0) }/\∃p:Array Nat,arrOf cp=p.map (kas_item<|vs.toArray.zip vs.toArray)/\failedOf cp=dg/\Srt.Good vs.length p/\Srt.Up (λi j=>HT.lexLt (rows.getD i [])<|rows.getD j []) p vs.length)
    (G:=λp s'=>s'={ s with heap:=((s.heap.update a<|Ė λ_=>(#[]:Array Ã)).push<|Ď "tuple" vs.toArray 0).push (Ď "list" #[] 0) }/\Srt.Good vs.length p/\Srt.Up (λi j=>HT.lexLt (rows.getD i [])<|rows.getD j []) p vs.length) rfl (by lia) h64 (λp cp s' a1 a2 a3 a4=>⟨a4.1,p,a2,a3,a4.2⟩) (Srt.wp_of (n:=vs.length) (lt:=λi j=>HT.lexLt (rows.getD i [])<|rows.getD j []) (λi j C hi hj hC=>?_) (Srt.ok_sort (Bn rows)<|by lia) λp hp=>⟨rfl,hp⟩)) ?_ λ_ _ e=>e)
  .obtain⟨p,o,ð,n,b1,b2,b3,b4,b5,b6⟩:=hr6.2 i hi;let⟨p',o',its',n',c1,c2,c3,c4,c5,c6⟩:=hr6.2 j hj;unfold kas_ask;rw[b1,c1];refine kat_lt b2 b4 c2 c4<|Bt 0 b5 c5 ?_ hC;simp
  .rintro⟨⟨⟩,cp⟩ s' ⟨rfl,p,har,hf,hg,hu⟩;dsimp only;rw[kat_snds rfl har];refine À<|seqEpoch_at ho6 rfl ?_;refine À (ce ho6 rfl ?_ (Ĥ _)<|by rw[É,Á,ö,hg.sz,Ĵ];lia);rw[hf];simp![bne_self_eq_false,ú,if_false];exact Ë<|h p hg hu
def KP{l:Ç}{Q:Ã->Å->Prop}(hl:s.heap.IsList l vs.toArray)(hr:RowsAt s.heap vs rows)(h64:vs.length<64)
  (h:∀(p:Array Nat),Srt.Good vs.length p->Srt.Up (λi j=>HT.lexLt (rows.getD i [])<|rows.getD j []) p vs.length->Q (.ref<|s.heap.objs.size+1) {s with heap:=sortedAll s.heap vs (ŋ<|p.toList.map λi=>vs.getD i Value.none)}) :
  wpAny (Û prog w) A (call (.builtin "sorted") [.ref l]) Q E s:=by
 refine Calls.call_function_entry kind_sorted plain_sorted entry_sorted (args_sorted1 _) ?_;unfold Builtin.«sorted»;refine À (m:=checkCount "sorted" 1 1 _)<|Ë ?_;refine À (collect_list hl ?_<|by rw[Ĵ];lia);refine À (ϧ ?_<|by rw[Ĵ];lia);have hsz:((s.heap.push<|Ď "list" #[] 0).update s.heap.objs.size (Ė (· ++ vs.toArray))).objs.size=s.heap.objs.size+1:=by rw[Heap.size_update,size_push']
 have hoL:(((s.heap.push<|Ď "list" #[] 0).update s.heap.objs.size (Ė (· ++ vs.toArray))).push<|Ď "list" vs.toArray 0).get? (s.heap.objs.size+1)=df (Ď "list" vs.toArray 0):=by rw[<-hsz];exact Ö _ rfl
 have hr2:RowsAt (((s.heap.push<|Ď "list" #[] 0).update s.heap.objs.size (Ė (· ++ vs.toArray))).push<|Ď "list" vs.toArray 0) vs rows:=hr.keep λb o e _=>by have ϩ:=Ô e;exact Ä _<|(ò _ _<|ŗ ϩ).trans<|Ä _ e
 show wpAny _ _ _ _ _ {s with heap:=((s.heap.push<|Ď "list" #[] 0).update s.heap.objs.size (Ė (· ++ vs.toArray))).push (Ď "list" vs.toArray 0)};rw[hsz];refine À<|Ć<|Ī slot_list_sort ⟨_,hoL,rfl⟩ entry_list_sort (WS hoL hr2 h64 λp a1 a2=>⟨_,rfl,?_⟩)<|args_list_sort _;exact Ë ⟨_,rfl,h p a1 a2⟩
end
def J8{xs:List V}{us:List Ã}(r:fc xs us):∀(ps:List Nat),(∀i∈ps,i<xs.length)->fc (ps.map λi=>xs.getD i .non) (ps.map λi=>us.getD i Value.none)
 |[],_=>.nil
 |i::ps,h=>by have hi:=h i Ý;refine .cons ?_<|J8 r ps λj hj=>h j<|Ù _ hj;have hx:xs[i]?=df xs[i]:=Ï hi;let⟨u,hu,ru⟩:=r.get hx;show RelV (xs.getD i .non) (us.getD i Value.none);rw[ì,ì,hx,hu];exact ru
def Kq{X:Cx}:dB X (.builtin "sorted") (λxs H Q=>∃p vs,∃rows:List<|List Int,xs=[.ref p]/\eY X.K H p vs/\rows.length=vs.length/\(∀i,i<rows.length->∃a,vs[i]?=df (.ref a)/\eZ X.K H a ((rows.getD i []).map V.int)/\rows.getD i []≠[])/\vs.length<64/\
    ∀l (q:Array Nat),H l=dg->Srt.Good vs.length q->Srt.Up (λi j=>HT.lexLt (rows.getD i [])<|rows.getD j []) q vs.length->Q (.ref l) (upd H l<|.lst<|q.toList.map λi=>vs.getD i .non)):=by
 k_put;let⟨p,vs,rows,rfl,hq,hl,hr,h64,q⟩:=h;let⟨u,rfl,rx⟩:=Z9 r;cases rx;let⟨ð,rv,pl,hz⟩:=I.list hq;have hlen:=rv.length;refine KP (rows:=rows) pl.isList ⟨by rw[hl,hlen],λi hi=>?_⟩ (by lia) λpm g up=>?_
 .obtain⟨a,h1,h2,h3⟩:=hr i (by lia);let⟨v,hv,rr⟩:=rv.get h1;obtain rfl:v=Value.ref a:=rr;let⟨tt,r2,⟨o,e1,e2,n,e3⟩,_⟩:=I.tuple h2;exact⟨a,o,tt.toArray,n,by rw[ì,hv];rfl,e1,e2,e3,ZT r2,h3⟩
 .obtain⟨n,he⟩:=sortedAll_at s.heap ð<|ŋ<|pm.toList.map λi=>ð.getD i Value.none;rw[<-hlen]at g up;have hmem:∀i∈pm.toList,i<vs.length:=λi hi=>Ů.mp<|g.pm.mem_iff.mp hi;refine⟨.ref<|s.heap.objs.size+1,_,I.laid (a:=s.heap.objs.size+1) (o:=.lst<|pm.toList.map λi=>vs.getD i .non) (t':=s.toks) (λb o e=>sortedAll_old e) (ő _) ?_,rfl,q _ pm (I.hok.fresh<|ő _) g up⟩;refine⟨by rw[Á,ö,g.sz];exact hz,_,n,J8 rv _ hmem,he⟩
end L2
namespace Snd
open PySem L2
variable {i:Inf}{X:Cx}{Z:O.Fs}
def K9{H:Hp}:∀{kvs:List (O.Val×O.Val)}{ps:List (Key×V)}{ns:List Int},RKs i.K H kvs ps->O.keysOf kvs=df ns->ps.map (·.1)=ns.map Sum.inl
 |_,_,ns,.nil,e=>by have e:df []=df ns:=e;cases e;rfl
 |(k,v)::kvs,_,ns,.cons (c:=c) hk _ t,e=>by
  have e:O.dA (k::kvs.map (·.1))=df ns:=e;cases k with
  |int j =>
   have e:(O.dA (kvs.map (·.1))).map (j :: ·)=df ns:=e;let⟨ms,z,rfl⟩:=á.mp e;have ih:=K9 (ns:=ms) t z;cases c with
   |inl l =>have hk:j=l:=hk;subst hk;rw[È,È,ih]
   |inr _=>exact(show False from hk).elim
  |_=>cases e
def YW:∀(ns ms:List Int),O.d7 ns ms=HT.lexLt ns ms:=X5
def JH:∀{a b:List (List Int)},a.Perm b->a.Pairwise (λx y=>O.d7 y x=di)->b.Pairwise (λx y=>O.d7 y x=di)->a=b
 |[],[],_,_,_=>rfl
 |[],_::_,h,_,_=>by have:=h.length_eq;cases this
 |_::_,[],h,_,_=>by have:=h.length_eq;cases this
 |x::xs,y::ys,hp,ha,hb=>by
  rw[cI]at ha hb;have e:x=y:=by
   by_cases e:x=y
   .exact e
   .have h1:x∈ys:=(Æ.mp<|hp.mem_iff.mp Ý).resolve_left e;have h2:y∈xs:=(Æ.mp<|hp.mem_iff.mpr Ý).resolve_left<|Ne.symm e;exact lex_eq (by rw[<-YW];exact hb.1 x h1) (by rw[<-YW];exact ha.1 y h2)
  subst e;rw[JH ((List.perm_cons x).mp hp) ha.2 hb.2]
def BS(rows:List<|List Int):(O.sortR rows).Pairwise λx y=>O.d7 y x=di:=by
 have h:=ι (le:=λa b:List Int=>!O.d7 b a) (λa b c h1 h2=>by
   simp only[ϙ,YW]at *
   exact MZ h1 h2) (λa b=>by
   cases z:O.d7 b a with
   |false=>simp[z]
   |true =>
     rw[YW]at z
     have:=WR z
     simp[YW,this]) rows
 exact h.imp λh=>⇑h
def Av{rows:List (List Int)}{q:Array Nat}(g:Srt.Good rows.length q)(u:Srt.Up (λi j=>HT.lexLt (rows.getD i [])<|rows.getD j []) q rows.length):O.sortR rows=q.toList.map λi=>rows.getD i []:=by
 have e:(List.range rows.length).map (λi=>rows.getD i [])=rows:=by
  apply List.ext_getElem
  .simp
  .intro k h1 h2;simp at h1;simp[h1]
 refine JH ((Ō rows _).trans ?_) (BS rows) ?_
 .have:=g.pm.symm.map λi=>rows.getD i [];rw[e]at this;exact this
 .rw[List.pairwise_iff_getElem];intro i j hi hj aL;rw[Á,ö]at hi hj;have:=u i j (by lia) (by rw[<-g.sz];exact hj);rw[List.getElem_map,List.getElem_map,YW];have ki:Srt.K q i=q.toList[i]'⇑hi:=by unfold Srt.K;simp[ao,hi]
  have kj:Srt.K q j=q.toList[j]'⇑hj:=by unfold Srt.K;simp[ao,hj]
  rw[ki,kj]at this;exact this
def RVs.perm{H:Hp}{vs:List O.Val}{xs:List V}(r:RVs i.K H vs xs):∀(ps:List Nat),(∀k∈ps,k<vs.length)->RVs i.K H (ps.map λk=>vs.getD k .non) (ps.map λk=>xs.getD k .non)
 |[],_=>.nil
 |k::ps,h=>by have hk:=h k Ý;let⟨x,h1,h2⟩:=r.get<|Ï hk;refine .cons ?_<|RVs.perm r ps λj hj=>h j<|Ù _ hj;show RV i.K H (vs.getD k .non) (xs.getD k .non);rw[ì,ì,Ï hk,h1];exact h2
def JW:∀{ys:List O.Val}{ns:List Int},O.dA ys=df ns->ys=ns.map .int
 |[],_,e=>by cases e;rfl
 |y::ys,ns,e=>by
  cases y with
  |int j =>let⟨ms,z,rfl⟩:=á.mp (show(O.dA ys).map (j :: ·)=df ns from e);rw[È,<-JW z]
  |_=>cases e
def W7{H:Hp}:∀{xs:List O.Val}{us:List V}{rows:List (List Int)},RVs i.K H xs us->O.rowsOf xs=df rows->rows.length=us.length/\(∀n,n<rows.length->∃p,us[n]?=df (.ref p)/\eZ i.K H p ((rows.getD n []).map V.int))/\xs=rows.map λr=>.tup (r.map .int)
 |_,_,rows,.nil,e=>by have e:df []=df rows:=e;cases e;exact⟨rfl,λn h=>fA h<|am _,rfl⟩
 |v::xs,_,rows,.cons r t,e=>by
  cases v with
  |tup ys =>
   let⟨ns,z1,e⟩:=î.mp (show(O.dA ys).bind (λns=>(O.rowsOf xs).map (ns :: ·))=df rows from e);let⟨rs,z2,rfl⟩:=á.mp e;let⟨h1,h2,h3⟩:=W7 t z2;cases r with
   |tup hp hr =>
    have:=ZN z1 hr;subst this;refine⟨by rw[Î,Î,h1],λn hn=>?_,?_⟩
    .cases n with
     |zero=>exact⟨_,rfl,Zl hp⟩
     |succ n=>exact h2 n ⇑hn
    .rw[È,<-h3];have:ys=ns.map .int:=JW z1;rw[this]
  |_=>cases e
def UF:Uw i .sorted (λxs H Q=>(∃p,∃ns:List Int,xs=[.ref p]/\eY i.K H p (ns.map V.int)/\ns.length<64/\∀l,H l=dg->Q (.ref l) (upd H l<|.lst<|(L2.sortI ns).map V.int))\/
    (∃p kvs,∃ns:List Int,xs=[.ref p]/\Rd H p (.dK kvs)/\kvs.map (·.1)=ns.map Sum.inl/\ns.length<64/\∀l,H l=dg->Q (.ref l) (upd H l<|.lst<|(L2.sortI ns).map V.int))\/
    (∃p vs,∃rows:List<|List Int,xs=[.ref p]/\eY i.K H p vs/\rows.length=vs.length/\(∀k,k<rows.length->∃a,vs[k]?=df (.ref a)/\eZ i.K H a ((rows.getD k []).map V.int)/\rows.getD k []≠[])/\vs.length<64/\
      ∀l (q:Array Nat),H l=dg->Srt.Good vs.length q->Srt.Up (λi j=>HT.lexLt (rows.getD i [])<|rows.getD j []) q vs.length->Q (.ref l) (upd H l<|.lst<|q.toList.map λi=>vs.getD i .non))):=by
 intro vs G H xs Q Qm g r w c;let⟨v,rfl,w⟩:=Wz w;let⟨x,rfl,rx⟩:=r.inv1;have key:∀(ns:List Int),(if ns.length<64 then O.Rs.new (.lst<|(O.sortI ns).map .int)else .no).wp G Qm->ns.length<64/\∀l,H l=dg->Q (.ref l) (upd H l<|.lst<|(L2.sortI ns).map V.int):=λns w=>by
  split at w
  .rename_i h64;exact⟨h64,Z6 g (Wu w) c λp hp=>⟨_,dm,RVs.ints _⟩⟩
  .exact(Zv w).elim
 cases v with
 |ref a =>
  cases rx.ref_inv
  replace w:(O.biSorted G<|.ref a).wp G Qm:=w
  unfold O.biSorted O.sortAny at w;dsimp only at w;have rno:O.dF (G a)=dg->(O.biSortedR G<|.ref a).wp G Qm->False:=λe w=>by unfold O.biSortedR O.rowsAt at w;simp![e,Option.bind_none]at w;exact Zv w
  cases z:G a with
  |none=>rw[z]at w;exact(rno (by rw[z];rfl) w).elim
  |some o =>
   rw[z]at w;cases o with
   |lst ys =>
    cases z2:O.dA ys with
    |none =>
     simp![z2]at w;unfold O.biSortedR O.rowsAt at w;simp![z,O.lsOf_lst,ï]at w;cases z3:O.rowsOf ys with
     |none=>simp![z3]at w;exact(Zv w).elim
     |some rows =>
      simp![z3]at w;let⟨us,h1,h2⟩:=g a _ z;let⟨r1,r2,r3⟩:=W7 h2 z3;split at w
      .rename_i hc;have Ź:∀k,k<rows.length->rows.getD k []≠[]:=λk hk=>by
        have:=Ă.mp hc.2 rows[k]<|Š hk;rw[ì,Ï hk];intro e;have e:rows[k]=[]:=e;rw[e]at this;cases this
       refine .inr (.inr ⟨a,us,rows,rfl,eY.of h1,r1,λk hk=>?_,by rw[<-r1];exact hc.1,λl q hl gq uq=>?_⟩)
       .obtain⟨p,a1,a2⟩:=r2 k hk;exact⟨p,a1,a2,Ź k hk⟩
       .rw[<-r1]at gq uq;have e:=Av gq uq;rw[e]at w;refine Z6 g (Wu w) c (λp hp=>⟨_,dm,?_⟩) l hl;have hm:∀k∈q.toList,k<ys.length:=λk hk=>by
         have:=Ů.mp<|gq.pm.mem_iff.mp hk;rw[r3,Á];exact this
        have:=(h2.perm q.toList hm).keep<|dN.new (o:=.lst<|q.toList.map λi=>us.getD i .non) hp;have ee:(q.toList.map λk=>ys.getD k .non)=(q.toList.map λi=>rows.getD i []).map λr=>.tup<|r.map .int:=by rw[ą];refine ō λk hk=>?_;have hk2:k<rows.length:=Ů.mp<|gq.pm.mem_iff.mp hk;simp![Ε,r3];rw[ì,ì,ã,Ï hk2];rfl
        rw[ee]at this;exact this
      .exact(Zv w).elim
    |some ns =>simp![z2]at w;let⟨us,h1,h2⟩:=g a _ z;have:=ZN z2 h2;subst this;exact .inl ⟨a,ns,rfl,eY.of h1,key ns w⟩
   |dct kvs =>
    cases z2:O.keysOf kvs with
    |none=>simp![z2]at w;exact(rno (by rw[z];rfl) w).elim
    |some ns =>simp![z2]at w;let⟨ps,h1,h2⟩:=g a _ z;exact .inr<|.inl ⟨a,ps,ns,rfl,.inl h1,K9 h2 z2,key ns w⟩
   |_=>exact(rno (by rw[z];rfl) w).elim
 |scr ns =>
  cases rx with
  |scr h=>exact .inl ⟨_,ns,rfl,Ye h,key ns w⟩
 |_=>exact(Zv w).elim
variable {i:Inf}{X:Cx}
variable {p:Int×Int}
def NC{v:O.Val}(h:O.pairI v=df p):v=.tup [.int p.1,.int p.2]:=by
 unfold O.pairI at h;split at h
 .cases h;rfl
 .cases h
variable {H:Hp} {x:V}
def Cs{v:O.Val}(r:RV i.K H v x)(h:O.pairI v=df p):∃a,x=.ref a/\eZ i.K H a [.int p.1,.int p.2]:=by
 cases NC h;cases r with
 |tup hp hr =>
  cases hr with
  |cons r1 t=>cases t with
   |cons r2 t =>cases t;cases r1.int_inv;cases r2.int_inv;exact⟨_,rfl,Zl hp⟩
def UD:∀{ns:List Int},ns≠[]->O.maxI ns∈ns/\∀a∈ns,a<=O.maxI ns
 |[],h=>fA rfl h
 |x::r,_=>by
  show r.foldl (λa b=>if b > a then b else a) x∈x::r/\∀a∈x::r,a<=r.foldl (λa b=>if b > a then b else a) x;induction r generalizing x with
  |nil=>simp
  |cons y r ih =>
   rw[ĭ];let⟨h1,h2⟩:=ih (if y > x then y else x) (by simp);refine⟨?_,λa ha=>?_⟩
   .rcases Æ.mp h1 with h1|h1
    .rw[h1];split<;>simp
    .exact Ù _<|Ù _ h1
   .have h3:=h2 _ Ý;have h4:x<=(if y > x then y else x)/\y<=(if y > x then y else x):=by split<;>lia
    rcases Æ.mp ha with rfl|ha
    .exact Int.le_trans h4.1 h3
    .rcases Æ.mp ha with rfl|ha
     .exact Int.le_trans h4.2 h3
     .exact h2 a<|Ù _ ha
def BF{G:O.Hs}{v:O.Val}{ns:List Int}(g:RH i G H)(r:RV i.K H v x)(e:O.intsAt G v=df ns):∃a,x=.ref a/\eY i.K H a (ns.map V.int):=by
 cases v with
 |ref a =>let⟨ys,e1,e2⟩:=î.mp (show(O.dF<|G a).bind O.dA=df ns from e);cases r.ref_inv;let⟨us,h1,h2⟩:=Zy g e1;cases ZN e2 h2;exact⟨a,rfl,h1⟩
 |_=>cases e
def CC:Uw i .maxL λxs H Q=>(∃p k j,xs=[.ref p]/\eZ i.K H p [.int k,.int j]/\Q (.int<|if j > k then j else k) H)\/∃p,∃ns:List Int,xs=[.ref p]/\eY i.K H p (ns.map V.int)/\ns≠[]/\∀M,M∈ns->(∀a∈ns,a<=M)->Q (.int M) H:=by
 intro vs G H xs Q Qm g r w c;let⟨v,rfl,w2⟩:=Wz w;clear w;have w:=w2;clear w2;let⟨x,rfl,rx⟩:=r.inv1;unfold O.biMaxL at w;cases z:O.pairI v with
 |some p =>rw[z]at w;let⟨a,rfl,hs⟩:=Cs rx z;exact .inl ⟨a,p.1,p.2,rfl,hs,c _ G H _ (dN.refl H) g (.int _)<|ZB w⟩
 |none =>
  rw[z]at w;dsimp only at w;cases z2:O.intsAt G v with
  |none=>rw[z2]at w;exact(Zv w).elim
  |some ns =>
   rw[z2]at w;cases ns with
   |nil=>exact(Zv w).elim
   |cons n ns =>let⟨a,rfl,hs⟩:=BF g rx z2;refine .inr ⟨a,n::ns,rfl,hs,by simp,λM h1 h2=>?_⟩;have h3:=UD (ns:=n::ns) (by simp);obtain rfl:M=O.maxI (n::ns):=Int.le_antisymm (h3.2 _ h1)<|h2 _ h3.1;exact c _ G H _ (dN.refl H) g (.int _)<|ZB w
end Snd
namespace L2
open PySem PySem.Spec PyProof.Rows
variable {X:Cx}
def N1:∀(xs:List V) (us:List Ã),xs.length=us.length->(∀(j:Nat) (u:Ã),us[j]?=df u->∃x,xs[j]?=df x/\RelV x u)->fc xs us
 |[],[],_,_=>.nil
 |x::xs,u::us,hl,h=>by let⟨y,e,r⟩:=h 0 u rfl;cases e;exact .cons r (N1 xs us ⇑hl λj v hv=>h (j+1) v hv)
 |[],_::_,hl,_=>by cases hl
 |_::_,[],hl,_=>by cases hl
abbrev tLR(te:TE):TE:=λσ H Q=>EU te DA σ H λvs H1=>∃n:Nat,vs=[.int n]/\n<=1000/\∀l,H1 l=dg->Q (.ref l) (upd H1 l<|.lst<|(List.range n).map λk=>V.int (k:Nat))
def Ks{e:Expr}{te:TE}{p p2 ç pos2:Pos}(hc:X.calm=dh)(hg:Gl X "list")(hm:X.mg "list" = dg)(hg2:Gl X "range")(hm2:X.mg "range" = dg)(he:PE X e te)(hs:Ñ [e] X.env=[(di,eval e X.env)]) :
  PE X (.Call (.Name "list" p) [.Call (.Name "range" p2) [e] [] pos2] [] ç) (tLR te):=by
 k_upd;refine Ğ (YF (u:=.type "list") I hg hm (by kernel_rfl) ?_ (by decide)<|by decide);refine PyProof.Rows.callWith_type1 (T:="list") ?_ rfl rfl;show wpAny _ _ (spliced<|(di,eval (.Call (.Name "range" p2) [e] [] pos2) X.env)::[]) _ _ _;refine Calls.spliced_cons ?_;refine Ğ (YF I hg2 hm2 boot_range ?_ (by decide)<|by decide);refine PyProof.Rows.callWith_type1 (thn ((Yd he eW hs) pos2 Â s σ H _ I h) λus s1 ⟨vs,H1,I1,r1,q1⟩=>?_) hs rfl;let⟨n,e1,hn,q⟩:=q1;subst e1;let⟨u,rfl,t,rfl⟩:=Z9 r1;refine call_range_1<|Calls.spliced_nil ?_;have k0:∀b o,s1.heap.get? b=df o->(s1.heap.push {cls:=.type "range",data:=.fields #[.int 0 s1.toks,.int n t,.int 1<|s1.toks+1]}).get? b=df o:=λb o e=>Ä _ e;refine call_list_range (n:=n) (I.ok.hd hc) (Ö _ rfl) (small_one (by decide) (by decide) (by lia)<|by lia) (by rw[rangeSize_one];split<;>lia) (by lia) λh' tk ļ c' hk hS hacc=>?_;have hsz:s1.heap.objs.size<=(s1.heap.push {cls:=.type "range",data:=.fields #[.int 0 s1.toks,.int n t,.int 1<|s1.toks+1]}).objs.size:=by rw[ħ];lia
 refine⟨.ref _,upd H1 _<|.lst<|(List.range n).map λk=>V.int (k:Nat),I1.laid (t':=tk) (λb o e=>hk b o<|k0 b o e) hsz ?_,rfl,q _<|I1.hok.fresh hsz⟩;refine⟨by rw[Á,Ą];unfold Ø;lia,ļ.toList,c',?_,by simpa[Ď]using hS⟩;let⟨a1,a2⟩:=hacc;refine N1 _ _ (by rw[Á,Ą,ö,a1]) λj u hu=>?_;have hj:j<n:=by have:=(Ò.mp hu).1;rw[ö,a1]at this;exact this
 let⟨t',ht⟩:=a2 j u ⇑hu;refine⟨.int j,by rw[ã,ca hj];rfl,t',?_⟩;rw[ht];congr 1;lia
end L2
namespace Snd
open PySem L2
variable {i:Inf}{X:Cx}{Z:O.Fs}
def RVs.nats{K:Frag}{H:Hp}:∀ns:List Nat,RVs K H (ns.map λn=>O.Val.int (n:Nat)) (ns.map λn=>V.int (n:Nat))
 |[]=>.nil
 |n::ns=>.cons (.int n)<|RVs.nats ns
def Ml{e:Expr}{m:O.E}{p p2 ç pos2:Pos}(hc:X.calm=dh)(he:PE X e<|tE X i Z m)(hg:Gl X "list")(hm:X.mg "list" = dg)(hg2:Gl X "range")(hm2:X.mg "range" = dg)(ű:Ñ [e] X.env=[(di,eval e X.env)]) :
  PE X (.Call (.Name "list" p) [.Call (.Name "range" p2) [e] [] pos2] [] ç) (tE X i Z<|.bi .listRange<|.cons m .nil):=by
 refine(Ks hc hg hm hg2 hm2 he ű).imp λσ H Q ⟨env,G,Qm,Em,p,w,c⟩=>?_;change tE X i Z m σ H _;refine one p w λv G1 H1 x k1 p1 r q=>?_
 replace q:(O.rangeL v).wp G1 Qm:=q
 cases v with
 |int k =>
  cases r.int_inv;unfold O.rangeL at q;dsimp only at q;split at q
  .rename_i hk;refine⟨k.toNat,by rw[Int.toNat_of_nonneg hk.1],by lia,?_⟩;exact Z6 p1.hp (Wu q) (c.go k1) λl hl=>⟨_,dm,RVs.nats _⟩
  .exact(Zv q).elim
 |_=>exact(Zv q).elim
section
variable {K:Frag}{H H':Hp}
structure eU(H H':Hp):Prop where
 t:∀a xs,H a=df (.tup xs)->H' a=df (.tup xs)
 f:∀a o xs,H a=df (.frz o<|.lst xs)->H' a=df (.frz o<|.lst xs)
mutual
theorem RV.keepL(k:eU H H'):∀{v:O.Val}{x:V},RV K H v x->RV K H' v x
 |_,_,.non=>.non
 |_,_,.bl b=>.bl b
 |_,_,.int i=>.int i
 |_,_,.str s=>.str s
 |_,_,.tup (.inl e) r=>.tup (.inl<|k.t _ _ e)<|RVs.keepL k r
 |_,_,.tup (.inr e) r=>.tup (.inr e)<|RVs.keepL k r
 |_,_,.ref a=>.ref a
 |_,_,.scr (.inl ⟨o,e⟩)=>.scr<|.inl ⟨o,k.f _ _ _ e⟩
 |_,_,.scr (.inr e)=>.scr<|.inr e
 |_,_,.key e=>.key<|k.t _ _ e
theorem RVs.keepL(k:eU H H'):∀{vs:List O.Val}{xs:List V},RVs K H vs xs->RVs K H' vs xs
 |_,_,.nil=>.nil
 |_,_,.cons r t=>.cons (RV.keepL k r)<|RVs.keepL k t
end
def RKs.keepL(k:eU H H'):∀{kvs:List (O.Val×O.Val)}{ps:List (Key×V)},RKs K H kvs ps->RKs K H' kvs ps
 |_,_,.nil=>.nil
 |_,_,.cons a r t=>.cons a (r.keepL k)<|RKs.keepL k t
def RTs.keepL(k:eU H H'):∀{kvs:List (O.Val×O.Val)}{ps:List (List Key×V)},RTs K H kvs ps->RTs K H' kvs ps
 |_,_,.nil=>.nil
 |_,_,.cons r t=>.cons (r.keepL k)<|RTs.keepL k t
def RFs.keepL(k:eU H H'):∀{fs:List (String×O.Val)}{ps:List (Str×V)},RFs K H fs ps->RFs K H' fs ps
 |_,_,.nil=>.nil
 |_,_,.cons r t=>.cons (r.keepL k)<|RFs.keepL k t
def REn.keepL{env:O.Env}{σ:St}(r:REn K H env σ)(k:eU H H'):REn K H' env σ:=⟨r.len,λi v e=>by
  let⟨x,h1,h2⟩:=r.get i v e
  exact⟨x,h1,h2.keepL k⟩⟩
variable {a:Ç}
def RO.moveL{o:O.Ob}(r:RO i H a o)(k:eU H H')(e:H' a=H a):RO i H' a o:=by
 cases o with
 |lst xs=>let⟨vs,q,r⟩:=r;exact⟨vs,e.trans q,r.keepL k⟩
 |dct kvs=>let⟨ps,q,r⟩:=r;exact⟨ps,e.trans q,r.keepL k⟩
 |ins C fs=>let⟨c,dx,ps,h0,h,q,r⟩:=r;exact⟨c,dx,ps,h0,h,e.trans q,r.keepL k⟩
 |exc C=>let⟨c,h,q⟩:=r;exact⟨c,h,e.trans q⟩
 |frz kvs=>let⟨o,ps,q,r⟩:=r;exact⟨o,ps,e.trans q,r.keepL k⟩
 |dtp kvs=>let⟨ps,q,r⟩:=r;exact⟨ps,e.trans q,r.keepL k⟩
variable {o:Obj} {ps:List (Key×V)}
def Yq(e:H a=df (.frz o<|.dK ps)):eU H (upd H a<|.dK ps) :=
 ⟨λb xs q=>by rw[dj<|by rintro rfl;rw[e]at q;cases q];exact q,λb p xs q=>by rw[dj<|by rintro rfl;rw[e]at q;cases q];exact q⟩
def RH.thaw{G:O.Hs}{kvs:List (O.Val×O.Val)}(g:RH i G H)(e:H a=df (.frz o<|.dK ps))(r:RKs i.K H kvs ps):RH i (O.upd G a<|.dct kvs)<|upd H a<|.dK ps:=λb p q=>by
 by_cases hb:b=a
 .subst hb;rw[O.dm]at q;cases q;exact⟨ps,dm,r.keepL<|Yq e⟩
 .rw[O.dj hb]at q;exact(g b p q).moveL (Yq e)<|dj hb
def RKs.len:∀{kvs:List (O.Val×O.Val)}{ps:List (Key×V)},RKs K H kvs ps->kvs.length=ps.length
 |_,_,.nil=>rfl
 |_,_,.cons _ _ t=>by rw[Î,Î,RKs.len t]
def RKs.at:∀{kvs:List (O.Val×O.Val)}{ps:List (Key×V)}{n:Nat}{c:Key}{x:V},RKs K H kvs ps->ps[n]?=df (c,x)->∃k v,kvs[n]?=df (k,v)/\X0 k c/\RV K H v x
 |_,_,n,_,_,.nil,e=>by simp at e
 |_,_,0,_,_,.cons hk r _,e=>by simp at e;let⟨rfl,rfl⟩:=e;exact⟨_,_,rfl,hk,r⟩
 |_,_,n+1,_,_,.cons _ _ t,e=>by let⟨k,v,h1,h2⟩:=RKs.at (n:=n) t ⇑e;exact⟨k,v,⇑h1,h2⟩
def Bw{k:O.Val}{c:Key}(h:X0 k c):RV K H k<|kV c:=by
 cases k with
 |int j=>cases c with
  |inl l=>have h:j=l:=h;subst h;exact .int _
  |inr _=>exact(show False from h).elim
 |str s=>cases c with
  |inl _=>exact(show False from h).elim
  |inr t=>have h:t=fE s:=h;subst h;exact .str _
 |_=>exact(show False from h).elim
end
variable {H0:Hp} {a:Ç} {o:Obj} {ps:List (Key×V)} {kvs:List (O.Val×O.Val)}
def Ax(e0:H0 a=df (.frz o<|.dK ps))(r0:RKs i.K H0 kvs ps):ItOk i H0 (Iti a o ps) (λg=>g a=df (.frz kvs)) (kvs.map<|O.itemOf di) where
 go:=λn G H v k g e hv=>by
  have e1:=k.f _ _ _ e0;rw[ã]at hv;let⟨p,hp,rfl⟩:=á.mp hv;have hn:n<ps.length:=by rw[<-r0.len];exact(Ò.mp hp).1
  refine⟨⟨e1,hn⟩,λx H' ⟨q,c,y,ex,hq,hy,eH⟩=>?_⟩;subst ex eH;let⟨k2,v2,h1,h2,h3⟩:=(r0.keep k).at hy;rw[hp]at h1;cases h1;have kk:dN H<|upd H q<|.tup [kV c,y]:=dN.new hq;exact⟨kk,X9 g hq,.tup (.inl dm)<|.cons (Bw h2)<|.cons (h3.keep kk) .nil⟩
 stop:=λn G H k g e hn=>⟨k.f _ _ _ e0,by rw[<-r0.len];simpa using hn⟩
def NW(e0:H0 a=df (.frz o<|.dK ps))(r0:RKs i.K H0 kvs ps):ItOk i H0 (Itk a o ps) (λg=>g a=df (.frz kvs)) (kvs.map<|O.itemOf dh) where
 go:=λn G H v k g e hv=>by
  have e1:=k.f _ _ _ e0;rw[ã]at hv;let⟨p,hp,rfl⟩:=á.mp hv;have hn:n<ps.length:=by rw[<-r0.len];exact(Ò.mp hp).1
  refine⟨⟨e1,hn⟩,λx H' ⟨eH,c,y,hy,ex⟩=>?_⟩;subst ex eH;let⟨k2,v2,h1,h2,h3⟩:=(r0.keep k).at hy;rw[hp]at h1;cases h1;exact⟨dN.refl _,g,Bw h2⟩
 stop:=λn G H k g e hn=>⟨k.f _ _ _ e0,by rw[<-r0.len];simpa using hn⟩
variable {tg:Expr} {d:Expr} {m:O.E}
def Dr(hd:PE X d<|tE X i Z m):PI X tg d<|tIt X i Z<|.items m:=(Oo hd).imp λσ H R ⟨env,G,QI,Em,p,w,c⟩=>by
 refine one p w λv G1 H1 x k1 p1 rx w'=>?_;let⟨a,e1,w''⟩:=dr w';let⟨kvs,e2,w1⟩:=dr w'';clear w' w'';have ev:v=.ref a:=by
  cases v with
  |ref b=>cases e1;rfl
  |_=>cases e1
 subst ev;cases rx.ref_inv;have eG:G1 a=df (.dct kvs):=by
  cases z:G1 a with
  |none=>rw[z]at e2;cases e2
  |some o=>rw[z]at e2;cases o<;>first|(cases e2;rfl)|cases e2
 let⟨ps,ha,hr⟩:=p1.hp a _ eG;refine⟨a,ps,rfl,ha,λo h0=>?_⟩;have k2:dN H1<|upd H1 a<|.frz o<|.dK ps:=dN.put (λxs z=>by rw[ha]at z;cases z) λp u z=>by rw[ha]at z;cases z
 have g2:RH i (O.upd G1 a<|.frz kvs)<|upd H1 a<|.frz o<|.dK ps:=p1.hp.put k2 ⟨o,ps,dm,hr.keep k2⟩;exact c _ _ _ _ _ (k1.trans k2) g2 (NW dm<|hr.keep k2) w1
variable {ç:Pos} {body:List ġ} {q:O.Pt} {mb:O.Ss}
def NL{iter:Expr}{kb:Bool}{J:Ç->Obj->List (Key×V)->It}(hp:ϒ (Û X.prog X.w) X.A X.env X.xe)(hc:X.calm=dh)(hi:PI X tg iter<|Hb X J<|tE X i Z m)(hg:PG X tg<|gPt i q)(hb:PSs X body<|tBl X i Z mb)
  (hs:∀x,Đ iter X.env x=pure x) (hJ:∀(H0:Hp) (a:Ç) (o:Obj) (ps:List<|Key×V) (kvs:List<|O.Val×O.Val),H0 a=df (.frz o<|.dK ps)->RKs i.K H0 kvs ps->ItOk i H0 (J a o ps) (λg=>g a=df (.frz kvs)) (kvs.map<|O.itemOf kb)) :
  PS X (.For tg iter body [] ç) (tSt X i Z<|.forI kb q m mb):=by
 intro Â s σ H D I ⟨env,G,N,R,B,C,Xe,p,w,c⟩;refine N5 (U8 hp hc hi hg hb hs) Â s σ H D I ?_;refine one p.pre w λv G1 H1 x k1 p1 rx w'=>?_;let⟨a,e1,w''⟩:=dr w';let⟨kvs,e2,w1⟩:=dr w'';clear w' w'';have ev:v=.ref a:=by
  cases v with
  |ref b=>cases e1;rfl
  |_=>cases e1
 subst ev;cases rx.ref_inv;have eG:G1 a=df (.dct kvs):=by
  cases z:G1 a with
  |none=>rw[z]at e2;cases e2
  |some o=>rw[z]at e2;cases o<;>first|(cases e2;rfl)|cases e2
 let⟨ps,ha,hr⟩:=p1.hp a _ eG;refine⟨a,ps,rfl,ha,λo h0=>?_⟩;have k2:dN H1<|upd H1 a<|.frz o<|.dK ps:=dN.put (λxs z=>by rw[ha]at z;cases z) λp u z=>by rw[ha]at z;cases z
 have g2:RH i (O.upd G1 a<|.frz kvs)<|upd H1 a<|.frz o<|.dK ps:=p1.hp.put k2 ⟨o,ps,dm,hr.keep k2⟩;have it:=hJ _ a o ps kvs dm<|hr.keep k2;have ϸ:∀{H':Hp}{G':O.Hs},dN (upd H1 a<|.frz o<|.dK ps) H'->RH i G' H'->H' a=df (.frz o<|.dK ps)/\RKs i.K H' kvs ps/\dN H (upd H' a<|.dK ps):=λ{H' G'} k g=>by
  have e:=k.f a o _ dm;refine⟨e,(hr.keep k2).keep k,λb xs z=>?_,λb o' u z=>?_⟩
  .have z1:=k1.t b xs z;have hb:b≠a:=by rintro rfl;rw[ha]at z1;cases z1
   rw[dj hb];exact k.t b xs (by rw[dj hb];exact z1)
  .have z1:=k1.f b o' u z;have hb:b≠a:=by rintro rfl;rw[ha]at z1;cases z1
   rw[dj hb];exact k.f b o' u (by rw[dj hb];exact z1)
 have fin:∀Ň Ŏ G' H',dN (upd H1 a<|.frz o<|.dK ps) H'->RH i G' H'->REn i.K H' Ň Ŏ->(G' a=df (.frz kvs)/\N Ň (O.upd G' a<|.dct kvs))->(D.thaw X).nx Ŏ H':=λŇ Ŏ G' H' k g en ⟨_,n⟩=>by let⟨b1,b2,b3⟩:=ϸ k g;exact⟨a,o,ps,b1,h0,c.nx Ň Ŏ _ _ b3 (g.thaw b1 b2) (en.keepL<|Yq b1) n⟩
 have ret:∀v G' H' x,dN (upd H1 a<|.frz o<|.dK ps) H'->RH i G' H'->RV i.K H' v x->(G' a=df (.frz kvs)/\R v (O.upd G' a<|.dct kvs))->(D.thaw X).rt x H':=λv G' H' x k g r ⟨_,n⟩=>by let⟨b1,b2,b3⟩:=ϸ k g;exact⟨a,o,ps,b1,h0,c.rt v _ _ x b3 (g.thaw b1 b2) (r.keepL<|Yq b1) n⟩
 have xo:∀Hq,XW X (XKS i Hq λ_ _ _=>False):=λHq=>λ_ _ _ _ _ _ _ _ _ _ ⟨_,_,_,_,_,_,_,_,z⟩=>z.elim;generalize hxs:kvs.map (O.itemOf kb)=xs at w1 it;generalize ű:(λg:O.Hs=>g a=df (.frz kvs))=st at w1 it;refine⟨λn m Ŏ H'=>n+m=xs.length/\∃Ň G',dN (upd H1 a<|.frz o<|.dK ps) H'/\RH i G' H'/\REn i.K H' Ň Ŏ/\O.wFor st (λv e g K M=>O.go (O.bind q g v e) λe2=>O.wSs Z mb e2 g K (λu g2=>g2 a=df (.frz kvs)/\R u (O.upd g2 a<|.dct kvs)) M K λ_ _ _=>False) (λe g=>g a=df (.frz kvs)/\N e (O.upd g a<|.dct kvs)) (xs.drop n) Ň G',⟨xs.length,by lia,env,_,dN.refl _,g2,(p.en.keep k1).keep k2,⇑w1⟩,?_⟩;rintro n m Ŏ H' ⟨hnm,Ň,G',k3,g3,e3,w3⟩;by_cases hn:n<xs.length
 .right;have hd:xs.drop n=xs[n]::xs.drop (n+1):=ę hn;rw[hd]at w3;let⟨s2,w3⟩:=w3;have hv:xs[n]?=df xs[n]:=Ï hn;let⟨a1,a2⟩:=it.go n G' H' xs[n] k3 g3 s2 hv;refine⟨a1,λσ4 H4=>∃bM G4,dN (upd H1 a<|.frz o<|.dK ps) H4/\RH i G4 H4/\REn i.K H4 bM σ4/\O.wFor st (λv e g K M=>O.go (O.bind q g v e) λe2=>O.wSs Z mb e2 g K (λu g2=>g2 a=df (.frz kvs)/\R u (O.upd g2 a<|.dct kvs)) M K λ_ _ _=>False) (λe g=>g a=df (.frz kvs)/\N e (O.upd g a<|.dct kvs)) (xs.drop<|n+1) bM G4,λσ4 H4 h=>⟨m - 1,by lia,by lia,h⟩,λx H4 hy=>?_⟩;let⟨k4,g4,r4⟩:=a2 x H4 hy;let⟨cy,e5,w5⟩:=dr w3;refine⟨xs[n],Ň,G',cy,r4,g4,e3.keep k4,e5,λσ5 h5=>?_⟩;refine⟨cy,G',_,_,_,_,_,⟨h5,g4,xo _⟩,w5,⟨λenv6 σ6 G6 H6 k6 g6 e6 w6=>?_,λv6 G6 H6 x6 k6 g6 r6 w6=>?_,λenv6 σ6 G6 H6 k6 g6 e6 w6=>?_,λenv6 σ6 G6 H6 k6 g6 e6 w6=>?_⟩⟩
  .exact⟨env6,G6,(k3.trans k4).trans k6,g6,e6,w6⟩
  .exact ret v6 G6 H6 x6 ((k3.trans k4).trans k6) g6 r6 w6
  .exact fin env6 σ6 G6 H6 ((k3.trans k4).trans k6) g6 e6 w6
  .exact⟨env6,G6,(k3.trans k4).trans k6,g6,e6,w6⟩
 .left;have hd:xs.drop n=[]:=υ (by lia);rw[hd]at w3;exact⟨it.stop n G' H' k3 g3 w3.1 (by lia),fin Ň Ŏ G' H' k3 g3 e3 w3.2⟩
variable {kk:Nat}
def DO{es:List Expr}{tp Ľ ŏ:Pos}(hp:ϒ (Û X.prog X.w) X.A X.env X.xe)(hc:X.calm=dh)(hd:PE X d<|tE X i Z m)(hg:PG X (.Tuple es kk tp)<|gPt i q)(hb:PSs X body<|tBl X i Z mb)
  (ϳ:ė d "items" X.env (eval d X.env)=eval d X.env) (ϴ:(Ľ.endLine==ŏ.line)=dh) (hs:∀x,Đ (.Call (.Attribute d "items" Ľ) [] [] ŏ) X.env x=pure x) :
  PS X (.For (.Tuple es kk tp) (.Call (.Attribute d "items" Ľ) [] [] ŏ) body [] ç) (tSt X i Z<|.forI di q m mb) :=
 NL hp hc (U1 hd ϳ ϴ) hg hb hs λ_ _ _ _ _ e r=>Ax e r
def CZ(hp:ϒ (Û X.prog X.w) X.A X.env X.xe)(hc:X.calm=dh)(hd:PE X d<|tE X i Z m)(hg:PG X tg<|gPt i q)(hb:PSs X body<|tBl X i Z mb)(hs:∀x,Đ d X.env x=pure x) :
  PS X (.For tg d body [] ç) (tSt X i Z<|.forI dh q m mb) :=
 NL hp hc (Oo hd) hg hb hs λ_ _ _ _ _ e r=>NW e r
def K5(rows:List<|List Int):∀(k:Nat) (x:List Int) (r:List<|List Int),rows.take (k+1)=x::r->k<rows.length->O.minR x r=rows.getD (Ę (btL λn=>rows.getD n []) k) []
 |0,x,r,h,hk=>by
  cases rows with
  |nil=>cases h
  |cons y ys=>simp at h;let⟨rfl,rfl⟩:=h;rfl
 |k+1,x,r,h,hk=>by
  cases rows with
  |nil=>cases h
  |cons y ys =>
   rw[Ŧ]at h;injection h with h1 h2;subst h1 h2;have aV:k<ys.length:=⇑hk
   have ih:=K5 (y::ys) k y (ys.take k) (by rw[Ŧ]) (by simp;lia);have e:ys.take (k+1)=ys.take k++[ys[k]]:=by rw[cX];simp[aV]
   have app:∀(b:List Int) (l:List<|List Int) (z:List Int),O.minR b (l++[z])=if O.d7 z (O.minR b l)then z else O.minR b l:=by
    intro b l z;induction l generalizing b with
    |nil=>rfl
    |cons w l ih=>exact ih _
   rw[e,app,ih];have e2:(y::ys).getD (k+1) []=ys[k]:=by simp[aV]
   show _=(y::ys).getD (if btL (λn=>(y::ys).getD n []) (k+1) (Ę (btL λn=>(y::ys).getD n []) k)=dh then k+1 else Ę (btL λn=>(y::ys).getD n []) k) [];have eb:btL (λn=>(y::ys).getD n []) (k+1) (Ę (btL λn=>(y::ys).getD n []) k)=O.d7 ys[k] ((y::ys).getD (Ę (btL λn=>(y::ys).getD n []) k) []):=by rw[X5,<-e2];rfl
   rw[eb];cases O.d7 ys[k] ((y::ys).getD (Ę (btL λn=>(y::ys).getD n []) k) [])with
   |true=>rw[fm rfl,fm rfl,e2]
   |false=>rw[fo (by decide),fo<|by decide]
def DW{G:O.Hs}{H:Hp}{xs:List O.Val}{us:List V}{w:List Int}{r:List (List Int)}{y:V}(h2:RVs i.K H xs us)(h3:(w::r).length=us.length)(h5:xs=(w::r).map λn=>.tup<|n.map .int)(hy:us[Ę (btL λn=>(w::r).getD n [])<|us.length - 1]?=df y):RV i.K H (.tup<|(O.minR w r).map .int) y:=by
 rw[K5 (w::r) ((w::r).length - 1) w r (by simp)<|by simp];rw[<-h3]at hy;have ϩ:Ę (btL λn=>(w::r).getD n []) ((w::r).length - 1)<(w::r).length:=by have:=Ws (btL λn=>(w::r).getD n [])<|(w::r).length - 1;simp only[Î]at this ⊢;lia
 generalize hj:Ę (btL λn=>(w::r).getD n []) ((w::r).length - 1)=j at hy ϩ ⊢;have hxj:xs[j]?=df (.tup<|((w::r).getD j []).map .int):=by rw[h5,ã,Ï ϩ];simp[ì,Ï ϩ]
 let⟨x2,hx2,rx2⟩:=h2.get hxj;rw[hy]at hx2;cases hx2;exact rx2
def F5{e:Expr}{p kp kpos:Pos}(hc:X.calm=dh)(hu:X.A.units+1<ğ)(hK:X.K=i.K)(hg:Gl X "min")(hm:X.mg "min" = dg)(he:PE X e<|tE X i Z m)(hs:Ñ [e] X.env=[(di,eval e X.env)]) :
  PE X (.Call (.Name "min" p) [e] [⟨df "default",.Constant .none kk kp,kpos⟩] ç) (tE X i Z<|.bi .minD<|.cons m .nil):=by
 refine(Eg hc hu hg hm (Yd he eW<|by rw[hs];rfl) hs).imp λσ H Q ⟨env,G,Qm,Em,p,w,c⟩=>?_;change tE X i Z m σ H _;refine one p w λv G1 H1 x k1 p1 r q=>?_
 replace q:(O.eL G1 v).wp G1 Qm:=q
 cases v with
 |ref a =>
  cases r.ref_inv;unfold O.eL at q;dsimp only at q;cases z:(O.dF<|G1 a).bind O.rowsOf with
  |none=>rw[z]at q;exact(Zv q).elim
  |some rows =>
   let⟨xs,z1,z2⟩:=î.mp z;let⟨us,h1,h2⟩:=Zy p1.hp z1;let⟨h3,h4,h5⟩:=W7 h2 z2;rw[z]at q;refine⟨a,us,rows,rfl,by rw[hK];exact h1,h3,by rw[hK];exact h4,λe0=>?_,λe0 y hy=>?_⟩
   .subst e0;cases rows with
    |nil=>exact c _ G1 H1 _ k1 p1.hp .non<|ZB q
    |cons _ _=>cases h3
   .cases rows with
    |nil=>exact fA (μ.mp h3.symm) e0
    |cons w r =>exact c _ G1 H1 _ k1 p1.hp (DW (G:=G1) h2 h3 h5 hy)<|ZB q
 |_=>exact(Zv q).elim
def GX{st:ġ}{m:O.S}(hs:PS X st<|tSt X i Z m):PS X st<|tSt X i Z<|.thw m:=λÂ s σ H D I ⟨env,G,N,R,B,C,Xe,p,w,c⟩=>by
 rw[O.wS_eq]at w;let⟨a,kvs,eG,w⟩:=w;let⟨ps,ha,hr⟩:=p.hp a _ eG;have h0:∀o u,X.H₀ a≠df (.frz o u):=λo u z=>by have:=I.base.frzs a o u z;rw[ha]at this;cases this
 have xo:XW X<|XKS i H λ_ _ _=>False:=λ_ _ _ _ _ _ _ _ _ _ ⟨_,_,_,_,_,_,_,_,z⟩=>z.elim;have eo:EOk i H (D.thaw X) (λe g=>g a=df (.frz kvs)/\N e (O.upd g a<|.dct kvs)) (λ_ _=>False) (λ_ _=>False) λ_ _=>False:=by
  refine⟨λŇ Ŏ G' H' k g en hn=>?_,λ_ _ _ _ _ _ _ z=>z.elim,λ_ _ _ _ _ _ _ z=>z.elim,λ_ _ _ _ _ _ _ z=>z.elim⟩;let⟨zq,n⟩:=hn;let⟨o,ps1,b1,b2⟩:=g a _ zq;have k2:dN H<|upd H' a<|.dK ps1:=⟨λb xs z=>by
    have hb:b≠a:=by rintro rfl;rw[ha]at z;cases z
    rw[dj hb]
    exact k.t b xs z,λb o' u z=>by
    have hb:b≠a:=by rintro rfl;rw[ha]at z;cases z
    rw[dj hb]
    exact k.f b o' u z⟩
  exact⟨a,o,ps1,b1,h0,c.nx Ň Ŏ _ _ k2 (g.thaw b1 b2) (en.keepL<|Yq b1) n⟩
 exact N5 hs Â s σ H D I ⟨env,G,_,_,_,_,_,⟨p.en,p.hp,xo⟩,by rw[O.wS_eq];exact w,eo⟩
end Snd
namespace L2
open PySem PySem.Spec PyProof.Rows
section
variable {prog:ä}{w:ü}{A:ċ}{E:Ã->Å->Prop}{s:Å}
def Kb{it t:Ç}{items:Array Ã}(Ź:t≠it):∀(n i:Nat) (s:Å) (Q:List Ã->Å->Prop),s.heap.IsListIter it t i->s.heap.IsList t items->i+n<=items.size->
  (∀h',h'.IsListIter it t (i+n)->Ũ it s.heap h'->Q ((items.toList.drop i).take n) {s with heap:=h'})->wpAny (Û prog w) A (draw (.ref it) n) Q E s
 |0,i,s,Q,cu,_,_,hQ=>by show wpAny _ _ (pure []) Q E s;exact Ë (by simpa using hQ s.heap cu (Heap.SameBut.refl ..))
 |n+1,i,s,Q,cu,ht,hle,hQ=>by
  have ϩ:i<items.size:=by lia
  show wpAny _ _ (ό (.ref it) >>= _) Q E s;refine À (cO cu ht (x:=items[i]) (by simp[ϩ]) λϡ bN bc=>?_);refine À (Ć<|Kb Ź n (i+1) _ _ bN (ht.extBut bc.extBut Ź) (by lia) λh₂ hit₂ hs₂=>Ë ?_);have hd:items.toList.drop i=items[i]::items.toList.drop (i+1):=by simp[ę,ϩ]
  have:=hQ h₂ (by rw[show i+(n+1)=i+1+n by lia];exact hit₂)<|bc.trans hs₂;rw[hd,Ŧ]at this;exact this
def K7{t:Ç}{items:Array Ã}{Ϫ:List (Bool×(Ã->Sem Unit))}{Q:Unit->Å->Prop}(hh:A.handled=dg)(ht:s.heap.IsList t items)(hn:Ϫ.length=items.size)(hstar:Ϫ.findIdx? (·.1)=dg)
  (h:∀h',Heap.ExtBut s.heap.objs.size s.heap h'->wpAny (Û prog w) A (assignInOrder (Ϫ.map (·.2)) items.toList) Q E {s with heap:=h'}):wpAny (Û prog w) A (unpack (.ref t) Ϫ) Q E s:=by
 have ϩ:t≠s.heap.objs.size:=by let⟨o,ho,_⟩:=ht;exact è<|Ô ho
 unfold unpack;rw[hn,hstar];refine À<|Ć ?_;unfold unpackItems;refine À ?_;unfold notIterableAtAll;refine À<|wpAny_specialOf ht.typeIs F.slot_list_iter.lookup ?_;refine Ë ?_;simp![ú,if_false];refine À<|Ć<|ak ht ?_;refine À (Ć<|Kb ϩ items.size 0 _ _ ⟨_,Ö _ rfl,rfl,rfl⟩ (ht.push _) (by lia) λϡ bN bc=>?_);have bG:List.take items.size (List.drop 0 items.toList)=items.toList:=by rw[List.drop_zero];exact List.take_of_length_le (by simp)
 rw[bG];rw[fo<|by simp];have ht₁:ϡ.IsList t items:=(ht.push _).extBut bc.extBut ϩ;refine À (Ć<|wpAny_pyNext_list_end hh bN ht₁ (by simp) λh₂ he₂=>?_);simp![Option.isSome_none,ú,if_false];exact Ë<|h h₂ λb o hb e=>he₂ b o hb<|bc.extBut b o hb<|Ä _ e
end
variable {X:Cx}
abbrev Pj(n:Nat)(t:TGs):TG:=λv σ H Q=>∃a xs,v=.ref a/\H a=df (.lst xs)/\xs.length=n/\t xs σ H Q
def Hf{es:List Expr}{k:Nat}{ç:Pos}{t:TGs}{n:Nat}(hc:X.calm=dh)(h:PGs X es t)(hn:(ā es X.env).length=n)(ű:(ā es X.env).findIdx? (·.1)=dg):PG X (.Tuple es k ç)<|Pj n t:=by intro Â s σ H v u Q I r hw;let⟨a,xs,e1,hq,hl,hw⟩:=hw;subst e1;cases r;let⟨_,ð,m,rv,hlen,e⟩:=I.lstM hq;rw[PyProof.Rows.assign_Tuple];refine À (ϣ<|K7 (items:=ð.toArray) (I.ok.hd hc) ⟨_,e,rfl,m,rfl⟩ (by simp[hn,<-hl,hlen]) ű λh' hx=>?_);have I1:Inv X Â σ H {s with heap:=h'}:=I.kept (t':=s.toks) λb o e=>hx b o (è<|Ô e) e;exact h Â _ σ H xs _ Q I1 ⇑rv hw
end L2
namespace Snd
open PySem L2
variable {i:Inf}{X:Cx}{Z:O.Fs}
def El{e:Expr}{es:List Expr}{m:O.E}{js:List Nat}{k:Nat}{p ç:Pos}(hc:X.calm=dh)(he:PE X e<|tE X i Z m)(h:PGs X es<|ON i js)(hn:(ā es X.env).length=js.length)(ű:(ā es X.env).findIdx? (·.1)=dg)
  (hs:œ [.Tuple es k p] e ç.line X.env=pure di) (hw:ũ [.Tuple es k p] e X.env=pure dg):PS X (.Assign [.Tuple es k p] e ç) (tSt X i Z<|.setL js m) :=
 (M1 he (Hf hc h hn ű) hs hw rfl).imp λD σ H ⟨env,G,N,R,B,C,Xe,p,w,c⟩=>by
  rw[O.wS_eq]at w;refine⟨env,G,_,Xe env,p.pre,by rw[O.wE_eq];exact w,λv G1 H1 x k1 g1 r1 w1=>?_⟩;let⟨xs,e1,w2⟩:=dr w1;let⟨Ĳ,e2,w3⟩:=dr w2;have ev:∃a,v=.ref a/\G1 a=df (.lst xs):=by
   cases v with
   |ref a =>
    refine⟨a,rfl,?_⟩
    replace e1:O.dF (G1 a)=df xs:=e1
    cases z:G1 a with
    |none=>rw[z]at e1;cases e1
    |some o=>rw[z]at e1;cases o<;>first|(cases e1;rfl)|cases e1
   |_=>cases e1
  let⟨a,rfl,eG⟩:=ev;cases r1.ref_inv;let⟨us,h1,h2⟩:=g1 a _ eG;exact⟨a,us,rfl,h1,by rw[<-h2.length];exact XM e2,xs,env,Ĳ,h2,p.en.keep k1,e2,λcJ h2=>c.nx Ĳ cJ G1 H1 k1 g1 h2 w3⟩
structure Md where
 N:List Str
 sc:Ť
 cs:List<|String×O.Val
 fs:List String
 cm:Bool
 cl:List String
 ms:List<|String×String
 fl:List String
 xs:List String
abbrev Md.nmOf(c:Md)(j:Nat):Str:=c.N.getD j Str.empty
abbrev Md.vis(c:Md)(x:Str):Bool:=match c.sc.names.lookup x with
 |some .local=>dh
 |some .cell=>dh
 |some .free=>dh
 |_=>di
abbrev Md.loc(c:Md)(x:Str):Bool:=c.sc.names.lookup x==df .local||c.sc.names.lookup x==df .cell
abbrev Md.gl(c:Md)(x:Str):Bool:=c.sc.names.lookup x==df .globalImplicit
abbrev nm(x:Str):Bool:=!(x==("__debug__" : Str)) && !(x==("__classdict__" : Str)) && !(x==("__name__" : Str))
abbrev dE:Expr:=.Name Str.empty ⟨0,0,0,0⟩
abbrev mix:List (Option Expr)->List Expr->List Expr
 |k::ks,v::vs=>k.getD dE::v::mix ks vs
 |_,_=>[]
abbrev sub:Expr->List Expr
 |.BoolOp _ xs _=>xs
 |.BinOp a _ b _=>[a,b]
 |.UnaryOp _ a _=>[a]
 |.IfExp a b c _=>[a,b,c]
 |.Compare a _ bs _=>a::bs
 |.Call f as ks _=>f::(as++ks.map (·.value))
 |.FormattedValue a _ _ _=>[a]
 |.JoinedStr vs _=>vs
 |.Attribute a _ _=>[a]
 |.Subscript a b _=>[a,b]
 |.List es _=>es
 |.Tuple es _ _=>es
 |.Slice a b c _=>[a.getD dE,b.getD dE,c.getD dE]
 |.ListComp e gs _ _=>e::gs.flatMap λg=>g.target::g.iter::g.ifs
 |.Dict ks vs _=>mix ks vs
 |_=>[]
abbrev kid(x:Expr)(j:Nat):Expr:=(sub x).getD j dE
abbrev num:Expr->Nat
 |.Constant _ k _=>k
 |.Tuple _ k _=>k
 |_=>0
abbrev scp:Expr->Ť
 |.ListComp _ _ s _=>s
 |_=>default
abbrev kwp:Expr->Pos
 |.Call _ _ (k::_) _=>k.pos
 |_=>⟨0,0,0,0⟩
abbrev UO:O.Bop->ae
 |.add=>.Add
 |.sub=>.Sub
 |.mul=>.Mult
 |.fdiv=>.FloorDiv
 |.mod=>.Mod
 |.pow=>.Pow
abbrev X1:O.Cop->aM
 |.eq=>.Eq
 |.ne=>.NotEq
 |.lt=>.Lt
 |.le=>.LtE
 |.gt=>.Gt
 |.ge=>.GtE
 |.isin=>.In
 |.notin=>.NotIn
 |.is=>.Is
 |.isnot=>.IsNot
 |.eqE=>.Eq
 |.neE=>.NotEq
 |.ntT=>.IsNot
abbrev IF:O.Val->Const
 |.non=>.none
 |.bl b=>.bool b
 |.int i=>.int i
 |.str s=>.str<|fE s
 |_=>.ellipsis
abbrev EF:O.Val->Bool
 |.non=>dh
 |.bl _=>dh
 |.int _=>dh
 |.str _=>dh
 |_=>di
abbrev ZP(e:O.E):Bool:=e.ctorIdx==(O.E.and e e).ctorIdx
abbrev Yp(e:O.E):Bool:=e.ctorIdx==(O.E.or e e).ctorIdx
abbrev Zp(e:O.Tt):Bool:=e.ctorIdx==(O.Tt.and e e).ctorIdx
abbrev ZC(e:O.Tt):Bool:=e.ctorIdx==(O.Tt.or e e).ctorIdx
abbrev rest(b:Bool)(x:Expr):Expr:=match b,x with
 |true,.BoolOp op (_::xs) p=>.BoolOp op xs p
 |_,x=>kid x 1
abbrev Y7(b:Bool)(x:Expr):List Expr:=match b with
 |true=>sub x
 |false=>[x]
abbrev O1:O.Bi->Str
 |.len=>"len"
 |.int=>"int"
 |.str=>"str"
 |.bool=>"bool"
 |.abs=>"abs"
 |.min2=>"min"
 |.max2=>"max"
 |.minL=>"min"
 |.maxL=>"max"
 |.minP=>"min"
 |.maxP=>"max"
 |.minD=>"min"
 |.sum=>"sum"
 |.all=>"all"
 |.any=>"any"
 |.sorted=>"sorted"
 |.sortedI=>"sorted"
 |.sortedSet=>"sorted"
 |.lenSet=>"len"
 |.list=>"list"
 |.tuple=>"tuple"
 |.dict=>"dict"
 |.isi _=>"isinstance"
 |.isx _=>"isinstance"
 |.isc _=>"isinstance"
 |.repr=>"repr"
 |.listRev=>"list"
 |.listRange=>"list"
 |.tupRange=>"tuple"
 |.dictEnum=>"dict"
 |.listD=>"list"
 |.listT=>"list"
abbrev HF:O.Bi->Option Str
 |.sortedSet=>df "set"
 |.lenSet=>df "set"
 |.listRev=>df "reversed"
 |.listRange=>df "range"
 |.tupRange=>df "range"
 |.dictEnum=>df "enumerate"
 |_=>dg
abbrev FM(Ts:List String)(x:Expr):Expr:=match Ts with
 |[T]=>.Name (fE T) x.pos
 |Ts=>.Tuple (Ts.zipIdx.map λp=>.Name (fE p.1) (kid x p.2).pos) (num x) x.pos
abbrev GU(f:O.Bi)(as:List Expr)(x:Expr):List Expr:=match HF f with
 |some y=>[.Call (.Name y (kid (kid x 1) 0).pos) as [] (kid x 1).pos]
 |none=>match f with
  |.isi Ts=>as++[FM Ts<|kid x 2]
  |.isx Ts=>as++[FM Ts<|kid x 2]
  |.isc T=>as++[FM [T]<|kid x 2]
  |_=>as
abbrev Ka(f:O.Bi)(x:Expr):List Expr:=match HF f with
 |some _=>(sub<|kid x 1).tail
 |none=>(sub x).tail
abbrev Pf(f:O.Bi)(x:Expr):List ah:=match f with
 |.minD=>[⟨df "default",.Constant .none (num<|kid x 2) (kid x 2).pos,kwp x⟩]
 |_=>[]
abbrev Fq:O.Bm->Str
 |.append=>"append"
 |.extend=>"extend"
 |.pop=>"pop"
 |.popAt=>"pop"
 |.insert=>"insert"
 |.remove=>"remove"
 |.clear=>"clear"
 |.reverse=>"reverse"
 |.index=>"index"
 |.count=>"count"
 |.dget=>"get"
 |.dgetD=>"get"
 |.dpop=>"pop"
 |.dpopD=>"pop"
 |.dpopT=>"pop"
 |.setdefault=>"setdefault"
 |.join=>"join"
 |.split=>"split"
 |.replace=>"replace"
 |.upper=>"upper"
 |.partition=>"partition"
 |.sidx=>"index"
 |.lidx=>"index"
abbrev Y4:List Expr->List (Option Expr)
 |k::_::r=>df k::Y4 r
 |_=>[]
abbrev O7:List Expr->List Expr
 |_::v::r=>v::O7 r
 |_=>[]
abbrev toP(p:O.Pt)(c:Md)(x:Expr):Expr:=match p with
 |.one j=>.Name (c.nmOf j) x.pos
 |.many js=>.Tuple (js.zipIdx.map λp=>.Name (c.nmOf p.1) (kid x p.2).pos) (num x) x.pos
 |.nest j js=>.Tuple [.Name (c.nmOf j) (kid x 0).pos,.Tuple (js.zipIdx.map λp=>.Name (c.nmOf p.1) (kid (kid x 1) p.2).pos) (num<|kid x 1) (kid x 1).pos] (num x) x.pos
abbrev nmX:Expr->Str
 |.Name x _=>x
 |_=>Str.empty
abbrev Xd:Expr->List Str
 |.Tuple es _ _=>es.map nmX
 |x=>[nmX x]
abbrev Md.blk(c:Md)(sc:Ť)(x:List Str)(ô:List Nat):Md :=
 {N:=x++ô.map (λj=>c.N.getD j Str.empty),sc:={sc with names:=sc.names.map λ(n,k)=>if(k == .free&&c.sc.kind == .function&&c.sc.names.lookup n==df .cell)then(n,.cell)else(n,k)},cs:=c.cs,fs:=c.fs,cm:=c.cm,cl:=c.cl,ms:=c.ms,fl:=c.fl,xs:=c.xs}
abbrev LN:O.E->Bool
 |.cst (.str _)=>dh
 |_=>di
mutual
noncomputable def toX:O.E->Md->Expr->Expr
 |.cst v,_,x=>.Constant (IF v) (num x) x.pos
 |.var j,c,x=>.Name (c.nmOf j) x.pos
 |.glob y _,_,x=>.Name (fE y) x.pos
 |.bin o a b,c,x=>.BinOp (toX a c<|kid x 0) (UO o) (toX b c<|kid x 1) x.pos
 |.neg a,c,x=>.UnaryOp .USub (toX a c<|kid x 0) x.pos
 |.not a,c,x=>.UnaryOp .Not (toX a c<|kid x 0) x.pos
 |.and a b,c,x=>.BoolOp .And (toX a c (kid x 0)::Y7 (ZP b) (toX b c<|rest (ZP b) x)) x.pos
 |.or a b,c,x=>.BoolOp .Or (toX a c (kid x 0)::Y7 (Yp b) (toX b c<|rest (Yp b) x)) x.pos
 |.cmp o a b,c,x=>.Compare (toX a c<|kid x 0) [X1 o] [toX b c<|kid x 1] x.pos
 |.chain o1 o2 a b d,c,x=>.Compare (toX a c<|kid x 0) [X1 o1,X1 o2] [toX b c<|kid x 1,toX d c<|kid x 2] x.pos
 |.call f as,c,x=>.Call (.Name (fE f) (kid x 0).pos) (toA as c (sub x).tail) [] x.pos
 |.make C as,c,x=>.Call (.Name (fE C) (kid x 0).pos) (toA as c (sub x).tail) [] x.pos
 |.meth _ m o as,c,x=>.Call (.Attribute (toX o c<|kid (kid x 0) 0) (fE m) (kid x 0).pos) (toA as c (sub x).tail) [] x.pos
 |.meth2 _ _ m o as,c,x=>.Call (.Attribute (toX o c<|kid (kid x 0) 0) (fE m) (kid x 0).pos) (toA as c (sub x).tail) [] x.pos
 |.fld o f,c,x=>.Attribute (toX o c<|kid x 0) (fE f) x.pos
 |.bi f as,c,x=>.Call (.Name (O1 f) (kid x 0).pos) (GU f (toA as c<|Ka f x) x) (Pf f x) x.pos
 |.bm m o as,c,x=>.Call (.Attribute (toX o c<|kid (kid x 0) 0) (Fq m) (kid x 0).pos) (toA as c (sub x).tail) [] x.pos
 |.idx a b,c,x=>.Subscript (toX a c<|kid x 0) (toX b c<|kid x 1) x.pos
 |.slc a lo hi,c,x=>.Subscript (toX a c<|kid x 0) (.Slice (toO lo c<|kid (kid x 1) 0) (toO hi c<|kid (kid x 1) 1) dg (kid x 1).pos) x.pos
 |.rev a,c,x=>.Subscript (toX a c<|kid x 0) (.Slice dg dg (df<|.UnaryOp .USub (.Constant (.int 1) (num<|kid (kid (kid x 1) 2) 0) (kid (kid (kid x 1) 2) 0).pos) (kid (kid x 1) 2).pos) (kid x 1).pos) x.pos
 |.sortT a,c,x=>.Call (.Name "sorted" (kid x 0).pos) [toX a c<|kid x 1] [] x.pos
 |.pick a lo hi st,c,x=>.Subscript (toX a c<|kid x 0) (.Slice (toO lo c<|kid (kid x 1) 0) (toO hi c<|kid (kid x 1) 1) (df<|toX st c<|kid (kid x 1) 2) (kid x 1).pos) x.pos
 |.tup es,c,x=>.Tuple (toA es c<|sub x) (num x) x.pos
 |.key es,c,x=>.Tuple (toA es c<|sub x) (num x) x.pos
 |.dctP,c,x=>.Dict [] [] x.pos
 |.lst es,c,x=>.List (toA es c<|sub x) x.pos
 |.dct es,c,x=>.Dict (Y4<|toA es c<|sub x) (O7<|toA es c<|sub x) x.pos
 |.ife t a b,c,x=>.IfExp (toT t c<|kid x 0) (toX a c<|kid x 1) (toX b c<|kid x 2) x.pos
 |.comp ô _ p it t e,c,x=>.ListComp (toX e (c.blk (scp x) (Xd<|kid x 1) ô)<|kid x 0) [⟨toP p (c.blk (scp x) (Xd<|kid x 1) ô)<|kid x 1,toI it c<|kid x 2,toF t (c.blk (scp x) (Xd<|kid x 1) ô)<|kid x 3,0⟩] (scp x) x.pos
 |.fstr es,c,x=>.JoinedStr (toJ es c<|sub x) x.pos
 |.split o a,c,x=>.Call (.Attribute (toX o c<|kid (kid x 0) 0) "split" (kid x 0).pos) [toX a c<|kid x 1] [] x.pos
 |.repl o y z,c,x=>.Call (.Attribute (toX o c<|kid (kid x 0) 0) "replace" (kid x 0).pos) [.Constant (.str<|fE y) (num<|kid x 1) (kid x 1).pos,.Constant (.str<|fE z) (num<|kid x 2) (kid x 2).pos] [] x.pos
noncomputable def toA:O.Es->Md->List Expr->List Expr
 |.nil,_,_=>[]
 |.cons e es,c,xs=>toX e c (xs.headD dE)::toA es c xs.tail
noncomputable def toJ:O.Es->Md->List Expr->List Expr
 |.nil,_,_=>[]
 |.cons e es,c,xs=>(if LN e then toX e c (xs.headD dE)else .FormattedValue (toX e c<|kid (xs.headD dE) 0) (-1) dg (xs.headD dE).pos)::toJ es c xs.tail
noncomputable def toO:O.Oe->Md->Expr->Option Expr
 |.none,_,_=>dg
 |.some e,c,x=>df<|toX e c x
noncomputable def toT:O.Tt->Md->Expr->Expr
 |.yes,_,x=>x
 |.val e,c,x=>toX e c x
 |.not t,c,x=>.UnaryOp .Not (toT t c<|kid x 0) x.pos
 |.and a b,c,x=>.BoolOp .And (toT a c (kid x 0)::Y7 (Zp b) (toT b c<|rest (Zp b) x)) x.pos
 |.or a b,c,x=>.BoolOp .Or (toT a c (kid x 0)::Y7 (ZC b) (toT b c<|rest (ZC b) x)) x.pos
noncomputable def toF:O.Tt->Md->Expr->List Expr
 |.yes,_,_=>[]
 |.val e,c,x=>[toX e c x]
 |.not t,c,x=>[.UnaryOp .Not (toT t c<|kid x 0) x.pos]
 |.and a b,c,x=>[.BoolOp .And (toT a c (kid x 0)::Y7 (Zp b) (toT b c<|rest (Zp b) x)) x.pos]
 |.or a b,c,x=>[.BoolOp .Or (toT a c (kid x 0)::Y7 (ZC b) (toT b c<|rest (ZC b) x)) x.pos]
noncomputable def toI:O.It->Md->Expr->Expr
 |.seq e,c,x=>toX e c x
 |.seqT _ e,c,x=>toX e c x
 |.chars e,c,x=>toX e c x
 |.range a,c,x=>.Call (.Name "range" (kid x 0).pos) [toX a c<|kid x 1] [] x.pos
 |.range2 a b,c,x=>.Call (.Name "range" (kid x 0).pos) [toX a c<|kid x 1,toX b c<|kid x 2] [] x.pos
 |.enumL e,c,x=>.Call (.Name "enumerate" (kid x 0).pos) [toX e c<|kid x 1] [] x.pos
 |.enum e,c,x=>.Call (.Name "enumerate" (kid x 0).pos) [toX e c<|kid x 1] [] x.pos
 |.zip a b,c,x=>.Call (.Name "zip" (kid x 0).pos) [toX a c<|kid x 1,toX b c<|kid x 2] [] x.pos
 |.items e,c,x=>toX e c x
 |.keysF e,c,x=>toX e c x
 |.rev e,c,x=>.Call (.Name "reversed" (kid x 0).pos) [toX e c<|kid x 1] [] x.pos
end
abbrev blts:List Str:=["isinstance","int","bool","str","list","tuple","dict","max","min","range","len","sorted","set","all","any","sum","enumerate","zip","reversed","abs","repr","ValueError"]
structure Kls(X:Cx)(i:Inf)(P:O.Pg)(n:Nat)(c:Md):Prop where
 A:ClsA i
 F:∀f,c.fl.contains f=dh->FldOk i f
 mkc:∀C,c.cl.contains C=dh->∃a f,i.ins C=dh/\i.cl C a/\Mk i.K a f/\X.mg (fE C)=df (.ref a)/\Dfm X.prog X.w X.mg X.base i P n (C ++ ".__init__") f
 mth:∀C m,c.ms.contains (C,m)=dh->∃a f,(∀b,i.cl C b->b=a)/\Cls i.K a/\Meth i.K a (fE m) f/\Dfm X.prog X.w X.mg X.base i P n (C ++ "." ++ m) f
structure Xls(X:Cx)(i:Inf)(c:Md):Prop where
 xc:∀C a,i.xc C a->XCls i.K a/\PySem.W.kitOne i.K (.ref a) (.type "ValueError")=df dh
 rs:∀C,c.xs.contains C=dh->∃a,i.xc C a/\PyProof.Rows.OwnCls (fE C) a [.type "ValueError",.type "Exception",.type "BaseException",.type "object"] "ValueError.__new__" X.mg X.base
 kn:∀T,(c.xs.contains T||T == "ShutError")=dh->∃D,X.mg (fE T)=df (.ref D)/\∀C a,i.xc C a->PySem.W.kitOne i.K (.ref a) (.ref D)=df (O.eX C T)/\PySem.W.exmOne i.K (.ref a) (.ref D)=df (O.eX C T)
structure Gd(X:Cx)(i:Inf)(P:O.Pg)(n:Nat)(c:Md):Prop where
 K:X.K=i.K
 N:X.N=c.N
 sc:X.env.scope=c.sc
 nd:c.N.Nodup
 un:X.A.units+200<ğ
 calm:c.cm=dh->X.calm=dh
 room:c.cm=dh->dW (2*n+1) X.A
 bl:∀x∈blts,X.mg x=dg
 dfs:∀f,c.fs.contains f=dh->Dfo X.prog X.w X.mg X.base i P n f
 cst:∀x v,c.cs.lookup x=df v->∃u y,X.mg (fE x)=df u/\RelV y u/\∀H,RV i.K H v y
 kl:Kls X i P n c
 xl:c.xs≠[]->Xls X i c
variable {X:Cx}{i:Inf}{P:O.Pg}{n:Nat}{c:Md}
variable {x:Str}
def Gd.gl(g:Gd X i P n c)(h:c.gl x=dh):Gl X x:=by show X.env.scope.names.lookup x=_;rw[g.sc];exact eq_of_beq h
def Gd.vis(g:Gd X i P n c)(h:c.vis x=dh):Vis X.env.scope x:=by
 unfold Vis;rw[g.sc];unfold Md.vis at h;split at h
 .exact .inl (by assumption)
 .exact .inr (.inl<|by assumption)
 .exact .inr (.inr<|by assumption)
 .cases h
def Gd.loc(g:Gd X i P n c)(h:c.loc x=dh):L2.Loc X.env.scope x:=by
 unfold L2.Loc;rw[g.sc];rcases (ab ..).mp h with h|h
 .exact .inl<|eq_of_beq h
 .exact .inr<|eq_of_beq h
def Gd.rm(g:Gd X i P n c)(h:c.cm=dh):dW (2*n) X.A:=(g.room h).mono (ő _)
def JB(h:nm x=dh):(x==("__debug__" : Str))=di/\(x==("__classdict__" : Str))=di/\x≠"__name__":=by simp![nm,bAq,ϙ]at h;exact⟨h.1.1,h.1.2,⇑h.2⟩
def ZF(e:O.E)(c:Md)(x:Expr)(es:List Expr)(env:Env):Ñ (toX e c x::es) env=(di,eval (toX e c x) env)::Ñ es env:=by cases e<;>rfl
def AM(e:O.E)(c:Md)(x:Expr):Kf<|toX e c x:=by intro o j;cases e<;>rfl
variable {op:aM}
def BW(e:O.E)(c:Md)(x:Expr):ĩ op (toX e c x)=di:=by cases e<;>rfl
def Bj(e:O.E)(c:Md)(x:Expr)(env:Env):∀y,Đ (toX e c x) env y=pure y:=by intro y;cases e<;>rfl
abbrev Y6:Expr->Bool
 |.Call (.Name _ _) [] _ _=>di
 |_=>dh
variable {e:Expr}
def Yh(h:Y6 e=dh)(f:Str)(env:Env):ė e f env (eval e env)=eval e env:=by
 cases e with
 |Call g as ks p =>
  cases as with
  |cons _ _=>cases g<;>rfl
  |nil=>cases g with
   |Name x q=>cases h
   |_=>rfl
 |_=>rfl
abbrev ZX:O.Es->Nat
 |.nil=>0
 |.cons _ es=>ZX es+1
def XD:∀(es:O.Es) (c:Md) (xs:List Expr),(toA es c xs).length=ZX es
 |.nil,_,_=>rfl
 |.cons _ es,c,xs=>by show(toA es c xs.tail).length+1=_;rw[XD es];rfl
def Yg(env:Env)(ç:Pos):∀(es:O.Es) (c:Md) (xs:List Expr),(Ĕ ç<|Ñ (toA es c xs) env).any (·.1)=di
 |.nil,_,_=>rfl
 |.cons e es,c,xs=>by show(Ĕ ç<|Ñ (toX e c (xs.headD dE)::toA es c xs.tail) env).any (·.1)=di;rw[ZF];show(di||(Ĕ ç<|Ñ (toA es c xs.tail) env).any (·.1))=di;rw[Yg env ç es];rfl
def W5(env:Env)(ç:Pos):∀(es:O.Es) (c:Md) (xs:List Expr),(Ĕ ç<|Ñ (toA es c xs) env).all (λx=>!x.1)=dh
 |.nil,_,_=>rfl
 |.cons e es,c,xs=>by show(Ĕ ç<|Ñ (toX e c (xs.headD dE)::toA es c xs.tail) env).all (λx=>!x.1)=dh;rw[ZF];show(dh&&(Ĕ ç<|Ñ (toA es c xs.tail) env).all (λx=>!x.1))=dh;rw[W5 env ç es];rfl
abbrev ZU:O.Pt->Bool
 |.one _=>dh
 |_=>di
def Kw(p:O.Pt)(x:Expr):((!ZU p)=dh->∃es k q,toP p c x=.Tuple es k q)/\((!ZU p)=di->∃y q,toP p c x=.Name y q):=by
 cases p with
 |one j=>exact⟨λz=>(by cases z),λ_=>⟨_,_,rfl⟩⟩
 |many js=>exact⟨λ_=>⟨_,_,_,rfl⟩,λz=>(by cases z)⟩
 |nest j js=>exact⟨λ_=>⟨_,_,_,rfl⟩,λz=>(by cases z)⟩
abbrev BE(X:Cx)(c:Md)(j:Nat):Prop:=X.N[j]?=df (c.nmOf j)/\L2.Loc X.env.scope (c.nmOf j)/\(X.fn (c.nmOf j)=dh\/X.env.scope.names.lookup (c.nmOf j)=df .local)
abbrev E8(q:Nat->Prop):O.Pt->Prop
 |.one j=>q j
 |.many js=>∀j∈js,q j
 |.nest j js=>q j/\∀k∈js,q k
def Wf{X:Cx}{c:Md}(nd:X.N.Nodup)(f:Nat->Pos):∀(js:List Nat) (k:Nat),(∀j∈js,BE X c j)->
  PGs X ((js.zipIdx k).map λp=>.Name (c.nmOf p.1)<|f p.2) (ON i js)/\(ā ((js.zipIdx k).map λp=>.Name (c.nmOf p.1)<|f p.2) X.env).length=js.length/\(ā ((js.zipIdx k).map λp=>.Name (c.nmOf p.1)<|f p.2) X.env).findIdx? (·.1)=dg
 |[],_,_=>⟨DS,rfl,rfl⟩
 |j::js,k,h=>by
  let⟨h1,h2,h3⟩:=h j (by simp);let⟨a1,a2,a3⟩:=Wf nd f js (k+1) λl hl=>h l (by simp[hl]);rw[Ϥ,È];refine⟨Aw nd h1 h2 h3 a1 rfl,?_,?_⟩
  .show(ā ((js.zipIdx<|k+1).map _) X.env).length+1=js.length+1;rw[a2]
  .show List.findIdx? (·.1) ((di,ť (.Name (c.nmOf j)<|f k) X.env)::ā _ X.env)=dg;rw[List.findIdx?_cons];simp[a3]
def EH(hK:X.K=i.K)(nd:X.N.Nodup)(hc:X.calm=dh){p:O.Pt}{x:Expr}(h:E8 (BE X c) p):PG X (toP p c x)<|gPt i p:=by
 cases p with
 |one j=>exact NB nd h.1 h.2.1 h.2.2
 |many js =>let⟨a1,a2,a3⟩:=Wf nd (λk=>(kid x k).pos) js 0 h;exact Oj hK hc a1 a2 a3
 |nest j js =>let⟨h0,h⟩:=h;let⟨a1,a2,a3⟩:=Wf nd (λk=>(kid (kid x 1) k).pos) js 0 h;exact Dq hK hc (NB nd h0.1 h0.2.1 h0.2.2)<|Oj hK hc a1 a2 a3
variable {Z:O.Fs} {a:O.E} {b:O.E} {l:Expr} {ç:Pos}
def II(g:Gd X i P n c){o:O.Bop}{r:Expr}(ha:PE X l<|tE X i Z a)(hb:PE X r<|tE X i Z b):PE X (.BinOp l (UO o) r ç)<|tE X i Z<|.bin o a b:=by
 cases o with
 |add=>exact JU Lo (by rw[g.K];exact b_add) ha hb
 |sub=>exact JU FO b_sub ha hb
 |mul=>exact JU IQ b_mul ha hb
 |fdiv=>exact JU Dz b_fdiv ha hb
 |mod=>exact JU GV b_mod ha hb
 |pow=>exact JU FA b_pow ha hb
abbrev Mm:O.Cop->Bool
 |.is=>dh
 |.isnot=>dh
 |.ntT=>dh
 |.eqE=>dh
 |_=>di
variable {o:O.Cop}
def Nj(g:Gd X i P n c)(h:Mm o=di):∃r,OpR X (ê<|X1 o) r/\ZY i o r:=by
 have u65:X.A.units+65<ğ:=by have:=g.un;lia
 have u64:X.A.units+64<ğ:=by have:=g.un;lia
 have u0:X.A.units<ğ:=by have:=g.un;lia
 cases o with
 |eq=>exact⟨_,FG u64,by rw[g.K];exact LS⟩
 |ne=>exact⟨_,GN u64,by rw[g.K];exact LW⟩
 |lt=>exact⟨_,PN u0,by rw[g.K];exact c_lt⟩
 |le=>exact⟨_,La,c_le⟩
 |gt=>exact⟨_,L7 u0,by rw[g.K];exact c_gt⟩
 |ge=>exact⟨_,HZ,c_ge⟩
 |isin=>exact⟨_,PF u65,by rw[g.K];exact LP⟩
 |notin=>exact⟨_,LX u65,by rw[g.K];exact PL⟩
 |neE=>exact⟨_,AS u64,by rw[g.K];exact c_neE⟩
 |_=>cases h
def FT{v:O.Val}{j:Nat}(h:EF v=dh):PE X (.Constant (IF v) j ç)<|tE X i Z<|.cst v:=by
 cases v with
 |non=>exact Wl Cc λ_=>.non
 |bl b=>exact Wl Ie λ_=>.bl _
 |int k=>exact Wl B6 λ_=>.int _
 |str s=>exact Wl Gr λ_=>.str _
 |_=>cases h
abbrev BJ:O.E->Bool
 |.cst .non=>dh
 |_=>di
def Eu{e:O.E}(h:BJ e=dh):e=.cst .non:=by
 cases e with
 |cst v=>cases v with
  |non=>rfl
  |_=>cases h
 |_=>cases h
variable {y:Expr}
def Mx(hn:∀G v d,O.dL G o v .non≠df d)(ha:PE X l<|tE X i Z a)(hb:PE X y<|tE X i Z<|.cst .non)(hm:ĩ op y=di) :
  PE X (.Compare l [op] [y] ç) (tE X i Z<|.cmp o a<|.cst .non)/\PT X (.Compare l [op] [y] ç) (tTt X i Z<|.val<|.cmp o a<|.cst .non):=by
 have ho:OpR X (ê op) λ_ _ _ _=>False:=λ_ _ _ _ _ _ _ _ _ _ _ _ h=>h.elim;refine⟨(Oz ho ha hb hm).imp λσ H Q ⟨env,G,Qm,Em,p,w,c⟩=>?_,(Oc ho ha hb hm).imp λσ H Q ⟨env,G,Qm,Em,p,w,c⟩=>?_⟩
 .refine one p w λv G1 H1 x k1 p1 r q=>?_;let⟨d,e,_⟩:=dr q;exact fA e<|hn G1 v d
 .refine one p w λv G1 H1 x k1 p1 r q=>?_;let⟨d,e,_⟩:=dr q;exact fA e<|hn G1 v d
def MI(g:Gd X i P n c){x:Expr}(h:(!Mm o||BJ b)=dh)(ha:PE X l<|tE X i Z a)(hb:PE X (toX b c x)<|tE X i Z b) :
  PE X (.Compare l [X1 o] [toX b c x] ç) (tE X i Z<|.cmp o a b)/\PT X (.Compare l [X1 o] [toX b c x] ç) (tTt X i Z<|.val<|.cmp o a b):=by
 cases z:Mm o with
 |false =>let⟨r,h1,h2⟩:=Nj g z;exact⟨Hz h1 h2 ha hb<|BW _ _ _,GK h1 h2 ha hb<|BW _ _ _⟩
 |true =>
  rw[z]at h;cases Eu h;cases o with
  |is=>exact⟨IE ha,GE ha⟩
  |isnot=>exact⟨Gn ha,DF ha⟩
  |ntT=>exact Mx (λG v d e=>by cases v<;>simp[O.dL,O.asLst]at e) ha hb<|BW _ _ _
  |eqE=>exact Mx (λG v d e=>by cases v<;>simp[O.dL,O.asLst]at e) ha hb<|BW _ _ _
  |_=>cases z
def Jb(g:Gd X i P n c){o1 o2:O.Cop}{d:O.E}{x:Expr}(h1:Mm o1=di)(h2:Mm o2=di)(ha:PE X l<|tE X i Z a)(hb:PE X y<|tE X i Z b)(hd:PE X (toX d c x)<|tE X i Z d) :
  PE X (.Compare l [X1 o1,X1 o2] [y,toX d c x] ç) (tE X i Z<|.chain o1 o2 a b d)/\PT X (.Compare l [X1 o1,X1 o2] [y,toX d c x] ç) (tTt X i Z<|.val<|.chain o1 o2 a b d):=by
 let⟨r1,a1,a2⟩:=Nj g h1;let⟨r2,b1,b2⟩:=Nj g h2;have hm:aC [X1 o1,X1 o2] [y,toX d c x]=di:=BW _ _ _;exact⟨CJ a1 a2 b1 b2 ha hb hd hm,Be a1 a2 b1 b2 ha hb hd hm⟩
def F6{m:O.E}(h:PE X e<|tE X i Z m)(he:∀ϱ,bq e X.env ϱ=(do let v<-ϱ;ς e.pos;Ŕ [v] (truthy v)))(hK:X.K=i.K):PT X e<|tTt X i Z<|.val m:=by
 refine(BN h he).imp λσ H Q ⟨env,G,Qm,Em,p,w,c⟩=>?_;refine one p w λv G1 H1 x k1 p1 r q=>?_;let⟨d,e1,q2⟩:=dr q;clear q;refine⟨d,?_,c d G1 H1 k1 p1.hp q2⟩;cases v with
 |non=>cases r;cases e1;rfl
 |bl b=>cases r;cases e1;rfl
 |int b =>
  cases r;cases e1;show fB (b≠0)=(b != 0)
  by_cases e:b=0<;>simp[e]
 |key _ _=>cases e1
 |str b =>
  cases r;let⟨hl,e1⟩:=ZD e1;cases e1;refine⟨by rw[ZH];exact Ü hl Z5,?_⟩;rw[ZH];by_cases e:b.length=0
  .rw[e];rfl
  .rw[fw e];symm;simpa using (by lia:¬ ((b.length:Int)=0))
 |tup xs =>
  cases e1;cases r with
  |tup hp hr =>refine .inr (.inl ⟨_,by rw[hK];exact Zl hp,?_⟩);cases hr<;>rfl
 |scr ns =>
  cases e1;cases r with
  |scr h =>refine .inl ⟨_,by rw[hK];exact Ye h,?_⟩;cases ns<;>rfl
 |ref a =>
  cases r.ref_inv
  replace e1:(match G1 a with|some (.lst xs)=>df (!xs.isEmpty)|some (.dct kvs)=>df (!kvs.isEmpty)|_=>dg)=df d:=e1
  cases z:G1 a with
  |none=>rw[z]at e1;cases e1
  |some o =>
   rw[z]at e1;cases o with
   |lst xs =>cases e1;let⟨vs,h1,h2⟩:=p1.hp a _ z;refine .inl ⟨vs,eY.of h1,?_⟩;cases h2<;>rfl
   |dct kvs =>cases e1;let⟨ps,h1,h2⟩:=p1.hp a _ z;refine .inr<|.inr ⟨ps,h1,?_⟩;cases h2<;>rfl
   |_=>cases e1
def gb(j:Nat){x:Str}(h:blts[j]?=df x):x∈blts:=å h
variable {a:Bool} {b:Bool} {p:Prop}
def an2(h:(a&&b)=dh)(k:a=dh->b=dh->p):p:=k (by cases a;cases h;rfl) (by cases a;cases h;exact h)
variable {c:Bool}
def an3(h:(a&&b&&c)=dh)(k:a=dh->b=dh->c=dh->p):p:=an2 h λh z=>an2 h λx y=>k x y z
variable {d:Bool}
def an4(h:(a&&b&&c&&d)=dh)(k:a=dh->b=dh->c=dh->d=dh->p):p:=an2 h λh z=>an3 h λu x y=>k u x y z
variable {e:Bool}
def an5(h:(a&&b&&c&&d&&e)=dh)(k:a=dh->b=dh->c=dh->d=dh->e=dh->p):p:=an2 h λh z=>an4 h λu x y w=>k u x y w z
variable {f:Bool}
def an6(h:(a&&b&&c&&d&&e&&f)=dh)(k:a=dh->b=dh->c=dh->d=dh->e=dh->f=dh->p):p:=an2 h λh z=>an5 h λu x y w v=>k u x y w v z
def an7{g:Bool}(h:(a&&b&&c&&d&&e&&f&&g)=dh)(k:a=dh->b=dh->c=dh->d=dh->e=dh->f=dh->g=dh->p):p:=an2 h λh z=>an6 h λu x y w v t=>k u x y w v t z
def C8(h:(!a)=dh):a=di:=by cases a;rfl;cases h
def Lh(h:(a||b)=dh):a=dh\/b=dh:=by cases a;exact .inr h;exact .inl rfl
def dt{q:Prop}[Decidable q](h:decide q=dh):q:=of_decide_eq_true h
abbrev Md.gn(c:Md)(y:String):Bool:=c.gl (fE y)&&nm (fE y)
abbrev Kj:O.Bi->Bool
 |.len=>dh
 |.int=>dh
 |.list=>dh
 |.maxL=>dh
 |.sorted=>dh
 |_=>di
abbrev Kp:O.Bi->Bool
 |.len=>dh
 |.int=>dh
 |.list=>dh
 |_=>di
abbrev Lq(c:Md):O.Bi->Bool
 |.isi (T::r)=>c.gl "isinstance" && (T::r).all (λT=>kinds.contains T&&c.gl (fE T))&&fB (r.length<1)
 |.listRange=>c.gl "list" && c.gl "range" && c.cm
 |.minD=>c.gl "min" && c.cm
 |_=>di
abbrev A7:O.Bm->Option Nat
 |.append=>df 1
 |.popAt=>df 1
 |.remove=>df 1
 |.dget=>df 1
 |.dpopD=>df 2
 |.lidx=>df 1
 |_=>dg
abbrev Ai:O.Tt->Bool
 |.yes=>dh
 |_=>di
abbrev Cp:O.E->Bool
 |.var _=>dh
 |.call _ _=>dh
 |.meth _ _ _ _=>dh
 |.bi _ _=>dh
 |.bm _ _ _=>dh
 |.idx _ _=>dh
 |.fld _ _=>dh
 |.glob _ _=>dh
 |_=>di
abbrev Pn:O.E->Bool
 |.cmp _ _ _=>dh
 |.chain _ _ _ _ _=>dh
 |_=>di
mutual
noncomputable def okE:O.E->Md->Expr->Bool
 |.cst v,_,_=>EF v
 |.var j,c,_=>fB (j<c.N.length)&&c.vis (c.nmOf j)&&nm (c.nmOf j)
 |.glob y v,c,_=>c.gn y&&fB (c.cs.lookup y=df v)
 |.bin _ a b,c,x=>okE a c (kid x 0)&&okE b c (kid x 1)
 |.neg a,c,x=>okE a c<|kid x 0
 |.not a,c,x=>okE a c<|kid x 0
 |.and a b,c,x=>okE a c (kid x 0)&&okE b c (rest (ZP b) x)&&(!ZP b||(rest (ZP b) x).pos==x.pos)
 |.or a b,c,x=>okE a c (kid x 0)&&okE b c (rest (Yp b) x)&&(!Yp b||(rest (Yp b) x).pos==x.pos)
 |.cmp o a b,c,x=>okE a c (kid x 0)&&okE b c (kid x 1)&&(!Mm o||BJ b)
 |.chain o1 o2 a b d,c,x=>okE a c (kid x 0)&&okE b c (kid x 1)&&okE d c (kid x 2) && !Mm o1 && !Mm o2
 |.call f as,c,x=>c.gn f&&c.fs.contains f&&c.cm&&okA as c (sub x).tail
 |.make C as,c,x=>c.gn C&&c.cl.contains C&&c.cm&&fB (ZX as≠0)&&okA as c (sub x).tail
 |.meth C m o as,c,x=>c.ms.contains (C,m)&&c.cm&&okE o c (kid (kid x 0) 0)&&Y6 (toX o c<|kid (kid x 0) 0)&&((kid x 0).pos.endLine==x.pos.line)&&fB (ZX as<20)&&okA as c (sub x).tail
 |.fld o f,c,x=>c.fl.contains f&&okE o c (kid x 0)&&Y6 (toX o c<|kid x 0)
 |.bi f as,c,x=>((fB (ZX as=1)&&Lq c f)||(Kj f&&c.gl (O1 f)&&fB (ZX as≠0)&&(c.cm||Kp f)))&&okA as c (Ka f x)
 |.bm m o as,c,x=>fB (A7 m=df (ZX as))&&okE o c (kid (kid x 0) 0)&&Y6 (toX o c<|kid (kid x 0) 0)&&((kid x 0).pos.endLine==x.pos.line)&&okA as c (sub x).tail
 |.idx a b,c,x=>okE a c (kid x 0)&&okE b c (kid x 1)
 |.slc a lo hi,c,x=>okE a c (kid x 0)&&okO lo c (kid (kid x 1) 0)&&okO hi c (kid (kid x 1) 1)
 |.tup es,c,x=>okA es c (sub x)&&fB (ZX es<=1000)
 |.lst es,c,x=>okA es c (sub x)&&fB (ZX es<=1000)
 |.dct es,c,x=>okA es c (sub x)&&Wv es&&fB (esL es<=30)
 |.ife t a b,c,x=>okT t c (kid x 0)&&okE a c (kid x 1)&&okE b c (kid x 2)
 |.comp ô m p it t e,c,x=>(OK m p&&(Xd<|kid x 1).length==m)&&c.cm&&Yy (scp x) c.sc c.N (Xd<|kid x 1) ô&&(scp x).kind == .function&&okI it c (kid x 2) (!ZU p)&&okE e (c.blk (scp x) (Xd<|kid x 1) ô) (kid x 0)&&(Ai t||okT t (c.blk (scp x) (Xd<|kid x 1) ô) (kid x 3))
 |_,_,_=>di
noncomputable def okA:O.Es->Md->List Expr->Bool
 |.nil,_,_=>dh
 |.cons e es,c,xs=>okE e c (xs.headD dE)&&okA es c xs.tail
noncomputable def okO:O.Oe->Md->Expr->Bool
 |.none,_,_=>dh
 |.some e,c,x=>okE e c x
noncomputable def okT:O.Tt->Md->Expr->Bool
 |.yes,_,_=>di
 |.val e,c,x=>okE e c x&&(Cp e||Pn e)
 |.not t,c,x=>okT t c<|kid x 0
 |.and a b,c,x=>okT a c (kid x 0)&&okT b c (rest (Zp b) x)&&(!Zp b||(rest (Zp b) x).pos==x.pos)
 |.or a b,c,x=>okT a c (kid x 0)&&okT b c (rest (ZC b) x)&&(!ZC b||(rest (ZC b) x).pos==x.pos)
noncomputable def okI:O.It->Md->Expr->Bool->Bool
 |.seq e,c,x,_=>okE e c x
 |.range a,c,x,_=>c.gl "range" && okE a c (kid x 1)
 |.zip a b,c,x,t=>t&&c.gl "zip" && okE a c (kid x 1)&&okE b c (kid x 2)
 |.items e,c,x,_=>okE e c x
 |_,_,_,_=>di
end
variable {X:Cx}{i:Inf}{P:O.Pg}{n:Nat}{c:Md}
variable {es:List Expr} {q:Pos} {l:Nat}
def D5(g:Gd X i P n c){f:O.Bi}(hp:Kj f=dh)(cN:(c.cm||Kp f)=dh){e:Expr}{as:O.Es}{p:Pos}(hg:Gl X<|O1 f)(ha:PA X (e::es)<|tAr X i (O.wF P n) as l)
  (he:Ñ (e::es) X.env=(di,eval e X.env)::Ñ es X.env) (hpl:(Ĕ p<|Ñ es X.env).any (·.1)=di):PE X (.Call (.Name (O1 f) q) (e::es) [] p)<|tE X i (O.wF P n)<|.bi f as:=by
 have hc:Kp f=di->X.calm=dh:=λz=>g.calm (by rw[z,aO]at cN;exact cN);cases f with
 |len=>exact(Xx ((call_len_seq.or Kr).or UB) hg (g.bl _<|gb 10 rfl) (by kernel_rfl) ha (he:=he) (hpl:=hpl)).imp (MF<|by rw[g.K];exact F0)
 |int=>exact(JS (call_int1.or Jq) hg (g.bl _<|gb 1 rfl) (by kernel_rfl) ha (he:=he) (hpl:=hpl)).imp<|MF Fv
 |list=>exact(JS Kd hg (g.bl _<|gb 4 rfl) (by kernel_rfl) ha (he:=he) (hpl:=hpl)).imp (MF<|by rw[g.K];exact Cz)
 |maxL=>exact(Xx ((Us<|hc rfl).or<|UI<|hc rfl) hg (g.bl _<|gb 7 rfl) (by kernel_rfl) ha (he:=he) (hpl:=hpl)).imp (MF<|by rw[g.K];exact CC)
 |sorted=>exact(Xx (call_sorted.or<|(Kz<|hc rfl).or Kq) hg (g.bl _<|gb 11 rfl) (by kernel_rfl) ha (he:=he) (hpl:=hpl)).imp (MF<|by rw[g.K];exact UF)
 |_=>cases hp
variable {T:String}
def IN(hT:T∈kinds):fE T∈blts/\ń (fE T)=df (.type T)/\fE T≠"__name__"/\(fE T==("__debug__" : Str))=di:=by
 simp![kinds,Æ,Õ,or_false]at hT;rcases hT with rfl|rfl|rfl|rfl|rfl|rfl
 .exact⟨gb 1 rfl,by kernel_rfl,by decide,by decide⟩
 .exact⟨gb 2 rfl,by kernel_rfl,by decide,by decide⟩
 .exact⟨gb 3 rfl,by kernel_rfl,by decide,by decide⟩
 .exact⟨gb 4 rfl,by kernel_rfl,by decide,by decide⟩
 .exact⟨gb 5 rfl,by kernel_rfl,by decide,by decide⟩
 .exact⟨gb 6 rfl,by kernel_rfl,by decide,by decide⟩
def Ah(g:Gd X i P n c){e:Expr}{m:O.E}{p p2 ç:Pos}(hT:T∈kinds)(h2:c.gl "isinstance" = dh)(h5:c.gl (fE T)=dh)(he:PE X e<|tE X i (O.wF P n) m)(ű:Ñ [e,.Name (fE T) p2] X.env=(di,eval e X.env)::Ñ [.Name (fE T) p2] X.env) :
  PE X (.Call (.Name "isinstance" p) [e,.Name (fE T) p2] [] ç) (tE X i (O.wF P n)<|.bi (.isi [T])<|.cons m .nil):=by
 have k:=IN hT;exact Iw hT he g.K (g.gl h2) (g.bl _<|gb 0 rfl) (g.gl h5) (g.bl _ k.1) k.2.1 k.2.2.1 k.2.2.2 ű
variable {m:O.Bm} {o:Expr} {mo:O.E} {Ľ:Pos} {ŏ:Pos}
def Bu(g:Gd X i P n c)(h:A7 m=df 0)(ho:PE X o<|tE X i (O.wF P n) mo)(hb:∀f,ė o f X.env (eval o X.env)=eval o X.env)(hl:(Ľ.endLine==ŏ.line)=dh) :
  PE X (.Call (.Attribute o (Fq m) Ľ) [] [] ŏ) (tE X i (O.wF P n)<|.bm m mo .nil):=by
 cases m with
 |_=>cases h
def De(g:Gd X i P n c){k:Nat}(h:A7 m=df (k+1)){e:Expr}{ms:O.Es}(ho:PE X o<|tE X i (O.wF P n) mo)(ha:PA X (e::es)<|tAr X i (O.wF P n) ms l)(hb:∀f,ė o f X.env (eval o X.env)=eval o X.env)(hl:(Ľ.endLine==ŏ.line)=dh)
  (Ϡ:((Ĕ ŏ<|Ñ (e::es) X.env).all (λx=>!x.1)&&(š ŏ<|Ķ [] X.env).all (λx=>x.1.isSome)&&fB ((e::es).length+([]:List ah).length+(if([]:List ah).isEmpty then 0 else 1)<30))=dh)
  (hs:Ñ (e::es) X.env=(di,eval e X.env)::Ñ es X.env) (hpl:(Ĕ ŏ<|Ñ es X.env).any (·.1)=di) :
  PE X (.Call (.Attribute o (Fq m) Ľ) (e::es) [] ŏ) (tE X i (O.wF P n)<|.bm m mo ms):=by
 have u1:X.A.units+1<ğ:=by have:=g.un;lia
 cases m with
 |append=>exact OP g.K PySem.F.plainAttrs_list PySem.F.slot_list_append PySem.F.type_list_append OI (CS rfl) Fw ho ha (hb _) Ϡ hl hs hpl
 |popAt=>exact OP g.K PySem.F.plainAttrs_list PySem.F.slot_list_pop PySem.F.type_list_pop AK (CS rfl) CH ho ha (hb _) Ϡ hl hs hpl
 |remove=>exact OP g.K PySem.F.plainAttrs_list PySem.F.slot_list_remove PySem.F.type_list_remove Uu (CS rfl) FI ho ha (hb _) Ϡ hl hs hpl
 |lidx=>exact OP g.K PySem.F.plainAttrs_list PySem.F.slot_list_index PySem.F.type_list_index DU (CS rfl) FF ho ha (hb _) Ϡ hl hs hpl
 |dget=>exact OP g.K PySem.F.plainAttrs_dict PySem.F.slot_dict_get PySem.F.type_dict_get (Bv u1) (HN rfl) GJ ho ha (hb _) Ϡ hl hs hpl
 |dpopD=>exact OP g.K PySem.F.plainAttrs_dict PySem.F.slot_dict_pop PySem.F.type_dict_pop (mt_dpop.or Ck) (HN rfl) DG ho ha (hb _) Ϡ hl hs hpl
 |_=>cases h
variable {sc:Ť} {ô:List Nat}
def Gd.blk(g:Gd X i P n c){x:List Str}(hb:Yy sc c.sc c.N x ô=dh)(hk:sc.kind=.function)(cl:List<|Str×Ç)(C:Ç)(s:Å)(H:Hp)(ex:List Ç) :
  Gd (ZA X sc (ZZ X x ô) cl C s H ex) i P n (c.blk sc x ô) where
 K:=g.K
 N:=by show ZZ X x ô=_;unfold ZZ;rw[g.N];rfl
 sc:=by show bg sc X.env=_;unfold bg Env.kindOf;rw[g.sc];rfl
 nd:=by have B:=NG g.sc g.N hk hb;have:=B.nd;unfold ZZ at this;rw[g.N]at this;exact this
 un:=g.un
 calm:=g.calm
 room:=g.room
 bl:=g.bl
 dfs:=g.dfs
 cst:=g.cst
 kl:=⟨g.kl.A,g.kl.F,g.kl.mkc,g.kl.mth⟩
 xl:=λh=>⟨(g.xl h).xc,(g.xl h).rs,(g.xl h).kn⟩
def Gd.pt(g:Gd X i P n c)(cN:c.cm=dh){xs:List Str}(hb:Yy sc c.sc c.N xs ô=dh)(hk:sc.kind=.function){p:O.Pt}(hp:OK xs.length p=dh)(x:Expr)(cl:List<|Str×Ç)(C:Ç)(s:Å)(H:Hp)(ex:List Ç) :
  PG (ZA X sc (ZZ X xs ô) cl C s H ex) (toP p (c.blk sc xs ô) x) (gPt i p):=by
 have B:=NG g.sc g.N hk hb;have G:=g.blk hb hk cl C s H ex;have key:∀j,j<xs.length->BE (ZA X sc (ZZ X xs ô) cl C s H ex) (c.blk sc xs ô) j:=λj hj=>by
  have e:(c.blk sc xs ô).nmOf j=xs[j]:=by unfold Md.nmOf Md.blk;show(xs++_).getD j _=_;rw[ì,ÿ hj,Ï hj];rfl
  have lo:=lookup_relabel_local (env:=X.env)<|B.own xs[j]<|Š hj;unfold BE;rw[e];refine⟨?_,.inl lo,.inr lo⟩;show(xs++_)[j]?=_;rw[ÿ hj,Ï hj]
 refine EH G.K (by rw[G.N];exact G.nd) (g.calm cN) ?_;cases p with
 |one j=>exact key j<|of_decide_eq_true hp
 |many js=>exact λj hj=>key j<|of_decide_eq_true<|Ă.mp hp j hj
 |nest j js=>cases hp
def NR{b:O.E}(h:ZP b=dh):∃a d,b=.and a d:=O.E.and.elim (motive_1:=λb=>∃a d,b=.and a d) b (eq_of_beq h) λa d=>⟨a,d,rfl⟩
def Cb{b:O.E}(h:Yp b=dh):∃a d,b=.or a d:=O.E.or.elim (motive_1:=λb=>∃a d,b=.or a d) b (eq_of_beq h) λa d=>⟨a,d,rfl⟩
def AE{b:O.Tt}(h:Zp b=dh):∃a d,b=.and a d:=O.Tt.and.elim (motive_4:=λb=>∃a d,b=.and a d) b (eq_of_beq h) λa d=>⟨a,d,rfl⟩
def Dl{b:O.Tt}(h:ZC b=dh):∃a d,b=.or a d:=O.Tt.or.elim (motive_4:=λb=>∃a d,b=.or a d) b (eq_of_beq h) λa d=>⟨a,d,rfl⟩
def Kk{p:Pos}(h:(!b||p==q)=dh)(hb:b=dh):p=q:=by rw[hb]at h;exact eq_of_beq h
variable {Z:O.Fs} {x:Expr}
def A0{b:O.E}(hp:(!ZP b||(rest (ZP b) x).pos==x.pos)=dh)(h:PE X (toX b c<|rest (ZP b) x)<|tE X i Z b):PE X (.BoolOp .And (Y7 (ZP b)<|toX b c<|rest (ZP b) x) x.pos)<|tE X i Z b:=by
 cases z:ZP b with
 |false=>rw[z]at h;exact Ag h
 |true =>have e:=Kk hp z;rw[z]at e h;let⟨a,d,rfl⟩:=NR z;show PE X (.BoolOp .And (sub<|.BoolOp .And _ (rest dh x).pos) x.pos) _;rw[<-e];exact h
def Dw{b:O.E}(hp:(!Yp b||(rest (Yp b) x).pos==x.pos)=dh)(h:PE X (toX b c<|rest (Yp b) x)<|tE X i Z b):PE X (.BoolOp .Or (Y7 (Yp b)<|toX b c<|rest (Yp b) x) x.pos)<|tE X i Z b:=by
 cases z:Yp b with
 |false=>rw[z]at h;exact Ag h
 |true =>have e:=Kk hp z;rw[z]at e h;let⟨a,d,rfl⟩:=Cb z;show PE X (.BoolOp .Or (sub<|.BoolOp .Or _ (rest dh x).pos) x.pos) _;rw[<-e];exact h
def JM(b:Bool){e:O.E}(h:b=ZP e\/b=Yp e):∃y ys,Y7 b (toX e c x)=y::ys:=by
 cases b with
 |false=>exact⟨_,_,rfl⟩
 |true =>
  rcases h with h|h
  .obtain⟨a,d,rfl⟩:=NR h.symm;exact⟨_,_,rfl⟩
  .obtain⟨a,d,rfl⟩:=Cb h.symm;exact⟨_,_,rfl⟩
variable {i:Inf}{P:O.Pg}{n:Nat}
variable {X:Cx} {c:Md} {Z:O.Fs} {b:O.Tt} {x:Expr}
def Uc(hp:(!Zp b||(rest (Zp b) x).pos==x.pos)=dh)(h:PT X (toT b c<|rest (Zp b) x)<|tTt X i Z b)(h2:(Zp b||ZC b)=dh->PW X (toT b c<|rest (Zp b) x) (tTt X i Z b)) :
  ∃y ys,Y7 (Zp b) (toT b c<|rest (Zp b) x)=y::ys/\PW X (.BoolOp .And (y::ys) x.pos) (tTt X i Z b):=by
 cases z:Zp b with
 |false=>rw[z]at h;exact⟨_,_,rfl,DY h⟩
 |true =>have e:=Kk hp z;rw[z]at e h2;let⟨a,d,rfl⟩:=AE z;refine⟨_,_,rfl,?_⟩;rw[<-e];exact h2 rfl
def Am(hp:(!ZC b||(rest (ZC b) x).pos==x.pos)=dh)(h:PT X (toT b c<|rest (ZC b) x)<|tTt X i Z b)(h2:(Zp b||ZC b)=dh->PW X (toT b c<|rest (ZC b) x) (tTt X i Z b)) :
  ∃y ys,Y7 (ZC b) (toT b c<|rest (ZC b) x)=y::ys/\PW X (.BoolOp .Or (y::ys) x.pos) (tTt X i Z b):=by
 cases z:ZC b with
 |false=>rw[z]at h;exact⟨_,_,rfl,Fk h⟩
 |true =>have e:=Kk hp z;rw[z]at e h2;let⟨a,d,rfl⟩:=Dl z;refine⟨_,_,rfl,?_⟩;rw[<-e];exact h2 rfl
variable {ô:List Nat} {p:O.Pt} {it:O.It} {ç:Pos}
def JL(g:Gd X i P n c){mt:O.Tt}{me:O.E}{aW iter aK:Expr}{x:List Str}{ay:List Expr}{sc:Ť}(cN:c.cm=dh)(h1:Yy sc c.sc c.N x ô=dh)(hk:sc.kind=.function)(hp:OK x.length p=dh)
  (hi:PI X aK iter<|tIt X i (O.wF P n) it) (hs:∀y,Đ iter X.env y=pure y) (hG:∀cl C s H ex,PG (ZA X sc (ZZ X x ô) cl C s H ex) aK<|gPt i p)
  (hE:∀cl C s H ex,PE (ZA X sc (ZZ X x ô) cl C s H ex) aW<|tE0 i (O.wF P n) me) (hI:∀cl C s H ex,PIfs (ZA X sc (ZZ X x ô) cl C s H ex) ay<|tT0 i (O.wF P n) mt) :
  PE X (.ListComp aW [⟨aK,iter,ay,0⟩] sc ç) (tE X i (O.wF P n)<|.comp ô x.length p it mt me)/\
   ∀(y:Str) (py Λ:Pos) (j:Nat),X.N[j]?=df y->L2.Loc X.env.scope y->(X.fn y=dh\/X.env.scope.names.lookup y=df .local)->ś (.ListComp aW [⟨aK,iter,ay,0⟩] sc ç) (df<|.Name y py) Λ.line X.env=pure dh->PS X (.Assign [.Name y py] (.ListComp aW [⟨aK,iter,ay,0⟩] sc ç) Λ) (tSt X i (O.wF P n)<|.set (.one j)<|.comp ô x.length p it mt me):=by
 have B:=NG g.sc g.N hk h1;have hc:=g.calm cN;refine⟨(BZ hc B hi hG hI hE hs).imp<|NJ hp,λy py Λ j hj hl hf hsw=>?_⟩;refine(AG (by rw[g.N];exact g.nd) hj hl hc B hi hG hI hE hs hsw hf).imp λD σ H ⟨env,G,N,R,Bk,Ct,Xe,p,w,e⟩=>?_;refine NJ hp σ H _ ⟨env,G,_,Xe env,p.pre,w,λv G1 H1 x k1 g1 r1 w1=>?_⟩;let⟨Ĳ,e2,w2⟩:=dr w1;clear w1;cases e2;exact e.nx _ _ G1 H1 k1 g1 ((p.en.keep k1).set r1 j) w2
def AI{j:Nat}(hN:X.N=c.N)(h:j<c.N.length):X.N[j]?=df (c.nmOf j):=by rw[hN];unfold Md.nmOf;rw[ì,Ï h];rfl
def C6{o:Expr}{m:Str}{Ľ:Pos}{args:List Expr}{env:Env}(hb:ė o m env (eval o env)=eval o env)(Ϡ:bB (args.length+0) (Ĕ ç<|Ñ args env) (š ç<|Ķ [] env)=dh)(hl:(Ľ.endLine==ç.line)=dh) :
  eval (.Call (.Attribute o m Ľ) args [] ç) env=(do
    let ov<-eval o env
    ς Ľ.atName
    let (f,first)<-Ŕ [ov] (Ζ ov m<|do return (<-importBound o env).getD dh)
    bu ç f first (Ĕ ç<|Ñ args env) (š ç<|Ķ [] env)):=by
 show(do
   let ov<-ė o m env (eval o env)
   ς Ľ.atName
   methodCall o m Ľ ç env ov (args.length+0) (Ĕ ç<|Ñ args env) (š ç<|Ķ [] env))=_
 rw[hb];unfold methodCall methodCallPos;rw[Ϡ,hl];rfl
def Hj(env:Env)(ç:Pos){as:O.Es}{xs:List Expr}(h:ZX as<20):bB ((toA as c xs).length+0) (Ĕ ç<|Ñ (toA as c xs) env) (š ç<|Ķ [] env)=dh:=by unfold bB;rw[bAq,bAq,fz,XD];refine⟨⟨W5 env ç as c xs,rfl⟩,?_⟩;show ZX as+0+0<30;lia
def HP{m:O.Tt}(h:Ai m=di->PT X (toT m c x) (tTt X i (O.wF P n) m)):PIfs X (toF m c x)<|tT0 i (O.wF P n) m:=by
 cases m with
 |yes=>exact GI
 |val e=>exact Xz<|pt0<|h rfl
 |not t=>exact Xz<|pt0<|h rfl
 |and a b=>exact Xz<|pt0<|h rfl
 |or a b=>exact Xz<|pt0<|h rfl
def KW(c:Md):∀(es:O.Es) (xs:List Expr),Wv es=dh->(Y4<|toA es c xs).all (·.isSome)=dh/\(Y4<|toA es c xs).length=(O7<|toA es c xs).length/\2*(Y4<|toA es c xs).length=esL es
 |.nil,_,_=>⟨rfl,rfl,rfl⟩
 |.cons _ .nil,_,h=>by cases h
 |.cons k (.cons v r),xs,h=>by
  let⟨h1,h2,h3⟩:=KW c r xs.tail.tail h;refine⟨?_,?_,?_⟩
  .show(dh&&(Y4<|toA r c xs.tail.tail).all (·.isSome))=dh;rw[h1];rfl
  .show(Y4<|toA r c xs.tail.tail).length+1=(O7<|toA r c xs.tail.tail).length+1;rw[h2]
  .show 2*((Y4<|toA r c xs.tail.tail).length+1)=esL r+1+1;lia
def E9(g:Gd X i P n c):X.A.units+1<ğ:=by have:=g.un;lia
variable {a:O.E}
def Ap{b:O.E}(ha:PE X (toX a c<|kid x 0)<|tE X i Z a)(hp:(!ZP b||(rest (ZP b) x).pos==x.pos)=dh)(hb:PE X (toX b c<|rest (ZP b) x)<|tE X i Z b):PE X (toX (.and a b) c x)<|tE X i Z<|.and a b:=by have h2:=A0 hp hb;let⟨y,ys,e⟩:=JM (c:=c) (ZP b) (e:=b) (x:=rest (ZP b) x)<|.inl rfl;show PE X (.BoolOp .And (toX a c (kid x 0)::Y7 (ZP b) (toX b c<|rest (ZP b) x)) x.pos) _;rw[e]at h2 ⊢;exact Ll ha h2
def DI{b:O.E}(ha:PE X (toX a c<|kid x 0)<|tE X i Z a)(hp:(!Yp b||(rest (Yp b) x).pos==x.pos)=dh)(hb:PE X (toX b c<|rest (Yp b) x)<|tE X i Z b):PE X (toX (.or a b) c x)<|tE X i Z<|.or a b:=by have h2:=Dw hp hb;let⟨y,ys,e⟩:=JM (c:=c) (Yp b) (e:=b) (x:=rest (Yp b) x)<|.inr rfl;show PE X (.BoolOp .Or (toX a c (kid x 0)::Y7 (Yp b) (toX b c<|rest (Yp b) x)) x.pos) _;rw[e]at h2 ⊢;exact PD ha h2
section
variable {X:Cx}{c:Md}{f C m:String}{o:O.E}{as:O.Es}{x:Expr}
def Ug(g:Gd X i P n c)(h1:c.gn f=dh)(h3:c.fs.contains f=dh)(h4:c.cm=dh)(ha:PA X (toA as c (sub x).tail)<|tAr X i (O.wF P n) as (toA as c (sub x).tail).length):PE X (toX (.call f as) c x)<|tE X i (O.wF P n)<|.call f as:=an2 h1 λh1 h2=>by
 cases as with
 |nil=>exact En g.K (g.dfs _ h3) (g.rm h4) (g.gl h1) (JB h2).1
 |cons a as=>exact Gi g.K (g.dfs _ h3) (g.rm h4) (g.gl h1) (JB h2).1 ha (ZF ..)<|Yg ..
def UA(g:Gd X i P n c)(h1:c.gn C=dh)(h3:c.cl.contains C=dh)(h4:c.cm=dh)(h6:fB (ZX as≠0)=dh)(ha:PA X (toA as c (sub x).tail)<|tAr X i (O.wF P n) as (toA as c (sub x).tail).length):PE X (toX (.make C as) c x)<|tE X i (O.wF P n)<|.make C as:=an2 h1 λh1 h2=>by
 let⟨a,f,i1,i2,M,hm,D⟩:=g.kl.mkc C h3;cases as with
 |nil=>exact fA rfl<|dt h6
 |cons b as=>exact GB g.K i1 i2 M D (g.room h4) (g.gl h1) hm (JB h2).1 ha (ZF ..)<|Yg ..
def Uy(g:Gd X i P n c)(h1:c.ms.contains (C,m)=dh)(h2:c.cm=dh)(h4:Y6 (toX o c<|kid (kid x 0) 0)=dh)(h6:((kid x 0).pos.endLine==x.pos.line)=dh)(h7:fB (ZX as<20)=dh)(ho:PE X (toX o c<|kid (kid x 0) 0)<|tE X i (O.wF P n) o)(ha:PA X (toA as c (sub x).tail)<|tAr X i (O.wF P n) as (toA as c (sub x).tail).length):PE X (toX (.meth C m o as) c x)<|tE X i (O.wF P n)<|.meth C m o as:=by
 have ev:=C6 (m:=fE m) (Yh h4 _ X.env) (Hj X.env x.pos (c:=c) (xs:=(sub x).tail)<|dt h7) h6;let⟨a,f,i1,A,M,D⟩:=g.kl.mth C m h1;cases as with
 |nil=>exact Ea g.K i1 A M D (g.rm h2) ho ev
 |cons b as=>exact Hk g.K i1 A M D (g.rm h2) ho ha (ZF ..) (Yg ..) ev
def Dh{f:O.Bi}(g:Gd X i P n c)(h:Lq c f=dh)(he:PE X (toX a c<|(Ka f x).headD dE)<|tE X i (O.wF P n) a):PE X (toX (.bi f<|.cons a .nil) c x)<|tE X i (O.wF P n)<|.bi f<|.cons a .nil:=by
 cases f with
 |isi Ts=>cases Ts with
  |nil=>cases h
  |cons T r =>
   refine an3 h λh1 h2 h3=>?_;cases r with
   |nil=>exact an2 h2 λh2 _=>an2 h2 λh2 h4=>Ah g (ý.mp h2) h1 h4 he<|ZF ..
   |cons b r=>exact fA (dt h3) (by simp)
 |listRange=>exact an3 h λh1 h2 h3=>Ml (g.calm h3) he (g.gl h1) (g.bl _<|gb 4 rfl) (g.gl h2) (g.bl _<|gb 9 rfl) (by rw[ZF];rfl)
 |minD=>exact an2 h λh1 h3=>F5 (g.calm h3) (E9 g) g.K (g.gl h1) (g.bl _<|gb 8 rfl) he (by rw[ZF];rfl)
 |_=>cases h
def Dm{f:O.Bi}(g:Gd X i P n c)(h1:Kj f=dh)(h2:c.gl (O1 f)=dh)(h3:fB (ZX as≠0)=dh)(h4:(c.cm||Kp f)=dh)(ha:PA X (toA as c<|Ka f x)<|tAr X i (O.wF P n) as (toA as c<|Ka f x).length):PE X (toX (.bi f as) c x)<|tE X i (O.wF P n)<|.bi f as:=by
 cases as with
 |nil=>exact fA rfl<|dt h3
 |cons a as =>
  have e1:toX (.bi f<|.cons a as) c x=.Call (.Name (O1 f) (kid x 0).pos) (toA (.cons a as) c<|Ka f x) [] x.pos:=by cases f<;>first|(cases h1;done)|rfl
  rw[e1];exact D5 g h1 h4 (g.gl h2) ha (ZF ..)<|Yg ..
def Hx{m:O.Bm}{k:Nat}(h:A7 m=df k):k<=2:=by cases m<;>first|(cases h;done)|(cases h;decide)
def C9{m:O.Bm}(g:Gd X i P n c)(h1:A7 m=df (ZX as))(h3:Y6 (toX o c<|kid (kid x 0) 0)=dh)(h4:((kid x 0).pos.endLine==x.pos.line)=dh)(ho:PE X (toX o c<|kid (kid x 0) 0)<|tE X i (O.wF P n) o)(ha:PA X (toA as c (sub x).tail)<|tAr X i (O.wF P n) as (toA as c (sub x).tail).length):PE X (toX (.bm m o as) c x)<|tE X i (O.wF P n)<|.bm m o as:=by
 cases as with
 |nil=>exact Bu g h1 ho (λf=>Yh h3 f _) h4
 |cons a as =>refine De g h1 ho ha (λf=>Yh h3 f _) h4 ?_ (ZF ..)<|Yg ..;rw[bAq,bAq,fz];refine⟨⟨W5 X.env x.pos (.cons a as) c (sub x).tail,rfl⟩,?_⟩;have e2:(toA (.cons a as) c (sub x).tail).length=ZX (.cons a as):=XD ..;have e3:=Hx h1;show(toA (.cons a as) c (sub x).tail).length+0+0<30;lia
def AW{es:O.Es}(h2:Wv es=dh)(h3:esL es<=30)(hp:PPs X x.pos (Y4<|toA es c<|sub x) (O7<|toA es c<|sub x)<|Mj X i (O.wF P n) es):PE X (toX (.dct es) c x)<|tE X i (O.wF P n)<|.dct es:=by
 cases es with
 |nil=>exact G8
 |cons k r=>cases r with
  |nil=>cases h2
  |cons v r =>let⟨q1,q2,q3⟩:=KW c (.cons k<|.cons v r) (sub x) h2;exact Ir h2 h3 hp q1 q2 (by intro z;cases z) (by rw[<-q3]at h3;lia)
def Bc(g:Gd X i P n c)(z:Cp a=dh)(he:PE X (toX a c x)<|tE X i Z a):PT X (toT (.val a) c x)<|tTt X i Z<|.val a:=F6 he (by cases a<;>first|(cases z;done)|exact λ_=>rfl) g.K
def UN{a:O.Tt}(ha:PT X (toT a c<|kid x 0)<|tTt X i Z a)(hp:(!Zp b||(rest (Zp b) x).pos==x.pos)=dh)(h2:PT X (toT b c<|rest (Zp b) x) (tTt X i Z b)/\((Zp b||ZC b)=dh->PW X (toT b c<|rest (Zp b) x) (tTt X i Z b))):PW X (toT (.and a b) c x)<|tTt X i Z<|.and a b:=by let⟨y,ys,e,h3⟩:=Uc hp h2.1 h2.2;show PW X (.BoolOp .And (toT a c (kid x 0)::Y7 (Zp b) (toT b c<|rest (Zp b) x)) x.pos) _;rw[e];exact Gw ha h3
def Ce{a:O.Tt}(ha:PT X (toT a c<|kid x 0)<|tTt X i Z a)(hp:(!ZC b||(rest (ZC b) x).pos==x.pos)=dh)(h2:PT X (toT b c<|rest (ZC b) x) (tTt X i Z b)/\((Zp b||ZC b)=dh->PW X (toT b c<|rest (ZC b) x) (tTt X i Z b))):PW X (toT (.or a b) c x)<|tTt X i Z<|.or a b:=by let⟨y,ys,e,h3⟩:=Am hp h2.1 h2.2;show PW X (.BoolOp .Or (toT a c (kid x 0)::Y7 (ZC b) (toT b c<|rest (ZC b) x)) x.pos) _;rw[e];exact HM ha h3
end
mutual
theorem eE:∀(m:O.E) (X:Cx) (c:Md) (x:Expr),Gd X i P n c->okE m c x=dh->PE X (toX m c x) (tE X i (O.wF P n) m)
 |.cst v,X,c,x,g,h=>FT h
 |.var j,X,c,x,g,h=>an3 h λh1 h2 h3=>LB (AI g.N<|dt h1) (g.vis h2) (JB h3).1 (JB h3).2.1
 |.glob y v,X,c,x,g,h=>an2 h λh h2=>an2 h λh1 h3=>(g.cst _ _<|dt h2).elim λu k=>k.elim λz k=>Fu (D8 (g.gl h1) k.1 k.2.1 (JB h3).1) k.2.2
 |.bin o a b,X,c,x,g,h=>an2 h λh1 h2=>II g (eE a X c _ g h1)<|eE b X c _ g h2
 |.neg a,X,c,x,g,h=>Lp<|eE a X c _ g h
 |.not a,X,c,x,g,h=>IG<|eE a X c _ g h
 |.and a b,X,c,x,g,h=>an3 h λh1 h2 h3=>Ap (eE a X c _ g h1) h3<|eE b X c _ g h2
 |.or a b,X,c,x,g,h=>an3 h λh1 h2 h3=>DI (eE a X c _ g h1) h3<|eE b X c _ g h2
 |.cmp o a b,X,c,x,g,h=>an3 h λh1 h2 h3=>(MI g h3 (eE a X c _ g h1)<|eE b X c _ g h2).1
 |.chain o1 o2 a b d,X,c,x,g,h=>an5 h λh1 h2 h3 h4 h5=>(Jb g (C8 h4) (C8 h5) (eE a X c _ g h1) (eE b X c _ g h2)<|eE d X c _ g h3).1
 |.call f as,X,c,x,g,h=>an4 h λh1 h3 h4 h5=>Ug g h1 h3 h4<|eA as X c _ g h5
 |.make C as,X,c,x,g,h=>an5 h λh1 h3 h4 h6 h5=>UA g h1 h3 h4 h6<|eA as X c _ g h5
 |.meth C m o as,X,c,x,g,h=>an7 h λh1 h2 h3 h4 h6 h7 h5=>Uy g h1 h2 h4 h6 h7 (eE o X c _ g h3)<|eA as X c _ g h5
 |.meth2 C D m o as,X,c,x,g,h=>nomatch h
 |.fld o f,X,c,x,g,h=>an3 h λh1 h2 h3=>IV g.K g.kl.A (g.kl.F _ h1) (eE o X c _ g h2)<|Yh h3 _ _
 | .bi f as,X,c,x,g,h=>an2 h λh1 h2=>(Lh h1).elim (λh1=>an2 h1 λh3 h1=>by
     cases as with
     |nil=>cases h3
     |cons a as=>cases as with
       |nil=>exact an2 h2 λh2 _=>Dh g h1<|eE a X c _ g h2
       | cons b as=>exact fA (dt h3)<|by simp[ZX]) λh1=>an4 h1 λh1 h3 h4 h5=>Dm g h1 h3 h4 h5<|eA as X c _ g h2
 |.bm m o as,X,c,x,g,h=>an5 h λh1 h2 h3 h4 h5=>C9 g (dt h1) h3 h4 (eE o X c _ g h2)<|eA as X c _ g h5
 |.idx a b,X,c,x,g,h=>an2 h λh1 h2=>Iq (ix_seq.or<|CY<|E9 g) (by rw[g.K];exact HH) (eE a X c _ g h1) (eE b X c _ g h2)<|AM _ _ _
 |.slc a lo hi,X,c,x,g,h=>an3 h λh1 h2 h3=>Lw L5 (by rw[g.K];exact Lv) (eE a X c _ g h1) (eO lo X c _ g h2)<|eO hi X c _ g h3
 |.tup es,X,c,x,g,h=>an2 h λh1 h2=>Ln (by rw[XD];exact dt h2)<|eA es X c _ g h1
 |.key es,X,c,x,g,h=>nomatch h
 |.dctP,X,c,x,g,h=>nomatch h
 |.lst es,X,c,x,g,h=>an2 h λh1 h2=>LC (by rw[XD];exact dt h2)<|eA es X c _ g h1
 |.dct es,X,c,x,g,h=>an3 h λh1 h2 h3=>AW h2 (dt h3)<|eD es X c (sub x) x.pos g h1 h2
 |.ife t a b,X,c,x,g,h=>an3 h λh1 h2 h3=>Ij (eT t X c _ g h1).1 (eE a X c _ g h2)<|eE b X c _ g h3
 |.comp ô m p it t e,X,c,x,g,h=>an7 h λh1 h2 h3 h4 h5 h6 h7=>an2 h1 λh1 hm=>by
  obtain rfl:=eq_of_beq hm;let⟨t1,t2⟩:=Kw (c:=c.blk (scp x) (Xd<|kid x 1) ô) p<|kid x 1;have a:=eI it X c (kid x 2) (toP p (c.blk (scp x) (Xd<|kid x 1) ô)<|kid x 1) g (!ZU p) t1 t2 h5;exact(JL g h2 h3 (eq_of_beq h4) h1 a.1 a.2 (g.pt h2 h3 (eq_of_beq h4) h1 _)
    (λcl C s H ex=>pe0<|eE e _ _ _ (g.blk h3 (eq_of_beq h4) cl C s H ex) h6) (λcl C s H ex=>HP λz=>(eT t _ _ _ (g.blk h3 (eq_of_beq h4) cl C s H ex)<|by rw[z]at h7;exact h7).1)).1
 |.fstr es,X,c,x,g,h=>nomatch h
 |.repl _ _ _,X,c,x,g,h=>nomatch h
 |.split o a,X,c,x,g,h=>nomatch h
 |.rev a,X,c,x,g,h=>nomatch h
 |.sortT a,X,c,x,g,h=>nomatch h
 |.pick a lo hi st,X,c,x,g,h=>nomatch h
theorem eD:∀(es:O.Es) (X:Cx) (c:Md) (xs:List Expr) (ç:Pos),Gd X i P n c->okA es c xs=dh->Wv es=dh->PPs X ç (Y4<|toA es c xs) (O7<|toA es c xs) (Mj X i (O.wF P n) es)
 |.nil,X,c,xs,ç,g,h,he=>Da
 |.cons k .nil,X,c,xs,ç,g,h,he=>by cases he
 |.cons k (.cons v r),X,c,xs,ç,g,h,he=>by have h:(okE k c (xs.headD dE)&&(okE v c (xs.tail.headD dE)&&okA r c xs.tail.tail))=dh:=h;rw[bAq,bAq]at h;exact BR (eE k X c _ g h.1) (eE v X c _ g h.2.1)<|eD r X c _ ç g h.2.2 he
theorem eA:∀(ms:O.Es) (X:Cx) (c:Md) (xs:List Expr),Gd X i P n c->okA ms c xs=dh->PA X (toA ms c xs) (tAr X i (O.wF P n) ms (toA ms c xs).length)
 |.nil,X,c,xs,g,h=>Gg
 |.cons a as,X,c,xs,g,h=>by exact an2 h λh1 h2=>CW (eE a X c _ g h1) (eA as X c _ g h2)<|ZF ..
theorem eO:∀(m:O.Oe) (X:Cx) (c:Md) (x:Expr),Gd X i P n c->okO m c x=dh->PO X (toO m c x) (tOx X i (O.wF P n) m)
 |.none,X,c,x,g,h=>DL
 |.some e,X,c,x,g,h=>Et<|eE e X c _ g h
theorem eT:∀(m:O.Tt) (X:Cx) (c:Md) (x:Expr),Gd X i P n c->okT m c x=dh->PT X (toT m c x) (tTt X i (O.wF P n) m)/\((Zp m||ZC m)=dh->PW X (toT m c x) (tTt X i (O.wF P n) m))
 |.yes,X,c,x,g,h=>nomatch h
 | .val e,X,c,x,g,h=>an2 h λh1 h2=>⟨(Lh h2).elim (λz=>Bc g z<|eE e X c x g h1) (λz=>by
     cases e with
     |cmp o a b=>exact an3 h1 λh1 h2 h3=>(MI g h3 (eE a X c _ g h1)<|eE b X c _ g h2).2
     |chain o1 o2 a b d=>exact an5 h1 λh1 h2 h3 h4 h5=>(Jb g (C8 h4) (C8 h5) (eE a X c _ g h1) (eE b X c _ g h2)<|eE d X c _ g h3).2
     | _=>cases z),λz=>(by cases z)⟩
 |.not t,X,c,x,g,h=>⟨Fm (eT t X c _ g h).1,λz=>(by cases z)⟩
 |.and a b,X,c,x,g,h=>an3 h λh1 h2 h3=>have h:=UN (eT a X c _ g h1).1 h3<|eT b X c _ g h2;⟨h.pt,λ_=>h⟩
 |.or a b,X,c,x,g,h=>an3 h λh1 h2 h3=>have h:=Ce (eT a X c _ g h1).1 h3<|eT b X c _ g h2;⟨h.pt,λ_=>h⟩
theorem eI:∀(m:O.It) (X:Cx) (c:Md) (x tg:Expr),Gd X i P n c->∀(b:Bool),(b=dh->∃es k p,tg=.Tuple es k p)->(b=di->∃y p,tg=.Name y p)->okI m c x b=dh->PI X tg (toI m c x) (tIt X i (O.wF P n) m)/\∀y,Đ (toI m c x) X.env y=pure y
 |.seq e,X,c,x,tg,g,b,t1,t2,h=>⟨FX g.K<|eE e X c _ g h,Bj _ _ _ _⟩
 |.seqT k e,X,c,x,tg,g,b,t1,t2,h=>nomatch h
 |.chars e,X,c,x,tg,g,b,t1,t2,h=>nomatch h
 |.range a,X,c,x,tg,g,b,t1,t2,h=>an2 h λh1 h2=>⟨Bh (g.gl h1) (g.bl _<|gb 9 rfl) (eE a X c _ g h2)<|ZF ..,λ_=>rfl⟩
 |.range2 a d,X,c,x,tg,g,b,t1,t2,h=>nomatch h
 |.zip a d,X,c,x,tg,g,b,t1,t2,h=>an4 h λh0 h1 h2 h3=>by let⟨es,k,p,rfl⟩:=t1 h0;exact⟨GW g.K (g.gl h1) (g.bl _<|gb 17 rfl) (eE a X c _ g h2) (eE d X c _ g h3) (ZF ..)<|ZF ..,λ_=>rfl⟩
 |.enumL e,X,c,x,tg,g,b,t1,t2,h=>nomatch h
 |.enum e,X,c,x,tg,g,b,t1,t2,h=>nomatch h
 |.items e,X,c,x,tg,g,b,t1,t2,h=>⟨Dr<|eE e X c _ g h,Bj _ _ _ _⟩
 |.keysF e,X,c,x,tg,g,b,t1,t2,h=>nomatch h
 |.rev e,_,_,_,_,_,_,_,_,h=>nomatch h
end
def OJ(g:Gd X i P n c){m:Nat}{t:O.Tt}{e:O.E}(h:okE (.comp ô m p it t e) c x=dh) :
  PE X (toX (.comp ô m p it t e) c x) (tE X i (O.wF P n)<|.comp ô m p it t e)/\
   ∀(y:Str) (py Λ:Pos) (j:Nat),X.N[j]?=df y->L2.Loc X.env.scope y->(X.fn y=dh\/X.env.scope.names.lookup y=df .local)->ś (toX (.comp ô m p it t e) c x) (df<|.Name y py) Λ.line X.env=pure dh->PS X (.Assign [.Name y py] (toX (.comp ô m p it t e) c x) Λ) (tSt X i (O.wF P n)<|.set (.one j)<|.comp ô m p it t e):=by
 have h:((OK m p&&(Xd<|kid x 1).length==m)&&c.cm&&Yy (scp x) c.sc c.N (Xd<|kid x 1) ô&&(scp x).kind == .function&&okI it c (kid x 2) (!ZU p)&&okE e (c.blk (scp x) (Xd<|kid x 1) ô) (kid x 0)&&(Ai t||okT t (c.blk (scp x) (Xd<|kid x 1) ô) (kid x 3)))=dh:=h;rw[bAq,bAq,bAq,bAq,bAq,bAq]at h;let⟨⟨⟨⟨⟨⟨h1,h2⟩,h3⟩,h4⟩,h5⟩,h6⟩,h7⟩:=h;rw[bAq,beq_iff_eq]at h1;let⟨h1,rfl⟩:=h1;have hk:=eq_of_beq h4;let⟨t1,t2⟩:=Kw (c:=c.blk (scp x) (Xd<|kid x 1) ô) p<|kid x 1;let⟨a1,a2⟩:=eI it X c (kid x 2) (toP p (c.blk (scp x) (Xd<|kid x 1) ô)<|kid x 1) g (!ZU p) t1 t2 h5;exact JL g h2 h3 hk h1 a1 a2 (g.pt h2 h3 hk h1 _)
  (λcl C s H ex=>pe0<|eE e _ _ _ (g.blk h3 hk cl C s H ex) h6) (λcl C s H ex=>HP λz=>(eT t _ _ _ (g.blk h3 hk cl C s H ex)<|by rw[z]at h7;exact h7).1)
abbrev dS:ġ:=.Pass ⟨0,0,0,0⟩
abbrev stE:ġ->List Expr
 |.Assign ts v _=>v::ts
 |.AugAssign t _ v _=>[v,t]
 |.For t it _ _ _=>[t,it]
 |.While t _ _ _=>[t]
 |.If t _ _ _=>[t]
 |.Expr e _=>[e]
 |.Return (df e) _=>[e]
 |.Raise (df e) _ _=>[e]
 |_=>[]
abbrev ke(s:ġ)(j:Nat):Expr:=(stE s).getD j dE
abbrev stB:ġ->List ġ
 |.For _ _ b _ _=>b
 |.While _ b _ _=>b
 |.If _ b _ _=>b
 |.Try b _ _ _ _=>b
 |_=>[]
abbrev stO:ġ->List ġ
 |.If _ _ b _=>b
 |_=>[]
abbrev stH:ġ->List ExceptHandler
 |.Try _ hs _ _ _=>hs
 |_=>[]
abbrev dH:ExceptHandler:=.ExceptHandler dg dg [] ⟨0,0,0,0⟩
abbrev hT:ExceptHandler->Expr
 |.ExceptHandler (df e) _ _ _=>e
 |_=>dE
abbrev hB:ExceptHandler->List ġ
 |.ExceptHandler _ _ b _=>b
abbrev hP:ExceptHandler->Pos
 |.ExceptHandler _ _ _ p=>p
abbrev Md.hot(c:Md):Md:={c with cm:=di}
abbrev Ii:O.E->Md->ġ->ġ
 |e,c,y=>.Expr (toX e c<|ke y 0) y.pos
abbrev LY(t:Option Nat)(e:O.E)(c:Md)(y:ġ):ġ:=match t with
 |none=>Ii e c y
 |some j=>.Assign [.Name (c.nmOf j) (ke y 1).pos] (toX e c<|ke y 0) y.pos
mutual
noncomputable def toS:O.S->Md->ġ->ġ
 |.set p a,c,s=>.Assign [toP p c<|ke s 1] (toX a c<|ke s 0) s.pos
 |.setIdx a j e,c,s=>.Assign [.Subscript (toX a c<|kid (ke s 1) 0) (toX j c<|kid (ke s 1) 1) (ke s 1).pos] (toX e c<|ke s 0) s.pos
 |.setFront a e,c,s=>.Assign [.Subscript (toX a c<|kid (ke s 1) 0) (.Slice dg (df<|.Constant (.int 0) (num<|kid (kid (ke s 1) 1) 1) (kid (kid (ke s 1) 1) 1).pos) dg (kid (ke s 1) 1).pos) (ke s 1).pos] (toX e c<|ke s 0) s.pos
 |.setPair a i b j e,c,s=>.Assign [.Tuple [.Subscript (toX a c<|kid (kid (ke s 1) 0) 0) (toX i c<|kid (kid (ke s 1) 0) 1) (kid (ke s 1) 0).pos,.Subscript (toX b c<|kid (kid (ke s 1) 1) 0) (toX j c<|kid (kid (ke s 1) 1) 1) (kid (ke s 1) 1).pos] (num<|ke s 1) (ke s 1).pos] (toX e c<|ke s 0) s.pos
 |.setFld o f e,c,s=>.Assign [.Attribute (toX o c<|kid (ke s 1) 0) (fE f) (ke s 1).pos] (toX e c<|ke s 0) s.pos
 |.augVar j op e,c,s=>.AugAssign (.Name (c.nmOf j) (ke s 1).pos) (UO op) (toX e c<|ke s 0) s.pos
 |.augFld o f op n,c,s=>.AugAssign (.Attribute (toX o c<|kid (ke s 1) 0) (fE f) (ke s 1).pos) (UO op) (.Constant (.int n) (num<|ke s 0) (ke s 0).pos) s.pos
 |.augIdx a j op n,c,s=>.AugAssign (.Subscript (toX a c<|kid (ke s 1) 0) (toX j c<|kid (ke s 1) 1) (ke s 1).pos) (UO op) (.Constant (.int n) (num<|ke s 0) (ke s 0).pos) s.pos
 |.expr e,c,s=>.Expr (toX e c<|ke s 0) s.pos
 |.ret e,c,s=>.Return (df<|toX e c<|ke s 0) s.pos
 |.retN,_,s=>.Return dg s.pos
 |.ite t a b,c,s=>.If (toT t c<|ke s 0) (toSs a c<|stB s) (toSs b c<|stO s) s.pos
 |.whl t b,c,s=>.While (toT t c<|ke s 0) (toSs b c<|stB s) [] s.pos
 |.for p it b,c,s=>.For (toP p c<|ke s 0) (toI it c<|ke s 1) (toSs b c<|stB s) [] s.pos
 |.forI dh p e b,c,s=>.For (toP p c<|ke s 0) (toX e c<|ke s 1) (toSs b c<|stB s) [] s.pos
 |.forI di p e b,c,s=>.For (toP p c<|ke s 0) (.Call (.Attribute (toX e c<|kid (kid (ke s 1) 0) 0) "items" (kid (ke s 1) 0).pos) [] [] (ke s 1).pos) (toSs b c<|stB s) [] s.pos
 |.thw m,c,s=>toS m c s
 |.setL js a,c,s=>.Assign [toP (.many js) c<|ke s 1] (toX a c<|ke s 0) s.pos
 |.brk,_,s=>.Break s.pos
 |.cnt,_,s=>.Continue s.pos
 |.pass,_,s=>.Pass s.pos
 |.raise C as,c,s=>.Raise (df<|.Call (.Name (fE C) (kid (ke s 0) 0).pos) (toA as c (sub<|ke s 0).tail) [] (ke s 0).pos) dg s.pos
 |.try t e hs,c,s=>.Try [LY t e c<|(stB s).headD dS] (toH hs c<|stH s) [] [] s.pos
 |.try2 e K b L d,c,s=>.Try [Ii e c<|(stB s).headD dS] [.ExceptHandler (df<|.Name (fE K) (hT<|(stH s).headD dH).pos) dg (toSs b c.hot<|hB<|(stH s).headD dH)<|hP<|(stH s).headD dH,.ExceptHandler (df<|.Name (fE L) (hT<|(stH s).tail.headD dH).pos) dg (toSs d c.hot<|hB<|(stH s).tail.headD dH)<|hP<|(stH s).tail.headD dH] [] [] s.pos
 |_,_,s=>s
noncomputable def toH:O.Hn->Md->List ExceptHandler->List ExceptHandler
 |.nil,_,_=>[]
 |.cons K nm b r,c,xs=>.ExceptHandler (df<|.Name (fE K) (hT<|xs.headD dH).pos) (nm.map c.nmOf) (toSs b c.hot<|hB<|xs.headD dH) (hP<|xs.headD dH)::toH r c xs.tail
noncomputable def toSs:O.Ss->Md->List ġ->List ġ
 |.nil,_,_=>[]
 |.cons m ms,c,xs=>toS m c (xs.headD dS)::toSs ms c xs.tail
end
abbrev IS:O.E->Bool
 |.idx _ _=>dh
 |.var _=>dh
 |.fld _ _=>dh
 |_=>di
abbrev MD(c:Md)(j:Nat):Bool:=fB (j<c.N.length)&&c.loc (c.nmOf j)
abbrev okP(p:O.Pt)(c:Md):Bool:=match p with
 |.one j=>MD c j
 |.many js=>js.all<|MD c
 |.nest j js=>MD c j&&js.all (MD c)
abbrev A8:O.E->Bool
 |.tup _=>dh
 |.key _=>dh
 |_=>di
abbrev By:O.E->Bool
 |.comp _ _ _ _ _ _=>dh
 |_=>di
abbrev swT(c:Md)(tg v:Expr):Bool:=match v,tg with
 |.ListComp _ _ s ç,.Name t p=>(if c.sc.kind.isAnnotationScope then ScopeKind.function else c.sc.kind) == .function&&c.sc.names.lookup t==df .local&&p.line==ç.line && !(s.names.any λ(n,k)=>n==t&&(k == .local||k == .cell))
 |_,_=>di
abbrev ID:O.Bop->Bool
 |.add=>dh
 |.sub=>dh
 |_=>di
abbrev Pm(c:Md)(j:Nat):Bool:=fB (j<c.N.length)&&c.sc.names.lookup (c.nmOf j)==df .local
abbrev LT(c:Md):Option Nat->Bool
 |none=>dh
 |some j=>Pm c j
abbrev HJ:O.Ss->Bool
 |.nil=>di
 |_=>dh
abbrev Lb:O.Hn->Bool
 |.nil=>dh
 |_=>di
mutual
noncomputable def okS:O.S->Md->ġ->Bool
 |.set p a,c,s=>okP p c&&okE a c (ke s 0)&&(ZU p || !A8 a)&&(ZU p||c.cm)
 |.setIdx a j e,c,s=>okE e c (ke s 0)&&okE a c (kid (ke s 1) 0)&&okE j c (kid (ke s 1) 1)
 |.setFld o f e,c,s=>c.fl.contains f&&okE o c (kid (ke s 1) 0)&&okE e c (ke s 0)
 |.augFld o f op _,c,s=>c.fl.contains f&&okE o c (kid (ke s 1) 0)&&ID op
 |.expr e,c,s=>okE e c (ke s 0) && !By e
 |.ret e,c,s=>okE e c<|ke s 0
 |.retN,_,_=>dh
 |.ite t a b,c,s=>okT t c (ke s 0)&&okSs a c (stB s)&&okSs b c (stO s)
 |.for p it b,c,s=>okP p c&&okI it c (ke s 1) (!ZU p)&&okSs b c (stB s)&&c.cm
 |.forI dh p e b,c,s=>okP p c&&IS e&&okE e c (ke s 1)&&okSs b c (stB s)&&c.cm
 |.forI di p e b,c,s=>okP p c && !ZU p&&okE e c (kid (kid (ke s 1) 0) 0)&&Y6 (toX e c<|kid (kid (ke s 1) 0) 0)&&((kid (ke s 1) 0).pos.endLine==(ke s 1).pos.line)&&okSs b c (stB s)&&c.cm
 |.never,_,_=>dh
 |.thw m,c,s=>okS m c s
 |.setL js a,c,s=>okP (.many js) c&&okE a c (ke s 0) && !A8 a&&c.cm
 |_,_,_=>di
noncomputable def okH:O.Hn->Md->List ExceptHandler->Bool
 |.nil,_,_=>di
 |.cons K nm b r,c,xs=>(c.xs.contains K||K == "ShutError")&&c.gn K && !c.xs.isEmpty&&LT c nm&&HJ b&&okSs b c.hot (hB<|xs.headD dH)&&Lb r
noncomputable def okSs:O.Ss->Md->List ġ->Bool
 |.nil,_,_=>dh
 |.cons m ms,c,xs=>okS m c (xs.headD dS)&&okSs ms c xs.tail
end
structure Gs(X:Cx)(i:Inf)(P:O.Pg)(n:Nat)(c:Md):Prop extends Gd X i P n c where
 fn:∀x,c.loc x=dh->X.fn x=dh\/X.env.scope.names.lookup x=df .local
 own:c.cm=dh->ϒ (Û X.prog X.w) X.A X.env X.xe
 stk:c.cm=dh->X.stack=X.env::X.outer
variable {X:Cx}{i:Inf}{P:O.Pg}{n:Nat}{c:Md}
def Gs.nm1(g:Gs X i P n c){j:Nat}(h:MD c j=dh):X.N[j]?=df (c.nmOf j)/\L2.Loc X.env.scope (c.nmOf j)/\(X.fn (c.nmOf j)=dh\/X.env.scope.names.lookup (c.nmOf j)=df .local):=by unfold MD at h;rw[bAq,fz]at h;exact⟨AI g.N h.1,g.loc h.2,g.fn _ h.2⟩
variable {p:O.Pt}
def E5(g:Gs X i P n c)(h:okP p c=dh):E8 (BE X c) p:=by
 cases p with
 |one j=>exact g.nm1 h
 |many js=>exact λj hj=>g.nm1<|Ă.mp h j hj
 |nest j js =>have h:(MD c j&&js.all (MD c))=dh:=h;rw[bAq]at h;exact⟨g.nm1 h.1,λk hk=>g.nm1<|Ă.mp h.2 k hk⟩
variable {x:Expr}
def Ol(g:Gs X i P n c)(cN:c.cm=dh)(h:okP p c=dh):PG X (toP p c x)<|gPt i p:=EH g.K (by rw[g.N];exact g.nd) (g.calm cN) (E5 g h)
variable {tg:Expr}
def Xl{l:Nat}{env:Env}(a:O.E)(x:Expr)(hs:env.scope=c.sc):ś (toX a c x) (df tg) l env=pure (swT c tg<|toX a c x):=by
 cases a with
 |comp ô m p it t e =>
  cases tg with
  |Name t q =>unfold ś swT Env.blockKind Env.kindOf;rw[hs];rfl
  |_=>rfl
 |_=>rfl
def B8(p:O.Pt)(a:O.E)(x y:Expr)(env:Env)(h:(ZU p || !A8 a)=dh):ũ [toP p c x] (toX a c y) env=pure dg:=by
 cases p with
 |one j=>cases a<;>rfl
 |many js=>cases a<;>first|rfl|cases h
 |nest j js=>cases a<;>first|rfl|cases h
def Ay(p:O.Pt)(x:Expr)(env:Env):(ā [toP p c x] env).map (·.2)=[ť (toP p c x) env]:=by cases p<;>rfl
def Gc{a:O.E}(h:swT c tg (toX a c x)=dh):∃ô m p it t e,a=.comp ô m p it t e:=by
 cases a with
 |comp ô m p it t e=>exact⟨_,_,_,_,_,_,rfl⟩
 |_=>cases h
def Dj(y:O.E){b:Expr}{ç:Pos}{env:Env}:∀v,ť (.Subscript b (toX y c x) ç) env v=(do
    let ov<-Ŕ [v] (eval b env)
    let iv<-Ŕ [v,ov] (eval (toX y c x) env)
    ς ç
    Ŕ [v,ov,iv] (setItem ov iv v)
    release [v,ov,iv] []):=by
 intro v;cases y<;>rfl
def Ls{op:O.Bop}(h:ID op=dh):Aj X (UO op)<|rAS op:=by
 cases op with
 |add =>
  intro Â s σ H x y u v Q I rx ry q;let⟨a,b,rfl,rfl,q⟩:=q;rcases q with⟨_,q⟩|⟨z,_⟩
  .exact GR Â s σ H _ _ u v Q I rx ry ⟨a,b,rfl,rfl,q⟩
  .cases z
 |sub =>
  intro Â s σ H x y u v Q I rx ry q;let⟨a,b,rfl,rfl,q⟩:=q;rcases q with⟨z,_⟩|⟨_,q⟩
  .cases z
  .exact Gy Â s σ H _ _ u v Q I rx ry ⟨a,b,rfl,rfl,q⟩
 |_=>cases h
def Cu(t v:Expr)(p:Pos)(env:Env)(h:(∃a b q,t=.Subscript a b q)\/(∃a b q,t=.Attribute a b q)):ũ [t] v env=pure dg:=by rcases h with⟨a,b,q,rfl⟩|⟨a,b,q,rfl⟩<;>rfl
variable {a:O.E} {x:Expr}
def CB{t:Option Expr}{l:Nat}{env:Env}(h:(!By a)=dh):ś (toX a c x) t l env=pure di:=by
 cases a with
 |comp ô m p it tt e=>cases h
 |_=>rfl
def MY{tg:Expr}(h:∀y q,tg≠.Name y q):swT c tg (toX a c x)=di:=by
 cases a with
 |comp ô m p it tt e =>
  cases tg with
  |Name y q=>exact fA rfl<|h y q
  |_=>rfl
 |_=>rfl
def Ft(g:Gs X i P n c){p:O.Pt}(hc:(ZU p||c.cm)=dh)(h:okP p c=dh):PG X (toP p c x)<|gPt i p:=by
 by_cases cN:c.cm=dh
 .exact Ol g cN h
 .cases p with
  |one j =>let⟨h1,h2,h3⟩:=g.nm1 h;exact NB (by rw[g.N];exact g.nd) h1 h2 h3
  |many js=>exact fA hc cN
  |nest j js=>exact fA hc cN
mutual
theorem sS:∀(m:O.S) (X:Cx) (c:Md) (s:ġ),Gs X i P n c->okS m c s=dh->PS X (toS m c s) (tSt X i (O.wF P n) m)
 |.set p a,X,c,s,g,h=>by
  refine an4 h λh1 h2 h3 h4=>?_;by_cases hsw:swT c (toP p c<|ke s 1) (toX a c<|ke s 0)=dh
  .obtain⟨ô,k,pt,it,tt,e,rfl⟩:=Gc hsw;cases p with
   |one j =>let⟨q1,q2,q3⟩:=g.nm1 h1;exact(OJ g.toGd h2).2 _ _ _ j q1 q2 q3 (by rw[<-hsw];exact Xl (c:=c) (.comp ô k pt it tt e) (ke s 0) g.sc)
   |many js=>cases hsw
   |nest j js=>cases hsw
  .have hp:PG X (toP p c<|ke s 1)<|gPt i p:=Ft g h4 h1;exact Gb (eE a X c _ g.toGd h2) hp (by rw[œ,Xl a _ g.sc,Bool.eq_false_iff.mpr hsw]) (B8 p a _ _ _ h3)<|Ay p _ _
 |.setIdx a j e,X,c,s,g,h=>by refine an3 h λh1 h2 h3=>?_;have ha:=eE a X c _ g.toGd h2;have hj:=eE j X c _ g.toGd h3;exact OS g.K (eE e X c _ g.toGd h1) ha hj (Fi ha hj (PSet.or Ak<|B3 (by have:=g.un;lia))<|Dj j) (by rw[œ,Xl e _ g.sc,MY λy q z=>(by cases z)]) (Cu _ _ (ke s 1).pos _<|.inl ⟨_,_,_,rfl⟩) rfl
 |.setFront a e,X,c,s,g,h=>nomatch h
 |.setPair a j b k e,X,c,s,g,h=>nomatch h
 |.setFld o f e,X,c,s,g,h=>by refine an3 h λh1 h2 h3=>?_;exact O4 g.K g.kl.A (g.kl.F _ h1) (eE o X c _ g.toGd h2) (eE e X c _ g.toGd h3) (by rw[Xl e _ g.sc,MY λy q z=>(by cases z)])
 |.augVar j op e,X,c,s,g,h=>nomatch h
 |.augFld o f op k,X,c,s,g,h=>by refine an3 h λh1 h2 h3=>?_;exact O3 g.K g.kl.A (g.kl.F _ h1) (Ls h3)<|eE o X c _ g.toGd h2
 |.expr e,X,c,s,g,h=>by refine an2 h λh1 h2=>?_;exact Dx (eE e X c _ g.toGd h1)<|CB h2
 |.ret e,X,c,s,g,h=>Ga<|eE e X c _ g.toGd h
 |.retN,X,c,s,g,h=>C4
 |.ite t a b,X,c,s,g,h=>by refine an3 h λh1 h2 h3=>?_;exact FC (eT t X c _ g.toGd h1).1 (sSs a X c _ g h2)<|sSs b X c _ g h3
 |.whl t b,X,c,s,g,h=>nomatch h
 |.for p it b,X,c,s,g,h=>by refine an4 h λh1 h2 h3 h4=>?_;let⟨t1,t2⟩:=Kw (c:=c) p<|ke s 0;let⟨a1,a2⟩:=eI it X c (ke s 1) (toP p c<|ke s 0) g.toGd (!ZU p) t1 t2 h2;exact GL (g.own h4) (g.calm h4) a1 (Ol g h4 h1) (sSs b X c _ g h3) a2
 |.forI dh p e b,X,c,s,g,h=>by refine an5 h λh1 h2 h3 h6 h7=>?_;refine CZ (g.own h7) (g.calm h7) (eE e X c _ g.toGd h3) (Ol g h7 h1) (sSs b X c _ g h6) λ_=>?_;cases e<;>first|rfl|cases h2
 |.forI di p e b,X,c,s,g,h=>by refine an7 h λh1 h2 h3 h4 h5 h6 h7=>?_;let⟨es,k,q,et⟩:=(Kw (c:=c) p<|ke s 0).1 h2;have hg:=Ol (x:=ke s 0) g h7 h1;show PS X (.For (toP p c<|ke s 0) _ _ _ _) _;rw[et]at hg ⊢;exact DO (g.own h7) (g.calm h7) (eE e X c _ g.toGd h3) hg (sSs b X c _ g h6) (Yh h4 _ _) h5 λ_=>rfl
 |.never,X,c,s,g,h=>BL
 |.thw m,X,c,s,g,h=>GX<|sS m X c s g h
 |.setL js a,X,c,s,g,h=>by refine an4 h λh1 h2 h3 h4=>?_;let⟨a1,a2,a3⟩:=Wf (by rw[g.N];exact g.nd) (λk=>(kid (ke s 1) k).pos) js 0<|E5 g h1;refine El (g.calm h4) (eE a X c _ g.toGd h2) a1 a2 a3 (by rw[œ,Xl a _ g.sc,MY λy q z=>(by cases z)])<|B8 (.many js) a (ke s 1) _ _ ?_;rw[h3];rfl
 |.brk,X,c,s,g,h=>nomatch h
 |.cnt,X,c,s,g,h=>nomatch h
 |.pass,X,c,s,g,h=>nomatch h
 |.raise C as,X,c,s,g,h=>nomatch h
 |.try t e (.cons K nm b .nil),X,c,s,g,h=>nomatch h
 |.try t e (.cons K nm b<|.cons _ _ _ _),X,c,s,g,h=>nomatch h
 |.try t e .nil,X,c,s,g,h=>nomatch h
 |.try2 e K b L d,X,c,s,g,h=>nomatch h
 |.augIdx a j op k,X,c,s,g,h=>nomatch h
theorem sSs:∀(ms:O.Ss) (X:Cx) (c:Md) (xs:List ġ),Gs X i P n c->okSs ms c xs=dh->PSs X (toSs ms c xs) (tBl X i (O.wF P n) ms)
 |.nil,X,c,xs,g,h=>Hu
 |.cons m ms,X,c,xs,g,h=>by have h:(okS m c (xs.headD dS)&&okSs ms c xs.tail)=dh:=h;rw[bAq]at h;exact Dk (sS m X c _ g h.1)<|sSs ms X c _ g h.2
end
abbrev M3(N ps:List Str)(sc:Ť):Bool :=
 sc.kind == .function && !sc.isCoroutine && !sc.isGenerator&&decide N.Nodup&&(N.take ps.length==ps)&&ps.all (λx=>sc.names.lookup x==df .local||sc.names.lookup x==df .cell)&&sc.names.all λy=>y.2 != .free
variable {ps:List Str}
def Ix{N:List Str}{sc:Ť}(h:M3 N ps sc=dh):FnScope N ps sc:=by
 simp![M3,bAq,ϙ,fz,Ă]at h;let⟨⟨⟨⟨⟨⟨h1,h2⟩,h3⟩,h4⟩,h5⟩,h6⟩,h7⟩:=h;refine⟨eq_of_beq h1,h2,h3,h4,eq_of_beq h5,λx hx=>?_,λy hy=>?_⟩
 .simpa using h6 x hx
 .simpa using h7 y hy
structure Ds where
 st:ġ
 N:List Str
 ps:List Str
 d:O.Fn
structure Mt where
 C:String
 m:String
 qual:String
 x:Ds
structure Tb where
 fs:List<|String×Ds
 ms:List Mt
 cs:List<|String×O.Val
 cl:List String
 fl:List String
 xs:List String
abbrev Tb.md(T:Tb)(x:Ds):Md:={N:=x.N,sc:=Zz x.st,cs:=T.cs,fs:=T.fs.map (·.1),cm:=dh,cl:=T.cl,ms:=T.ms.map λy=>(y.C,y.m),fl:=T.fl,xs:=T.xs}
abbrev Ds.test(T:Tb)(x:Ds):Bool :=
 M3 x.N x.ps (Zz x.st)&&okSs x.d.body (T.md x) (ZR x.st)&&x.ps.length==x.d.ar&&x.N.length==x.d.sz&&fB (x.d.ar<=x.d.sz)
structure Ds.Ok(T:Tb)(x:Ds):Prop where
 ok:x.test T=dh
 eq:toSs x.d.body (T.md x) (ZR x.st)=ZR x.st
variable {pr:ä}{wd:ü}{mg:Str->Option Ã}{base:ù}{i:Inf}{P:O.Pg}{T:Tb}
abbrev Dst(K:Frag)(mg:Str->Option Ã)(f:String)(x:Ds):Prop:=∃fa fd qual,Fun K (fE f) qual x.st fa fd/\mg (fE f)=df (.ref fa)/\Binds K fd x.ps []
structure Mst(i:Inf)(mg:Str->Option Ã)(y:Mt)(a fa:Ç):Prop where
 cl:mg (fE y.C)=df (.ref a)
 fn:∃fd,Fun i.K (fE y.m) (fE y.qual) y.x.st fa fd/\Binds i.K fd y.x.ps []
 at_:Meth i.K a (fE y.m) fa
variable {f:String} {fa:Ç} {fd:ĵ}
def Of:dX pr wd i.K mg base (CX1 pr wd) 0 fa fd ps<|spF i P 0 f:=by
 refine⟨λvs H Q E h=>?_,λA outer s H args us vs Q E hr he hb hv h=>?_⟩
 .obtain⟨_,_,_,_,_,_,w,_⟩:=h;rw[O.wF_eq]at w;exact w.elim
 .obtain⟨_,_,_,_,_,_,w,_⟩:=h;rw[O.wF_eq]at w;exact w.elim
variable {n:Nat}
def Ac{vs:List O.Val}{h:O.Hs}{Q:O.Q1}{E:O.XQ}(q:O.wF P (n+1) f vs h Q E):∃d,P f=df d/\vs.length=d.ar/\O.wSs (O.wF P n) d.body (d.env vs) h (λ_ g=>Q .non g) Q (λ_ _=>False) (λ_ _=>False) λ_ c g=>E c g:=by rw[O.wF_eq]at q;let⟨d,e,q1,q2⟩:=dr q;exact⟨d,e,q1,by rw[O.wF_eq];exact q2⟩
structure Modu(mg:Str->Option Ã)(base:ù)(i:Inf)(T:Tb):Prop where
 bl:∀x∈blts,mg x=dg
 cst:∀x v,T.cs.lookup x=df v->∃u y,mg (fE x)=df u/\RelV y u/\∀H,RV i.K H v y
 A:ClsA i
 F:∀f,T.fl.contains f=dh->FldOk i f
 cl:∀C a,i.cl C a->mg (fE C)=df (.ref a)
 mkc:∀C,T.cl.contains C=dh->∃a y f,i.ins C=dh/\i.cl C a/\Mk i.K a f/\y∈T.ms/\y.C=C/\y.m = "__init__"/\Mst i mg y a f
 fs:∀f x,(f,x)∈T.fs->Dst i.K mg f x
 ms:∀y,y∈T.ms->∃a f,Mst i mg y a f/\Cls i.K a
 xc:T.xs≠[]->∀C a,i.xc C a->XCls i.K a/\PySem.W.kitOne i.K (.ref a) (.type "ValueError")=df dh
 rs:T.xs≠[]->∀C,T.xs.contains C=dh->∃a,i.xc C a/\PyProof.Rows.OwnCls (fE C) a [.type "ValueError",.type "Exception",.type "BaseException",.type "object"] "ValueError.__new__" mg base
 kn:T.xs≠[]->∀T',(T.xs.contains T'||T' == "ShutError")=dh->∃D,mg (fE T')=df (.ref D)/\∀C a,i.xc C a->PySem.W.kitOne i.K (.ref a) (.ref D)=df (O.eX C T')/\PySem.W.exmOne i.K (.ref a) (.ref D)=df (O.eX C T')
structure Held(pr:ä)(wd:ü)(mg:Str->Option Ã)(base:ù)(i:Inf)(P:O.Pg)(T:Tb)(n:Nat):Prop where
 fs:∀f x,(f,x)∈T.fs->Dfo pr wd mg base i P n f
 ms:∀y a f,y∈T.ms->Mst i mg y a f->Dfm pr wd mg base i P n (y.C ++ "." ++ y.m) f
def fn_succ{x:Ds}{nm qual:Str}(M:Modu mg base i T)(hn:Held pr wd mg base i P T n)(F:Fun i.K nm qual x.st fa fd)(hP:P f=df x.d)(ht:x.Ok T):dX pr wd i.K mg base (CX1 pr wd) (2*(n+1)) fa fd x.ps<|spF i P (n+1) f:=by
 let⟨ht,heq⟩:=ht;simp![Ds.test,bAq,fz]at ht;let⟨⟨⟨⟨h1,h2⟩,h3⟩,h4⟩,h5⟩:=ht;have h3:=eq_of_beq h3;have h4:=eq_of_beq h4;have S:=Ix h1;refine F.ok1 (k:=2*n+1) S (λvs H Q E h=>?_) λΡ A outer s H vs Q E hr hsp hw=>?_
 .obtain⟨args,G,Qm,Em,r,g,w,_⟩:=h;let⟨d,e,q,_⟩:=Ac w;rw[hP]at e;cases e;rw[<-r.length,q,h3]
 .obtain⟨args,G,Qm,Em,r,g,w,cn,ex⟩:=hsp;let⟨d,e,q,w⟩:=Ac w;rw[hP]at e;cases e;have gd:Gs (KC (CX1 pr wd) pr wd i.K mg base x.N qual (Zz x.st) fa Ρ A outer s H E) i P n (T.md x) :=
   { K:=rfl,N:=rfl,sc:=rfl,nd:=S.nd,un:=(by have:=hr.un;show(A.deeper _).units+200<ğ;lia),calm:=λ_=>rfl,room:=λ_=>hr,bl:=M.bl
     dfs:=λg hg=>(by
       let⟨p,hy,e⟩:=Ð.mp<|ý.mp hg
       subst e
       exact hn.fs p.1 p.2 hy)
     cst:=M.cst
     kl:=⟨M.A,M.F,λC hC=>(by
       let⟨a,y,f,q1,q2,q3,q4,rfl,q6,q7⟩:=M.mkc C hC
       refine⟨a,f,q1,q2,q3,M.cl _ _ q2,?_⟩
       have:=hn.ms y a f q4 q7
       rw[q6]at this
       rwa [show y.C ++ ".__init__" = y.C ++ "." ++ "__init__" by rw[String.append_assoc];rfl]),λC m hC=>(by
       let⟨y,hy,e⟩:=Ð.mp<|ý.mp hC
       cases e
       let⟨a,f,q1,q2⟩:=M.ms y hy
       refine⟨a,f,λb hb=>?_,q2,q1.at_,hn.ms y a f hy q1⟩
       have e1:=M.cl _ _ hb
       rw[q1.cl]at e1
       cases e1
       rfl)⟩
     xl:=λh=>⟨M.xc h,M.rs h,M.kn h⟩
     fn:=λ_ _=>.inl rfl
     own:=λ_=>PassesOwn.leaving
     stk:=λ_=>rfl }
  have hb:=sSs x.d.body _ _ _ gd h2;rw[heq]at hb;refine⟨_,hb,?_⟩;refine⟨x.d.env args,G,(λ_ g=>Qm .non g),Qm,(λ_ _=>False),(λ_ _=>False),(λ_ c g=>Em c g),?_,w,?_⟩
  .refine⟨?_,g,?_⟩
   .have:=REn.start (n:=x.d.sz - x.d.ar) r;unfold L2.start;have e1:x.N.length - vs.length=x.d.sz - x.d.ar:=by rw[h4,<-r.length,q]
    rw[e1];exact this
   .intro Â σ H0 s0 H' a cls s' I fl hx;let⟨e,c,G',ad,q1,q2,q3,q4,q5⟩:=hx;exact hw Â σ H0 s0 H' a cls s' I fl<|ex _ _ _ ⟨c,G',ad,q1,q2,q3,q4,q5⟩
  .refine⟨?_,?_,?_,?_⟩
   .intro Ň Ŏ G' H' k g' e w';exact cn .non G' H' .non k g' .non w'
   .intro v G' H' y k g' rv w';exact cn v G' H' y k g' rv w'
   .intro _ _ _ _ _ _ _ z;exact z.elim
   .intro _ _ _ _ _ _ _ z;exact z.elim
def held_all(M:Modu mg base i T)(hP:∀f x,(f,x)∈T.fs->P f=df x.d)(hPm:∀y,y∈T.ms->P (y.C ++ "." ++ y.m)=df y.x.d)(ht:∀f x,(f,x)∈T.fs->x.Ok T)(htm:∀y,y∈T.ms->y.x.Ok T):∀n,Held pr wd mg base i P T n:=by
 intro n;induction n with
 |zero =>
  refine⟨λf x h=>?_,λy a f hy S=>?_⟩
  .obtain⟨fa,fd,qual,F,hm,hb⟩:=M.fs f x h;exact⟨fa,fd,x.ps,Of,hm,F.kp,hb⟩
  .obtain⟨fd,F,hb⟩:=S.fn;exact⟨fd,y.x.ps,Of,hb⟩
 |succ n ih =>
  refine⟨λf x h=>?_,λy a f hy S=>?_⟩
  .obtain⟨fa,fd,qual,F,hm,hb⟩:=M.fs f x h;exact⟨fa,fd,x.ps,fn_succ M ih F (hP f x h)<|ht f x h,hm,F.kp,hb⟩
  .obtain⟨fd,F,hb⟩:=S.fn;exact⟨fd,y.x.ps,fn_succ M ih F (hPm y hy)<|htm y hy,hb⟩
end Snd
namespace Hd
open PySem PySem.W PyProof.Rows
abbrev Wn(st:SharedT->Thread->Option (SharedT×Thread))(ok th:Thread->Bool):Nat->SharedT->Thread->Option SharedT
 |0,_,_=>dg
 |n+1,s,t=>match th t with
  |true=>df s
  |false=>match ok t with
   |false=>dg
   |true=>match st s t with
    |some (s',t')=>Wn st ok th n s' t'
    |none=>dg
def W0{tb:String->Option Builtin}{p:Program}{w:World}{n₀:Nat}{ann:Option Value}:∀{n:Nat}{s s':SharedT}{t:Thread},Wn (stepT (denote tb) p w) (stepOk n₀ ann) through n s t=df s'->topRun tb p w n₀ ann n s.abs t=df s'.abs
 |0,_,_,_,h=>by cases h
 |n+1,s,s',t,h=>by
  unfold Wn at h;unfold topRun;cases ht:through t with
  |true=>rw[ht]at h;cases h;rfl
  |false =>
   rw[ht]at h;dsimp only at h ⊢;cases hk:stepOk n₀ ann t with
   |false=>rw[hk]at h;cases h
   |true =>
    rw[hk]at h;dsimp only at h ⊢;cases hs:stepT (denote tb) p w s t with
    |none=>rw[hs]at h;cases h
    |some r =>let⟨s2,t2⟩:=r;rw[hs]at h;rw[stepT_spec hs];exact W0 h
abbrev WB(P:Params):BT :=
 .node (boot_o_0 P) (.node (boot_o_1 P) (.node (boot_o_3 P) (.node (boot_o_7 P) .nil .nil) .nil)<|.node (boot_o_5 P) (.node (boot_o_9 P) .nil .nil) .nil)
  (.node (boot_o_2 P) (.node (boot_o_4 P) (.node (boot_o_8 P) .nil .nil) .nil)<|.node (boot_o_6 P) (.node (boot_o_10 P) .nil .nil) .nil)
def Bl(P:Params):absHeap (WB P) 11 {}=boot_heap P:=by kernel_rfl
def Ud(P:Params):((boot_heap P).isNs mainGlobals&&(Array.mk []:Array GenState).size==0,(boot_heap P).objs.size,(boot_heap P).nsMap mainGlobals "__annotations__")=(dh,11,df<|.ref 6):=by
 rw[show @Heap.nsMap=_ from Fast.te8920871248978507458]
 kernel_rfl
abbrev EM:=Fast.tw10156331382660048174
abbrev Ou:=Fast.tw11892475500146522536
abbrev Cj:=Fast.tw14364793385576792824
abbrev okY:=Fast.tw6613529449190102663
abbrev seenY:=Fast.tw4187177175401517315
abbrev modsY:=Fast.tw5923862056798008813
abbrev runY(p:Program)(N:Nat)(w:World)(os:OsState):Option SharedT:=Wn (EM (Ou Cj) p w) (okY 11<|df<|.ref 6) through N ⟨WB w.params,11,{},Array.mk [],boot_drawn,boot_toks,os⟩<|topStub p
abbrev stY(p:Program)(w:World)(s:SharedT):Bool:=staticsOk (modsY p.main.body) (boot_heap w.params) s.abs.heap&&namesBound p s.abs.heap&&gensDone s.abs&&laidKept (boot_heap w.params) s.abs.heap
def left_of{p q:Program}{loose:List Str}{Xt:Shared->Bool}{α:Type}{Yf:Shared->α}{Ya:World->α}{N:Nat}(e:opening p=plainProg p.main.scope.names)(hN:Nat.ble 600 N=dh)(f:∀s,fenceModules? p s=df s)
  (one:∀w os,(runY p N w os).map (stY p w)=df dh) (two:∀w os,(runY p N w os).map (λs=>seenY q loose (modsY p.main.body) Xt dh s.abs)=df (openGood q loose)) (three:∀w os,(runY p N w os).map (λs=>Yf s.abs)=df (Ya w)) :
  LeftO p q loose Xt Yf Ya N:=by
 intro w;let⟨⟨h,gs,d,k,os⟩,e1,e2⟩:=á.mp<|boot_open e hN f w;obtain⟨rfl,rfl,rfl,rfl⟩:h=boot_heap w.params/\gs=Array.mk []/\d=boot_drawn/\k=boot_toks:=⇑e2
 let⟨s,r,l1⟩:=á.mp<|one w os;let⟨s',r',l2⟩:=á.mp<|two w os;cases r.symm.trans r';let⟨s',r',l3⟩:=á.mp<|three w os;cases r.symm.trans r';obtain⟨z1,z2,z3⟩:_/\_/\_:=by simpa only[ŵ]using Ud w.params
 unfold stY at l1;unfold runY EM Ou Cj okY at r;rw[<-Fast.te10156331382660048174,<-Fast.te11892475500146522536,<-Fast.te14364793385576792824,<-Fast.te6613529449190102663]at r;unfold modsY at l1 l2;unfold seenY at l2;rw[<-Fast.te5923862056798008813]at l1 l2;rw[<-Fast.te4187177175401517315]at l2;have r2:=W0 r;have ea:(SharedT.mk (WB w.params) 11 {} (Array.mk []) boot_drawn boot_toks os).abs=⟨boot_heap w.params,Array.mk [],boot_drawn,boot_toks,os⟩:=by show Shared.mk (absHeap _ _ _) _ _ _ _=_;rw[Bl]
 rw[ea]at r2;have t:topFrom treeTable p w N ⟨boot_heap w.params,Array.mk [],boot_drawn,boot_toks,os⟩=df s.abs:=by unfold topFrom;dsimp only;rw[z1,z2,z3,r2];show(match staticsOk (importedModules p.main.body) (boot_heap w.params) s.abs.heap&&namesBound p s.abs.heap&&gensDone s.abs&&laidKept (boot_heap w.params) s.abs.heap with|true=>_|false=>_)=_;rw[l1]
 unfold openEnds;rw[e1];show(topFrom treeTable p w N _).map _=_;rw[t];exact congrArg df<|Prod.ext l2 l3
end Hd
namespace Hd
open PySem PySem.W PyProof.Rows L2
abbrev JG:Nat->List Obj->Frag
 |_,[]=>[]
 |i,o::r=>match o with
  |⟨_,_,.freed,_⟩=>JG (i+1) r
  |o=>(i,o)::JG (i+1) r
abbrev ZE(g:Heap):Frag:=JG 0 g.objs.toList
def MB:∀(l:List Obj) (i a:Nat) (o:Obj),(JG i l).lookup a=df o->i<=a/\l[a - i]?=df o/\(match df o with|some ⟨_,_,.freed,_⟩=>dg|o=>o)=df o
 |[],_,_,_,h=>by cases h
 |x::r,i,a,o,h=>by
  have rec1:(JG (i+1) r).lookup a=df o->i<=a/\(x::r)[a - i]?=df o/\(match df o with|some ⟨_,_,.freed,_⟩=>dg|o=>o)=df o:=λq=>by let⟨h1,h2,h3⟩:=MB r (i+1) a o q;refine⟨by lia,?_,h3⟩;rw[show a - i=(a - (i+1))+1 by lia,List.getElem?_cons_succ];exact h2
  unfold JG at h;split at h
  .exact rec1 h
  .rename_i c Ź;rw[à]at h;split at h
   .rename_i e;cases h;have e:=eq_of_beq e;subst e;refine⟨Ê _,by rw[Nat.sub_self];rfl,?_⟩;split
    .rename_i d1 d2 d3 d4;cases d4;exact(Ź _ _ _ rfl).elim
    .rfl
   .exact rec1 h
def M5{g:Heap}{a:Addr}{o:Obj}(h:(ZE g).lookup a=df o):g.get? a=df o:=by let⟨_,h2,h3⟩:=MB _ _ _ _ h;unfold Heap.get?;rw[Nat.sub_zero,Ŝ]at h2;rw[h2];exact h3
abbrev UX(K:Frag)(nm:Str):Option<|FuncData×Bool×Bool:=match nsIn K mainGlobals nm with
 |some (df<|.ref f)=>match K.lookup f with
  |some ⟨_,_,.func fd,_⟩=>df ({fd with kwdefaults:=.none,doc:=.none,pyModule:=.none,annotations:=dg,code:=.none,closureTuple:=.none},codeIn K fd.code fd.qualname,keepIn K<|.ref f)
  |_=>dg
 |_=>dg
abbrev Bg(nm:Str)(st:Stmt):Option<|FuncData×Bool×Bool:=df (fnOf nm nm (YA st) (ZR st) (Zz st) .none .none .none .none dg .none .none,dh,dh)
def Gm{K:Frag}{nm:Str}{st:Stmt}(e:UX K nm=Bg nm st):∃fa fd,Fun K nm nm st fa fd/\nsIn K mainGlobals nm=df (df<|.ref fa):=by
 unfold UX at e;split at e
 .rename_i f hf;split at e
  .rename_i oc od fd sl hl;simp![Bg,ĥ,ŵ]at e;let⟨e1,e2,e3⟩:=e;let⟨n1,n2,n3,n4,n5,n6,n7,n8,n9,n10,n11,n12,n13,n14,n15⟩:=fd;simp![fnOf,FuncData.mk.injEq]at e1;obtain⟨rfl,rfl,rfl,rfl,rfl,rfl,rfl,rfl,-,-,-,-,-,-,rfl⟩:=e1;exact⟨f,_,BC hl e2 e3,hf⟩
  .cases e
 .cases e
abbrev E6(K:Frag)(y:Str):Bool:=match nsIn K mainGlobals y with
 |some dg=>dh
 |_=>di
def DQ{l:OpenLaw}{n k:Nat}{q:Program}{loose:List Str}{XP:(Str->Option Value)->Heap->Prop}{YP:World->Heap->Prop}{d:DefRec}{CX:World->CXT}{x:Str}
  (hn:l.most=df n) (hn2:n<=sizeLine) (hdf:d.params.defaults=[]) (hr:dW k callerA)
  (F:∀(w:World) (mg:Str->Option Value) (fa:Addr) (h:Heap),YP w h->h.Ns mainGlobals mg->mg d.name=df (.ref fa)->∃(K:Frag) (sp:Sp),K.In h/\
    (∃fd:FuncData,(∀(s:Shared) (u:Value),BindsTo s fd ⟨[u],[]⟩ [(x,u)])/\∀base:Heap,K.In base->base.Ns mainGlobals mg->dX l.prog w K mg base (CX w) k fa fd [x] sp)/\
    ∀(H:Hp) (a:Addr) (ns:List Int),ns.length<=n->Gv H->eY K H a (ns.map V.int)->sp [.ref a] H (λv _=>v=.bl dh) λ_ _ _=>False)
  (hCX:∀(w:World) (H:Hp) (s:Shared) (e:Value) (s':Shared),CX w [] H s (λ_ _ _=>False) e s'->False) :
  WalkO q loose XP YP l.row.toRowW d [] (λf vs=>PySem.call f vs):=by
 refine Att.attach_call hn hdf λw s₀ Ĝ mg mb fa o pm cd doc a vs ns G Y ho hd ax hmg cr hints hlen hg=>?_;let⟨K,sp,KX,⟨fd,hb,hF⟩,hsp⟩:=F w mg fa _ Y G.T.g hmg;exact BP KX G.T.g G.T.b G.T.builtins G.T.nolimit hg cr hints (Ü hlen hn2) hr hF hb (λH hO hS=>hsp H a ns hlen hO hS) λH e s'=>hCX w H Ĝ e s'
abbrev Dt(f:Value->O.Val->Bool):List Value->List O.Val->Bool
 |[],[]=>dh
 |u::us,x::xs=>f u x&&Dt f us xs
 |_,_=>di
abbrev E4(K:Frag):Value->Option (List Value)
 |.ref a=>match K.lookup a with
  |some ⟨.type n,_,.seq us _,_⟩=>if n == "tuple" && fB (us.size<=sizeLine)then df us.toList else dg
  |_=>dg
 |_=>dg
abbrev DE(K:Frag):Nat->Value->O.Val->Bool
 |0,_,_=>di
 |n+1,u,v=>match v with
  |.non=>(match u with|.none=>dh|_=>di)
  |.bl b=>(match u with|.bool a=>a==b|_=>di)
  |.int j=>(match u with|.int i _=>i==j|_=>di)
  |.str t=>(match u with|.str s _=>Fast.sEq s (fE t)|_=>di)
  |.tup xs=>(match E4 K u with|some us=>Dt (DE K n) us xs|none=>di)
  |_=>di
def Az{K:Frag}{f:Value->O.Val->Bool}(hf:∀u v,f u v=dh->∃z,RelV z u/\∀H,Snd.RV K H v z):∀(us:List Value) (xs:List O.Val),Dt f us xs=dh->∃zs,fc zs us/\∀H,Snd.RVs K H xs zs
 |[],[],_=>⟨[],.nil,λ_=>.nil⟩
 |u::us,x::xs,h=>by rw[Dt,bAq]at h;let⟨z,r,q⟩:=hf u x h.1;let⟨zs,rs,qs⟩:=Az hf us xs h.2;exact⟨z::zs,.cons r rs,λH=>.cons (q H)<|qs H⟩
 |[],_::_,h=>by cases h
 |_::_,[],h=>by cases h
def BH{K:Frag}:∀(n:Nat) (u:Value) (v:O.Val),DE K n u v=dh->∃z,RelV z u/\∀H,Snd.RV K H v z
 |0,_,_,h=>by cases h
 |n+1,u,v,h=>by
  unfold DE at h;cases v with
  |non =>
   dsimp only at h;split at h
   .exact⟨.non,rfl,λ_=>.non⟩
   .cases h
  |bl b =>
   dsimp only at h;split at h
   .cases eq_of_beq h;exact⟨.bl b,rfl,λ_=>.bl b⟩
   .cases h
  |int j =>
   dsimp only at h;split at h
   .cases eq_of_beq h;exact⟨.int j,⟨_,rfl⟩,λ_=>.int j⟩
   .cases h
  |str t =>
   dsimp only at h;split at h
   .cases Fast.sEq_iff.mp h;exact⟨.str<|fE t,⟨_,rfl⟩,λ_=>.str t⟩
   .cases h
  |tup xs =>
   dsimp only at h;split at h
   .rename_i us hu;let⟨zs,rs,qs⟩:=Az (λu v=>BH n u v) us xs h;unfold E4 at hu;split at hu
    .rename_i a;split at hu
     .rename_i nm od ð k sl hl;split at hu
      .rename_i hc;rw[bAq,fz]at hc;cases eq_of_beq hc.1;cases hu;exact⟨.ref a,rfl,λH=>.tup (.inr ⟨_,ð,k,hl,rfl,rfl,hc.2,rs⟩)<|qs H⟩
      .cases hu
     .cases hu
    .cases hu
   .cases h
  |ref a=>cases h
  |scr ns=>cases h
  |key i j=>cases h
abbrev Cd(K:Frag)(p:String×O.Val):Bool:=match nsIn K mainGlobals (fE p.1)with
 |some (df u)=>DE K 4 u p.2
 |_=>di
def WG{α β:Type}[BEq α][LawfulBEq α]{a:α}{b:β}:∀{l:List (α×β)},l.lookup a=df b->(a,b)∈l
 |[],h=>by cases h
 |(x,y)::r,h=>by
  rw[à]at h;split at h
  .rename_i e;cases h;cases eq_of_beq e;exact .head _
  .exact .tail _<|WG h
def F2{K:Frag}{mg:Str->Option Value}{h:Heap}{x:Str}{C:Addr}{bmB:List Value}{id:String}(X:K.In h)(hm:mg x=df (.ref C))(q:excIn K C bmB id=dh):PyProof.Rows.OwnCls x C bmB id mg h:=by
 constructor
 .exact hm
 have z:=q;unfold excIn at z;split at z
 next dd cd sl ho =>
  split at z
  next C1 bm k0 k1 k2 k3 n k5 em es =>
   rw[bAq,bAq,bAq,bAq,bAq]at z;let⟨⟨⟨⟨⟨z1,z2⟩,z3⟩,z4⟩,z5⟩,z6⟩:=z;have z1:=eq_of_beq z1;have z2:=eq_of_beq z2;have z6:=eq_of_beq z6;subst z1 z2;have z3b:cd.hasDel=di:=by
    cases e:cd.hasDel with
    |false=>rfl
    |true=>rw[e]at z3;cases z3
   have es':sl=#[k0,k1,k2,k3,df<|.builtin n,k5]:=cW.mp es;have nN:=nsMap_none_of_in X z5 z6;have nI:=Heap.Ns.of_isNs<|isNs_of_in X z5;have tI:=tail_of_in X z4;cases cd;dsimp only at em z3b nN nI;subst em z3b es';exact⟨bm,_,_,_,_,_,_,_,_,_,dd,k0,k1,k2,k3,k5,_,X _ _ ho,nI,nN,tI⟩
  next=>cases z
 next=>cases z
abbrev G0(K:Frag)(f:Addr):Option<|FuncData×Bool×Bool:=match K.lookup f with
 |some ⟨_,_,.func fd,_⟩=>df ({fd with kwdefaults:=.none,doc:=.none,pyModule:=.none,annotations:=dg,code:=.none,closureTuple:=.none},codeIn K fd.code fd.qualname,keepIn K<|.ref f)
 |_=>dg
abbrev Nd(nm qual:Str)(st:Stmt):Option<|FuncData×Bool×Bool:=df (fnOf nm qual (YA st) (ZR st) (Zz st) .none .none .none .none dg .none .none,dh,dh)
def FQ{K:Frag}{nm qual:Str}{st:Stmt}{f:Addr}(e:G0 K f=Nd nm qual st):∃fd,Fun K nm qual st f fd:=by
 unfold G0 at e;split at e
 .rename_i oc od fd sl hl;simp![Nd,ĥ,ŵ]at e;let⟨e1,e2,e3⟩:=e;let⟨n1,n2,n3,n4,n5,n6,n7,n8,n9,n10,n11,n12,n13,n14,n15⟩:=fd;simp![fnOf,FuncData.mk.injEq]at e1;obtain⟨rfl,rfl,rfl,rfl,rfl,rfl,rfl,rfl,-,-,-,-,-,-,rfl⟩:=e1;exact⟨_,BC hl e2 e3⟩
 .cases e
abbrev Jf(K:Frag)(C:String):Option Addr:=match nsIn K mainGlobals (fE C)with
 |some (df<|.ref a)=>df a
 |_=>dg
variable {C:String} {a:Addr}
def X4{K:Frag}(h:Jf K C=df a):nsIn K mainGlobals (fE C)=df (df<|.ref a):=by
 unfold Jf at h;split at h
 .cases h;assumption
 .cases h
structure CV where
 pg:Bool
 hd:Bool
 po:Bool
 sa:Option<|Option Value
abbrev Cy(K:Frag)(a:Addr):CV:=⟨plainGet K a Str.empty,hasDictIn K a,plainOver K a,findIn K (.ref a) "__setattr__"⟩
abbrev Od:CV:=⟨dh,dh,dh,df<|df<|.builtin "object.__setattr__"⟩
def BD{K:Frag}(h:Cy K a=Od):Cls K a:=by simp![Cy,Od,CV.mk.injEq]at h;exact⟨h.1,h.2.1,h.2.2.1,h.2.2.2⟩
structure MV where
 fn:Option<|FuncData×Bool×Bool
 isf:Bool
 cv:CV
abbrev B5(K:Frag)(y:Snd.Mt):Option MV:=match Jf K y.C with
 |some a=>match findIn K (.ref a) (fE y.m)with
  |some (df<|.ref f)=>df ⟨G0 K f,isFn K<|.ref f,Cy K a⟩
  |_=>dg
 |none=>dg
abbrev Bq(y:Snd.Mt):Option MV:=df ⟨Nd (fE y.m) (fE y.qual) y.x.st,dh,Od⟩
def HD{K:Frag}{y:Snd.Mt}(e:B5 K y=Bq y):∃a f fd,nsIn K mainGlobals (fE y.C)=df (df<|.ref a)/\Fun K (fE y.m) (fE y.qual) y.x.st f fd/\Meth K a (fE y.m) f/\Cls K a:=by
 unfold B5 at e;split at e
 .rename_i a ha;split at e
  .rename_i f hf;simp![Bq,ĥ,MV.mk.injEq]at e;let⟨e1,e2,e3⟩:=e;let⟨fd,F⟩:=FQ e1;exact⟨a,f,fd,X4 ha,F,⟨hf,e2,F.kp⟩,BD e3⟩
  .cases e
 .cases e
structure QV where
 mks:Bool
 kp:Bool
 cv:CV
 fl:List<|Option<|Option Value
 ic:Option (Option Value)×Option (Option Value)×Option Bool×Option Bool
abbrev Ci(K:Frag)(fl:List String)(C:String):Option QV:=match Jf K C with
 |some a=>df ⟨makesIn K a,keepIn K<|.ref a,Cy K a,fl.map λf=>findIn K (.ref a)<|fE f,(findIn K (.ref a) "__class__",specialIn K (.builtin "object.__class__") "__get__",takesIn K<|.builtin "object.__class__",mroIn K a<|.type "object")⟩
 |none=>dg
abbrev Ba(fl:List String):Option QV:=df ⟨dh,dh,Od,fl.map λ_=>df dg,(df<|df<|.builtin "object.__class__",df<|df<|.builtin "getset_descriptor.__get__",df dh,df dh)⟩
def ER{K:Frag}{fl:List String}(e:Ci K fl C=Ba fl):∃a,nsIn K mainGlobals (fE C)=df (df<|.ref a)/\makesIn K a=dh/\keepIn K (.ref a)=dh/\Cls K a/\(∀f∈fl,NoAttr K a<|fE f)/\Snd.IC K a:=by
 unfold Ci at e;split at e
 .rename_i a ha;simp![Ba,ĥ,QV.mk.injEq,ŵ]at e;let⟨e1,e2,e3,e4,e5,e6,e7,e8⟩:=e;exact⟨a,X4 ha,e1,e2,BD e3,λf hf=>ĕ.mp e4 f hf,⟨e5,e6,e7,e8⟩⟩
 .cases e
structure XV where
 ex:Bool
 f1:Option<|Option Value
 f2:Option<|Option Value
 f3:Option<|Option Value
 m1:Option Bool
 m2:Option Bool
 ci:Bool
 ve:Option Bool
 ks:List<|Option<|Option Bool×Option Bool
abbrev U6(K:Frag)(xs:List String)(C:String):Option XV:=match Jf K C with
 |some a=>df ⟨excIn K a [.type "ValueError",.type "Exception",.type "BaseException",.type "object"] "ValueError.__new__",findIn K (.ref a) "__getattribute__",findIn K (.ref a) "__getattr__",findIn K (.ref a) "__class__",mroIn K a<|.type "object",mroIn K a<|.type "BaseException",(clsIn K a).isSome,kitOne K (.ref a)<|.type "ValueError",("ShutError" :: xs).map λT=>(Jf K T).map λD=>(kitOne K (.ref a)<|.ref D,exmOne K (.ref a)<|.ref D)⟩
 |none=>dg
abbrev Cl(xs:List String)(C:String):Option XV:=df ⟨dh,df<|df<|.builtin "BaseException.__getattribute__",df dg,df<|df<|.builtin "object.__class__",df dh,df dh,dh,df dh,("ShutError" :: xs).map λT=>df (df<|O.eX C T,df<|O.eX C T)⟩
def Bp{K:Frag}{xs:List String}(e:U6 K xs C=Cl xs C):∃a,nsIn K mainGlobals (fE C)=df (df<|.ref a)/\excIn K a [.type "ValueError",.type "Exception",.type "BaseException",.type "object"] "ValueError.__new__" = dh/\XCls K a/\kitOne K (.ref a) (.type "ValueError")=df dh/\
  ∀T∈"ShutError" :: xs,∃D,nsIn K mainGlobals (fE T)=df (df<|.ref D)/\kitOne K (.ref a) (.ref D)=df (O.eX C T)/\exmOne K (.ref a) (.ref D)=df (O.eX C T):=by
 unfold U6 at e;split at e
 .rename_i a ha;simp![Cl,ĥ,XV.mk.injEq]at e;let⟨e1,e2,e3,e4,e5,e6,e7,e8,e9⟩:=e;refine⟨a,X4 ha,e1,⟨e2,e3,e4,e5,e6,e7⟩,e8,λT hT=>?_⟩;have:=ĕ.mp e9 T hT;cases z:Jf K T with
  |none=>rw[z]at this;cases this
  |some D =>rw[z]at this;simp![Ĭ,ĥ,ŵ]at this;exact⟨D,X4 z,this.1,this.2⟩
 .cases e
structure View where
 fs:List<|Option<|FuncData×Bool×Bool
 ms:List<|Option MV
 cl:List<|Option QV
 xs:List<|Option XV
 ok:Bool
abbrev view(T:Snd.Tb)(K:Frag):View:=⟨T.fs.map λp=>UX K<|fE p.1,T.ms.map<|B5 K,T.cl.map<|Ci K T.fl,T.xs.map<|U6 K T.xs,T.cs.all (Cd K)&&Snd.blts.all (E6 K)⟩
abbrev due(T:Snd.Tb):View:=⟨T.fs.map λp=>Bg (fE p.1) p.2.st,T.ms.map Bq,T.cl.map λ_=>Ba T.fl,T.xs.map<|Cl T.xs,dh⟩
abbrev hook(T:Snd.Tb):Hook where
 α:=View
 obs:=λs=>view T<|ZE s.heap
 val:=λ_=>due T
 says:=λ_ h=>∃g:Heap,view T (ZE g)=due T/\∀b o,g.get? b=df o->h.get? b=df o
 of:=λ_ s e=>⟨s.heap,e,λ_ _ x=>x⟩
 keeps:=λ_ _ _ ⟨g,e,k⟩ k2=>⟨g,e,λb o x=>k2 b o<|k b o x⟩
abbrev Bd(nm qual:Str)(x:Snd.Ds):Prop:=∀(kV doc pm:Value) (an:Option Addr) (Ρ ct:Value) (us:List Value),us.length=x.ps.length->bindArgs (fnOf nm qual (YA x.st) (ZR x.st) (Zz x.st) .none kV doc pm an Ρ ct) ⟨us,[]⟩=pure (x.ps.zip us)
abbrev Dy(T:Snd.Tb):Bool:=T.cl.all λC=>T.ms.any λy=>y.C==C&&y.m == "__init__"
def law_walk{l:OpenLaw}{q:Program}{loose:List Str}{XP:(Str->Option Value)->Heap->Prop}{d:DefRec}{T:Snd.Tb}{pg:O.Pg}{k:Nat}{xl:Snd.Ds}
  (hn:l.most=df 63) (hdf:d.params.defaults=[]) (hdn:d.name=fE "law") (hr:dW (2*(k+1)) callerA) (hlaw:("law",xl)∈T.fs) (hps:xl.ps=[fE "script"]) (aA:Dy T=dh)
  (tab_pg:∀f x,(f,x)∈T.fs->pg f=df x.d) (tab_pm:∀y,y∈T.ms->pg (y.C ++ "." ++ y.m)=df y.x.d) (tab_ok:∀f x,(f,x)∈T.fs->x.Ok T) (tab_om:∀y,y∈T.ms->y.x.Ok T)
  (tab_bd:∀f x,(f,x)∈T.fs->Bd (fE f) (fE f) x) (tab_bm:∀y,y∈T.ms->Bd (fE y.m) (fE y.qual) y.x)
  (ok:∀ns:List Int,ns.length<=63->O.wF pg (k+1) "law" [.scr ns] (λ_=>dg) (λv _=>v=.bl dh) λ_ _=>False) :
  WalkO q loose XP (hook T).says l.row.toRowW d [] (λf vs=>PySem.call f vs):=by
 refine DQ (n:=63) (k:=2*(k+1)) (x:=fE "script") (CX:=λw=>CX1 l.prog w) hn (by decide) hdf hr (λw mg fa h Y G hmg=>?_) λ_ _ _ _ _ ⟨_,_,_,_,_,z⟩=>z;let⟨g,e,keep⟩:=Y;have X:(ZE g).In h:=λa o z=>keep a o<|M5 z;simp![view,due,View.mk.injEq]at e;let⟨e1,e3,e4,e5,e2⟩:=e;rw[bAq,Ă,Ă]at e2
 let i:Snd.Inf:=⟨ZE g,λC a=>T.cl.contains C=dh/\mg (fE C)=df (.ref a),λC=>T.cl.contains C,λC a=>T.xs.contains C=dh/\mg (fE C)=df (.ref a)⟩
 have hF:∀f x,(f,x)∈T.fs->∃fa fd,Fun (ZE g) (fE f) (fE f) x.st fa fd/\mg (fE f)=df (.ref fa):=λf x hx=>by let⟨fa,fd,F,z⟩:=Gm<|ĕ.mp e1 (f,x) hx;exact⟨fa,fd,F,mg_of X G z⟩
 have bK:∀C a,i.cl C a->makesIn (ZE g) a=dh/\keepIn (ZE g) (.ref a)=dh/\Cls (ZE g) a/\(∀f∈T.fl,NoAttr (ZE g) a<|fE f)/\Snd.IC (ZE g) a:=λC a ⟨hc,hm⟩=>by let⟨b,z,q⟩:=ER<|ĕ.mp e4 C<|ý.mp hc;have:=mg_of X G z;rw[hm]at this;cases this;exact q
 have hms:∀y,y∈T.ms->∃a f,Snd.Mst i mg y a f/\Cls i.K a:=λy hy=>by let⟨a,f,fd,z,F,M,A⟩:=HD<|ĕ.mp e3 y hy;exact⟨a,f,⟨mg_of X G z,⟨fd,F,F.binds<|tab_bm y hy⟩,M⟩,A⟩
 have hxc:∀C a,i.xc C a->excIn (ZE g) a [.type "ValueError",.type "Exception",.type "BaseException",.type "object"] "ValueError.__new__" = dh/\XCls (ZE g) a/\kitOne (ZE g) (.ref a) (.type "ValueError")=df dh/\
   ∀T'∈"ShutError" :: T.xs,∃D,nsIn (ZE g) mainGlobals (fE T')=df (df<|.ref D)/\kitOne (ZE g) (.ref a) (.ref D)=df (O.eX C T')/\exmOne (ZE g) (.ref a) (.ref D)=df (O.eX C T'):=λC a ⟨hc,hm⟩=>by
  let⟨b,z,q⟩:=Bp<|ĕ.mp e5 C<|ý.mp hc;have:=mg_of X G z;rw[hm]at this;cases this;exact q
 have mod:∀base:Heap,(ZE g).In base->Snd.Modu mg base i T:=λbase Xb =>
  { bl:=λy hy=>by
      have:=e2.2 y hy
      unfold E6 at this
      split at this
      . rename_i z;exact mg_none_of X G z
      . cases this
    cst:=λy v hv=>by
      have:=e2.1 _<|WG hv
      unfold Cd at this
      split at this
      . rename_i u z
        let⟨x,r,rv⟩:=BH 4 u v this
        exact⟨u,x,mg_of X G z,r,rv⟩
      . cases this
    A:=⟨λC a _ z=>(bK C a z).2.2.1,λC a z=>(bK C a z).2.2.2.2,λC a b z y=>by have:=z.2.symm.trans y.2;cases this;rfl⟩
    F:=λf hf=>⟨λC a z=>(bK C a z).2.2.2.1 f<|ý.mp hf⟩
    cl:=λC a z=>z.2
    mkc:=λC hC=>by
      let⟨a,z,_⟩:=ER<|ĕ.mp e4 C<|ý.mp hC
      have hi:i.cl C a:=⟨hC,mg_of X G z⟩
      let⟨y,hy,e⟩:=List.any_eq_true.mp<|Ă.mp aA C<|ý.mp hC
      rw[bAq]at e
      let⟨b,f,S,A⟩:=hms y hy
      have h1:=eq_of_beq e.1
      have h2:=eq_of_beq e.2
      have hb:=S.cl
      rw[h1,hi.2]at hb
      cases hb
      refine⟨a,y,f,hC,hi,⟨(bK C a hi).1,?_,S.at_.fn,(bK C a hi).2.1⟩,hy,h1,h2,S⟩
      have:=S.at_.at_
      rw[h2]at this
      exact this
    fs:=λf x hx=>by
      let⟨fa,fd,F,m⟩:=hF f x hx
      exact⟨fa,fd,_,F,m,F.binds<|tab_bd f x hx⟩
    ms:=hms
    xc:=λ_ C a z=>⟨(hxc C a z).2.1,(hxc C a z).2.2.1⟩
    rs:=λ_ C hC=>by
      let⟨a,z,q1,_⟩:=Bp<|ĕ.mp e5 C<|ý.mp hC
      exact⟨a,⟨hC,mg_of X G z⟩,F2 Xb (mg_of X G z) q1⟩
    kn:=λŹ T' hT=>by
      have hT2:T'∈"ShutError" :: T.xs:=by
        rcases (ab ..).mp hT with z|z
        . exact .tail _<|ý.mp z
        . cases eq_of_beq z;exact .head _
      let⟨C0,hC0⟩:=List.exists_mem_of_ne_nil _ Ź
      let⟨a0,z0,_,_,_,q0⟩:=Bp<|ĕ.mp e5 C0 hC0
      let⟨D,zD,_⟩:=q0 T' hT2
      refine⟨D,mg_of X G zD,λC a z=>?_⟩
      let⟨D2,z2,k1,k2⟩:=(hxc C a z).2.2.2 T' hT2
      rw[zD]at z2
      cases z2
      exact⟨k1,k2⟩ }
 let⟨fl,fd,F,m⟩:=hF "law" xl hlaw;have ef:=hmg.symm.trans<|hdn▸m;cases ef;refine⟨ZE g,Snd.spF i pg (k+1) "law",X,⟨fd,λs u=>?_,λbase Xb _=>?_⟩,λH a ns hl hO hS=>?_⟩
 .have B:=F.ex;let⟨oc,od,kV,dc,pm,an,Ρ,ct,sl,rfl,lk,ax⟩:=B;have:=tab_bd "law" xl hlaw kV dc pm an Ρ ct [u] (by rw[hps];rfl);rw[hps]at this;exact .of_eq this
 .have M:=mod base Xb;have:=Snd.fn_succ (i:=i) (pr:=l.prog) (wd:=w) (base:=base) (mg:=mg) (P:=pg) (n:=k) M (Snd.held_all M tab_pg tab_pm tab_ok tab_om k) F (tab_pg "law" xl hlaw)<|tab_ok "law" xl hlaw;rw[hps]at this;exact this
 .refine⟨[.scr ns],λ_=>dg,λv _=>v=.bl dh,λ_ _=>False,.cons (.scr ?_) .nil,λ_ _ e=>(by cases e),ok ns hl,?_,?_⟩
  .rcases hS with(h|⟨o,h⟩)|h
   .rcases hO a with z|⟨o,xs,z⟩
    .rw[h]at z;cases z
    .rw[h]at z;cases z
   .exact .inl ⟨o,h⟩
   .exact .inr h
  .intro v G' H' x _ _ r e;subst e;exact r.bl_inv
  .rintro cls d H' ⟨_,_,_,_,_,_,_,z⟩;exact z
end Hd
set_option maxRecDepth 20000
set_option maxHeartbeats 2000000
namespace O
local macro_rules|`(#[$x])=>`(.cons $x .nil)|`(#[$x,$y,*])=>`(.cons $x #[$y,*])
@[reducible] noncomputable def B0(P:Pg)(n:Nat)(d:Fn)(e:Env)(h:Hs)(Q:Q1)(X:XQ):Prop:=wSs (wF P n) d.body e h (λ_ g=>Q .non g) Q (λ_ _=>False) (λ_ _=>False) λ_ c g=>X c g
variable {P:Pg}{n:Nat}{a0 a1 a2 a3 a4 a5 a6 a7:Val}{h:Hs}{Q:Q1}{X:XQ}
local macro_rules|`(↑$n:num)=>`(.cst (.int $n))
local macro_rules|`(⇑$n:num)=>`(.var $n)
instance Qj:Fn:={ar:=1,sz:=1,body:=#[.never]}
instance Qw:Fn:={ar:=2,sz:=2,body:=#[.ret<|.cmp .gt (.idx ⇑0<|.glob "NUMBER"<|.int 0)<|.idx ⇑1<|.glob "NUMBER"<|.int 0]}
instance QX:Fn:={ar:=2,sz:=3,body:=#[.set (.one 2)<|.comp [0] 1 (.one 0) (.seq ⇑1) (.val<|.cmp .lt (.idx ⇑0 ↑0) ⇑1) ⇑0,.ret<|.bi .minD #[⇑2]]}
instance P0:Fn:={ar:=5,sz:=8,body:=#[.setFld ⇑0 "number" ⇑1,.setFld ⇑0 "life" ⇑2,.setFld ⇑0 "age_let_go" ⇑4,.setFld ⇑0 "ties_by_place"<|.dct .nil,.for (.many [5,6,7]) (.seq ⇑3) #[.setIdx (.fld ⇑0 "ties_by_place") ⇑5<|.tup #[⇑6,⇑7]],.setFld ⇑0 "held_by_place"<|.dct .nil,.setFld ⇑0 "label_now"<|.tup #[⇑1,↑0,.cst .non,.cst .non],.setFld ⇑0 "version" ↑0,.setFld ⇑0 "ticks_had" ↑0]}
instance QZ:Fn:={ar:=1,sz:=1,body:=#[.expr<|.call "_wall" #[↑0]]}
instance P3:Fn:={ar:=1,sz:=1,body:=#[.ret<|.fld ⇑0 "label_now"]}
instance P7:Fn:={ar:=1,sz:=1,body:=#[.ret<|.tup #[.fld ⇑0 "life",.fld ⇑0 "version"]]}
instance PV:Fn:={ar:=2,sz:=2,body:=#[.ret<|.bm .dget (.fld ⇑0 "held_by_place") #[⇑1]]}
instance QY:Fn:={ar:=4,sz:=4,body:=#[.ite (.val<|.cmp .notin ⇑1<|.fld ⇑0 "ties_by_place") #[.setIdx (.fld ⇑0 "ties_by_place") ⇑1<|.tup #[⇑2,⇑3]] .nil]}
instance PZ:Fn:={ar:=2,sz:=2,body:=#[.expr<|.bm .dpopD (.fld ⇑0 "ties_by_place") #[⇑1,.cst .non],.expr<|.bm .dpopD (.fld ⇑0 "held_by_place") #[⇑1,.cst .non]]}
instance PX:Fn:={ar:=3,sz:=4,body:=#[.ite (.val<|.cmp .notin ⇑1<|.fld ⇑0 "ties_by_place") #[.retN] .nil,.set (.one 3)<|.meth "Bridge" "held" ⇑0 #[⇑1],.ite (.or (.val<|.cmp .is ⇑3<|.cst .non)<|.val<|.call "newer" #[⇑2,.idx ⇑3 ↑0]) #[.setIdx (.fld ⇑0 "held_by_place") ⇑1<|.tup #[⇑2,.idx ⇑2<|.glob "AGE"<|.int 4]] .nil]}
instance P9:Fn:={ar:=1,sz:=2,body:=#[.expr<|.meth "Bridge" "let_grow_older" ⇑0 .nil,.expr<|.meth "Bridge" "take_label" ⇑0 #[.meth "Bridge" "reckon_label" ⇑0 .nil],.set (.one 1)<|.comp [0] 1 (.one 0) (.seq<|.bi .sorted #[.fld ⇑0 "ties_by_place"]) .yes<|.tup #[⇑0,.meth "Bridge" "letter_over" ⇑1 #[⇑0]],.augFld ⇑0 "ticks_had" .add 1,.ret ⇑1]}
instance P4:Fn:={ar:=1,sz:=4,body:=#[.set (.one 1)<|.dct .nil,.forI di (.many [2,3]) (.fld ⇑0 "held_by_place") #[.ite (.val<|.cmp .lt (.bin .add (.idx ⇑3 ↑1) ↑1)<|.fld ⇑0 "age_let_go") #[.setIdx ⇑1 ⇑2<|.tup #[.idx ⇑3 ↑0,.bin .add (.idx ⇑3 ↑1) ↑1]] .nil],.setFld ⇑0 "held_by_place" ⇑1]}
instance P6:Fn:={ar:=1,sz:=8,body:=#[.set (.one 1)<|.lst .nil,.forI di (.many [2,3]) (.fld ⇑0 "held_by_place") #[.set (.many [4,5])<|.idx (.fld ⇑0 "ties_by_place") ⇑2,.expr<|.bm .append ⇑1 #[.tup #[.idx (.idx ⇑3 ↑0)<|.glob "ROOT"<|.int 2,.bin .add (.idx (.idx ⇑3 ↑0)<|.glob "COST"<|.int 3) ⇑5,⇑4,⇑2]]],.set (.one 6)<|.call "best_offer" #[.fld ⇑0 "number",⇑1],.ite (.val<|.cmp .is ⇑6<|.cst .non) #[.ret<|.tup #[.fld ⇑0 "number",↑0,.cst .non,.cst .non]] .nil,.set (.many [7,5,4,2]) ⇑6,.ret<|.tup #[⇑7,⇑5,⇑2,.idx (.idx (.idx (.fld ⇑0 "held_by_place") ⇑2) ↑0)<|.glob "STAMP"<|.int 1]]}
instance P8:Fn:={ar:=2,sz:=2,body:=#[.ite (.val<|.cmp .ne ⇑1<|.fld ⇑0 "label_now") #[.setFld ⇑0 "label_now" ⇑1,.augFld ⇑0 "version" .add 1] .nil]}
instance P5:Fn:={ar:=2,sz:=8,body:=#[.set (.many [2,3,4,5])<|.fld ⇑0 "label_now",.set (.one 6)<|.ife (.val<|.cmp .is ⇑4<|.cst .non) ↑0<|.bin .add (.idx (.idx (.fld ⇑0 "held_by_place") ⇑4) ↑1) ↑1,.set (.one 7)<|.tup #[.tup #[.fld ⇑0 "life",.fld ⇑0 "ticks_had"],.meth "Bridge" "stamp" ⇑0 .nil,⇑2,⇑3,⇑6],.ite (.val<|.cmp .eq ⇑1 ⇑4) #[.ret<|.bin .add ⇑7<|.tup #[⇑5,.cst .non]] .nil,.ite (.val<|.meth "Bridge" "is_rested_on" ⇑0 #[⇑1]) #[.ret<|.bin .add ⇑7<|.tup #[.cst .non,.idx (.idx (.idx (.fld ⇑0 "held_by_place") ⇑1) ↑0)<|.glob "STAMP"<|.int 1]] .nil,.ret<|.bin .add ⇑7<|.tup #[.cst .non,.cst .non]]}
instance P2:Fn:={ar:=2,sz:=3,body:=#[.set (.one 2)<|.meth "Bridge" "held" ⇑0 #[⇑1],.ret<|.and (.cmp .isnot ⇑2<|.cst .non)<|.cmp .eq (.idx (.idx ⇑2 ↑0)<|.glob "RESTS"<|.int 5)<|.meth "Bridge" "stamp" ⇑0 .nil]}
instance P1:Fn:={ar:=2,sz:=3,body:=#[.set (.one 2)<|.meth "Bridge" "held" ⇑0 #[⇑1],.ite (.or (.val<|.cmp .is ⇑2<|.cst .non)<|.val<|.cmp .ne (.idx (.idx ⇑2 ↑0)<|.glob "AGREES"<|.int 6)<|.meth "Bridge" "stamp" ⇑0 .nil) #[.ret<|.cst<|.bl di] .nil,.ret<|.cmp .eq (.idx (.idx ⇑2 ↑0)<|.glob "STAMP"<|.int 1)<|.idx (.fld ⇑0 "label_now") ↑3]}
instance PY:Fn:={ar:=2,sz:=2,body:=#[.ite (.val<|.cmp .notin ⇑1<|.fld ⇑0 "ties_by_place") #[.ret<|.cst<|.str "down"] .nil,.ite (.val<|.cmp .eq ⇑1<|.idx (.fld ⇑0 "label_now") ↑2) #[.ret<|.ife (.val<|.meth "Bridge" "is_agreed_to" ⇑0 #[⇑1]) (.cst<|.str "child")<|.cst<|.str "shut"] .nil,.ret<|.ife (.val<|.meth "Bridge" "is_rested_on" ⇑0 #[⇑1]) (.cst<|.str "parent")<|.cst<|.str "shut"]}
instance Qx:Fn:={ar:=1,sz:=1,body:=#[.ite (.val<|.cmp .ge ⇑0<|.bin .pow ↑10 ↑18) #[.ret<|.lst #[⇑0,.bin .mod ⇑0 ↑2147483629]] .nil,.ret<|.lst #[↑0,.bin .mod ⇑0 ↑2147483629]]}
instance QD:Fn:={ar:=2,sz:=4,body:=#[.ite (.val<|.cmp .gt (.idx ⇑0 ↑0) ↑0) #[.set (.one 2)<|.bin .mod (.idx ⇑0 ↑0) ⇑1,.setIdx ⇑0 ↑0<|.bin .fdiv (.idx ⇑0 ↑0) ⇑1,.ret ⇑2] .nil,.set (.one 3)<|.bin .mod (.bin .add (.bin .mul (.idx ⇑0 ↑1) ↑48271) ↑11) ↑2147483647,.set (.one 3)<|.bin .mod (.bin .mul ⇑3 ⇑3) ↑2147483587,.setIdx ⇑0 ↑1<|.bin .mod (.bin .add (.bin .mul ⇑3 ↑69621) ↑40692) ↑2147483629,.ret<|.bin .mod (.bin .fdiv (.idx ⇑0 ↑1) ↑8) ⇑1]}
instance QQ:Fn:={ar:=2,sz:=4,body:=#[.ite (.val<|.cmp .is ⇑1<|.cst .non) #[.ret<|.cmp .is ⇑0<|.cst .non] .nil,.ite (.val<|.bi (.isi ["bool"]) #[⇑1]) #[.ret<|.and (.bi (.isi ["bool"]) #[⇑0])<|.cmp .eq ⇑0 ⇑1] .nil,.ite (.val<|.bi (.isi ["int"]) #[⇑1]) #[.ret<|.and (.bi (.isi ["int"]) #[⇑0])<|.and (.not<|.bi (.isi ["bool"]) #[⇑0])<|.cmp .eq ⇑0 ⇑1] .nil,.ite (.val<|.bi (.isi ["str"]) #[⇑1]) #[.ret<|.and (.bi (.isi ["str"]) #[⇑0])<|.cmp .eq ⇑0 ⇑1] .nil,.ite (.and (.val<|.bi (.isi ["tuple"]) #[⇑1])<|.not<|.val<|.bi (.isi ["tuple"]) #[⇑0]) #[.ret<|.cst<|.bl di] .nil,.ite (.and (.val<|.bi (.isi ["list"]) #[⇑1])<|.not<|.val<|.bi (.isi ["list"]) #[⇑0]) #[.ret<|.cst<|.bl di] .nil,.ite (.val<|.cmp .ne (.bi .len #[⇑0])<|.bi .len #[⇑1]) #[.ret<|.cst<|.bl di] .nil,.for (.many [2,3]) (.zip ⇑0 ⇑1) #[.ite (.not<|.val<|.call "_law_same" #[⇑2,⇑3]) #[.ret<|.cst<|.bl di] .nil],.ret<|.cst<|.bl dh]}
instance QU:Fn:={ar:=1,sz:=1,body:=#[.ret<|.idx (.lst #[↑1,↑1,↑2,↑1000,.bin .add ↑1<|.call "_law_draw" #[⇑0,↑1000]])<|.call "_law_draw" #[⇑0,↑5]]}
instance QG:Fn:={ar:=3,sz:=7,body:=#[.set (.one 3)<|.comp [2] 1 (.one 0) (.seq<|.lst #[↑0,↑1,↑2,↑500,↑999]) (.val<|.cmp .notin ⇑0 ⇑1) ⇑0,.set (.one 4)<|.dct .nil,.for (.one 5) (.range<|.call "_law_draw" #[⇑0,↑3]) #[.set (.one 6)<|.bm .popAt ⇑1 #[.call "_law_draw" #[⇑0,.bi .len #[⇑1]]],.setIdx ⇑4 ⇑6<|.tup #[.idx ⇑3<|.call "_law_draw" #[⇑0,.bi .len #[⇑3]],.call "_law_cost" #[⇑0]]],.ret ⇑4]}
instance QM:Fn:={ar:=2,sz:=7,body:=#[.set (.one 2)<|.idx (.idx ⇑0<|.cst<|.str "numbers")<|.bin .sub ↑1 ⇑1,.set (.one 3)<|.lst .nil,.forI dh (.one 4) (.idx ⇑0<|.cst<|.str "between") #[.ite (.val<|.cmp .notin ⇑4<|.idx ⇑0<|.cst<|.str "fallen") #[.expr<|.bm .append ⇑3 #[.tup #[⇑4,⇑2,.idx (.idx ⇑0<|.cst<|.str "between") ⇑4]]] .nil],.forI dh (.one 4) (.idx (.idx ⇑0<|.cst<|.str "far") ⇑1) #[.set (.many [5,6])<|.idx (.idx (.idx ⇑0<|.cst<|.str "far") ⇑1) ⇑4,.expr<|.bm .append ⇑3 #[.tup #[⇑4,⇑5,⇑6]]],.ret<|.make "Bridge" #[.idx (.idx ⇑0<|.cst<|.str "numbers") ⇑1,.idx (.idx ⇑0<|.cst<|.str "lives") ⇑1,⇑3,.idx ⇑0<|.cst<|.str "most"]]}
instance QS:Fn:={ar:=1,sz:=11,body:=#[.set (.one 1)<|.idx (.lst #[↑0,↑1,↑7,.call "_law_draw" #[⇑0,↑999]])<|.call "_law_draw" #[⇑0,↑4],.set (.one 2)<|.idx (.lst #[.bin .add ⇑1 ↑1,↑999,.bin .add (.bin .add ⇑1 ↑1)<|.call "_law_draw" #[⇑0,.bin .sub ↑999 ⇑1]])<|.call "_law_draw" #[⇑0,↑3],.set (.one 3)<|.bi .listRange #[↑16],.set (.one 4)<|.dct .nil,.for (.one 5) (.range<|.bin .add ↑1<|.call "_law_draw" #[⇑0,↑3]) #[.set (.one 6)<|.bm .popAt ⇑3 #[.call "_law_draw" #[⇑0,.bi .len #[⇑3]]],.setIdx ⇑4 ⇑6<|.call "_law_cost" #[⇑0]],.set (.one 7)<|.lst #[.call "_law_far_ties" #[⇑0,⇑3,.tup #[⇑1,⇑2]],.call "_law_far_ties" #[⇑0,⇑3,.tup #[⇑1,⇑2]]],.set (.one 8)<|.lst #[.idx (.lst #[↑0,↑3,.bin .pow ↑10 ↑30])<|.call "_law_draw" #[⇑0,↑3],.idx (.lst #[↑0,↑2,.bin .pow ↑10 ↑30])<|.call "_law_draw" #[⇑0,↑3]],.set (.one 9)<|.idx (.lst #[↑8,↑8,↑8,↑9,↑10,↑12,↑20,↑200])<|.call "_law_draw" #[⇑0,↑8],.set (.one 10)<|.dct #[.cst<|.str "numbers",.lst #[⇑1,⇑2],.cst<|.str "lives",⇑8,.cst<|.str "most",⇑9,.cst<|.str "between",⇑4,.cst<|.str "far",⇑7],.setIdx ⇑10 (.cst<|.str "fallen")<|.lst .nil,.setIdx ⇑10 (.cst<|.str "road")<|.lst .nil,.setIdx ⇑10 (.cst<|.str "bridges")<|.lst .nil,.setIdx ⇑10 (.cst<|.str "bridges")<|.lst #[.call "_law_begun" #[⇑10,↑0],.call "_law_begun" #[⇑10,↑1]],.ret ⇑10]}
instance Qz:Fn:={ar:=2,sz:=4,body:=#[.for (.many [2,3]) (.seq<|.meth "Bridge" "tick" (.idx (.idx ⇑0<|.cst<|.str "bridges") ⇑1) .nil) #[.ite (.val<|.cmp .isin ⇑2<|.idx ⇑0<|.cst<|.str "between") #[.expr<|.bm .append (.idx ⇑0<|.cst<|.str "road") #[.tup #[.bin .sub ↑1 ⇑1,⇑2,⇑3]]] .nil]]}
instance QN:Fn:={ar:=2,sz:=5,body:=#[.set (.many [2,3,4])<|.bm .popAt (.idx ⇑0<|.cst<|.str "road") #[⇑1],.ite (.val<|.cmp .notin ⇑3<|.idx ⇑0<|.cst<|.str "fallen") #[.expr<|.meth "Bridge" "hear" (.idx (.idx ⇑0<|.cst<|.str "bridges") ⇑2) #[⇑3,⇑4]] .nil]}
instance QP:Fn:={ar:=1,sz:=2,body:=#[.expr<|.call "_law_tick" #[⇑0,↑0],.expr<|.call "_law_tick" #[⇑0,↑1],.for (.one 1) (.range<|.bi .len #[.idx ⇑0<|.cst<|.str "road"]) #[.expr<|.call "_law_come" #[⇑0,↑0]]]}
instance QF:Fn:={ar:=3,sz:=13,body:=#[.set (.one 3)<|.bi .sorted #[.idx (.idx ⇑1<|.cst<|.str "far") ⇑2],.ite (.val<|.cmp .neE ⇑3<|.lst .nil) #[.set (.one 4)<|.idx ⇑3<|.call "_law_draw" #[⇑0,.bi .len #[⇑3]],.set (.one 5)<|.idx (.idx ⇑1<|.cst<|.str "lives") ⇑2,.set (.one 6)<|.tup #[.call "_law_draw" #[⇑0,↑3],.call "_law_draw" #[⇑0,↑40]],.set (.one 7)<|.tup #[.call "_law_draw" #[⇑0,↑2],.call "_law_draw" #[⇑0,↑9]],.set (.one 8)<|.idx (.lst #[↑0,↑0,.idx (.idx ⇑1<|.cst<|.str "numbers") ↑0,.idx (.idx ⇑1<|.cst<|.str "numbers") ↑1,.call "_law_draw" #[⇑0,↑1000]])<|.call "_law_draw" #[⇑0,↑5],.set (.one 9)<|.lst #[.cst .non,.tup #[⇑5,.call "_law_draw" #[⇑0,↑9]],.tup #[⇑5,.call "_law_draw" #[⇑0,↑3]],⇑7],.set (.one 10)<|.idx (.lst #[↑0,↑0,↑1,↑5,.call "_law_draw" #[⇑0,↑210]])<|.call "_law_draw" #[⇑0,↑5],.set (.one 11)<|.idx ⇑9<|.call "_law_draw" #[⇑0,↑4],.set (.one 12)<|.tup #[⇑6,⇑7,⇑8,.call "_law_draw" #[⇑0,↑9],⇑10,⇑11,.idx ⇑9<|.call "_law_draw" #[⇑0,↑4]],.expr<|.meth "Bridge" "hear" (.idx (.idx ⇑1<|.cst<|.str "bridges") ⇑2) #[⇑4,⇑12]] .nil]}
instance Qy:Fn:={ar:=2,sz:=4,body:=#[.setL [2,3]<|.idx ⇑0<|.cst<|.str "bridges",.ite (.val<|.cmp .isin ⇑1<|.idx ⇑0<|.cst<|.str "fallen") #[.expr<|.bm .remove (.idx ⇑0<|.cst<|.str "fallen") #[⇑1],.expr<|.meth "Bridge" "up" ⇑2 #[⇑1,.idx (.idx ⇑0<|.cst<|.str "numbers") ↑1,.idx (.idx ⇑0<|.cst<|.str "between") ⇑1],.expr<|.meth "Bridge" "up" ⇑3 #[⇑1,.idx (.idx ⇑0<|.cst<|.str "numbers") ↑0,.idx (.idx ⇑0<|.cst<|.str "between") ⇑1]] #[.expr<|.bm .append (.idx ⇑0<|.cst<|.str "fallen") #[⇑1],.expr<|.meth "Bridge" "down" ⇑2 #[⇑1],.expr<|.meth "Bridge" "down" ⇑3 #[⇑1]]]}
instance QK:Fn:={ar:=2,sz:=5,body:=#[.set (.one 2)<|.idx (.idx ⇑0<|.cst<|.str "bridges")<|.bin .sub ↑1 ⇑1,.thw<|.set (.one 4)<|.comp [0] 1 (.one 0) (.items<|.idx ⇑0<|.cst<|.str "between") (.val<|.cmp .notin ⇑0<|.idx ⇑1<|.cst<|.str "fallen") ⇑0,.for (.one 3) (.seq ⇑4) #[.expr<|.meth "Bridge" "down" ⇑2 #[⇑3]],.setIdx (.idx ⇑0<|.cst<|.str "lives") ⇑1<|.bin .add (.idx (.idx ⇑0<|.cst<|.str "lives") ⇑1) ↑1,.setIdx (.idx ⇑0<|.cst<|.str "bridges") ⇑1<|.call "_law_begun" #[⇑0,⇑1],.for (.one 3) (.seq ⇑4) #[.expr<|.meth "Bridge" "up" ⇑2 #[⇑3,.idx (.idx ⇑0<|.cst<|.str "numbers") ⇑1,.idx (.idx ⇑0<|.cst<|.str "between") ⇑3]]]}
instance QC:Fn:={ar:=2,sz:=7,body:=#[.set (.one 2)<|.call "_law_draw" #[⇑0,↑13],.set (.one 3)<|.call "_law_draw" #[⇑0,↑2],.ite (.val<|.cmp .lt ⇑2 ↑3) #[.expr<|.call "_law_tick" #[⇑1,⇑3]] #[.ite (.val<|.cmp .lt ⇑2 ↑8) #[.ite (.val<|.cmp .neE (.idx ⇑1<|.cst<|.str "road")<|.lst .nil) #[.set (.one 4)<|.bin .sub (.bi .len #[.idx ⇑1<|.cst<|.str "road"]) ↑1,.set (.one 5)<|.idx (.lst #[↑0,⇑4,.call "_law_draw" #[⇑0,.bin .add ⇑4 ↑1]])<|.call "_law_draw" #[⇑0,↑3],.ite (.val<|.cmp .lt ⇑2 ↑7) #[.expr<|.call "_law_come" #[⇑1,⇑5]] #[.expr<|.bm .popAt (.idx ⇑1<|.cst<|.str "road") #[⇑5]]] .nil] #[.ite (.val<|.cmp .eq ⇑2 ↑8) #[.expr<|.call "_law_far_letter" #[⇑0,⇑1,⇑3]] #[.ite (.val<|.cmp .eq ⇑2 ↑9) #[.set (.one 6)<|.bi .sorted #[.idx ⇑1<|.cst<|.str "between"],.expr<|.call "_law_turned" #[⇑1,.idx ⇑6<|.call "_law_draw" #[⇑0,.bi .len #[⇑6]]]] #[.ite (.val<|.cmp .eq ⇑2 ↑10) #[.expr<|.call "_law_anew" #[⇑1,⇑3]] #[.expr<|.call "_law_round" #[⇑1]]]]]]]}
instance QE:Fn:={ar:=2,sz:=4,body:=#[.setL [2,3]<|.idx ⇑0<|.cst<|.str "bridges",.ret<|.lst #[.meth "Bridge" "end" ⇑2 #[⇑1],.meth "Bridge" "end" ⇑3 #[⇑1]]]}
instance QH:Fn:={ar:=2,sz:=6,body:=#[.set (.one 2)<|.call "_law_ends" #[⇑0,⇑1],.ite (.val<|.cmp .isin ⇑1<|.idx ⇑0<|.cst<|.str "fallen") #[.ret<|.cmp .eq ⇑2<|.lst #[.cst<|.str "down",.cst<|.str "down"]] .nil,.for (.one 3) (.seq ⇑2) #[.ite (.val<|.cmp .notin ⇑3<|.tup #[.cst<|.str "child",.cst<|.str "parent",.cst<|.str "shut"]) #[.ret<|.cst<|.bl di] .nil],.ite (.val<|.cmp .eq (.idx ⇑2 ↑0)<|.idx ⇑2 ↑1) #[.ret<|.cmp .eq (.idx ⇑2 ↑0)<|.cst<|.str "shut"] .nil,.ite (.val<|.cmp .isin (.cst<|.str "shut") ⇑2) #[.ret<|.cst<|.bl dh] .nil,.set (.one 4)<|.meth "Bridge" "label" (.idx (.idx ⇑0<|.cst<|.str "bridges")<|.bm .lidx ⇑2 #[.cst<|.str "child"]) .nil,.set (.one 5)<|.meth "Bridge" "label" (.idx (.idx ⇑0<|.cst<|.str "bridges")<|.bm .lidx ⇑2 #[.cst<|.str "parent"]) .nil,.ret<|.and (.cmp .eq (.idx ⇑4 ↑0)<|.idx ⇑5 ↑0)<|.cmp .eq (.idx ⇑4 ↑1)<|.bin .add (.idx ⇑5 ↑1)<|.idx (.idx ⇑0<|.cst<|.str "between") ⇑1]}
instance QJ:Fn:={ar:=1,sz:=5,body:=#[.set (.one 1)<|.lst #[↑0,↑0],.for (.one 2) (.seq<|.bi .sorted #[.idx ⇑0<|.cst<|.str "between"]) #[.ite (.not<|.val<|.call "_law_fits" #[⇑0,⇑2]) #[.ret<|.cst<|.bl di] .nil,.set (.one 3)<|.call "_law_ends" #[⇑0,⇑2],.for (.one 4) (.range ↑2) #[.setIdx ⇑1 ⇑4<|.bin .add (.idx ⇑1 ⇑4)<|.bi .int #[.cmp .eq (.idx ⇑3 ⇑4)<|.cst<|.str "child"]]],.ret<|.cmp .lt (.bi .maxL #[⇑1]) ↑2]}
instance QL:Fn:={ar:=1,sz:=4,body:=#[.for (.one 1) (.seq<|.bi .list #[.idx ⇑0<|.cst<|.str "fallen"]) #[.expr<|.call "_law_turned" #[⇑0,⇑1]],.for (.one 2) (.range ↑2) #[.forI dh (.one 1) (.idx (.idx ⇑0<|.cst<|.str "far") ⇑2) #[.expr<|.meth "Bridge" "down" (.idx (.idx ⇑0<|.cst<|.str "bridges") ⇑2) #[⇑1]]],.for (.one 3) (.range<|.bin .add (.idx ⇑0<|.cst<|.str "most") ↑14) #[.expr<|.call "_law_round" #[⇑0]]]}
instance QR:Fn:={ar:=1,sz:=8,body:=#[.setL [1,2]<|.idx ⇑0<|.cst<|.str "bridges",.set (.one 3)<|.idx (.idx ⇑0<|.cst<|.str "numbers") ↑0,.thw<|.set (.many [5,6])<|.idx (.bi .sorted #[.comp [0] 1 (.one 0) (.items<|.idx ⇑0<|.cst<|.str "between") .yes<|.tup #[.idx (.idx ⇑1<|.cst<|.str "between") ⇑0,⇑0]]) ↑0,.ite (.or (.not<|.val<|.call "_law_same" #[.meth "Bridge" "label" ⇑1 .nil,.tup #[⇑3,↑0,.cst .non,.cst .non]])<|.not<|.val<|.call "_law_same" #[.meth "Bridge" "label" ⇑2 .nil,.tup #[⇑3,⇑5,⇑6,.meth "Bridge" "stamp" ⇑1 .nil]]) #[.ret<|.cst<|.bl di] .nil,.forI dh (.one 4) (.idx ⇑0<|.cst<|.str "between") #[.set (.one 7)<|.idx (.lst #[.lst #[.cst<|.str "shut",.cst<|.str "shut"],.lst #[.cst<|.str "parent",.cst<|.str "child"]])<|.bi .int #[.cmp .eq ⇑4 ⇑6],.ite (.not<|.val<|.call "_law_same" #[.call "_law_ends" #[⇑0,⇑4],⇑7]) #[.ret<|.cst<|.bl di] .nil],.ret<|.cst<|.bl dh]}
instance QW:Fn:={ar:=1,sz:=6,body:=#[.set (.one 1)<|.bin .add (.lst #[↑7])<|.slc ⇑0 .none<|.some ↑1,.set (.one 2)<|.call "_law_state" #[.call "_law_well" #[.idx ⇑1<|.neg ↑1]],.for (.one 3) (.seq<|.bin .add (.lst #[↑1,↑2,↑3,↑4,↑5])<|.slc ⇑0 (.some ↑1)<|.some ↑61) #[.set (.one 4)<|.call "_law_well" #[⇑3],.for (.one 5) (.range<|.bin .add ↑1<|.call "_law_draw" #[⇑4,↑3]) #[.expr<|.call "_law_deed" #[⇑4,⇑2],.ite (.not<|.val<|.call "_law_all_fit" #[⇑2]) #[.ret<|.cst<|.bl di] .nil]],.expr<|.call "_law_quiet" #[⇑2],.ret<|.and (.call "_law_settled" #[⇑2])<|.call "_law_all_fit" #[⇑2]]}
class Al(P:Pg):Prop where
 c0:P "_wall" = df Qj
 c1:P "newer" = df Qw
 c2:P "best_offer" = df QX
 c3:P "Bridge.__init__" = df P0
 c4:P "Bridge.twin" = df QZ
 c5:P "Bridge.label" = df P3
 c6:P "Bridge.stamp" = df P7
 c7:P "Bridge.held" = df PV
 c8:P "Bridge.up" = df QY
 c9:P "Bridge.down" = df PZ
 c10:P "Bridge.hear" = df PX
 c11:P "Bridge.tick" = df P9
 c12:P "Bridge.let_grow_older" = df P4
 c13:P "Bridge.reckon_label" = df P6
 c14:P "Bridge.take_label" = df P8
 c15:P "Bridge.letter_over" = df P5
 c16:P "Bridge.is_rested_on" = df P2
 c17:P "Bridge.is_agreed_to" = df P1
 c18:P "Bridge.end" = df PY
 c19:P "_law_well" = df Qx
 c20:P "_law_draw" = df QD
 c21:P "_law_same" = df QQ
 c22:P "_law_cost" = df QU
 c23:P "_law_far_ties" = df QG
 c24:P "_law_begun" = df QM
 c25:P "_law_state" = df QS
 c26:P "_law_tick" = df Qz
 c27:P "_law_come" = df QN
 c28:P "_law_round" = df QP
 c29:P "_law_far_letter" = df QF
 c30:P "_law_turned" = df Qy
 c31:P "_law_anew" = df QK
 c32:P "_law_deed" = df QC
 c33:P "_law_ends" = df QE
 c34:P "_law_fits" = df QH
 c35:P "_law_all_fit" = df QJ
 c36:P "_law_quiet" = df QL
 c37:P "_law_settled" = df QR
 c38:P "law" = df QW
set_option hygiene false in
local macro_rules|`(#check $r:ident $c:ident $d:ident $s:str $a:num $z:num)=>do
 let v:=(Array.range a.getNat).map λi=>Lean.mkIdent (.mkSimple s!"a{i}")
 let e<-(Array.range z.getNat).mapM λi=>if i<a.getNat then `(df $(v[i]!))else`(dg)
 `(theorem $r [Al P](q:B0 P n $d [$e,*] h Q X):wF P (n+1) $s [$v,*] h Q X:=Zn $c rfl q)
#check Dv Al.c1 Qw "newer" 2 2
#check Ki Al.c2 QX "best_offer" 2 3
#check Jt Al.c3 P0 "Bridge.__init__" 5 8
#check WT Al.c5 P3 "Bridge.label" 1 1
#check WC Al.c6 P7 "Bridge.stamp" 1 1
#check Ju Al.c7 PV "Bridge.held" 2 2
#check Mh Al.c8 QY "Bridge.up" 4 4
#check Js Al.c9 PZ "Bridge.down" 2 2
#check Jp Al.c10 PX "Bridge.hear" 3 4
#check Jr Al.c11 P9 "Bridge.tick" 1 2
#check Yi Al.c12 P4 "Bridge.let_grow_older" 1 4
#check YD Al.c13 P6 "Bridge.reckon_label" 1 8
#check Y1 Al.c14 P8 "Bridge.take_label" 2 2
#check YH Al.c15 P5 "Bridge.letter_over" 2 8
#check YE Al.c16 P2 "Bridge.is_rested_on" 2 3
#check YB Al.c17 P1 "Bridge.is_agreed_to" 2 3
#check KO Al.c18 PY "Bridge.end" 2 2
#check NE Al.c19 Qx "_law_well" 1 1
#check Ng Al.c20 QD "_law_draw" 2 4
#check Z8 Al.c21 QQ "_law_same" 2 4
#check Nz Al.c22 QU "_law_cost" 1 1
#check WD Al.c23 QG "_law_far_ties" 3 7
#check K0 Al.c24 QM "_law_begun" 2 7
#check MA Al.c25 QS "_law_state" 1 11
#check ND Al.c26 Qz "_law_tick" 2 4
#check MW Al.c27 QN "_law_come" 2 5
#check K3 Al.c28 QP "_law_round" 1 2
#check XR Al.c29 QF "_law_far_letter" 3 13
#check KN Al.c30 Qy "_law_turned" 2 4
#check M9 Al.c31 QK "_law_anew" 2 5
#check M8 Al.c32 QC "_law_deed" 2 7
#check NF Al.c33 QE "_law_ends" 2 4
#check Nw Al.c34 QH "_law_fits" 2 6
#check Jm Al.c35 QJ "_law_all_fit" 1 5
#check KS Al.c36 QL "_law_quiet" 1 4
#check Jo Al.c37 QR "_law_settled" 1 8
#check IX Al.c38 QW "law" 1 6
local macro_rules|`(#[$x])=>`(.cons $x .nil)|`(#[$x,$y,*])=>`(.cons $x #[$y,*])
local macro_rules | `(tactic| walk_at "ne")=>`(tactic| first | assumption | (apply Ne.symm; assumption) | ((with_reducible apply ne_none'); (· assumption); (· walk_at "look")) | (apply Ne.symm; (with_reducible apply ne_none'); (· assumption); (· walk_at "look")))
local macro_rules | `(tactic| walk_at "look")=>`(tactic| first | assumption | with_reducible exact dm | ((with_reducible apply upd_ne'); (· walk_at "ne"); (· walk_at "look")) | ((with_reducible apply Ext.get); (· assumption); (· walk_at "look")) | ((with_reducible apply ExtB.get); (· assumption); (· walk_at "ne"); (· walk_at "look")))
local macro_rules | `(tactic| walk_at "ar")=>`(tactic| first | decide | lia | assumption | (simp only [Î,ľ]; decide))
local macro_rules | `(tactic| walk_at "mul")=>`(tactic| first | exact .inl (.inr<|by lia) | exact .inl (.inl<|by lia) | exact .inr ⟨by decide,by decide⟩)
local macro_rules | `(tactic| walk_at "setl")=>`(tactic| first | (simp only [Ψ,Χ,ϕ,ĭ,List.foldl_nil,Ω,ϊ]; done) | (simp only [Ψ,Χ,ϕ,ĭ,List.foldl_nil,Ω,ϊ]; exact rfl) | exact rfl)
local macro_rules | `(tactic| walk_at "w")=>`(tactic| with_reducible conv=>whnf)
local macro_rules | `(tactic| walk_at "py1")=>do
 let a<-[`dw0,`dw,`b_add,`b_sub,`g_int,`g_bl,`g_ref,`g_tbl,`c_lt,`c_gt,`c_ge,`c_eqI,`c_neI,`c_eqS,`c_isN,`c_notN,`ag_add,`ln_tup,`in_bl,`sl_scr].toArray.mapM λn=>`(tactic| refine $(Lean.mkIdent n) ?_)
 let c<-[`ln_lst,`ls_lst,`it_lst,`dc_of].toArray.mapM λn=>`(tactic| ((with_reducible apply $(Lean.mkIdent n)); (· walk_at "look")))
 `(tactic| first
 |(with_reducible first $[| $a:tactic]*)
 |((with_reducible apply Ld);(· exact rfl))
 |((with_reducible apply Hv);(· walk_at "setl"))|((with_reducible apply F7);(· (simp![bindL,Ω,ϊ];exact rfl)))|((with_reducible apply b_mul);(· walk_at "mul"))|((with_reducible apply b_fdiv);(· walk_at "ar"))|((with_reducible apply b_mod);(· walk_at "ar"))|((with_reducible apply FB);(· walk_at "ar");(· simp![Int.reduceToNat,Int.reducePow];exact rfl))|((with_reducible apply M2);(· walk_at "look");(· walk_at "look");(· first|(simp![Ĺ,Į,Î,ľ];decide)|lia))|((with_reducible apply F1);(· walk_at "ar"))
 |((with_reducible apply dz);(· exact rfl))|((with_reducible apply Zi);(· walk_at "look");(· exact rfl))
 |((with_reducible apply Nk);(· walk_at "look");(· exact rfl))|((with_reducible apply YR);(· walk_at "look");(· walk_at "ar"))|((with_reducible apply GS);(· walk_at "look");(· exact rfl))|((with_reducible apply FU);(· walk_at "look");(· exact rfl))
 |((with_reducible apply Ny);(· exact rfl))
 | ((with_reducible apply Hr);(· first | exact .inl rfl | exact .inr (.inl rfl) | simp);(· walk_at "look")) | ((with_reducible apply FJ);(· first | exact rfl | simp);(· walk_at "look")) | ((with_reducible apply Yj);(· walk_at "look");(· walk_at "ar")) | (first $[| $c:tactic]*))
local macro_rules | `(tactic| fail)=>`(tactic| ((repeat walk_at "py1"); walk_at "w"))
local macro_rules | `(tactic| walk_at "p")=>`(tactic| ((repeat first | walk_at "py1" | refine eN rfl ?_ | refine eP rfl ?_); walk_at "w"))
local macro_rules | `(tactic| exists $e)=>`(tactic| (fail; refine $e ?_))
local macro_rules | `(tactic| refine' $e)=>`(tactic| (fail; refine $e))
section
variable {α:Type}(val:α->Val)
abbrev Zc(kvs:List<|Int×α):List<|Val×Val:=kvs.map λp=>(.int p.1,val p.2)
abbrev Ys(kvs:List<|Int×α)(k:Int)(v:α):List<|Int×α:=if(kvs.lookup k).isSome then kvs.map (λp=>if p.1=k then(k,v)else p)else kvs++[(k,v)]
abbrev ZQ(kvs:List<|Int×α)(k:Int):List<|Int×α:=kvs.filter λp=>fB (p.1≠k)
variable {val}
def Wd(a b:Int):(Val.int a==Val.int b)=fB (a=b):=by
 by_cases e:a=b
 .subst e;simp
 .rw[ft e];exact beq_eq_false_iff_ne.mpr λz=>e (by injection z)
def Yn(kvs:List<|Int×α)(k:Int):dO (Zc val kvs) (.int k)=(kvs.lookup k).map val:=by
 induction kvs with
 |nil=>rfl
 |cons p r ih =>
  unfold dO Zc at ih ⊢;rw[È,Ē,à,Wd];by_cases e:p.1=k
  .have:(k==p.1)=dh:=by simp[e]
   simp[e]
  .have h2:(k==p.1)=di:=by simpa using λz=>e z.symm
   rw[ft e,h2];exact ih
def AB(kvs:List<|Int×α)(k:Int):dP (Zc val kvs) (.int k)=(kvs.lookup k).isSome:=by
 induction kvs with
 |nil=>rfl
 |cons p r ih =>
  unfold dP Zc at ih ⊢;rw[È,Ģ,à,Wd];by_cases e:p.1=k
  .simp[e]
  .have h2:(k==p.1)=di:=by simpa using λz=>e z.symm
   rw[ft e,h2];exact ih
def YX(kvs:List<|Int×α)(k:Int)(v:α):dQ (Zc val kvs) (.int k) (val v)=Zc val (Ys kvs k v):=by
 unfold dQ Ys;rw[AB];split
 .unfold Zc;rw[ą,ą];refine ō λp _=>?_;simp![Ε,Wd];by_cases e:p.1=k
  .simp[e]
  .simp[e]
 .unfold Zc;rw[â];rfl
def MH(kvs:List<|Int×α)(k:Int):dR (Zc val kvs) (.int k)=Zc val (ZQ kvs k):=by
 unfold dR ZQ Zc;induction kvs with
 |nil=>rfl
 |cons p r ih =>rw[È,ĉ,ĉ,Wd,ih];by_cases e:p.1=k<;>simp[e]
def YQ(ns:List Int):dA (ns.map Val.int)=df ns:=by
 induction ns with
 |nil=>rfl
 |cons n ns ih=>show(dA<|ns.map Val.int).map _=_;rw[ih];rfl
def Oa(kvs:List<|Int×α):keysOf (Zc val kvs)=df (kvs.map (·.1)):=by unfold keysOf Zc;rw[ą];exact(congrArg dA (ą (f:=λp:Int×α=>p.1) (g:=Val.int) (l:=kvs)).symm).trans (YQ _)
def Nf(kvs:List<|Int×α):(Zc val kvs).length=kvs.length:=by unfold Zc;rw[Á]
variable {kvs:List (Int×α)}
def Zd{k:Int}{v:α}(h:kvs.lookup k=df v):(k,v)∈kvs:=by
 induction kvs with
 |nil=>cases h
 |cons p r ih =>
  rw[à]at h;by_cases e:k=p.1
  .have:(k==p.1)=dh:=by simp[e]
   rw[this]at h;cases h;rw[e];exact Ý
  .have:(k==p.1)=di:=⇑e
   rw[this]at h;exact Ù _<|ih h
def Zw{k:Int}(h:k∈kvs.map (·.1)):∃v,kvs.lookup k=df v:=by
 induction kvs with
 |nil=>cases h
 |cons p r ih =>
  rw[à];by_cases e:k=p.1
  .have:(k==p.1)=dh:=by simp[e]
   rw[this];exact⟨_,rfl⟩
  .have:(k==p.1)=di:=⇑e
   rw[this];rw[È,Æ]at h;exact ih<|h.resolve_left e
def Ur{k:Int}(h:kvs.lookup k=dg):k∉kvs.map (·.1):=λm=>by let⟨v,e⟩:=Zw m;rw[h]at e;cases e
def Zr(nd:(kvs.map (·.1)).Nodup){k:Int}{v:α}(h:(k,v)∈kvs):kvs.lookup k=df v:=by
 induction kvs with
 |nil=>cases h
 |cons p r ih =>
  rw[È,Ā]at nd;rw[à];rcases Æ.mp h with e|h
  .subst e;simp
  .have:k≠p.1:=λz=>nd.1 (z▸Ú (f:=(·.1)) h);have:(k==p.1)=di:=⇑this
   rw[this];exact ih nd.2 h
def WW(kvs:List<|Int×α)(k:Int)(v:α):(Ys kvs k v).map (·.1)=if(kvs.lookup k).isSome then kvs.map (·.1)else kvs.map (·.1)++[k]:=by
 unfold Ys;split
 .rw[ą];refine ō λp _=>?_;simp![Ε];by_cases e:p.1=k<;>simp[e]
 .rw[â];rfl
def Wj{k:Int}(v:α)(h:k∉kvs.map (·.1)):Ys kvs k v=kvs++[(k,v)]:=by
 unfold Ys;have:kvs.lookup k=dg:=by
  cases e:kvs.lookup k with
  |none=>rfl
  |some w=>exact fA (Ú (f:=(·.1))<|Zd e) h
 rw[this];rfl
def J4(nd:(kvs.map (·.1)).Nodup)(k:Int)(v:α):((Ys kvs k v).map (·.1)).Nodup:=by
 rw[WW];split
 .exact nd
 .rename_i h;have h:kvs.lookup k=dg:=ϟ.mp h;rw[ø];refine⟨nd,by simp,λa ha b hb=>?_⟩;rw[û.mp hb];exact λe=>Ur h<|e▸ha
variable {p:Int×α}
def Wo{k:Int}{v:α}(h:p∈Ys kvs k v):p=(k,v)\/p∈kvs:=by
 unfold Ys at h;split at h
 .obtain⟨q,hq,e⟩:=Ð.mp h;split at e
  .exact .inl e.symm
  .exact .inr<|e▸hq
 .rcases æ.mp h with h|h
  .exact .inr h
  .exact .inl<|û.mp h
def KY(kvs:List<|Int×α)(k:Int):(ZQ kvs k).Sublist kvs:=cf
def Ji(nd:(kvs.map (·.1)).Nodup)(k:Int):((ZQ kvs k).map (·.1)).Nodup:=nd.sublist ((KY kvs k).map _)
def DX{k:Int}(h:p∈ZQ kvs k):p.1≠k:=by unfold ZQ at h;have:=(í.mp h).2;simpa using this
end
def ZI:∀{m:Nat}{ns:List Int},ns.Nodup->(∀x∈ns,0<=x/\x<m)->ns.length<=m
 |0,ns,nd,h=>by
  cases ns with
  |nil=>exact Ê _
  |cons x xs=>have:=h x Ý;lia
 |m+1,ns,nd,h=>by
  by_cases hm:(m:Int)∈ns
  .have:=ZI (m:=m) (nd.erase (m:Int)) λx hx=>by
    have h1:=(nd.mem_erase_iff).mp hx;have h2:=h x h1.2;have:=h1.1;lia
   rw[List.length_erase_of_mem hm]at this;lia
  .have:=ZI (m:=m) nd λx hx=>by
    have h2:=h x hx;have:x≠(m:Int):=λe=>hm<|e▸hx;lia
   lia
noncomputable abbrev Pi:=Int×Int
noncomputable abbrev pV(p:Pi):Val:=.tup [.int p.1,.int p.2]
abbrev oV:Option Pi->Val
 |none=>.non
 |some p=>pV p
structure L where
 num:Pi
 st:Pi
 root:Int
 cost:Int
 age:Int
 rests:Option Pi
 agrees:Option Pi
noncomputable abbrev L.v(l:L):Val:=.tup [pV l.num,pV l.st,.int l.root,.int l.cost,.int l.age,oV l.rests,oV l.agrees]
noncomputable abbrev Zt(t:Int×Int):Val:=.tup [.int t.1,.int t.2]
noncomputable abbrev hdV(t:L×Int):Val:=.tup [t.1.v,.int t.2]
structure Lab where
 root:Int
 cost:Int
 up:Option<|Int×Pi
 deriving DecidableEq
abbrev upV:Option (Int×Pi)->Val
 |none=>.non
 |some p=>.int p.1
abbrev rsV:Option (Int×Pi)->Val
 |none=>.non
 |some p=>pV p.2
noncomputable abbrev Lab.v(l:Lab):Val:=.tup [.int l.root,.int l.cost,upV l.up,rsV l.up]
structure Br where
 number:Int
 life:Int
 most:Int
 ties:List<|Int×(Int×Int)
 held:List<|Int×(L×Int)
 label:Lab
 version:Int
 count:Int
structure dD(h:Hs)(b t d:Ad)(B:Br):Prop where
 ins:h b=df (.ins "Bridge" [("number",.int B.number),("life",.int B.life),("age_let_go",.int B.most),("ties_by_place",.ref t),("held_by_place",.ref d),("label_now",B.label.v),("version",.int B.version),("ticks_had",.int B.count)])
 ties:h t=df (.dct<|Zc Zt B.ties)
 held:h d=df (.dct<|Zc hdV B.held)
 ne:t≠d
variable {h:Hs} {b:Ad} {o:Ob} {u:Ob}
def XE{a:Ad}(ha:h a=df o)(hb:h b=df u)(ne:o≠u):a≠b:=λe=>by subst e;rw[ha]at hb;exact ne (ë hb)
variable {d:Ad} {B:Br}
def dD.nbt{t:Ad}(x:dD h b t d B):b≠t:=XE x.ins x.ties nofun
def dD.nbd{t:Ad}(x:dD h b t d B):b≠d:=XE x.ins x.held nofun
structure Ex(S:List Ad)(h g:Hs):Prop where
 get:∀{a:Ad}{o:Ob},a∉S->h a=df o->g a=df o
def Ex.refl{S:List Ad}:Ex S h h:=⟨λ_ e=>e⟩
variable {g:Hs}
def Ex.trans{k:Hs}{S:List Ad}(e:Ex S h g)(f:Ex S g k):Ex S h k:=⟨λn x=>f.get n<|e.get n x⟩
def Ex.of{S:List Ad}(e:Ext h g):Ex S h g:=⟨λ_ x=>e.get x⟩
def Ex.upd{S:List Ad}{w:Ad}(m:w∈S):Ex S h<|upd h w o:=⟨λ{a _} n x=>by rw[dj λe:a=w=>n<|by rw[e];exact m];exact x⟩
def Ex.sub{S T:List Ad}(e:Ex S h g)(m:∀a∈S,a∈T):Ex T h g:=⟨λn x=>e.get (λz=>n<|m _ z) x⟩
variable {p:Ad}
def Ex.none(e:Ex [b] h g)(hb:g b≠dg)(hp:g p=dg):h p=dg:=by
 cases z:h p with
 |none=>rfl
 |some o =>
  by_cases hpb:p=b
  .subst hpb;exact fA hp hb
  .rw[e.get ⇑hpb z]at hp;cases hp
def dD.ext{t:Ad}(x:dD h b t d B)(e:Ext h g):dD g b t d B:=⟨e.get x.ins,e.get x.ties,e.get x.held,x.ne⟩
def nw{Q:Q1}(q:∀p,h p=dg->Q (.ref p) (upd h p o)):new h o Q:=Ze q
abbrev Yt(most:Int)(held:List<|Int×(L×Int)):List<|Int×(L×Int):=held.filterMap λp=>if p.2.2+1<most then df (p.1,(p.2.1,p.2.2+1))else dg
variable {most:Int}
def Ut{held:List (Int×(L×Int))}{p:Int×(L×Int)}(h:p∈Yt most held):∃a,(p.1,(p.2.1,a))∈held:=by
 let⟨q,hq,e⟩:=Ħ.mp h;split at e
 .cases e;exact⟨_,hq⟩
 .cases e
def Wr(most:Int)(held:List<|Int×(L×Int)):((Yt most held).map (·.1)).Sublist (held.map (·.1)):=by
 unfold Yt;induction held with
 |nil=>exact List.Sublist.refl _
 |cons p r ih =>
  rw[č];split
  .exact ih.cons _
  .rename_i q e;split at e
   .cases e;exact ih.cons₂ _
   .cases e
def UH(most:Int)(held:List<|Int×(L×Int)):(Yt most held).length<=held.length:=aQ _ _
def Yv{α β:Type}{f:α->β}:∀{xs:List α}{i:Nat}{q:α},(xs.map f).Nodup->xs[i]?=df q->f q∉(xs.take i).map f
 |[],_,_,_,h=>by simp at h
 |x::xs,0,_,_,_=>by simp
 |x::xs,i+1,q,nd,h=>by
  rw[È,Ā]at nd;have h:xs[i]?=df q:=⇑h
  rw[Ŧ,È,Æ,not_or];exact⟨λe=>nd.1<|e▸Ú (å h),Yv nd.2 h⟩
variable {α:Type} {xs:List α} {i:Nat}
def Zx{x:α}(h:xs[i]?=df x):xs.take (i+1)=xs.take i++[x]:=by rw[cX,h];rfl
def ZV{f:α->Val}{v:Val}(h:(xs.map f)[i]?=df v):∃x,xs[i]?=df x/\v=f x:=by rw[ã]at h;let⟨x,h1,h2⟩:=á.mp h;exact⟨x,h1,h2.symm⟩
variable {kvs:List (Int×α)}
def Ma{val:α->Val}{v:Val}(h:((Zc val kvs).map<|itemOf di)[i]?=df v):∃p,kvs[i]?=df p/\v=.tup [.int p.1,val p.2]:=by let⟨q,h1,rfl⟩:=ZV h;unfold Zc at h1;rw[ã]at h1;let⟨x,h2,rfl⟩:=á.mp h1;exact⟨x,h2,rfl⟩
def Ey{val:α->Val}(kvs:List<|Int×α):((Zc val kvs).map<|itemOf di).length=kvs.length:=by rw[Á,Nf]
variable {P:Pg} [Al P] {n:Nat}{h:Hs}{w b t d st a f tt hh:Ad}{S B:Br}{c:Int}{all:List (Int×Int)}{ps:List Int}{Q:Q1}{X:XQ}
def Ym(x:dD h b t d B)(k:Q B.label.v h):wF P (n+1) "Bridge.label" [.ref b] h Q X:=by let⟨hi,ht,hd,Ź⟩:=x;refine WT ?_;refine' k
def YL(x:dD h b t d B)(k:Q (pV (B.life,B.version)) h):wF P (n+1) "Bridge.stamp" [.ref b] h Q X:=by let⟨hi,ht,hd,Ź⟩:=x;refine WC ?_;refine' k
abbrev hdO:Option (L×Int)->Val
 |none=>.non
 |some p=>hdV p
def KH{p:Int}(x:dD h b t d B)(k:Q (hdO<|B.held.lookup p) h):wF P (n+1) "Bridge.held" [.ref b,.int p] h Q X:=by
 let⟨hi,ht,hd,Ź⟩:=x;refine Ju ?_
 exists GM (v:=.int p) hd rfl
 rw[Yn];cases e:B.held.lookup p with
 |none=>rw[e]at k;exact k
 |some q=>rw[e]at k;exact k
def DT(x:dD h b t d B)(nd:(B.held.map (·.1)).Nodup)(hl:B.held.length<1000)(k:∀d' g,h d'=dg->dD g b t d' {B with held:=Yt B.most B.held}->Ex [b] h g->Q .non g):wF P (n+1) "Bridge.let_grow_older" [.ref b] h Q X:=by
 let⟨hi,ht,hd,Ź⟩:=id x;refine Yi ?_;fail;intro p hp;have npd:=Za hd hp;have npb:=Za hi hp;have npt:=Za ht hp;have nbd:=x.nbd;refine' Zm (λi e g=>Sm2 λu v=>Cj4 (e=[df<|.ref b,df<|.ref p,u,v]) (g p=df (.dct<|Zc hdV<|Yt B.most<|B.held.take i)) (g d=df (.frz<|Zc hdV B.held))<|Ex [d] h g) ⟨dg,dg,rfl,by rw[dj npd.symm];exact dm,dm,?_⟩ ?_ ?_ ?_
 .exact⟨λm e=>by rw[dj λz=>m<|by simp[z],dj<|Za e hp];exact e⟩
 .rintro i e g hi2 ⟨u,v,rfl,h1,h2,h3⟩;exact h2
 .rintro i v e g hv ⟨u,w,rfl,h1,h2,h3⟩ K hK;let⟨q,hq,rfl⟩:=Ma hv;have hi1:=h3.get ⇑nbd hi;let⟨pl,l,a⟩:=q;have e1:Yt B.most (B.held.take<|i+1)=Yt B.most (B.held.take i)++Yt B.most [(pl,(l,a))]:=by
   unfold Yt;rw[Zx hq,List.filterMap_append]
  refine' eQ (λhc=>?_) (λhc=>?_)
  .refine' YS (k:=.int pl) h1 ⟨rfl,?_⟩ ?_
   .rw[Nf];have h5:=UH B.most<|B.held.take i;have h6:(B.held.take i).length<=B.held.length:=İ _ _;exact ó (Ü h5 h6) (ϝ hl<|by decide)
   fail;rw[show Val.tup [l.v,.int<|a+1]=hdV (l,a+1) from rfl,YX];refine hK _ _ ⟨_,_,rfl,?_,?_,?_⟩
   .rw[dm,e1,Wj]
    .unfold Yt;rw[č,fm hc];rfl
    .exact λm=>Yv nd hq<|(Wr _ _).subset m
   .rw[dj npd];exact h2
   .exact⟨λm e=>by rw[dj<|Za e hp];exact h3.get m e⟩
  .refine' hK _ _ ⟨_,_,rfl,?_,h2,h3⟩;rw[h1,e1];unfold Yt;rw[č,fo hc];simp
 .rintro e g ⟨u,v,rfl,h1,h2,h3⟩;have hi1:=h3.get ⇑nbd hi;rw[Ey,Ċ]at h1;refine⟨h2,?_⟩;refine' k p _ hp ⟨dm,?_,?_,npt⟩ ?_
  .rw[dj x.nbt.symm,dj Ź];exact h3.get ⇑Ź ht
  .rw[dj npb.symm,dj npd.symm];exact h1
  .refine⟨λ{c o} m e=>?_⟩;rw[dj<|by simpa using m];by_cases ax:c=d
   .subst ax;rw[dm,<-e];exact hd.symm
   .rw[dj ax];exact h3.get ⇑ax e
def Dc(x:α)(xs:List α):atI (x::xs) 0=df x:=by unfold atI ixN;rw[fm (by decide),fm<|by simp];rfl
abbrev Xu(r:List Int):Val:=.tup<|r.map .int
def A4(rows:List<|List Int):rowsOf (rows.map Xu)=df rows:=by
 induction rows with
 |nil=>rfl
 |cons r rs ih =>show(dA<|r.map .int).bind (λns=>(rowsOf<|rs.map Xu).map (ns :: ·))=_;rw[YQ,ih];rfl
abbrev ZM(number:Int)(rows:List<|List Int):Option<|List Int:=match rows.filter (λr=>fB (r.headD 0<number))with
 |[]=>dg
 |x::r=>df<|minR x r
abbrev CL:Option (List Int)->Val
 |none=>.non
 |some r=>Xu r
def W3:∀(r:List<|List Int) (x:List Int),minR x r∈x::r
 |[],x=>Ý
 |y::r,x=>by
  show minR (if d7 y x then y else x) r∈x::y::r;have h:=W3 r (if d7 y x then y else x);rcases Æ.mp h with e|h
  .rw[e];split
   .simp
   .simp
  .simp[h]
variable {number:Int} {rows:List (List Int)} {m:List Int}
def Xm(h:ZM number rows=df m):m∈rows:=by
 unfold ZM at h;split at h
 .cases h
 .rename_i x r e;cases h;have:minR x r∈rows.filter (λr=>fB (r.headD 0<number)):=by rw[e];exact W3 r x
  exact(í.mp this).1
variable {l:Ad}
def Cv(hl:h l=df (.lst<|rows.map Xu))(h0:∀r∈rows,r≠[])(hn:rows.length<1000)(k:∀g,Ext h g->Q (CL<|ZM number rows) g):wF P (n+1) "best_offer" [.int number,.ref l] h Q X:=by
 refine Ki ?_;refine' ⟨by rw[Á];exact ϝ hn (by decide),?_⟩;refine J5 (λv=>match v with|.tup (.int i::xs)=>if i<number then df v else dg|_=>dg) (lsE hl) ?_ ?_
 .intro v hv K hK;let⟨r,hr,rfl⟩:=Ð.mp hv;cases r with
  |nil=>exact fA rfl<|h0 _ hr
  |cons i xs =>
   have hK:K (if i<number then df (Xu<|i::xs)else dg) h:=hK;rw[show Xu (i::xs)=.tup (.int i::xs.map .int) from rfl]at hK ⊢
   exists dz (Dc _ _)
   refine' eQ (λhc=>?_) (λhc=>?_)
   .rw[fm hc]at hK;refine' hK
   .rw[fo hc]at hK;exact hK
 .refine Ze λp hp=>?_;fail;have e1:(rows.map Xu).filterMap (λv=>match v with|.tup (.int i::xs)=>if i<number then df v else dg|_=>dg)=(rows.filter λr=>fB (r.headD 0<number)).map Xu:=by
   clear hl k hn;induction rows with
   |nil=>rfl
   |cons r rs ih =>
    have ih:=ih λr hr=>h0 r<|Ù _ hr;cases r with
    |nil=>exact fA rfl<|h0 _ Ý
    |cons i xs =>
     rw[È,č,ĉ];by_cases hc:i<number
     .simp only[Xu,È,fm hc,List.headD_cons,hc,decide_true,if_true]at ih ⊢;rw[ih]
     .simp only[Xu,È,fo hc,List.headD_cons,hc,decide_false,ú,if_false]at ih ⊢;rw[ih]
  rw[e1];have hx:Ext h<|upd h p<|.lst<|(rows.filter λr=>fB (r.headD 0<number)).map Xu:=Ext.new hp;cases e2:rows.filter λr=>fB (r.headD 0<number)with
  |nil =>rw[e2]at hx;refine Gz dm ?_;have:=k _ hx;unfold ZM at this;rw[e2]at this;exact this
  |cons x r =>rw[e2]at hx;refine CT dm (A4<|x::r) ?_;have:=k _ hx;unfold ZM at this;rw[e2]at this;exact this
abbrev Ja(ties:List<|Int×(Int×Int))(p:Int):Int×Int:=(ties.lookup p).getD (0,0)
abbrev XO(ties:List<|Int×(Int×Int))(q:Int×(L×Int)):List Int:=[q.2.1.root,q.2.1.cost+(Ja ties q.1).2,(Ja ties q.1).1,q.1]
abbrev XI(ties:List<|Int×(Int×Int))(held:List<|Int×(L×Int)):List<|List Int:=held.map<|XO ties
abbrev XG(held:List<|Int×(L×Int))(p:Int):Pi:=((held.lookup p).map (·.1.st)).getD (0,0)
abbrev Zq(B:Br):Lab:=match ZM B.number (XI B.ties B.held)with
 |none=>⟨B.number,0,dg⟩
 |some m=>⟨m.getD 0 0,m.getD 1 0,df (m.getD 3 0,XG B.held<|m.getD 3 0)⟩
def AL{ties:List (Int×(Int×Int))}{p:Int}(h:(ties.lookup p).isSome=dh):ties.lookup p=df (Ja ties p):=by
 unfold Ja;cases e:ties.lookup p with
 |none=>rw[e]at h;cases h
 |some v=>rfl
def OM(x:dD h b t d B)(sub:∀q∈B.held,(B.ties.lookup q.1).isSome=dh)(hn:B.held.length<1000)(k:∀g,Ext h g->Q (Zq B).v g):wF P (n+2) "Bridge.reckon_label" [.ref b] h Q X:=by
 let⟨hi,ht,hd,Ź⟩:=id x;refine YD ?_;refine' Ze λp hp=>?_;have npd:=Za hd hp;have npb:=Za hi hp;have npt:=Za ht hp;have nbd:=x.nbd;refine' Zm (λi e g=>Sm4 λu v w z=>Cj4 (e=[df<|.ref b,df<|.ref p,u,v,w,z,dg,dg]) (g p=df (.lst<|(XI B.ties<|B.held.take i).map Xu)) (g d=df (.frz<|Zc hdV B.held))<|Ex [d] h g) ⟨dg,dg,dg,dg,rfl,by rw[dj npd.symm];exact dm,dm,?_⟩ ?_ ?_ ?_
 .exact⟨λm e=>by rw[dj λz=>m<|by simp[z],dj<|Za e hp];exact e⟩
 .rintro i e g hi2 ⟨u,v,w,z,rfl,h1,h2,h3⟩;exact h2
 .rintro i v e g hv ⟨u,v,w,z,rfl,h1,h2,h3⟩ K hK;let⟨q,hq,rfl⟩:=Ma hv;have hi1:=h3.get ⇑nbd hi;have ht1:=h3.get ⇑Ź ht;have hs:=AL<|sub q<|å hq;let⟨pl,l,a⟩:=q;generalize htt:Ja B.ties pl=tt at hs;let⟨nb,c⟩:=tt;refine' Zb ht1 rfl (by rw[Yn,hs];rfl) ?_;refine' Yj h1 ?_ ?_
  .rw[Á];unfold XI;rw[Á];exact ó (İ _ _) (ϝ hn<|by decide)
  dsimp only;refine' hK _ _ ⟨_,_,_,_,rfl,?_,?_,?_⟩
  .rw[dm,Zx hq];unfold XI XO;rw[â,â,È,htt];rfl
  .rw[dj npd];exact h2
  .exact⟨λm e=>by rw[dj<|Za e hp];exact h3.get m e⟩
 .rintro e g ⟨u,v,w,z,rfl,h1,h2,h3⟩;have hi1:=h3.get ⇑nbd hi;have hi2:upd g d (.dct<|Zc hdV B.held) b=_:=upd_ne' nbd hi1;rw[Ey,Ċ]at h1;have h1':upd g d (.dct<|Zc hdV B.held) p=_:=upd_ne' npd.symm h1;have hx:Ext h<|upd g d<|.dct<|Zc hdV B.held:=⟨λ{c o} e=>by
    by_cases ax:c=d
    . subst ax;rw[dm,<-e];exact hd.symm
    . rw[dj ax];exact h3.get ⇑ax e⟩
  have aU:upd g d (.dct<|Zc hdV B.held) d=_:=dm;refine⟨h2,?_⟩;generalize upd g d (.dct<|Zc hdV B.held)=g2 at hi2 h1' hx aU ⊢;refine' Cv h1' ?_ ?_ λg3 h3=>?_
  .intro r hr;unfold XI at hr;let⟨q,_,rfl⟩:=Ð.mp hr;unfold XO;simp
  .unfold XI;rw[Á];exact hn
  have hi3:=h3.get hi2;have hd3:=h3.get aU;have kk:=k g3<|hx.trans h3;unfold Zq at kk;fail;cases e:ZM B.number (XI B.ties B.held)with
  |none =>rw[e]at kk;simp![CL];refine eQ (λhc=>?_) λhc=>fA trivial hc;refine' kk
  |some m =>rw[e]at kk;have hm:=Xm e;unfold XI at hm;let⟨q,hq,rfl⟩:=Ð.mp hm;refine eQ (λhc=>(by simp[CL,Xu]at hc)) λhc=>?_;have hlk:∃y,B.held.lookup q.1=df y:=Zw (Ú (f:=(·.1)) hq);let⟨y,hy⟩:=hlk;unfold XO at kk ⊢;simp![CL,Xu,È,đ];refine' Zb hd3 rfl (by rw[Yn,hy];rfl) ?_;fail;unfold XG at kk;simp![List.getD_cons_succ,List.getD_cons_zero]at kk;rw[hy]at kk;exact kk
abbrev DZ(l:Lab):D:=.tup [.int l.root,.int l.cost,(match l.up with|none=>.non|some p=>.int p.1),(match l.up with|none=>.non|some p=>.tup [.int p.2.1,.int p.2.2])]
def OE(h:Hs)(l:Lab):dat h deep l.v=df (DZ l):=by let⟨r,c,u⟩:=l;cases u<;>rfl
def F8(h:Hs)(l m:Lab):eqV h l.v m.v=df (fB (l=m)):=by
 unfold eqV;rw[OE,OE];show df (D.eqv (DZ l)<|DZ m)=_;congr 1;let⟨r,c,u⟩:=l;let⟨r',c',u'⟩:=m;unfold DZ;cases u with
 |none=>cases u' with
  |none=>simp![D.eqv,D.eqvs,Ż];by_cases h1:r=r'<;>by_cases h2:c=c'<;>simp[h1,h2]
  |some q=>simp[D.eqv,D.eqvs]
 |some p=>cases u' with
  |none=>simp[D.eqv,D.eqvs]
  |some q =>let⟨p1,p2,p3⟩:=p;let⟨q1,q2,q3⟩:=q;simp![D.eqv,D.eqvs,Ż];by_cases h1:r=r'<;>by_cases h2:c=c'<;>by_cases h3:p1=q1<;>by_cases h4:p2=q2<;>by_cases h5:p3=q3<;>simp[h1,h2,h3,h4,h5]
abbrev ZJ(B:Br)(l:Lab):Br:=if l=B.label then B else {B with label:=l,version:=B.version+1}
variable {KB:Bool->Prop}
def EG{v u:Val}{c:Bool}(e:eqV h v u=df c)(q:KB (!c)):go (dL h .ne v u) KB:=dy (by show(eqV h v u).map _=_;rw[e];rfl) q
def Og{v u:Val}{c:Bool}(e:eqV h v u=df c)(q:KB c):go (dL h .eq v u) KB:=dy e q
def D4{l:Lab}(x:dD h b t d B)(k:∀g,dD g b t d (ZJ B l)->Ex [b] h g->Q .non g):wF P (n+1) "Bridge.take_label" [.ref b,l.v] h Q X:=by
 let⟨hi,ht,hd,Ź⟩:=id x;refine Y1 ?_
 exists EG (F8 h l B.label)
 fail;unfold ZJ at k;refine Mc (λhc=>?_) λhc=>?_
 .rw[fo hc]at k;refine' YR dm (show(8:Nat)<900 by decide) ?_;refine' k _ ⟨?_,?_,?_,Ź⟩ ?_
  .rw[dq,dm];rfl
  .rw[dj x.nbt.symm,dj x.nbt.symm];exact ht
  .rw[dj x.nbd.symm,dj x.nbd.symm];exact hd
  .exact(Ex.upd<|by simp).trans (Ex.upd<|by simp)
 .rw[fm hc]at k;refine' k h x Ex.refl
def IZ(h:Hs)(r:Option Pi)(s:Pi):eqV h (oV r) (pV s)=df (fB (r=df s)):=by
 let⟨s1,s2⟩:=s;cases r with
 |none =>show df (D.eqv .non<|.tup [.int s1,.int s2])=_;simp[D.eqv]
 |some p =>let⟨p1,p2⟩:=p;show df (D.eqv (.tup [.int p1,.int p2])<|.tup [.int s1,.int s2])=_;congr 1;simp![D.eqv,D.eqvs,Ż];by_cases h1:p1=s1<;>by_cases h2:p2=s2<;>simp[h1,h2]
abbrev ZG(B:Br)(p:Int):Bool:=match B.held.lookup p with
 |none=>di
 |some q=>fB (q.1.rests=df (B.life,B.version))
def JV{p:Int}(x:dD h b t d B)(k:Q (.bl<|ZG B p) h):wF P (n+2) "Bridge.is_rested_on" [.ref b,.int p] h Q X:=by
 let⟨hi,ht,hd,Ź⟩:=id x;refine YE ?_
 exists KH x
 unfold ZG at k;fail;cases e:B.held.lookup p with
 |none =>rw[e]at k;refine Mc (λhc=>fA rfl hc) λhc=>?_;exact k
 |some q =>
  rw[e]at k;let⟨l,a⟩:=q;refine Mc (λhc=>?_) (λhc=>by simp[hdO]at hc);simp![hdO]
  exists YL x
  refine Og (IZ h _ _) ?_;exact k
abbrev Xi(u:Option<|Int×Pi)(p:Int):Bool:=match u with
 |none=>di
 |some q=>fB (p=q.1)
abbrev Z4(B:Br):Int:=match B.label.up with
 |none=>0
 |some q=>((B.held.lookup q.1).map (·.2)).getD 0+1
abbrev Zh(B:Br)(p:Int):L where
 num:=(B.life,B.count)
 st:=(B.life,B.version)
 root:=B.label.root
 cost:=B.label.cost
 age:=Z4 B
 rests:=if Xi B.label.up p then B.label.up.map (·.2)else dg
 agrees:=if Xi B.label.up p then dg else if ZG B p then df (XG B.held p)else dg
def ED(h:Hs)(p:Int)(u:Option<|Int×Pi):eqV h (.int p) (upV u)=df (Xi u p):=by
 cases u with
 |none=>rfl
 |some q =>show df (D.eqv (.int p)<|.int q.1)=_;rw[Ot];rfl
def D1{p:Int}(x:dD h b t d B)(hu:∀q,B.label.up=df q->(B.held.lookup q.1).isSome=dh)(k:Q (Zh B p).v h):wF P (n+3) "Bridge.letter_over" [.ref b,.int p] h Q X:=by
 let⟨hi,ht,hd,Ź⟩:=id x;refine YH ?_;fail;have main:wSs (wF P<|n+2) #[.ite (.val<|.cmp .eq (.var 1)<|.var 4) #[.ret<|.bin .add (.var 7)<|.tup #[.var 5,.cst .non]] .nil,.ite (.val<|.meth "Bridge" "is_rested_on" (.var 0) #[.var 1]) #[.ret<|.bin .add (.var 7)<|.tup #[.cst .non,.idx (.idx (.idx (.fld (.var 0) "held_by_place")<|.var 1)<|.cst<|.int 0)<|.glob "STAMP"<|.int 1]] .nil,.ret<|.bin .add (.var 7)<|.tup #[.cst .non,.cst .non]]
   [df<|.ref b,df<|.int p,df<|.int B.label.root,df<|.int B.label.cost,df<|upV B.label.up,df<|rsV B.label.up,df<|.int<|Z4 B,df<|.tup [pV (B.life,B.count),pV (B.life,B.version),.int B.label.root,.int B.label.cost,.int<|Z4 B]] h (λ_ g=>Q .non g) Q (λ_ _=>False) (λ_ _=>False) λ_ c g=>X c g:=by
  exists Og (ED h p B.label.up)
  refine' eR (λhc=>?_) (λhc=>?_)
  .fail;unfold Zh at k;rw[hc]at k;cases e:B.label.up with
   |none=>rw[e]at hc;cases hc
   |some q=>rw[e]at k;exact k
  .exists JV x
   fail;unfold Zh at k;rw[hc]at k;refine eR (λhr=>?_) λhr=>?_
   .rw[hr]at k;unfold ZG at hr;cases e:B.held.lookup p with
    |none=>rw[e]at hr;cases hr
    |some q =>let⟨l,a⟩:=q;refine' Zb hd rfl (by rw[Yn,e];rfl) ?_;fail;unfold XG at k;rw[e]at k;exact k
   .rw[hr]at k;refine' k
 cases e:B.label.up with
 |none =>
  have ea:Z4 B=0:=by unfold Z4;rw[e]
  rw[e,ea]at main;refine eQ (λhc=>?_) λhc=>fA rfl hc
  exists YL x
  walk_at "w"
  repeat (first|exact main|(walk_at "py1";walk_at "w"))
 |some q =>
  let⟨y,hy⟩:=Ì.mp<|hu q e;have ea:Z4 B=y.2+1:=by unfold Z4;rw[e];dsimp only;rw[hy];rfl
  rw[e,ea]at main;refine eQ (λhc=>by cases hc) λhc=>?_;simp![upV];refine' Zb hd rfl (by rw[Yn,hy];rfl) ?_
  exists YL x
  walk_at "w"
  repeat (first|exact main|(walk_at "py1";walk_at "w"))
variable {q:Int×Pi}
def D9(hq:(Zq B).up=df q):(B.held.lookup q.1).isSome=dh:=by
 unfold Zq at hq;split at hq
 .cases hq
 .rename_i m e;have hm:=Xm e;unfold XI at hm;let⟨y,hy,rfl⟩:=Ð.mp hm;cases hq;let⟨v,hv⟩:=Zw (Ú (f:=(·.1)) hy);show(B.held.lookup y.1).isSome=dh;rw[hv];rfl
abbrev Br.grown(B:Br):Br:={B with held:=Yt B.most B.held}
abbrev Br.told(B:Br):Br:=ZJ B.grown<|Zq B.grown
abbrev Br.ticked(B:Br):Br:={B.told with count:=B.count+1}
abbrev Z0(B:Br):List Val:=(sortI (B.ties.map (·.1))).map λp=>.tup [.int p,(Zh B p).v]
def Zu(B:Br)(l:Lab):(ZJ B l).held=B.held/\(ZJ B l).ties=B.ties/\(ZJ B l).count=B.count/\(ZJ B l).label=l/\(ZJ B l).number=B.number/\(ZJ B l).life=B.life/\(ZJ B l).most=B.most:=by
 unfold ZJ;split
 .rename_i e;exact⟨rfl,rfl,rfl,e.symm,rfl,rfl,rfl⟩
 .exact⟨rfl,rfl,rfl,rfl,rfl,rfl,rfl⟩
structure Br.ok(B:Br):Prop where
 nd:(B.held.map (·.1)).Nodup
 sub:∀q∈B.held,(B.ties.lookup q.1).isSome=dh
 nt:(B.ties.map (·.1)).Nodup
 rg:∀q∈B.ties,0<=q.1/\q.1<16
def Br.ok.tlen(o:B.ok):B.ties.length<=16:=by
 have:=ZI (m:=16) o.nt λx hx=>by let⟨q,hq,rfl⟩:=Ð.mp hx;exact o.rg q hq
 simpa using this
def Br.ok.hlen(o:B.ok):B.held.length<=16:=by
 have:=ZI (m:=16) o.nd λx hx=>by let⟨q,hq,rfl⟩:=Ð.mp hx;let⟨v,hv⟩:=Ì.mp<|o.sub q hq;exact o.rg _<|Zd hv
 simpa using this
def Br.ok.grown(o:B.ok):B.grown.ok where
 nd:=o.nd.sublist<|Wr _ _
 sub:=λq hq=>by let⟨a,ha⟩:=Ut hq;exact o.sub (q.1,(q.2.1,a)) ha
 nt:=o.nt
 rg:=o.rg
def Br.ok.told(o:B.ok):B.told.ok:=by
 let⟨h1,h2,_⟩:=Zu B.grown<|Zq B.grown;have g:=o.grown;refine⟨?_,?_,?_,?_⟩
 .show((ZJ B.grown<|Zq B.grown).held.map (·.1)).Nodup;rw[h1];exact g.nd
 .show ∀q∈(ZJ B.grown<|Zq B.grown).held,((ZJ B.grown<|Zq B.grown).ties.lookup q.1).isSome=dh;rw[h1,h2];exact g.sub
 .show((ZJ B.grown<|Zq B.grown).ties.map (·.1)).Nodup;rw[h2];exact g.nt
 .show ∀q∈(ZJ B.grown<|Zq B.grown).ties,_;rw[h2];exact g.rg
def Br.ok.ticked(o:B.ok):B.ticked.ok:=⟨o.told.nd,o.told.sub,o.told.nt,o.told.rg⟩
def Ec(x:dD h b t d B)(o:B.ok)(k:∀p d' g,h p=dg->h d'=dg->dD g b t d' B.ticked->g p=df (.lst<|Z0 B.told)->Ex [b] h g->p≠d'->Q (.ref p) g):wF P (n+4) "Bridge.tick" [.ref b] h Q X:=by
 let⟨hi,ht,hd,Ź⟩:=id x;have hlen:=o.hlen;refine Jr ?_;refine' DT x o.nd (by lia) λd' g hd' x1 e1=>?_;let⟨hi1,ht1,hd1,hne1⟩:=id x1;have og:=o.grown;have x1':dD g b t d' B.grown:=x1;refine' OM x1' og.sub (by have:=og.hlen;lia) λg2 e2=>?_;have x2:=x1'.ext e2;refine' D4 x2 λg3 x3 e3=>?_;let⟨hi3,ht3,hd3,hne3⟩:=id x3;let⟨c1,c2,c3,c4,c5,c6,c7⟩:=Zu B.grown<|Zq B.grown;have hties:B.told.ties=B.ties:=c2;refine' KK ht3 (Oa _) ?_ (Ze λp1 hp1=>?_)
 .rw[Á];have:=o.tlen;show B.told.ties.length<64;rw[hties];lia
 refine' ⟨?_,?_⟩
 .rw[Á,sortI,ł,Á];have:=o.tlen;show B.told.ties.length<lim;rw[hties];exact ó this (by decide)
 have x4:=x3.ext (Ext.new (o:=.lst ((sortI ((ZJ B.grown<|Zq B.grown).ties.map (·.1))).map Val.int)) hp1);have up:∀q,(ZJ B.grown<|Zq B.grown).label.up=df q->((ZJ B.grown<|Zq B.grown).held.lookup q.1).isSome=dh:=λq hq=>by rw[c4]at hq;rw[c1];exact D9 hq
 refine J5 (λv=>match v with|.int i=>df (.tup [.int i,(Zh B.told i).v])|_=>dg) (lsE dm) ?_ ?_
 .intro v hv K hK;let⟨i,hi,rfl⟩:=Ð.mp hv;let⟨hi4,ht4,hd4,hne4⟩:=id x4;fail;rw[fm rfl];change wE _ _ [df<|.int i,df<|.ref b] _ _ _
  exists D1 x4 up
  refine' hK
 .refine Ze λp hp=>?_;have x5:=x4.ext<|Ext.new (o:=.lst<|Z0 B.told) hp;have e0:((sortI ((ZJ B.grown<|Zq B.grown).ties.map (·.1))).map Val.int).filterMap (λv=>match v with|.int i=>df (.tup [.int i,(Zh B.told i).v])|_=>dg)=Z0 B.told:=by
   rw[cD];unfold Z0;exact congrFun (List.filterMap_eq_map (f:=λi:Int=>Val.tup [.int i,(Zh B.told i).v])) _
  rw[e0];let⟨hi5,ht5,hd5,hne5⟩:=id x5;fail;have c3':(ZJ B.grown<|Zq B.grown).count=B.count:=c3;rw[c3'];have eg:Ex [b] h (upd g3 p1 (.lst ((sortI ((ZJ B.grown<|Zq B.grown).ties.map (·.1))).map Val.int))):=((e1.trans<|.of e2).trans e3).trans<|.of<|Ext.new hp1;have hpn:h p=dg:=eg.none (by rw[x4.ins];intro z;cases z) hp;have npb:b≠p:=Za x4.ins hp;refine k p d' _ hpn hd' ⟨dm,?_,?_,x5.ne⟩ ?_ ?_ (Za x4.held hp).symm
  .rw[dj x5.nbt.symm];exact x5.ties
  .rw[dj x5.nbd.symm];exact x5.held
  .rw[dj npb.symm];exact dm
  .exact(eg.trans<|.of<|Ext.new hp).trans (Ex.upd<|by simp)
abbrev YJ(S:Br)(p:Int)(l:L):Bool:=match S.held.lookup p with
 |none=>dh
 |some q=>d7 [q.1.num.1,q.1.num.2] [l.num.1,l.num.2]
abbrev Zk(S:Br)(p:Int)(l:L):Br:=if(S.ties.lookup p).isSome then(if YJ S p l then {S with held:=Ys S.held p (l,l.age)} else S)else S
abbrev Z2(S:Br)(p:Int):Br:={S with ties:=ZQ S.ties p,held:=ZQ S.held p}
abbrev upB(S:Br)(p:Int)(c:Int×Int):Br:=if(S.ties.lookup p).isSome then S else {S with ties:=Ys S.ties p c}
def Bb{k:Int}{v:α}{q:Int}:(kvs.lookup q).isSome=dh->((Ys kvs k v).lookup q).isSome=dh:=λh=>by
 let⟨x,hx⟩:=Ì.mp h;have hm:q∈kvs.map (·.1):=Ú (f:=(·.1))<|Zd hx;have:q∈(Ys kvs k v).map (·.1):=by
  rw[WW];split
  .exact hm
  .exact õ _ hm
 let⟨y,hy⟩:=Zw this;rw[hy];rfl
def Br.ok.heard(o:S.ok){p:Int}{l:L}:(Zk S p l).ok:=by
 unfold Zk;split
 .rename_i h1;split
  .refine⟨J4 o.nd _ _,λq hq=>?_,o.nt,o.rg⟩;rcases Wo hq with e|hq
   .rw[e];exact h1
   .exact o.sub q hq
  .exact o
 .exact o
def ZK{k:Int}{q:Int×α}(h:q∈ZQ kvs k):q∈kvs:=(KY kvs k).subset h
def Uj{k q:Int}(h:(kvs.lookup q).isSome=dh)(n:q≠k):((ZQ kvs k).lookup q).isSome=dh:=by
 let⟨x,hx⟩:=Ì.mp h;have:q∈(ZQ kvs k).map (·.1):=by refine Ð.mpr ⟨(q,x),?_,rfl⟩;unfold ZQ;exact í.mpr ⟨Zd hx,⇑n⟩
 let⟨y,hy⟩:=Zw this;rw[hy];rfl
def Br.ok.down(o:S.ok)(p:Int):(Z2 S p).ok :=
 ⟨Ji o.nd _,λq hq=>Uj (o.sub q<|ZK hq)<|DX hq,Ji o.nt _,λq hq=>o.rg q<|ZK hq⟩
def Br.ok.up(o:S.ok){p:Int}{c:Int×Int}(h0:0<=p)(h1:p<16):(upB S p c).ok:=by
 unfold upB;split
 .exact o
 .refine⟨o.nd,λq hq=>Bb<|o.sub q hq,J4 o.nt _ _,λq hq=>?_⟩;rcases Wo hq with e|hq
  .rw[e];exact⟨h0,h1⟩
  .exact o.rg q hq
def Oy{p:Int}{l:L}(x:dD h b t d B)(o:B.ok)(k:∀g,dD g b t d (Zk B p l)->Ex [d] h g->Q .non g):wF P (n+2) "Bridge.hear" [.ref b,.int p,l.v] h Q X:=by
 let⟨hi,ht,hd,Ź⟩:=id x;have hlen:=o.hlen;refine Jp ?_
 exists U4 ht rfl
 rw[AB];fail;unfold Zk at k;cases e:(B.ties.lookup p).isSome with
 |false =>rw[e]at k;refine eN rfl ?_;refine' k h x Ex.refl
 |true =>
  rw[e,fm rfl]at k;refine eP rfl ?_
  exists KH x
  have put:(∀g,dD g b t d {B with held:=Ys B.held p (l,l.age)}->Ex [d] h g->Q .non g)->go (eC h (.ref d) (.int p)<|.tup [l.v,.int l.age]) λg=>Q .non g:=λk=>by refine YS hd ⟨rfl,by rw[Nf];exact ó hlen<|by decide⟩ ?_;rw[show Val.tup [l.v,.int l.age]=hdV (l,l.age) from rfl,YX];exact k _ ⟨by rw[dj x.nbd];exact hi,by rw[dj Ź];exact ht,dm,Ź⟩ (Ex.upd<|by simp)
  fail;cases e2:B.held.lookup p with
  |none =>
   have et:YJ B p l=dh:=by unfold YJ;rw[e2]
   rw[et,fm rfl]at k;refine eQ (λhc=>?_) λhc=>fA rfl hc;refine eN rfl ?_;refine' OC (put k) λg q=>by fail;exact q
  |some q =>
   let⟨m,ag⟩:=q;have et:YJ B p l=d7 [m.num.1,m.num.2] [l.num.1,l.num.2]:=by unfold YJ;rw[e2]
   rw[et]at k;refine eQ (λhc=>by simp[hdO]at hc) λhc=>?_;simp![hdO]
   exists Dv
   exists G7 (YQ [l.num.1,l.num.2]) (YQ [m.num.1,m.num.2])
   refine' eR (λhc=>?_) (λhc=>?_)
   .rw[fm hc]at k;refine' OC (put k) λg q=>by fail;exact q
   .rw[fo<|by rw[hc];decide]at k;refine' k h x Ex.refl
def Wc{p:Int}(x:dD h b t d B)(k:∀g,dD g b t d (Z2 B p)->Ex [t,d] h g->Q .non g):wF P (n+1) "Bridge.down" [.ref b,.int p] h Q X:=by
 let⟨hi,ht,hd,Ź⟩:=id x;refine Js ?_
 exists NK ht rfl
 dsimp only;rw[MH];have hi2:upd h t (.dct<|Zc Zt<|ZQ B.ties p) b=_:=upd_ne' x.nbt hi;have aU:upd h t (.dct<|Zc Zt<|ZQ B.ties p) d=_:=upd_ne' Ź.symm hd
 exists NK aU rfl
 dsimp only;rw[MH];refine' k _ ⟨by rw[dj x.nbd];exact hi2,by rw[dj Ź];exact dm,dm,Ź⟩ ((Ex.upd<|by simp).trans<|Ex.upd<|by simp)
def AX{p nb:Int}(x:dD h b t d B)(o:B.ok)(k:∀g,dD g b t d (upB B p (nb,c))->Ex [t] h g->Q .non g):wF P (n+1) "Bridge.up" [.ref b,.int p,.int nb,.int c] h Q X:=by
 let⟨hi,ht,hd,Ź⟩:=id x;have hlen:=o.tlen;refine Mh ?_
 exists U4 ht rfl
 rw[AB];fail;unfold upB at k;cases e:(B.ties.lookup p).isSome with
 |true =>rw[e,fm rfl]at k;refine eP rfl ?_;refine' k h x Ex.refl
 |false =>rw[e,fo<|by decide]at k;refine eN rfl ?_;refine' YS ht ⟨rfl,by rw[Nf];exact ó hlen<|by decide⟩ ?_;rw[show Val.tup [.int nb,.int c]=Zt (nb,c) from rfl,YX];refine' k _ ⟨by rw[dj x.nbt];exact hi,dm,by rw[dj Ź.symm];exact hd,Ź⟩ (Ex.upd<|by simp)
def Pc(h:Hs)(s:Pi)(u:Option<|Int×Pi):eqV h (pV s) (rsV u)=df (fB (u.map (·.2)=df s)):=by
 let⟨s1,s2⟩:=s;cases u with
 |none =>show df (D.eqv (.tup [.int s1,.int s2]) .non)=_;simp[D.eqv]
 |some p =>
  let⟨p0,p1,p2⟩:=p;show df (D.eqv (.tup [.int s1,.int s2])<|.tup [.int p1,.int p2])=_;congr 1;simp![D.eqv,D.eqvs,Ż,Ĭ];by_cases h1:s1=p1
  .subst h1;by_cases h2:s2=p2
   .subst h2;simp
   .have h3:¬ p2=s2:=λz=>h2 z.symm;simp[h2,h3]
  .have h3:¬ p1=s1:=λz=>h1 z.symm;simp[h1,h3]
abbrev Y8(B:Br)(p:Int):Bool:=match B.held.lookup p with
 |none=>di
 |some q=>if q.1.agrees=df (B.life,B.version)then fB (B.label.up.map (·.2)=df q.1.st)else di
def O5{p:Int}(x:dD h b t d B)(k:Q (.bl<|Y8 B p) h):wF P (n+2) "Bridge.is_agreed_to" [.ref b,.int p] h Q X:=by
 let⟨hi,ht,hd,Ź⟩:=id x;refine YB ?_
 exists KH x
 unfold Y8 at k;fail;cases e:B.held.lookup p with
 |none =>rw[e]at k;refine eQ (λhc=>?_) λhc=>fA rfl hc;refine eN rfl ?_;refine' k
 |some q =>
  rw[e]at k;let⟨l,a⟩:=q;refine eQ (λhc=>by simp[hdO]at hc) λhc=>?_;simp![hdO]
  exists YL x
  refine EG (IZ h _ _) ?_;refine' Mc (λhc=>?_) (λhc=>?_)
  .fail;rw[show(match df (l,a)with|none=>di|some q=>if q.1.agrees=df (B.life,B.version)then fB (B.label.up.map (·.2)=df q.1.st)else di)=di from fo hc]at k;exact k
  .fail;rw[show(match df (l,a)with|none=>di|some q=>if q.1.agrees=df (B.life,B.version)then fB (B.label.up.map (·.2)=df q.1.st)else di)=fB (B.label.up.map (·.2)=df l.st) from fm hc]at k;refine Og (Pc h _ _) ?_;exact k
abbrev Zf(B:Br)(p:Int):String:=if(B.ties.lookup p).isSome then(if Xi B.label.up p then(if Y8 B p then "child" else "shut")else if ZG B p then "parent" else "shut")else "down"
def B9{p:Int}(x:dD h b t d B)(k:Q (.str<|Zf B p) h):wF P (n+3) "Bridge.end" [.ref b,.int p] h Q X:=by
 let⟨hi,ht,hd,Ź⟩:=id x;refine KO ?_
 exists U4 ht rfl
 rw[AB];fail;unfold Zf at k;cases e:(B.ties.lookup p).isSome with
 |false =>rw[e]at k;refine eN rfl ?_;refine' k
 |true =>
  rw[e,fm rfl]at k;refine eP rfl ?_
  exists Og (ED h p B.label.up)
  refine' eR (λhc=>?_) (λhc=>?_)
  .rw[hc,fm rfl]at k
   exists O5 x
   refine' eR (λhc=>?_) (λhc=>?_)
   .rw[hc]at k;refine' k
   .rw[hc]at k;refine' k
  .rw[hc,fo<|by decide]at k
   exists JV x
   refine' eR (λhc=>?_) (λhc=>?_)
   .rw[hc]at k;refine' k
   .rw[hc]at k;refine' k
noncomputable abbrev Tie:=Int×Int×Int
abbrev trV(t:Tie):Val:=.tup [.int t.1,.int t.2.1,.int t.2.2]
abbrev Y2(rs:List Tie):List<|Int×(Int×Int):=rs.map λr=>(r.1,r.2)
def NU(rs:List Tie):(Y2 rs).map (·.1)=rs.map (·.1):=by unfold Y2;rw[ą];rfl
abbrev XB(own life most:Int)(rs:List Tie):Br:=⟨own,life,most,Y2 rs,[],⟨own,0,dg⟩,0,0⟩
def CA{own life:Int}{rs:List Tie}(hb:h b=df (.ins "Bridge" []))(hl:h l=df (.lst<|rs.map trV))(nd:(rs.map (·.1)).Nodup)(h16:rs.length<=16)
  (k:∀t d g,h t=dg->h d=dg->dD g b t d (XB own life most rs)->Ex [b] h g->Q .non g):wF P (n+1) "Bridge.__init__" [.ref b,.int own,.int life,.ref l,.int most] h Q X:=by
 have nlb:b≠l:=XE hb hl nofun;refine Jt ?_;refine' YR dm (show(1:Nat)<900 by decide) ?_;refine' YR dm (show(2:Nat)<900 by decide) ?_;fail;intro t ht;rw[dq,dq]at ht ⊢;have ntb:b≠t:=Za dm ht;have nht:h t=dg:=by rw[dj ntb.symm]at ht;exact ht
 have ntl:l≠t:=Za hl nht;refine' YR (upd_ne' ntb dm) (show(3:Nat)<900 by decide) ?_;fail;have hl1:∀{o1 o2 o3:Ob},upd (upd (upd h b o1) t o2) b o3 l=df (.lst<|rs.map trV):=λ{_ _ _}=>by rw[dj nlb.symm,dj ntl,dj nlb.symm];exact hl
 refine Zm (λi e g=>Sm3 λu v w=>Cj4 (e=[df<|.ref b,df<|.int own,df<|.int life,df<|.ref l,df<|.int most,u,v,w]) (g b=df (.ins "Bridge" [("number",.int own),("life",.int life),("age_let_go",.int most),("ties_by_place",.ref t)])) (g t=df (.dct<|Zc Zt<|Y2<|rs.take i))<|Ex [b] h g) ⟨dg,dg,dg,rfl,dm,by rw[dj ntb.symm];exact dm,?_⟩ ?_ ?_ ?_
 .refine⟨λ{a o} na e=>?_⟩;have nab:a≠b:=⇑na
  rw[dj nab,dj<|Za e nht,dj nab];exact e
 .rintro i e g _ ⟨u,v,w,rfl,h1,h2,h3⟩;exact lsE (h3.get (by simpa using nlb.symm) hl)
 .rintro i v e g hv ⟨u,v,w,rfl,h1,h2,h3⟩ K hK;let⟨r,hp,rfl⟩:=ZV hv;have nk:=Yv nd hp;let⟨p,nb,c⟩:=r;unfold trV;refine' YS (k:=.int p) h2 ⟨rfl,?_⟩ ?_
  .rw[Nf];unfold Y2;rw[Á];exact ó (Ü (İ _ _) h16) (by decide)
  rw[show Val.tup [.int nb,.int c]=Zt (nb,c) from rfl,YX];refine' hK _ _ ⟨_,_,_,rfl,by rw[dj ntb];exact h1,?_,?_⟩
  .rw[dm,Wj,Zx hp]
   .unfold Y2;rw[â];rfl
   .rw[NU];exact nk
  .exact⟨λna e=>by rw[dj<|Za e nht];exact h3.get na e⟩
 .rintro e g ⟨u,v,w,rfl,h1,h2,h3⟩;rw[Á,Ċ]at h2;fail;intro d hd;have ndb:b≠d:=Za h1 hd;have ndt:t≠d:=Za h2 hd;have nhd:h d=dg:=h3.none (by rw[h1];intro z;cases z) hd;refine' YR dm (show(5:Nat)<900 by decide) ?_;refine' YR dm (show(6:Nat)<900 by decide) ?_;refine' YR dm (show(7:Nat)<900 by decide) ?_;fail;rw[dq,dq,dq];refine k t d _ nht nhd ⟨dm,?_,?_,ndt⟩ ?_
  .rw[dj ntb.symm,dj ndt];exact h2
  .rw[dj ndb.symm];exact dm
  .exact(h3.trans<|.of<|Ext.new hd).trans (Ex.upd<|by simp)
abbrev Well(h:Hs)(w:Ad):Prop:=∃a b,h w=df (.lst [.int a,.int b])
def Well.ne(x:Well h w)(e:h p=dg):w≠p:=by let⟨_,_,x⟩:=x;exact Za x e
def Well.ext(x:Well h w)(e:Ext h g):Well g w:=by let⟨_,_,x⟩:=x;exact⟨_,_,e.get x⟩
def K1(ns:List Int)(lo hi:Option Int):cut (ns.map Val.int) lo hi=(cut ns lo hi).map Val.int:=by unfold cut;rw[Á,List.map_take,List.map_drop]
def N7(xs:List α)(lo hi:Option Int):(cut xs lo hi).length<=xs.length:=by unfold cut;rw[θ,Ş];lia
variable {r:Int}
def two(h0:0<=r)(h1:r<2):r=0\/r=1:=by lia
def three(h0:0<=r)(h1:r<3):r=0\/r=1\/r=2:=by lia
def Lm(h0:0<=r)(h1:r<4):r=0\/r=1\/r=2\/r=3:=by lia
def LM(h0:0<=r)(h1:r<5):r=0\/r=1\/r=2\/r=3\/r=4:=by lia
def M4{i:Int}(h0:0<=i)(h1:i<xs.length):∃x,x∈xs/\atI xs i=df x:=by
 have h2:i.toNat<xs.length:=by lia
 refine⟨xs[i.toNat],Š h2,?_⟩;unfold atI ixN;rw[fm h0,fm h1,ï,Ï h2]
abbrev Pl:Nat->Val->Prop
 |_,.non=>True
 |_,.int _=>True
 |_,.str s=>True
 |d+1,.tup xs=>∀x∈xs,Pl d x
 |_,_=>False
def Mq(xs:List Val):∀{i:Nat}{v:Val},(zipL xs xs)[i]?=df v->∃x,x∈xs/\v=.tup [x,x]:=by
 induction xs with
 |nil=>intro i v h;simp[zipL]at h
 |cons x xs ih =>
  intro i v h;cases i with
  |zero=>simp[zipL]at h;exact⟨x,by simp,h.symm⟩
  |succ i =>let⟨y,hy,e⟩:=ih (i:=i) (v:=v) (by simpa[zipL]using h);exact⟨y,by simp[hy],e⟩
def NX(k:∀p g,h p=dg->Ext h g->Well g p->Q (.ref p) g):wF P (n+1) "_law_well" [.int c] h Q X:=by
 refine NE ?_;refine' eQ (λhc=>?_) (λhc=>?_)<;>fail<;>refine Ze λp hp=>?_
 .exact k p _ hp (Ext.new hp) ⟨_,_,dm⟩
 .exact k p _ hp (Ext.new hp) ⟨_,_,dm⟩
def Zg{m:Int}(hw:Well h w)(h1:0<m)(h2:m<1073741824)
  (k:∀r g,0<=r->r<m->ExtB w h g->Well g w->Q (.int r) g):wF P (n+1) "_law_draw" [.ref w,.int m] h Q X:=by
 let⟨a,b,hw⟩:=hw;refine Ng ?_;refine' eQ (λhc=>?_) (λhc=>?_)<;>fail
 .exact k _ _ (Int.emod_nonneg _<|by lia) (de _ h1) ExtB.upd ⟨_,_,dm⟩
 .exact k _ _ (Int.emod_nonneg _<|by lia) (de _ h1) ExtB.upd ⟨_,_,dm⟩
def ME(k:Q (.bl dh) h):wF P (n+1) "_law_same" [.non,.non] h Q X:=by refine Z8 ?_;fail;refine eN (by decide) ?_;refine' k
def MC{i:Int}(k:Q (.bl dh) h):wF P (n+1) "_law_same" [.int i,.int i] h Q X:=by refine Z8 ?_;fail;refine eP (by simp) ?_;walk_at "p";rw[fw rfl];exact k
def KZ{s:String}(k:Q (.bl dh) h):wF P (n+1) "_law_same" [.str s,.str s] h Q X:=by refine Z8 ?_;fail;refine eP (by simp) ?_;walk_at "p";rw[fw rfl];exact k
def Km:∀(d:Nat){v:Val}{h:Hs}{Q:Q1},Pl d v->Q (.bl dh) h->wF P (n+d+1) "_law_same" [v,v] h Q X:=by
 intro d;induction d with
 |zero =>
  intro v h Q hv k;cases v with
  |non=>exact ME k
  |int i=>exact MC k
  |str s=>exact KZ k
  |_=>exact hv.elim
 |succ d ih =>
  intro v h Q hv k;cases v with
  |tup xs =>
   refine Z8 ?_;fail;refine eP (by simp) ?_;walk_at "p";refine eP (by simp) ?_
   exists FE
   refine Zm (λi e g=>g=h/\∃v u,e=[df<|.tup xs,df<|.tup xs,v,u]) ⟨rfl,dg,dg,rfl⟩ (λ_ _ _ _ _=>trivial) ?_ ?_
   .rintro i v e g hvi ⟨rfl,v1,v2,rfl⟩ K hK;let⟨x,hx,rfl⟩:=Mq _ hvi
    exists ih (hv x hx)
    walk_at "p";exact hK _ _ ⟨rfl,_,_,rfl⟩
   .rintro e g ⟨rfl,v1,v2,rfl⟩;refine' k
  |non=>exact ME k
  |int i=>exact MC k
  |str s=>exact KZ k
  |_=>exact hv.elim
def YV{xs:List Val}(e:h a=df (.lst xs))(T:String):isiAny h (.ref a) [T]=df (T == "list"):=by
 unfold isiAny fj fi;simp![e,Ĭ,ï,isiAny];by_cases z:T = "list"
 .subst z;rfl
 .have e1:("list" == T)=di:=beq_eq_false_iff_ne.mpr λy=>z y.symm;have e2:(T == "list")=di:=beq_eq_false_iff_ne.mpr z;rw[e1,e2];rfl
def BM{d:Nat}{xs:List Val}(ha:h a=df (.lst xs))(hb:h b=df (.lst xs))(hx:∀x∈xs,Pl d x)(k:Q (.bl dh) h):wF P (n+d+2) "_law_same" [.ref a,.ref b] h Q X:=by
 refine Z8 ?_;fail;refine eP (by simp) ?_
 exists Ny (YV hb _)
 walk_at "p";refine Ny (YV hb _) ?_;walk_at "p";refine Ny (YV hb _) ?_;walk_at "p";refine Ny (YV hb _) ?_;fail;refine eP rfl ?_;refine eP rfl ?_
 exists Ny (YV hb _)
 walk_at "p";refine Ny (YV ha _) ?_;walk_at "p";refine eP (by simp) ?_
 exists GT ha hb
 refine Zm (λi e g=>g=h/\∃v u,e=[df<|.ref a,df<|.ref b,v,u]) ⟨rfl,dg,dg,rfl⟩ (λ_ _ _ _ ⟨e,_⟩=>by subst e;exact⟨lsE ha,lsE hb⟩) ?_ ?_
 .rintro i v e g hvi ⟨rfl,v1,v2,rfl⟩ K hK;let⟨x,hx1,rfl⟩:=Mq _ hvi
  exists Km d (hx x hx1)
  walk_at "p";exact hK _ _ ⟨rfl,_,_,rfl⟩
 .rintro e g ⟨rfl,v1,v2,rfl⟩;refine' k
section
variable {h:Hs}
def Mn{h:Hs}{d:Nat}:∀ns:List Int,(ns.map Val.int).mapM (dat h d)=df (ns.map D.int)
 |[]=>rfl
 |n::ns=>by rw[È,aw,Mn ns,È];cases d<;>rfl
def N0{i:Int}:∀ns:List Int,((ns.map D.int).any λe=>D.eqv e<|.int i)=fB (i∈ns)
 |[]=>by simp
 |n::ns=>by
  rw[È,Ģ,N0 ns,Ot];by_cases h:n=i
  .simp[h]
  .simp[h,Ne.symm h]
variable {i:Int} {ns:List Int}
def Y0:inL h (.int i) (ns.map .int)=df (fB (i∈ns)):=by unfold inL;rw[Mn];exact congrArg df (N0 ns)
def FR(q:KB (!fB (i∈ns))):go (dL h .notin (.int i)<|.tup<|ns.map .int) KB:=dy (by show(inV h (.int i)<|.tup _).map _=_;unfold inV;simp![Y0];rfl) q
def Wi{xs:List Val}{j:Nat}{v:Val}{K:Val×Hs->Prop}(e1:h a=df (.lst xs))(hi:0<=i)(hj:j=i.toNat)(hx:xs[j]?=df v)(h62:i<2 ^ 62)(q:K (v,upd h a<|.lst<|xs.eraseIdx j)):go (bmV h .popAt (.ref a) [.int i]) K:=by refine dy (a:=(v,upd h a<|.lst<|xs.eraseIdx j)) ?_ q;show(dF<|h a).bind (bmPopAt h [.int i] a)=_;rw[lsE e1];show(if -(2 ^ 62)<i/\i<2 ^ 62 then(ixN xs.length i).bind λk=>(xs[k]?).map λv=>(v,upd h a<|.lst<|xs.eraseIdx k)else dg)=_;have hl:=(Ò.mp hx).1;rw[fm ⟨by lia,h62⟩];unfold ixN;rw[fm hi,fm (by lia),ï,<-hj,hx];rfl
def Yr{α β:Type}(f:α->β):∀(xs:List α) (i:Nat),(xs.map f).eraseIdx i=(xs.eraseIdx i).map f
 |[],_=>rfl
 |x::xs,0=>rfl
 |x::xs,i+1=>by rw[È,ν,ν,È,Yr f xs i]
def Nr{st:Hs->Prop}{step:Val->Hs->(Option Val->Hs->Prop)->XQ->Prop}{Q:List Val->Hs->Prop}{f:α->Val}{l:List α}(p:α->Bool)(v:α->Val)(ű:st h)(go:∀x∈l,∀K,(p x=dh->K (df<|v x) h)->(p x=di->K dg h)->step (f x) h K X)(fin:Q ((l.filter p).map v) h):wComp st step (l.map f) [] h Q X:=by
 refine AR (λi ys g=>g=h/\ys=((l.take i).filter p).map v) ⟨rfl,rfl⟩ (λ_ _ _ _ z=>z.1▸ű) ?_ ?_
 .rintro i u ys g hv ⟨rfl,rfl⟩ K hK;let⟨x,hx,rfl⟩:=ZV hv;rw[Zx hx,ϋ,ĉ,Β]at hK;exact go x (å hx) K (λe=>hK _ _ ⟨rfl,by rw[e,fm rfl,â];rfl⟩) λe=>hK _ _ ⟨rfl,by rw[e,fo (by decide),Ĉ,Option.toList_none,Ĉ]⟩
 .rintro ys g ⟨rfl,rfl⟩;rw[Á,Ċ];exact fin
def GP{st:Hs->Prop}{step:Val->Hs->(Option Val->Hs->Prop)->XQ->Prop}{Q:List Val->Hs->Prop}{f:α->Val}{l:List α}(v:α->Val)(ű:st h)(go:∀x∈l,∀K,K (df<|v x) h->step (f x) h K X)(fin:Q (l.map v) h):wComp st step (l.map f) [] h Q X:=Nr (λ_=>dh) v ű (λx hx K h1 _=>go x hx K<|h1 rfl) (by rw[cc.mpr λ_ _=>rfl];exact fin)
def EI(m:Nat):dY 0 (m:Int)=(List.range m).map λi:Nat=>.int i:=by unfold dY;rw[Int.sub_zero,Ϝ];exact ō λi _=>by rw[Int.zero_add]
end
structure TW where
 no:Int->Int
 lv:Int->Int
 mo:Int
 bt:List<|Int×Int
 fa:Int->List (Int×(Int×Int))
 dn:List Int
 rd:List<|Int×Int×L
 br:Int->Br
abbrev up1(f:Int->α)(i:Int)(v:α):Int->α:=λj=>if j=i then v else f j
def up1_s{f:Int->α}{i:Int}{v:α}:up1 f i v i=v:=fm rfl
variable {j:Int}
def ZL{f:Int->α}{i:Int}{v:α}(n:j≠i):up1 f i v j=f j:=fo n
noncomputable abbrev His:=Int->Pi->Option (Lab×Nat)
abbrev leP(a b:Pi):Prop:=a.1<b.1\/(a.1=b.1/\a.2<=b.2)
abbrev ltP(a b:Pi):Prop:=a.1<b.1\/(a.1=b.1/\a.2<b.2)
def leP.anti{a b:Pi}(h:leP a b)(k:leP b a):a=b:=by unfold leP at h k;exact Prod.ext (by lia) (by lia)
def leP.refl(a:Pi):leP a a:=.inr ⟨rfl,cj _⟩
def ltP.le{a b c:Pi}(h:ltP a b)(k:leP b c):ltP a c:=by unfold ltP leP at *;lia
structure LtO(K:His)(N:Nat)(cn:Pi)(i p:Int)(l:L):Prop where
 num:ltP l.num cn
 lab:∃k y k0,k<=N/\K i l.st=df (y,k0)/\l.root=y.root/\l.cost=y.cost/\(∀t z kt,K i t=df (z,kt)->¬ leP t l.st->k<kt)/\(∀t,l.rests=df t->y.up=df (p,t)/\∃z kt,K (1 - i) t=df (z,kt)/\kt<=k)/\∀t,l.agrees=df t->y.up.map (·.1)≠df p/\∃z kt,K (1 - i) t=df (z,kt)/\kt<=k
structure BrO(K:His)(N:Nat)(bt:List<|Int×Int)(cn:Pi)(i n:Int)(B:Br):Prop where
 now:∃k,K i (B.life,B.version)=df (B.label,k)
 top:∀s y k,K i s=df (y,k)->leP s (B.life,B.version)
 held:∀q∈B.held,(bt.lookup q.1).isSome=dh->LtO K N cn (1 - i) q.1 q.2.1
 ages:∀q∈B.held,0<=q.2.2
 ties:∀q∈B.ties,∀c,bt.lookup q.1=df c->q.2=(n,c)
abbrev JD(K:His)(bt:List<|Int×Int):Prop:=∀i s y k p t c,K i s=df (y,k)->y.up=df (p,t)->bt.lookup p=df c->∃z kt,K (1 - i) t=df (z,kt)/\y.root=z.root/\y.cost=z.cost+c
abbrev WU(K:His)(b:Int)(s:Pi)(y:Lab)(N:Nat):His:=λc t=>if c=b/\t=s then df (y,N+1)else K c t
abbrev B4(K:His)(b:Int)(s:Pi):Prop:=∀t z k,K b t=df (z,k)->leP t s/\t≠s
section
variable {K:His}{N:Nat}{bt:List (Int×Int)}{cn cm:Pi}{i b c p n:Int}{s t:Pi}{y:Lab}{z:Lab×Nat}{l:L}{B A:Br}
def Me:WU K b s y N b s=df (y,N+1):=fm ⟨rfl,rfl⟩
def Z3(nw:B4 K b s)(h:K c t=df z):WU K b s y N c t=df z:=by
 unfold WU;rw[fo]
 .exact h
 .rintro⟨rfl,rfl⟩;exact(nw t z.1 z.2 h).2 rfl
def Yb(h:WU K b s y N c t=df z):(c=b/\t=s/\z=(y,N+1))\/K c t=df z:=by
 unfold WU at h;split at h
 .rename_i e;cases h;exact .inl ⟨e.1,e.2,rfl⟩
 .exact .inr h
def LtO.cle(o:LtO K N cn c p l)(h:leP cn cm):LtO K N cm c p l:=⟨o.num.le h,o.lab⟩
def LtO.add(o:LtO K N cn c p l)(nw:B4 K b s):LtO (WU K b s y N) (N+1) cn c p l:=by
 let⟨k,y0,k0,h1,h2,h3,h4,h5,h6,h7⟩:=o.lab;refine⟨o.num,k,y0,k0,by lia,Z3 nw h2,h3,h4,λt z kt hz hn=>?_,λt ht=>?_,λt ht=>?_⟩
 .rcases Yb hz with⟨_,_,e⟩|e
  .cases e;lia
  .exact h5 t z kt e hn
 .obtain⟨a,z,kt,e,f⟩:=h6 t ht;exact⟨a,z,kt,Z3 nw e,f⟩
 .obtain⟨a,z,kt,e,f⟩:=h7 t ht;exact⟨a,z,kt,Z3 nw e,f⟩
def BrO.add(o:BrO K N bt cn c n B)(nw:B4 K b s)(ne:c≠b):BrO (WU K b s y N) (N+1) bt cn c n B:=by let⟨k,hk⟩:=o.now;exact⟨⟨k,Z3 nw hk⟩,λt z k h=>(Yb h).elim (λe=>fA e.1 ne)<|o.top t z k,λq hq e=>(o.held q hq e).add nw,o.ages,o.ties⟩
def BrO.less(o:BrO K N bt cn i n B)(e1:A.life=B.life)(e2:A.version=B.version)(e3:A.label=B.label)(hh:∀q∈A.held,q∈B.held)(ht:∀q∈A.ties,∀c,bt.lookup q.1=df c->q.2=(n,c)):BrO K N bt cn i n A :=
 ⟨by rw[e1,e2,e3];exact o.now,by rw[e1,e2];exact o.top,λq hq=>o.held q<|hh q hq,λq hq=>o.ages q<|hh q hq,ht⟩
def BrO.cle(o:BrO K N bt cn i n B)(h:leP cn cm):BrO K N bt cm i n B:=⟨o.now,o.top,λq hq e=>(o.held q hq e).cle h,o.ages,o.ties⟩
def Wh(o:B.ok)(h:(Zq B).up=df q):∃l a,(q.1,(l,a))∈B.held/\q.2=l.st/\(Zq B).root=l.root/\(Zq B).cost=l.cost+(Ja B.ties q.1).2:=by
 unfold Zq at h ⊢;split at h
 .cases h
 .rename_i m e;have hm:=Xm e;unfold XI at hm;let⟨y,hy,rfl⟩:=Ð.mp hm;cases h;refine⟨y.2.1,y.2.2,hy,?_,?_,?_⟩
  .show XG B.held y.1=_;unfold XG;rw[Zr o.nd hy];rfl
  .rfl
  .rfl
def Jy(le:∀i s y k,K i s=df (y,k)->k<=N)(rs:JD K bt)(o:BrO K N bt cn i n B.told)(hp:(bt.lookup p).isSome=dh):LtO K N (B.ticked.life,B.ticked.count) i p<|Zh B.told p:=by
 let⟨f1,f2,f3,f4,f5,f6,f7⟩:=Zu B.grown<|Zq B.grown;let⟨k,hk⟩:=o.now;refine⟨.inr ⟨rfl,?_⟩,N,B.told.label,k,Ê _,hk,rfl,rfl,λt z kt hz hn=>fA (o.top t z kt hz) hn,λt ht=>?_,λt ht=>?_⟩
 .show B.told.count<B.count+1;rw[show B.told.count=B.count from f3];lia
 .replace ht:(if Xi B.told.label.up p then B.told.label.up.map (·.2)else dg)=df t:=ht
  split at ht
  .rename_i hu;cases e:B.told.label.up with
   |none=>rw[e]at hu;cases hu
   |some v =>rw[e]at ht hu;have e2:p=v.1:=of_decide_eq_true hu;cases ht;subst e2;let⟨c,hc⟩:=Ì.mp hp;let⟨z,kt,hz,_⟩:=rs i _ _ k v.1 v.2 c hk (by rw[e]) hc;exact⟨rfl,z,kt,hz,le _ _ _ _ hz⟩
  .cases ht
 .replace ht:(if Xi B.told.label.up p then dg else if ZG B.told p then df (XG B.told.held p)else dg)=df t:=ht
  split at ht
  .cases ht
  .rename_i hu;split at ht
   .rename_i hr;unfold ZG at hr;cases e:B.told.held.lookup p with
    |none=>rw[e]at hr;cases hr
    |some v =>
     cases ht;unfold XG;rw[e];let⟨_,y,k0,_,g1,_⟩:=(o.held _ (Zd e) hp).lab;refine⟨λz=>hu ?_,y,k0,g1,le _ _ _ _ g1⟩;cases e2:B.told.label.up with
     |none=>rw[e2]at z;cases z
     |some u =>rw[e2]at z;exact fw (ë z).symm
   .cases ht
def FL(le:∀i s y k,K i s=df (y,k)->k<=N)(rs:JD K bt)(o:BrO K N bt cn i n B)(ok:B.ok):∃K' N',(∀i s y k,K' i s=df (y,k)->k<=N')/\JD K' bt/\BrO K' N' bt cn i n B.ticked/\(∀cn c n A,c≠i->BrO K N bt cn c n A->BrO K' N' bt cn c n A)/\(∀cn c p l,LtO K N cn c p l->LtO K' N' cn c p l)/\∀p,(bt.lookup p).isSome=dh->LtO K' N' (B.ticked.life,B.ticked.count) i p (Zh B.told p):=by
 have og:=ok.grown;have hg:∀q∈B.grown.held,∃a,(q.1,(q.2.1,a))∈B.held/\q.2.2=a+1:=λq hq=>by
  let⟨r,hr,e⟩:=Ħ.mp hq;split at e
  .cases e;exact⟨_,hr,rfl⟩
  .cases e
 let⟨f1,f2,f3,f4,f5,f6,f7⟩:=Zu B.grown<|Zq B.grown;have gh:∀{K':His}{N':Nat},(∀cn c p l,LtO K N cn c p l->LtO K' N' cn c p l)->∀q∈B.grown.held,((bt.lookup q.1).isSome=dh->LtO K' N' cn (1 - i) q.1 q.2.1)/\0<=q.2.2:=λf q hq=>by let⟨a,ha,e⟩:=hg q hq;have:=o.ages _ ha;exact⟨λe=>f _ _ _ _<|o.held (q.1,(q.2.1,a)) ha e,by rw[e];dsimp only at this;lia⟩
 by_cases e:Zq B.grown=B.label
 .have ht:B.told=B.grown:=fm e;have o1:BrO K N bt cn i n B.told:=by
   rw[ht];exact⟨o.now,o.top,λq hq=>(gh (λ_ _ _ _ h=>h) q hq).1,λq hq=>(gh (N':=N) (K':=K) (λ_ _ _ _ h=>h) q hq).2,o.ties⟩
  exact⟨K,N,le,rs,⟨o1.now,o1.top,o1.held,o1.ages,o1.ties⟩,(λ_ _ _ _ _ h=>h),(λ_ _ _ _ h=>h),λp hp=>Jy le rs o1 hp⟩
 .have ht:B.told={B.grown with label:=Zq B.grown,version:=B.version+1}:=fo e;have nw:B4 K i (B.life,B.version+1):=λt z k h=>by
   have:=o.top t z k h;unfold leP at this ⊢;dsimp only at this ⊢;exact⟨by lia,λz=>by rw[z]at this;dsimp only at this;lia⟩
  have o1:BrO (WU K i (B.life,B.version+1) (Zq B.grown) N) (N+1) bt cn i n B.told:=by rw[ht];exact⟨⟨_,Me⟩,λt z k h=>(Yb h).elim (λz=>by rw[z.2.1];exact leP.refl _) λh=>(nw t z k h).1,λq hq=>(gh (λ_ _ _ _ h=>h.add nw) q hq).1,λq hq=>(gh (K':=K) (N':=N) (λ_ _ _ _ h=>h) q hq).2,o.ties⟩
  have le':∀c s y k,WU K i (B.life,B.version+1) (Zq B.grown) N c s=df (y,k)->k<=N+1:=λc s y k h=>by
   rcases Yb h with⟨_,_,e⟩|h
   .cases e;exact Ê _
   .have:=le c s y k h;lia
  have rs':JD (WU K i (B.life,B.version+1) (Zq B.grown) N) bt:=λc s y k p t x h hu hx=>by
   rcases Yb h with⟨rfl,rfl,e⟩|h
   .cases e;let⟨l,a,h1,h2,h3,h4⟩:=Wh og hu;let⟨a',ha',_⟩:=hg _ h1;dsimp only at h2 h4 ha' h1;have lo:=o.held _ ha' (by dsimp only;rw[hx];rfl);let⟨_,w,k0,_,g1,g2,g3,_⟩:=lo.lab;refine⟨w,k0,Z3 nw (by rw[h2];exact g1),h3.trans g2,?_⟩;have hs:=ok.sub _ ha';have:=o.ties _ (Zd<|AL hs) x hx;have e2:=congrArg Prod.snd this;dsimp only at e2;rw[h4,show B.grown.ties=B.ties from rfl,e2,g3]
   .obtain⟨z,kt,hz,q⟩:=rs c s y k p t x h hu hx;exact⟨z,kt,Z3 nw hz,q⟩
  exact⟨_,N+1,le',rs',⟨o1.now,o1.top,o1.held,o1.ages,o1.ties⟩,(λ_ _ _ _ ne h=>h.add nw ne),(λ_ _ _ _ h=>h.add nw),λp hp=>Jy le' rs' o1 hp⟩
end
structure Two(K:His)(N:Nat)(W:TW):Prop where
 br:∀i,i=0\/i=1->BrO K N W.bt ((W.br<|1 - i).life,(W.br<|1 - i).count) i (W.no<|1 - i) (W.br i)
 le:∀i s y k,K i s=df (y,k)->k<=N
 rest:JD K W.bt
 road:∀r∈W.rd,(r.1=0\/r.1=1)/\(W.bt.lookup r.2.1).isSome=dh/\0<=r.2.2.age/\LtO K N ((W.br<|1 - r.1).life,(W.br<|1 - r.1).count) (1 - r.1) r.2.1 r.2.2
abbrev TW.lets(W:TW)(i:Int):List<|Int×Int×L:=((sortI ((W.br i).ties.map (·.1))).filter λp=>(W.bt.lookup p).isSome).map λp=>(1 - i,p,Zh (W.br i).told p)
abbrev TW.tick(W:TW)(i:Int):TW:={W with br:=up1 W.br i (W.br i).ticked,rd:=W.rd++W.lets i}
abbrev TW.off(W:TW)(k:Nat):TW:={W with rd:=W.rd.eraseIdx k}
abbrev TW.hear(W:TW)(i p:Int)(l:L):TW:={W with br:=up1 W.br i (Zk (W.br i) p l)}
def XA{i:Int}(h:i=0\/i=1):(1 - i=0\/1 - i=1)/\1 - i≠i/\1 - (1 - i)=i:=by lia
section
variable {K:His}{N:Nat}{W:TW}{i:Int}
variable {p:Int}
def mem_sortI{ns:List Int}:p∈sortI ns↔p∈ns:=by unfold sortI;exact(Ō _ _).mem_iff
def FD(h:∀q∈B.told.held,0<=q.2.2):0<=Z4 B.told:=by
 unfold Z4;cases B.told.label.up with
 |none=>exact cj _
 |some q =>
  dsimp only;cases e:B.told.held.lookup q.1 with
  |none=>exact by decide
  |some v =>have:=h _<|Zd e;dsimp only at this;show 0<=v.2+1;lia
def Two.tick(x:Two K N W)(hi:i=0\/i=1)(ok:(W.br i).ok):∃K' N',Two K' N' (W.tick i):=by
 let⟨j0,j1,j2⟩:=XA hi;let⟨K',N',a1,a2,a3,a4,a5,a6⟩:=FL x.le x.rest (x.br i hi) ok;let⟨f1,f2,f3,f4,f5,f6,f7⟩:=Zu (W.br i).grown<|Zq (W.br i).grown;have ei:(W.tick i).br i=(W.br i).ticked:=up1_s;have ej:(W.tick i).br (1 - i)=W.br (1 - i):=ZL j1;have cl:leP ((W.br i).life,(W.br i).count) ((W.br i).ticked.life,(W.br i).ticked.count):=by
  refine .inr ⟨?_,?_⟩
  .exact f6.symm
  .show(W.br i).count<=(W.br i).count+1;lia
 refine⟨K',N',λc hc=>?_,a1,a2,λr hr=>?_⟩
 .have:c=i\/c=1 - i:=by lia
  rcases this with rfl|rfl
  .rw[ei,ej];exact a3
  .rw[j2,ei,ej];have o:=x.br _ hc;rw[j2]at o;exact(a4 _ _ _ _ j1 o).cle cl
 .have len:∀c,leP ((W.br c).life,(W.br c).count) (((W.tick i).br c).life,((W.tick i).br c).count):=λc=>by
   by_cases h:c=i
   .rw[h,ei];exact cl
   .rw[show(W.tick i).br c=W.br c from ZL h];exact leP.refl _
  rcases æ.mp hr with hr|hr
  .obtain⟨q1,q2,q3,q4⟩:=x.road r hr;exact⟨q1,q2,q3,(a5 _ _ _ _ q4).cle<|len _⟩
  .obtain⟨p,hp,rfl⟩:=Ð.mp hr;have hp:=(í.mp hp).2;refine⟨j0,hp,?_,?_⟩
   .exact FD λq hq=>a3.ages q hq
   .dsimp only;rw[j2,ei];exact a6 p hp
def Two.off(x:Two K N W)(k:Nat):Two K N<|W.off k:=⟨x.br,x.le,x.rest,λr hr=>x.road r<|ż hr⟩
def Yu(B:Br)(p:Int)(l:L):(Zk B p l).life=B.life/\(Zk B p l).version=B.version/\(Zk B p l).label=B.label/\(Zk B p l).count=B.count/\(Zk B p l).ties=B.ties/\(Zk B p l).number=B.number/\(Zk B p l).most=B.most/\∀q∈(Zk B p l).held,q=(p,(l,l.age))\/q∈B.held:=by
 unfold Zk;split
 .split
  .exact⟨rfl,rfl,rfl,rfl,rfl,rfl,rfl,λq hq=>Wo hq⟩
  .exact⟨rfl,rfl,rfl,rfl,rfl,rfl,rfl,λq hq=>.inr hq⟩
 .exact⟨rfl,rfl,rfl,rfl,rfl,rfl,rfl,λq hq=>.inr hq⟩
def Two.put(x:Two K N W)(hi:i=0\/i=1)(e1:B.life=(W.br i).life)(e2:B.count=(W.br i).count)(o:BrO K N W.bt ((W.br<|1 - i).life,(W.br<|1 - i).count) i (W.no<|1 - i) B):Two K N {W with br:=up1 W.br i B}:=by
 let⟨j0,j1,j2⟩:=XA hi;have ec:∀c,((up1 W.br i B c).life,(up1 W.br i B c).count)=((W.br c).life,(W.br c).count):=λc=>by
  by_cases h:c=i
  .rw[h,up1_s,e1,e2]
  .rw[ZL h]
 refine⟨λc hc=>?_,x.le,x.rest,λr hr=>?_⟩
 .dsimp only;rw[ec];by_cases h:c=i
  .rw[h,up1_s];exact o
  .rw[ZL h];exact x.br c hc
 .dsimp only;rw[ec];exact x.road r hr
def Two.hear{l:L}(x:Two K N W)(hi:i=0\/i=1)(ha:0<=l.age)(hl:(W.bt.lookup p).isSome=dh->LtO K N ((W.br<|1 - i).life,(W.br<|1 - i).count) (1 - i) p l):Two K N<|W.hear i p l:=by
 let⟨h1,h2,h3,h4,h5,_,_,h6⟩:=Yu (W.br i) p l;have o:=x.br i hi;refine x.put hi h1 h4 ⟨by rw[h1,h2,h3];exact o.now,by rw[h1,h2];exact o.top,λq hq=>?_,λq hq=>?_,by rw[h5];exact o.ties⟩
 .rcases h6 q hq with rfl|h
  .exact hl
  .exact o.held q h
 .rcases h6 q hq with rfl|h
  .exact ha
  .exact o.ages q h
def YY(h:Zf B p = "child"):∃t q,B.label.up=df (p,t)/\B.held.lookup p=df q/\q.1.agrees=df (B.life,B.version)/\q.1.st=t:=by
 unfold Zf at h;split at h
 .split at h
  .split at h
   .rename_i hu ha;cases e:B.label.up with
    |none=>rw[e]at hu;cases hu
    |some u =>
     rw[e]at hu;have hp:p=u.1:=of_decide_eq_true hu;unfold Y8 at ha;cases z:B.held.lookup p with
     |none=>rw[z]at ha;cases ha
     |some q =>
      rw[z]at ha
      replace ha:(if q.1.agrees=df (B.life,B.version)then fB (B.label.up.map (·.2)=df q.1.st)else di)=dh:=ha
      split at ha
      .rename_i hag;have:=of_decide_eq_true ha;rw[e]at this;exact⟨u.2,q,by rw[hp],rfl,hag,(ë this).symm⟩
      .cases ha
   .exact fA h (by decide)
  .split at h<;>exact fA h (by decide)
 .exact fA h (by decide)
def Xh(h:Zf B p = "parent"):B.label.up.map (·.1)≠df p/\∃q,B.held.lookup p=df q/\q.1.rests=df (B.life,B.version):=by
 unfold Zf at h;split at h
 .split at h
  .split at h<;>exact fA h (by decide)
  .rename_i hu;split at h
   .rename_i hr;refine⟨λz=>hu ?_,?_⟩
    .cases e:B.label.up with
     |none=>rw[e]at z;cases z
     |some u =>rw[e]at z;exact fw (ë z).symm
    .unfold ZG at hr;cases z:B.held.lookup p with
     |none=>rw[z]at hr;cases hr
     |some q =>rw[z]at hr;exact⟨q,rfl,of_decide_eq_true hr⟩
   .exact fA h (by decide)
 .exact fA h (by decide)
variable {bt:List (Int×Int)}
def JJ{cn:Pi}{n:Int}{q:L}{y:Lab}{k k0 kB:Nat}(o:BrO K N bt cn j n B)(hB:K j (B.life,B.version)=df (B.label,kB))(h1:K j q.st=df (y,k0))(h2:∀t z kt,K j t=df (z,kt)->¬ leP t q.st->k<kt)(ne:q.st≠(B.life,B.version)):k<kB :=
 h2 _ _ _ hB λz=>ne<|leP.anti (o.top _ _ _ h1) z
def OB{cA cB:Pi}{nA nB:Int}{A:Br}(hj:1 - i=j)(hi:1 - j=i)(oA:BrO K N bt cA i nA A)(oB:BrO K N bt cB j nB B)(rs:JD K bt)(hp:bt.lookup p=df c) :
  ¬ (Zf A p = "child"/\Zf B p = "child")/\¬ (Zf A p = "parent"/\Zf B p = "parent")/\(Zf A p = "child"->Zf B p = "parent"->A.label.root=B.label.root/\A.label.cost=B.label.cost+c):=by
 have hs:(bt.lookup p).isSome=dh:=by rw[hp];rfl
 let⟨kA,hA⟩:=oA.now;let⟨kB,hB⟩:=oB.now;refine⟨?_,?_,?_⟩
 .rintro⟨h1,h2⟩;let⟨t,q,u1,z1,g1,s1⟩:=YY h1;let⟨u,r,u2,z2,g2,s2⟩:=YY h2;let⟨k,y,k0,_,a1,_,_,a2,_,a3⟩:=(oA.held _ (Zd z1) hs).lab;let⟨m,x,m0,_,b1,_,_,b2,_,b3⟩:=(oB.held _ (Zd z2) hs).lab;dsimp only at a1 a2 a3 b1 b2 b3;rw[hj]at a1 a2 a3;rw[hi]at b1 b2 b3;rw[hi]at a3;rw[hj]at b3;let⟨c1,z,kt,c2,c3⟩:=a3 _ g1;let⟨d1,z',kt',d2,d3⟩:=b3 _ g2;rw[hA]at c2;rw[hB]at d2;cases c2;cases d2;have e1:=JJ oB hB a1 a2 λe=>c1 (by rw[e,hB]at a1;cases a1;rw[u2];rfl);have e2:=JJ oA hA b1 b2 λe=>d1 (by rw[e,hA]at b1;cases b1;rw[u1];rfl);lia
 .rintro⟨h1,h2⟩;let⟨u1,q,z1,g1⟩:=Xh h1;let⟨u2,r,z2,g2⟩:=Xh h2;let⟨k,y,k0,_,a1,_,_,a2,a3,_⟩:=(oA.held _ (Zd z1) hs).lab;let⟨m,x,m0,_,b1,_,_,b2,b3,_⟩:=(oB.held _ (Zd z2) hs).lab;dsimp only at a1 a2 a3 b1 b2 b3;rw[hj]at a1 a2 a3;rw[hi]at b1 b2 b3;rw[hi]at a3;rw[hj]at b3;let⟨c1,z,kt,c2,c3⟩:=a3 _ g1;let⟨d1,z',kt',d2,d3⟩:=b3 _ g2;rw[hA]at c2;rw[hB]at d2;cases c2;cases d2;have e1:=JJ oB hB a1 a2 λe=>u2 (by rw[e,hB]at a1;cases a1;rw[c1];rfl);have e2:=JJ oA hA b1 b2 λe=>u1 (by rw[e,hA]at b1;cases b1;rw[d1];rfl);lia
 .intro h1 h2;let⟨t,q,u1,z1,g1,s1⟩:=YY h1;let⟨u2,r,z2,g2⟩:=Xh h2;let⟨k,y,k0,_,a1,_,_,a2,_,a3⟩:=(oA.held _ (Zd z1) hs).lab;let⟨m,x,m0,_,b1,_,_,b2,b3,_⟩:=(oB.held _ (Zd z2) hs).lab;dsimp only at a1 a2 a3 b1 b2 b3;rw[hj]at a1 a2 a3;rw[hi]at b1 b2 b3;rw[hi]at a3;rw[hj]at b3;let⟨c1,z,kt,c2,c3⟩:=a3 _ g1;let⟨d1,z',kt',d2,d3⟩:=b3 _ g2;rw[hA]at c2;rw[hB]at d2;cases c2;cases d2;have et:t=(B.life,B.version):=by
   refine Ϩ λne=>?_;have e1:=JJ oB hB a1 a2 (by rw[s1];exact ne);have e2:=JJ oA hA b1 b2 λe=>ne (by rw[e,hA]at b1;cases b1;rw[u1]at d1;exact(ů<|ë d1).2);lia
  let⟨z,kt,r1,r2,r3⟩:=rs i _ _ _ p t c hA u1 hp;rw[hj,et,hB]at r1;cases r1;exact⟨r2,r3⟩
end
def Yw:∀{a b:List Int},d7 a b=dh->d7 b a=di
 |[],[],h=>by cases h
 |[],_::_,_=>rfl
 |_::_,[],h=>by cases h
 |x::xs,y::ys,h=>by
  rw[d7]at h ⊢;by_cases e:x=y
  .subst e;rw[fm rfl]at h ⊢;exact Yw h
  .rw[fo e]at h;have h:x<y:=⇑h
   rw[fo<|Ne.symm e];simp;lia
def We:∀{a b c:List Int},d7 b a=di->d7 c b=di->d7 c a=di
 |[],[],[],_,_=>rfl
 |[],_,_::_,_,_=>rfl
 |[],_::_,[],_,h=>by cases h
 |_::_,[],_,h,_=>by cases h
 |_::_,_::_,[],_,h=>by cases h
 |x::xs,y::ys,z::zs,h1,h2=>by
  rw[d7]at h1 h2 ⊢;by_cases e1:y=x
  .subst e1;rw[fm rfl]at h1;by_cases e2:z=y
   .subst e2;rw[fm rfl]at h2 ⊢;exact We h1 h2
   .rw[fo e2]at h2 ⊢;exact h2
  .rw[fo e1]at h1;have h1:¬ y<x:=⇑h1
   by_cases e2:z=y
   .subst e2;rw[fo e1];simpa using h1
   .rw[fo e2]at h2;have h2:¬ z<y:=⇑h2
    rw[fo<|by lia];simp;lia
abbrev XC(m:List Int)(rows:List<|List Int):Prop:=m∈rows/\∀y∈rows,d7 y m=di
def Xj:∀(r:List<|List Int) (x:List Int),XC (minR x r) (x::r)
 | [],x=>⟨Ý,λy hy=>by
   rw[û.mp hy]
   cases q:d7 x x with
   |false=>exact q
   | true=>have:=Yw q;rw[q]at this;cases this⟩
 |z::r,x=>by
  let⟨h1,h2⟩:=Xj r (if d7 z x then z else x);refine⟨W3 (z::r) x,λy hy=>?_⟩;show d7 y (minR (if d7 z x then z else x) r)=di;have hb:=h2 _ Ý;have hx:d7 x (if d7 z x then z else x)=di:=by
   cases q:d7 z x with
   |false =>
    simp![ú,if_false];cases q2:d7 x x with
    |false=>rfl
    |true=>have:=Yw q2;rw[q2]at this;cases this
   |true=>simp![if_true];exact Yw q
  have hz:d7 z (if d7 z x then z else x)=di:=by
   cases q:d7 z x with
   |false=>simp![ú,if_false];exact q
   |true =>
    simp![if_true];cases q2:d7 z z with
    |false=>rfl
    |true=>have:=Yw q2;rw[q2]at this;cases this
  rcases Æ.mp hy with e|hy
  .rw[e];exact We hb hx
  .rcases Æ.mp hy with e|hy
   .rw[e];exact We hb hz
   .exact h2 y<|Ù _ hy
def lex_eq:∀{a b:List Int},d7 a b=di->d7 b a=di->a=b
 |[],[],_,_=>rfl
 |[],_::_,h,_=>by cases h
 |_::_,[],_,h=>by cases h
 |x::xs,y::ys,h1,h2=>by
  unfold d7 at h1 h2;by_cases e:x=y
  .subst e;rw[fm rfl]at h1 h2;rw[lex_eq h1 h2]
  .rw[fo e]at h1;rw[fo<|Ne.symm e]at h2;have:=of_decide_eq_false h1;have:=of_decide_eq_false h2;lia
def W1(h:ZM number rows=df m):XC m<|rows.filter λr=>fB (r.headD 0<number):=by
 unfold ZM at h;split at h
 .cases h
 .rename_i x r e;cases h;rw[e];exact Xj r x
def UP(h:ZM number rows=dg):∀r∈rows,¬ r.headD 0<number:=by
 unfold ZM at h;split at h
 .rename_i e;intro r hr ϩ;have:r∈rows.filter (λr=>fB (r.headD 0<number)):=í.mpr ⟨hr,fw ϩ⟩;rw[e]at this;cases this
 .cases h
section
variable {B:Br}
def O0(h:(Zq B).up=df q):(Zq B).root<B.number:=by
 unfold Zq at h ⊢;split at h
 .cases h
 .rename_i m e;have hl:=í.mp (W1 e).1;have hm:=Xm e;unfold XI at hm;let⟨y,hy,rfl⟩:=Ð.mp hm;exact of_decide_eq_true hl.2
def Jg(h:(Zq B).up=dg):Zq B=⟨B.number,0,dg⟩:=by
 unfold Zq at h ⊢;split at h
 .rfl
 .cases h
def NY(o:B.ok)(h:∀q∈B.held,¬ q.2.1.root<B.number):Zq B=⟨B.number,0,dg⟩:=by
 cases e:(Zq B).up with
 |none=>exact Jg e
 |some q =>let⟨l,a,h1,h2,h3,_⟩:=Wh o e;have:=O0 e;rw[h3]at this;exact fA this<|h _ h1
def Yo{q:Int×(L×Int)}(h:q∈B.grown.held):∃a,(q.1,(q.2.1,a))∈B.held/\q.2.2=a+1/\a+1<B.most:=by
 let⟨r,hr,e⟩:=Ħ.mp h;split at e
 .rename_i c;cases e;exact⟨_,hr,rfl,c⟩
 .cases e
def Mu{p a:Int}{l:L}(h:(p,(l,a))∈B.held)(ha:a+1<B.most):(p,(l,a+1))∈B.grown.held:=Ħ.mpr ⟨_,h,fm ha⟩
end
structure QB(no:Int->Int)(mo:Int)(bt:List<|Int×Int)(X:Int->Br):Prop where
 br:∀i,i=0\/i=1->(X i).number=no i/\(X i).most=mo/\(X i).ok/\∀p,(X i).ties.lookup p=(bt.lookup p).map λc=>(no<|1 - i,c)
structure Rnd(bt:List<|Int×Int)(X Y:Int->Br):Prop where
 same:∀i,i=0\/i=1->(Y i).life=(X i).life/\(Y i).version=(X i).told.version/\(Y i).label=(X i).told.label
 held:∀i,i=0\/i=1->∀p,(Y i).held.lookup p=if(bt.lookup p).isSome=dh then df (Zh (X<|1 - i).told p,(Zh (X<|1 - i).told p).age)else dg
abbrev Gh(lo k:Int)(X:Int->Br):Prop:=∀i,i=0\/i=1->∀p l a,(X i).held.lookup p=df (l,a)->l.root<lo->k<=a
abbrev Fsh(bt:List<|Int×Int)(X:Int->Br):Prop:=∀i,i=0\/i=1->∀p l a,(X i).held.lookup p=df (l,a)->(bt.lookup p).isSome=dh/\l.st=((X<|1 - i).life,(X<|1 - i).version)/\l.root=(X<|1 - i).label.root/\l.cost=(X<|1 - i).label.cost/\l.rests=(if Xi (X<|1 - i).label.up p then(X<|1 - i).label.up.map (·.2)else dg)/\((X<|1 - i).label.up=dg->a=0)
abbrev All(bt:List<|Int×Int)(X:Int->Br):Prop:=∀i,i=0\/i=1->∀p,(bt.lookup p).isSome=dh->((X i).held.lookup p).isSome=dh
section
variable {no:Int->Int}{mo:Int}{bt:List (Int×Int)}{X Y:Int->Br}{k c p:Int}
def Y9(B:Br):B.told.held=B.grown.held/\B.told.label=Zq B.grown/\B.told.life=B.life:=by let⟨f1,f2,f3,f4,f5,f6,f7⟩:=Zu B.grown<|Zq B.grown;exact⟨f1,f4,f6⟩
def Gh.next(q:QB no mo bt X)(lo:no 0<no 1)(r:Rnd bt X Y)(g:Gh (no 0) k X):Gh (no 0) (k+2) Y:=by
 intro i hi p l a hl hr;rw[r.held i hi p]at hl;split at hl
 .cases hl;let⟨j0,_,_⟩:=XA hi;let⟨q1,q2,q3,q4⟩:=q.br _ j0;let⟨f1,f4,f6⟩:=Y9 (X<|1 - i)
  replace hr:(X<|1 - i).told.label.root<no 0:=hr
  show k+2<=Z4 (X<|1 - i).told;unfold Z4;rw[f4]at hr ⊢;cases e:(Zq (X<|1 - i).grown).up with
  |none =>
   rw[Jg e]at hr
   replace hr:(X<|1 - i).number<no 0:=hr
   rw[q1]at hr;rcases j0 with z|z<;>rw[z]at hr<;>lia
  |some u =>let⟨m,b,h1,h2,h3,_⟩:=Wh q3.grown e;let⟨b',w1,w2,w3⟩:=Yo h1;rw[h3]at hr;have:=g _ j0 _ _ _ (Zr q3.nd w1) hr;dsimp only;rw[f1,Zr q3.grown.nd h1];show k+2<=b+1;dsimp only at w2;lia
 .cases hl
def Bo(q:QB no mo bt X)(g:Gh (no 0) k X)(hk:mo<=k+1){i:Int}(hi:i=0\/i=1):∀y∈(X i).grown.held,¬ y.2.1.root<no 0:=λy hy hr=>by let⟨q1,q2,q3,q4⟩:=q.br _ hi;let⟨b',w1,w2,w3⟩:=Yo hy;have:=g _ hi _ _ _ (Zr q3.nd w1) hr;rw[q2]at w3;lia
abbrev S1(no:Int->Int)(X:Int->Br):Prop:=(X 0).label=⟨no 0,0,dg⟩/\no 0<=(X 1).label.root
def HU(q:QB no mo bt X)(lo:no 0<no 1)(r:Rnd bt X Y)(g:Gh (no 0) k X)(hk:mo<=k+1):S1 no Y:=by
 let⟨q1,q2,q3,q4⟩:=q.br 0<|.inl rfl;let⟨r1,r2,r3,r4⟩:=q.br 1<|.inr rfl;refine⟨?_,?_⟩
 .rw[(r.same 0<|.inl rfl).2.2,(Y9<|X 0).2.1,NY q3.grown λy hy=>by rw[show(X 0).grown.number=no 0 from q1];exact Bo q g hk (.inl rfl) y hy];rw[show(X 0).grown.number=no 0 from q1]
 .rw[(r.same 1<|.inr rfl).2.2,(Y9<|X 1).2.1];cases e:(Zq (X 1).grown).up with
  |none =>rw[Jg e];show no 0<=(X 1).number;lia
  |some u =>let⟨m,b,h1,h2,h3,_⟩:=Wh r3.grown e;have:=Bo q g hk (.inr rfl) _ h1;rw[h3];dsimp only at this;lia
def FN(r:Rnd bt X Y):Fsh bt Y:=by
 intro i hi p l a hl;let⟨j0,_,_⟩:=XA hi;let⟨s1,s2,s3⟩:=r.same _ j0;rw[r.held i hi p]at hl;split at hl
 .rename_i hp;cases hl;refine⟨hp,?_,?_,?_,?_,λe=>?_⟩
  .rw[s1,s2,<-(Y9<|X<|1 - i).2.2];rfl
  .rw[s3];rfl
  .rw[s3];rfl
  .rw[s3];rfl
  .rw[s3]at e;show Z4 (X<|1 - i).told=0;unfold Z4;rw[e]
 .cases hl
def Hi(r:Rnd bt X Y):All bt Y:=λi hi p hp=>by rw[r.held i hi p,fm hp];rfl
abbrev S2(no:Int->Int)(c p:Int)(X:Int->Br):Prop:=(X 0).label=⟨no 0,0,dg⟩/\(X 1).label=⟨no 0,c,df (p,((X 0).life,(X 0).version))⟩/\∀q l a,(X 0).held.lookup q=df (l,a)->a=2
def UY(q:QB no mo bt X)(f:Fsh bt X)(r:Rnd bt X Y)(h0:(X 0).label=⟨no 0,0,dg⟩)(h1:no 0<=(X 1).label.root):(X 0).told=(X 0).grown/\(Y 0).label=⟨no 0,0,dg⟩/\(Y 0).life=(X 0).life/\(Y 0).version=(X 0).version:=by
 let⟨q1,q2,q3,q4⟩:=q.br 0<|.inl rfl;let⟨s1,s2,s3⟩:=r.same 0<|.inl rfl;have e:Zq (X 0).grown=(X 0).label:=by rw[h0,NY q3.grown λy hy=>?_,show(X 0).grown.number=no 0 from q1];let⟨b',w1,w2,w3⟩:=Yo hy;let⟨_,_,z,_⟩:=f 0 (.inl rfl) _ _ _<|Zr q3.nd w1;rw[show(X 0).grown.number=no 0 from q1,z];show ¬ (X 1).label.root<no 0;lia
 have t:(X 0).told=(X 0).grown:=fm e;refine⟨t,by rw[s3,t];exact h0,s1,by rw[s2,t];rfl⟩
def EW(q:QB no mo bt X)(lo:no 0<no 1)(hm:2<=mo)(f:Fsh bt X)(al:All bt X)(r:Rnd bt X Y)(h:S1 no X)(hb:XC [c,p]<|bt.map λq=>[q.2,q.1])(nd:(bt.map (·.1)).Nodup):S2 no c p Y:=by
 let⟨h0,h1⟩:=h;let⟨t0,g0,g1,g2⟩:=UY q f r h0 h1;let⟨q1,q2,q3,q4⟩:=q.br 1<|.inr rfl;let⟨s1,s2,s3⟩:=r.same 1<|.inr rfl;let⟨f1,f4,f6⟩:=Y9<|X 1;have row:∀y∈(X 1).grown.held,∃c',(y.1,c')∈bt/\XO (X 1).ties y=[no 0,0+c',no 0,y.1]/\y.2.1.st=((X 0).life,(X 0).version)/\y.2.2=1:=λy hy=>by let⟨b',w1,w2,w3⟩:=Yo hy;let⟨z0,z1,z2,z3,_,z5⟩:=f 1 (.inr rfl) _ _ _<|Zr q3.nd w1;let⟨c',hc⟩:=Ì.mp z0;have z5:=z5 (by show(X 0).label.up=dg;rw[h0]);refine⟨c',Zd hc,?_,z1,by lia⟩;unfold XO Ja;rw[q4,hc,z2,z3];show [(X 0).label.root,(X 0).label.cost+c',no 0,y.1]=_;rw[h0]
 let⟨y0,hy0,e0⟩:=Ð.mp hb.1;let⟨p0,c0⟩:=y0;have e1:c0=c:=(ŭ e0).1;have e2:p0=p:=(ŭ (ŭ e0).2).1;subst e1 e2;have hp:bt.lookup p0=df c0:=Zr nd hy0;let⟨⟨l,a⟩,hl⟩:=Ì.mp (al 1 (.inr rfl) p0<|by rw[hp];rfl);have ha:a=0:=(f 1 (.inr rfl) _ _ _ hl).2.2.2.2.2 (by show(X 0).label.up=dg;rw[h0]);subst ha;have aA:(p0,(l,(0:Int)+1))∈(X 1).grown.held:=Mu (Zd hl) (by rw[q2];lia);have lx:∀c' p',d7 [no 0,0+c',no 0,p'] [no 0,0+c0,no 0,p0]=d7 [c',p'] [c0,p0]:=λc' p'=>by
  simp![d7,if_true];by_cases z:c'=c0
  .simp[z]
  .have:¬ 0+c'=0+c0:=by lia
   simp[z,this]
 have lab:Zq (X 1).grown=⟨no 0,c0,df (p0,((X 0).life,(X 0).version))⟩:=by
  unfold Zq;have nm:(X 1).grown.number=no 1:=q1;rw[nm];have t1:[no 0,0+c0,no 0,p0]∈XI (X 1).grown.ties (X 1).grown.held:=by
   let⟨c',bo,hr,_⟩:=row _ aA;have:c'=c0:=by have:=Zr nd bo;rw[hp]at this;exact(ë this).symm
   subst this;exact Ð.mpr ⟨_,aA,hr⟩
  cases e:ZM (no 1) (XI (X 1).grown.ties (X 1).grown.held)with
  |none=>exact fA lo<|UP e _ t1
  |some m =>
   have bl:=W1 e;let⟨y,hy,hm1⟩:=Ð.mp (í.mp bl.1).1;let⟨c',bo,hr,ű,_⟩:=row y hy;have em:m=[no 0,0+c',no 0,y.1]:=hm1.symm.trans hr;have le1:d7 [no 0,0+c0,no 0,p0] m=di:=bl.2 _<|í.mpr ⟨t1,fw lo⟩;have le2:d7 m [no 0,0+c0,no 0,p0]=di:=by rw[em,lx];exact hb.2 _<|Ð.mpr ⟨_,bo,rfl⟩
   have eq:=lex_eq le2 le1;rw[eq];show(⟨no 0,0+c0,df (p0,XG (X 1).grown.held p0)⟩:Lab)=_;unfold XG;rw[Zr q3.grown.nd aA,Int.zero_add];let⟨_,_,_,ű,_⟩:=row _ aA;rw[<-ű];rfl
 refine⟨g0,?_,λu l' a' hu=>?_⟩
 .rw[s3,f4,lab,g1,g2]
 .rw[r.held 0 (.inl rfl) u]at hu;split at hu
  .cases hu;show Z4 (X 1).told=2;unfold Z4;rw[f4,lab];dsimp only;rw[f1,Zr q3.grown.nd aA];rfl
  .cases hu
abbrev S3(no:Int->Int)(c p:Int)(X:Int->Br):Prop:=S2 no c p X/\∃l a,(X 1).held.lookup p=df (l,a)/\l.agrees=df ((X 1).life,(X 1).version)
def Lx(q:QB no mo bt X)(lo:no 0<no 1)(hm:4<=mo)(f:Fsh bt X)(al:All bt X)(r:Rnd bt X Y)(h:S2 no c p X)(hb:XC [c,p]<|bt.map λq=>[q.2,q.1])(nd:(bt.map (·.1)).Nodup):S3 no c p Y:=by
 let⟨h0,h1,h2⟩:=h;have hr:no 0<=(X 1).label.root:=by rw[h1];exact cj _
 have y2:=EW q lo (by lia) f al r ⟨h0,hr⟩ hb nd;let⟨t0,g0,g1,g2⟩:=UY q f r h0 hr;let⟨s1,s2,s3⟩:=r.same 1<|.inr rfl;let⟨q1,q2,q3,q4⟩:=q.br 0<|.inl rfl;have el:Zq (X 1).grown=(X 1).label:=by rw[<-(Y9<|X 1).2.1,<-s3,y2.2.1,h1,g1,g2]
 have t1:(X 1).told=(X 1).grown:=fm el;let⟨y0,hy0,e0⟩:=Ð.mp hb.1;have e2:y0.1=p:=(ŭ (ŭ e0).2).1;have hp:(bt.lookup p).isSome=dh:=by rw[<-e2,Zr nd (k:=y0.1) (v:=y0.2) hy0];rfl
 let⟨⟨l,a⟩,hl⟩:=Ì.mp<|al 0 (.inl rfl) p hp;have ha:=h2 _ _ _ hl;subst ha;let⟨_,z1,_,_,z4,_⟩:=f 0 (.inl rfl) _ _ _ hl;have aA:(p,(l,(2:Int)+1))∈(X 0).grown.held:=Mu (Zd hl) (by rw[q2];lia);refine⟨y2,Zh (X 0).told p,_,by rw[r.held 1 (.inr rfl) p,fm hp];rfl,?_⟩;show(if Xi (X 0).told.label.up p then dg else if ZG (X 0).told p then df (XG (X 0).told.held p)else dg)=_;rw[t0];have eu:Xi (X 0).grown.label.up p=di:=by show Xi (X 0).label.up p=di;rw[h0];rfl
 have er:ZG (X 0).grown p=dh:=by unfold ZG;rw[Zr q3.grown.nd aA];refine fw ?_;show l.rests=df ((X 0).life,(X 0).version);rw[z4];show(if Xi (X 1).label.up p then(X 1).label.up.map (·.2)else dg)=_;rw[h1];show(if fB (p=p)then _ else _)=_;rw[fw rfl];rfl
 rw[eu,er];show df (XG (X 0).grown.held p)=_;unfold XG;rw[Zr q3.grown.nd aA];show df l.st=_;rw[z1,s1,s2,t1];rfl
def Ej(q:QB no mo bt X)(f:Fsh bt X)(al:All bt X)(h:S3 no c p X){u:Int}(hu:(bt.lookup u).isSome=dh):Zf (X 0) u=(if u=p then "parent" else "shut")/\Zf (X 1) u=if u=p then "child" else "shut":=by
 let⟨⟨h0,h1,h2⟩,l1,a1,hl1,hg⟩:=h;let⟨⟨l,a⟩,hl⟩:=Ì.mp<|al 0 (.inl rfl) u hu;let⟨⟨m,b⟩,hm⟩:=Ì.mp<|al 1 (.inr rfl) u hu;let⟨_,_,_,_,z4,_⟩:=f 0 (.inl rfl) _ _ _ hl;let⟨_,w1,_,_,w4,_⟩:=f 1 (.inr rfl) _ _ _ hm
 replace z4:l.rests=(if Xi (X 1).label.up u then(X 1).label.up.map (·.2)else dg):=z4
 replace w4:m.rests=(if Xi (X 0).label.up u then(X 0).label.up.map (·.2)else dg):=w4
 replace w1:m.st=((X 0).life,(X 0).version):=w1
 have ts:∀i,i=0\/i=1->((X i).ties.lookup u).isSome=dh:=λi hi=>by rw[(q.br i hi).2.2.2,ŀ];exact hu
 refine⟨?_,?_⟩
 .unfold Zf;rw[fm<|ts 0<|.inl rfl,h0];show(if di=dh then _ else if ZG (X 0) u=dh then "parent" else "shut")=_;rw[fo<|by decide];have er:ZG (X 0) u=fB (u=p):=by
   unfold ZG;rw[hl];show fB (l.rests=df ((X 0).life,(X 0).version))=_;refine decide_eq_decide.mpr ?_;rw[z4,h1];show(if fB (u=p)=dh then df ((X 0).life,(X 0).version)else dg)=df ((X 0).life,(X 0).version)↔_;by_cases e:u=p<;>simp[e]
  rw[er];by_cases e:u=p<;>simp[e]
 .unfold Zf;rw[fm<|ts 1<|.inr rfl,h1];show(if fB (u=p)=dh then(if Y8 (X 1) u=dh then "child" else "shut")else if ZG (X 1) u=dh then "parent" else "shut")=_;by_cases e:u=p
  .subst e;rw[hl1]at hm;cases hm;have:Y8 (X 1) u=dh:=by
    unfold Y8;rw[hl1];show(if l1.agrees=df ((X 1).life,(X 1).version)then fB ((X 1).label.up.map (·.2)=df l1.st)else di)=dh;rw[fm hg,h1,w1];exact fw rfl
   rw[this];simp
  .have:ZG (X 1) u=di:=by
    unfold ZG;rw[hm];show fB (m.rests=df ((X 1).life,(X 1).version))=di;refine ft ?_;rw[w4,h0];exact λz=>by cases z
   rw[this];simp[e]
structure Stg(no:Int->Int)(mo:Int)(bt:List<|Int×Int)(c p n:Int)(X:Int->Br):Prop where
 qb:QB no mo bt X
 gh:Gh (no 0) (2*n) X
 fs:1<=n->Fsh bt X/\All bt X
 s1:mo<=2*n - 1->S1 no X
 s2:mo<=2*n - 3->S2 no c p X
 s3:mo<=2*n - 5->S3 no c p X
def Stg.next{n:Int}(lo:no 0<no 1)(hm:4<=mo)(hb:XC [c,p]<|bt.map λq=>[q.2,q.1])(nd:(bt.map (·.1)).Nodup)(s:Stg no mo bt c p n X)(r:Rnd bt X Y)(q:QB no mo bt Y):Stg no mo bt c p (n+1) Y:=by
 refine⟨q,?_,λ_=>⟨FN r,Hi r⟩,λh=>?_,λh=>?_,λh=>?_⟩
 .have:=Gh.next s.qb lo r s.gh
  rwa [show 2*(n+1)=2*n+2 by lia]
 .exact HU s.qb lo r s.gh (by lia)
 .obtain⟨f,al⟩:=s.fs (by lia);exact EW s.qb lo (by lia) f al r (s.s1<|by lia) hb nd
 .obtain⟨f,al⟩:=s.fs (by lia);exact Lx s.qb lo hm f al r (s.s2<|by lia) hb nd
end
noncomputable abbrev Mem:=List<|Ad×Ob
structure WL(h:Hs)(l:Mem):Prop where
 nd:(l.map (·.1)).Nodup
 at_:∀p∈l,h p.1=df p.2
abbrev Fr(h:Hs)(l:Mem)(g:Hs)(m:Mem):Prop:=∀a o,a∉l.map (·.1)->h a=df o->g a=df o/\a∉m.map (·.1)
section
variable {h g k:Hs}{l m n:Mem}
def WL.get(x:WL h l)(j:Nat)(e:l[j]?=df (a,o)):h a=df o:=x.at_ _ (å e)
def WL.ne(x:WL h l)(i j:Nat)(ei:l[i]?=df (a,o))(ej:l[j]?=df (b,u))(n:i≠j):a≠b:=by
 have e1:(l.map (·.1))[i]?=df a:=by rw[ã,ei];rfl
 have e2:(l.map (·.1))[j]?=df b:=by rw[ã,ej];rfl
 let⟨h1,rfl⟩:=Ò.mp e1;let⟨h2,rfl⟩:=Ò.mp e2;exact λz=>n<|(List.getElem_inj x.nd).mp z
def WL.ext(x:WL h l)(e:Ext h g):WL g l:=⟨x.nd,λp hp=>e.get<|x.at_ p hp⟩
def WL.new(x:WL h l)(e:h p=dg):p∉l.map (·.1):=λz=>by let⟨q,hq,rfl⟩:=Ð.mp z;have:=x.at_ q hq;rw[e]at this;cases this
def WL.exb(x:WL h l)(n:w∉l.map (·.1))(e:ExtB w h g):WL g l:=⟨x.nd,λp hp=>e.get (λz=>n<|z▸Ú hp)<|x.at_ p hp⟩
def Fr.refl:Fr h l h l:=λ_ _ n e=>⟨e,n⟩
def Fr.trans(a:Fr h l g m)(b:Fr g m k n):Fr h l k n:=λc o nc e=>b c o (a c o nc e).2 (a c o nc e).1
def Fr.ext(e:Ext h g):Fr h l g l:=λ_ _ n z=>⟨e.get z,n⟩
def Fr.get(f:Fr h l g m)(n:a∉l.map (·.1))(e:h a=df o):g a=df o:=(f a o n e).1
def Fr.out(f:Fr h l g m)(n:a∉l.map (·.1))(e:h a=df o):a∉m.map (·.1):=(f a o n e).2
variable {Y:Mem}
def WL.repl{P U V:Mem}(x:WL h<|P++(U++Y))(nd:(V.map (·.1)).Nodup)(at_:∀p∈V,g p.1=df p.2)(keep:∀a o,a∉U.map (·.1)->h a=df o->g a=df o)(new:∀a∈V.map (·.1),a∈U.map (·.1)\/h a=dg):WL g (P++(V++Y))/\Fr h (P++(U++Y)) g (P++(V++Y)):=by
 have nd0:=x.nd;simp![â,ø]at nd0;let⟨n1,⟨n2,n3,n4⟩,n5⟩:=nd0;have hP:∀p∈P,p.1∉U.map (·.1):=λp hp z=>n5 p.1 (Ú hp) p.1 (õ _ z) rfl;have hY:∀p∈Y,p.1∉U.map (·.1):=λp hp z=>n4 p.1 z p.1 (Ú hp) rfl;have aP:∀p∈P,h p.1=df p.2:=λp hp=>x.at_ p<|õ _ hp;have aY:∀p∈Y,h p.1=df p.2:=λp hp=>x.at_ p<|Í _<|Í _ hp;have fr:∀(b:Ad) (L:Mem),(∀p∈L,p.1∉U.map (·.1))->(∀p∈L,h p.1=df p.2)->b∈V.map (·.1)->b∉L.map (·.1):=λb L c1 c2 hb z=>by
  let⟨q,hq,rfl⟩:=Ð.mp z;rcases new _ hb with e|e
  .exact c1 q hq e
  .have:=c2 q hq;rw[e]at this;cases this
 refine⟨⟨?_,λp hp=>?_⟩,λa o na e=>?_⟩
 .simp![â,ø];refine⟨n1,⟨nd,n3,λa ha b hb e=>?_⟩,λa ha b hb e=>?_⟩
  .exact fr a Y hY aY ha<|e▸hb
  .rcases æ.mp hb with hb|hb
   .exact fr b P hP aP hb<|e▸ha
   .exact n5 a ha b (Í _ hb) e
 .rcases æ.mp hp with hp|hp
  .exact keep _ _ (hP p hp)<|aP p hp
  .rcases æ.mp hp with hp|hp
   .exact at_ p hp
   .exact keep _ _ (hY p hp)<|aY p hp
 .simp![â,æ,not_or]at na;refine⟨keep a o na.2.1 e,?_⟩;simp![â,æ,not_or];refine⟨na.1,λz=>?_,na.2.2⟩;rcases new a z with q|q
  .exact na.2.1 q
  .rw[e]at q;cases q
def WL.one{P:Mem}(x:WL h<|P++([(a,o)]++Y)):WL (upd h a u) (P++([(a,u)]++Y))/\Fr h (P++([(a,o)]++Y)) (upd h a u) (P++([(a,u)]++Y)) :=
 x.repl (by simp) (λp hp=>by rw[û.mp hp];exact dm) (λb v nb e=>by rw[dj<|by simpa using nb];exact e) λb hb=>.inl hb
end
def WL.app{l m:Mem}(x:WL h<|l++m):WL h l:=⟨(ø.mp<|by rw[<-â];exact x.nd).1,λp hp=>x.at_ p<|õ _ hp⟩
variable {Y:Mem}
def WL.more{P:Mem}(x:WL h<|P++Y)(k:∀p∈P++Y,g p.1=df p.2)(hd:h d=dg)(e:g d=df o):WL g<|P++(d,o)::Y:=by
 have n:=x.new hd;have nd:=x.nd;simp only[â,æ,not_or]at n nd;refine⟨?_,λp hp=>?_⟩
 .simp![â,È];rw[ø]at nd ⊢;refine⟨nd.1,Ā.mpr ⟨n.2,nd.2.1⟩,λa ha b hb e=>?_⟩;rcases Æ.mp hb with z|hb
  .exact n.1 (by rw[<-z,<-e];exact ha)
  .exact nd.2.2 a ha b hb e
 .rcases æ.mp hp with hp|hp
  .exact k p<|õ _ hp
  .rcases Æ.mp hp with rfl|hp
   .exact e
   .exact k p<|Í _ hp
structure A21 where
 s:Ad
 nu:Ad
 li:Ad
 be:Ad
 fl:Ad
 f0:Ad
 f1:Ad
 dn:Ad
 ro:Ad
 bl:Ad
 b:Int->Ad
 t:Int->Ad
 d:Int->Ad
abbrev rdV(r:Int×Int×L):Val:=.tup [.int r.1,.int r.2.1,r.2.2.v]
abbrev stV(A:A21)(mo:Int):List<|Val×Val:=[(.str "numbers",.ref A.nu),(.str "lives",.ref A.li),(.str "most",.int mo),(.str "between",.ref A.be),(.str "far",.ref A.fl),(.str "fallen",.ref A.dn),(.str "road",.ref A.ro),(.str "bridges",.ref A.bl)]
abbrev brM(b t d:Ad)(B:Br):Mem:=[(b,.ins "Bridge" [("number",.int B.number),("life",.int B.life),("age_let_go",.int B.most),("ties_by_place",.ref t),("held_by_place",.ref d),("label_now",B.label.v),("version",.int B.version),("ticks_had",.int B.count)]),(t,.dct<|Zc Zt B.ties),(d,.dct<|Zc hdV B.held)]
abbrev XN(A:A21)(W:TW):Mem:=[(A.s,.dct<|stV A W.mo),(A.nu,.lst [.int<|W.no 0,.int<|W.no 1]),(A.li,.lst [.int<|W.lv 0,.int<|W.lv 1]),(A.be,.dct<|Zc Val.int W.bt),(A.fl,.lst [.ref A.f0,.ref A.f1]),(A.f0,.dct<|Zc Zt<|W.fa 0),(A.f1,.dct<|Zc Zt<|W.fa 1),(A.dn,.lst<|W.dn.map Val.int),(A.ro,.lst<|W.rd.map rdV)]
abbrev mem(A:A21)(W:TW):Mem:=XN A W++([(A.bl,.lst [.ref<|A.b 0,.ref<|A.b 1])]++(brM (A.b 0) (A.t 0) (A.d 0) (W.br 0)++brM (A.b 1) (A.t 1) (A.d 1) (W.br 1)))
section
variable {h g:Hs}{A:A21}{W:TW}{i:Int}
def WL.br(x:WL h<|mem A W)(hi:i=0\/i=1):dD h (A.b i) (A.t i) (A.d i)<|W.br i:=by
 rcases hi with rfl|rfl
 .exact⟨x.get 10 rfl,x.get 11 rfl,x.get 12 rfl,x.ne 11 12 rfl rfl<|by decide⟩
 .exact⟨x.get 13 rfl,x.get 14 rfl,x.get 15 rfl,x.ne 14 15 rfl rfl<|by decide⟩
def WL.setRd(x:WL h<|mem A W)(rs:List<|Int×Int×L):WL (upd h A.ro<|.lst<|rs.map rdV) (mem A {W with rd:=rs})/\Fr h (mem A W) (upd h A.ro<|.lst<|rs.map rdV) (mem A {W with rd:=rs}) :=
 WL.one (P:=(XN A W).take 8) (Y:=[(A.bl,.lst [.ref<|A.b 0,.ref<|A.b 1])]++(brM (A.b 0) (A.t 0) (A.d 0) (W.br 0)++brM (A.b 1) (A.t 1) (A.d 1) (W.br 1))) x
def WL.setDn(x:WL h<|mem A W)(ns:List Int):WL (upd h A.dn<|.lst<|ns.map Val.int) (mem A {W with dn:=ns})/\Fr h (mem A W) (upd h A.dn<|.lst<|ns.map Val.int) (mem A {W with dn:=ns}) :=
 WL.one (P:=(XN A W).take 7) (Y:=[(A.ro,.lst<|W.rd.map rdV)]++([(A.bl,.lst [.ref<|A.b 0,.ref<|A.b 1])]++(brM (A.b 0) (A.t 0) (A.d 0) (W.br 0)++brM (A.b 1) (A.t 1) (A.d 1) (W.br 1)))) x
def WL.setLv(x:WL h<|mem A W)(f:Int->Int):WL (upd h A.li<|.lst [.int<|f 0,.int<|f 1]) (mem A {W with lv:=f})/\Fr h (mem A W) (upd h A.li<|.lst [.int<|f 0,.int<|f 1]) (mem A {W with lv:=f}) :=
 WL.one (P:=(XN A W).take 2) (Y:=(XN A W).drop 3++([(A.bl,.lst [.ref<|A.b 0,.ref<|A.b 1])]++(brM (A.b 0) (A.t 0) (A.d 0) (W.br 0)++brM (A.b 1) (A.t 1) (A.d 1) (W.br 1)))) x
def WL.setBr(x:WL h<|mem A W)(hi:i=0\/i=1)(y:dD g (A.b i) t d B)(e:Ex [A.b i,A.t i,A.d i] h g)(ht:t=A.t i\/h t=dg)(hd:d=A.d i\/h d=dg) :
  WL g (mem {A with t:=up1 A.t i t,d:=up1 A.d i d} {W with br:=up1 W.br i B})/\Fr h (mem A W) g (mem {A with t:=up1 A.t i t,d:=up1 A.d i d} {W with br:=up1 W.br i B})/\∀a,a∉(mem A W).map (·.1)->a≠t->a≠d->a∉(mem {A with t:=up1 A.t i t,d:=up1 A.d i d} {W with br:=up1 W.br i B}).map (·.1):=by
 have n1:=XE y.ins y.ties nofun;have n2:=XE y.ins y.held nofun;have nd:((brM (A.b i) t d B).map (·.1)).Nodup:=by simp[brM,n1,n2,y.ne]
 have at_:∀p∈brM (A.b i) t d B,g p.1=df p.2:=λp hp=>by
  simp![brM,Æ,Õ,or_false]at hp;rcases hp with rfl|rfl|rfl
  .exact y.ins
  .exact y.ties
  .exact y.held
 have kp:∀a o,a∉(brM (A.b i) (A.t i) (A.d i)<|W.br i).map (·.1)->h a=df o->g a=df o:=λa o na z=>e.get na z;have nw:∀a∈(brM (A.b i) t d B).map (·.1),a∈(brM (A.b i) (A.t i) (A.d i)<|W.br i).map (·.1)\/h a=dg:=λa ha=>by
  simp only[brM,È,đ,Æ,Õ,or_false]at ha ⊢;rcases ha with rfl|rfl|rfl
  .exact .inl<|.inl rfl
  .exact ht.imp (λz=>.inr<|.inl z) id
  .exact hd.imp (λz=>.inr<|.inr z) id
 have out:∀(P Y:Mem) (a:Ad),a∉(P++(brM (A.b i) (A.t i) (A.d i) (W.br i)++Y)).map (·.1)->a≠t->a≠d->a∉(P++(brM (A.b i) t d B++Y)).map (·.1):=λP Y a h1 h2 h3=>by simp only[brM,â,È,đ,æ,Æ,Õ,or_false,not_or]at h1 ⊢;exact⟨h1.1,⟨h1.2.1.1,h2,h3⟩,h1.2.2⟩
 rcases hi with rfl|rfl
 .obtain⟨a,b⟩:=WL.repl (P:=XN A W++[(A.bl,.lst [.ref<|A.b 0,.ref<|A.b 1])]) (Y:=brM (A.b 1) (A.t 1) (A.d 1)<|W.br 1) x nd at_ kp nw;exact⟨a,b,out (XN A W++[(A.bl,.lst [.ref<|A.b 0,.ref<|A.b 1])])<|brM (A.b 1) (A.t 1) (A.d 1)<|W.br 1⟩
 .obtain⟨a,b⟩:=WL.repl (P:=XN A W++([(A.bl,.lst [.ref<|A.b 0,.ref<|A.b 1])]++brM (A.b 0) (A.t 0) (A.d 0) (W.br 0))) (Y:=[]) x nd at_ kp nw;exact⟨a,b,out (XN A W++([(A.bl,.lst [.ref<|A.b 0,.ref<|A.b 1])]++brM (A.b 0) (A.t 0) (A.d 0) (W.br 0))) []⟩
def Well.fr{l m:Mem}(x:Well h w)(n:w∉l.map (·.1))(f:Fr h l g m):Well g w/\w∉m.map (·.1):=by let⟨a,b,e⟩:=x;exact⟨⟨a,b,f.get n e⟩,f.out n e⟩
end
structure Mo(h:Hs)(A:A21)(W:TW)(g:Hs)(B:A21)(V:TW):Prop where
 s:B.s=A.s
 wl:WL g<|mem B V
 fr:Fr h (mem A W) g<|mem B V
variable {A:A21} {C:A21} {W:TW} {U:TW}
def Mo.trans{k:Hs}{B:A21}{V:TW}(a:Mo h A W g B V)(b:Mo g B V k C U):Mo h A W k C U:=⟨b.s.trans a.s,b.wl,a.fr.trans b.fr⟩
def Mo.refl(x:WL h<|mem A W):Mo h A W h A W:=⟨rfl,x,Fr.refl⟩
abbrev TW.come(W:TW)(k:Nat):TW:=match W.rd[k]? with
 |some r=>if r.2.1∈W.dn then W.off k else(W.off k).hear r.1 r.2.1 r.2.2
 |none=>W
abbrev TW.comes:Nat->TW->TW
 |0,W=>W
 |n+1,W=>TW.comes n<|W.come 0
def ZO:∀(n:Nat) (W:TW),TW.comes (n+1) W=(TW.comes n W).come 0
 |0,_=>rfl
 |n+1,W=>ZO n<|W.come 0
abbrev TW.round(W:TW):TW:=TW.comes ((W.tick 0).tick 1).rd.length<|(W.tick 0).tick 1
structure Sv(W:TW):Prop where
 ok:∀i,i=0\/i=1->(W.br i).ok
 rd:∀r∈W.rd,r.1=0\/r.1=1
def WI{i:Int}(o:(W.br i).ok):(W.lets i).length<=16:=by unfold TW.lets;rw[Á];refine Ü (Ł _ _) ?_;unfold sortI;rw[ł,Á];exact o.tlen
def Sv.tick(s:Sv W){i:Int}(hi:i=0\/i=1):Sv<|W.tick i:=by
 refine⟨λj hj=>?_,λr hr=>?_⟩
 .show(up1 W.br i (W.br i).ticked j).ok;by_cases e:j=i
  .rw[e,up1_s];exact(s.ok i hi).ticked
  .rw[ZL e];exact s.ok j hj
 .rcases æ.mp hr with hr|hr
  .exact s.rd r hr
  .obtain⟨p,_,rfl⟩:=Ð.mp hr;exact(XA hi).1
def Sv.come(s:Sv W)(k:Nat):Sv<|W.come k:=by
 unfold TW.come;split
 .rename_i r hr;have o:Sv<|W.off k:=⟨s.ok,λq hq=>s.rd q<|ż hq⟩
  split
  .exact o
  .refine⟨λj hj=>?_,o.rd⟩;show(up1 W.br r.1 (Zk (W.br r.1) r.2.1 r.2.2) j).ok;by_cases e:j=r.1
   .rw[e,up1_s];exact(s.ok _<|by rw[<-e];exact hj).heard
   .rw[ZL e];exact s.ok j hj
 .exact s
def Kn{k:Nat}(h:k<W.rd.length):(W.come k).rd=W.rd.eraseIdx k:=by unfold TW.come;rw[Ï h];dsimp only;split<;>rfl
def at2{i:Int}(hi:i=0\/i=1){f:Int->Val}:atI [f 0,f 1] i=df (f i):=by rcases hi with rfl|rfl<;>rfl
section
variable {A:A21}{W:TW}{i:Int}
def Wq(x:WL h<|mem A W)(hi:i=0\/i=1)(ok:(W.br i).ok)(hR:W.rd.length<900000)(k:∀B g,Mo h A W g B (W.tick i)->Q .non g):wF P (n+5) "_law_tick" [.ref A.s,.int i] h Q X:=by
 have h0:=x.get 0 rfl;have h9:=x.get 9 rfl;have xb:=x.br hi;have aA:=xb.ins;refine ND ?_
 exists Zb h0 rfl (v:=.ref A.bl) rfl
 exists Zi h9 (at2 hi (f:=λj=>.ref<|A.b j))
 refine' Ec xb ok λp d' g hp hd y gp e np=>?_;let⟨x1,f1,o1⟩:=x.setBr hi y (e.sub<|by simp) (.inl rfl)<|.inr hd;have hpt:p≠A.t i:=(Za xb.ties hp).symm;have hpm:=o1 p (x.new hp) hpt np;generalize eA:({A with t:=up1 A.t i<|A.t i,d:=up1 A.d i d'}:A21)=A1 at x1 f1 hpm;have es:A1.s=A.s:=by rw[<-eA]
 rw[<-es];refine' Zm (λj e g'=>∃v2 v3,e=[df<|.ref A1.s,df<|.int i,v2,v3]/\Mo g A1 {W with br:=up1 W.br i (W.br i).ticked} g' A1 {W with br:=up1 W.br i (W.br i).ticked,rd:=W.rd++((((sortI ((W.br i).ties.map (·.1))).take j).filter λp=>(W.bt.lookup p).isSome).map λp=>(1 - i,p,Zh (W.br i).told p))}) ⟨dg,dg,rfl,?_⟩ ?_ ?_ ?_
 .rw[Ű,Β,đ,Ĉ];exact Mo.refl x1
 .rintro j e g' _ ⟨v2,v3,rfl,m⟩;exact lsE<|m.fr.get hpm gp
 .rintro j v e g' hv ⟨v2,v3,rfl,m⟩ K hK;let⟨q,hq,rfl⟩:=ZV hv;rw[show(W.br i).told.ties=(W.br i).ties from (Zu (W.br i).grown<|Zq (W.br i).grown).2.1]at hq;have x2:=m.wl;have a0:=x2.get 0 rfl;have a3:=x2.get 3 rfl;have a8:=x2.get 8 rfl;rw[Zx hq,ϋ,ĉ,Β]at hK
  exists Zb a0 rfl (v:=.ref A1.be) rfl
  refine IY a3 rfl ?_;rw[AB];refine' eR (λhc=>?_) (λhc=>?_)
  .rw[fm hc]at hK
   exists Zb a0 rfl (v:=.ref A1.ro) rfl
   refine' Yj a8 ?_ ?_
   .rw[Á,Þ,Á];have:(((sortI ((W.br i).ties.map (·.1))).take j).filter λp=>(W.bt.lookup p).isSome).length<=16:=by
     refine Ü (Ł _ _)<|Ü (İ _ _) ?_;unfold sortI;rw[ł,Á];exact ok.tlen
    unfold lim;lia
   .have z:=x2.setRd (W.rd++((((sortI ((W.br i).ties.map (·.1))).take j).filter λp=>(W.bt.lookup p).isSome)++[q]).map λp=>(1 - i,p,Zh (W.br i).told p));have ee:(W.rd++((((sortI ((W.br i).ties.map (·.1))).take j).filter λp=>(W.bt.lookup p).isSome)++[q]).map λp=>(1 - i,p,Zh (W.br i).told p)).map rdV=(W.rd++(((sortI ((W.br i).ties.map (·.1))).take j).filter λp=>(W.bt.lookup p).isSome).map λp=>(1 - i,p,Zh (W.br i).told p)).map rdV++[Val.tup [.int<|1 - i,.int q,(Zh (W.br i).told q).v]]:=by
     simp[rdV]
    rw[ee]at z;refine' hK _ _ ⟨_,_,rfl,m.trans ⟨rfl,z.1,z.2⟩⟩
  .rw[fo (by rw[hc];decide),Ĉ]at hK;refine' hK _ _ ⟨_,_,rfl,m⟩
 .rintro e g' ⟨v2,v3,rfl,m⟩;have hl:(Z0 (W.br i).told).length=(sortI ((W.br i).ties.map (·.1))).length:=by
   unfold Z0;rw[Á,show(W.br i).told.ties=(W.br i).ties from (Zu (W.br i).grown<|Zq (W.br i).grown).2.1]
  rw[hl,Ċ]at m;refine' k A1 g' ⟨es,m.wl,f1.trans m.fr⟩
def KR{k:Nat}{p:Int}{l:L}(x:WL h<|mem A W)(hr:W.rd[k]?=df (j,p,l))(hj:j=0\/j=1)(ok:(W.br j).ok)(hR:W.rd.length<900000)(q:∀B g,Mo h A W g B (W.come k)->Q .non g):wF P (n+3) "_law_come" [.ref A.s,.int (k:Nat)] h Q X:=by
 have h0:=x.get 0 rfl;have h8:=x.get 8 rfl;have hk:=(Ò.mp hr).1;unfold TW.come at q;rw[hr]at q;dsimp only at q;refine MW ?_
 exists Zb h0 rfl (v:=.ref A.ro) rfl
 refine' Wi (j:=k) (v:=rdV (j,p,l)) h8 (by lia) (by simp) (by rw[ã,hr];rfl) (by lia) ?_;rw[Yr];let⟨x1,f1⟩:=x.setRd<|W.rd.eraseIdx k;have g0:=x1.get 0 rfl;have g7:=x1.get 7 rfl;have g9:=x1.get 9 rfl;have xb:=x1.br hj;have aA:=xb.ins;generalize upd h A.ro (.lst<|(W.rd.eraseIdx k).map rdV)=g at x1 f1 g0 g7 g9 xb aA ⊢;unfold rdV
 exists Zb g0 rfl (v:=.ref A.dn) rfl
 refine dy (a:=!fB (p∈W.dn)) ?_ ?_
 .show(inV g (.int p)<|.ref A.dn).map _=_;unfold inV;simp![g7,Y0];rfl
 refine' Mc (λhc=>?_) (λhc=>?_)
 .rw[fo hc]at q
  exists Zb g0 rfl (v:=.ref A.bl) rfl
  exists Zi g9 (at2 hj (f:=λj=>.ref<|A.b j))
  refine' Oy xb ok λg2 y e=>?_;fail;let⟨x2,f2,_⟩:=x1.setBr hj y (e.sub<|by simp) (.inl rfl)<|.inl rfl;exact q {A with t:=up1 A.t j<|A.t j,d:=up1 A.d j (A.d j)} _ ⟨rfl,x2,f1.trans f2⟩
 .rw[fm hc]at q;refine' q A g ⟨rfl,x1,f1⟩
def J3(x:WL h<|mem A W)(s:Sv W)(hR:W.rd.length<800000)(k:∀B g,Mo h A W g B W.round->Q .non g):wF P (n+6) "_law_round" [.ref A.s] h Q X:=by
 refine K3 ?_;refine' Wq x (.inl rfl) (s.ok 0<|.inl rfl) (by lia) λB g m=>?_;have l0:=WI<|s.ok 0<|.inl rfl;have s0:=s.tick (i:=0)<|.inl rfl;have e0:(W.tick 0).rd.length=W.rd.length+(W.lets 0).length:=Þ;rw[<-m.s];refine' Wq m.wl (.inr rfl) (s0.ok 1<|.inr rfl) (by lia) λC g2 m2=>?_;have l1:=WI<|s0.ok 1<|.inr rfl;have s1:=s0.tick (i:=1)<|.inr rfl;have e1:((W.tick 0).tick 1).rd.length=(W.tick 0).rd.length+((W.tick 0).lets 1).length:=Þ;have m3:=m.trans m2;rw[<-m2.s];have a0:=m2.wl.get 0 rfl;have a8:=m2.wl.get 8 rfl
 exists Zb a0 rfl (v:=.ref C.ro) rfl
 fail;rw[Á];refine⟨⟨by lia,by lia⟩,?_⟩;unfold TW.round at k;rw[EI];refine Zm (λj e g'=>∃v1 B',e=[df<|.ref C.s,v1]/\Mo h A W g' B' (TW.comes j<|(W.tick 0).tick 1)/\Sv (TW.comes j<|(W.tick 0).tick 1)/\(TW.comes j<|(W.tick 0).tick 1).rd.length+j=((W.tick 0).tick 1).rd.length) ⟨dg,C,rfl,m3,s1,rfl⟩ (λ_ _ _ _ _=>trivial) ?_ ?_
 .rintro j v e g' hv ⟨v1,B',rfl,m4,s4,hl⟩ K hK;have hj:j<((W.tick 0).tick 1).rd.length:=by
   have:=(Ò.mp hv).1;simpa using this
  have hz:0<(TW.comes j<|(W.tick 0).tick 1).rd.length:=by lia
  have hr:=Ï hz;generalize eV:TW.comes j ((W.tick 0).tick 1)=V at m4 s4 hl hz hr;fail;rw[show C.s=B'.s from by rw[m4.s,m3.s]];have hm:=s4.rd _<|Š hz;refine KR (k:=0) m4.wl hr hm (s4.ok _ hm) (by lia) λB2 g5 m5=>?_;refine' hK _ _ ⟨_,B2,by rw[m4.s,m3.s],?_,?_,?_⟩
  .rw[ZO,eV];exact m4.trans m5
  .rw[ZO,eV];exact s4.come 0
  .rw[ZO,eV,Kn hz,ŉ hz];lia
 .rintro e g' ⟨v1,B',rfl,m4,_,_⟩;rw[Á,Ą]at m4;refine' k B' g' m4
end
structure TW.cs(W:TW):Prop where
 n0:0<=W.no 0
 n1:W.no 0<W.no 1
 n2:W.no 1<1000
 m0:8<=W.mo
 m1:W.mo<=200
 nb:(W.bt.map (·.1)).Nodup
 rb:∀q∈W.bt,0<=q.1/\q.1<16
 bn:W.bt≠[]
 nf:∀i,i=0\/i=1->((W.fa i).map (·.1)).Nodup
 rf:∀i,i=0\/i=1->∀q∈W.fa i,0<=q.1/\q.1<16/\W.bt.lookup q.1=dg
 nd:W.dn.Nodup
 db:∀p∈W.dn,(W.bt.lookup p).isSome=dh
structure TW.gd(W:TW):Prop where
 cs:W.cs
 br:∀i,i=0\/i=1->(W.br i).number=W.no i/\(W.br i).most=W.mo/\(W.br i).life=W.lv i/\(W.br i).ok
 td:∀i,i=0\/i=1->∀p,(W.bt.lookup p).isSome=dh->((W.br i).ties.lookup p).isSome=fB (p∉W.dn)
 tk:∀i,i=0\/i=1->∀q∈(W.br i).ties,(W.bt.lookup q.1).isSome=dh\/q.1∈(W.fa i).map (·.1)
def Ee(x:Ext h g)(e:h p=dg):Ext h<|upd g p o:=⟨λ{a u} z=>by rw[dj<|Za z e];exact x.get z⟩
def U7{st:Hs->Prop}{W:Val->Env->Hs->NQ->NQ->Prop}{N:NQ}{a b:Val}{env:Env}(s0:st h)(q:W a env h (λe g=>st g/\W b e g (λe2 g2=>st g2/\N e2 g2) N) N):wFor st W N [a,b] env h:=⟨s0,q⟩
abbrev OD(e:String):Prop:=e = "child"\/e = "parent"\/e = "shut"
def Jw{p:Int}(h:(B.ties.lookup p).isSome=dh):OD<|Zf B p:=by
 unfold Zf OD;rw[fm h];split
 .split
  .exact .inl rfl
  .exact .inr<|.inr rfl
 .split
  .exact .inr<|.inl rfl
  .exact .inr<|.inr rfl
section
variable {h:Hs}{KB:Bool->Prop}{q r:Ad}{a b c d s:String}{K:Val×Hs->Prop}
def Gj(he:OD s)(z:KB di):go (dL h .notin (.str s)<|.tup [.str "child",.str "parent",.str "shut"]) KB:=dy (by
  show(inV h (.str s)<|.tup [.str "child",.str "parent",.str "shut"]).map _=_
  unfold inV
  rcases he with rfl | rfl | rfl<;>simp[inL,dat,deep,Mf]) z
def GH(e:h q=df (.lst [.str a,.str b]))(z:KB<|fB (a=s)||fB (b=s)):go (dL h .isin (.str s)<|.ref q) KB:=dy (by
  show inV h (.str s) (.ref q)=_
  unfold inV
  simp![e]
  simp[inL,dat,deep,Mf]) z
def Hy(e1:h q=df (.lst [.str a,.str b]))(e2:h r=df (.lst [.str c,.str d]))(z:KB<|fB (a=c)&&fB (b=d)):go (dL h .eq (.ref q)<|.ref r) KB:=dy (by
  show eqV h (.ref q) (.ref r)=_
  unfold eqV deep
  simp[dat,e1,e2,D.eqv,D.eqvs,Mf]
  rfl) z
def Ov(e:h q=df (.lst [.str s,.str b]))(z:K (.int 0,h)):go (bmV h .lidx (.ref q) [.str s]) K:=dy (by
  show(dF<|h q).bind (bmLidx h [.str s] q)=_
  rw[lsE e]
  exact fm rfl) z
def NM(e:h q=df (.lst [.str a,.str s]))(n:a≠s)(z:K (.int 1,h)):go (bmV h .lidx (.ref q) [.str s]) K:=dy (by
  show(dF<|h q).bind (bmLidx h [.str s] q)=_
  rw[lsE e]
  show(if a=s then _ else if s=s then df (Val.int 1,h)else dg)=_
  rw[fo n,fm rfl]) z
end
section
variable {A:A21}{W:TW}{i p:Int}{K:His}{N:Nat}
def JE{mo:Int}{B0 B1:Br}(h0:h A.s=df (.dct<|stV A mo))(h9:h A.bl=df (.lst [.ref<|A.b 0,.ref<|A.b 1]))(x0:dD h (A.b 0) (A.t 0) (A.d 0) B0)(x1:dD h (A.b 1) (A.t 1) (A.d 1) B1)(k:∀q,h q=dg->Q (.ref q) (upd h q<|.lst [.str<|Zf B0 p,.str<|Zf B1 p])):wF P (n+4) "_law_ends" [.ref A.s,.int p] h Q X:=by
 have i0:=x0.ins;have i1:=x1.ins;refine NF ?_
 exists Zb h0 rfl (v:=.ref A.bl) rfl
 exists dy (lsE h9)
 refine dy rfl ?_
 exists B9 x0
 exists B9 x1
 refine' Ze λq hq=>k q hq
def Mp(x:WL h<|mem A W)(k:∀q,h q=dg->Q (.ref q) (upd h q<|.lst [.str<|Zf (W.br 0) p,.str<|Zf (W.br 1) p])):wF P (n+4) "_law_ends" [.ref A.s,.int p] h Q X:=JE (x.get 0 rfl) (x.get 9 rfl) (x.br<|.inl rfl) (x.br<|.inr rfl) k
def BU(x:WL h<|mem A W)(T:Two K N W)(g:W.gd)(hp:(W.bt.lookup p).isSome=dh)(k:∀g,Ext h g->Q (.bl dh) g):wF P (n+5) "_law_fits" [.ref A.s,.int p] h Q X:=by
 have h0:=x.get 0 rfl;refine Nw ?_;refine' Mp x λq hq=>?_;have e1:Ext h<|upd h q<|.lst [.str<|Zf (W.br 0) p,.str<|Zf (W.br 1) p]:=Ext.new hq;have eq:upd h q (.lst [.str<|Zf (W.br 0) p,.str<|Zf (W.br 1) p]) q=_:=dm;have x1:=x.ext e1;have a0:=x1.get 0 rfl;have a3:=x1.get 3 rfl;have a7:=x1.get 7 rfl;have a9:=x1.get 9 rfl;have b0:=x1.br<|.inl rfl;have b1:=x1.br<|.inr rfl;have i0:=b0.ins;have i1:=b1.ins
 replace k:∀g2,Ext (upd h q<|.lst [.str<|Zf (W.br 0) p,.str<|Zf (W.br 1) p]) g2->Q (.bl dh) g2:=λg2 e=>k g2<|e1.trans e
 generalize upd h q (.lst [.str<|Zf (W.br 0) p,.str<|Zf (W.br 1) p])=g1 at *
 exists Zb a0 rfl (v:=.ref A.dn) rfl
 refine dy (a:=fB (p∈W.dn)) ?_ ?_
 .show inV g1 (.int p) (.ref A.dn)=_;unfold inV;simp![a7,Y0]
 fail;have td0:=g.td 0 (.inl rfl) p hp;have td1:=g.td 1 (.inr rfl) p hp;refine eQ (λhc=>?_) λhc=>?_
 .rw[ft λz=>z hc]at td0 td1;have e0:Zf (W.br 0) p = "down":=fo (by rw[td0];decide);have e2:Zf (W.br 1) p = "down":=fo (by rw[td1];decide);rw[e0,e2]at eq;refine' Ze λr hr=>?_
  exists Hy ((Ext.new hr).get eq) dm
  fail;rw[fw rfl];exact k _<|Ext.new hr
 .rw[fw hc]at td0 td1;have c0:=Jw td0;have c1:=Jw td1;let⟨c,hbc⟩:=Ì.mp hp;let⟨f1,f2,f3⟩:=OB (i:=0) (j:=1) rfl rfl (T.br 0<|.inl rfl) (T.br 1<|.inr rfl) T.rest hbc;let⟨_,_,f4⟩:=OB (i:=1) (j:=0) rfl rfl (T.br 1<|.inr rfl) (T.br 0<|.inl rfl) T.rest hbc;generalize Zf (W.br 0) p=E0 at *;generalize Zf (W.br 1) p=E1 at *;refine' Zm (λj e g=>g=g1/\∃v,e=[df<|.ref A.s,df<|.int p,df<|.ref q,v,dg,dg]) ⟨rfl,dg,rfl⟩ (λ_ _ _ _ z=>by rw[z.1];exact lsE eq) ?_ ?_
  .rintro j v e g2 hv ⟨rfl,w,rfl⟩ M hM;obtain⟨s,hs,rfl⟩:∃s,OD s/\v=.str s:=by
    rcases Æ.mp (å hv)with z|z
    .exact⟨_,c0,z⟩
    .exact⟨_,c1,û.mp z⟩
   exists Gj hs
   walk_at "p";exact hM _ _ ⟨rfl,_,rfl⟩
  .rintro e g2 ⟨rfl,w,rfl⟩;refine' eQ (λhc=>?_) (λhc=>?_)
   .have es:E0 = "shut":=by
     subst hc;rcases c0 with z|z|z
     .exact fA ⟨z,z⟩ f1
     .exact fA ⟨z,z⟩ f2
     .exact z
    fail;rw[fw es];exact k _ Ext.refl
   .exists GH (s:="shut") eq
    refine' eR (λhs=>?_) (λhs=>?_)
    .refine' k _ Ext.refl
    .have hs:=Bool.or_eq_false_iff.mp hs;have s0:E0≠"shut":=of_decide_eq_false hs.1;have s1:E1≠"shut":=of_decide_eq_false hs.2;have two:(E0 = "child"/\E1 = "parent")\/(E0 = "parent"/\E1 = "child"):=by
      rcases c0 with z|z|z<;>rcases c1 with y|y|y
      .exact fA (z.trans y.symm) hc
      .exact .inl ⟨z,y⟩
      .exact fA y s1
      .exact .inr ⟨z,y⟩
      .exact fA (z.trans y.symm) hc
      .exact fA y s1
      .exact fA z s0
      .exact fA z s0
      .exact fA z s0
     rcases two with⟨rfl,rfl⟩|⟨rfl,rfl⟩
     .obtain⟨t1,t2⟩:=f3 rfl rfl
      exists Zb a0 rfl (v:=.ref A.bl) rfl
      exists Ov eq
      exists Ym b0
      exists Zb a0 rfl (v:=.ref A.bl) rfl
      refine' NM eq (by decide) ?_
      exists Ym b1
      fail;refine eN (fw t1) ?_
      exists Zb a0 rfl (v:=.ref A.be) rfl
      refine' Zb a3 rfl (by rw[Yn,hbc];rfl) ?_;fail;rw[fw t2];exact k _ Ext.refl
     .obtain⟨t1,t2⟩:=f4 rfl rfl
      exists Zb a0 rfl (v:=.ref A.bl) rfl
      refine' NM eq (by decide) ?_
      exists Ym b1
      exists Zb a0 rfl (v:=.ref A.bl) rfl
      exists Ov eq
      exists Ym b0
      fail;refine eN (fw t1) ?_
      exists Zb a0 rfl (v:=.ref A.be) rfl
      refine' Zb a3 rfl (by rw[Yn,hbc];rfl) ?_;fail;rw[fw t2];exact k _ Ext.refl
abbrev Cn1(B:Br)(ps:List Int)(c:Int):Prop:=0<=c/\(c=0\/(c=1/\∃q∈ps,Xi B.label.up q=dh))
def Bf(h:Zf B p = "child"):Xi B.label.up p=dh:=by let⟨t,q,e,_⟩:=YY h;rw[e];exact fw rfl
def Cn1.next(x:Cn1 B ps c)(hp:p∉ps):Cn1 B (ps++[p]) (c+if fB (Zf B p = "child")then 1 else 0):=by
 let⟨x0,x⟩:=x;by_cases e:Zf B p = "child"
 .have u:=Bf e;rw[fw e,fm rfl];rcases x with rfl|⟨rfl,q,hq,hu⟩
  .exact⟨by decide,.inr ⟨rfl,p,by simp,u⟩⟩
  .cases z:B.label.up with
   |none=>rw[z]at u;cases u
   |some w =>rw[z]at u hu;have a:p=w.1:=of_decide_eq_true u;have b:q=w.1:=of_decide_eq_true hu;exact fA hq (by rw[b,<-a];exact hp)
 .rw[ft e,fo (by decide),Int.add_zero];exact⟨x0,x.imp id λ⟨a,q,hq,hu⟩=>⟨a,q,by simp[hq],hu⟩⟩
def MQ{ns:List Int}(h:ns.Nodup):(sortI ns).Nodup:=by unfold sortI;exact(Ō _ _).nodup_iff.mpr h
def Ow(x:WL h<|mem A W)(T:Two K N W)(gd:W.gd)(k:∀g,Ext h g->Q (.bl dh) g):wF P (n+6) "_law_all_fit" [.ref A.s] h Q X:=by
 have h0:=x.get 0 rfl;refine Jm ?_;refine' Ze λc hc=>?_;have x1:=x.ext<|Ext.new (o:=.lst [.int 0,.int 0]) hc;have a0:=x1.get 0 rfl;have a3:=x1.get 3 rfl;have lb:W.bt.length<=16:=by
  have:=ZI (m:=16) gd.cs.nb λz hz=>by let⟨q,hq,rfl⟩:=Ð.mp hz;exact gd.cs.rb q hq
  simpa using this
 exists Zb a0 rfl (v:=.ref A.be) rfl
 refine' KK a3 (Oa _) (by rw[Á];lia) (Ze λr hr=>?_);have ec:upd h c (.lst [.int 0,.int 0]) c=df (.lst [.int 0,.int 0]):=dm;have hrc:c≠r:=Za ec hr;refine' Zm (λj e g=>Sm5 λv2 v3 v4 c0 c1=>Cj6 (e=[df<|.ref A.s,df<|.ref c,v2,v3,v4]) (Ext h g) (g c=df (.lst [.int c0,.int c1])) (g r=df (.lst ((sortI (W.bt.map (·.1))).map Val.int))) (Cn1 (W.br 0) ((sortI (W.bt.map (·.1))).take j) c0) (Cn1 (W.br 1) ((sortI (W.bt.map (·.1))).take j) c1)) ⟨dg,dg,dg,0,0,rfl,(Ext.new hc).trans<|Ext.new hr,by rw[dj hrc];exact ec,dm,⟨by decide,.inl rfl⟩,⟨by decide,.inl rfl⟩⟩ (λ_ _ _ _ ⟨_,_,_,_,_,_,_,_,e,_,_⟩=>lsE e) ?_ ?_
 .rintro j v e g hv ⟨v2,v3,v4,c0,c1,rfl,e1,eg,er,k0,k1⟩ M hM;let⟨p,hp,rfl⟩:=ZV hv;have hpm:p∈W.bt.map (·.1):=mem_sortI.mp<|å hp;let⟨y,hy⟩:=Zw hpm;have hps:(W.bt.lookup p).isSome=dh:=by rw[hy];rfl
  have hpn:p∉(sortI (W.bt.map (·.1))).take j:=by
   have:=Yv (f:=id) (by rw[List.map_id];exact MQ gd.cs.nb) hp
   rwa [List.map_id]at this
  have z0:=k0.next hpn;have z1:=k1.next hpn;rw[<-Zx hp]at z0 z1;refine' BU (x.ext e1) T gd hps λg2 e2=>?_;walk_at "p";refine Mp ((x.ext e1).ext e2) λq hq=>?_;have e3:Ext h<|upd g2 q<|.lst [.str<|Zf (W.br 0) p,.str<|Zf (W.br 1) p]:=(e1.trans e2).trans<|Ext.new hq;have cg:=(Ext.new (o:=.lst [.str<|Zf (W.br 0) p,.str<|Zf (W.br 1) p]) hq).get<|e2.get eg;have rg:=(Ext.new (o:=.lst [.str<|Zf (W.br 0) p,.str<|Zf (W.br 1) p]) hq).get<|e2.get er;have qg:upd g2 q (.lst [.str<|Zf (W.br 0) p,.str<|Zf (W.br 1) p]) q=df (.lst [.str<|Zf (W.br 0) p,.str<|Zf (W.br 1) p]):=dm;have ncq:q≠c:=(Za (e2.get eg) hq).symm;have nrc:r≠c:=hrc.symm;generalize upd g2 q (.lst [.str<|Zf (W.br 0) p,.str<|Zf (W.br 1) p])=g3 at e3 cg rg qg ⊢;refine' ⟨by decide,?_⟩;rw[show dY 0 2=[.int 0,.int 1] from rfl];refine U7 trivial ?_;refine' ⟨trivial,?_⟩;have q4:upd g3 c (.lst [.int (c0+if fB (Zf (W.br 0) p = "child")then 1 else 0),.int c1]) q=_:=upd_ne' ncq qg;refine' ⟨trivial,?_⟩;rw[dq];refine hM _ _ ⟨_,_,_,_,_,rfl,Ee e3 hc,dm,upd_ne' nrc rg,z0,z1⟩
 .rintro e g ⟨v2,v3,v4,c0,c1,rfl,e1,eg,er,k0,k1⟩
  exists mxL (x:=c0) (r:=[c1]) eg rfl
  fail;rw[fw]
  .exact k g e1
  .show(if c1 > c0 then c1 else c0)<2;have:=k0.2;have:=k1.2;split<;>lia
end
def WO(kvs:List<|Int×α)(k q:Int):(ZQ kvs k).lookup q=if q=k then dg else kvs.lookup q:=by
 induction kvs with
 |nil=>simp[ZQ]
 |cons p r ih =>
  unfold ZQ at ih ⊢;rw[ĉ,à];by_cases e:p.1=k
  .have:fB (p.1≠k)=di:=ft λz=>z e;rw[this];simp![ú,if_false];rw[ih];by_cases z:q=k
   .rw[fm z,fm z]
   .rw[fo z,fo z];have:(q==p.1)=di:=by simpa using λy:q=p.1=>z (y.trans e)
    rw[this]
  .have:fB (p.1≠k)=dh:=fw e;rw[this];simp![if_true];rw[à,ih];by_cases z:q=p.1
   .have:(q==p.1)=dh:=⇑z
    have n:¬ q=k:=by lia
    simp[this,n]
   .have:(q==p.1)=di:=⇑z
    simp[this]
def Nx(kvs:List<|Int×α)(k q:Int)(v:α):((Ys kvs k v).lookup q).isSome=(fB (q=k)||(kvs.lookup q).isSome):=by
 have hm:((Ys kvs k v).lookup q).isSome=dh↔q∈(Ys kvs k v).map (·.1):=⟨λh=>by
   let⟨x,hx⟩:=Ì.mp h
   exact Ú (f:=(·.1))<|Zd hx,λh=>by
   let⟨x,hx⟩:=Zw h
   rw[hx];rfl⟩
 have hk:(kvs.lookup q).isSome=dh↔q∈kvs.map (·.1):=⟨λh=>by
   let⟨x,hx⟩:=Ì.mp h
   exact Ú (f:=(·.1))<|Zd hx,λh=>by
   let⟨x,hx⟩:=Zw h
   rw[hx];rfl⟩
 rw[Bool.eq_iff_iff,hm,WW,ab,decide_eq_true_iff,hk];split
 .rename_i h;refine⟨.inr,λz=>?_⟩;rcases z with rfl|z
  .obtain⟨x,hx⟩:=Ì.mp h;exact Ú (f:=(·.1))<|Zd hx
  .exact z
 .rw[æ,û];exact Or.comm
abbrev dnB(B:Br)(ps:List Int):Br:=ps.foldl Z2 B
abbrev YC(f:Int->Int×Int)(B:Br)(ps:List Int):Br:=ps.foldl (λB p=>upB B p<|f p) B
structure Sm(B A:Br):Prop where
 n:A.number=B.number
 l:A.life=B.life
 m:A.most=B.most
 v:A.version=B.version
 b:A.label=B.label
 c:A.count=B.count
def Nv(ps:List Int)(o:B.ok):Sm B (dnB B ps)/\(dnB B ps).ok/\(∀q∈(dnB B ps).held,q∈B.held)/\(∀q∈(dnB B ps).ties,q∈B.ties)/\∀q,((dnB B ps).ties.lookup q).isSome=((B.ties.lookup q).isSome&&fB (q∉ps)):=by
 induction ps generalizing B with
 |nil=>exact⟨⟨rfl,rfl,rfl,rfl,rfl,rfl⟩,o,λ_ h=>h,λ_ h=>h,λq=>by simp[dnB]⟩
 |cons p ps ih =>
  let⟨s,o2,h,t,k⟩:=ih<|o.down p;refine⟨⟨s.n,s.l,s.m,s.v,s.b,s.c⟩,o2,λq hq=>ZK<|h q hq,λq hq=>ZK<|t q hq,λq=>?_⟩;have:=k q;show((dnB (Z2 B p) ps).ties.lookup q).isSome=_;rw[this];show(((ZQ B.ties p).lookup q).isSome&&fB (q∉ps))=_;rw[WO];by_cases e:q=p
  .simp[e]
  .simp[e]
def J7(B:Br)(p q:Int)(c:Int×Int):((upB B p c).ties.lookup q).isSome=(fB (q=p)||(B.ties.lookup q).isSome):=by
 unfold upB;split
 .rename_i h;by_cases e:q=p
  .rw[e,h];simp
  .simp[e]
 .exact Nx _ _ _ _
def Kh{p:Int}{c:Int×Int}{q:Int×(Int×Int)}(h:q∈(upB B p c).ties):q=(p,c)\/q∈B.ties:=by
 unfold upB at h;split at h
 .exact .inr h
 .exact Wo h
def Cq(B:Br)(p:Int)(c:Int×Int):Sm B (upB B p c)/\(upB B p c).held=B.held:=by unfold upB;split<;>exact⟨⟨rfl,rfl,rfl,rfl,rfl,rfl⟩,rfl⟩
def Sm.trans{A C:Br}(a:Sm A B)(b:Sm B C):Sm A C:=⟨b.n.trans a.n,b.l.trans a.l,b.m.trans a.m,b.v.trans a.v,b.b.trans a.b,b.c.trans a.c⟩
def Oh{f:Int->Int×Int}(ps:List Int)(o:B.ok)(hr:∀p∈ps,0<=p/\p<16):Sm B (YC f B ps)/\(YC f B ps).ok/\(YC f B ps).held=B.held/\(∀q∈(YC f B ps).ties,q∈B.ties\/∃p∈ps,q=(p,f p))/\∀q,((YC f B ps).ties.lookup q).isSome=((B.ties.lookup q).isSome||fB (q∈ps)):=by
 induction ps generalizing B with
 |nil=>exact⟨⟨rfl,rfl,rfl,rfl,rfl,rfl⟩,o,rfl,λ_ h=>.inl h,λq=>by simp[YC]⟩
 |cons p ps ih =>
  let⟨s,o2,h,t,k⟩:=ih (o.up (c:=f p) (hr p<|by simp).1 (hr p<|by simp).2) λq hq=>hr q (by simp[hq]);let⟨s1,h1⟩:=Cq B p<|f p;refine⟨s1.trans s,o2,h.trans h1,λq hq=>?_,λq=>?_⟩
  .rcases t q hq with z|⟨p2,hp,z⟩
   .rcases Kh z with z|z
    .exact .inr ⟨p,by simp,z⟩
    .exact .inl z
   .exact .inr ⟨p2,by simp[hp],z⟩
  .have:=k q;show((YC f (upB B p<|f p) ps).ties.lookup q).isSome=_;rw[this,J7];by_cases e:q=p
   .simp[e]
   .simp[e,Bool.or_assoc]
variable {N:Nat}
def Two.sm{K:His}{i:Int}(x:Two K N W)(hi:i=0\/i=1)(s:Sm (W.br i) B)(hh:∀q∈B.held,q∈(W.br i).held)(ht:∀q∈B.ties,∀c,W.bt.lookup q.1=df c->q.2=(W.no<|1 - i,c)):Two K N {W with br:=up1 W.br i B} :=
 x.put hi s.l s.c ((x.br i hi).less s.l s.v s.b hh ht)
abbrev TW.rs(W:TW)(i:Int):List Tie:=((W.bt.filter λq=>fB (q.1∉W.dn)).map λq=>(q.1,W.no<|1 - i,q.2))++(W.fa i).map λq=>(q.1,q.2)
def KG(g:W.cs):W.bt.length<=16:=by
 have:=ZI (m:=16) g.nb λz hz=>by let⟨q,hq,rfl⟩:=Ð.mp hz;exact g.rb q hq
 simpa using this
def Ky{i:Int}:(W.rs i).map (·.1)=(W.bt.filter λq=>fB (q.1∉W.dn)).map (·.1)++(W.fa i).map (·.1):=by unfold TW.rs;rw[â,ą,ą];rfl
def Ao{i:Int}(g:W.cs)(hi:i=0\/i=1):((W.rs i).map (·.1)).Nodup:=by rw[Ky,ø];refine⟨g.nb.sublist<|cf.map _,g.nf i hi,λa ha b hb e=>?_⟩;let⟨q,hq,rfl⟩:=Ð.mp ha;let⟨r,hr,rfl⟩:=Ð.mp hb;have h1:=(g.rf i hi r hr).2.2;rw[<-e,Zr g.nb (k:=q.1) (v:=q.2) (í.mp hq).1]at h1;cases h1
def EK{i:Int}(g:W.cs)(hi:i=0\/i=1):∀z∈(W.rs i).map (·.1),0<=z/\z<16:=λz hz=>by
 rw[Ky]at hz;rcases æ.mp hz with hz|hz
 .obtain⟨q,hq,rfl⟩:=Ð.mp hz;exact g.rb q (í.mp hq).1
 .obtain⟨q,hq,rfl⟩:=Ð.mp hz;exact⟨(g.rf i hi q hq).1,(g.rf i hi q hq).2.1⟩
def GZ{i:Int}(g:W.cs)(hi:i=0\/i=1):(W.rs i).length<=16:=by have:=ZI (m:=16) (Ao g hi)<|EK g hi;simpa using this
section
variable {A:A21}{W:TW}{i p:Int}{K:His}{N:Nat}
def WJ(x:WL h<|XN A W)(g:W.cs)(hi:i=0\/i=1)(k:∀b t d f,h b=dg->h t=dg->h d=dg->dD f b t d (XB (W.no i) (W.lv i) W.mo<|W.rs i)->Ext h f->Q (.ref b) f):wF P (n+2) "_law_begun" [.ref A.s,.int i] h Q X:=by
 have h0:=x.get 0 rfl;have h1:=x.get 1 rfl;have h2:=x.get 2 rfl;have h3:=x.get 3 rfl;have h4:=x.get 4 rfl;have h7:=x.get 7 rfl;have hf:h (if i=0 then A.f0 else A.f1)=df (.dct<|Zc Zt<|W.fa i):=by
  rcases hi with rfl|rfl
  .exact x.get 5 rfl
  .exact x.get 6 rfl
 have n03:A.s≠A.be:=x.ne 0 3 rfl rfl (by decide);have n73:A.dn≠A.be:=x.ne 7 3 rfl rfl (by decide);have nf0:A.s≠(if i=0 then A.f0 else A.f1):=by
  rcases hi with rfl|rfl
  .exact x.ne 0 5 rfl rfl (by decide)
  .exact x.ne 0 6 rfl rfl (by decide)
 have nf4:A.fl≠(if i=0 then A.f0 else A.f1):=by
  rcases hi with rfl|rfl
  .exact x.ne 4 5 rfl rfl (by decide)
  .exact x.ne 4 6 rfl rfl (by decide)
 have el:atI [Val.ref A.f0,.ref A.f1] i=df (.ref<|if i=0 then A.f0 else A.f1):=by rcases hi with rfl|rfl<;>rfl
 generalize (if i=0 then A.f0 else A.f1)=F at hf nf0 nf4 el;let⟨j0,j1,j2⟩:=XA hi;have lb:=KG g;have lr:=GZ g hi;refine K0 ?_
 exists Zb h0 rfl (v:=.ref A.nu) rfl
 exists Zi h1 (at2 j0 (f:=λj=>.int<|W.no j))
 refine' Ze λc hc=>?_;have x1:=x.ext<|Ext.new (o:=.lst []) hc;have a0:=x1.get 0 rfl;have a3:=x1.get 3 rfl;have ec:upd h c (.lst []) c=df (.lst []):=dm;have ncs:A.s≠c:=Za h0 hc;have ncd:A.dn≠c:=Za h7 hc;have ncb:A.be≠c:=Za h3 hc;have ncf:F≠c:=Za hf hc;have ncl:A.fl≠c:=Za h4 hc
 exists Zb a0 rfl (v:=.ref A.be) rfl
 fail;have mp:((Zc Val.int W.bt).map<|itemOf dh)=W.bt.map λq=>Val.int q.1:=by unfold Zc;rw[ą];rfl
 rw[mp];refine Zm (λj e g2=>∃v4 v5 v6,e=[df<|.ref A.s,df<|.int i,df<|.int<|W.no<|1 - i,df<|.ref c,v4,v5,v6]/\ExtB A.be h g2/\g2 A.be=df (.frz<|Zc Val.int W.bt)/\g2 c=df (.lst<|(((W.bt.take j).filter λq=>fB (q.1∉W.dn)).map λq=>(q.1,W.no<|1 - i,q.2)).map trV)) ⟨dg,dg,dg,rfl,⟨λ{a o} na e=>by rw[dj na];exact(Ext.new hc).get e⟩,dm,by rw[dj ncb.symm];exact ec⟩ (λ_ _ _ _ ⟨_,_,_,_,_,z,_⟩=>z) ?_ ?_
 .rintro j v e g2 hv ⟨v4,v5,v6,rfl,e1,eb,eg⟩ M hM;let⟨q,hq,rfl⟩:=ZV hv;have hqm:=å hq;have a0:=e1.get n03 h0;have a7:=e1.get n73 h7;rw[Zx hq,ϋ,ĉ,Β]at hM
  exists Zb a0 rfl (v:=.ref A.dn) rfl
  refine dy (a:=!fB (q.1∈W.dn)) ?_ ?_
  .show(inV g2 (.int q.1)<|.ref A.dn).map _=_;unfold inV;simp![a7,Y0];rfl
  refine' Mc (λbT=>?_) (λbT=>?_)
  .rw[fw bT,fm rfl]at hM
   exists Zb a0 rfl (v:=.ref A.be) rfl
   refine' MP eb rfl (by rw[Yn,Zr g.nb (k:=q.1) (v:=q.2) hqm];rfl) ?_;refine' Yj eg ?_ ?_
   .rw[Á,Á];refine ó (Ü (Ł _ _)<|İ _ _) ?_;unfold lim;lia
   .refine' hM _ _ ⟨_,_,_,rfl,⟨λ{a o} na e=>upd_ne' (Za e hc)<|e1.get na e⟩,upd_ne' ncb eb,Eq.trans dm ?_⟩;rw[â,â];rfl
  .rw[ft λz=>z bT,fo (by decide),Ĉ]at hM;refine' hM _ _ ⟨_,_,_,rfl,e1,eb,eg⟩
 .rintro e g2 ⟨v4,v5,v6,rfl,e1,eb,eg⟩;rw[Á,Ċ]at eg;refine⟨eb,?_⟩;have e2:Ext h<|upd g2 A.be<|.dct<|Zc Val.int W.bt:=⟨λ{a o} e=>by
    by_cases z:a=A.be
    . subst z;rw[dm,<-e];exact h3.symm
    . rw[dj z];exact e1.get z e⟩
  have eg2:=upd_ne' (o:=.dct<|Zc Val.int W.bt) ncb.symm eg;generalize upd g2 A.be (.dct<|Zc Val.int W.bt)=g3 at e2 eg2 ⊢;have b0:=e2.get h0;have b4:=e2.get h4;have bf:=e2.get hf
  exists Zb b0 rfl (v:=.ref A.fl) rfl
  exists Zi b4 el
  fail;have mp2:((Zc Zt<|W.fa i).map<|itemOf dh)=(W.fa i).map λq=>Val.int q.1:=by unfold Zc;rw[ą];rfl
  rw[mp2];refine Zm (λj e g2=>∃v4 v5 v6,e=[df<|.ref A.s,df<|.int i,df<|.int<|W.no<|1 - i,df<|.ref c,v4,v5,v6]/\ExtB F h g2/\g2 F=df (.frz<|Zc Zt<|W.fa i)/\g2 c=df (.lst<|(((W.bt.filter λq=>fB (q.1∉W.dn)).map λq=>(q.1,W.no<|1 - i,q.2))++((W.fa i).take j).map λq=>(q.1,q.2)).map trV)) ⟨_,_,_,rfl,⟨λ{a o} na e=>by rw[dj na];exact e2.get e⟩,dm,by rw[dj ncf.symm,Ű,đ,Ĉ];exact eg2⟩ (λ_ _ _ _ ⟨_,_,_,_,_,z,_⟩=>z) ?_ ?_
  .rintro j v e g2 hv ⟨v4,v5,v6,rfl,e1,eb,eg⟩ M hM;let⟨q,hq,rfl⟩:=ZV hv;have hqm:=å hq;have a0:=e1.get nf0 h0;have a4:=e1.get nf4 h4;rw[Zx hq]at hM;let⟨p,nb,co⟩:=q
   exists Zb a0 rfl (v:=.ref A.fl) rfl
   exists Zi a4 el
   refine' MP eb rfl (by rw[Yn,Zr (g.nf i hi) hqm];rfl) ?_;fail;have lj:(((W.bt.filter λq=>fB (q.1∉W.dn)).map λq=>(q.1,W.no<|1 - i,q.2))++((W.fa i).take j).map λq=>(q.1,q.2)).length<=16:=by refine Ü ?_ lr;unfold TW.rs;rw[Þ,Þ,Á,Á,Á];have:=İ j<|W.fa i;lia
   refine Yj eg ?_ ?_
   .rw[Á];exact ó lj (by decide)
   .refine' hM _ _ ⟨_,_,_,rfl,⟨λ{a o} na e=>upd_ne' (Za e hc)<|e1.get na e⟩,upd_ne' ncf eb,Eq.trans dm ?_⟩;simp[trV]
  .rintro e g2 ⟨v4,v5,v6,rfl,e1,eb,eg⟩;rw[Á,Ċ]at eg;refine⟨eb,?_⟩;have e3:Ext h<|upd g2 F<|.dct<|Zc Zt<|W.fa i:=⟨λ{a o} e=>by
     by_cases z:a=F
     . subst z;rw[dm,<-e];exact hf.symm
     . rw[dj z];exact e1.get z e⟩
   have eg3:upd g2 F (.dct<|Zc Zt<|W.fa i) c=df (.lst<|(W.rs i).map trV):=by rw[dj ncf.symm];exact eg
   generalize upd g2 F (.dct<|Zc Zt<|W.fa i)=g4 at e3 eg3 ⊢;have c0:=e3.get h0;have c1:=e3.get h1;have c2:=e3.get h2
   exists Zb c0 rfl (v:=.ref A.nu) rfl
   exists Zi c1 (at2 hi (f:=λj=>.int<|W.no j))
   exists Zb c0 rfl (v:=.ref A.li) rfl
   exists Zi c2 (at2 hi (f:=λj=>.int<|W.lv j))
   exists Zb c0 rfl (v:=.int W.mo) rfl
   fail;intro b hb;have hbn:h b=dg:=by
    cases z:h b with
    |none=>rfl
    |some o=>rw[e3.get z]at hb;cases hb
   have nbc:b≠c:=(Za eg3 hb).symm;refine CA (rs:=W.rs i) dm (by rw[dj nbc.symm];exact eg3) (Ao g hi) lr λt d g5 ht hd y ey=>?_;refine⟨rfl,?_⟩;have nn:∀{z:Ad},upd g4 b (.ins "Bridge" []) z=dg->h z=dg:=λ{z} hz=>by
    cases w:h z with
    |none=>rfl
    |some o =>have:z≠b:=Za (e3.get w) hb;rw[dj this,e3.get w]at hz;cases hz
   refine k b t d g5 hbn (nn ht) (nn hd) y ⟨λ{a o} e=>?_⟩;have:a≠b:=Za e hbn;exact ey.get ⇑this (by rw[dj this];exact e3.get e)
end
def Wa(f:Int->α)(i:Int)(u v:α):up1 (up1 f i u) i v=up1 f i v:=by funext j;unfold up1;split<;>rfl
def Jc(f:Int->α)(i:Int):up1 f i (f i)=f:=by
 funext j;unfold up1;split
 .rename_i e;rw[e]
 .rfl
variable {rd:List (Int×Int×L)}
def TW.cs.to(g:W.cs){lv:Int->Int}{br:Int->Br}:TW.cs {W with lv:=lv,rd:=rd,br:=br}:=⟨g.n0,g.n1,g.n2,g.m0,g.m1,g.nb,g.rb,g.bn,g.nf,g.rf,g.nd,g.db⟩
def TW.gd.put(g:W.gd){i:Int}(hn:B.number=(W.br i).number)(hm:B.most=(W.br i).most)(hl:B.life=(W.br i).life)(o:B.ok)(ht:B.ties=(W.br i).ties):TW.gd {W with br:=up1 W.br i B,rd:=rd}:=by
 refine⟨g.cs.to,λj hj=>?_,λj hj=>?_,λj hj=>?_⟩
 .dsimp only;by_cases e:j=i
  .subst e;rw[up1_s];let⟨a,b,c,_⟩:=g.br j hj;exact⟨hn.trans a,hm.trans b,hl.trans c,o⟩
  .rw[ZL e];exact g.br j hj
 .dsimp only;by_cases e:j=i
  .subst e;rw[up1_s,ht];exact g.td j hj
  .rw[ZL e];exact g.td j hj
 .dsimp only;by_cases e:j=i
  .subst e;rw[up1_s,ht];exact g.tk j hj
  .rw[ZL e];exact g.tk j hj
structure TW.fine(W:TW):Prop where
 gd:W.gd
 two:∃K N,Two K N W
def TW.fine.sv(f:W.fine):Sv W:=by let⟨K,N,t⟩:=f.two;exact⟨λi hi=>(f.gd.br i hi).2.2.2,λr hr=>(t.road r hr).1⟩
def TW.fine.tick(f:W.fine){i:Int}(hi:i=0\/i=1):(W.tick i).fine:=by let⟨K,N,t⟩:=f.two;have o:=(f.gd.br i hi).2.2.2;let⟨K',N',t'⟩:=t.tick hi o;let⟨f1,f2,f3,f4,f5,f6,f7⟩:=Zu (W.br i).grown<|Zq (W.br i).grown;exact⟨f.gd.put f5 f7 f6 o.ticked f2,K',N',t'⟩
def TW.fine.come(f:W.fine)(k:Nat):(W.come k).fine:=by
 let⟨K,N,t⟩:=f.two;unfold TW.come;split
 .rename_i r hr;have tr:=t.road r<|å hr;have f0:(W.off k).fine:=⟨⟨f.gd.cs.to,f.gd.br,f.gd.td,f.gd.tk⟩,K,N,t.off k⟩
  split
  .exact f0
  .obtain⟨h1,h2,h3,h4,h5,h6,h7,h8⟩:=Yu (W.br r.1) r.2.1 r.2.2;exact⟨f0.gd.put (i:=r.1) h6 h7 h1 (f.gd.br _ tr.1).2.2.2.heard h5,K,N,(t.off k).hear tr.1 tr.2.2.1 λ_=>tr.2.2.2⟩
 .exact f
def TW.fine.comes(f:W.fine):∀n,(TW.comes n W).fine
 |0=>f
 |n+1=>by rw[ZO];exact(f.comes n).come 0
def WH{W:TW}:∀n,n<=W.rd.length->(TW.comes n W).rd=W.rd.drop n
 |0,_=>rfl
 |n+1,h=>by have e:=WH (W:=W) n (by lia);rw[ZO,Kn (by rw[e,Ş];lia),e,ę<|by lia];rfl
def TW.fine.round(f:W.fine):W.round.fine/\W.round.rd=[]:=by refine⟨((f.tick<|.inl rfl).tick<|.inr rfl).comes _,?_⟩;unfold TW.round;rw[WH _<|Ê _];exact List.drop_length
abbrev TW.turn(W:TW)(p c:Int):TW:=if p∈W.dn then {W with dn:=W.dn.erase p,br:=up1 (up1 W.br 0<|upB (W.br 0) p (W.no 1,c)) 1 (upB (W.br 1) p (W.no 0,c))} else {W with dn:=W.dn++[p],br:=up1 (up1 W.br 0<|Z2 (W.br 0) p) 1 (Z2 (W.br 1) p)}
def Z1{f:Int->Br}{C:Br}(hj:j=0\/j=1):up1 (up1 f 0 B) 1 C j=if j=0 then B else C:=by rcases hj with rfl|rfl<;>rfl
def Two.dn{K:His}(x:Two K N W){d:List Int}:Two K N {W with dn:=d}:=⟨x.br,x.le,x.rest,x.road⟩
def TW.fine.turn(f:W.fine){p:Int}(hp:W.bt.lookup p=df c):(W.turn p c).fine:=by
 let⟨K,N,t⟩:=f.two;have g:=f.gd;have hps:(W.bt.lookup p).isSome=dh:=by rw[hp];rfl
 have hr:=g.cs.rb _<|Zd hp;have o0:=(g.br 0<|.inl rfl).2.2.2;have o1:=(g.br 1<|.inr rfl).2.2.2;unfold TW.turn;split
 .rename_i hd;have tm:∀{i:Int}{n:Int},i=0\/i=1->n=W.no (1 - i)->∀q∈(upB (W.br i) p (n,c)).ties,∀c',W.bt.lookup q.1=df c'->q.2=(W.no<|1 - i,c'):=λ{i n} hi hn q hq c' bo=>by
   rcases Kh hq with z|z
   .rw[z]at bo ⊢;rw[hp]at bo;cases bo;rw[hn]
   .exact(t.br i hi).ties q z c' bo
  have s0:=Cq (W.br 0) p (W.no 1,c);have s1:=Cq (W.br 1) p (W.no 0,c);have t1:=(t.dn (d:=W.dn.erase p)).sm (i:=0) (.inl rfl) s0.1 (by rw[s0.2];exact λ_ h=>h)<|tm (.inl rfl) rfl;have t2:=t1.sm (i:=1) (B:=upB (W.br 1) p (W.no 0,c)) (.inr rfl) s1.1 (by rw[s1.2];exact λ_ h=>h)<|tm (.inr rfl) rfl;refine⟨⟨⟨g.cs.n0,g.cs.n1,g.cs.n2,g.cs.m0,g.cs.m1,g.cs.nb,g.cs.rb,g.cs.bn,g.cs.nf,g.cs.rf,g.cs.nd.erase p,λq hq=>g.cs.db q<|List.mem_of_mem_erase hq⟩,λj hj=>?_,λj hj q hq=>?_,λj hj q hq=>?_⟩,K,N,t2⟩
  .dsimp only;rw[Z1 hj];rcases hj with rfl|rfl
   .obtain⟨a,b,c',_⟩:=g.br 0<|.inl rfl;exact⟨s0.1.n.trans a,s0.1.m.trans b,s0.1.l.trans c',o0.up hr.1 hr.2⟩
   .obtain⟨a,b,c',_⟩:=g.br 1<|.inr rfl;exact⟨s1.1.n.trans a,s1.1.m.trans b,s1.1.l.trans c',o1.up hr.1 hr.2⟩
  .have key:∀(i:Int) (n:Int),i=0\/i=1->((upB (W.br i) p (n,c)).ties.lookup q).isSome=fB (q∉W.dn.erase p):=λi n hi=>by
    rw[J7,g.td i hi q hq];by_cases e:q=p
    .subst e;rw[fw rfl,fw<|List.Nodup.not_mem_erase g.cs.nd];rfl
    .rw[ft e,Bool.false_or];exact decide_eq_decide.mpr<|not_congr (List.mem_erase_of_ne e).symm
   dsimp only;rw[Z1 hj];rcases hj with rfl|rfl
   .exact key 0 _<|.inl rfl
   .exact key 1 _<|.inr rfl
  .dsimp only at hq ⊢;rw[Z1 hj]at hq;rcases hj with rfl|rfl
   .rcases Kh hq with z|z
    .rw[z];exact .inl hps
    .exact g.tk 0 (.inl rfl) q z
   .rcases Kh hq with z|z
    .rw[z];exact .inl hps
    .exact g.tk 1 (.inr rfl) q z
 .rename_i hd;have sm:∀B:Br,Sm B (Z2 B p):=λ_=>⟨rfl,rfl,rfl,rfl,rfl,rfl⟩
  have t1:=(t.dn (d:=W.dn++[p])).sm (i:=0) (.inl rfl) (sm<|W.br 0) (λq hq=>ZK hq) λq hq=>(t.br 0<|.inl rfl).ties q<|ZK hq;have t2:=t1.sm (i:=1) (B:=Z2 (W.br 1) p) (.inr rfl) (sm<|W.br 1) (λq hq=>ZK hq) λq hq=>(t.br 1<|.inr rfl).ties q<|ZK hq;refine⟨⟨⟨g.cs.n0,g.cs.n1,g.cs.n2,g.cs.m0,g.cs.m1,g.cs.nb,g.cs.rb,g.cs.bn,g.cs.nf,g.cs.rf,?_,λq hq=>?_⟩,λj hj=>?_,λj hj q hq=>?_,λj hj q hq=>?_⟩,K,N,t2⟩
  .rw[ø];exact⟨g.cs.nd,by simp,λa ha b hb e=>hd<|by rw[<-û.mp hb,<-e];exact ha⟩
  .rcases æ.mp hq with z|z
   .exact g.cs.db q z
   .rw[û.mp z];exact hps
  .dsimp only;rw[Z1 hj];rcases hj with rfl|rfl
   .obtain⟨a,b,c',_⟩:=g.br 0<|.inl rfl;exact⟨a,b,c',o0.down p⟩
   .obtain⟨a,b,c',_⟩:=g.br 1<|.inr rfl;exact⟨a,b,c',o1.down p⟩
  .have key:∀i:Int,i=0\/i=1->((Z2 (W.br i) p).ties.lookup q).isSome=fB (q∉W.dn++[p]):=λi hi=>by
    show((ZQ (W.br i).ties p).lookup q).isSome=_;rw[WO];by_cases e:q=p
    .subst e;simp
    .rw[fo e,g.td i hi q hq];exact decide_eq_decide.mpr (by simp[e])
   dsimp only;rw[Z1 hj];rcases hj with rfl|rfl
   .exact key 0<|.inl rfl
   .exact key 1<|.inr rfl
  .dsimp only at hq ⊢;rw[Z1 hj]at hq;rcases hj with rfl|rfl
   .exact g.tk 0 (.inl rfl) q<|ZK hq
   .exact g.tk 1 (.inr rfl) q<|ZK hq
variable {ns:List Int}
def UC{i:Int}{K:Val×Hs->Prop}(e1:h a=df (.lst<|ns.map .int))(hm:i∈ns)(q:K (.non,upd h a<|.lst<|(ns.erase i).map .int)):go (bmV h .remove (.ref a) [.int i]) K:=dy (by
  show(dF<|h a).bind (bmRemove h [.int i] a)=_
  rw[lsE e1]
  show(dA<|ns.map .int).bind _=_
  rw[YQ]
  exact fm hm) q
section
variable {A:A21}{W:TW}{i p:Int}
def Jk(x:WL h<|mem A W)(g:W.gd)(hp:W.bt.lookup p=df c)(k:∀B f,Mo h A W f B (W.turn p c)->Q .non f):wF P (n+2) "_law_turned" [.ref A.s,.int p] h Q X:=by
 have h0:=x.get 0 rfl;have h7:=x.get 7 rfl;have h9:=x.get 9 rfl;have o0:=(g.br 0<|.inl rfl).2.2.2;have o1:=(g.br 1<|.inr rfl).2.2.2;have ld:W.dn.length<=16:=by refine ZI (m:=16) g.cs.nd λz hz=>?_;let⟨c',bo⟩:=Ì.mp<|g.cs.db z hz;exact g.cs.rb _<|Zd bo
 unfold TW.turn at k;refine KN ?_
 exists Zb h0 rfl (v:=.ref A.bl) rfl
 exists dy (lsE h9)
 refine dy rfl ?_
 exists Zb h0 rfl (v:=.ref A.dn) rfl
 refine dy (a:=fB (p∈W.dn)) ?_ ?_
 .show inV h (.int p) (.ref A.dn)=_;unfold inV;simp![h7,Y0]
 refine' eQ (λhd=>?_) (λhd=>?_)
 .rw[fm hd]at k
  exists Zb h0 rfl (v:=.ref A.dn) rfl
  exists UC h7 hd
  let⟨x1,f1⟩:=x.setDn<|W.dn.erase p;generalize upd h A.dn (.lst<|(W.dn.erase p).map .int)=g1 at x1 f1 ⊢;have a0:=x1.get 0 rfl;have a1:=x1.get 1 rfl;have a3:=x1.get 3 rfl;have b0:=x1.br (i:=0)<|.inl rfl;have i0:=b0.ins
  exists Zb a0 rfl (v:=.ref A.nu) rfl
  exists Zb a0 rfl (v:=.ref A.be) rfl
  refine' Zb a3 rfl (by rw[Yn,hp];rfl) ?_;refine' AX b0 o0 λg2 y e=>?_;let⟨x2,f2,_⟩:=x1.setBr (.inl rfl) y (e.sub<|by simp) (.inl rfl)<|.inl rfl;have c0:=x2.get 0 rfl;have c1:=x2.get 1 rfl;have c3:=x2.get 3 rfl;have b1:=x2.br (i:=1)<|.inr rfl;have i1:=b1.ins
  exists Zb c0 rfl (v:=.ref A.nu) rfl
  exists Zb c0 rfl (v:=.ref A.be) rfl
  refine' Zb c3 rfl (by rw[Yn,hp];rfl) ?_;refine' AX b1 o1 λg3 y e=>?_;let⟨x3,f3,_⟩:=x2.setBr (.inr rfl) y (e.sub<|by simp) (.inl rfl)<|.inl rfl;refine' k _ g3 ⟨rfl,x3,(f1.trans f2).trans f3⟩
 .rw[fo hd]at k
  exists Zb h0 rfl (v:=.ref A.dn) rfl
  refine' Yj h7 (by rw[Á];exact ó ld<|by decide) ?_;let⟨x1,f1⟩:=x.setDn<|W.dn++[p];rw[â]at x1 f1
  replace x1:WL (upd h A.dn<|.lst<|W.dn.map Val.int++[.int p]) _:=x1
  replace f1:Fr h _ (upd h A.dn<|.lst<|W.dn.map Val.int++[.int p]) _:=f1
  generalize upd h A.dn (.lst<|W.dn.map Val.int++[.int p])=g1 at x1 f1 ⊢;have b0:=x1.br (i:=0)<|.inl rfl;have i0:=b0.ins;refine' Wc b0 λg2 y e=>?_;let⟨x2,f2,_⟩:=x1.setBr (.inl rfl) y (e.sub<|by simp) (.inl rfl)<|.inl rfl;have b1:=x2.br (i:=1)<|.inr rfl;have i1:=b1.ins;refine' Wc b1 λg3 y e=>?_;let⟨x3,f3,_⟩:=x2.setBr (.inr rfl) y (e.sub<|by simp) (.inl rfl)<|.inl rfl;refine' k _ g3 ⟨rfl,x3,(f1.trans f2).trans f3⟩
end
abbrev TW.new1(W:TW)(i:Int):TW:={W with lv:=up1 W.lv i<|W.lv i+1,br:=up1 W.br i (XB (W.no i) (W.lv i+1) W.mo<|W.rs i)}
def Yc{i n l m:Int}(g:W.cs)(hi:i=0\/i=1):(XB n l m<|W.rs i).ok/\(∀p,(W.bt.lookup p).isSome=dh->((XB n l m<|W.rs i).ties.lookup p).isSome=fB (p∉W.dn))/\∀q∈(XB n l m<|W.rs i).ties,((W.bt.lookup q.1).isSome=dh\/q.1∈(W.fa i).map (·.1))/\∀c,W.bt.lookup q.1=df c->q.2=(W.no<|1 - i,c):=by
 have nkeys:(Y2<|W.rs i).map (·.1)=(W.rs i).map (·.1):=NU _;refine⟨⟨Μ,(λq hq=>fA hq Õ),?_,λq hq=>?_⟩,λp hp=>?_,λq hq=>?_⟩
 .show((Y2<|W.rs i).map (·.1)).Nodup;rw[nkeys];exact Ao g hi
 .refine EK g hi _ ?_;rw[<-nkeys];exact Ú (f:=(·.1)) hq
 .show((Y2<|W.rs i).lookup p).isSome=_;have lks:((Y2<|W.rs i).lookup p).isSome=dh↔p∈(W.rs i).map (·.1):=by
   rw[<-nkeys];refine⟨λh=>?_,λh=>?_⟩
   .obtain⟨v,e⟩:=Ì.mp h;exact Ú (f:=(·.1))<|Zd e
   .obtain⟨v,e⟩:=Zw h;rw[e];rfl
  rw[Bool.eq_iff_iff,lks,Ky,æ,decide_eq_true_iff];let⟨v,e⟩:=Ì.mp hp;refine⟨λh=>?_,λh=>.inl<|Ð.mpr ⟨(p,v),í.mpr ⟨Zd e,fw h⟩,rfl⟩⟩;rcases h with h|h
  .obtain⟨q,hq,rfl⟩:=Ð.mp h;exact of_decide_eq_true (í.mp hq).2
  .obtain⟨q,hq,rfl⟩:=Ð.mp h;rw[(g.rf i hi q hq).2.2]at hp;cases hp
 .obtain⟨r,hr,rfl⟩:=Ð.mp hq;rcases æ.mp hr with hr|hr
  .obtain⟨b,hb,rfl⟩:=Ð.mp hr;have:=Zr g.nb (k:=b.1) (v:=b.2) (í.mp hb).1;refine⟨.inl (by show(W.bt.lookup b.1).isSome=dh;rw[this];rfl),λu hu=>?_⟩
   replace hu:W.bt.lookup b.1=df u:=hu
   rw[this]at hu;cases hu;rfl
  .obtain⟨b,hb,rfl⟩:=Ð.mp hr;refine⟨.inr (Ú (f:=(·.1)) hb),λu hu=>?_⟩;have:=(g.rf i hi b hb).2.2
   replace hu:W.bt.lookup b.1=df u:=hu
   rw[this]at hu;cases hu
def Two.new1{K:His}{i:Int}(x:Two K N W)(g:W.cs)(hi:i=0\/i=1)(hl:(W.br i).life=W.lv i):∃K' N',Two K' N' (W.new1 i):=by
 let⟨j0,j1,j2⟩:=XA hi;have nw:B4 K i (W.lv i+1,0):=λt z k h=>by have:=(x.br i hi).top t z k h;rw[hl]at this;unfold leP at this ⊢;dsimp only at this ⊢;exact⟨by lia,λz=>by rw[z]at this;dsimp only at this;lia⟩
 have ei:(W.new1 i).br i=XB (W.no i) (W.lv i+1) W.mo (W.rs i):=up1_s;have ej:(W.new1 i).br (1 - i)=W.br (1 - i):=ZL j1;have len:∀c,leP ((W.br c).life,(W.br c).count) (((W.new1 i).br c).life,((W.new1 i).br c).count):=λc=>by
  by_cases h:c=i
  .subst h;rw[ei];refine .inl ?_;show(W.br c).life<W.lv c+1;rw[hl];lia
  .rw[show(W.new1 i).br c=W.br c from ZL h];exact leP.refl _
 refine⟨WU K i (W.lv i+1,0) ⟨W.no i,0,dg⟩ N,N+1,λc hc=>?_,λc s y k h=>?_,λc s y k p t u h hu hb=>?_,λr hr=>?_⟩
 .have:c=i\/c=1 - i:=by lia
  rcases this with rfl|rfl
  .rw[ei];refine⟨⟨_,Me⟩,λs y k h=>?_,(λq hq=>fA hq Õ),(λq hq=>fA hq Õ),λq hq u hu=>?_⟩
   .rcases Yb h with⟨_,e,_⟩|h
    .rw[e];exact leP.refl _
    .exact(nw s y k h).1
   .exact((Yc g hc).2.2 q hq).2 u hu
  .rw[ej];exact((x.br _ hc).add nw j1).cle<|len _
 .rcases Yb h with⟨_,_,e⟩|h
  .cases e;exact Ê _
  .have:=x.le c s y k h;lia
 .rcases Yb h with⟨_,_,e⟩|h
  .cases e;cases hu
  .obtain⟨z,kt,hz,q⟩:=x.rest c s y k p t u h hu hb;exact⟨z,kt,Z3 nw hz,q⟩
 .obtain⟨q1,q2,q3,q4⟩:=x.road r hr;exact⟨q1,q2,q3,(q4.add nw).cle<|len _⟩
abbrev TW.there(W:TW):List Int:=(W.bt.map (·.1)).filter λp=>fB (p∉W.dn)
abbrev TW.tc(W:TW)(i p:Int):Int×Int:=(W.no i,(W.bt.lookup p).getD 0)
abbrev TW.an1(W:TW)(i:Int):TW:={W with br:=up1 W.br (1 - i) (dnB (W.br<|1 - i) W.there)}
abbrev TW.an3(W:TW)(i:Int):TW:={W with br:=up1 W.br (1 - i) (YC (W.tc i) (W.br<|1 - i) W.there)}
abbrev TW.anew(W:TW)(i:Int):TW:=((W.an1 i).new1 i).an3 i
def there_mem{p:Int}:p∈W.there↔(W.bt.lookup p).isSome=dh/\p∉W.dn:=by
 unfold TW.there;rw[í,decide_eq_true_iff];refine and_congr_left λ_=>⟨λh=>?_,λh=>?_⟩
 .obtain⟨v,e⟩:=Zw h;rw[e];rfl
 .obtain⟨v,e⟩:=Ì.mp h;exact Ú (f:=(·.1))<|Zd e
def TW.fine.anew(f:W.fine){i:Int}(hi:i=0\/i=1):(W.anew i).fine:=by
 let⟨K,N,t⟩:=f.two;have g:=f.gd;let⟨j0,j1,j2⟩:=XA hi;have nij:i≠1 - i:=λe=>j1 e.symm;have oj:=(g.br _ j0).2.2.2;let⟨s1,p1,h1,t1,l1⟩:=Nv W.there oj;have T1:Two K N<|W.an1 i:=t.sm j0 s1 h1 λq hq=>(t.br _ j0).ties q<|t1 q hq;have e1:(W.an1 i).br i=W.br i:=ZL nij;have g1:TW.cs<|W.an1 i:=g.cs.to;let⟨K2,N2,T2⟩:=T1.new1 g1 hi (by rw[e1];exact(g.br i hi).2.2.1);have e2:((W.an1 i).new1 i).br (1 - i)=dnB (W.br<|1 - i) W.there:=(ZL j1).trans up1_s;have e3:((W.an1 i).new1 i).br i=XB (W.no i) (W.lv i+1) W.mo (W.rs i):=up1_s;have rg:∀p∈W.there,0<=p/\p<16:=λp hp=>by let⟨v,e⟩:=Ì.mp (there_mem.mp hp).1;exact g.cs.rb _<|Zd e
 let⟨s2,p2,h2,t2,l2⟩:=Oh (f:=W.tc i) W.there p1 rg;have T3:Two K2 N2<|W.anew i:=by
  refine T2.sm (B:=YC (W.tc i) (((W.an1 i).new1 i).br<|1 - i) W.there) j0 (by rw[e2];exact s2) (by rw[e2,h2];exact λ_ h=>h) λq hq c hc=>?_;rw[e2]at hq;show q.2=(W.no<|1 - (1 - i),c)
  rw[j2]
  replace hc:W.bt.lookup q.1=df c:=hc
  rcases t2 q hq with z|⟨p,hp,rfl⟩
  .have:=(t.br _ j0).ties q (t1 q z) c hc
   rwa [j2]at this
  .show(W.no i,(W.bt.lookup p).getD 0)=_;rw[hc];rfl
 have ei:(W.anew i).br i=XB (W.no i) (W.lv i+1) W.mo (W.rs i):=(ZL nij).trans e3;have ej:(W.anew i).br (1 - i)=YC (W.tc i) (dnB (W.br<|1 - i) W.there) W.there:=by refine up1_s.trans ?_;rw[e2];rfl
 have cs:∀c,(c=0\/c=1)->c=i\/c=1 - i:=λc hc=>by lia
 refine⟨⟨g.cs.to,λc hc=>?_,λc hc p hp=>?_,λc hc q hq=>?_⟩,K2,N2,T3⟩
 .rcases cs c hc with rfl|rfl
  .rw[ei];exact⟨rfl,rfl,up1_s.symm,(Yc g.cs hi).1⟩
  .rw[ej];let⟨a,b,c',_⟩:=g.br _ j0;exact⟨(s2.n.trans s1.n).trans a,(s2.m.trans s1.m).trans b,((s2.l.trans s1.l).trans c').trans (ZL j1).symm,p2⟩
 .replace hp:(W.bt.lookup p).isSome=dh:=hp
  show(((W.anew i).br c).ties.lookup p).isSome=fB (p∉W.dn);rcases cs c hc with rfl|rfl
  .rw[ei];exact(Yc g.cs hi).2.1 p hp
  .rw[ej,l2,l1,g.td _ j0 p hp];by_cases e:p∈W.dn
   .have:p∉W.there:=λz=>(there_mem.mp z).2 e;simp[e,this]
   .have:p∈W.there:=there_mem.mpr ⟨hp,e⟩;simp[e,this]
 .show(W.bt.lookup q.1).isSome=dh\/q.1∈(W.fa c).map (·.1);rcases cs c hc with rfl|rfl
  .rw[ei]at hq;exact((Yc g.cs hi).2.2 q hq).1
  .rw[ej]at hq;rcases t2 q hq with z|⟨p,hp,rfl⟩
   .exact g.tk _ j0 q<|t1 q z
   .exact .inl (there_mem.mp hp).1
section
variable {h g:Hs}{A:A21}{W:TW}{i:Int}
def WL.setNew(x:WL h<|mem A W)(hi:i=0\/i=1)(y:dD g b t d B)(e:Ext h g)(hb:h b=dg)(ht:h t=dg)(hd:h d=dg) :
  WL (upd g A.bl<|.lst [.ref<|up1 A.b i b 0,.ref<|up1 A.b i b 1]) (mem {A with b:=up1 A.b i b,t:=up1 A.t i t,d:=up1 A.d i d} {W with br:=up1 W.br i B})/\Fr h (mem A W) (upd g A.bl<|.lst [.ref<|up1 A.b i b 0,.ref<|up1 A.b i b 1]) (mem {A with b:=up1 A.b i b,t:=up1 A.t i t,d:=up1 A.d i d} {W with br:=up1 W.br i B}):=by
 have n1:=XE y.ins y.ties nofun;have n2:=XE y.ins y.held nofun;have n3:=y.ne;have hl:=x.get 9 rfl;have lb:=Za hl hb;have lt:=Za hl ht;have ld:=Za hl hd;have gl:=e.get hl;rcases hi with rfl|rfl
 .have x1:=x.br (i:=1)<|.inr rfl;have m1:=Za x1.ins hb;have m2:=Za x1.ties hb;have m3:=Za x1.held hb;have m4:=Za x1.ins ht;have m5:=Za x1.ties ht;have m6:=Za x1.held ht;have m7:=Za x1.ins hd;have m8:=Za x1.ties hd;have m9:=Za x1.held hd;have r1:=x1.nbt;have r2:=x1.nbd;have r3:=x1.ne;have q1:=x.ne 9 13 rfl rfl (by decide);have q2:=x.ne 9 14 rfl rfl (by decide);have q3:=x.ne 9 15 rfl rfl (by decide);refine WL.repl (P:=XN A W) (U:=[(A.bl,.lst [.ref<|A.b 0,.ref<|A.b 1])]++(brM (A.b 0) (A.t 0) (A.d 0) (W.br 0)++brM (A.b 1) (A.t 1) (A.d 1) (W.br 1))) (V:=[(A.bl,.lst [.ref b,.ref<|A.b 1])]++(brM b t d B++brM (A.b 1) (A.t 1) (A.d 1) (W.br 1))) (Y:=[]) x ?_ ?_ ?_ ?_
  .simp![brM,â,È,đ,Ĺ,Į,Ā,Æ,Õ,or_false,not_or,not_false_eq_true,Μ,and_true]
   repeat' (first|apply And.intro)
   all_goals first|assumption|(apply Ne.symm;assumption)
  .intro p hp;simp![brM,Ĺ,Į,Æ,Õ,or_false]at hp;rcases hp with rfl|rfl|rfl|rfl|rfl|rfl|rfl
   .exact dm
   .exact upd_ne' lb.symm y.ins
   .exact upd_ne' lt.symm y.ties
   .exact upd_ne' ld.symm y.held
   .exact upd_ne' q1.symm<|e.get x1.ins
   .exact upd_ne' q2.symm<|e.get x1.ties
   .exact upd_ne' q3.symm<|e.get x1.held
  .intro a o na z;have:a≠A.bl:=λw=>na (by simp[brM,w]);exact upd_ne' this<|e.get z
  .intro a ha;simp only[brM,â,È,đ,Ĺ,Į,Æ,Õ,or_false]at ha ⊢;rcases ha with rfl|rfl|rfl|rfl|rfl|rfl|rfl
   .simp
   .exact .inr hb
   .exact .inr ht
   .exact .inr hd
   .simp
   .simp
   .simp
 .have x1:=x.br (i:=0)<|.inl rfl;have m1:=Za x1.ins hb;have m2:=Za x1.ties hb;have m3:=Za x1.held hb;have m4:=Za x1.ins ht;have m5:=Za x1.ties ht;have m6:=Za x1.held ht;have m7:=Za x1.ins hd;have m8:=Za x1.ties hd;have m9:=Za x1.held hd;have r1:=x1.nbt;have r2:=x1.nbd;have r3:=x1.ne;have q1:=x.ne 9 10 rfl rfl (by decide);have q2:=x.ne 9 11 rfl rfl (by decide);have q3:=x.ne 9 12 rfl rfl (by decide);refine WL.repl (P:=XN A W) (U:=[(A.bl,.lst [.ref<|A.b 0,.ref<|A.b 1])]++(brM (A.b 0) (A.t 0) (A.d 0) (W.br 0)++brM (A.b 1) (A.t 1) (A.d 1) (W.br 1))) (V:=[(A.bl,.lst [.ref<|A.b 0,.ref b])]++(brM (A.b 0) (A.t 0) (A.d 0) (W.br 0)++brM b t d B)) (Y:=[]) x ?_ ?_ ?_ ?_
  .simp![brM,â,È,đ,Ĺ,Į,Ā,Æ,Õ,or_false,not_or,not_false_eq_true,Μ,and_true]
   repeat' (first|apply And.intro)
   all_goals first|assumption|(apply Ne.symm;assumption)
  .intro p hp;simp![brM,Ĺ,Į,Æ,Õ,or_false]at hp;rcases hp with rfl|rfl|rfl|rfl|rfl|rfl|rfl
   .exact dm
   .exact upd_ne' q1.symm<|e.get x1.ins
   .exact upd_ne' q2.symm<|e.get x1.ties
   .exact upd_ne' q3.symm<|e.get x1.held
   .exact upd_ne' lb.symm y.ins
   .exact upd_ne' lt.symm y.ties
   .exact upd_ne' ld.symm y.held
  .intro a o na z;have:a≠A.bl:=λw=>na (by simp[brM,w]);exact upd_ne' this<|e.get z
  .intro a ha;simp only[brM,â,È,đ,Ĺ,Į,Æ,Õ,or_false]at ha ⊢;rcases ha with rfl|rfl|rfl|rfl|rfl|rfl|rfl
   .simp
   .simp
   .simp
   .simp
   .exact .inr hb
   .exact .inr ht
   .exact .inr hd
end
section
variable {A:A21}{W:TW}{i:Int}
variable {M:NQ} {R:Q1}
def A2{w:Int}(x:WL h<|mem A W)(hj:j=0\/j=1)(hl:h l=df (.lst<|ps.map .int))(nl:l∉(mem A W).map (·.1))(fin:∀B g v,B.b=A.b->B.li=A.li->B.bl=A.bl->Mo h A W g B {W with br:=up1 W.br j (dnB (W.br j) ps)}->M [df<|.ref A.s,df<|.int w,df<|.ref<|A.b j,v,df<|.ref l] g)(v0:Option Val) :
  wFor (λg=>dF (g l)=df (ps.map .int)) (λv e g K M=>go (bind (.one 3) g v e) λe2=>wSs (wF P<|n+1) #[.expr<|.meth "Bridge" "down" (.var 2) #[.var 3]] e2 g K R M K λ_ c g=>X c g) M (ps.map .int) [df<|.ref A.s,df<|.int w,df<|.ref<|A.b j,v0,df<|.ref l] h:=by
 refine Zm (λk e g=>Sm2 λv B=>Cj5 (e=[df<|.ref A.s,df<|.int w,df<|.ref<|A.b j,v,df<|.ref l]) (B.b=A.b) (B.li=A.li) (B.bl=A.bl)<|Mo h A W g B {W with br:=up1 W.br j (dnB (W.br j)<|ps.take k)}) ⟨v0,A,rfl,rfl,rfl,rfl,?_⟩ (λ_ _ _ _ ⟨_,_,_,_,_,_,m⟩=>lsE<|m.fr.get nl hl) ?_ ?_
 .rw[Ű];show Mo h A W h A {W with br:=up1 W.br j (W.br j)};rw[Jc];exact Mo.refl x
 .rintro k v e g hv ⟨w',B,rfl,eb,ei,ej,m⟩ K hK;let⟨p,hp,rfl⟩:=ZV hv;have xb:=m.wl.br hj;rw[eb]at xb;have aA:=xb.ins;refine' Wc xb λg2 y e=>?_;rw[show({W with br:=up1 W.br j (dnB (W.br j)<|ps.take k)}:TW).br j=dnB (W.br j) (ps.take k) from up1_s]at y;let⟨x2,f2,_⟩:=m.wl.setBr hj (B:=Z2 (dnB (W.br j)<|ps.take k) p) (by rw[eb];exact y) (by rw[eb];exact e.sub<|by simp) (.inl rfl)<|.inl rfl;refine' hK _ _ ⟨_,{B with t:=up1 B.t j<|B.t j,d:=up1 B.d j (B.d j)},rfl,eb,ei,ej,m.trans ⟨rfl,?_,?_⟩⟩
  .have:dnB (W.br j) (ps.take<|k+1)=Z2 (dnB (W.br j)<|ps.take k) p:=by
    unfold dnB;rw[Zx hp,ź];rfl
   rw[this];dsimp only at x2;rw[Wa]at x2;exact x2
  .have:dnB (W.br j) (ps.take<|k+1)=Z2 (dnB (W.br j)<|ps.take k) p:=by
    unfold dnB;rw[Zx hp,ź];rfl
   rw[this];dsimp only at f2;rw[Wa]at f2;exact f2
 .rintro e g ⟨w',B,rfl,eb,ei,ej,m⟩;rw[Á,Ċ]at m;exact fin B g w' eb ei ej m
def GQ{w:Int}(x:WL h<|mem A W)(hj:j=0\/j=1)(oj:w=0\/w=1)(hl:h l=df (.lst<|ps.map .int))(nl:l∉(mem A W).map (·.1))(ok:(W.br j).ok)(hr:∀p∈ps,0<=p/\p<16/\(W.bt.lookup p).isSome=dh)(fin:∀B g v,Mo h A W g B {W with br:=up1 W.br j (YC (W.tc w) (W.br j) ps)}->M [df<|.ref A.s,df<|.int w,df<|.ref<|A.b j,v,df<|.ref l] g)(v0:Option Val) :
  wFor (λg=>dF (g l)=df (ps.map .int)) (λv e g K M=>go (bind (.one 3) g v e) λe2=>wSs (wF P<|n+1) #[.expr<|.meth "Bridge" "up" (.var 2) #[.var 3,.idx (.idx (.var 0)<|.cst<|.str "numbers")<|.var 1,.idx (.idx (.var 0)<|.cst<|.str "between")<|.var 3]] e2 g K R M K λ_ c g=>X c g) M (ps.map .int) [df<|.ref A.s,df<|.int w,df<|.ref<|A.b j,v0,df<|.ref l] h:=by
 refine Zm (λk e g=>Sm2 λv B=>Cj3 (e=[df<|.ref A.s,df<|.int w,df<|.ref<|A.b j,v,df<|.ref l]) (B.b=A.b)<|Mo h A W g B {W with br:=up1 W.br j (YC (W.tc w) (W.br j)<|ps.take k)}) ⟨v0,A,rfl,rfl,?_⟩ (λ_ _ _ _ ⟨_,_,_,_,m⟩=>lsE<|m.fr.get nl hl) ?_ ?_
 .rw[Ű];show Mo h A W h A {W with br:=up1 W.br j (W.br j)};rw[Jc];exact Mo.refl x
 .rintro k v e g hv ⟨w',B,rfl,eb,m⟩ K hK;let⟨p,hp,rfl⟩:=ZV hv;let⟨r0,r1,r2⟩:=hr p<|å hp;let⟨c,hc⟩:=Ì.mp r2;have xb:=m.wl.br hj;rw[eb]at xb;have aA:=xb.ins;have a0:=m.wl.get 0 rfl;have a1:=m.wl.get 1 rfl;have a3:=m.wl.get 3 rfl;have ok':=(Oh (f:=W.tc w) (ps.take k) ok λq hq=>⟨(hr q<|bQ hq).1,(hr q<|bQ hq).2.1⟩).2.1;rw[<-m.s]
  exists Zb a0 rfl (v:=.ref B.nu) rfl
  exists Zi a1 (at2 oj (f:=λj=>.int<|W.no j))
  exists Zb a0 rfl (v:=.ref B.be) rfl
  refine' Zb a3 rfl (by rw[Yn,hc];rfl) ?_;refine' AX xb (by dsimp only;rw[up1_s];exact ok') λg2 y e=>?_;rw[show({W with br:=up1 W.br j (YC (W.tc w) (W.br j)<|ps.take k)}:TW).br j=YC (W.tc w) (W.br j) (ps.take k) from up1_s]at y;have eq:YC (W.tc w) (W.br j) (ps.take<|k+1)=upB (YC (W.tc w) (W.br j)<|ps.take k) p (W.no w,c):=by unfold YC;rw[Zx hp,ź];show upB _ p (W.no w,(W.bt.lookup p).getD 0)=_;rw[hc];rfl
  let⟨x2,f2,_⟩:=m.wl.setBr hj (B:=upB (YC (W.tc w) (W.br j)<|ps.take k) p (W.no w,c)) (by rw[eb];exact y) (by rw[eb];exact e.sub<|by simp) (.inl rfl)<|.inl rfl;dsimp only at x2 f2;rw[Wa]at x2 f2;refine' hK _ _ ⟨_,{B with t:=up1 B.t j<|B.t j,d:=up1 B.d j (B.d j)},by rw[<-m.s],eb,m.trans ⟨rfl,?_,?_⟩⟩
  .rw[eq];exact x2
  .rw[eq];exact f2
 .rintro e g ⟨w',B,rfl,eb,m⟩;rw[Á,Ċ]at m;exact fin B g w' m
def AJ(x:WL h<|mem A W)(gd:W.gd)(hi:i=0\/i=1)(k:∀B f,Mo h A W f B (W.anew i)->Q .non f):wF P (n+3) "_law_anew" [.ref A.s,.int i] h Q X:=by
 let⟨j0,j1,j2⟩:=XA hi;have h0:=x.get 0 rfl;have h3:=x.get 3 rfl;have h7:=x.get 7 rfl;have h9:=x.get 9 rfl;have n03:A.s≠A.be:=x.ne 0 3 rfl rfl (by decide);have n73:A.dn≠A.be:=x.ne 7 3 rfl rfl (by decide);have lb:=KG gd.cs;have rg:∀p∈W.there,0<=p/\p<16/\(W.bt.lookup p).isSome=dh:=λp hp=>by let⟨v,e⟩:=Ì.mp (there_mem.mp hp).1;exact⟨(gd.cs.rb _<|Zd e).1,(gd.cs.rb _<|Zd e).2,(there_mem.mp hp).1⟩
 have oj:=(gd.br _ j0).2.2.2;have d1:=(Nv W.there oj).2.1;refine M9 ?_
 exists Zb h0 rfl (v:=.ref A.bl) rfl
 exists Zi h9 (at2 j0 (f:=λj=>.ref<|A.b j))
 refine' ⟨A.be,Zc Val.int W.bt,h3,?_⟩
 exists Zb h0 rfl (v:=.ref A.be) rfl
 fail;have mp:((Zc Val.int W.bt).map<|itemOf dh)=(W.bt.map (·.1)).map Val.int:=by unfold Zc;rw[ą,ą];rfl
 refine⟨by unfold Zc;rw[Á,Á];exact ó lb (by decide),?_⟩;rw[mp];refine Nr (λp=>fB (p∉W.dn)) Val.int dm ?_ ?_
 .intro p hp K hK1 hK2;have a0:=upd_ne' (o:=.frz<|Zc Val.int W.bt) n03 h0;have a7:=upd_ne' (o:=.frz<|Zc Val.int W.bt) n73 h7;generalize upd h A.be (.frz<|Zc Val.int W.bt)=g at a0 a7 hK1 hK2 ⊢
  exists Zb a0 rfl (v:=.ref A.dn) rfl
  refine dy (a:=!fB (p∈W.dn)) ?_ ?_
  .show(inV g (.int p)<|.ref A.dn).map _=_;unfold inV;simp![a7,Y0];rfl
  refine' Mc (λhc=>?_) (λhc=>?_)
  .refine' hK1 (fw hc)
  .refine' hK2 (ft λz=>z hc)
 .refine Ze λl hl=>?_;have hlh:h l=dg:=by
   by_cases z:l=A.be
   .subst z;rw[dm]at hl;cases hl
   .rw[dj z]at hl;exact hl
  have nlb:A.be≠l:=Za h3 hlh;refine' ⟨upd_ne' nlb dm,?_⟩;have e2:Ext h<|upd (upd (upd h A.be<|.frz<|Zc Val.int W.bt) l<|.lst<|W.there.map Val.int) A.be<|.dct<|Zc Val.int W.bt:=⟨λ{a o} e=>by
    by_cases z:a=A.be
    . subst z;rw[dm,<-e];exact h3.symm
    . rw[dj z,dj<|Za e hlh,dj z];exact e⟩
  have el:upd (upd (upd h A.be<|.frz<|Zc Val.int W.bt) l<|.lst<|W.there.map Val.int) A.be (.dct<|Zc Val.int W.bt) l=df (.lst<|W.there.map Val.int):=by rw[dj nlb.symm,dm]
  change wSs _ _ _ (upd (upd (upd h A.be<|.frz<|Zc Val.int W.bt) l<|.lst<|W.there.map Val.int) A.be<|.dct<|Zc Val.int W.bt) _ _ _ _ _;generalize upd (upd (upd h A.be<|.frz<|Zc Val.int W.bt) l<|.lst<|W.there.map Val.int) A.be (.dct<|Zc Val.int W.bt)=g at e2 el ⊢;have x1:=x.ext e2;have nl:l∉(mem A W).map (·.1):=x.new hlh;refine' A2 (P:=P) (n:=n+1) (w:=i) (R:=Q) x1 j0 el nl (λB g2 v eb ei ej m=>?_) _;have m1:Mo h A W g2 B<|W.an1 i:=⟨m.s,m.wl,(Fr.ext e2).trans m.fr⟩
  have gl2:=m.fr.get nl el;have nl2:=m.fr.out nl el;have b0:=m1.wl.get 0 rfl;have b2:=m1.wl.get 2 rfl;rw[<-m.s]
  exists Zb b0 rfl (v:=.ref B.li) rfl
  exists Zi b2 (at2 hi (f:=λj=>.int<|W.lv j))
  exists Zb b0 rfl (v:=.ref B.li) rfl
  fail;let⟨z3,f3⟩:=m1.wl.setLv<|up1 W.lv i<|W.lv i+1;refine Nk (n:=i.toNat) b2 (by rcases hi with rfl|rfl<;>rfl) ?_;rw[show [Val.int<|(W.an1 i).lv 0,.int<|(W.an1 i).lv 1].set i.toNat (.int<|W.lv i+1)=[.int<|up1 W.lv i (W.lv i+1) 0,.int<|up1 W.lv i (W.lv i+1) 1] by rcases hi with rfl|rfl<;>rfl];have gl3:=f3.get nl2 gl2;have nl3:=f3.out nl2 gl2;generalize upd g2 B.li (.lst [.int<|up1 W.lv i (W.lv i+1) 0,.int<|up1 W.lv i (W.lv i+1) 1])=g3 at z3 f3 gl3 ⊢;refine' WJ z3.app (gd.cs.to) hi λb t d g4 hb ht hd y e4=>?_;dsimp only at y;rw[up1_s]at y;let⟨z5,f5⟩:=z3.setNew hi (B:=XB (W.no i) (W.lv i+1) W.mo<|W.rs i) y e4 hb ht hd;have z4:=z3.ext e4;have c0:=z4.get 0 rfl;have c9:=z4.get 9 rfl;have gl5:=f5.get nl3 gl3;have nl5:=f5.out nl3 gl3
  exists Zb c0 rfl (v:=.ref B.bl) rfl
  refine' Nk (n:=i.toNat) c9 (by rcases hi with rfl|rfl<;>rfl) ?_;rw[show [Val.ref<|B.b 0,.ref<|B.b 1].set i.toNat (.ref b)=[.ref<|up1 B.b i b 0,.ref<|up1 B.b i b 1] by rcases hi with rfl|rfl<;>rfl];generalize upd g4 B.bl (.lst [.ref<|up1 B.b i b 0,.ref<|up1 B.b i b 1])=g5 at z5 f5 gl5 ⊢;fail;have eb2:A.b (1 - i)=({B with b:=up1 B.b i b,t:=up1 B.t i t,d:=up1 B.d i d}:A21).b (1 - i):=by show _=up1 B.b i b (1 - i);rw[ZL j1,eb]
  rw[eb2,show(Val.ref B.s)=.ref ({B with b:=up1 B.b i b,t:=up1 B.t i t,d:=up1 B.d i d}:A21).s from rfl];have es:({B with b:=up1 B.b i b,t:=up1 B.t i t,d:=up1 B.d i d}:A21).s=A.s:=m.s;generalize ({B with b:=up1 B.b i b,t:=up1 B.t i t,d:=up1 B.d i d}:A21)=C at z5 f5 nl5 es ⊢;have gu:∀p,(W.an1 i).tc i p=W.tc i p:=λ_=>rfl;have okd:(((W.an1 i).new1 i).br<|1 - i).ok:=by rw[show((W.an1 i).new1 i).br (1 - i)=dnB (W.br<|1 - i) W.there from (ZL j1).trans up1_s];exact d1
  refine GQ (P:=P) (n:=n+1) (w:=i) (R:=Q) (W:=(W.an1 i).new1 i) z5 j0 hi gl5 nl5 okd rg (λE g6 v m6=>?_) _;refine' k E g6 ⟨m6.s.trans es,m6.wl,m1.fr.trans<|(f3.trans f5).trans m6.fr⟩
end
def TW.fine.off(f:W.fine)(k:Nat):(W.off k).fine:=by let⟨K,N,t⟩:=f.two;exact⟨⟨f.gd.cs.to,f.gd.br,f.gd.td,f.gd.tk⟩,K,N,t.off k⟩
def TW.fine.far(f:W.fine){i p:Int}{l:L}(hi:i=0\/i=1)(hp:W.bt.lookup p=dg)(ha:0<=l.age):(W.hear i p l).fine:=by let⟨K,N,t⟩:=f.two;let⟨h1,h2,h3,h4,h5,h6,h7,h8⟩:=Yu (W.br i) p l;exact⟨f.gd.put (i:=i) h6 h7 h1 (f.gd.br i hi).2.2.2.heard h5,K,N,t.hear hi ha λz=>by rw[hp]at z;cases z⟩
structure Mw(w:Ad)(h:Hs)(A:A21)(W:TW)(g:Hs)(B:A21)(V:TW):Prop where
 s:B.s=A.s
 wl:WL g<|mem B V
 fr:∀a o,a≠w->a∉(mem A W).map (·.1)->h a=df o->g a=df o/\a∉(mem B V).map (·.1)
 well:Well g w
 out:w∉(mem B V).map (·.1)
def Mw.of{k:Hs}{B:A21}{V:TW}(e:ExtB w h g)(hw:Well g w)(n:w∉(mem A W).map (·.1))(m:Mo g A W k B V):Mw w h A W k B V:=by let⟨a,b⟩:=hw.fr n m.fr;exact⟨m.s,m.wl,λc o nc nl z=>m.fr c o nl<|e.get nc z,a,b⟩
def Mw.trans{k:Hs}{B:A21}{V:TW}(a:Mw w h A W g B V)(b:Mw w g B V k C U):Mw w h A W k C U :=
 ⟨b.s.trans a.s,b.wl,λc o nc nl z=>b.fr c o nc (a.fr c o nc nl z).2 (a.fr c o nc nl z).1,b.well,b.out⟩
def BX(h0:0<=r)(h1:r<5)(a b c d e:Int):∃y,atI [Val.int a,.int b,.int c,.int d,.int e] r=df (.int y)/\(y=a\/y=b\/y=c\/y=d\/y=e):=by
 rcases LM h0 h1 with rfl|rfl|rfl|rfl|rfl
 .exact⟨a,rfl,by simp⟩
 .exact⟨b,rfl,by simp⟩
 .exact⟨c,rfl,by simp⟩
 .exact⟨d,rfl,by simp⟩
 .exact⟨e,rfl,by simp⟩
def Fd(h0:0<=r)(h1:r<4)(b c d:Pi):∃o:Option Pi,atI [Val.non,pV b,pV c,pV d] r=df (oV o):=by
 rcases Lm h0 h1 with rfl|rfl|rfl|rfl
 .exact⟨dg,rfl⟩
 .exact⟨df b,rfl⟩
 .exact⟨df c,rfl⟩
 .exact⟨df d,rfl⟩
section
variable {A:A21}{W:TW}{i:Int}
def CG(x:WL h<|mem A W)(hw:Well h w)(nw:w∉(mem A W).map (·.1))(g:W.gd)(hi:i=0\/i=1)(k:∀B f V,Mw w h A W f B V->(V=W\/∃p l,V=W.hear i p l/\W.bt.lookup p=dg/\0<=l.age)->Q .non f):wF P (n+3) "_law_far_letter" [.ref w,.ref A.s,.int i] h Q X:=by
 have h0:=x.get 0 rfl;have h4:=x.get 4 rfl;have ef:∃F,atI [Val.ref A.f0,.ref A.f1] i=df (.ref F)/\h F=df (.dct<|Zc Zt<|W.fa i):=by
  rcases hi with rfl|rfl
  .exact⟨A.f0,rfl,x.get 5 rfl⟩
  .exact⟨A.f1,rfl,x.get 6 rfl⟩
 let⟨F,el,hf⟩:=ef;have lf:((W.fa i).map (·.1)).length<=16:=ZI (m:=16) (g.cs.nf i hi) λz hz=>by let⟨q,hq,rfl⟩:=Ð.mp hz;exact⟨(g.cs.rf i hi q hq).1,(g.cs.rf i hi q hq).2.1⟩
 refine XR ?_
 exists Zb h0 rfl (v:=.ref A.fl) rfl
 exists Zi h4 el
 refine KK hf (Oa _) (by lia)<|Ze λl hl=>?_;have xl:=Ext.new (o:=.lst ((sortI ((W.fa i).map (·.1))).map Val.int)) hl;have gl:upd h l (.lst ((sortI ((W.fa i).map (·.1))).map Val.int)) l=_:=dm;have cz:w≠l:=hw.ne hl
 replace hw:=hw.ext xl
 generalize upd h l (.lst ((sortI ((W.fa i).map (·.1))).map Val.int))=g1 at xl gl hw ⊢;refine' Ze λr hr=>?_;have xr:=xl.trans<|Ext.new (o:=.lst []) hr;have gr:=(Ext.new (o:=.lst []) hr).get gl;have er:upd g1 r (.lst []) r=df (.lst []):=dm
 replace hw:=hw.ext<|Ext.new (o:=.lst []) hr
 generalize upd g1 r (.lst [])=g2 at xr gr er hw ⊢
 exists c_neE gr er
 refine' eR (λhc=>?_) (λhc=>?_)
 .have hn:0<(sortI ((W.fa i).map (·.1))).length:=by
   cases e:sortI ((W.fa i).map (·.1))with
   |nil=>rw[e]at hc;cases hc
   |cons a b=>exact ϰ _
  have hm:(sortI ((W.fa i).map (·.1))).length<=16:=by unfold sortI;rw[ł];exact lf
  refine' Zg hw (by rw[Á];lia) (by rw[Á];lia) λr1 g3 a1 b1 e3 w3=>?_;let⟨y,hy,ey⟩:=M4 a1 b1;let⟨p,hp,rfl⟩:=Ð.mp hy;have gl3:=e3.get cz.symm gr;have hpf:p∈(W.fa i).map (·.1):=mem_sortI.mp hp;let⟨fq,hfq,efq⟩:=Ð.mp hpf;have hpb:W.bt.lookup p=dg:=by rw[<-efq];exact(g.cs.rf i hi fq hfq).2.2
  refine Zi gl3 ey ?_;have t3:ExtB w h g3:=(ExtB.of xr).trans e3;have x3:=x.exb nw t3;have a0:=x3.get 0 rfl;have a2:=x3.get 2 rfl
  exists Zb a0 rfl (v:=.ref A.li) rfl
  exists Zi a2 (at2 hi (f:=λj=>.int<|W.lv j))
  refine' Zg w3 (by decide) (by decide) λr2 g4 a2 b2 e4 w4=>?_;refine' Zg w4 (by decide) (by decide) λr3 g5 a3 b3 e5 w5=>?_;refine' Zg w5 (by decide) (by decide) λr4 g6 a4 b4 e6 w6=>?_;refine' Zg w6 (by decide) (by decide) λr5 g7 a5 b5 e7 w7=>?_;have t7:ExtB w h g7:=((((t3.trans e4).trans e5).trans e6).trans e7)
  have x7:=x.exb nw t7;have c0:=x7.get 0 rfl;have c1:=x7.get 1 rfl
  exists Zb c0 rfl (v:=.ref A.nu) rfl
  exists Zb c0 rfl (v:=.ref A.nu) rfl
  refine' Zg w7 (by decide) (by decide) λr6 g8 a6 b6 e8 w8=>?_;refine' Ze λq1 av=>?_;have nq1:=w8.ne av;refine' Zg (w8.ext<|Ext.new av) (by decide) (by decide) λr7 g9 a7 b7 e9 w9=>?_;have l9:=e9.get nq1.symm dm;let⟨root,er1,_⟩:=BX a7 b7 0 0 (W.no 0) (W.no 1) r6;refine Zi l9 er1 ?_;have t9:ExtB w h g9:=((t7.trans e8).trans<|.of<|Ext.new av).trans e9;refine' Zg w9 (by decide) (by decide) λr8 g10 a8 b8 e10 w10=>?_;refine' Zg w10 (by decide) (by decide) λr9 g11 a9 b9 e11 w11=>?_;refine' Ze λq2 Ϲ=>?_;have nq2:=w11.ne Ϲ;have lq2:upd g11 q2 (.lst [.non,pV (W.lv i,r8),pV (W.lv i,r9),pV (r4,r5)]) q2=_:=dm;have w12:=w11.ext<|Ext.new (o:=.lst [.non,pV (W.lv i,r8),pV (W.lv i,r9),pV (r4,r5)]) Ϲ;have t12:ExtB w h<|upd g11 q2<|.lst [.non,pV (W.lv i,r8),pV (W.lv i,r9),pV (r4,r5)]:=((t9.trans e10).trans e11).trans<|.of<|Ext.new Ϲ;generalize upd g11 q2 (.lst [.non,pV (W.lv i,r8),pV (W.lv i,r9),pV (r4,r5)])=g12 at lq2 w12 t12 ⊢;refine' Zg w12 (by decide) (by decide) λr10 g13 a10 b10 e13 w13=>?_;refine' Ze λq3 hq3=>?_;have nq3:=w13.ne hq3;refine' Zg (w13.ext<|Ext.new hq3) (by decide) (by decide) λr11 g14 a11 b11 e14 w14=>?_;have l14:=e14.get nq3.symm dm;let⟨age,er2,hage⟩:=BX a11 b11 0 0 1 5 r10;refine Zi l14 er2 ?_;have t14:ExtB w g12 g14:=(e13.trans<|.of<|Ext.new hq3).trans e14;refine' Zg w14 (by decide) (by decide) λr12 g15 a12 b12 e15 w15=>?_;have l15:=(t14.trans e15).get nq2.symm lq2;let⟨rests,er3⟩:=Fd a12 b12 (W.lv i,r8) (W.lv i,r9) (r4,r5);refine Zi l15 er3 ?_;refine' Zg w15 (by decide) (by decide) λr13 g16 a13 b13 e16 w16=>?_;refine' Zg w16 (by decide) (by decide) λr14 g17 a14 b14 e17 w17=>?_;have l17:=((e16.trans e17)).get nq2.symm l15;let⟨agrees,er4⟩:=Fd a14 b14 (W.lv i,r8) (W.lv i,r9) (r4,r5);refine Zi l17 er4 ?_;have t17:ExtB w h g17:=((t12.trans t14).trans e15).trans<|e16.trans e17;have x17:=x.exb nw t17;have d0:=x17.get 0 rfl;have d9:=x17.get 9 rfl;have xb:=x17.br hi;have aA:=xb.ins
  exists Zb d0 rfl (v:=.ref A.bl) rfl
  exists Zi d9 (at2 hi (f:=λj=>.ref<|A.b j))
  refine' Oy (l:=⟨(r2,r3),(r4,r5),root,r13,age,rests,agrees⟩) xb (g.br i hi).2.2.2 λg18 y e18=>?_;let⟨x18,f18,_⟩:=x17.setBr hi y (e18.sub<|by simp) (.inl rfl)<|.inl rfl;refine' k _ g18 _ (Mw.of t17 w17 nw (B:={A with t:=up1 A.t i<|A.t i,d:=up1 A.d i (A.d i)}) ⟨rfl,x18,f18⟩) (.inr ⟨p,_,rfl,hpb,by show 0<=age;lia⟩)
 .refine' k A g2 W (Mw.of (.of xr) hw nw<|Mo.refl<|x.ext xr) (.inl rfl)
end
section
variable {A:A21}{W:TW}{i:Int}
def Cr(f:W.fine)(hi:i=0\/i=1):(W.tick i).rd.length<=W.rd.length+16:=by have e:(W.tick i).rd.length=W.rd.length+(W.lets i).length:=Þ;have:=WI<|f.sv.ok i hi;lia
def AT(x:WL h<|mem A W)(hw:Well h w)(nw:w∉(mem A W).map (·.1))(f:W.fine)(hR:W.rd.length<100000)(k:∀B g V,Mw w h A W g B V->V.fine->V.rd.length<=W.rd.length+16->Q .non g):wF P (n+7) "_law_deed" [.ref w,.ref A.s] h Q X:=by
 refine M8 ?_;refine' Zg hw (by decide) (by decide) λkd g1 ka kb e1 w1=>?_;refine' Zg w1 (by decide) (by decide) λi g2 ia ib e2 w2=>?_;have hi:i=0\/i=1:=two ia ib;have e:=e1.trans e2;have x2:=x.exb nw e;have mk:∀{B g V},Mo g2 A W g B V->Mw w h A W g B V:=λm=>Mw.of e w2 nw m;have h0:=x2.get 0 rfl;have h3:=x2.get 3 rfl;have h8:=x2.get 8 rfl;refine' eQ (λc1=>?_) (λc1=>?_)
 .refine' Wq x2 hi (f.sv.ok i hi) (by lia) λB g m=>?_;refine' k B g _ (mk m) (f.tick hi) (Cr f hi)
 refine' eQ (λc2=>?_) (λc2=>?_)
 .exists Zb h0 rfl (v:=.ref A.ro) rfl
  refine' Ze λr hr=>?_;have er:=Ext.new (o:=.lst []) hr;have rr:upd g2 r (.lst []) r=df (.lst []):=dm;have x3:=x2.ext er;have a0:=x3.get 0 rfl;have a8:=x3.get 8 rfl;have w3:=w2.ext er
  replace mk:∀{B g V},Mo (upd g2 r<|.lst []) A W g B V->Mw w h A W g B V:=λm=>Mw.of (e.trans<|.of er) w3 nw m
  replace e:=e.trans<|.of er
  generalize upd g2 r (.lst [])=g3 at *;refine c_neE a8 rr ?_;refine' eR (λhc=>?_) (λhc=>?_)
  .have hn:0<W.rd.length:=by
    cases z:W.rd with
    |nil=>rw[z]at hc;cases hc
    |cons a b=>exact ϰ _
   exists Zb a0 rfl (v:=.ref A.ro) rfl
   refine ln_lst a8 ?_;rw[Á];refine' Zg w3 (by lia) (by lia) λr2 g4 a2 b2 e4 w4=>?_;refine' Ze λq hq=>?_;have nq:=w4.ne hq;refine' Zg (w4.ext<|Ext.new hq) (by decide) (by decide) λr3 g5 a3 b3 e5 w5=>?_;have l5:=e5.get nq.symm dm;have t5:ExtB w g3 g5:=(e4.trans<|.of<|Ext.new hq).trans e5;obtain⟨at_,hat,eat⟩:∃y:Nat,y<W.rd.length/\atI [Val.int 0,.int<|(W.rd.length:Nat) - 1,.int r2] r3=df (.int y):=by
    rcases three a3 b3 with rfl|rfl|rfl
    .exact⟨0,hn,rfl⟩
    .exact⟨W.rd.length - 1,by lia,by rw[show((W.rd.length:Nat):Int) - 1=((W.rd.length - 1:Nat):Int) by lia];rfl⟩
    .exact⟨r2.toNat,by lia,by rw[show r2=((r2.toNat:Nat):Int) by lia];rfl⟩
   refine Zi l5 eat ?_;have x5:=x3.exb nw t5;have b0:=x5.get 0 rfl;have b8:=x5.get 8 rfl;have hr:=Ï hat;have hj:=f.sv.rd _<|Š hat;refine' eQ (λc3=>?_) (λc3=>?_)
   .refine' KR (k:=at_) x5 hr hj (f.sv.ok _ hj) (by lia) λB g m=>?_
    exists k B g _ (Mw.of (e.trans t5) w5 nw m) (f.come at_)
    rw[Kn hat,ŉ hat];lia
   .exists Zb b0 rfl (v:=.ref A.ro) rfl
    refine' Wi (j:=at_) (v:=rdV W.rd[at_]) b8 (by lia) (by simp) (by rw[ã,hr];rfl) (by lia) ?_;rw[Yr];let⟨x6,f6⟩:=x5.setRd<|W.rd.eraseIdx at_
    exists k A _ (W.off at_) (Mw.of (e.trans t5) w5 nw ⟨rfl,x6,f6⟩) (f.off at_)
    show(W.rd.eraseIdx at_).length<=_;rw[ŉ hat];lia
  .refine' k A g3 W (mk<|Mo.refl x3) f (by lia)
 refine' eQ (λc3=>?_) (λc3=>?_)
 .refine' CG x2 w2 nw f.gd hi λB g V m hV=>?_;fail;have m0:Mw w h A W g B V:=Mw.trans (Mw.of e w2 nw<|Mo.refl x2) m;rcases hV with rfl|⟨p,l,rfl,hp,ha⟩
  .exact k B g _ m0 f (by lia)
  .exact k B g _ m0 (f.far hi hp ha) (by show W.rd.length<=_;lia)
 refine' eQ (λc4=>?_) (λc4=>?_)
 .have lb:=KG f.gd.cs
  exists Zb h0 rfl (v:=.ref A.be) rfl
  refine KK h3 (Oa _) (by rw[Á];lia)<|Ze λl hl=>?_;have el:=Ext.new (o:=.lst ((sortI (W.bt.map (·.1))).map Val.int)) hl;have ll:upd g2 l (.lst ((sortI (W.bt.map (·.1))).map Val.int)) l=_:=dm;have nl:=w2.ne hl;have w3:=w2.ext el;have len:(sortI (W.bt.map (·.1))).length=W.bt.length:=by unfold sortI;rw[ł,Á]
  have ç:0<W.bt.length:=by
   cases z:W.bt with
   |nil=>exact fA z f.gd.cs.bn
   |cons a b=>exact ϰ _
  generalize upd g2 l (.lst ((sortI (W.bt.map (·.1))).map Val.int))=g3 at *;refine' Zg w3 (by rw[Á,len];lia) (by rw[Á,len];lia) λr g4 ra rb e4 w4=>?_;let⟨y,hy,ey⟩:=M4 ra rb;let⟨p,hp,rfl⟩:=Ð.mp hy;let⟨c,hc⟩:=Zw<|mem_sortI.mp hp;refine Zi (e4.get nl.symm ll) ey ?_;have t4:ExtB w h g4:=(e.trans<|.of el).trans e4;refine' Jk (x.exb nw t4) f.gd hc λB g m=>?_
  exists k B g _ (Mw.of t4 w4 nw m) (f.turn hc)
  unfold TW.turn;split<;>(show W.rd.length<=_;lia)
 refine' eQ (λc5=>?_) (λc5=>?_)
 .refine' AJ x2 f.gd hi λB g m=>?_;refine' k B g _ (mk m) (f.anew hi) (by show W.rd.length<=_;lia)
 .refine' J3 x2 f.sv (by lia) λB g m=>?_
  exists k B g _ (mk m) f.round.1
  rw[f.round.2];exact Ĥ _
end
abbrev TW.init(W:TW):TW:={W with br:=λi=>XB (W.no i) (W.lv i) W.mo (W.rs i)}
def OU(g:W.cs)(hr:W.rd=[]):W.init.fine:=by
 refine⟨⟨g.to,λi hi=>⟨rfl,rfl,rfl,(Yc g hi).1⟩,λi hi=>(Yc g hi).2.1,λi hi q hq=>((Yc g hi).2.2 q hq).1⟩,λi s=>if s=(W.lv i,0)then df (⟨W.no i,0,dg⟩,0)else dg,0,λi hi=>?_,λi s y k h=>?_,λi s y k p t c h hu hb=>?_,λr h=>?_⟩
 .refine⟨⟨0,fm rfl⟩,λs y k h=>?_,(λq hq=>fA hq Õ),(λq hq=>fA hq Õ),λq hq=>((Yc g hi).2.2 q hq).2⟩;split at h
  .rename_i e;rw[e];exact leP.refl _
  .cases h
 .split at h
  .cases h;exact Ê _
  .cases h
 .split at h
  .cases h;cases hu
  .cases h
 .have:r∈W.rd:=h;rw[hr]at this;cases this
def NP(hw:Well h w)(k:∀c g,ExtB w h g->Well g w->Q (.int c) g):wF P (n+2) "_law_cost" [.ref w] h Q X:=by refine Nz ?_;refine' Zg hw (by decide) (by decide) λr g r0 r1 e1 w1=>?_;refine' Ze λp hp=>?_;have Ź:=w1.ne hp;refine' Zg (w1.ext<|Ext.new hp) (by decide) (by decide) λs g2 s0 s1 e2 w2=>?_;have hl:=e2.get Ź.symm dm;have ee:=(e1.trans<|.of<|Ext.new hp).trans e2;let⟨y,hy,_⟩:=BX s0 s1 1 1 2 1000<|1+r;refine Zi hl hy ?_;exact k _ _ ee w2
def WP{α:Type}:∀(xs:List α) (i:Nat) (hi:i<xs.length),xs.Perm (xs[i]::xs.eraseIdx i)
 |[],_,hi=>fA hi<|am _
 |x::xs,0,_=>List.Perm.refl _
 |x::xs,i+1,hi=>by have:=WP xs i ⇑hi;rw[ν,List.getElem_cons_succ];exact(this.cons x).trans<|List.Perm.swap ..
structure Tk(ls rs:List Int)(ks:List Int):Prop where
 nd:(ks++rs).Nodup
 sub:∀z∈ks++rs,z∈ls
 len:rs.length+ks.length=ls.length
variable {ls:List Int}
def Tk.pop{rs ks:List Int}(t:Tk ls rs ks)(hi:i<rs.length):Tk ls (rs.eraseIdx i)<|ks++[rs[i]]:=by
 have p:=WP rs i hi;have q:(ks++rs).Perm<|(ks++[rs[i]])++rs.eraseIdx i:=by rw[Ņ];exact p.append_left ks
 refine⟨q.nodup_iff.mp t.nd,λz hz=>t.sub z<|q.mem_iff.mpr hz,?_⟩;rw[ŉ hi,Þ,<-t.len];show rs.length - 1+(ks.length+1)=_;lia
def Jd{Ϛ Ŷ:Int}(hw:Well h w)(hl:h l=df (.lst<|ls.map .int))(cz:l≠w)(nd:ls.Nodup)(len:3<=ls.length)(l16:ls.length<=16)(k:∀fa rs d g,h d=dg->g d=df (.dct<|Zc Zt fa)->g l=df (.lst<|rs.map .int)->Tk ls rs (fa.map (·.1))->fa.length<=2->(∀a o,a≠w->a≠l->h a=df o->g a=df o)->Well g w->d≠w->d≠l->Q (.ref d) g):wF P (n+3) "_law_far_ties" [.ref w,.ref l,.tup [.int Ϛ,.int Ŷ]] h Q X:=by
 refine WD ?_;refine' Ze λo5 ho5=>?_;have w1:=hw.ext<|Ext.new (o:=.lst [.int 0,.int 1,.int 2,.int 500,.int 999]) ho5;have e5:upd h o5 (.lst [.int 0,.int 1,.int 2,.int 500,.int 999]) o5=df (.lst<|[0,1,2,500,999].map Val.int):=dm;have x5:=Ext.new (o:=.lst [.int 0,.int 1,.int 2,.int 500,.int 999]) ho5;generalize upd h o5 (.lst [.int 0,.int 1,.int 2,.int 500,.int 999])=g1 at *;refine' ⟨show(5:Nat)<lim by decide,?_⟩;refine Nr (λp=>fB (p∉[Ϛ,Ŷ])) Val.int (lsE e5) ?_ ?_
 .intro p hp K hK1 hK2
  exists FR (ns:=[Ϛ,Ŷ])
  refine' Mc (λhc=>?_) (λhc=>?_)
  .refine' hK1 (fw hc)
  .refine' hK2 (ft λz=>z hc)
 refine Ze λos cK=>?_;have ne:0<([0,1,2,500,999].filter λp=>fB (p∉[Ϛ,Ŷ])).length:=by
  refine Υ.mpr λz=>?_;have al:∀p∈[(0:Int),1,2,500,999],p∈[Ϛ,Ŷ]:=λp hp=>by refine Ϩ λy=>?_;have:p∈[0,1,2,500,999].filter λp=>fB (p∉[Ϛ,Ŷ]):=í.mpr ⟨hp,fw y⟩;rw[z]at this;cases this
  have a0:=al 0 (by simp);have a1:=al 1 (by simp);have a2:=al 2 (by simp);simp only[Æ,Õ,or_false]at a0 a1 a2;lia
 have le:([0,1,2,500,999].filter λp=>fB (p∉[Ϛ,Ŷ])).length<=5:=Ł _ _;have w2:=w1.ext<|Ext.new (o:=.lst<|([0,1,2,500,999].filter λp=>fB (p∉[Ϛ,Ŷ])).map Val.int) cK;have eo:upd g1 os (.lst<|([0,1,2,500,999].filter λp=>fB (p∉[Ϛ,Ŷ])).map Val.int) os=df _:=dm;have xo:=x5.trans<|Ext.new (o:=.lst<|([0,1,2,500,999].filter λp=>fB (p∉[Ϛ,Ŷ])).map Val.int) cK;have now:=w1.ne cK;have nol:l≠os:=Za (x5.get hl) cK;generalize ([0,1,2,500,999].filter λp=>fB (p∉[Ϛ,Ŷ]))=os' at *;generalize upd g1 os (.lst<|os'.map Val.int)=g2 at *;fail;intro d hd;have hdh:h d=dg:=by
  cases z:h d with
  |none=>rfl
  |some o=>rw[xo.get z]at hd;cases hd
 have ndw:w≠d:=w2.ne hd;have ndl:l≠d:=Za (xo.get hl) hd;have ndo:os≠d:=Za eo hd;have w3:=w2.ext<|Ext.new (o:=.dct []) hd;have ed:upd g2 d (.dct []) d=df (.dct []):=dm;have xd:=xo.trans<|Ext.new (o:=.dct []) hd;have eo3:=(Ext.new (o:=.dct []) hd).get eo;generalize upd g2 d (.dct [])=g3 at *;refine' Zg w3 (by decide) (by decide) λr g4 r0 r1 e4 w4=>?_;refine' ⟨⟨by lia,by lia⟩,?_⟩;refine Zm (λi e g=>Sm4 λv5 v6 fa rs=>Cj8 (e=[df<|.ref w,df<|.ref l,df<|.tup [.int Ϛ,.int Ŷ],df<|.ref os,df<|.ref d,v5,v6]) (g d=df (.dct<|Zc Zt fa)) (g l=df (.lst<|rs.map Val.int)) (g os=df (.lst<|os'.map Val.int)) (Tk ls rs (fa.map (·.1))) (fa.length=i) ((∀a o,a≠w->a≠l->h a=df o->g a=df o))<|Well g w) ⟨dg,dg,[],ls,rfl,e4.get ndw.symm ed,e4.get cz<|xd.get hl,e4.get now.symm eo3,⟨nd,λz hz=>hz,rfl⟩,rfl,λa o na nl z=>e4.get na<|xd.get z,w4⟩ (λ_ _ _ _ _=>trivial) ?_ ?_
 .rintro i v e g hv ⟨v5,v6,fa,rs,rfl,gd,gl,go_,tk,fl,fr,gw⟩ K hK;have hi:i<2:=by
   have:=(Ò.mp hv).1;unfold dY at this;rw[Á,Ą]at this;lia
  have rl:=tk.len;rw[Á]at rl;refine' Zg gw (by rw[Á];lia) (by rw[Á];lia) λs g5 s0 s1 e5' w5=>?_;rw[Á]at s1;have hs:s.toNat<rs.length:=by lia
  have gl5:=e5'.get cz gl;refine Wi (j:=s.toNat) (v:=.int rs[s.toNat]) gl5 s0 rfl (by rw[ã,Ï hs];rfl) (by lia) ?_;rw[Yr];have tp:=tk.pop hs;have w6:Well (upd g5 l<|.lst<|(rs.eraseIdx s.toNat).map Val.int) w:=by let⟨a,b,z⟩:=w5;exact⟨a,b,upd_ne' cz.symm z⟩
  have gd6:=upd_ne' (o:=.lst<|(rs.eraseIdx s.toNat).map Val.int) ndl.symm<|e5'.get ndw.symm gd;have go6:=upd_ne' (o:=.lst<|(rs.eraseIdx s.toNat).map Val.int) nol.symm<|e5'.get now.symm go_;have gl6:upd g5 l (.lst<|(rs.eraseIdx s.toNat).map Val.int) l=df (.lst<|(rs.eraseIdx s.toNat).map Val.int):=dm;have fr6:∀a o,a≠w->a≠l->h a=df o->upd g5 l (.lst<|(rs.eraseIdx s.toNat).map Val.int) a=df o:=λa o na nl z=>upd_ne' nl<|e5'.get na<|fr a o na nl z;generalize rs[s.toNat]=p at tp ⊢;generalize upd g5 l (.lst<|(rs.eraseIdx s.toNat).map Val.int)=g6 at *;refine' Zg w6 (by rw[Á];lia) (by rw[Á];lia) λu g7 u0 u1 e7 w7=>?_;let⟨y,hy,ey⟩:=M4 u0 u1;let⟨nb,_,rfl⟩:=Ð.mp hy;refine Zi (e7.get now.symm go6) ey ?_;refine' NP w7 λc g8 e8 w8=>?_;have e78:=e7.trans e8;refine' YS (k:=.int p) (e78.get ndw.symm gd6) ⟨rfl,by rw[Nf];unfold lim;lia⟩ ?_;rw[show Val.tup [.int nb,.int c]=Zt (nb,c) from rfl,YX];have pn:p∉fa.map (·.1):=by have:=tp.nd;rw[Ņ,ø]at this;exact λz=>this.2.2 p z p (by simp) rfl
  rw[Wj _ pn];refine' hK _ _ ⟨_,_,fa++[(p,(nb,c))],rs.eraseIdx s.toNat,rfl,dm,upd_ne' ndl<|e78.get cz gl6,upd_ne' ndo<|e78.get now.symm go6,?_,by rw[Þ,fl];rfl,λa o na nl z=>upd_ne' (Za z hdh)<|e78.get na<|fr6 a o na nl z,?_⟩
  .rw[â];exact tp
  .obtain⟨a,b,z⟩:=w8;exact⟨a,b,upd_ne' ndw z⟩
 .rintro e g ⟨v5,v6,fa,rs,rfl,gd,gl,go_,tk,fl,fr,gw⟩;refine' k fa rs d g hdh gd gl tk ?_ fr gw ndw.symm ndl.symm;rw[fl];unfold dY;rw[Á,Ą];lia
def WL.add3{l:Mem}(x:WL h l)(e:Ext h g)(y:dD g b t d B)(hb:h b=dg)(ht:h t=dg)(hd:h d=dg):WL g<|l++brM b t d B:=by
 have n1:=XE y.ins y.ties nofun;have n2:=XE y.ins y.held nofun;refine⟨?_,λp hp=>?_⟩
 .rw[â,ø];refine⟨x.nd,by simp[brM,n1,n2,y.ne],λa ha c hc z=>?_⟩;simp![brM,È,đ,Æ,Õ,or_false]at hc;rcases hc with rfl|rfl|rfl
  .exact x.new hb<|z▸ha
  .exact x.new ht<|z▸ha
  .exact x.new hd<|z▸ha
 .rcases æ.mp hp with hp|hp
  .exact e.get<|x.at_ p hp
  .simp![brM,Æ,Õ,or_false]at hp;rcases hp with rfl|rfl|rfl
   .exact y.ins
   .exact y.ties
   .exact y.held
def WL.front{P:Mem}(x:WL h<|P++Y)(hp:h p=dg):WL (upd h p o)<|P++(p,o)::Y:=x.more (λq hq=>upd_ne' (Za (x.at_ q hq) hp)<|x.at_ q hq) hp dm
def Kt{kvs:List (Val×Val)}{k v:Val}{K:Hs->Prop}(e1:h a=df (.dct kvs))(m:dM k=dh/\kvs.length<lim)(e2:dQ kvs k v=kvs++[(k,v)])(q:K<|upd h a<|.dct<|kvs++[(k,v)]):go (eC h (.ref a) k v) K:=YS e1 m (by rw[e2];exact q)
def UE(hw:Well h w)(k:∀A W g,WL g (mem A W)->W.fine->W.rd=[]->Q (.ref A.s) g):wF P (n+4) "_law_state" [.ref w] h Q X:=by
 refine MA ?_;fail;refine Zg hw (by decide) (by decide) λr1 g1 a1 b1 e1 w1=>?_;refine' Ze λq1 av=>?_;have n1:=w1.ne av;refine' Zg (w1.ext<|Ext.new av) (by decide) (by decide) λs1 g2 c1 d1 e2 w2=>?_;have l1:=e2.get n1.symm dm;obtain⟨Ϛ,lo0,lo1,elo⟩:∃y:Int,0<=y/\y<999/\atI [Val.int 0,.int 1,.int 7,.int r1] s1=df (.int y):=by
  rcases Lm c1 d1 with rfl|rfl|rfl|rfl
  .exact⟨0,by decide,by decide,rfl⟩
  .exact⟨1,by decide,by decide,rfl⟩
  .exact⟨7,by decide,by decide,rfl⟩
  .exact⟨r1,a1,b1,rfl⟩
 refine Zi l1 elo ?_;clear l1 e1 e2 av n1;refine' Zg w2 (by lia) (by lia) λr2 g3 a2 b2 e3 w3=>?_;refine' Ze λq2 Ϲ=>?_;have n2:=w3.ne Ϲ;refine' Zg (w3.ext<|Ext.new Ϲ) (by decide) (by decide) λs2 g4 c2 d2 e4 w4=>?_;have l2:=e4.get n2.symm dm;obtain⟨Ŷ,hi0,hi1,ehi⟩:∃y:Int,Ϛ<y/\y<1000/\atI [Val.int<|Ϛ+1,.int 999,.int<|Ϛ+1+r2] s2=df (.int y):=by
  rcases three c2 d2 with rfl|rfl|rfl
  .exact⟨Ϛ+1,by lia,by lia,rfl⟩
  .exact⟨999,by lia,by lia,rfl⟩
  .exact⟨Ϛ+1+r2,by lia,by lia,rfl⟩
 refine Zi l2 ehi ?_;clear l2 e3 e4 Ϲ n2;refine' wp_new (show rangeL (.int 16)=.new (.lst<|((List.range 16).map λn:Nat=>(n:Int)).map Val.int) from rfl) (Ze λl hl=>?_);have cz:=w4.ne hl;have w5:=w4.ext<|Ext.new (o:=.lst<|((List.range 16).map λn:Nat=>(n:Int)).map Val.int) hl;have el:upd g4 l (.lst<|((List.range 16).map λn:Nat=>(n:Int)).map Val.int) l=df (.lst<|((List.range 16).map λn:Nat=>(n:Int)).map Val.int):=dm;have nd0:((List.range 16).map λn:Nat=>(n:Int)).Nodup:=by decide
 have rg0:∀z∈(List.range 16).map λn:Nat=>(n:Int),0<=z/\z<16:=by decide
 have len0:((List.range 16).map λn:Nat=>(n:Int)).length=16:=rfl;generalize ((List.range 16).map λn:Nat=>(n:Int))=ls at *;generalize upd g4 l (.lst<|ls.map Val.int)=g5 at *;fail;intro be ck;have nbw:=w5.ne ck;have nbl:l≠be:=Za el ck;have w6:=w5.ext<|Ext.new (o:=.dct []) ck;have el6:=(Ext.new (o:=.dct []) ck).get el;have eb6:upd g5 be (.dct []) be=df (.dct []):=dm;generalize upd g5 be (.dct [])=g6 at *;refine' Zg w6 (by decide) (by decide) λr g7 r0 r1' e7 w7=>?_;refine' ⟨⟨by lia,by lia⟩,?_⟩;refine Zm (λi e g=>Sm4 λv5 v6 bt rs=>Cj6 (e=[df<|.ref w,df<|.int Ϛ,df<|.int Ŷ,df<|.ref l,df<|.ref be,v5,v6,dg,dg,dg,dg]) (g be=df (.dct<|Zc Val.int bt)) (g l=df (.lst<|rs.map Val.int)) (Tk ls rs (bt.map (·.1))) (bt.length=i)<|Well g w) ⟨dg,dg,[],ls,rfl,e7.get nbw.symm eb6,e7.get cz.symm el6,⟨nd0,λz hz=>hz,rfl⟩,rfl,w7⟩ (λ_ _ _ _ _=>trivial) ?_ ?_
 .rintro i v e g hv ⟨v5,v6,bt,rs,rfl,gb,gl,tk,bl,gw⟩ K hK;have hi:i<3:=by
   have:=(Ò.mp hv).1;unfold dY at this;rw[Á,Ą]at this;lia
  have rl:=tk.len;rw[Á]at rl;refine' Zg gw (by rw[Á];lia) (by rw[Á];lia) λs g8 s0 s1 e8 w8=>?_;rw[Á]at s1;have hs:s.toNat<rs.length:=by lia
  refine Wi (j:=s.toNat) (v:=.int rs[s.toNat]) (e8.get cz.symm gl) s0 rfl (by rw[ã,Ï hs];rfl) (by lia) ?_;rw[Yr];have tp:=tk.pop hs;have w9:Well (upd g8 l<|.lst<|(rs.eraseIdx s.toNat).map Val.int) w:=by let⟨a,b,z⟩:=w8;exact⟨a,b,upd_ne' cz z⟩
  have gb9:=upd_ne' (o:=.lst<|(rs.eraseIdx s.toNat).map Val.int) nbl.symm<|e8.get nbw.symm gb;have gl9:upd g8 l (.lst<|(rs.eraseIdx s.toNat).map Val.int) l=df (.lst<|(rs.eraseIdx s.toNat).map Val.int):=dm;generalize rs[s.toNat]=p at tp ⊢;generalize upd g8 l (.lst<|(rs.eraseIdx s.toNat).map Val.int)=g9 at *;refine' NP w9 λc g10 e10 w10=>?_;refine' YS (k:=.int p) (e10.get nbw.symm gb9) ⟨rfl,by rw[Nf];unfold lim;lia⟩ ?_;rw[YX];have pn:p∉bt.map (·.1):=by have:=tp.nd;rw[Ņ,ø]at this;exact λz=>this.2.2 p z p (by simp) rfl
  rw[Wj _ pn];refine' hK _ _ ⟨_,_,bt++[(p,c)],rs.eraseIdx s.toNat,rfl,dm,upd_ne' nbl<|e10.get cz.symm gl9,?_,by rw[Þ,bl];rfl,?_⟩
  .rw[â];exact tp
  .obtain⟨a,b,z⟩:=w10;exact⟨a,b,upd_ne' nbw z⟩
 .rintro e g ⟨v5,v6,bt,rs,rfl,gb,gl,tk,bl,gw⟩;have bl1:1<=bt.length/\bt.length<=3:=by
   rw[bl];unfold dY;rw[Á,Ą];lia
  have rl:=tk.len;rw[Á]at rl;have ndt:=tk.nd;rw[ø]at ndt;clear el el6 eb6 e7 w5 w6 w7 ck hl;fail;refine Jd gw gl cz.symm ndt.2.1 (by lia) (by lia) λfa rs2 f0 gA hf0 ef0 gl2 tk2 fl2 fr2 wA nf0w nf0l=>?_;have x1:WL gA<|[(be,Ob.dct<|Zc Val.int bt)]++(f0,.dct<|Zc Zt fa)::[]:=WL.more (h:=g) (P:=[(be,.dct<|Zc Val.int bt)]) (Y:=[]) ⟨by simp,λp hp=>by rw[û.mp hp];exact gb⟩ (λp hp=>by rw[û.mp hp];exact fr2 _ _ nbw.symm nbl.symm gb) hf0 ef0;have rl2:=tk2.len;rw[Á]at rl2;have ndt2:=tk2.nd;rw[ø]at ndt2;refine' Jd wA gl2 cz.symm ndt2.2.1 (by lia) (by lia) λfb rs3 f1 gB hf1 ef1 gl3 tk3 fl3 fr3 wB nf1w nf1l=>?_;have x2:WL gB<|[(be,Ob.dct<|Zc Val.int bt),(f0,.dct<|Zc Zt fa)]++(f1,.dct<|Zc Zt fb)::[]:=WL.more (h:=gA) (P:=[(be,.dct<|Zc Val.int bt),(f0,.dct<|Zc Zt fa)]) (Y:=[]) x1 (λp hp=>by
    have hp:p=(be,.dct<|Zc Val.int bt)\/p=(f0,.dct<|Zc Zt fa):=⇑hp
    rcases hp with rfl|rfl
    . exact fr3 _ _ nbw.symm nbl.symm<|x1.get 0 rfl
    . exact fr3 _ _ nf0w nf0l<|x1.get 1 rfl) hf1 ef1
  have nw2:w∉[be,f0,f1]:=by simp[nbw,nf0w.symm,nf1w.symm]
  refine' Ze λfl hfl=>?_;have x3:=WL.front (P:=[(be,Ob.dct<|Zc Val.int bt)]) (Y:=[(f0,.dct<|Zc Zt fa),(f1,.dct<|Zc Zt fb)]) (o:=.lst [.ref f0,.ref f1]) x2 hfl;have w10:=wB.ext<|Ext.new (o:=.lst [.ref f0,.ref f1]) hfl;have nw3:w∉[be,fl,f0,f1]:=by simp[nbw,wB.ne hfl,nf0w.symm,nf1w.symm]
  generalize upd gB fl (.lst [.ref f0,.ref f1])=g10 at *;fail;refine Ze λq3 hq3=>?_;have n3:=w10.ne hq3;refine' Zg (w10.ext<|Ext.new hq3) (by decide) (by decide) λs3 g11 c3 d3 e11 w11=>?_;have l3:=e11.get n3.symm dm;obtain⟨lv0,elv0⟩:∃y:Int,atI [Val.int 0,.int 3,.int 1000000000000000000000000000000] s3=df (.int y):=by
   rcases three c3 d3 with rfl|rfl|rfl
   .exact⟨0,rfl⟩
   .exact⟨3,rfl⟩
   .exact⟨_,rfl⟩
  refine Zi l3 elv0 ?_;have x4:=x3.exb nw3<|(ExtB.of<|Ext.new hq3).trans e11;refine' Ze λq4 hq4=>?_;have n4:=w11.ne hq4;refine' Zg (w11.ext<|Ext.new hq4) (by decide) (by decide) λs4 g12 c4 d4 e12 w12=>?_;have l4:=e12.get n4.symm dm;obtain⟨lv1,elv1⟩:∃y:Int,atI [Val.int 0,.int 2,.int 1000000000000000000000000000000] s4=df (.int y):=by
   rcases three c4 d4 with rfl|rfl|rfl
   .exact⟨0,rfl⟩
   .exact⟨2,rfl⟩
   .exact⟨_,rfl⟩
  refine Zi l4 elv1 ?_;have x5:=x4.exb nw3<|(ExtB.of<|Ext.new hq4).trans e12;refine' Ze λli hli=>?_;have x6:=WL.front (P:=[]) (Y:=[(be,Ob.dct<|Zc Val.int bt),(fl,.lst [.ref f0,.ref f1]),(f0,.dct<|Zc Zt fa),(f1,.dct<|Zc Zt fb)]) (o:=.lst [.int lv0,.int lv1]) x5 hli;have w13:=w12.ext<|Ext.new (o:=.lst [.int lv0,.int lv1]) hli;have nw6:w∉[li,be,fl,f0,f1]:=by refine List.not_mem_cons_of_ne_of_not_mem (w12.ne hli) nw3
  generalize upd g12 li (.lst [.int lv0,.int lv1])=g13 at *;clear x1 x2 x3 x4 x5 l3 l4 e11 e12;fail;refine Ze λq5 hq5=>?_;have n5:=w13.ne hq5;refine' Zg (w13.ext<|Ext.new hq5) (by decide) (by decide) λs5 g14 c5 d5 e14 w14=>?_;have l5:=e14.get n5.symm dm;obtain⟨mo,mo0,mo1,emo⟩:∃y:Int,8<=y/\y<=200/\atI [Val.int 8,.int 8,.int 8,.int 9,.int 10,.int 12,.int 20,.int 200] s5=df (.int y):=by
   have:s5=0\/s5=1\/s5=2\/s5=3\/s5=4\/s5=5\/s5=6\/s5=7:=by lia
   rcases this with rfl|rfl|rfl|rfl|rfl|rfl|rfl|rfl
   .exact⟨8,by decide,by decide,rfl⟩
   .exact⟨8,by decide,by decide,rfl⟩
   .exact⟨8,by decide,by decide,rfl⟩
   .exact⟨9,by decide,by decide,rfl⟩
   .exact⟨10,by decide,by decide,rfl⟩
   .exact⟨12,by decide,by decide,rfl⟩
   .exact⟨20,by decide,by decide,rfl⟩
   .exact⟨200,by decide,by decide,rfl⟩
  refine Zi l5 emo ?_;have x7:=x6.exb nw6<|(ExtB.of<|Ext.new hq5).trans e14;clear l5 e14 x6;refine' Ze λs hs=>?_;have x8:=WL.front (P:=[]) (Y:=[(li,Ob.lst [.int lv0,.int lv1]),(be,.dct<|Zc Val.int bt),(fl,.lst [.ref f0,.ref f1]),(f0,.dct<|Zc Zt fa),(f1,.dct<|Zc Zt fb)]) (o:=.dct []) x7 hs;generalize upd g14 s (.dct [])=g15 at *;refine' Ze λnu hnu=>?_;have x9:=WL.front (P:=[(s,Ob.dct [])]) (Y:=[(li,Ob.lst [.int lv0,.int lv1]),(be,.dct<|Zc Val.int bt),(fl,.lst [.ref f0,.ref f1]),(f0,.dct<|Zc Zt fa),(f1,.dct<|Zc Zt fb)]) (o:=.lst [.int Ϛ,.int Ŷ]) x8 hnu;have es9:=x9.get 0 rfl;generalize upd g15 nu (.lst [.int Ϛ,.int Ŷ])=g16 at *;refine' dy (a:=[(.str "numbers",.ref nu),(.str "lives",.ref li),(.str "most",.int mo),(.str "between",.ref be),(.str "far",.ref fl)]) rfl ⟨es9,?_⟩;let⟨x10,_⟩:=WL.one (P:=[]) (u:=.dct [(.str "numbers",.ref nu),(.str "lives",.ref li),(.str "most",.int mo),(.str "between",.ref be),(.str "far",.ref fl)]) x9;have es10:=x10.get 0 rfl;change WL (upd g16 s<|.dct<|putAll [] [(.str "numbers",.ref nu),(.str "lives",.ref li),(.str "most",.int mo),(.str "between",.ref be),(.str "far",.ref fl)]) _ at x10;change upd g16 s (.dct<|putAll [] [(.str "numbers",.ref nu),(.str "lives",.ref li),(.str "most",.int mo),(.str "between",.ref be),(.str "far",.ref fl)]) s=_ at es10;generalize upd g16 s (.dct<|putAll [] [(.str "numbers",.ref nu),(.str "lives",.ref li),(.str "most",.int mo),(.str "between",.ref be),(.str "far",.ref fl)])=g17 at *;refine' Ze λdn hdn=>?_;have x11:=WL.front (P:=[(s,Ob.dct [(.str "numbers",.ref nu),(.str "lives",.ref li),(.str "most",.int mo),(.str "between",.ref be),(.str "far",.ref fl)]),(nu,.lst [.int Ϛ,.int Ŷ]),(li,Ob.lst [.int lv0,.int lv1]),(be,.dct<|Zc Val.int bt),(fl,.lst [.ref f0,.ref f1]),(f0,.dct<|Zc Zt fa),(f1,.dct<|Zc Zt fb)]) (Y:=[]) (o:=.lst []) x10 hdn;have es11:=x11.get 0 rfl;generalize upd g17 dn (.lst [])=g18 at *;refine' Kt es11 ⟨rfl,show(5:Nat)<lim by decide⟩ rfl ?_;let⟨x12,_⟩:=WL.one (P:=[]) (u:=.dct<|[(.str "numbers",.ref nu),(.str "lives",.ref li),(.str "most",.int mo),(.str "between",.ref be),(.str "far",.ref fl)]++[(.str "fallen",.ref dn)]) x11;generalize upd g18 s (.dct<|[(.str "numbers",.ref nu),(.str "lives",.ref li),(.str "most",.int mo),(.str "between",.ref be),(.str "far",.ref fl)]++[(.str "fallen",.ref dn)])=g19 at *;refine' Ze λro hro=>?_;have x13:=WL.front (P:=[(s,Ob.dct [(.str "numbers",.ref nu),(.str "lives",.ref li),(.str "most",.int mo),(.str "between",.ref be),(.str "far",.ref fl),(.str "fallen",.ref dn)]),(nu,.lst [.int Ϛ,.int Ŷ]),(li,Ob.lst [.int lv0,.int lv1]),(be,.dct<|Zc Val.int bt),(fl,.lst [.ref f0,.ref f1]),(f0,.dct<|Zc Zt fa),(f1,.dct<|Zc Zt fb),(dn,.lst [])]) (Y:=[]) (o:=.lst []) x12 hro;have es13:=x13.get 0 rfl;generalize upd g19 ro (.lst [])=g20 at *;refine' Kt es13 ⟨rfl,show(6:Nat)<lim by decide⟩ rfl ?_;let⟨x14,_⟩:=WL.one (P:=[]) (u:=.dct<|[(.str "numbers",.ref nu),(.str "lives",.ref li),(.str "most",.int mo),(.str "between",.ref be),(.str "far",.ref fl),(.str "fallen",.ref dn)]++[(.str "road",.ref ro)]) x13;generalize upd g20 s (.dct<|[(.str "numbers",.ref nu),(.str "lives",.ref li),(.str "most",.int mo),(.str "between",.ref be),(.str "far",.ref fl),(.str "fallen",.ref dn)]++[(.str "road",.ref ro)])=g21 at *;refine' Ze λbx hbx=>?_;have x15:=x14.ext<|Ext.new (o:=.lst []) hbx;have es15:=x15.get 0 rfl;generalize upd g21 bx (.lst [])=g22 at *;refine' Kt es15 ⟨rfl,show(7:Nat)<lim by decide⟩ rfl ?_;let⟨x16,_⟩:=WL.one (P:=[]) (u:=.dct<|[(.str "numbers",.ref nu),(.str "lives",.ref li),(.str "most",.int mo),(.str "between",.ref be),(.str "far",.ref fl),(.str "fallen",.ref dn)]++[(.str "road",.ref ro)]++[(.str "bridges",.ref bx)]) x15;generalize upd g22 s (.dct<|[(.str "numbers",.ref nu),(.str "lives",.ref li),(.str "most",.int mo),(.str "between",.ref be),(.str "far",.ref fl),(.str "fallen",.ref dn)]++[(.str "road",.ref ro)]++[(.str "bridges",.ref bx)])=g23 at *;have cs:TW.cs ⟨λi=>if i=0 then Ϛ else Ŷ,λi=>if i=0 then lv0 else lv1,mo,bt,λi=>if i=0 then fa else fb,[],[],λ_=>XB 0 0 0 []⟩:=by
   have sub:∀z∈bt.map (·.1),z∈ls:=λz hz=>tk.sub z<|õ _ hz;have nob:∀z∈rs,bt.lookup z=dg:=λz hz=>by
    cases e:bt.lookup z with
    |none=>rfl
    |some v=>exact fA rfl (ndt.2.2 z (Ú (f:=(·.1))<|Zd e) z hz)
   have s2:∀z∈fa.map (·.1),z∈rs:=λz hz=>tk2.sub z<|õ _ hz;have s2':∀z∈rs2,z∈rs:=λz hz=>tk2.sub z<|Í _ hz;have s3:∀z∈fb.map (·.1),z∈rs:=λz hz=>s2' z<|tk3.sub z<|õ _ hz;have sl:∀z∈rs,z∈ls:=λz hz=>tk.sub z<|Í _ hz;have ndt3:=tk3.nd;rw[ø]at ndt3;refine⟨lo0,hi0,hi1,mo0,mo1,ndt.1,λq hq=>rg0 _ (sub _ (Ú (f:=(·.1)) hq)),λz=>?_,λi hi=>?_,λi hi q hq=>?_,Μ,λp hp=>fA hp Õ⟩
   .replace z:bt=[]:=z
    rw[z]at bl1;exact fA bl1.1 (by decide)
   .rcases hi with rfl|rfl
    .exact ndt2.1
    .exact ndt3.1
   .rcases hi with rfl|rfl
    .have:=s2 _ (Ú (f:=(·.1)) hq);exact⟨(rg0 _<|sl _ this).1,(rg0 _<|sl _ this).2,nob _ this⟩
    .have:=s3 _ (Ú (f:=(·.1)) hq);exact⟨(rg0 _<|sl _ this).1,(rg0 _<|sl _ this).2,nob _ this⟩
  have x17:WL g23<|XN ⟨s,nu,li,be,fl,f0,f1,dn,ro,bx,λ_=>0,λ_=>0,λ_=>0⟩ ⟨λi=>if i=0 then Ϛ else Ŷ,λi=>if i=0 then lv0 else lv1,mo,bt,λi=>if i=0 then fa else fb,[],[],λ_=>XB 0 0 0 []⟩:=x16;clear x7 x8 x9 x10 x11 x12 x13 x14 x15 x16 es9 es10 es11 es13 es15;refine' WJ (P:=P) (n:=n+1) (i:=0) x17 cs (.inl rfl) λb0 t0 d0 g24 hb0 ht0 hd0 y0 e24=>?_;have x18:=x17.add3 e24 y0 hb0 ht0 hd0;refine' WJ (P:=P) (n:=n+1) (i:=1) x18.app cs (.inr rfl) λb1 t1 d1 g25 hb1 ht1 hd1 y1 e25=>?_;have x19:=x18.add3 e25 y1 hb1 ht1 hd1;rw[Ņ]at x19;refine' Ze λbl2 hbl2=>?_;have x20:=WL.front (o:=.lst [.ref b0,.ref b1]) x19 hbl2;have es20:=x20.get 0 rfl;generalize upd g25 bl2 (.lst [.ref b0,.ref b1])=g26 at *;refine' YS es20 ⟨rfl,show(8:Nat)<lim by decide⟩ ?_;let⟨x21,_⟩:=WL.one (P:=[]) (u:=.dct [(.str "numbers",.ref nu),(.str "lives",.ref li),(.str "most",.int mo),(.str "between",.ref be),(.str "far",.ref fl),(.str "fallen",.ref dn),(.str "road",.ref ro),(.str "bridges",.ref bl2)]) x20;rw[show dQ (stV ⟨s,nu,li,be,fl,f0,f1,dn,ro,bx,λ_=>0,λ_=>0,λ_=>0⟩ mo) (.str "bridges") (.ref bl2)=[(.str "numbers",.ref nu),(.str "lives",.ref li),(.str "most",.int mo),(.str "between",.ref be),(.str "far",.ref fl),(.str "fallen",.ref dn),(.str "road",.ref ro),(.str "bridges",.ref bl2)] from rfl];refine' k ⟨s,nu,li,be,fl,f0,f1,dn,ro,bl2,λi=>if i=0 then b0 else b1,λi=>if i=0 then t0 else t1,λi=>if i=0 then d0 else d1⟩ (TW.init ⟨λi=>if i=0 then Ϛ else Ŷ,λi=>if i=0 then lv0 else lv1,mo,bt,λi=>if i=0 then fa else fb,[],[],λ_=>XB 0 0 0 []⟩) _ x21 (OU cs rfl) rfl
def lex_lt{a b:Pi}:d7 [a.1,a.2] [b.1,b.2]=dh↔ltP a b:=by
 unfold ltP;simp![d7];by_cases e:a.1=b.1
 .by_cases z:a.2=b.2
  .simp[e,z]
  .simp[e,z]
 .simp[e]
def ltP.irr{a b:Pi}(h:ltP a b)(k:ltP b a):False:=by unfold ltP at h k;lia
abbrev Yz(W:TW)(i:Int):Prop:=∀q∈(W.br i).ties,(W.bt.lookup q.1).isSome=dh
def AV(f:W.fine)(hd:W.dn=[])(h0:Yz W 0)(h1:Yz W 1):QB W.no W.mo W.bt W.br:=by
 let⟨K,N,t⟩:=f.two;refine⟨λi hi=>?_⟩;let⟨a,b,_,o⟩:=f.gd.br i hi;refine⟨a,b,o,λp=>?_⟩;have hf:Yz W i:=by rcases hi with rfl|rfl<;>assumption
 cases e:W.bt.lookup p with
 |none =>
  cases z:(W.br i).ties.lookup p with
  |none=>rfl
  |some v =>have:=hf _<|Zd z;rw[show((p,v):Int×(Int×Int)).1=p from rfl,e]at this;cases this
 |some c =>have:=f.gd.td i hi p (by rw[e];rfl);rw[hd,fw Õ]at this;let⟨v,hv⟩:=Ì.mp this;have e2:v=(W.no<|1 - i,c):=(t.br i hi).ties _ (Zd hv) c e;rw[hv,e2];rfl
structure Rn(U V:TW):Prop where
 bt:V.bt=U.bt
 no:V.no=U.no
 mo:V.mo=U.mo
 fa:V.fa=U.fa
 dn:V.dn=U.dn
 lv:V.lv=U.lv
 br:∀i,i=0\/i=1->(V.br i).life=(U.br i).life/\(V.br i).version=(U.br i).told.version/\(V.br i).label=(U.br i).told.label/\(V.br i).ties=(U.br i).ties/\(V.br i).ok
 all:∀i,i=0\/i=1->∀p,(U.bt.lookup p).isSome=dh->(i,p,Zh (U.br<|1 - i).told p)∈V.rd\/(V.br i).held.lookup p=df (Zh (U.br<|1 - i).told p,(Zh (U.br<|1 - i).told p).age)
 rd:∀r∈V.rd,(r.1=0\/r.1=1)/\(U.bt.lookup r.2.1).isSome=dh/\(r.2.2=Zh (U.br<|1 - r.1).told r.2.1\/ltP r.2.2.num (Zh (U.br<|1 - r.1).told r.2.1).num)
 held:∀i,i=0\/i=1->∀p l a,(V.br i).held.lookup p=df (l,a)->(l=Zh (U.br<|1 - i).told p/\a=l.age)\/ltP l.num (Zh (U.br<|1 - i).told p).num
def J9(kvs:List<|Int×α)(k q:Int)(v:α):(Ys kvs k v).lookup q=if q=k then df v else kvs.lookup q:=by
 unfold Ys;split
 .rename_i h;induction kvs with
  |nil=>cases h
  |cons p r ih =>
   rw[È,à,à];rw[à]at h;by_cases e:p.1=k
   .rw[fm e];dsimp only;by_cases z:q=k
    .have:(q==k)=dh:=⇑z
     rw[this,fm z]
    .have n1:(q==k)=di:=⇑z
     have n2:(q==p.1)=di:=by rw[e];exact n1
     rw[n1,n2,fo z];dsimp only;clear ih h;induction r with
     |nil=>rfl
     |cons a r ih =>
      rw[È,à,à];by_cases y:a.1=k
      .rw[fm y];have n3:(q==a.1)=di:=by rw[y];exact n1
       rw[n1,n3];exact ih
      .rw[fo y,ih]
   .rw[fo e];have n1:(k==p.1)=di:=by simpa using λy:k=p.1=>e y.symm
    rw[n1]at h;by_cases z:q=p.1
    .have:(q==p.1)=dh:=⇑z
     have n:¬ q=k:=by lia
     simp[this,n]
    .have:(q==p.1)=di:=⇑z
     rw[this];dsimp only;exact ih h
 .rename_i h;rw[List.lookup_append,à];by_cases z:q=k
  .have:(q==k)=dh:=⇑z
   rw[this,fm z,z,ϟ.mp h];rfl
  .have:(q==k)=di:=⇑z
   rw[this,fo z];exact Option.or_none
def Rn.come{V:TW}(x:Rn U V)(hd:U.dn=[])(q:QB U.no U.mo U.bt U.br)(h:0<V.rd.length):Rn U<|V.come 0:=by
 have hr:=Ï h;generalize V.rd[0]=r at hr;let⟨i,p,l⟩:=r;have hm:=å hr;let⟨hi,hp,hl⟩:=x.rd _ hm;dsimp only at hi hp hl;have ev:V.come 0=(V.off 0).hear i p l:=by unfold TW.come;rw[hr];dsimp only;rw[fo<|by rw[x.dn,hd];exact Õ]
 rw[ev];let⟨s1,s2,s3,s4,s5,s6,s7,s8⟩:=Yu (V.br i) p l;have tp:((V.br i).ties.lookup p).isSome=dh:=by rw[(x.br i hi).2.2.2.1,(q.br i hi).2.2.2,ŀ];exact hp
 have hh:Zk (V.br i) p l=if YJ (V.br i) p l then {V.br i with held:=Ys (V.br i).held p (l,l.age)} else V.br i:=fm tp;have rds:∀z∈V.rd,z=(i,p,l)\/z∈V.rd.eraseIdx 0:=λz hz=>by
  cases e:V.rd with
  |nil=>rw[e]at h;cases h
  |cons a b =>rw[e]at hr hz;cases hr;exact Æ.mp hz
 have key:∀u,(Zk (V.br i) p l).held.lookup u=(V.br i).held.lookup u\/(u=p/\(Zk (V.br i) p l).held.lookup u=df (l,l.age)):=λu=>by
  rw[hh];split
  .dsimp only;rw[J9];by_cases e:u=p
   .rw[fm e];exact .inr ⟨e,rfl⟩
   .rw[fo e];exact .inl rfl
  .exact .inl rfl
 refine⟨x.bt,x.no,x.mo,x.fa,x.dn,x.lv,λj hj=>?_,λj hj u hu=>?_,λz hz=>x.rd z<|ż hz,λj hj u m a hma=>?_⟩
 .show _/\_;by_cases e:j=i
  .subst e;let⟨a,b,c,d,o⟩:=x.br j hj;show(up1 V.br j (Zk (V.br j) p l) j).life=_/\(up1 V.br j (Zk (V.br j) p l) j).version=_/\(up1 V.br j (Zk (V.br j) p l) j).label=_/\(up1 V.br j (Zk (V.br j) p l) j).ties=_/\(up1 V.br j (Zk (V.br j) p l) j).ok;rw[up1_s];exact⟨s1.trans a,s2.trans b,s3.trans c,s5.trans d,o.heard⟩
  .show(up1 V.br i (Zk (V.br i) p l) j).life=_/\(up1 V.br i (Zk (V.br i) p l) j).version=_/\(up1 V.br i (Zk (V.br i) p l) j).label=_/\(up1 V.br i (Zk (V.br i) p l) j).ties=_/\(up1 V.br i (Zk (V.br i) p l) j).ok;rw[ZL e];exact x.br j hj
 .show(j,u,Zh (U.br<|1 - j).told u)∈V.rd.eraseIdx 0\/(up1 V.br i (Zk (V.br i) p l) j).held.lookup u=_;rcases x.all j hj u hu with z|z
  .rcases rds _ z with e|e
   .have ej:j=i:=(ů e).1;have eu:u=p:=(ů (ů e).2).1;have el:Zh (U.br<|1 - j).told u=l:=(ů (ů e).2).2;subst ej eu;right;rw[up1_s,el];rw[hh];split
    .dsimp only;rw[J9,fm rfl]
    .rename_i nt;unfold YJ at nt;cases w:(V.br j).held.lookup u with
     |none=>rw[w]at nt;exact fA rfl nt
     |some y =>
      rw[w]at nt;let⟨m,a⟩:=y;rcases x.held j hj u m a w with⟨e1,e2⟩|e1
      .rw[el]at e1;rw[e2,e1]
      .rw[el]at e1;exact fA (lex_lt.mpr e1) nt
   .exact .inl e
  .right;by_cases ej:j=i
   .subst ej;rw[up1_s];rcases key u with e|⟨e1,e2⟩
    .rw[e];exact z
    .subst e1;rcases hl with e|e
     .rw[e2,e]
     .rw[hh]at e2 ⊢;split
      .rename_i tk;unfold YJ at tk;rw[z]at tk;exact fA (lex_lt.mp tk) λy=>y.irr e
      .exact z
   .rw[ZL ej];exact z
 .replace hma:(up1 V.br i (Zk (V.br i) p l) j).held.lookup u=df (m,a):=hma
  by_cases ej:j=i
  .subst ej;rw[up1_s]at hma;rcases key u with e|⟨e1,e2⟩
   .rw[e]at hma;exact x.held j hj u m a hma
   .rw[e2]at hma;cases hma;subst e1;rcases hl with e|e
    .exact .inl ⟨e,rfl⟩
    .exact .inr e
  .rw[ZL ej]at hma;exact x.held j hj u m a hma
def Rn.comes{V:TW}(x:Rn U V)(hd:U.dn=[])(q:QB U.no U.mo U.bt U.br):∀n,n<=V.rd.length->Rn U (TW.comes n V)
 |0,_=>x
 |n+1,h=>by rw[ZO];refine(x.comes hd q n<|by lia).come hd q ?_;rw[WH n (by lia),Ş];lia
def A3(f:U.fine)(q:QB U.no U.mo U.bt U.br)(h0:Yz U 0)(h1:Yz U 1):Rn U<|(U.tick 0).tick 1:=by
 let⟨K,N,t⟩:=f.two;have b:∀i,i=0\/i=1->((U.tick 0).tick 1).br i=(U.br i).ticked:=λi hi=>by rcases hi with rfl|rfl<;>rfl
 have e1:(U.tick 0).br 1=U.br 1:=rfl;have far:∀i,i=0\/i=1->Yz U i:=λi hi=>by rcases hi with rfl|rfl<;>assumption
 have nm:∀i,(Zh (U.br i).told 0).num=((U.br i).life,(U.br i).count):=λi=>by let⟨f1,f2,f3,f4,f5,f6,f7⟩:=Zu (U.br i).grown<|Zq (U.br i).grown;exact Prod.ext f6 f3
 have ks:∀i,i=0\/i=1->∀p,(U.bt.lookup p).isSome=dh->p∈sortI ((U.br i).ties.map (·.1)):=λi hi p hp=>by refine mem_sortI.mpr ?_;have:=(q.br i hi).2.2.2 p;let⟨c,hc⟩:=Ì.mp hp;rw[hc]at this;exact Ú (f:=(·.1))<|Zd this
 refine⟨rfl,rfl,rfl,rfl,rfl,rfl,λi hi=>?_,λi hi p hp=>.inl ?_,λr hr=>?_,λi hi p l a hl=>?_⟩
 .rw[b i hi];let⟨f1,f2,f3,f4,f5,f6,f7⟩:=Zu (U.br i).grown<|Zq (U.br i).grown;exact⟨f6,rfl,rfl,f2,(f.gd.br i hi).2.2.2.ticked⟩
 .rcases hi with rfl|rfl
  .refine Í _ (Ð.mpr ⟨p,í.mpr ⟨?_,hp⟩,?_⟩)
   .rw[e1];exact ks 1 (.inr rfl) p hp
   .rw[e1];rfl
  .exact õ _<|Í _<|Ð.mpr ⟨p,í.mpr ⟨ks 0 (.inl rfl) p hp,hp⟩,rfl⟩
 .rcases æ.mp hr with hr|hr
  .rcases æ.mp hr with hr|hr
   .obtain⟨a,c,_,d⟩:=t.road r hr;refine⟨a,c,.inr ?_⟩;have:=d.num
    rwa [<-nm]at this
   .obtain⟨p,hp,rfl⟩:=Ð.mp hr;exact⟨.inr rfl,(í.mp hp).2,.inl rfl⟩
  .obtain⟨p,hp,rfl⟩:=Ð.mp hr;refine⟨.inl rfl,(í.mp hp).2,.inl ?_⟩;rw[e1];rfl
 .rw[b i hi]at hl
  replace hl:(U.br i).told.held.lookup p=df (l,a):=hl
  rw[(Y9<|U.br i).1]at hl;let⟨a',w1,_,_⟩:=Yo<|Zd hl;have hp:(U.bt.lookup p).isSome=dh:=by have:=(f.gd.br i hi).2.2.2.sub _ w1;let⟨v,hv⟩:=Ì.mp this;exact far i hi _<|Zd hv
  have:=((t.br i hi).held _ w1 hp).num;right
  rwa [<-nm]at this
def Uo(f:U.fine)(hd:U.dn=[])(h0:Yz U 0)(h1:Yz U 1):Rnd U.bt U.br U.round.br/\U.round.bt=U.bt/\U.round.no=U.no/\U.round.mo=U.mo/\U.round.dn=U.dn/\Yz U.round 0/\Yz U.round 1:=by
 have q:=AV f hd h0 h1;have r:=(A3 f q h0 h1).comes hd q _<|Ê _;have er:U.round.rd=[]:=f.round.2;change Rn U U.round at r;refine⟨⟨λi hi=>⟨(r.br i hi).1,(r.br i hi).2.1,(r.br i hi).2.2.1⟩,λi hi p=>?_⟩,r.bt,r.no,r.mo,r.dn,λz hz=>?_,λz hz=>?_⟩
 .split
  .rename_i hp;rcases r.all i hi p hp with z|z
   .rw[er]at z;cases z
   .exact z
  .rename_i hp;cases e:(U.round.br i).held.lookup p with
   |none=>rfl
   |some v =>have:=(r.br i hi).2.2.2.2.sub _<|Zd e;rw[(r.br i hi).2.2.2.1,(q.br i hi).2.2.2,ŀ]at this;exact fA this hp
 .rw[(r.br 0<|.inl rfl).2.2.2.1]at hz;rw[r.bt];exact h0 z hz
 .rw[(r.br 1<|.inr rfl).2.2.2.1]at hz;rw[r.bt];exact h1 z hz
abbrev TW.fdn(W:TW)(i:Int):TW:={W with br:=up1 W.br i (dnB (W.br i) ((W.fa i).map (·.1)))}
def TW.fine.fdn(f:W.fine){i:Int}(hi:i=0\/i=1):(W.fdn i).fine/\Yz (W.fdn i) i/\∀j,j≠i->Yz W j->Yz (W.fdn i) j:=by
 let⟨K,N,t⟩:=f.two;have g:=f.gd;let⟨a,b,c,o⟩:=g.br i hi;let⟨s,o2,hh,ht,hl⟩:=Nv ((W.fa i).map (·.1)) o;have e:(W.fdn i).br i=dnB (W.br i) ((W.fa i).map (·.1)):=up1_s;have en:∀j,j≠i->(W.fdn i).br j=W.br j:=λj n=>ZL n;refine⟨⟨⟨g.cs.to,λj hj=>?_,λj hj p hp=>?_,λj hj q hq=>?_⟩,K,N,t.sm hi s hh λq hq=>(t.br i hi).ties q<|ht q hq⟩,λq hq=>?_,λj n h q hq=>?_⟩
 .by_cases z:j=i
  .rw[z,e];exact⟨s.n.trans a,s.m.trans b,s.l.trans c,o2⟩
  .rw[en j z];exact g.br j hj
 .replace hp:(W.bt.lookup p).isSome=dh:=hp
  show(((W.fdn i).br j).ties.lookup p).isSome=fB (p∉W.dn);by_cases z:j=i
  .have:p∉(W.fa i).map (·.1):=λy=>by
    let⟨q,hq,rfl⟩:=Ð.mp y;rw[(g.cs.rf i hi q hq).2.2]at hp;cases hp
   rw[z,e,hl,fw this,Ż];exact g.td i hi p hp
  .rw[en j z];exact g.td j hj p hp
 .show(W.bt.lookup q.1).isSome=dh\/q.1∈(W.fa j).map (·.1);by_cases z:j=i
  .rw[z,e]at hq;rw[z];exact g.tk i hi q<|ht q hq
  .rw[en j z]at hq;exact g.tk j hj q hq
 .rw[e]at hq;rcases g.tk i hi q (ht q hq)with z|z
  .exact z
  .have:=hl q.1;rw[ft λy=>y z,Bool.and_false]at this;let⟨v,hv⟩:=Zw (Ú (f:=(·.1)) hq);rw[hv]at this;cases this
 .rw[en j n]at hq;exact h q hq
def O8(f:U.fine)(hd:U.dn=[])(h0:Yz U 0)(h1:Yz U 1)(c p:Int):Stg U.no U.mo U.bt c p 0 U.br:=by let⟨K,N,t⟩:=f.two;have m0:=f.gd.cs.m0;refine⟨AV f hd h0 h1,λi hi p l a hl _=>?_,λz=>fA z (by decide),λz=>fA z (by lia),λz=>fA z (by lia),λz=>fA z<|by lia⟩;exact(t.br i hi).ages _ (Zd hl)
section
variable {A:A21}{W:TW}
def UR(x:WL h<|mem A W)(f:W.fine)(hR:W.rd.length<700000)(k:∀B g U c p,Mo h A W g B U->U.fine->U.dn=[]->Stg U.no U.mo U.bt c p (U.mo+14) U.br->XC [c,p] (U.bt.map λq=>[q.2,q.1])->Q .non g):wF P (n+7) "_law_quiet" [.ref A.s] h Q X:=by
 have h0:=x.get 0 rfl;have h7:=x.get 7 rfl;refine KS ?_
 exists Zb h0 rfl (v:=.ref A.dn) rfl
 refine ls_lst h7 ?_;refine Ze λl hl=>?_;have el:=Ext.new (o:=.lst<|W.dn.map Val.int) hl;have gl:upd h l (.lst<|W.dn.map Val.int) l=df (.lst<|W.dn.map Val.int):=dm;have nl:=x.new hl;have m0:Mo h A W (upd h l<|.lst<|W.dn.map Val.int) A W:=⟨rfl,x.ext el,Fr.ext el⟩
 generalize upd h l (.lst<|W.dn.map Val.int)=g1 at *;refine' Zm (λj e g=>Sm3 λv B V=>Cj5 (e=[df<|.ref A.s,v,dg,dg]) (Mo g1 A W g B V) (V.fine) (V.dn=W.dn.drop j)<|V.rd=W.rd) ⟨dg,A,W,rfl,Mo.refl m0.wl,f,rfl,rfl⟩ (λ_ _ _ _ ⟨_,_,_,_,m,_,_,_⟩=>lsE<|m.fr.get nl gl) ?_ ?_
 .rintro j v e g hv ⟨v1,B,V,rfl,m,fv,dv,rv⟩ K hK;let⟨p,hp,rfl⟩:=ZV hv;have hj:=(Ò.mp hp).1;have hd:W.dn.drop j=p::W.dn.drop (j+1):=by
   rw[ę hj];congr 1;exact(Ò.mp hp).2
  have hpm:p∈V.dn:=by rw[dv,hd];exact Ý
  let⟨c,hc⟩:=Ì.mp<|fv.gd.cs.db p hpm;fail;rw[<-m.s];refine Jk m.wl fv.gd hc λB2 g2 m2=>?_;refine' hK _ _ ⟨_,B2,V.turn p c,by rw[<-m.s],m.trans m2,fv.turn hc,?_,?_⟩
  .unfold TW.turn;rw[fm hpm];show V.dn.erase p=_;rw[dv,hd,List.erase_cons_head]
  .unfold TW.turn;rw[fm hpm];exact rv
 .rintro e g ⟨v1,B,V,rfl,m,fv,dv,rv⟩;rw[Á,List.drop_length]at dv;have m1:=m0.trans m;clear m;refine' ⟨by decide,?_⟩;rw[show dY 0 2=[.int ((0:Nat):Int),.int ((1:Nat):Int)] from rfl];refine Zm (λj e g=>Sm4 λv1 v2 B U=>Cj7 (e=[df<|.ref A.s,v1,v2,dg]) (Mo h A W g B U) (U.fine) (U.dn=[]) (U.rd=W.rd) ((1<=j->Yz U 0))<|(2<=j->Yz U 1)) ⟨_,_,B,V,rfl,m1,fv,dv,rv,λz=>fA z (by decide),λz=>fA z<|by decide⟩ (λ_ _ _ _ _=>trivial) ?_ ?_
  .rintro j v e g hv ⟨v1,v2,B,U,rfl,m,fu,du,ru,z0,z1⟩ K hK;have hj:(j=0/\v=.int ((0:Nat):Int))\/(j=1/\v=.int ((1:Nat):Int)):=by
    match j,hv with
    |0,hv=>exact .inl ⟨rfl,(ë hv).symm⟩
    |1,hv=>exact .inr ⟨rfl,(ë hv).symm⟩
   obtain⟨i,hi,aL,rfl⟩:∃i:Int,(i=0\/i=1)/\i=(j:Int)/\v=.int i:=by
    rcases hj with⟨rfl,rfl⟩|⟨rfl,rfl⟩
    .exact⟨0,.inl rfl,rfl,rfl⟩
    .exact⟨1,.inr rfl,rfl,rfl⟩
   have xw:=m.wl;have a0:=xw.get 0 rfl;have a4:=xw.get 4 rfl;have a9:=xw.get 9 rfl;have ef:∃F,atI [Val.ref B.f0,.ref B.f1] i=df (.ref F)/\g F=df (.dct<|Zc Zt<|U.fa i)/\B.s≠F/\B.bl≠F/\B.b i≠F/\B.t i≠F/\B.d i≠F:=by
    rcases hi with rfl|rfl
    .exact⟨B.f0,rfl,xw.get 5 rfl,xw.ne 0 5 rfl rfl (by decide),xw.ne 9 5 rfl rfl (by decide),xw.ne 10 5 rfl rfl (by decide),xw.ne 11 5 rfl rfl (by decide),xw.ne 12 5 rfl rfl<|by decide⟩
    .exact⟨B.f1,rfl,xw.get 6 rfl,xw.ne 0 6 rfl rfl (by decide),xw.ne 9 6 rfl rfl (by decide),xw.ne 13 6 rfl rfl (by decide),xw.ne 14 6 rfl rfl (by decide),xw.ne 15 6 rfl rfl<|by decide⟩
   let⟨F,elF,hF,n0,n9,nb,nt,nd⟩:=ef;let⟨ff,fF,fO⟩:=fu.fdn hi;have mp:((Zc Zt<|U.fa i).map<|itemOf dh)=((U.fa i).map (·.1)).map Val.int:=by unfold Zc;rw[ą,ą];rfl
   have ups:upd (upd g F<|.frz<|Zc Zt<|U.fa i) F (.dct<|Zc Zt<|U.fa i)=g:=by
    rw[dq];funext a;by_cases z:a=F
    .subst z;rw[dm,hF]
    .rw[dj z]
   fail;rw[<-m.s];refine Zb a0 rfl (v:=.ref B.fl) rfl ?_
   exists Zi a4 elF
   fail;rw[mp];refine Zm (λj e g2=>∃v1 C,e=[df<|.ref B.s,v1,df<|.int i,dg]/\g2 F=df (.frz<|Zc Zt<|U.fa i)/\C.b=B.b/\C.bl=B.bl/\C.t=B.t/\C.d=B.d/\Mo g B U (upd g2 F<|.dct<|Zc Zt<|U.fa i) C {U with br:=up1 U.br i (dnB (U.br i) (((U.fa i).map (·.1)).take j))}) ⟨_,B,rfl,dm,rfl,rfl,rfl,rfl,?_⟩ (λ_ _ _ _ ⟨_,_,_,z,_⟩=>z) ?_ ?_
   .rw[ups,Ű];show Mo g B U g B {U with br:=up1 U.br i (U.br i)};rw[Jc];exact Mo.refl xw
   .rintro j2 v e g2 hv ⟨w1,C,rfl,zF,eb,ebl,et,ed,m2⟩ K2 hK2;let⟨p,hp,rfl⟩:=ZV hv;have un:∀{a:Ad}{o:Ob},a≠F->upd g2 F (.dct<|Zc Zt<|U.fa i) a=df o->g2 a=df o:=λna z=>by rw[dj na]at z;exact z
    have c0:=un n0 (by have:=m2.wl.get 0 rfl;rw[m2.s]at this;exact this);have c9:=un n9 (by have:=m2.wl.get 9 rfl;rw[<-ebl];exact this);have xb:=m2.wl.br hi;rw[eb,et,ed]at xb;have yb:dD g2 (B.b i) (B.t i) (B.d i) (({U with br:=up1 U.br i (dnB (U.br i) (((U.fa i).map (·.1)).take j2))}:TW).br i):=⟨un nb xb.ins,un nt xb.ties,un nd xb.held,xb.ne⟩
    have aA:=yb.ins
    exists Zb c0 rfl (v:=.ref C.bl) rfl
    fail;rw[ebl];refine Zi c9 (by rw[eb];exact at2 hi (f:=λj=>.ref<|B.b j)) ?_;refine' Wc yb λg3 y e=>?_;rw[show({U with br:=up1 U.br i (dnB (U.br i) (((U.fa i).map (·.1)).take j2))}:TW).br i=dnB (U.br i) (((U.fa i).map (·.1)).take j2) from up1_s]at y;have zF3:g3 F=df (.frz<|Zc Zt<|U.fa i):=e.get (by simp[nt.symm,nd.symm]) zF;have y2:dD (upd g3 F<|.dct<|Zc Zt<|U.fa i) (C.b i) (C.t i) (C.d i) (Z2 (dnB (U.br i) (((U.fa i).map (·.1)).take j2)) p):=by rw[eb,et,ed];exact⟨upd_ne' nb y.ins,upd_ne' nt y.ties,upd_ne' nd y.held,y.ne⟩
    have e2:Ex [C.b i,C.t i,C.d i] (upd g2 F<|.dct<|Zc Zt<|U.fa i)<|upd g3 F<|.dct<|Zc Zt<|U.fa i:=⟨λ{a o} na z=>by
      rw[eb,et,ed]at na
      by_cases w:a=F
      . subst w;rw[dm]at z ⊢;exact z
      . rw[dj w]at z ⊢
        exact e.get (by simp at na ⊢;exact na.2) z⟩
    let⟨x3,f3,_⟩:=m2.wl.setBr hi (B:=Z2 (dnB (U.br i) (((U.fa i).map (·.1)).take j2)) p) y2 e2 (.inl rfl)<|.inl rfl;dsimp only at x3 f3;rw[Wa]at x3 f3;have eq:dnB (U.br i) (((U.fa i).map (·.1)).take<|j2+1)=Z2 (dnB (U.br i) (((U.fa i).map (·.1)).take j2)) p:=by unfold dnB;rw[Zx hp,ź];rfl
    refine' hK2 _ _ ⟨_,{C with t:=up1 C.t i<|C.t i,d:=up1 C.d i (C.d i)},rfl,zF3,eb,ebl,?_,?_,m2.trans ⟨rfl,?_,?_⟩⟩
    .show up1 C.t i (C.t i)=B.t;rw[Jc,et]
    .show up1 C.d i (C.d i)=B.d;rw[Jc,ed]
    .rw[eq];exact x3
    .rw[eq];exact f3
   .rintro e g2 ⟨w1,C,rfl,zF,eb,ebl,et,ed,m2⟩;rw[Á,Ċ]at m2;refine⟨zF,?_⟩;refine' hK _ _ ⟨_,_,C,U.fdn i,by rw[m.s],m.trans m2,ff,du,ru,λ_=>?_,λz2=>?_⟩
    .rcases hi with rfl|rfl
     .exact fF
     .exact fO 0 (by decide) (z0<|by lia)
    .have:i=1:=by lia
     subst this;exact fF
  .rintro e g ⟨v1,v2,B,U,rfl,m,fu,du,ru,z0,z1⟩;have z0:=z0 (by decide);have z1:=z1 (by decide);have a0:=m.wl.get 0 rfl;have cs:=fu.gd.cs;have m0:=cs.m0;have m200:=cs.m1;obtain⟨c,p,hb⟩:∃c p,XC [c,p] (U.bt.map λq=>[q.2,q.1]):=by
    cases e:U.bt with
    |nil=>exact fA e cs.bn
    |cons y r =>
     have:=Xj (r.map λq=>[q.2,q.1]) [y.2,y.1];rw[È];obtain⟨q,hq,e2⟩:∃q:Int×Int,q∈y::r/\[q.2,q.1]=minR [y.2,y.1] (r.map λq=>[q.2,q.1]):=by have h1:=this.1;rw[<-È (f:=λq:Int×Int=>[q.2,q.1])]at h1;let⟨q,hq,e2⟩:=Ð.mp h1;exact⟨q,hq,e2⟩
     refine⟨q.2,q.1,?_⟩;rw[e2];exact this
   fail;rw[<-m.s];refine Zb a0 rfl (v:=.int U.mo) rfl ?_;refine' ⟨⟨by lia,by lia⟩,?_⟩;rw[show U.mo+14=(((U.mo+14).toNat:Nat):Int) by lia,EI];refine Zm (λj e g=>∃v1 v2 v3 C V,e=[df<|.ref B.s,v1,v2,v3]/\Mo h A W g C V/\V.fine/\V.dn=[]/\V.bt=U.bt/\V.no=U.no/\V.mo=U.mo/\Yz V 0/\Yz V 1/\V.rd.length<700000/\Stg V.no V.mo V.bt c p (j:Nat) V.br) ⟨_,_,_,B,U,rfl,m,fu,du,rfl,rfl,rfl,z0,z1,by rw[ru];exact hR,O8 fu du z0 z1 c p⟩ (λ_ _ _ _ _=>trivial) ?_ ?_
   .rintro j v e g hv ⟨v1,v2,v3,C,V,rfl,m2,fv,dv,ebt,eno,emo,y0,y1,rl,st⟩ K hK;fail;rw[show B.s=C.s by rw[m.s,m2.s]];refine J3 m2.wl fv.sv (by lia) λC2 g2 m3=>?_;let⟨rr,r1,r2,r3,r4,r5,r6⟩:=Uo fv dv y0 y1;have fr:=fv.round;refine' hK _ _ ⟨v1,v2,df v,C2,V.round,by rw[show B.s=C.s by rw[m.s,m2.s]],m2.trans m3,fr.1,r4.trans dv,r1.trans ebt,r2.trans eno,r3.trans emo,r5,r6,by rw[fr.2];exact(by decide),?_⟩;have qn:=AV fr.1 (r4.trans dv) r5 r6;have:=st.next (by rw[eno];exact cs.n1) (by rw[emo];lia) (by rw[ebt];exact hb) (by rw[ebt];exact cs.nb) rr (by rw[<-r1,<-r2,<-r3];exact qn);rw[r1,r2,r3];exact this
   .rintro e g ⟨v1,v2,v3,C,V,rfl,m2,fv,dv,ebt,eno,emo,y0,y1,rl,st⟩;rw[Á,Ą]at st;refine' k C g V c p m2 fv dv ?_ (by rw[ebt];exact hb);rw[show V.mo+14=(((U.mo+14).toNat:Nat):Int) by lia];exact st
end
def Ub(h:rows≠[]):∃m r,sortR rows=m::r/\XC m rows:=by
 have pm:(sortR rows).Perm rows:=Ō _ _;have pw:(sortR rows).Pairwise λa b=>(!d7 b a)=dh:=ι (λa b c h1 h2=>by
   have h1:d7 b a=di:=⇑h1
   have h2:d7 c b=di:=⇑h2
   rw[We h1 h2];rfl) (λa b=>by
   cases e:d7 b a with
   |false=>rfl
   | true=>rw[Yw e];rfl) rows
 cases e:sortR rows with
 |nil=>rw[e]at pm;exact fA pm.symm.eq_nil h
 |cons m r =>
  rw[e]at pm pw;refine⟨m,r,rfl,pm.mem_iff.mp Ý,λy hy=>?_⟩;rcases Æ.mp (pm.mem_iff.mpr hy)with rfl|hy
  .cases q:d7 y y with
   |false=>rfl
   |true=>have:=Yw q;rw[q]at this;cases this
  .simpa using (cI.mp pw).1 y hy
def N4:∀l:List<|Int×Int,rowsOf (l.map λq=>Val.tup [.int q.2,.int q.1])=df (l.map λq=>[q.2,q.1])
 |[]=>rfl
 |q::l=>by rw[È,È];show(dA [Val.int q.2,.int q.1]).bind _=_;rw[show dA [Val.int q.2,.int q.1]=df [q.2,q.1] from rfl,ï,N4 l];rfl
section
variable {A:A21}{W:TW}{p:Int}
def Mg(x:WL h<|mem A W)(cs:W.cs)(st:Stg W.no W.mo W.bt c p (W.mo+14) W.br)(hb:XC [c,p]<|W.bt.map λq=>[q.2,q.1])(k:∀g,Ext h g->Q (.bl dh) g):wF P (n+6) "_law_settled" [.ref A.s] h Q X:=by
 have m0:=cs.m0;have s3:=st.s3 (by lia);let⟨fs,al⟩:=st.fs (by lia);have ends:=λu hu=>Ej st.qb fs al s3 (u:=u) hu;let⟨⟨e0,e1,_⟩,_⟩:=s3;have h0:=x.get 0 rfl;have h1:=x.get 1 rfl;have h3:=x.get 3 rfl;have h9:=x.get 9 rfl;have b0:=x.br (i:=0)<|.inl rfl;have b1:=x.br (i:=1)<|.inr rfl;have i0:=b0.ins;have i1:=b1.ins;have n03:A.s≠A.be:=x.ne 0 3 rfl rfl (by decide);have n93:A.bl≠A.be:=x.ne 9 3 rfl rfl (by decide);have lb:=KG cs;have mp:((Zc Val.int W.bt).map<|itemOf dh)=W.bt.map λq=>Val.int q.1:=by unfold Zc;rw[ą];rfl
 refine Jo ?_
 exists Zb h0 rfl (v:=.ref A.bl) rfl
 exists dy (lsE h9)
 refine dy rfl ?_
 exists Zb h0 rfl (v:=.ref A.nu) rfl
 refine' ⟨A.be,Zc Val.int W.bt,h3,?_⟩
 exists Zb h0 rfl (v:=.ref A.be) rfl
 refine' ⟨by unfold Zc;rw[Á,Á];exact ó lb (by decide),?_⟩;rw[mp];refine GP (λq:Int×Int=>Val.tup [.int q.2,.int q.1]) dm ?_ ?_
 .intro q hq K hK;have a0:=upd_ne' (o:=.frz<|Zc Val.int W.bt) n03 h0;have a3:upd h A.be (.frz<|Zc Val.int W.bt) A.be=df (.frz<|Zc Val.int W.bt):=dm;generalize upd h A.be (.frz<|Zc Val.int W.bt)=g at a0 a3 hK ⊢;fail;rw[fm rfl];change wE _ _ [df<|.int q.1,df<|.ref A.s] _ _ _
  exists Zb a0 rfl (v:=.ref A.be) rfl
  refine' MP a3 rfl (by rw[Yn,Zr cs.nb (k:=q.1) (v:=q.2) hq];rfl) ?_;refine' hK
 refine Ze λl hl=>?_;have hlh:h l=dg:=by
  by_cases z:l=A.be
  .subst z;rw[dm]at hl;cases hl
  .rw[dj z]at hl;exact hl
 have nlb:A.be≠l:=Za h3 hlh;have bn:W.bt≠[]:=cs.bn;have i00:dA (W.bt.map λq=>Val.tup [.int q.2,.int q.1])=dg:=by
  cases e:W.bt with
  |nil=>exact fA e bn
  |cons a b=>rfl
 refine DP dm i00 (N4 W.bt) ⟨by rw[Á];lia,Ă.mpr λr hr=>by let⟨q,_,rfl⟩:=Ð.mp hr;rfl⟩<|Ze λr hr=>?_;let⟨m,rs,em,lm⟩:=Ub (rows:=W.bt.map λq=>[q.2,q.1]) ⇑bn;have emc:m=[c,p]:=lex_eq (hb.2 _ lm.1)<|lm.2 _ hb.1;subst emc;have hrh:h r=dg:=by
  have:r≠l:=λz=>by subst z;rw[dm]at hr;cases hr
  rw[dj this]at hr;by_cases z:r=A.be
  .subst z;rw[dm]at hr;cases hr
  .rw[dj z]at hr;exact hr
 have nrb:A.be≠r:=Za h3 hrh;rw[em];refine' Zi dm (v:=.tup [.int c,.int p]) (by
   unfold atI ixN
   rw[fm (by decide),fm<|by rw[Á,Î];lia]
   rfl) ?_
 refine' ⟨upd_ne' nrb<|upd_ne' nlb dm,?_⟩;have e2:∀{o1 o2 o3:Ob},Ext h (upd (upd (upd (upd h A.be o1) l o2) r o3) A.be<|.dct<|Zc Val.int W.bt):=λ{o1 o2 o3}=>⟨λ{a o} e=>by
   by_cases z:a=A.be
   . subst z;rw[dm,<-e];exact h3.symm
   . rw[dj z,dj<|Za e hrh,dj<|Za e hlh,dj z];exact e⟩
 have e2:=e2 (o1:=.frz<|Zc Val.int W.bt) (o2:=.lst<|W.bt.map λq=>Val.tup [.int q.2,.int q.1]) (o3:=.lst<|([c,p]::rs).map λr=>.tup<|r.map Val.int);generalize upd (upd (upd (upd h A.be<|.frz<|Zc Val.int W.bt) l<|.lst<|W.bt.map λq=>Val.tup [.int q.2,.int q.1]) r<|.lst<|([c,p]::rs).map λr=>.tup<|r.map Val.int) A.be (.dct<|Zc Val.int W.bt)=g at e2 ⊢;have j0:=b0.ext e2;have j1:=b1.ext e2;have k0:=j0.ins;have k1:=j1.ins;have g0:=e2.get h0;have g3:=e2.get h3;have g9:=e2.get h9
 exists Ym j0
 rw[e0];refine' Km 1 (v:=.tup [.int<|W.no 0,.int 0,.non,.non]) (λz hz=>by simp![Æ,Õ,or_false]at hz;rcases hz with rfl|rfl|rfl|rfl<;>trivial) ?_;walk_at "p";refine Ym j1 ?_;rw[e1]
 exists YL j0
 refine' Km 2 (v:=.tup [.int<|W.no 0,.int c,.int p,pV ((W.br 0).life,(W.br 0).version)]) (λz hz=>by simp![Æ,Õ,or_false]at hz;rcases hz with rfl|rfl|rfl|rfl<;>first|trivial|(intro u hu;simp![Æ,Õ,or_false]at hu;rcases hu with rfl|rfl<;>trivial)) ?_;walk_at "p";refine Zb g0 rfl (v:=.ref A.be) rfl ?_;fail;rw[mp];refine Zm (λj e g2=>∃v4 v7,e=[df<|.ref A.s,df<|.ref<|A.b 0,df<|.ref<|A.b 1,df<|.int<|W.no 0,v4,df<|.int c,df<|.int p,v7]/\ExtB A.be g g2/\g2 A.be=df (.frz<|Zc Val.int W.bt)) ⟨_,_,rfl,ExtB.upd,dm⟩ (λ_ _ _ _ ⟨_,_,_,_,z⟩=>z) ?_ ?_
 .rintro j v e g2 hv ⟨v4,v7,rfl,ee,eb⟩ K hK;let⟨q,hq,rfl⟩:=ZV hv;have hu:(W.bt.lookup q.1).isSome=dh:=by rw[Zr cs.nb (k:=q.1) (v:=q.2)<|å hq];rfl
  let⟨f0,f1⟩:=ends q.1 hu;refine' Ze λd1 hd1=>?_;have y1:upd g2 d1 (.lst [.str "shut",.str "shut"]) d1=df (.lst [.str "shut",.str "shut"]):=dm;have z1:=Ext.new (o:=.lst [.str "shut",.str "shut"]) hd1;generalize upd g2 d1 (.lst [.str "shut",.str "shut"])=g4 at y1 z1 ⊢;refine' Ze λd2 aU=>?_;have y2:upd g4 d2 (.lst [.str "parent",.str "child"]) d2=df (.lst [.str "parent",.str "child"]):=dm;have y12:=(Ext.new (o:=.lst [.str "parent",.str "child"]) aU).get y1;have z2:=z1.trans<|Ext.new (o:=.lst [.str "parent",.str "child"]) aU;generalize upd g4 d2 (.lst [.str "parent",.str "child"])=g5 at y2 y12 z2 ⊢;refine' Ze λd3 hd3=>?_;have y3:upd g5 d3 (.lst [.ref d1,.ref d2]) d3=df (.lst [.ref d1,.ref d2]):=dm;have z3:=z2.trans<|Ext.new (o:=.lst [.ref d1,.ref d2]) hd3;have y13:=(Ext.new (o:=.lst [.ref d1,.ref d2]) hd3).get y12;have y23:=(Ext.new (o:=.lst [.ref d1,.ref d2]) hd3).get y2;have key:∃D a b,atI [Val.ref d1,.ref d2] (if fB (q.1=p)then 1 else 0)=df (.ref D)/\upd g5 d3 (.lst [.ref d1,.ref d2]) D=df (.lst [.str a,.str b])/\a=Zf (W.br 0) q.1/\b=Zf (W.br 1) q.1:=by
   rw[f0,f1];by_cases z:q.1=p
   .rw[fw z,fm z,fm z];exact⟨d2,_,_,rfl,y23,rfl,rfl⟩
   .rw[ft z,fo z,fo z];exact⟨d1,_,_,rfl,y13,rfl,rfl⟩
  let⟨D,a,b,eD,gD,ra,rb⟩:=key;generalize upd g5 d3 (.lst [.ref d1,.ref d2])=g6 at y3 z3 gD ⊢
  exists Zi y3 eD
  have en:ExtB A.be g g6:=ee.trans<|.of z3;have br:∀{b' t' d':Ad}{B:Br},dD g b' t' d' B->b'≠A.be->t'≠A.be->d'≠A.be->dD g6 b' t' d' B:=λy n1 n2 n3=>⟨en.get n1 y.ins,en.get n2 y.ties,en.get n3 y.held,y.ne⟩
  have J0:=br j0 (x.ne 10 3 rfl rfl<|by decide) (x.ne 11 3 rfl rfl<|by decide) (x.ne 12 3 rfl rfl<|by decide);have J1:=br j1 (x.ne 13 3 rfl rfl<|by decide) (x.ne 14 3 rfl rfl<|by decide) (x.ne 15 3 rfl rfl<|by decide);refine' JE (en.get n03 g0) (en.get n93 g9) J0 J1 λq2 Ϲ=>?_;have z4:=Ext.new (o:=.lst [.str<|Zf (W.br 0) q.1,.str<|Zf (W.br 1) q.1]) Ϲ;have gq:upd g6 q2 (.lst [.str<|Zf (W.br 0) q.1,.str<|Zf (W.br 1) q.1]) q2=df (.lst [.str<|Zf (W.br 0) q.1,.str<|Zf (W.br 1) q.1]):=dm;have gD4:=z4.get gD;rw[ra,rb]at gD4;generalize upd g6 q2 (.lst [.str<|Zf (W.br 0) q.1,.str<|Zf (W.br 1) q.1])=g7 at z4 gq gD4 ⊢;refine' BM (d:=0) gq gD4 (λz hz=>by simp![Æ,Õ,or_false]at hz;rcases hz with rfl|rfl<;>trivial) ?_;walk_at "p";exact hK _ _ ⟨_,_,rfl,en.trans<|.of z4,z4.get<|z3.get eb⟩
 .rintro e g2 ⟨v4,v7,rfl,ee,eb⟩;refine⟨eb,?_⟩;refine' k _ (e2.trans ⟨λ{a o} e=>?_⟩);by_cases z:a=A.be
  .subst z;rw[dm,<-e];exact g3.symm
  .rw[dj z];exact ee.get z e
end
def C3{xs:List Val}{v:Val}:atI (xs++[v]) (-1)=df v:=by unfold atI ixN;rw[fo (by decide),fm (by rw[Þ,Γ];lia),ï];rw[show((-1:Int)+((xs++[v]).length:Nat)).toNat=xs.length by rw[Þ,Γ];lia];simp
def law_ok(h63:ns.length<=63)(k:∀g,Q (.bl dh) g):wF P (n+8) "law" [.scr ns] h Q X:=by
 refine IX ?_;refine' Ze λc1 hc1=>?_;have e1:upd h c1 (.lst [.int 7]) c1=df (.lst [.int 7]):=dm;generalize upd h c1 (.lst [.int 7])=g1 at *;fail;rw[K1];have l2:=N7 ns dg<|df 1;refine Ze λc2 bT=>?_;have e2:upd g1 c2 (.lst<|(cut ns dg<|df 1).map Val.int) c2=_:=dm;have e12:=(Ext.new (o:=.lst<|(cut ns dg<|df 1).map Val.int) bT).get e1;generalize upd g1 c2 (.lst<|(cut ns dg<|df 1).map Val.int)=g2 at *;refine' M2 e12 e2 (by rw[Þ,Á];show 1+_<=_;unfold lim;lia) ?_;refine Ze λc3 hc3=>?_;obtain⟨z,xs,ez⟩:∃(z:Int) (xs:List Val),[Val.int 7]++(cut ns dg<|df 1).map Val.int=xs++[.int z]:=by
  rcases List.eq_nil_or_concat (cut ns dg<|df 1)with e|⟨ys,y,e⟩
  .exact⟨7,[],by rw[e];rfl⟩
  .exact⟨y,[Val.int 7]++ys.map Val.int,by rw[e];simp⟩
 rw[ez]
 exists Zi dm C3
 refine' NX λw g3 hw x3 w3=>?_;refine' UE w3 λA W g4 x4 f4 r4=>?_;refine' Ze λc4 hc4=>?_;have x5:=x4.ext<|Ext.new (o:=.lst [.int 1,.int 2,.int 3,.int 4,.int 5]) hc4;have e4:upd g4 c4 (.lst [.int 1,.int 2,.int 3,.int 4,.int 5]) c4=df (.lst [.int 1,.int 2,.int 3,.int 4,.int 5]):=dm;generalize upd g4 c4 (.lst [.int 1,.int 2,.int 3,.int 4,.int 5])=g5 at *;fail;rw[K1];have l5:=N7 ns (df 1)<|df 61;refine Ze λc5 hc5=>?_;have x6:=x5.ext<|Ext.new (o:=.lst<|(cut ns (df 1)<|df 61).map Val.int) hc5;have e5:upd g5 c5 (.lst<|(cut ns (df 1)<|df 61).map Val.int) c5=_:=dm;have e45:=(Ext.new (o:=.lst<|(cut ns (df 1)<|df 61).map Val.int) hc5).get e4;generalize upd g5 c5 (.lst<|(cut ns (df 1)<|df 61).map Val.int)=g6 at *;refine' M2 e45 e5 (by rw[Þ,Á];show 5+_<=_;unfold lim;lia) ?_;rw[show [Val.int 1,.int 2,.int 3,.int 4,.int 5]++(cut ns (df 1)<|df 61).map Val.int=([1,2,3,4,5]++cut ns (df 1) (df 61)).map Val.int by simp];have lc:([1,2,3,4,5]++cut ns (df 1) (df 61)).length<=68:=by rw[Þ];show 5+_<=_;lia
 generalize [1,2,3,4,5]++cut ns (df 1) (df 61)=cells at *;refine Ze λc6 hc6=>?_;have x7:=x6.ext<|Ext.new (o:=.lst<|cells.map Val.int) hc6;have e6:upd g6 c6 (.lst<|cells.map Val.int) c6=df (.lst<|cells.map Val.int):=dm;have n6:=x6.new hc6;generalize upd g6 c6 (.lst<|cells.map Val.int)=g7 at *;refine' Zm (λj e g=>∃v1 v2 v3 v4 v5 B V,e=[v1,v2,df<|.ref A.s,v3,v4,v5]/\B.s=A.s/\WL g (mem B V)/\V.fine/\g c6=df (.lst<|cells.map Val.int)/\c6∉(mem B V).map (·.1)/\V.rd.length<=48*j) ⟨_,_,_,_,_,A,W,rfl,rfl,x7,f4,e6,n6,by rw[r4];exact Ĥ _⟩ (λ_ _ _ _ ⟨_,_,_,_,_,_,_,_,_,_,_,z,_⟩=>lsE z) ?_ ?_
 .rintro j v e g hv ⟨v1,v2,v3,v4,v5,B,V,rfl,es,xb,fv,gc,nc,rl⟩ K hK;let⟨cell,hcell,rfl⟩:=ZV hv;have hj:j<68:=ß (Ò.mp hcell).1 lc;refine' NX λw2 g8 hw2 x8 w8=>?_;have xb8:=xb.ext x8;have gc8:=x8.get gc;have nw2:w2∉(mem B V).map (·.1):=xb.new hw2;have nwc:c6≠w2:=Za gc hw2;refine' Zg w8 (by decide) (by decide) λr g9 r0 r1 e9 w9=>?_;refine' ⟨⟨by lia,by lia⟩,?_⟩;refine Zm (λi e g=>Sm3 λu5 C U=>Cj9 (e=[v1,v2,df<|.ref A.s,df<|.int cell,df<|.ref w2,u5]) (C.s=A.s) (WL g<|mem C U) (U.fine) (g c6=df (.lst<|cells.map Val.int)) (c6∉(mem C U).map (·.1)) (U.rd.length<=48*j+16*i) (Well g w2) (w2∉(mem C U).map (·.1))) ⟨_,B,V,rfl,es,xb8.exb nw2 e9,fv,e9.get nwc gc8,nc,by lia,w9,nw2⟩ (λ_ _ _ _ _=>trivial) ?_ ?_
  .rintro i v e g hv2 ⟨u5,C,U,rfl,ec,xc,fu,gcu,ncu,rlu,wu,nwu⟩ K2 hK2;have hi:i<3:=by
    have:=(Ò.mp hv2).1;unfold dY at this;rw[Á,Ą]at this;lia
   fail;rw[<-ec];refine AT xc wu nwu fu (by lia) λD g10 U2 m f2 l2=>?_;let⟨gc2,nc2⟩:=m.fr c6 _ nwc ncu gcu;let⟨K',N',t'⟩:=f2.two;fail;rw[<-m.s];refine Ow m.wl t' f2.gd λg11 e11=>?_;let⟨wa,wb,we⟩:=m.well;walk_at "p";refine hK2 _ _ ⟨_,D,U2,by rw[m.s,ec],m.s.trans ec,m.wl.ext e11,f2,e11.get gc2,nc2,by lia,⟨wa,wb,e11.get we⟩,m.out⟩
  .rintro e g ⟨u5,C,U,rfl,ec,xc,fu,gcu,ncu,rlu,wu,nwu⟩;have hl:(dY 0<|1+r).length<=3:=by
    unfold dY;rw[Á,Ą];lia
   refine' hK _ _ ⟨_,_,_,_,_,C,U,rfl,ec,xc,fu,gcu,ncu,by lia⟩
 .rintro e g ⟨v1,v2,v3,v4,v5,B,V,rfl,es,xb,fv,gc,nc,rl⟩;rw[Á]at rl;fail;rw[<-es];refine UR xb fv (by lia) λC g8 U c p m fu du st hb=>?_;fail;rw[<-m.s];refine Mg m.wl fu.gd.cs st hb λg9 e9=>?_;let⟨K',N',t'⟩:=fu.two;walk_at "p";exact Ow (m.wl.ext e9) t' fu.gd λg10 e10=>k g10
end O
set_option maxRecDepth 1000000
set_option maxHeartbeats 0
namespace My
open PySem L2 Snd PySem.W
abbrev top(i:Nat):Stmt:=PySem.Challenge.pw_shutways_k21_whole_two_bridges_agree.main.body.getD i<|.Pass ⟨0,0,0,0⟩
abbrev inC:Stmt->Nat->Stmt
 |.ClassDef _ _ _ b _ _ _ _ _ _ _,j=>b.getD j<|.Pass ⟨0,0,0,0⟩
 |s,_=>s
abbrev dk(s:Stmt)(N:List Str)(d:O.Fn):Ds:=⟨s,N,N.take d.ar,d⟩
abbrev x0:Ds:=dk (top 0) ["k"] O.Qj
abbrev x1:Ds:=dk (top 9) ["one","other"] O.Qw
abbrev x2:Ds:=dk (top 11) ["bridge","offers","better"] O.QX
abbrev x3:Ds:=dk (top 15) ["cell"] O.Qx
abbrev x4:Ds:=dk (top 16) ["well","many","got","stirred"] O.QD
abbrev x5:Ds:=dk (top 17) ["got","due","one","other"] O.QQ
abbrev x6:Ds:=dk (top 18) ["well"] O.QU
abbrev x7:Ds:=dk (top 19) ["well","left","numbers","others","found","k","place"] O.QG
abbrev x8:Ds:=dk (top 20) ["state","which","other","handed","place","neighbour","cost"] O.QM
abbrev x9:Ds:=dk (top 21) ["well","low","high","left","between","k","place","far","lives","most","state"] O.QS
abbrev x10:Ds:=dk (top 22) ["state","which","place","letter"] O.Qz
abbrev x11:Ds:=dk (top 23) ["state","at","which","place","letter"] O.QN
abbrev x12:Ds:=dk (top 24) ["state","k"] O.QP
abbrev x13:Ds:=dk (top 25) ["well","state","which","places","place","life","number","stamp","root","pairs","age","rests","letter"] O.QF
abbrev x14:Ds:=dk (top 26) ["state","place","one","other"] O.Qy
abbrev x15:Ds:=dk (top 27) ["state","which","other","place","there"] O.QK
abbrev x16:Ds:=dk (top 28) ["well","state","kind","which","last","at","places"] O.QC
abbrev x17:Ds:=dk (top 29) ["state","place","one","other"] O.QE
abbrev x18:Ds:=dk (top 30) ["state","place","ends","end","child","parent"] O.QH
abbrev x19:Ds:=dk (top 31) ["state","children","place","ends","k"] O.QJ
abbrev x20:Ds:=dk (top 32) ["state","place","which","k"] O.QL
abbrev x21:Ds:=dk (top 33) ["state","one","other","low","place","cost","up","due"] O.QR
abbrev x22:Ds:=dk (top 34) ["script","cells","state","cell","well","k"] O.QW
abbrev z0:Ds:=dk (inC (top 13) 0) ["self","number","life","ties","greatest","place","neighbour","cost"] O.P0
abbrev z1:Ds:=dk (inC (top 13) 1) ["self"] O.QZ
abbrev z2:Ds:=dk (inC (top 13) 2) ["self"] O.P3
abbrev z3:Ds:=dk (inC (top 13) 3) ["self"] O.P7
abbrev z4:Ds:=dk (inC (top 13) 4) ["self","place"] O.PV
abbrev z5:Ds:=dk (inC (top 13) 5) ["self","place","neighbour","cost"] O.QY
abbrev z6:Ds:=dk (inC (top 13) 6) ["self","place"] O.PZ
abbrev z7:Ds:=dk (inC (top 13) 7) ["self","place","letter","held"] O.PX
abbrev z8:Ds:=dk (inC (top 13) 8) ["self","letters"] O.P9
abbrev z9:Ds:=dk (inC (top 13) 9) ["self","older","place","held"] O.P4
abbrev z10:Ds:=dk (inC (top 13) 10) ["self","offers","place","held","neighbour","cost","best","root"] O.P6
abbrev z11:Ds:=dk (inC (top 13) 11) ["self","label"] O.P8
abbrev z12:Ds:=dk (inC (top 13) 12) ["self","place","root","cost","over","rests","age","ahead"] O.P5
abbrev z13:Ds:=dk (inC (top 13) 13) ["self","place","held"] O.P2
abbrev z14:Ds:=dk (inC (top 13) 14) ["self","place","held"] O.P1
abbrev z15:Ds:=dk (inC (top 13) 15) ["self","place"] O.PY
abbrev tb:Tb where
 fs:=[("_wall",x0),("newer",x1),("best_offer",x2),("_law_well",x3),("_law_draw",x4),("_law_same",x5),("_law_cost",x6),("_law_far_ties",x7),("_law_begun",x8),("_law_state",x9),("_law_tick",x10),("_law_come",x11),("_law_round",x12),("_law_far_letter",x13),("_law_turned",x14),("_law_anew",x15),("_law_deed",x16),("_law_ends",x17),("_law_fits",x18),("_law_all_fit",x19),("_law_quiet",x20),("_law_settled",x21),("law",x22)]
 ms:=[⟨"Bridge","__init__","Bridge.__init__",z0⟩,⟨"Bridge","twin","Bridge.twin",z1⟩,⟨"Bridge","label","Bridge.label",z2⟩,⟨"Bridge","stamp","Bridge.stamp",z3⟩,⟨"Bridge","held","Bridge.held",z4⟩,⟨"Bridge","up","Bridge.up",z5⟩,⟨"Bridge","down","Bridge.down",z6⟩,⟨"Bridge","hear","Bridge.hear",z7⟩,⟨"Bridge","tick","Bridge.tick",z8⟩,⟨"Bridge","let_grow_older","Bridge.let_grow_older",z9⟩,⟨"Bridge","reckon_label","Bridge.reckon_label",z10⟩,⟨"Bridge","take_label","Bridge.take_label",z11⟩,⟨"Bridge","letter_over","Bridge.letter_over",z12⟩,⟨"Bridge","is_rested_on","Bridge.is_rested_on",z13⟩,⟨"Bridge","is_agreed_to","Bridge.is_agreed_to",z14⟩,⟨"Bridge","end","Bridge.end",z15⟩]
 cs:=[("NUMBER",(.int 0)),("STAMP",(.int 1)),("ROOT",(.int 2)),("COST",(.int 3)),("AGE",(.int 4)),("RESTS",(.int 5)),("AGREES",(.int 6))]
 cl:=["Bridge"]
 fl:=["age_let_go","held_by_place","label_now","life","number","ticks_had","ties_by_place","version"]
 xs:=[]
abbrev pg:O.Pg:=λf=>((tb.fs++tb.ms.map λy=>(y.qual,y.x)).lookup f).map (·.d)
instance:O.Al pg:=by constructor<;>rfl
variable {α:Type} {p:List α->Prop}
def ar1(h:∀a0,p [a0])(us:List α)(e:us.length=1):p us:=match us,e with|[a0],_=>h a0
def ar2(h:∀a0 a1,p [a0,a1])(us:List α)(e:us.length=2):p us:=match us,e with|[a0,a1],_=>h a0 a1
def ar3(h:∀a0 a1 a2,p [a0,a1,a2])(us:List α)(e:us.length=3):p us:=match us,e with|[a0,a1,a2],_=>h a0 a1 a2
def ar4(h:∀a0 a1 a2 a3,p [a0,a1,a2,a3])(us:List α)(e:us.length=4):p us:=match us,e with|[a0,a1,a2,a3],_=>h a0 a1 a2 a3
def ar5(h:∀a0 a1 a2 a3 a4,p [a0,a1,a2,a3,a4])(us:List α)(e:us.length=5):p us:=match us,e with|[a0,a1,a2,a3,a4],_=>h a0 a1 a2 a3 a4
variable {P:String->Ds->Prop}
def mc{f:String}{x:Ds}{l:List (String×Ds)}(h:P f x)(k:∀g y,(g,y)∈l->P g y):∀g y,(g,y)∈(f,x)::l->P g y:=λg y m=>by
 rcases Æ.mp m with e|m
 .cases e;exact h
 .exact k g y m
def mn:∀g y,(g,y)∈([]:List<|String×Ds)->P g y:=λ_ _ m=>nomatch m
def DB:∀f x,(f,x)∈tb.fs.drop 12->x.Ok tb:=by
 iterate 11 refine mc ⟨by kernel_rfl,by kernel_rfl⟩ ?_
 exact mn
def tab_ok:∀f x,(f,x)∈tb.fs->x.Ok tb:=by
 iterate 12 refine mc ⟨by kernel_rfl,by kernel_rfl⟩ ?_
 exact DB
def tab_pg:∀f x,(f,x)∈tb.fs->pg f=df x.d:=by repeat first|exact mn|refine mc rfl ?_
def tab_bd:∀f x,(f,x)∈tb.fs->Hd.Bd (fE f) (fE f) x:=by repeat first|exact mn|refine mc (λ_ _ _ _ _ _=>(by first|exact ar1 λ_=>rfl|exact ar2 λ_ _=>rfl|exact ar3 λ_ _ _=>rfl|exact ar4 λ_ _ _ _=>rfl|exact ar5 λ_ _ _ _ _=>rfl)) ?_
def md{P:α->Prop}{x:α}{l:List α}(h:P x)(k:∀y,y∈l->P y):∀y,y∈x::l->P y:=λy m=>by
 rcases Æ.mp m with e|m
 .cases e;exact h
 .exact k y m
def me{P:α->Prop}:∀y,y∈([]:List α)->P y:=λ_ m=>nomatch m
def Df:∀y,y∈tb.ms.drop 12->y.x.Ok tb:=by
 iterate 4 refine md ⟨by kernel_rfl,by kernel_rfl⟩ ?_
 exact me
def tab_om:∀y,y∈tb.ms->y.x.Ok tb:=by
 iterate 12 refine md ⟨by kernel_rfl,by kernel_rfl⟩ ?_
 exact Df
def tab_pm:∀y,y∈tb.ms->pg (y.C ++ "." ++ y.m)=df y.x.d:=by repeat first|exact me|refine md rfl ?_
def tab_bm:∀y,y∈tb.ms->Hd.Bd (fE y.m) (fE y.qual) y.x:=by repeat first|exact me|refine md (λ_ _ _ _ _ _=>(by first|exact ar1 λ_=>rfl|exact ar2 λ_ _=>rfl|exact ar3 λ_ _ _=>rfl|exact ar4 λ_ _ _ _=>rfl|exact ar5 λ_ _ _ _ _=>rfl)) ?_
def law_in:("law",x22)∈tb.fs:=å (i:=22) rfl
noncomputable abbrev pr:Program:=PySem.Challenge.rw_shutways_k21_whole_two_bridges_agree.row.prog
noncomputable abbrev vw:Program:=PySem.W.view pr [0,2,3,4,5,6,7,8,9,11,13,15,16,17,18,19,20,21,22,23,24,25,26,27,28,29,30,31,32,33,34]
noncomputable abbrev xt(s:Shared):Bool:=xlAt vw [] s&&recOk (RowW.records PySem.Challenge.rw_shutways_k21_whole_two_bridges_agree.row.toRowW) s
def said:PySem.Challenge.rw_shutways_k21_whole_two_bridges_agree.wellSaid=dh:=by rw[Fast.te9446332074065402090];kernel_rfl
def l1:∀w os,(Hd.runY pr 12000 w os).map (Hd.stY pr w)=df dh:=λw os=>by kernel_rfl
def l2:∀w os,(Hd.runY pr 12000 w os).map (λs=>Hd.seenY vw [] (Hd.modsY pr.main.body) xt dh s.abs)=df (openGood vw []):=λw os=>by kernel_rfl
def l3:∀w os,(Hd.runY pr 12000 w os).map (λs=>(Hd.hook tb).obs s.abs)=df ((Hd.hook tb).val w):=λw os=>by kernel_rfl
def left:LeftO pr vw [] xt (Hd.hook tb).obs (Hd.hook tb).val 12000:=Hd.left_of (by kernel_rfl) rfl (λs=>by kernel_rfl) l1 l2 l3
end My
open PySem PySem.W PyProof.Rows
theorem PySem.Challenge.cw_shutways_k21_whole_two_bridges_agree_holds : PySem.Challenge.rw_shutways_k21_whole_two_bridges_agree.Holds := by
 refine holds_law My.said λsaid=>?_;refine holds_open (q:=My.vw) (loose:=[]) (Xt:=My.xt) (XP:=XL My.vw []) (YP:=(Hd.hook My.tb).says) My.left (Hook.of _) (Hook.keeps _) (λs e=>xl_of s (bR.mp e).1) XL.keeps (by rfl) (by rfl) (by rfl) (λs e=>recFacts_of (bR.mp e).2) (by rfl) said (by decide +kernel) ⟨rfl,rfl,rfl,rfl,rfl,by decide +kernel⟩ ?hw ?hc
 case hw=>w_on;w_witness2
 case hc=>exact Hd.law_walk (k:=7) rfl rfl rfl ⟨rfl,by decide,by decide⟩ My.law_in rfl rfl My.tab_pg My.tab_pm My.tab_ok My.tab_om My.tab_bd My.tab_bm λns hl=>O.law_ok (n:=0) hl λ_=>rfl
