import PyProof.Rows.All
import Wide.All
import OpenK.AllK
import Wide.FinOn
import PyProof.EqAt
import PyProof.EqKinds
import PyProof.TupleCall
import Lean
import PySem.Challenge.RW_shutways_k05_texts_of_no_net
set_option Elab.async false
set_option linter.all false
set_option maxRecDepth 100000
/-! THE HAND LAYER, for ints, bools, texts, own classes, LISTS and tuples (index, slices, in, append, pop ..), calls, loops. Paste it whole ahead of your own text; what your proof does not reach may be deleted. -/
namespace L2
open PySem PySem.Spec PyProof.Rows

/-- a key: an int or a str -/
abbrev Key := Sum Int Str
def keyIs : Key → Value → Bool
  | .inl k, v => Value.isInt k v
  | .inr x, v => Value.isStrOf x v
def keyH (w : World) : Key → Int
  | .inl k => hashInt k
  | .inr x => hashStr w x
theorem keyIs_shape : ∀ {k : Key} {v : Value}, keyIs k v = true → (∃ i t, k = Sum.inl i ∧ v = Value.int i t) ∨ (∃ x t, k = Sum.inr x ∧ v = Value.str x t)
  | .inl i, v, h => by
    obtain ⟨t, e⟩ := Value.isInt_shape (k := i) (v := v) h
    exact .inl ⟨i, t, rfl, e⟩
  | .inr x, v, h => by
    obtain ⟨t, e⟩ := Value.isStrOf_shape (x := x) (v := v) h
    exact .inr ⟨x, t, rfl, e⟩
theorem key_ll (a b : Int) : decide ((Sum.inl a : Key) = Sum.inl b) = (a == b) := by
  by_cases e : a = b
  · subst e; simp
  · have h : ¬ (Sum.inl a : Key) = Sum.inl b := fun q => e (Sum.inl.inj q)
    rw [decide_eq_false h]
    exact (beq_eq_false_iff_ne.mpr e).symm
theorem key_rr (a b : Str) : decide ((Sum.inr a : Key) = Sum.inr b) = decide (a = b) := by
  by_cases e : a = b
  · subst e; simp
  · have h : ¬ (Sum.inr a : Key) = Sum.inr b := fun q => e (Sum.inr.inj q)
    rw [decide_eq_false h, decide_eq_false e]
theorem key_lr (a : Int) (b : Str) : decide ((Sum.inl a : Key) = Sum.inr b) = false := decide_eq_false (fun q => nomatch q)
theorem key_rl (a : Str) (b : Int) : decide ((Sum.inr a : Key) = Sum.inl b) = false := decide_eq_false (fun q => nomatch q)

def mixKind (prog : Program) (w : World) : PySem.KeyKind prog w Key where
  is := keyIs
  hash := keyH w
  inj := fun v a b ha hb => by
    rcases keyIs_shape ha with ⟨i, t, rfl, rfl⟩ | ⟨x, t, rfl, rfl⟩
    · rcases keyIs_shape hb with ⟨j, u, rfl, e⟩ | ⟨y, u, rfl, e⟩
      · injection e with e1 _; rw [e1]
      · exact nomatch e
    · rcases keyIs_shape hb with ⟨j, u, rfl, e⟩ | ⟨y, u, rfl, e⟩
      · exact nomatch e
      · injection e with e1 _; rw [e1]
  byValue := fun k v h => by
    rcases keyIs_shape h with ⟨i, t, rfl, rfl⟩ | ⟨x, t, rfl, rfl⟩ <;> rfl
  pyHash := fun hv h => by
    rcases keyIs_shape hv with ⟨i, t, rfl, rfl⟩ | ⟨x, t, rfl, rfl⟩
    · exact wpAny_pyHash_int h
    · exact wpAny_pyHash_str h
  eqBool := fun hu hv h => by
    rcases keyIs_shape hu with ⟨i, t, rfl, rfl⟩ | ⟨x, t, rfl, rfl⟩
    · rcases keyIs_shape hv with ⟨j, u, rfl, rfl⟩ | ⟨y, u, rfl, rfl⟩
      · rw [key_ll] at h; exact wpAny_eqBool_int h
      · rw [key_lr] at h; exact SeqAt.EqAt.int_str i t y u _ _ _ _ h
    · rcases keyIs_shape hv with ⟨j, u, rfl, rfl⟩ | ⟨y, u, rfl, rfl⟩
      · rw [key_rl] at h; exact SeqAt.EqAt.str_int x t j u _ _ _ _ h
      · rw [key_rr] at h; exact wpAny_eqBool_str h
  «strs» := fun k x t v h => by
    rcases keyIs_shape h with ⟨i, u, rfl, e⟩ | ⟨y, u, rfl, e⟩
    · exact nomatch e
    · injection e with e1 _
      subst e1
      cases v <;> rfl

end L2

namespace L2
open PySem PySem.Spec PyProof.Rows

/-- a value, without the heap -/
inductive V where
  | non | bl (b : Bool) | int (i : Int) | str (x : Str) | byt (b : Array UInt8) | flt (b : UInt64) | ref (a : Addr) | ty (n : String)
  deriving DecidableEq

def RelV : V → Value → Prop
  | .non, u => u = Value.none
  | .bl b, u => u = Value.bool b
  | .int i, u => ∃ t, u = Value.int i t
  | .str x, u => ∃ t, u = Value.str x t
  | .byt b, u => ∃ t, u = Value.bytes b t
  | .flt b, u => ∃ t, u = Value.float b t
  | .ref a, u => u = Value.ref a
  | .ty n, u => u = Value.type n

abbrev Vals : List V → List Value → Prop := Paired RelV
theorem Vals.length {xs : List V} {us : List Value} (r : Vals xs us) : xs.length = us.length := Paired.length r
theorem Vals.get : ∀ {xs : List V} {us : List Value} {i : Nat} {x : V}, Vals xs us → xs[i]? = some x → ∃ u, us[i]? = some u ∧ RelV x u
  | _, _, _, _, .nil, e => by simp at e
  | _, _, 0, _, .cons r _, e => by simp at e; subst e; exact ⟨_, rfl, r⟩
  | _, _, i + 1, x, .cons _ t, e => by
    obtain ⟨u, h1, h2⟩ := Vals.get (i := i) (x := x) t (by simpa using e)
    exact ⟨u, by simpa using h1, h2⟩
theorem Vals.set {x : V} {u : Value} (r : RelV x u) : ∀ {xs : List V} {us : List Value} (i : Nat), Vals xs us → Vals (xs.set i x) (us.set i u)
  | _, _, _, .nil => .nil
  | _, _, 0, .cons _ t => .cons r t
  | _, _, i + 1, .cons q t => .cons q (Vals.set r i t)
theorem Vals.append : ∀ {xs ys : List V} {us ws : List Value}, Vals xs us → Vals ys ws → Vals (xs ++ ys) (us ++ ws)
  | _, _, _, _, .nil, s => s
  | _, _, _, _, .cons r t, s => .cons r (Vals.append t s)
theorem Vals.take : ∀ {xs : List V} {us : List Value} (n : Nat), Vals xs us → Vals (xs.take n) (us.take n)
  | _, _, 0, _ => .nil
  | _, _, _ + 1, .nil => .nil
  | _, _, n + 1, .cons r t => .cons r (Vals.take n t)
theorem Vals.drop : ∀ {xs : List V} {us : List Value} (n : Nat), Vals xs us → Vals (xs.drop n) (us.drop n)
  | _, _, 0, r => r
  | _, _, _ + 1, .nil => .nil
  | _, _, n + 1, .cons _ t => Vals.drop n t
theorem Vals.none_of : ∀ {xs : List V} {us : List Value} {i : Nat}, Vals xs us → xs[i]? = none → us[i]? = none := fun {xs us i} r e => by
  have h1 := r.length
  have h2 : xs.length ≤ i := List.getElem?_eq_none_iff.mp e
  exact List.getElem?_eq_none_iff.mpr (by omega)

def RelO : Option V → Option Value → Prop
  | some v, some u => RelV v u
  | none, none => True
  | _, _ => False
def KV {κ : Type} : List (κ × V) → List (κ × Value) → Prop := Paired fun (p : κ × V) (q : κ × Value) => p.1 = q.1 ∧ RelV p.2 q.2

/-- a key of a dict (00_mix): an int or a text -/
def kV : Key → V
  | .inl i => .int i
  | .inr x => .str x

/-- what stands at a tracked address -/
inductive HO where
  /-- a list -/
  | lst (xs : List V)
  /-- a tuple (never changes) -/
  | tup (xs : List V)
  /-- a dict whose keys are ints and texts; one whose keys are tuples of ints and texts (the empty one is both) -/
  | dK (kvs : List (Key × V)) | dT (kvs : List (List Key × V))
  /-- a set of ints: its members, its size -/
  | set (S : Int → Bool) (n : Nat)
  /-- an instance of the class at C, its dict at dx, its attributes -/
  | ins (C dx : Addr) (fs : List (Str × V))
  /-- the dict of the instance at x -/
  | own (x : Addr)
  /-- the dict of an exception -/
  | xd (fs : List (Str × V))
  /-- a bound method, f of x -/
  | met (f x : Addr)
  /-- a range object lo, lo + 1, .. below hi -/
  | rng (lo hi : Int)
  /-- a thing that is known to the object (the script; a dict while a loop walks it): read, never written while it is so -/
  | frz (o : Obj) (u : HO)
  /-- a code object's table -/
  | tbl (ps : Array Value)
  /-- any other thing, by what is true of its one object (a def of one's own: SetO a S n := HO.ext fun h => ..) -/
  | ext (φ : Heap → Prop)

abbrev Hp := Addr → Option HO
def upd (H : Hp) (a : Addr) (o : HO) : Hp := fun b => if b = a then some o else H b
theorem upd_same {H : Hp} {a : Addr} {o : HO} : upd H a o a = some o := by unfold upd; rw [if_pos rfl]
theorem upd_ne {H : Hp} {a b : Addr} {o : HO} (h : b ≠ a) : upd H a o b = H b := by unfold upd; rw [if_neg h]
/-- two objects of different content stand apart -/
theorem ne_of {H : Hp} {a b : Addr} {o u : HO} (h : H a = some o) (h' : H b = some u) (d : o ≠ u) : a ≠ b := by
  intro e; subst e; rw [h] at h'; exact d (Option.some.inj h')
theorem ne_of_none {H : Hp} {a b : Addr} {o : HO} (h : H a = some o) (h' : H b = none) : a ≠ b := by
  intro e; subst e; rw [h] at h'; cases h'

section
variable (P : Program) (w : World)
def ObjOk (H : Hp) (h : Heap) (a : Addr) : HO → Prop
  | .lst xs => xs.length ≤ sizeLine ∧ ∃ (its : List Value) (n : Nat), Vals xs its ∧ h.get? a = some { cls := .type "list", data := .seq its.toArray n }
  | .tup xs => xs.length ≤ sizeLine ∧ ∃ its : List Value, Vals xs its ∧ IsTup h a its.toArray
  | .dK kvs => kvs.length ≤ sizeLine ∧ (a == sysModules) = false ∧ ∃ vs, KV kvs vs ∧ h.DictOf (mixKind P w) a vs
  | .dT kvs => kvs.length ≤ sizeLine ∧ (a == sysModules) = false ∧ ∃ xs : List (List Key × Addr × Value),
      Paired (fun (p : List Key × V) (q : List Key × Addr × Value) => p.1 = q.1 ∧ H q.2.1 = some (.tup (p.1.map kV)) ∧ RelV p.2 q.2.2) kvs xs ∧
      ∃ o es ep, h.get? a = some o ∧ o.ExactDict ∧ o.data = .dict es ep ∧ es.toList = xs.map (entryOfKey (tupleKind (mixKind P w))) ∧ (xs.map (·.1)).Nodup
  | .set S n => h.SetOf (intKind P w) a S n
  | .ins C dx fs => H dx = some (.own a) ∧ fs.length ≤ 1000 ∧ dx ≠ a ∧ h.get? a = some (PySem.W.instObj C dx) ∧
      ∃ mA, h.Ns1 dx mA ∧ (∀ f, RelO (fs.lookup f) (mA f)) ∧ PySem.Within mA (fs.map (·.1))
  | .own _ => ∃ o, h.get? a = some o
  | .xd fs => ∃ mA, h.Ns1 a mA ∧ ∀ f, RelO (fs.lookup f) (mA f)
  | .rng lo hi => ∃ t u v, h.get? a = some { cls := .type "range", data := .fields #[.int lo t, .int hi u, .int 1 v] }
  | .frz o u => h.get? a = some o ∧ ObjOk H h a u
  | .tbl ps => h.get? a = some { cls := .none, data := .fields ps }
  | .met f x => h.get? a = some (PySem.W.methodObj (.ref f) (.ref x))
  | .ext φ => φ h ∧ (∃ o, h.get? a = some o) ∧ ∀ h1 h2 : Heap, φ h1 → (∀ o, h1.get? a = some o → h2.get? a = some o) → φ h2
/-- the abstract heap is held -/
def HOk (H : Hp) (h : Heap) : Prop := ∀ a o, H a = some o → ObjOk P w H h a o
end

section
variable {P : Program} {w : World} {H H' : Hp} {h h' : Heap} {a : Addr} {o : HO}
theorem ObjOk.lt (x : ObjOk P w H h a o) : a < h.objs.size := by
  cases o with
  | lst xs => obtain ⟨_, _, _, _, e⟩ := x; exact Heap.lt_size e
  | tup xs => obtain ⟨_, _, _, p⟩ := x; exact p.lt
  | dK kvs => obtain ⟨_, _, _, _, o, _, _, e, _⟩ := x; exact Heap.lt_size e
  | dT kvs => obtain ⟨_, _, _, _, o, _, _, e, _⟩ := x; exact Heap.lt_size e
  | set S n => obtain ⟨o, _, _, _, e, _⟩ := x; exact Heap.lt_size e
  | ins C dx fs => obtain ⟨_, _, _, e, _⟩ := x; exact Heap.lt_size e
  | own y => obtain ⟨_, e⟩ := x; exact Heap.lt_size e
  | xd fs => obtain ⟨_, ⟨_, _, _, e, _⟩, _⟩ := x; exact Heap.lt_size e
  | rng lo hi => obtain ⟨_, _, _, e⟩ := x; exact Heap.lt_size e
  | frz ob u => obtain ⟨e, _⟩ := x; exact Heap.lt_size e
  | tbl ps => exact Heap.lt_size (show h.get? a = some _ from x)
  | met f y => exact Heap.lt_size (show h.get? a = some _ from x)
  | ext φ => obtain ⟨_, ⟨_, e⟩, _⟩ := x; exact Heap.lt_size e
theorem Paired.mapP {α β : Type} {F G : α → β → Prop} : ∀ {l₁ : List α} {l₂ : List β}, Paired F l₁ l₂ → (∀ a b, F a b → G a b) → Paired G l₁ l₂
  | _, _, .nil, _ => .nil
  | _, _, .cons r t, f => .cons (f _ _ r) (Paired.mapP t f)
/-- what an object's description leans on: its own object, its own dict, the tuples -/
theorem ObjOk.stay (x : ObjOk P w H h a o) (k : ∀ b u, (b = a ∨ H b = some (.own a)) → h.get? b = some u → h'.get? b = some u)
    (ho : ∀ b, H b = some (.own a) → H' b = some (.own a)) (ht : ∀ b xs, H b = some (.tup xs) → H' b = some (.tup xs)) : ObjOk P w H' h' a o := by
  induction o with
  | lst xs => obtain ⟨z, its, n, r, e⟩ := x; exact ⟨z, its, n, r, k _ _ (.inl rfl) e⟩
  | tup xs => obtain ⟨z, its, r, ob, e, c⟩ := x; exact ⟨z, its, r, ob, k _ _ (.inl rfl) e, c⟩
  | dK kvs => obtain ⟨z, y, vs, r, ob, es, ep, e, c⟩ := x; exact ⟨z, y, vs, r, ob, es, ep, k _ _ (.inl rfl) e, c⟩
  | dT kvs =>
    obtain ⟨z, y, xs, r, ob, es, ep, e, c⟩ := x
    exact ⟨z, y, xs, Paired.mapP r fun p q z => ⟨z.1, ht _ _ z.2.1, z.2.2⟩, ob, es, ep, k _ _ (.inl rfl) e, c⟩
  | set S n => obtain ⟨ob, es, ep, t, e, c⟩ := x; exact ⟨ob, es, ep, t, k _ _ (.inl rfl) e, c⟩
  | ins C dx fs =>
    obtain ⟨d, z, ne, e, mA, ⟨od, es, ep, e2, c⟩, r⟩ := x
    exact ⟨ho _ d, z, ne, k _ _ (.inl rfl) e, mA, ⟨od, es, ep, k _ _ (.inr d) e2, c⟩, r⟩
  | own y => obtain ⟨ob, e⟩ := x; exact ⟨ob, k _ _ (.inl rfl) e⟩
  | xd fs => obtain ⟨mA, ⟨od, es, ep, e, c⟩, r⟩ := x; exact ⟨mA, ⟨od, es, ep, k _ _ (.inl rfl) e, c⟩, r⟩
  | rng lo hi => obtain ⟨t, u, v, e⟩ := x; exact ⟨t, u, v, k _ _ (.inl rfl) e⟩
  | frz ob u ih => obtain ⟨e, q⟩ := x; exact ⟨k _ _ (.inl rfl) e, ih q⟩
  | tbl ps =>
    have e : h.get? a = some { cls := .none, data := .fields ps } := x
    show h'.get? a = some { cls := .none, data := .fields ps }
    exact k a _ (.inl rfl) e
  | met f y =>
    have e : h.get? a = some (PySem.W.methodObj (.ref f) (.ref y)) := x
    show h'.get? a = some (PySem.W.methodObj (.ref f) (.ref y))
    exact k a _ (.inl rfl) e
  | ext φ => obtain ⟨p, ⟨o, e⟩, st⟩ := x; exact ⟨st _ _ p fun o q => k _ _ (.inl rfl) q, ⟨o, k _ _ (.inl rfl) e⟩, st⟩
theorem HOk.lt (x : HOk P w H h) (e : H a = some o) : a < h.objs.size := (x a o e).lt
theorem HOk.fresh (x : HOk P w H h) (e : h.objs.size ≤ a) : H a = none := by
  cases q : H a with
  | none => rfl
  | some u => exact absurd (Nat.lt_of_lt_of_le (x.lt q) e) (Nat.lt_irrefl _)
/-- every object of the heap is kept -/
theorem HOk.kept (x : HOk P w H h) (k : ∀ b u, h.get? b = some u → h'.get? b = some u) : HOk P w H h' := fun a o e =>
  (x a o e).stay (fun b u _ q => k b u q) (fun _ q => q) fun _ _ q => q
/-- a new object is laid and tracked -/
theorem HOk.laid (x : HOk P w H h) (k : ∀ b u, h.get? b = some u → h'.get? b = some u) (hp : h.objs.size ≤ a) (new : ObjOk P w (upd H a o) h' a o) : HOk P w (upd H a o) h' := fun b u e => by
  have hn := x.fresh hp
  by_cases hb : b = a
  · subst hb; rw [upd_same] at e; cases e; exact new
  · rw [upd_ne hb] at e
    exact (x b u e).stay (fun c v _ q => k c v q) (fun c q => by rw [upd_ne (ne_of_none q hn)]; exact q) fun c xs q => by rw [upd_ne (ne_of_none q hn)]; exact q
end

/-- what may be read as u: it is u, or a known u -/
def Rd (H : Hp) (a : Addr) (u : HO) : Prop := H a = some u ∨ ∃ o, H a = some (.frz o u)
theorem Rd.of {H : Hp} {a : Addr} {u : HO} (h : H a = some u) : Rd H a u := .inl h
theorem Rd.ok {P : Program} {w : World} {H : Hp} {h : Heap} {a : Addr} {u : HO} (r : Rd H a u) (x : HOk P w H h) : ObjOk P w H h a u := by
  rcases r with r | ⟨o, r⟩
  · exact x a u r
  · obtain ⟨_, q⟩ := x a _ r
    exact q
/-- what may be written -/
def Mut : Option HO → Prop
  | some (.lst _) => True
  | some (.dK _) => True
  | some (.dT _) => True
  | some (.set _ _) => True
  | some (.ins _ _ _) => True
  | some (.ext _) => True
  | _ => False
section
variable {P : Program} {w : World} {H : Hp} {h h' : Heap} {x e : Addr} {o' : HO}
/-- the object at e is changed: x itself, or the dict of the instance x -/
theorem HOk.write (ok : HOk P w H h) (mu : Mut (H x)) (he : e = x ∨ H e = some (.own x)) (k : ∀ b u, b ≠ e → h.get? b = some u → h'.get? b = some u) (heo : ∃ u, h'.get? e = some u)
    (new : ObjOk P w (upd H x o') h' x o') : HOk P w (upd H x o') h' := fun b u q => by
  have nown : ∀ c y, H c = some (.own y) → c ≠ x := fun c y r z => by subst z; rw [r] at mu; exact mu
  have ntup : ∀ c xs, H c = some (.tup xs) → c ≠ x := fun c xs r z => by subst z; rw [r] at mu; exact mu
  by_cases hb : b = x
  · subst hb; rw [upd_same] at q; cases q; exact new
  · rw [upd_ne hb] at q
    by_cases hbe : b = e
    · have q' : H b = some (.own x) := by
        rcases he with z | z
        · exact absurd (hbe.trans z) hb
        · rw [hbe]; exact z
      rw [q] at q'; cases q'
      obtain ⟨v, hv⟩ := heo
      exact ⟨v, by rw [hbe]; exact hv⟩
    · refine (ok b u q).stay (fun c v hc r => k c v ?_ r) (fun c r => by rw [upd_ne (nown c b r)]; exact r) fun c xs r => by rw [upd_ne (ntup c xs r)]; exact r
      rcases hc with rfl | hc
      · exact hbe
      · rintro rfl
        rcases he with z | z
        · exact nown c b hc z
        · rw [hc] at z; cases z; exact hb rfl
end

/-! ### kept unless tracked; of the frames at fs (the callers') the slots may change (an exception that passes writes there); of the records at ex (iterators) nothing is said -/
structure Un (fs ex : List Addr) (H H' : Hp) (h h' : Heap) : Prop where
  keep : ∀ b o, h.get? b = some o → H b = none → b ∉ fs → b ∉ ex → h'.get? b = some o
  slot : ∀ b o, h.get? b = some o → H b = none → b ∈ fs → b ∉ ex → ∃ sl, h'.get? b = some { o with slots := sl }
  free : ∀ b o, h.get? b = some o → H b = none → b ∉ ex → H' b = none
  there : ∀ b o, h.get? b = some o → b ∉ ex → ∃ o', h'.get? b = some o'
  tups : ∀ b xs, H b = some (.tup xs) → H' b = some (.tup xs)
  frzs : ∀ b o u, H b = some (.frz o u) → H' b = some (.frz o u)
  tbls : ∀ b ps, H b = some (.tbl ps) → ∃ more, H' b = some (.tbl (ps ++ more))
section
variable {fs fs' ex ex' : List Addr} {H H1 H2 : Hp} {h h1 h2 h' : Heap} {a x e : Addr} {o : HO}
theorem Un.any (u : Un fs ex H H1 h h1) {b : Addr} {ob : Obj} (q : h.get? b = some ob) (n : H b = none) (hx : b ∉ ex) : ∃ sl, h1.get? b = some { ob with slots := sl } := by
  by_cases hb : b ∈ fs
  · exact u.slot b ob q n hb hx
  · exact ⟨ob.slots, u.keep b ob q n hb hx⟩
theorem Un.trans (a : Un fs ex H H1 h h1) (b : Un fs ex H1 H2 h1 h2) : Un fs ex H H2 h h2 where
  keep := fun c ob q n hc hx => b.keep c ob (a.keep c ob q n hc hx) (a.free c ob q n hx) hc hx
  slot := fun c ob q n hc hx => by
    obtain ⟨sl, e1⟩ := a.slot c ob q n hc hx
    obtain ⟨sl', e2⟩ := b.slot c _ e1 (a.free c ob q n hx) hc hx
    exact ⟨sl', e2⟩
  free := fun c ob q n hx => by
    obtain ⟨o', e1⟩ := a.there c ob q hx
    exact b.free c o' e1 (a.free c ob q n hx) hx
  there := fun c ob q hx => by
    obtain ⟨o', e1⟩ := a.there c ob q hx
    exact b.there c o' e1 hx
  tups := fun c xs q => b.tups c xs (a.tups c xs q)
  frzs := fun c ob xs q => b.frzs c ob xs (a.frzs c ob xs q)
  tbls := fun c ps q => by
    obtain ⟨m1, e1⟩ := a.tbls c ps q
    obtain ⟨m2, e2⟩ := b.tbls c _ e1
    exact ⟨m1 ++ m2, by rw [e2, Array.append_assoc]⟩
theorem Un.kept (k : ∀ b u, h.get? b = some u → h'.get? b = some u) : Un fs ex H H h h' :=
  ⟨fun b ob q _ _ _ => k b ob q, fun b ob q _ _ _ => ⟨ob.slots, k b ob q⟩, fun _ _ _ n _ => n, fun b ob q _ => ⟨ob, k b ob q⟩, fun _ _ q => q, fun _ _ _ q => q, fun _ ps q => ⟨#[], by rw [q]; simp⟩⟩
theorem Un.refl : Un fs ex H H h h := Un.kept fun _ _ q => q
theorem Un.laid (k : ∀ b u, h.get? b = some u → h'.get? b = some u) (hp : h.objs.size ≤ a) (hn : H a = none) : Un fs ex H (upd H a o) h h' where
  keep := fun b u q _ _ _ => k b u q
  slot := fun b u q _ _ _ => ⟨u.slots, k b u q⟩
  free := fun b u q n _ => by rw [upd_ne (Nat.ne_of_lt (Nat.lt_of_lt_of_le (Heap.lt_size q) hp))]; exact n
  there := fun b u q _ => ⟨u, k b u q⟩
  tups := fun b xs q => by rw [upd_ne (ne_of_none q hn)]; exact q
  frzs := fun b u xs q => by rw [upd_ne (ne_of_none q hn)]; exact q
  tbls := fun b ps q => ⟨#[], by rw [upd_ne (ne_of_none q hn), q]; simp⟩
theorem Un.write (mu : Mut (H x)) (he : e = x ∨ H e = some (.own x)) (k : ∀ b u, b ≠ e → h.get? b = some u → h'.get? b = some u) (heo : ∃ u, h'.get? e = some u) : Un fs ex H (upd H x o) h h' := by
  have hx : ∀ b, H b = none → b ≠ x := fun b n z => by subst z; rw [n] at mu; exact mu
  have hb : ∀ b, H b = none → b ≠ e := fun b n z => by
    subst z
    rcases he with r | r
    · exact hx b n r
    · rw [n] at r; cases r
  have hm : ∀ b u, H b = some u → ¬ Mut (some u) → b ≠ x := fun b u q nm z => by subst z; rw [q] at mu; exact nm mu
  refine ⟨fun b u q n _ _ => k b u (hb b n) q, fun b u q n _ _ => ⟨u.slots, k b u (hb b n) q⟩, fun b u q n _ => by rw [upd_ne (hx b n)]; exact n, fun b u q _ => ?_,
    fun b xs q => by rw [upd_ne (hm b _ q fun z => z)]; exact q, fun b u xs q => by rw [upd_ne (hm b _ q fun z => z)]; exact q, fun b ps q => ⟨#[], by rw [upd_ne (hm b _ q fun z => z), q]; simp⟩⟩
  by_cases hbe : b = e
  · subst hbe; exact heo
  · exact ⟨u, k b u hbe q⟩
theorem Un.mono (u : Un fs ex H H1 h h1) (hs : ∀ b ∈ fs, b ∈ fs') (hx : ∀ b ∈ ex, b ∈ ex') : Un fs' ex' H H1 h h1 :=
  ⟨fun b ob q n hb he => u.keep b ob q n (fun z => hb (hs b z)) fun z => he (hx b z), fun _ _ q n _ he => u.any q n fun z => he (hx _ z), fun b ob q n he => u.free b ob q n fun z => he (hx b z), fun b ob q he => u.there b ob q fun z => he (hx b z), u.tups, u.frzs, u.tbls⟩
end

/-! ### the heap without what is tracked -/
def trk (h : Heap) (H : Hp) : List Addr := (List.range h.objs.size).filter fun a => (H a).isSome
def hidT (h : Heap) (H : Hp) : Heap := PySem.W.hideAll h (trk h H)
theorem hidT_size (h : Heap) (H : Hp) : (hidT h H).objs.size = h.objs.size := PySem.W.hideAll_size _ _
theorem hidT_get {h : Heap} {H : Hp} {b : Addr} {o : Obj} (e : h.get? b = some o) (n : H b = none) : (hidT h H).get? b = some o :=
  PySem.W.hideAll_get _ e fun hm => by
    have q : (H b).isSome = true := (List.mem_filter.mp hm).2
    rw [n] at q; simp at q
theorem of_hidT {h : Heap} {H : Hp} {b : Addr} {o : Obj} (e : (hidT h H).get? b = some o) : h.get? b = some o ∧ H b = none := by
  have e' : h.get? b = some o := PySem.W.of_hideAll (trk h H) e
  refine ⟨e', ?_⟩
  cases q : H b with
  | none => rfl
  | some x =>
    have hm : b ∈ trk h H := List.mem_filter.mpr ⟨List.mem_range.mpr (Heap.lt_size e'), by simp [q]⟩
    have z : (hidT h H).get? b = none := PySem.W.hideAll_none (trk h H) hm
    rw [z] at e; cases e

/-! ### OpenK's ledger, filled with every new object but one -/
def allNews (g h : Heap) (L : Addr) : List (Addr × Obj) := (List.range h.objs.size).filterMap fun a => if a = L ∨ (g.get? a).isSome = true then none else (h.get? a).map fun o => (a, o)
def rest (g h : Heap) (L d : Addr) : List (Addr × Obj) := (allNews g h L).filter fun p => decide (p.1 ≠ d)
end L2

namespace L2
open PySem PySem.Spec PyProof.Rows

/-- the module's facts, over the base: the heap at the law's entry without what is tracked there -/
structure Mod (K : PySem.W.Frag) (mg : Str → Option Value) (base : Heap) : Prop where
  kin : K.In base
  glob : base.Ns mainGlobals mg
  blt : ∃ mb, base.Ns builtinsNs mb ∧ ∀ x : Str, x ≠ "__name__" → mb x = bootBuiltins x
  nolimit : base.NoLimit

/-- the context: a def's body (or a comprehension's block) running. base: fixed through the whole law; s₀, H₀: the entry; outer: the frames whose slots others may change (a def's callers); stack: all frames that run;
   ex: iterators that were made ahead of the entry and are walked here (a comprehension's); fn: the names whose cells were made at the entry (a def: all; a comprehension's block: its own); calm: not within an except suite; pn: pins that every state bears; xe: what is wanted of an exception that leaves the code -/
structure Cx where
  prog : Program
  w : World
  K : PySem.W.Frag
  mg : Str → Option Value
  base : Heap
  A : Around
  N : List Str
  s₀ : Shared
  H₀ : Hp
  env : Env
  outer : List Env
  stack : List Env
  ex : List Addr
  fn : Str → Bool
  calm : Bool
  pn : List (Addr × Obj)
  xe : Value → Shared → Prop
/-- the callers' frames -/
def frs (l : List Env) : List Addr := l.filterMap (·.frame)
abbrev Cx.fs (X : Cx) : List Addr := frs X.outer

def Vis (sc : Scope) (x : Str) : Prop := sc.names.lookup x = some .local ∨ sc.names.lookup x = some .cell ∨ sc.names.lookup x = some .free
def Loc (sc : Scope) (x : Str) : Prop := sc.names.lookup x = some .local ∨ sc.names.lookup x = some .cell
def Look (env : Env) (h : Heap) (m : Str → Option Value) (x : Str) (u : Value) : Prop :=
  (env.kindOf x = some .local ∧ m x = some u) ∨ ((env.kindOf x = some .cell ∨ env.kindOf x = some .free) ∧ ∃ c, env.cells.lookup x = some c ∧ h.IsCell c (some u))

structure Cx.Ok (X : Cx) : Prop where
  mod : Mod X.K X.mg X.base
  kind : X.env.scope.kind = .function
  glob : X.env.globals = mainGlobals
  blt : X.env.builtins = builtinsNs
  above : X.s₀.heap.objs.size ≤ X.env.locals
  inj : ∀ x y c, X.env.cells.lookup x = some c → X.env.cells.lookup y = some c → x = y
  has : ∀ x, (X.env.kindOf x = some .cell ∨ X.env.kindOf x = some .free) → ∃ c, X.env.cells.lookup x = some c
  cab : ∀ x c, X.fn x = true → X.env.cells.lookup x = some c → X.s₀.heap.objs.size ≤ c
  hd : X.calm = true → X.A.handled = none
  frames : X.A.frames = some X.stack
  stk : X.stack = X.outer ∨ (X.stack = X.env :: X.outer ∧ X.env.frame = some X.env.locals)
  exf : ∀ b ∈ X.ex, b ≠ X.env.locals ∧ ∀ x c, X.env.cells.lookup x = some c → c ≠ b
  bs : ∀ b o, X.base.get? b = some o → X.s₀.heap.get? b = some o ∧ X.H₀ b = none
  bsz : X.base.objs.size ≤ X.s₀.heap.objs.size
  noex : ∀ b o, X.base.get? b = some o → b ∉ X.ex
  exfs : ∀ b ∈ X.ex, b ∉ X.fs
  funs : X.s₀.heap.FunFrames X.base X.outer
  frf : ∀ b ∈ X.fs, X.H₀ b = none

structure Inv (X : Cx) (pins : List (Addr × Obj)) (σ : List (Option V)) (H : Hp) (s : Shared) : Prop where
  ok : X.Ok
  os : s.os = X.s₀.os
  bare : AllBare s.gens
  base : Un X.fs X.ex X.H₀ H X.s₀.heap s.heap
  loc : ∃ m, s.heap.Ns X.env.locals m ∧ ∀ (i : Nat) (x : Str) (v : V), X.N[i]? = some x → σ[i]? = some (some v) → Vis X.env.scope x → ∃ u, RelV v u ∧ Look X.env s.heap m x u
  cell : ∀ x c, X.env.cells.lookup x = some c → ∃ v, s.heap.IsCell c v
  free : H X.env.locals = none
  freeC : ∀ x c, X.env.cells.lookup x = some c → H c = none
  pin : ∀ p ∈ X.pn ++ pins, s.heap.get? p.1 = some p.2 ∧ H p.1 = none ∧ p.1 ≠ X.env.locals ∧ p.1 ∉ X.fs ∧ ∀ v, p.2.data ≠ .cell v
  hok : HOk X.prog X.w H s.heap
  len : σ.length = X.N.length

section
variable {X : Cx} {pins : List (Addr × Obj)} {σ : List (Option V)} {H H' : Hp} {s : Shared} {h' : Heap}

theorem Cx.Ok.nofr (ok : X.Ok) {b : Addr} {o : Obj} (e : X.base.get? b = some o) : b ∉ X.fs := fun hb => by
  have := (ok.funs.mem hb).1
  rw [e] at this; cases this
theorem Inv.bs (I : Inv X pins σ H s) : ∀ b o, X.base.get? b = some o → s.heap.get? b = some o ∧ H b = none := fun b o e =>
  ⟨I.base.keep b o (I.ok.bs b o e).1 (I.ok.bs b o e).2 (I.ok.nofr e) (I.ok.noex b o e), I.base.free b o (I.ok.bs b o e).1 (I.ok.bs b o e).2 (I.ok.noex b o e)⟩
theorem Inv.bk (I : Inv X pins σ H s) : ∀ b o, X.base.get? b = some o → s.heap.get? b = some o := fun b o e => (I.bs b o e).1
theorem Inv.mod (I : Inv X pins σ H s) : Mod X.K X.mg X.base := I.ok.mod
theorem Inv.kIn (I : Inv X pins σ H s) : X.K.In s.heap := I.ok.mod.kin.keeps I.bk
theorem Inv.nolimit (I : Inv X pins σ H s) : s.heap.NoLimit := I.ok.mod.nolimit.keeps I.bk
/-- the frame over the base: for OpenK's rules (K.In X.base is I.mod.kin) -/
theorem Inv.fr (I : Inv X pins σ H s) : ∃ m, Fr X.base X.env.locals s.heap m :=
  let ⟨m, hn, _⟩ := I.loc
  ⟨m, hn, I.bk, Nat.le_trans I.ok.bsz I.ok.above⟩
theorem Inv.lt (I : Inv X pins σ H s) : X.env.locals < s.heap.objs.size := let ⟨_, hn, _⟩ := I.loc; hn.lt
theorem Inv.sz (I : Inv X pins σ H s) : X.s₀.heap.objs.size ≤ s.heap.objs.size := Nat.le_trans I.ok.above (Nat.le_of_lt I.lt)
theorem Inv.nofs (I : Inv X pins σ H s) {a : Addr} (h : s.heap.objs.size ≤ a) : a ∉ X.fs := fun hb => by
  obtain ⟨_, o, ho, _⟩ := I.ok.funs.mem hb
  exact absurd (Nat.lt_of_lt_of_le (Heap.lt_size ho) (Nat.le_trans I.sz h)) (Nat.lt_irrefl _)
theorem Inv.cne (I : Inv X pins σ H s) : ∀ x c, X.env.cells.lookup x = some c → c ≠ X.env.locals := fun x c e z => by
  obtain ⟨v, o, ho, hd⟩ := I.cell x c e
  obtain ⟨m, ⟨o', es, ep, ho', hd', _⟩, _⟩ := I.loc
  rw [z, ho'] at ho; cases ho; rw [hd'] at hd; cases hd
theorem Inv.funs (I : Inv X pins σ H s) : s.heap.FunFrames X.base X.outer := by
  have all : ∀ (l : List Env), (∀ b ∈ frs l, b ∈ X.fs) → X.s₀.heap.FunFrames X.base l → s.heap.FunFrames X.base l := by
    intro l
    induction l with
    | nil => intro _ _; trivial
    | cons env r ih =>
      intro hs hl
      obtain ⟨hk, ⟨L, o, hf, hn, ho, hd⟩, hr⟩ := hl
      have hL : L ∈ X.fs := hs L (by unfold frs; rw [List.filterMap_cons, hf]; exact List.mem_cons_self)
      obtain ⟨sl, e⟩ := I.base.slot L o ho (I.ok.frf L hL) hL fun z => I.ok.exfs L z hL
      exact ⟨hk, ⟨L, _, hf, hn, e, hd⟩, ih (fun b hb => hs b (by unfold frs; rw [List.filterMap_cons, hf]; exact List.mem_cons_of_mem _ hb)) hr⟩
  exact all X.outer (fun _ hb => hb) I.ok.funs

/-- the frames that run, for a call -/
theorem Inv.stack (I : Inv X pins σ H s) : s.heap.FunFrames X.base X.stack := by
  rcases I.ok.stk with e | ⟨e, hf⟩
  · rw [e]; exact I.funs
  · rw [e]
    obtain ⟨m, hn, _⟩ := I.loc
    refine .cons (by rw [I.ok.kind]; decide) hf hn ?_ I.funs
    exact Heap.get?_none_of_le (Nat.le_trans I.ok.bsz I.ok.above)
theorem Inv.stkSub (I : Inv X pins σ H s) : ∀ b ∈ frs X.stack, b ∈ X.env.locals :: X.fs := fun b hb => by
  rcases I.ok.stk with e | ⟨e, hf⟩
  · rw [e] at hb; exact List.mem_cons_of_mem _ hb
  · rw [e] at hb
    unfold frs at hb
    rw [List.filterMap_cons, hf] at hb
    exact hb
theorem Inv.stkFree (I : Inv X pins σ H s) : ∀ b ∈ frs X.stack, H b = none := fun b hb => by
  rcases List.mem_cons.mp (I.stkSub b hb) with e | hb
  · rw [e]; exact I.free
  · obtain ⟨_, o, ho, _⟩ := I.ok.funs.mem hb
    exact I.base.free b o ho (I.ok.frf b hb) fun z => I.ok.exfs b z hb

/-- THE STEP: the untracked objects but the frame and the records at ch are kept (the callers' frames up to slots), the frame's map is kept, the new abstract heap is held -/
theorem Inv.step {g' : Array GenState} {t' : Nat} {d' : Drawn} {ch : List Addr} (I : Inv X pins σ H s)
    (hch : ∀ b ∈ ch, (b ∈ X.ex ∨ X.s₀.heap.objs.size ≤ b) ∧ b ≠ X.env.locals ∧ (∀ x c, X.env.cells.lookup x = some c → c ≠ b) ∧ ∀ p ∈ X.pn ++ pins, p.1 ≠ b)
    (keep : ∀ b o, b ≠ X.env.locals → b ∉ X.fs → b ∉ ch → s.heap.get? b = some o → H b = none → h'.get? b = some o)
    (slot : ∀ b o, b ≠ X.env.locals → b ∈ X.fs → b ∉ ch → s.heap.get? b = some o → H b = none → ∃ sl, h'.get? b = some { o with slots := sl }) (free : ∀ b o, b ∉ ch → s.heap.get? b = some o → H b = none → H' b = none)
    (there : ∀ b o, b ∉ ch → s.heap.get? b = some o → ∃ o', h'.get? b = some o')
    (tups : ∀ b xs, H b = some (.tup xs) → H' b = some (.tup xs)) (frzs : ∀ b o u, H b = some (.frz o u) → H' b = some (.frz o u)) (tbls : ∀ b ps, H b = some (.tbl ps) → ∃ more, H' b = some (.tbl (ps ++ more)))
    (ns : ∀ m, s.heap.Ns X.env.locals m → h'.Ns X.env.locals m) (hok : HOk X.prog X.w H' h') (hg : AllBare g') :
    Inv X pins σ H' { s with heap := h', gens := g', drawn := d', toks := t' } := by
  have neL : ∀ b o, X.s₀.heap.get? b = some o → b ≠ X.env.locals := fun b o e => Nat.ne_of_lt (Nat.lt_of_lt_of_le (Heap.lt_size e) I.ok.above)
  have neC : ∀ b o, X.s₀.heap.get? b = some o → b ∉ X.ex → b ∉ ch := fun b o e hx hb => by
    rcases (hch b hb).1 with z | z
    · exact hx z
    · exact absurd (Nat.lt_of_lt_of_le (Heap.lt_size e) z) (Nat.lt_irrefl _)
  have cellK : ∀ x c, X.env.cells.lookup x = some c → ∀ v, s.heap.IsCell c v → h'.IsCell c v := fun x c e v ⟨o, ho, hd⟩ => by
    have nch : c ∉ ch := fun z => (hch c z).2.2.1 x c e rfl
    by_cases hc : c ∈ X.fs
    · obtain ⟨sl, q⟩ := slot c o (I.cne x c e) hc nch ho (I.freeC x c e)
      exact ⟨_, q, hd⟩
    · exact ⟨o, keep c o (I.cne x c e) hc nch ho (I.freeC x c e), hd⟩
  refine ⟨I.ok, I.os, hg, ⟨fun b o e n hb hx => ?_, fun b o e n hb hx => ?_, fun b o e n hx => ?_, fun b o e hx => ?_, fun b xs e => tups b xs (I.base.tups b xs e), fun b o xs e => frzs b o xs (I.base.frzs b o xs e), fun b ps e => ?_⟩, ?_, fun x c e => ?_, ?_, fun x c e => ?_, fun p hp => ?_, hok, I.len⟩
  · exact keep b o (neL b o e) hb (neC b o e hx) (I.base.keep b o e n hb hx) (I.base.free b o e n hx)
  · obtain ⟨sl, e1⟩ := I.base.slot b o e n hb hx
    obtain ⟨sl', e2⟩ := slot b _ (neL b o e) hb (neC b o e hx) e1 (I.base.free b o e n hx)
    exact ⟨sl', e2⟩
  · obtain ⟨o', e1⟩ := I.base.there b o e hx
    exact free b o' (neC b o e hx) e1 (I.base.free b o e n hx)
  · obtain ⟨o', e1⟩ := I.base.there b o e hx
    exact there b o' (neC b o e hx) e1
  · obtain ⟨m1, e1⟩ := I.base.tbls b ps e
    obtain ⟨m2, e2⟩ := tbls b _ e1
    exact ⟨m1 ++ m2, by rw [e2, Array.append_assoc]⟩
  · obtain ⟨m, hn, hl⟩ := I.loc
    refine ⟨m, ns m hn, fun i x v e1 e2 e3 => ?_⟩
    obtain ⟨u, r, l⟩ := hl i x v e1 e2 e3
    refine ⟨u, r, ?_⟩
    rcases l with l | ⟨k, c, e, z⟩
    · exact .inl l
    · exact .inr ⟨k, c, e, cellK x c e _ z⟩
  · obtain ⟨v, z⟩ := I.cell x c e
    exact ⟨v, cellK x c e v z⟩
  · obtain ⟨m, ⟨o, _, _, ho, _⟩, _⟩ := I.loc
    exact free _ o (fun z => (hch _ z).2.1 rfl) ho I.free
  · obtain ⟨v, o, ho, hd⟩ := I.cell x c e
    exact free c o (fun z => (hch c z).2.2.1 x c e rfl) ho (I.freeC x c e)
  · obtain ⟨e, n, ne, nf, d⟩ := I.pin p hp
    have nch : p.1 ∉ ch := fun z => (hch p.1 z).2.2.2 p hp rfl
    exact ⟨keep p.1 p.2 ne nf nch e n, free p.1 p.2 nch e n, ne, nf, d⟩
/-- .. where the frame's own object is kept too -/
theorem Inv.un {t' : Nat} (I : Inv X pins σ H s) (u : Un X.fs [] H H' s.heap h') (hok : HOk X.prog X.w H' h') : Inv X pins σ H' { s with heap := h', toks := t' } := by
  obtain ⟨m, ⟨o, es, ep, ho, r⟩, _⟩ := id I.loc
  obtain ⟨sl, hL⟩ := u.any ho I.free (by simp)
  exact I.step (g' := s.gens) (d' := s.drawn) (ch := []) (fun _ z => nomatch z) (fun b o _ hb _ e n => u.keep b o e n hb (by simp)) (fun b o _ hb _ e n => u.slot b o e n hb (by simp)) (fun b o _ e n => u.free b o e n (by simp)) (fun b o _ e => u.there b o e (by simp)) u.tups u.frzs u.tbls (fun m' hm => by
    obtain ⟨o', es', ep', ho', r'⟩ := hm
    rw [ho] at ho'; cases ho'
    exact ⟨_, es', ep', hL, r'⟩) hok I.bare
/-- behind a call (or a comprehension's block): the slots of this frame may have changed too, the records at ch may have turned -/
theorem Inv.call {g' : Array GenState} {t' : Nat} {d' : Drawn} {ch : List Addr} (I : Inv X pins σ H s) (u : Un (frs X.stack) ch H H' s.heap h') (hok : HOk X.prog X.w H' h') (hg : AllBare g')
    (hch : ∀ b ∈ ch, (b ∈ X.ex ∨ X.s₀.heap.objs.size ≤ b) ∧ b ≠ X.env.locals ∧ (∀ x c, X.env.cells.lookup x = some c → c ≠ b) ∧ ∀ p ∈ X.pn ++ pins, p.1 ≠ b) :
    Inv X pins σ H' { s with heap := h', gens := g', drawn := d', toks := t' } := by
  obtain ⟨m, ⟨o, es, ep, ho, r⟩, _⟩ := id I.loc
  obtain ⟨sl, hL⟩ := u.any ho I.free fun z => (hch _ z).2.1 rfl
  exact I.step (ch := ch) hch (fun b o hL hb hc e n => u.keep b o e n (fun z => (List.mem_cons.mp (I.stkSub b z)).elim hL hb) hc) (fun b o _ _ hc e n => u.any e n hc) (fun b o hc e n => u.free b o e n hc) (fun b o hc e => u.there b o e hc) u.tups u.frzs u.tbls (fun m' hm => by
    obtain ⟨o', es', ep', ho', r'⟩ := hm
    rw [ho] at ho'; cases ho'
    exact ⟨_, es', ep', hL, r'⟩) hok hg
/-- an untracked record of ours (an iterator) has turned -/
theorem Inv.turned {t' : Nat} {it : Addr} (I : Inv X pins σ H s) (k : ∀ b o, b ≠ it → s.heap.get? b = some o → h'.get? b = some o) (hn : H it = none) (hL : it ≠ X.env.locals)
    (h1 : it ∈ X.ex ∨ X.s₀.heap.objs.size ≤ it) (h2 : ∀ x c, X.env.cells.lookup x = some c → c ≠ it) (h3 : ∀ p ∈ X.pn ++ pins, p.1 ≠ it) : Inv X pins σ H { s with heap := h', toks := t' } := by
  have nit : ∀ b u, H b = some u → b ≠ it := fun b u e z => by rw [z, hn] at e; cases e
  refine I.step (g' := s.gens) (d' := s.drawn) (ch := [it]) (fun b hb => ?_) (fun b o _ _ hc e _ => k b o (fun z => hc (by simp [z])) e) (fun b o _ _ hc e _ => ⟨o.slots, k b o (fun z => hc (by simp [z])) e⟩) (fun _ _ _ _ n => n)
    (fun b o hc e => ⟨o, k b o (fun z => hc (by simp [z])) e⟩) (fun _ _ e => e) (fun _ _ _ e => e) (fun b ps e => ⟨#[], by rw [e]; simp⟩) (fun m hm => ?_) (fun b u e => ?_) I.bare
  · have e : b = it := by simpa using hb
    subst e
    exact ⟨h1, hL, h2, h3⟩
  · obtain ⟨o, es, ep, ho, r⟩ := hm
    exact ⟨o, es, ep, k _ o (Ne.symm hL) ho, r⟩
  · refine (I.hok b u e).stay (fun c v hc q => k c v ?_ q) (fun _ q => q) fun _ _ q => q
    rcases hc with z | z
    · rw [z]; exact nit b u e
    · exact nit c _ z
theorem Inv.tok (I : Inv X pins σ H s) (t : Nat) : Inv X pins σ H { s with toks := t } := I.un (h' := s.heap) (t' := t) Un.refl I.hok
/-- all objects kept -/
theorem Inv.kept {t' : Nat} (I : Inv X pins σ H s) (k : ∀ b u, s.heap.get? b = some u → h'.get? b = some u) : Inv X pins σ H { s with heap := h', toks := t' } := I.un (Un.kept k) (I.hok.kept k)
/-- a new object laid and tracked -/
theorem Inv.laid {a : Addr} {o : HO} {t' : Nat} (I : Inv X pins σ H s) (k : ∀ b u, s.heap.get? b = some u → h'.get? b = some u) (hp : s.heap.objs.size ≤ a) (new : ObjOk X.prog X.w (upd H a o) h' a o) :
    Inv X pins σ (upd H a o) { s with heap := h', toks := t' } := I.un (Un.laid k hp (I.hok.fresh hp)) (I.hok.laid k hp new)
/-- an object written -/
theorem Inv.write {x e : Addr} {o : HO} {t' : Nat} (I : Inv X pins σ H s) (mu : Mut (H x)) (he : e = x ∨ H e = some (.own x)) (k : ∀ b u, b ≠ e → s.heap.get? b = some u → h'.get? b = some u) (heo : ∃ u, h'.get? e = some u)
    (new : ObjOk X.prog X.w (upd H x o) h' x o) : Inv X pins σ (upd H x o) { s with heap := h', toks := t' } := I.un (Un.write mu he k heo) (I.hok.write mu he k heo new)
/-- forgetting slots, pins -/
theorem Inv.weak {σ' : List (Option V)} (I : Inv X pins σ H s) (hl : σ'.length = σ.length) (w : ∀ (i : Nat) v, σ'[i]? = some (some v) → σ[i]? = some (some v)) : Inv X pins σ' H s :=
  ⟨I.ok, I.os, I.bare, I.base, let ⟨m, hn, hl'⟩ := I.loc; ⟨m, hn, fun i x v e1 e2 e3 => hl' i x v e1 (w i v e2) e3⟩, I.cell, I.free, I.freeC, I.pin, I.hok, hl.trans I.len⟩
theorem Inv.pins_of {pins' : List (Addr × Obj)} (I : Inv X pins σ H s) (h : ∀ p ∈ pins', s.heap.get? p.1 = some p.2 ∧ H p.1 = none ∧ p.1 ≠ X.env.locals ∧ p.1 ∉ X.fs ∧ ∀ v, p.2.data ≠ .cell v) : Inv X pins' σ H s :=
  ⟨I.ok, I.os, I.bare, I.base, I.loc, I.cell, I.free, I.freeC, fun p hp => (List.mem_append.mp hp).elim (fun z => I.pin p (List.mem_append_left _ z)) (h p), I.hok, I.len⟩

theorem nodup_ix {N : List Str} (hN : N.Nodup) {i j : Nat} {x : Str} (a : N[i]? = some x) (b : N[j]? = some x) : i = j := by
  obtain ⟨h1, e1⟩ := List.getElem?_eq_some_iff.mp a
  obtain ⟨h2, e2⟩ := List.getElem?_eq_some_iff.mp b
  exact (List.getElem_inj hN).mp (e1.trans e2.symm)

/-- a name is stored; what changed -/
theorem store_ok2 {M : Model} {A : Around} {E : Value → Shared → Prop} {i : Nat} {x : Str} {v : V} {u : Value} {Q : Unit → Shared → Prop} (I : Inv X pins σ H s) (hN : X.N.Nodup) (hi : X.N[i]? = some x) (hx : Loc X.env.scope x) (r : RelV v u)
    (h : ∀ s', Inv X pins (σ.set i (some v)) H s' → (∃ a, Heap.SameBut a s.heap s'.heap ∧ (a = X.env.locals ∨ X.env.cells.lookup x = some a)) → Q () s') (hf : X.fn x = true ∨ X.env.scope.names.lookup x = some .local := by first | exact .inl rfl | exact .inr rfl | assumption) : wpAny M A (storeName X.env x u) Q E s := by
  obtain ⟨m, hn, hl⟩ := id I.loc
  have hcls : (X.env.scope.kind == .class || (X.env.scope.kind == .module && X.env.locals != X.env.globals)) = false := by rw [I.ok.kind]; rfl
  have hiσ : i < σ.length := by rw [I.len]; exact (List.getElem?_eq_some_iff.mp hi).1
  have cne := I.cne
  have tracked : ∀ {a : Addr} {h' : Heap}, (∃ o, s.heap.get? a = some o ∧ H a = none) → Heap.SameBut a s.heap h' → HOk X.prog X.w H h' := fun {a h'} ha hs b ob e => by
    obtain ⟨_, _, hfree⟩ := ha
    refine (I.hok b ob e).stay (fun c w' hc q => (hs.2 c ?_).trans q) (fun _ q => q) fun _ _ q => q
    rintro rfl
    rcases hc with rfl | hc
    · rw [hfree] at e; cases e
    · rw [hfree] at hc; cases hc
  rcases hx with hk | hk
  · refine wpAny_storeName_local hk hn (fun h' hn' hs => ?_) hcls
    obtain ⟨oL, _, _, hoL, _⟩ := id hn
    refine h _ ⟨I.ok, I.os, I.bare, ⟨fun b o e n hb hx => ?_, fun b o e n hb hx => ?_, I.base.free, fun b o e hx => ?_, I.base.tups, I.base.frzs, I.base.tbls⟩, ⟨_, hn', fun j y v' e1 e2 e3 => ?_⟩, fun y c e => ?_, I.free, I.freeC, fun p hp => ?_, tracked ⟨oL, hoL, I.free⟩ hs, by simpa using I.len⟩ ⟨_, hs, .inl rfl⟩
    · exact (hs.2 b (Nat.ne_of_lt (Nat.lt_of_lt_of_le (Heap.lt_size e) I.ok.above))).trans (I.base.keep b o e n hb hx)
    · obtain ⟨sl, e1⟩ := I.base.slot b o e n hb hx
      exact ⟨sl, (hs.2 b (Nat.ne_of_lt (Nat.lt_of_lt_of_le (Heap.lt_size e) I.ok.above))).trans e1⟩
    · obtain ⟨o', e1⟩ := I.base.there b o e hx
      exact ⟨o', (hs.2 b (Nat.ne_of_lt (Nat.lt_of_lt_of_le (Heap.lt_size e) I.ok.above))).trans e1⟩
    · by_cases hj : j = i
      · subst hj
        rw [hi] at e1; cases e1
        rw [List.getElem?_set_self hiσ] at e2
        cases e2
        exact ⟨u, r, .inl ⟨hk, by simp⟩⟩
      · rw [List.getElem?_set_ne (Ne.symm hj)] at e2
        obtain ⟨u', r', q⟩ := hl j y v' e1 e2 e3
        refine ⟨u', r', ?_⟩
        rcases q with ⟨k, e⟩ | ⟨k, c, e, z⟩
        · refine .inl ⟨k, ?_⟩
          have : y ≠ x := fun e => hj (nodup_ix hN e1 (e ▸ hi))
          simp [this, e]
        · exact .inr ⟨k, c, e, z.sameBut hs (cne y c e)⟩
    · obtain ⟨w', z⟩ := I.cell y c e
      exact ⟨w', z.sameBut hs (cne y c e)⟩
    · obtain ⟨e, n, ne, nf, d⟩ := I.pin p hp
      exact ⟨(hs.2 p.1 ne).trans e, n, ne, nf, d⟩
  · have hfn : X.fn x = true := by
      rcases hf with z | z
      · exact z
      · rw [z] at hk; cases hk
    obtain ⟨c, hc⟩ := I.ok.has x (.inl hk)
    obtain ⟨w', z⟩ := I.cell x c hc
    refine wpAny_storeName_cell I.ok.kind hk hc z (fun h' hc' hs => ?_)
    obtain ⟨oc, hoc, hocd⟩ := id z
    refine h { s with heap := h' } ⟨I.ok, I.os, I.bare, ⟨fun b o e n hb hx => ?_, fun b o e n hb hx => ?_, I.base.free, fun b o e hx => ?_, I.base.tups, I.base.frzs, I.base.tbls⟩, ⟨m, hn.sameBut hs (Ne.symm (cne x c hc)), fun j y v' e1 e2 e3 => ?_⟩, fun y c' e => ?_, I.free, I.freeC, fun p hp => ?_, tracked ⟨oc, hoc, I.freeC x c hc⟩ hs, by simpa using I.len⟩ ⟨c, hs, .inr hc⟩
    · exact (hs.2 b (Nat.ne_of_lt (Nat.lt_of_lt_of_le (Heap.lt_size e) (I.ok.cab x c hfn hc)))).trans (I.base.keep b o e n hb hx)
    · obtain ⟨sl, e1⟩ := I.base.slot b o e n hb hx
      exact ⟨sl, (hs.2 b (Nat.ne_of_lt (Nat.lt_of_lt_of_le (Heap.lt_size e) (I.ok.cab x c hfn hc)))).trans e1⟩
    · obtain ⟨o', e1⟩ := I.base.there b o e hx
      exact ⟨o', (hs.2 b (Nat.ne_of_lt (Nat.lt_of_lt_of_le (Heap.lt_size e) (I.ok.cab x c hfn hc)))).trans e1⟩
    · by_cases hj : j = i
      · subst hj
        rw [hi] at e1; cases e1
        rw [List.getElem?_set_self hiσ] at e2
        cases e2
        exact ⟨u, r, .inr ⟨.inl hk, c, hc, hc'⟩⟩
      · rw [List.getElem?_set_ne (Ne.symm hj)] at e2
        obtain ⟨u', r', q⟩ := hl j y v' e1 e2 e3
        refine ⟨u', r', ?_⟩
        rcases q with q | ⟨k, c', e, z'⟩
        · exact .inl q
        · refine .inr ⟨k, c', e, z'.sameBut hs ?_⟩
          rintro rfl
          exact hj (nodup_ix hN e1 (I.ok.inj _ _ _ e hc ▸ hi))
    · by_cases hcc : c' = c
      · subst hcc; exact ⟨_, hc'⟩
      · obtain ⟨w2, z2⟩ := I.cell y c' e
        exact ⟨w2, z2.sameBut hs hcc⟩
    · obtain ⟨e, n, ne, nf, d⟩ := I.pin p hp
      refine ⟨(hs.2 p.1 ?_).trans e, n, ne, nf, d⟩
      intro q
      rw [q, hoc] at e
      have q' : oc = p.2 := Option.some.inj e
      exact d w' (by rw [← q']; exact hocd)
theorem store_ok {M : Model} {A : Around} {E : Value → Shared → Prop} {i : Nat} {x : Str} {v : V} {u : Value} {Q : Unit → Shared → Prop} (I : Inv X pins σ H s) (hN : X.N.Nodup) (hi : X.N[i]? = some x) (hx : Loc X.env.scope x) (r : RelV v u)
    (h : ∀ s', Inv X pins (σ.set i (some v)) H s' → Q () s') (hf : X.fn x = true ∨ X.env.scope.names.lookup x = some .local := by first | exact .inl rfl | exact .inr rfl | assumption) : wpAny M A (storeName X.env x u) Q E s :=
  store_ok2 I hN hi hx r (fun s' I' _ => h s' I') hf
/-- behind a call or a block, the state as it is -/
theorem Inv.call' {s' : Shared} {ch : List Addr} (I : Inv X pins σ H s) (ho : s'.os = s.os) (u : Un (frs X.stack) ch H H' s.heap s'.heap) (hok : HOk X.prog X.w H' s'.heap) (hg : AllBare s'.gens)
    (hch : ∀ b ∈ ch, (b ∈ X.ex ∨ X.s₀.heap.objs.size ≤ b) ∧ b ≠ X.env.locals ∧ (∀ x c, X.env.cells.lookup x = some c → c ≠ b) ∧ ∀ p ∈ X.pn ++ pins, p.1 ≠ b) : Inv X pins σ H' s' := by
  obtain ⟨h', g', d', t', o'⟩ := s'
  have e : o' = s.os := ho
  subst e
  exact I.call (g' := g') (t' := t') (d' := d') u hok hg hch
end

/-! ### the judgements -/
/-- an exception: its class, its own dict's address (where it has one), the abstract heap behind it -/
abbrev XK := Value → Option Addr → Hp → Prop
abbrev St := List (Option V)
abbrev VK := V → Hp → Prop
/-- an expression's reading; a test's; an argument list's -/
abbrev TE := St → Hp → VK → Prop
abbrev TT := St → Hp → (Bool → Hp → Prop) → Prop
abbrev TA := St → Hp → (List V → Hp → Prop) → Prop
/-- what is wanted behind a statement -/
structure Ends where
  nx : St → Hp → Prop
  rt : VK
  bk : St → Hp → Prop := fun _ _ => False
  ct : St → Hp → Prop := fun _ _ => False
abbrev TS := Ends → St → Hp → Prop

def EP (X : Cx) (pins : List (Addr × Obj)) (σ : St) (Q : VK) (u : Value) (s' : Shared) : Prop := ∃ v H', Inv X pins σ H' s' ∧ RelV v u ∧ Q v H'
def TP (X : Cx) (pins : List (Addr × Obj)) (σ : St) (Q : Bool → Hp → Prop) (b : Bool) (s' : Shared) : Prop := ∃ H', Inv X pins σ H' s' ∧ Q b H'
def AP (X : Cx) (pins : List (Addr × Obj)) (σ : St) (Q : List V → Hp → Prop) (us : List Value) (s' : Shared) : Prop := ∃ vs H', Inv X pins σ H' s' ∧ Vals vs us ∧ Q vs H'
def SP (X : Cx) (pins : List (Addr × Obj)) (D : Ends) (f : Flow) (s' : Shared) : Prop :=
  match f with
  | .next => ∃ σ' H', Inv X pins σ' H' s' ∧ D.nx σ' H'
  | .brk => ∃ σ' H', Inv X pins σ' H' s' ∧ D.bk σ' H'
  | .cont => ∃ σ' H', Inv X pins σ' H' s' ∧ D.ct σ' H'
  | .ret u => ∃ v σ' H', Inv X pins σ' H' s' ∧ RelV v u ∧ D.rt v H'

def PE (X : Cx) (e : Expr) (t : TE) : Prop :=
  ∀ (pins : List (Addr × Obj)) (s : Shared) (σ : St) (H : Hp) (Q : VK), Inv X pins σ H s → t σ H Q → wpAny (model X.prog X.w) X.A (eval e X.env) (EP X pins σ Q) X.xe s
def PT (X : Cx) (e : Expr) (t : TT) : Prop :=
  ∀ (pins : List (Addr × Obj)) (s : Shared) (σ : St) (H : Hp) (Q : Bool → Hp → Prop), Inv X pins σ H s → t σ H Q → wpAny (model X.prog X.w) X.A (isTrue e X.env (eval e X.env)) (TP X pins σ Q) X.xe s
/-- a test whatever its 'whole' is (and, or) -/
def PW (X : Cx) (e : Expr) (t : TT) : Prop :=
  ∀ (whole : Sem Value) (pins : List (Addr × Obj)) (s : Shared) (σ : St) (H : Hp) (Q : Bool → Hp → Prop), Inv X pins σ H s → t σ H Q → wpAny (model X.prog X.w) X.A (isTrue e X.env whole) (TP X pins σ Q) X.xe s
theorem PW.pt {X : Cx} {e : Expr} {t : TT} (h : PW X e t) : PT X e t := h _
/-- an argument list (no star), from the left -/
def PA (X : Cx) (es : List Expr) (t : TA) : Prop :=
  ∀ (pos : Pos) (pins : List (Addr × Obj)) (s : Shared) (σ : St) (H : Hp) (Q : List V → Hp → Prop), Inv X pins σ H s → t σ H Q → wpAny (model X.prog X.w) X.A (spliced (backTo pos (starEach es X.env))) (AP X pins σ Q) X.xe s
def PS (X : Cx) (st : Stmt) (t : TS) : Prop :=
  ∀ (pins : List (Addr × Obj)) (s : Shared) (σ : St) (H : Hp) (D : Ends), Inv X pins σ H s → t D σ H → wpAny (model X.prog X.w) X.A (exec st X.env) (SP X pins D) X.xe s
def PSs (X : Cx) (st : List Stmt) (t : TS) : Prop :=
  ∀ (pins : List (Addr × Obj)) (s : Shared) (σ : St) (H : Hp) (D : Ends), Inv X pins σ H s → t D σ H → wpAny (model X.prog X.w) X.A (execs st X.env) (SP X pins D) X.xe s
/-- weaken the end -/
theorem thn {α : Type} {t : Sem α} {Q Q' : α → Shared → Prop} {M : Model} {A : Around} {E : Value → Shared → Prop} {s : Shared} (h : wpAny M A t Q E s) (hQ : ∀ a s, Q a s → Q' a s) : wpAny M A t Q' E s := wpAny_mono h hQ fun _ _ x => x
end L2

namespace L2
open PySem PySem.Spec PyProof.Rows
section
variable {X : Cx}

/-! ### names and constants -/
def tVar (i : Nat) : TE := fun σ H Q => ∃ v, σ[i]? = some (some v) ∧ Q v H
def tC (v : V) : TE := fun _ H Q => Q v H
theorem pe_var {i : Nat} {x : Str} {pos : Pos} (hN : X.N[i]? = some x) (hv : Vis X.env.scope x) (hd : (x == ("__debug__" : Str)) = false := by decide) (hcd : (x == ("__classdict__" : Str)) = false := by decide) : PE X (.Name x pos) (tVar i) := by
  intro pins s σ H Q I h
  obtain ⟨v, e, h⟩ := h
  obtain ⟨m, hn, hl⟩ := I.loc
  obtain ⟨u, r, l⟩ := hl i x v hN e hv
  have fin : EP X pins σ Q u s := ⟨v, H, I, r, h⟩
  rcases l with ⟨hk, hm⟩ | ⟨hk, c, hc, hcell⟩
  · exact wpAny_Name (wpAny_loadName_local I.ok.kind hk hn hm fin) hd
  · rcases hk with hk | hk
    · exact wpAny_Name (wpAny_loadName_cell I.ok.kind hk hc hcell fin) hd
    · exact wpAny_Name (wpAny_loadName_free I.ok.kind hk hc hcell fin hcd) hd
theorem pe_int {i j pos} : PE X (.Constant (.int i) j pos) (tC (.int i)) := fun _ _ _ H _ I h => wpAny_Constant_int ⟨.int i, H, I.tok _, ⟨_, rfl⟩, h⟩
theorem pe_bl {b j pos} : PE X (.Constant (.bool b) j pos) (tC (.bl b)) := fun _ _ _ H _ I h => Constant_bool ⟨.bl b, H, I, rfl, h⟩
theorem pe_non {j pos} : PE X (.Constant .none j pos) (tC .non) := fun _ _ _ H _ I h => Constant_none ⟨.non, H, I, rfl, h⟩
theorem pe_str {x j pos} : PE X (.Constant (.str x) j pos) (tC (.str x)) := fun _ _ _ H _ I h => Calls.Constant_str ⟨.str x, H, I.tok _, ⟨_, rfl⟩, h⟩

/-- a global name of the def -/
def Gl (X : Cx) (x : Str) : Prop := X.env.kindOf x = some .globalImplicit
theorem ld_glob {E : Value → Shared → Prop} {pins : List (Addr × Obj)} {s : Shared} {σ : St} {H : Hp} {x : Str} {u : Value} {pos : Pos} {Q : Value → Shared → Prop} (I : Inv X pins σ H s) (hg : Gl X x) (hm : X.mg x = some u) (h : Q u s)
    (hd : (x == ("__debug__" : Str)) = false := by decide) : wpAny (model X.prog X.w) X.A (eval (.Name x pos) X.env) Q E s :=
  Calls.Name_function_global I.ok.kind hg (Calls.loadGlobal_global (by rw [I.ok.glob]; exact I.mod.glob.keeps I.bk) hm h) hd
theorem ld_blt {E : Value → Shared → Prop} {pins : List (Addr × Obj)} {s : Shared} {σ : St} {H : Hp} {x : Str} {u : Value} {pos : Pos} {Q : Value → Shared → Prop} (I : Inv X pins σ H s) (hg : Gl X x) (hm : X.mg x = none) (hv : bootBuiltins x = some u) (h : Q u s)
    (hn : x ≠ "__name__" := by decide) (hd : (x == ("__debug__" : Str)) = false := by decide) : wpAny (model X.prog X.w) X.A (eval (.Name x pos) X.env) Q E s := by
  obtain ⟨mb, h1, h2⟩ := I.mod.blt
  exact Calls.Name_function_global I.ok.kind hg (Calls.loadGlobal_builtin (by rw [I.ok.glob]; exact I.mod.glob.keeps I.bk) hm (by rw [I.ok.blt]; exact h1.keeps I.bk) ((h2 x hn).trans hv) h) hd
/-- a module's constant, a class, a function, as a value -/
theorem pe_glob {x : Str} {v : V} {u : Value} {pos : Pos} (hg : Gl X x) (hm : X.mg x = some u) (r : RelV v u) (hd : (x == ("__debug__" : Str)) = false := by decide) : PE X (.Name x pos) (tC v) :=
  fun _ _ _ H _ I h => ld_glob I hg hm ⟨v, H, I, r, h⟩ hd
theorem pe_bltn {x : Str} {v : V} {u : Value} {pos : Pos} (hg : Gl X x) (hm : X.mg x = none) (hv : bootBuiltins x = some u) (r : RelV v u) (hn : x ≠ "__name__" := by decide) (hd : (x == ("__debug__" : Str)) = false := by decide) : PE X (.Name x pos) (tC v) :=
  fun _ _ _ H _ I h => ld_blt I hg hm hv ⟨v, H, I, r, h⟩ hn hd

/-! ### arithmetic -/
/-- two ints -/
def t2I (ta tb : TE) (k : Int → Int → Hp → Prop) : St → Hp → Prop := fun σ H => ta σ H fun x H1 => tb σ H1 fun y H2 => ∃ i j, x = .int i ∧ y = .int j ∧ k i j H2
def tAdd (ta tb : TE) : TE := fun σ H Q => t2I ta tb (fun i j H2 => Q (.int (i + j)) H2) σ H
def tSub (ta tb : TE) : TE := fun σ H Q => t2I ta tb (fun i j H2 => Q (.int (i - j)) H2) σ H
/-- the left factor below 2^64 -/
def tMul (ta tb : TE) : TE := fun σ H Q => t2I ta tb (fun i j H2 => (-(2 ^ 64) < i ∧ i < 2 ^ 64) ∧ Q (.int (i * j)) H2) σ H
variable {a b : Expr} {ta tb : TE} {pos : Pos}
/-! ### comparisons -/
def PC (X : Cx) (op : CmpOp) (a b : Expr) (t : TE) : Prop :=
  ∀ (pins : List (Addr × Obj)) (s : Shared) (σ : St) (H : Hp) (Q : VK), Inv X pins σ H s → t σ H Q →
    wpAny (model X.prog X.w) X.A (eval a X.env) (fun v s₁ => wpAny (model X.prog X.w) X.A (eval b X.env) (fun u s₂ => wpAny (model X.prog X.w) X.A (compareOp op v u) (EP X pins σ Q) X.xe s₂) X.xe s₁) X.xe s
def tCmp (p : Int → Int → Bool) (ta tb : TE) : TE := fun σ H Q => t2I ta tb (fun i j H2 => Q (.bl (p i j)) H2) σ H
abbrev tLt : TE → TE → TE := tCmp fun i j => decide (i < j)
abbrev tLe : TE → TE → TE := tCmp fun i j => decide (i ≤ j)
abbrev tGt : TE → TE → TE := tCmp fun i j => decide (j < i)
abbrev tGe : TE → TE → TE := tCmp fun i j => decide (j ≤ i)
abbrev tEqI : TE → TE → TE := tCmp fun i j => decide (i = j)
abbrev tNeI : TE → TE → TE := tCmp fun i j => !decide (i = j)
/-- is None -/
def tIsN (ta : TE) : TE := fun σ H Q => ta σ H fun x H1 => Q (.bl (decide (x = .non))) H1
def tNotN (ta : TE) : TE := fun σ H Q => ta σ H fun x H1 => Q (.bl (!decide (x = .non))) H1
/-- a comparison as a value, as a test -/
def tB (t : TE) : TT := fun σ H Q => t σ H fun x H1 => ∃ c, x = .bl c ∧ Q c H1
/-- an expression whose value is a bool, as a test -/
theorem pt_val {e : Expr} {t : TE} (h : PE X e t) (he : ∀ whole, isTrue e X.env whole = (do let v ← whole; standAt e.pos; holding [v] (truthy v)) := by intro _; rfl) : PT X e (tB t) := by
  intro pins s σ H Q I hw
  refine isTrue_plain (thn (h pins s σ H _ I hw) fun v s1 ⟨x, H1, I1, r1, q1⟩ => ?_) (he _)
  obtain ⟨d, rfl, q⟩ := q1
  cases r1
  exact wpAny_truthy_bool ⟨H1, I1, q⟩

/-! ### and, or, not -/
variable {tA tB' : TT} {rest : List Expr}
def tAnd (t u : TT) : TT := fun σ H Q => t σ H fun c H1 => if c = true then u σ H1 Q else Q false H1
def tOr (t u : TT) : TT := fun σ H Q => t σ H fun c H1 => if c = true then Q true H1 else u σ H1 Q
def tNot (t : TT) : TT := fun σ H Q => t σ H fun c H1 => Q (!c) H1
theorem pw_and1 (ha : PT X a tA) : PW X (.BoolOp .And [a] pos) tA := by
  intro wh pins s σ H Q I h
  refine isTrue_and (thn (ha pins s σ H Q I h) fun c s1 e => ?_)
  cases c with
  | true => exact isTrue_and_nil e
  | false => exact e
theorem pw_or1 (ha : PT X a tA) : PW X (.BoolOp .Or [a] pos) tA := by
  intro wh pins s σ H Q I h
  refine isTrue_or (thn (ha pins s σ H Q I h) fun c s1 e => ?_)
  cases c with
  | false => exact isTrue_or_nil e
  | true => exact e
theorem pw_and (ha : PT X a tA) (hb : PW X (.BoolOp .And (b :: rest) pos) tB') : PW X (.BoolOp .And (a :: b :: rest) pos) (tAnd tA tB') := by
  intro wh pins s σ H Q I h
  refine isTrue_and (thn (ha pins s σ H _ I h) fun c s1 ⟨H1, I1, q1⟩ => ?_)
  cases c with
  | true => exact hb wh pins s1 σ H1 Q I1 q1
  | false => exact ⟨H1, I1, q1⟩
theorem pw_or (ha : PT X a tA) (hb : PW X (.BoolOp .Or (b :: rest) pos) tB') : PW X (.BoolOp .Or (a :: b :: rest) pos) (tOr tA tB') := by
  intro wh pins s σ H Q I h
  refine isTrue_or (thn (ha pins s σ H _ I h) fun c s1 ⟨H1, I1, q1⟩ => ?_)
  cases c with
  | true => exact ⟨H1, I1, q1⟩
  | false => exact hb wh pins s1 σ H1 Q I1 q1
theorem pt_not (ha : PT X a tA) : PT X (.UnaryOp .Not a pos) (tNot tA) := by
  intro pins s σ H Q I h
  exact isTrue_not (ha pins s σ H (fun c H1 => Q (!c) H1) I h)
/-- .. as values (bools) -/
def tAndV (ta tb : TE) : TE := fun σ H Q => ta σ H fun x H1 => ∃ c, x = .bl c ∧ if c = true then tb σ H1 Q else Q (.bl false) H1
def tOrV (ta tb : TE) : TE := fun σ H Q => ta σ H fun x H1 => ∃ c, x = .bl c ∧ if c = true then Q (.bl true) H1 else tb σ H1 Q
def tNotV (ta : TE) : TE := fun σ H Q => ta σ H fun x H1 => ∃ c, x = .bl c ∧ Q (.bl (!c)) H1
theorem pe_one {op} {t : TE} (h : PE X a t) : PE X (.BoolOp op [a] pos) t := fun pins s σ H Q I hw => BoolOp_one (h pins s σ H Q I hw)
theorem pe_and (ha : PE X a ta) (hb : PE X (.BoolOp .And (b :: rest) pos) tb) : PE X (.BoolOp .And (a :: b :: rest) pos) (tAndV ta tb) := by
  intro pins s σ H Q I h
  refine BoolOp_and (thn (ha pins s σ H _ I h) fun v s1 ⟨x, H1, I1, r1, q1⟩ => ?_)
  obtain ⟨c, rfl, q1⟩ := q1
  cases r1
  refine wpAny_truthy_bool ?_
  cases c with
  | true => exact hb pins s1 σ H1 Q I1 q1
  | false => exact ⟨.bl false, H1, I1, rfl, q1⟩
theorem pe_or (ha : PE X a ta) (hb : PE X (.BoolOp .Or (b :: rest) pos) tb) : PE X (.BoolOp .Or (a :: b :: rest) pos) (tOrV ta tb) := by
  intro pins s σ H Q I h
  refine BoolOp_or (thn (ha pins s σ H _ I h) fun v s1 ⟨x, H1, I1, r1, q1⟩ => ?_)
  obtain ⟨c, rfl, q1⟩ := q1
  cases r1
  refine wpAny_truthy_bool ?_
  cases c with
  | false => exact hb pins s1 σ H1 Q I1 q1
  | true => exact ⟨.bl true, H1, I1, rfl, q1⟩
theorem pe_not (ha : PE X a ta) : PE X (.UnaryOp .Not a pos) (tNotV ta) := by
  intro pins s σ H Q I h
  refine UnaryOp_ (thn (ha pins s σ H _ I h) fun v s1 ⟨x, H1, I1, r1, q1⟩ => ?_)
  obtain ⟨c, rfl, q1⟩ := q1
  cases r1
  exact not_of (wpAny_truthy_bool ⟨.bl (!c), H1, I1, rfl, q1⟩)
/-- a if t else b -/
def tIf (t : TT) (ta tb : TE) : TE := fun σ H Q => t σ H fun c H1 => if c = true then ta σ H1 Q else tb σ H1 Q
end
end L2

namespace L2
open PySem PySem.Spec PyProof.Rows

/-! ### a list, a tuple that is read: tracked, frozen, or an object of the module -/
def SqL (K : PySem.W.Frag) (H : Hp) (a : Addr) (xs : List V) : Prop :=
  Rd H a (.lst xs) ∨
    ∃ (o : Obj) (its : Array Value) (n : Nat), K.lookup a = some o ∧ o.cls = .type "list" ∧ o.dict = none ∧ o.data = .seq its n ∧ its.size ≤ sizeLine ∧ Vals xs its.toList
def SqT (K : PySem.W.Frag) (H : Hp) (a : Addr) (xs : List V) : Prop :=
  Rd H a (.tup xs) ∨
    ∃ (o : Obj) (its : Array Value) (n : Nat), K.lookup a = some o ∧ o.cls = .type "tuple" ∧ o.data = .seq its n ∧ its.size ≤ sizeLine ∧ Vals xs its.toList
def absV : Value → Option V
  | .none => some .non
  | .bool b => some (.bl b)
  | .int i _ => some (.int i)
  | .str x _ => some (.str x)
  | .bytes b _ => some (.byt b)
  | .float b _ => some (.flt b)
  | .ref a => some (.ref a)
  | .type n => some (.ty n)
  | _ => none
theorem RelV.abs {x : V} {u : Value} (r : RelV x u) : absV u = some x := by
  cases x with
  | non => cases r; rfl
  | bl _ => cases r; rfl
  | int _ => obtain ⟨t, rfl⟩ := r; rfl
  | str _ => obtain ⟨t, rfl⟩ := r; rfl
  | byt _ => obtain ⟨t, rfl⟩ := r; rfl
  | flt _ => obtain ⟨t, rfl⟩ := r; rfl
  | ref _ => cases r; rfl
  | ty _ => cases r; rfl
theorem RelV.inj {x y : V} {u : Value} (r : RelV x u) (q : RelV y u) : x = y := Option.some.inj (r.abs.symm.trans q.abs)
theorem Vals.inj : ∀ {xs ys : List V} {us : List Value}, Vals xs us → Vals ys us → xs = ys
  | _, _, _, .nil, .nil => rfl
  | _, _, _, .cons r t, .cons r' t' => by rw [r.inj r', Vals.inj t t']
section
variable {X : Cx} {pins : List (Addr × Obj)} {σ : St} {H : Hp} {s : Shared} {a : Addr} {xs ys : List V}
theorem SqL.of {K : PySem.W.Frag} (h : H a = some (.lst xs)) : SqL K H a xs := .inl (.inl h)
theorem SqT.of {K : PySem.W.Frag} (h : H a = some (.tup xs)) : SqT K H a xs := .inl (.inl h)
theorem Inv.list (I : Inv X pins σ H s) (h : SqL X.K H a xs) : ∃ its : List Value, Vals xs its ∧ PlainL s.heap a its.toArray ∧ xs.length ≤ sizeLine := by
  rcases h with h | ⟨o, its, n, hk, hc, hd, hs, hz, r⟩
  · obtain ⟨z, its, n, r, e⟩ := h.ok I.hok
    exact ⟨its, r, ⟨_, n, e, rfl, rfl, rfl⟩, z⟩
  · refine ⟨its.toList, r, ⟨o, n, I.kIn a o hk, hc, hd, by simpa using hs⟩, ?_⟩
    have e := r.length
    simp only [Array.length_toList] at e
    omega
theorem Inv.tuple (I : Inv X pins σ H s) (h : SqT X.K H a xs) : ∃ its : List Value, Vals xs its ∧ IsTup s.heap a its.toArray ∧ xs.length ≤ sizeLine := by
  rcases h with h | ⟨o, its, n, hk, hc, hs, hz, r⟩
  · obtain ⟨z, its, r, p⟩ := h.ok I.hok
    exact ⟨its, r, p, z⟩
  · refine ⟨its.toList, r, ⟨o, I.kIn a o hk, hc, n, by simpa using hs⟩, ?_⟩
    have e := r.length
    simp only [Array.length_toList] at e
    omega
theorem Inv.list_inj (I : Inv X pins σ H s) (h : SqL X.K H a xs) (h' : SqL X.K H a ys) : xs = ys := by
  obtain ⟨its, r, ⟨o, n, e, _, _, d⟩, _⟩ := I.list h
  obtain ⟨its', r', ⟨o', n', e', _, _, d'⟩, _⟩ := I.list h'
  rw [e] at e'; cases e'
  rw [d] at d'
  injection d' with d1 _
  have : its = its' := by simpa using congrArg Array.toList d1
  subst this
  exact r.inj r'
theorem Inv.tuple_inj (I : Inv X pins σ H s) (h : SqT X.K H a xs) (h' : SqT X.K H a ys) : xs = ys := by
  obtain ⟨its, r, ⟨o, e, _, n, d⟩, _⟩ := I.tuple h
  obtain ⟨its', r', ⟨o', e', _, n', d'⟩, _⟩ := I.tuple h'
  rw [e] at e'; cases e'
  rw [d] at d'
  injection d' with d1 _
  have : its = its' := by simpa using congrArg Array.toList d1
  subst this
  exact r.inj r'
end

/-! ### another wish about exceptions -/
abbrev Cx.wish (X : Cx) (E : Value → Shared → Prop) : Cx := { X with xe := E }
/-- no exception leaves -/
abbrev Cx.nox (X : Cx) : Cx := X.wish fun _ _ => False
theorem Cx.Ok.wish {X : Cx} (ok : X.Ok) (E : Value → Shared → Prop) : (X.wish E).Ok :=
  ⟨ok.mod, ok.kind, ok.glob, ok.blt, ok.above, ok.inj, ok.has, ok.cab, ok.hd, ok.frames, ok.stk, ok.exf, ok.bs, ok.bsz, ok.noex, ok.exfs, ok.funs, ok.frf⟩
theorem Cx.Ok.unwish {X : Cx} {E : Value → Shared → Prop} (ok : (X.wish E).Ok) : X.Ok :=
  ⟨ok.mod, ok.kind, ok.glob, ok.blt, ok.above, ok.inj, ok.has, ok.cab, ok.hd, ok.frames, ok.stk, ok.exf, ok.bs, ok.bsz, ok.noex, ok.exfs, ok.funs, ok.frf⟩
section
variable {X : Cx} {pins : List (Addr × Obj)} {σ : St} {H : Hp} {s : Shared} {E : Value → Shared → Prop}
theorem Inv.wish (I : Inv X pins σ H s) (E : Value → Shared → Prop) : Inv (X.wish E) pins σ H s := ⟨I.ok.wish E, I.os, I.bare, I.base, I.loc, I.cell, I.free, I.freeC, I.pin, I.hok, I.len⟩
theorem Inv.unwish (I : Inv (X.wish E) pins σ H s) : Inv X pins σ H s := ⟨I.ok.unwish, I.os, I.bare, I.base, I.loc, I.cell, I.free, I.freeC, I.pin, I.hok, I.len⟩
theorem SP.unwish {D : Ends} {f : Flow} {s' : Shared} (h : SP (X.wish E) pins D f s') : SP X pins D f s' := by
  cases f with
  | next => obtain ⟨σ', H', I, q⟩ := h; exact ⟨σ', H', I.unwish, q⟩
  | brk => obtain ⟨σ', H', I, q⟩ := h; exact ⟨σ', H', I.unwish, q⟩
  | cont => obtain ⟨σ', H', I, q⟩ := h; exact ⟨σ', H', I.unwish, q⟩
  | ret u => obtain ⟨v, σ', H', I, r, q⟩ := h; exact ⟨v, σ', H', I.unwish, r, q⟩
theorem PE.nox {e : Expr} {t : TE} (h : PE X.nox e t) : PE X e t := fun pins s σ H Q I hw =>
  wpAny_mono (h pins s σ H Q (I.wish _) hw) (fun _ _ ⟨v, H', I', r, q⟩ => ⟨v, H', I'.unwish, r, q⟩) fun _ _ z => False.elim z
theorem PT.nox {e : Expr} {t : TT} (h : PT X.nox e t) : PT X e t := fun pins s σ H Q I hw =>
  wpAny_mono (h pins s σ H Q (I.wish _) hw) (fun _ _ ⟨H', I', q⟩ => ⟨H', I'.unwish, q⟩) fun _ _ z => False.elim z
theorem PSs.nox {st : List Stmt} {t : TS} (h : PSs X.nox st t) : PSs X st t := fun pins s σ H D I hw =>
  wpAny_mono (h pins s σ H D (I.wish _) hw) (fun _ _ q => q.unwish) fun _ _ z => False.elim z
end

/-! ### blocks and small statements -/
section
variable {X : Cx} {st : Stmt} {rest : List Stmt} {t u : TS} {e : Expr} {te : TE} {pos : Pos}
def tNext : TS := fun D σ H => D.nx σ H
def tSeq (t u : TS) : TS := fun D σ H => t { D with nx := u D } σ H
theorem pss_nil : PSs X [] tNext := fun _ _ σ H _ I h => wpAny_execs_nil ⟨σ, H, I, h⟩
theorem pss_cons (h1 : PS X st t) (h2 : PSs X rest u) : PSs X (st :: rest) (tSeq t u) := by
  intro pins s σ H D I h
  refine wpAny_execs_cons (thn (h1 pins s σ H { D with nx := u D } I h) fun f s1 q => ?_)
  cases f with
  | next =>
    obtain ⟨σ', H', I', q⟩ := q
    exact h2 pins s1 σ' H' D I' q
  | ret v => exact q
  | brk => exact q
  | cont => exact q
theorem pss_one (h1 : PS X st t) : PSs X [st] t := by
  intro pins s σ H D I h
  refine wpAny_execs_cons (thn (h1 pins s σ H D I h) fun f s1 q => ?_)
  cases f with
  | next => exact wpAny_execs_nil q
  | ret v => exact q
  | brk => exact q
  | cont => exact q
def tBreak : TS := fun D σ H => D.bk σ H
def tCont : TS := fun D σ H => D.ct σ H
/-- in a def's body nothing is shown -/
theorem Inv.quiet {pins : List (Addr × Obj)} {σ : St} {H : Hp} {s : Shared} (I : Inv X pins σ H s) : interactive X.env = false := by simp [interactive, I.ok.kind]
/-- an expression whose value is dropped -/
def tDrop (te : TE) : TS := fun D σ H => te σ H fun _ H1 => D.nx σ H1
theorem ps_expr (he : PE X e te) (hs : swapsWith e none pos.line X.env = pure false := by rfl) : PS X (.Expr e pos) (tDrop te) := by
  intro pins s σ H D I h
  exact wpAny_Expr_any (thn (he pins s σ H _ I h) fun v s1 ⟨x, H1, I1, r1, q1⟩ => ⟨σ, H1, I1, q1⟩) I.quiet hs
def tRet (te : TE) : TS := fun D σ H => te σ H D.rt
theorem ps_ret (he : PE X e te) : PS X (.Return (some e) pos) (tRet te) := by
  intro pins s σ H D I h
  exact wpAny_Return_some (thn (he pins s σ H _ I h) fun v s1 ⟨x, H1, I1, r1, q1⟩ => ⟨x, σ, H1, I1, r1, q1⟩)
def tRetN : TS := fun D _ H => D.rt .non H
def tIfS (c : TT) (t u : TS) : TS := fun D σ H => c σ H fun b H1 => if b = true then t D σ H1 else u D σ H1
theorem ps_if {c : Expr} {a b : List Stmt} {tc : TT} (hc : PT X c tc) (ha : PSs X a t) (hb : PSs X b u) : PS X (.If c a b pos) (tIfS tc t u) := by
  intro pins s σ H D I h
  refine wpAny_If (thn (hc pins s σ H _ I h) fun d s1 ⟨H1, I1, q1⟩ => ?_)
  cases d with
  | true => exact ha pins s1 σ H1 D I1 q1
  | false => exact hb pins s1 σ H1 D I1 q1
/-- code that the proof never comes to -/
def tNever : TS := fun _ _ _ => False
end

/-! ### targets -/
abbrev TG := V → St → Hp → (St → Hp → Prop) → Prop
abbrev TGs := List V → St → Hp → (St → Hp → Prop) → Prop
def PG (X : Cx) (target : Expr) (t : TG) : Prop :=
  ∀ (pins : List (Addr × Obj)) (s : Shared) (σ : St) (H : Hp) (v : V) (u : Value) (Q : St → Hp → Prop), Inv X pins σ H s → RelV v u → t v σ H Q →
    wpAny (model X.prog X.w) X.A (assign target X.env u) (fun _ s' => ∃ σ' H', Inv X pins σ' H' s' ∧ Q σ' H') X.xe s
/-- several targets, one after another -/
def PGs (X : Cx) (ts : List Expr) (t : TGs) : Prop :=
  ∀ (pins : List (Addr × Obj)) (s : Shared) (σ : St) (H : Hp) (vs : List V) (us : List Value) (Q : St → Hp → Prop), Inv X pins σ H s → Vals vs us → t vs σ H Q →
    wpAny (model X.prog X.w) X.A (assignInOrder ((assignEach ts X.env).map (·.2)) us) (fun _ s' => ∃ σ' H', Inv X pins σ' H' s' ∧ Q σ' H') X.xe s
/-- o[i] = v, by values -/
abbrev TSet := V → V → V → Hp → (Hp → Prop) → Prop
def PSet (X : Cx) (t : TSet) : Prop :=
  ∀ (pins : List (Addr × Obj)) (s : Shared) (σ : St) (H : Hp) (o i v : V) (ov iv u : Value) (Q : Hp → Prop), Inv X pins σ H s → RelV o ov → RelV i iv → RelV v u → t o i v H Q →
    wpAny (model X.prog X.w) X.A (setItem ov iv u) (fun _ s' => ∃ H', Inv X pins σ H' s' ∧ Q H') X.xe s
/-- a op= b, by values -/
abbrev TIp := V → V → Hp → VK → Prop
def PIp (X : Cx) (op : Operator) (t : TIp) : Prop :=
  ∀ (pins : List (Addr × Obj)) (s : Shared) (σ : St) (H : Hp) (x y : V) (v u : Value) (Q : VK), Inv X pins σ H s → RelV x v → RelV y u → t x y H Q →
    wpAny (model X.prog X.w) X.A (inplaceOp op v u) (EP X pins σ Q) X.xe s
section
variable {X : Cx} {pos : Pos}
def gName (i : Nat) : TG := fun v σ H Q => Q (σ.set i (some v)) H
theorem pg_name {i : Nat} {x : Str} (hN : X.N.Nodup) (hi : X.N[i]? = some x) (hx : Loc X.env.scope x) (hf : X.fn x = true ∨ X.env.scope.names.lookup x = some .local := by first | exact .inl rfl | exact .inr rfl | assumption) : PG X (.Name x pos) (gName i) := by
  intro pins s σ H v u Q I r h
  exact wpAny_assign_Name (store_ok I hN hi hx r (fun s' I' => ⟨_, H, I', h⟩) hf)
def gNil : TGs := fun vs σ H Q => vs = [] ∧ Q σ H
def gCons (t : TG) (u : TGs) : TGs := fun vs σ H Q => ∃ v r, vs = v :: r ∧ t v σ H fun σ' H' => u r σ' H' Q
theorem pgs_nil : PGs X [] gNil := by
  intro pins s σ H vs us Q I r h
  obtain ⟨e, h⟩ := h
  subst e
  cases r
  exact assignInOrder_nil ⟨σ, H, I, h⟩
theorem pgs_cons {e : Expr} {es : List Expr} {t : TG} {u : TGs} (h1 : PG X e t) (h2 : PGs X es u)
    (hs : (assignEach (e :: es) X.env).map (·.2) = assign e X.env :: (assignEach es X.env).map (·.2) := by rfl) : PGs X (e :: es) (gCons t u) := by
  intro pins s σ H vs us Q I r h
  obtain ⟨v, vr, e1, h⟩ := h
  subst e1
  cases r with
  | cons r rr =>
    rw [hs]
    refine assignInOrder_cons (thn (h1 pins s σ H _ _ _ I r h) fun _ s1 ⟨σ1, H1, I1, q1⟩ => ?_)
    exact h2 pins s1 σ1 H1 _ _ Q I1 rr q1
/-- (a, b, ..) = a tuple of that length -/
def gTup (K : PySem.W.Frag) (n : Nat) (t : TGs) : TG := fun v σ H Q => ∃ a xs, v = .ref a ∧ SqT K H a xs ∧ xs.length = n ∧ t xs σ H Q
theorem pg_tup {es : List Expr} {k : Nat} {t : TGs} {n : Nat} (hc : X.calm = true) (h : PGs X es t)
    (hn : (assignEach es X.env).length = n := by rfl) (hst : (assignEach es X.env).findIdx? (·.1) = none := by rfl) : PG X (.Tuple es k pos) (gTup X.K n t) := by
  intro pins s σ H v u Q I r hw
  obtain ⟨a, xs, e1, hq, hl, hw⟩ := hw
  subst e1
  cases r
  obtain ⟨its, rv, ht, hz⟩ := I.tuple hq
  refine assign_Tuple_tuple (I.ok.hd hc) ht (by simp [hn, ← hl, rv.length]) hst fun h' hx => ?_
  have I1 : Inv X pins σ H { s with heap := h' } := I.kept (t' := s.toks) fun b o e => hx b o (Nat.ne_of_lt (Heap.lt_size e)) e
  exact h pins _ σ H xs _ Q I1 (by simpa using rv) hw
/-- o[i] = .. -/
def gSub (to ti : TE) (t : TSet) : TG := fun v σ H Q => to σ H fun o H1 => ti σ H1 fun i H2 => t o i v H2 fun H3 => Q σ H3
theorem pg_sub {o i : Expr} {to ti : TE} {t : TSet} (ho : PE X o to) (hi : PE X i ti) (hs : PSet X t)
    (ha : ∀ v, assign (.Subscript o i pos) X.env v = (do
      let ov ← holding [v] (eval o X.env)
      let iv ← holding [v, ov] (eval i X.env)
      standAt pos
      holding [v, ov, iv] (setItem ov iv v)
      release [v, ov, iv] []) := by intro _; rfl) : PG X (.Subscript o i pos) (gSub to ti t) := by
  intro pins s σ H v u Q I r h
  rw [ha]
  refine wpAny_bind (wpAny_holding (thn (ho pins s σ H _ I h) fun ov s1 ⟨x, H1, I1, r1, q1⟩ => ?_))
  refine wpAny_bind (wpAny_holding (thn (hi pins s1 σ H1 _ I1 q1) fun iv s2 ⟨y, H2, I2, r2, q2⟩ => ?_))
  refine wpAny_bind (wpAny_standAt (wpAny_bind (wpAny_holding (thn (hs pins s2 σ H2 x y v ov iv u _ I2 r1 r2 r q2) fun _ s3 ⟨H3, I3, q3⟩ => ?_))))
  exact wpAny_release ⟨σ, H3, I3, q3⟩
/-- target = value -/
def tAsg (te : TE) (g : TG) : TS := fun D σ H => te σ H fun x H1 => g x σ H1 D.nx
theorem ps_asg {tg e : Expr} {te : TE} {g : TG} (he : PE X e te) (hg : PG X tg g) (hs : swapsWithSole [tg] e pos.line X.env = pure false := by rfl) (hw : swappedStores [tg] e X.env = pure none := by rfl)
    (h1 : (assignEach [tg] X.env).map (·.2) = [assign tg X.env] := by rfl) : PS X (.Assign [tg] e pos) (tAsg te g) := by
  intro pins s σ H D I h
  refine wpAny_Assign_stores (thn (he pins s σ H _ I h) fun v s1 ⟨x, H1, I1, r1, q1⟩ => ?_) hs hw
  rw [h1]
  exact thn (hg pins s1 σ H1 x v _ I1 r1 q1) fun _ s2 q => q
/-- name = value -/
theorem ps_set {i : Nat} {x : Str} {e : Expr} {te : TE} {pos' : Pos} (hN : X.N.Nodup) (hi : X.N[i]? = some x) (hx : Loc X.env.scope x) (he : PE X e te) (hs : swapsWith e (some (.Name x pos')) pos.line X.env = pure false := by rfl) (hf : X.fn x = true ∨ X.env.scope.names.lookup x = some .local := by first | exact .inl rfl | exact .inr rfl | assumption) :
    PS X (.Assign [.Name x pos'] e pos) (tAsg te (gName i)) := by
  intro pins s σ H D I h
  refine wpAny_Assign_Name (thn (he pins s σ H _ I h) fun v s1 ⟨y, H1, I1, r1, q1⟩ => ?_) hs
  exact store_ok I1 hN hi hx r1 (fun s2 I2 => ⟨_, H1, I2, q1⟩) hf
/-- a, b = x, y with plain local names: stored from the right; the pair itself is not tracked (the opening rows as in PyProof/Rows/TupAssign.lean:23) -/
def tPar (i j : Nat) (ta : TA) : TS := fun D σ H => ta σ H fun vs H1 => ∃ v w, vs = [v, w] ∧ D.nx ((σ.set i (some v)).set j (some w)) H1
/-- name op= e -/
def tAug (i : Nat) (te : TE) (ti : TIp) : TS := fun D σ H => ∃ x, σ[i]? = some (some x) ∧ te σ H fun y H1 => ti x y H1 fun z H2 => D.nx (σ.set i (some z)) H2
/-- o[i] op= e -/
def tAugS (to ti te : TE) (tget : V → V → Hp → VK → Prop) (tip : TIp) (tset : TSet) : TS := fun D σ H => to σ H fun o H1 => ti σ H1 fun i H2 => tget o i H2 fun x H3 => te σ H3 fun y H4 => tip x y H4 fun z H5 => tset o i z H5 fun H6 => D.nx σ H6
/-- o[i], by values -/
def PGet (X : Cx) (t : V → V → Hp → VK → Prop) : Prop :=
  ∀ (pins : List (Addr × Obj)) (s : Shared) (σ : St) (H : Hp) (o i : V) (ov iv : Value) (Q : VK), Inv X pins σ H s → RelV o ov → RelV i iv → t o i H Q →
    wpAny (model X.prog X.w) X.A (getItem ov iv) (EP X pins σ Q) X.xe s
/-- ints -/
def ipI (f : Int → Int → Int) : TIp := fun x y H Q => ∃ i j, x = .int i ∧ y = .int j ∧ Q (.int (f i j)) H
end

/-! ### while -/
section
variable {X : Cx} {pos : Pos}
/-- the invariant W with its measure -/
def tWhile (c : TT) (tb : TS) : TS := fun D σ H => ∃ W : Nat → St → Hp → Prop, (∃ m, W m σ H) ∧ ∀ m σ H, W m σ H →
  c σ H fun b H1 => if b = true then ∃ N : St → Hp → Prop, (∀ σ' H', N σ' H' → ∃ m', m' < m ∧ W m' σ' H') ∧ tb { D with nx := N, ct := N, bk := D.nx } σ H1 else D.nx σ H1
theorem ps_while {c : Expr} {body : List Stmt} {tc : TT} {tb : TS} (hp : PassesOwn (model X.prog X.w) X.A X.env X.xe) (hc : PT X c tc) (hb : PSs X body tb) : PS X (.While c body [] pos) (tWhile tc tb) := by
  intro pins s σ H D I h
  obtain ⟨W, ⟨m0, w0⟩, turn⟩ := h
  refine wpAny_While (codeAny_whileLoop (fun n s' => ∃ σ' H', Inv X pins σ' H' s' ∧ W n σ' H') ?_ m0 ⟨σ, H, I, w0⟩)
  rintro n s1 ⟨σ1, H1, I1, w1⟩
  refine wpAny_passesOwn hp (thn (hc pins s1 σ1 H1 _ I1 (turn n σ1 H1 w1)) fun b s2 ⟨H2, I2, q2⟩ => ?_)
  cases b with
  | true =>
    obtain ⟨N, hN, q2⟩ := q2
    rw [if_pos rfl]
    refine wpAny_passesOwn hp (thn (hb pins s2 σ1 H2 _ I2 q2) fun f s3 q3 => ?_)
    cases f with
    | next =>
      obtain ⟨σ3, H3, I3, n3⟩ := q3
      obtain ⟨m', hm, w3⟩ := hN σ3 H3 n3
      exact ⟨m', hm, σ3, H3, I3, w3⟩
    | cont =>
      obtain ⟨σ3, H3, I3, n3⟩ := q3
      obtain ⟨m', hm, w3⟩ := hN σ3 H3 n3
      exact ⟨m', hm, σ3, H3, I3, w3⟩
    | brk => exact q3
    | ret v => exact q3
  | false =>
    rw [if_neg Bool.false_ne_true]
    exact wpAny_execs_nil ⟨σ1, H2, I2, q2⟩
end

/-! ### what a loop or a comprehension walks -/
/-- at turn i: it yields x (the heap may grow), or it stops -/
structure It where
  go : Nat → Hp → Prop
  yld : Nat → Hp → V → Hp → Prop
  stop : Nat → Hp → Prop
/-- the iterator's own objects may turn: they are not the frame's, not pinned, younger than the entry (or a comprehension's own) -/
def FpOk (X : Cx) (pins : List (Addr × Obj)) (H : Hp) (b : Addr) : Prop :=
  H b = none ∧ b ≠ X.env.locals ∧ b ∉ X.fs ∧ (b ∈ X.ex ∨ X.s₀.heap.objs.size ≤ b) ∧ (∀ x c, X.env.cells.lookup x = some c → c ≠ b) ∧ ∀ p ∈ X.pn ++ pins, p.1 ≠ b
theorem Inv.fpOk {X : Cx} {pins : List (Addr × Obj)} {σ : St} {H H' : Hp} {s : Shared} {b : Addr} (I : Inv X pins σ H s) (hb : s.heap.objs.size ≤ b) (hn : H' b = none) : FpOk X pins H' b := by
  refine ⟨hn, Nat.ne_of_gt (Nat.lt_of_lt_of_le I.lt hb), I.nofs hb, .inr (Nat.le_trans I.sz hb), fun x c e z => ?_, fun p hp z => ?_⟩
  · obtain ⟨v, q⟩ := I.cell x c e
    exact absurd (Nat.lt_of_lt_of_le q.lt (by rw [z]; exact hb)) (Nat.lt_irrefl _)
  · exact absurd (Nat.lt_of_lt_of_le (Heap.lt_size (I.pin p hp).1) (by rw [z]; exact hb)) (Nat.lt_irrefl _)
structure Turn (P : Program) (w : World) (K : PySem.W.Frag) (tg : Expr) (J : It) (fp : List Addr) (it : Addr) (tn : Nat → Heap → Prop) : Prop where
  mem : it ∈ fp
  obj : ∀ i h, tn i h → ∀ b ∈ fp, ∃ o, h.get? b = some o ∧ ∀ v, o.data ≠ .cell v
  keep : ∀ i h h', tn i h → (∀ b ∈ fp, ∀ o, h.get? b = some o → h'.get? b = some o) → tn i h'
  item : ∀ (X : Cx), X.prog = P → X.w = w → X.K = K → X.calm = true → ∀ (i : Nat) (pins : List (Addr × Obj)) (s : Shared) (σ : St) (H : Hp) (E : Value → Shared → Prop), Inv X pins σ H s → (∀ b ∈ fp, FpOk X pins H b) → tn i s.heap → J.go i H →
    wpAny (model P w) X.A (pyNext (.ref it)) (fun r s1 => ∃ u, r = some u ∧
      wpAny (model P w) X.A (letOwnedTupleGo tg (.ref it) u) (fun _ s2 => ∃ x H', Inv X pins σ H' s2 ∧ RelV x u ∧ J.yld i H x H' ∧ tn (i + 1) s2.heap ∧ ∀ b ∈ fp, H' b = none) E s1) E s
  done : ∀ (X : Cx), X.prog = P → X.w = w → X.K = K → X.calm = true → ∀ (i : Nat) (pins : List (Addr × Obj)) (s : Shared) (σ : St) (H : Hp) (E : Value → Shared → Prop), Inv X pins σ H s → (∀ b ∈ fp, FpOk X pins H b) → tn i s.heap → J.stop i H →
    wpAny (model P w) X.A (pyNext (.ref it)) (fun r s1 => r = none ∧ Inv X pins σ H s1) E s
  self : ∀ (A : Around) (i : Nat) (s : Shared) (Q : Value → Shared → Prop) (E : Value → Shared → Prop), tn i s.heap → Q (.ref it) s → wpAny (model P w) A (pyIter (.ref it)) Q E s
abbrev TI := St → Hp → (It → Hp → Prop) → Prop
/-- an iterator has come -/
def PIE (X : Cx) (pins : List (Addr × Obj)) (σ : St) (tg : Expr) (R : It → Hp → Prop) (itv : Value) (s2 : Shared) : Prop :=
  ∃ (it : Addr) (fp : List Addr) (tn : Nat → Heap → Prop) (J : It) (H' : Hp), itv = .ref it ∧ Inv X pins σ H' s2 ∧ Turn X.prog X.w X.K tg J fp it tn ∧ tn 0 s2.heap ∧ (∀ b ∈ fp, FpOk X pins H' b) ∧ R J H'
def PI (X : Cx) (tg iter : Expr) (wi : TI) : Prop :=
  ∀ (pins : List (Addr × Obj)) (s : Shared) (σ : St) (H : Hp) (R : It → Hp → Prop), Inv X pins σ H s → wi σ H R →
    wpAny (model X.prog X.w) X.A (eval iter X.env) (fun v s1 => wpAny (model X.prog X.w) X.A (pyIter v) (PIE X pins σ tg R) X.xe s1) X.xe s

/-- the step ahead of the store is nothing for an iterator that keeps no tuple -/
theorem go_of {M : Model} {A : Around} {E : Value → Shared → Prop} {s : Shared} {tg : Expr} {it : Addr} {u : Value} {o : Obj} {n : String} {vs : Array Value} {Q : Unit → Shared → Prop} (ho : s.heap.get? it = some o) (hc : o.cls = .type n) (hd : o.data = .fields vs)
    (hn : ["enumerate", "zip", "dict_itemiterator", "dict_reverseitemiterator", "odict_iterator", "itertools.zip_longest", "itertools.pairwise"].contains n = false) (hQ : Q () s) : wpAny M A (letOwnedTupleGo tg (.ref it) u) Q E s := by
  unfold letOwnedTupleGo
  cases tg <;> first
    | exact wpAny_pure hQ
    | (cases u <;> first
        | exact wpAny_pure hQ
        | (refine wpAny_bind (wpAny_load ho ?_)
           rw [hc, hd]
           show wpAny M A (if (["enumerate", "zip", "dict_itemiterator", "dict_reverseitemiterator", "odict_iterator", "itertools.zip_longest", "itertools.pairwise"].contains n && vs[0]? == some (rawInt _)) = true then _ else _) Q E s
           rw [if_neg (by intro h; rw [hn, Bool.false_and] at h; cases h)]
           exact wpAny_pure hQ))

/-- the list at a, as it stands at each turn (a loop may append to it) -/
def Itl (K : PySem.W.Frag) (a : Addr) : It :=
  ⟨fun i H => ∃ xs x, SqL K H a xs ∧ xs[i]? = some x, fun i H x H' => H' = H ∧ ∀ xs, SqL K H a xs → xs[i]? = some x, fun i H => ∃ xs, SqL K H a xs ∧ xs.length ≤ i⟩
def Itt (K : PySem.W.Frag) (a : Addr) : It :=
  ⟨fun i H => ∃ xs x, SqT K H a xs ∧ xs[i]? = some x, fun i H x H' => H' = H ∧ ∀ xs, SqT K H a xs → xs[i]? = some x, fun i H => ∃ xs, SqT K H a xs ∧ xs.length ≤ i⟩
/-- lo, lo + 1, .. (n of them) -/
def Itr (lo : Int) (n : Nat) : It := ⟨fun i _ => i < n, fun i H x H' => H' = H ∧ x = .int (lo + i), fun i _ => n ≤ i⟩
theorem turn_list {P : Program} {w : World} {K : PySem.W.Frag} {tg : Expr} (a it : Addr) : Turn P w K tg (Itl K a) [it] it (fun i h => h.IsListIter it a i) where
  mem := by simp
  obj := fun i h st b hb => by
    have e : b = it := by simpa using hb
    subst e
    obtain ⟨o, e, c, d⟩ := st
    exact ⟨o, e, fun v z => by rw [d] at z; cases z⟩
  keep := fun i h h' st k => st.at fun o e => k it (by simp) o e
  item := by
    intro X hP hw hK hc i pins s σ H E I hf st hg
    subst hP hw hK
    obtain ⟨xs, x, hq, hx⟩ := hg
    obtain ⟨its, rv, p, hz⟩ := I.list hq
    obtain ⟨u, hu, ru⟩ := rv.get hx
    obtain ⟨f0, f1, f2, f3, f4, f5⟩ := hf it (by simp)
    refine wpAny_pyNext_list_item st p.isList (x := u) (by simpa using hu) fun h' st' sb => ?_
    have I1 : Inv X pins σ H { s with heap := h' } := I.turned (t' := s.toks) (fun b o hb e => (sb.2 b hb).trans e) f0 f1 f3 f4 f5
    obtain ⟨o, e, c, d⟩ := id st'
    exact ⟨u, rfl, go_of (s := { s with heap := h' }) e c d (by decide) ⟨x, H, I1, ru, ⟨rfl, fun ys hy => by rw [I.list_inj hy hq]; exact hx⟩, st', fun b hb => (hf b hb).1⟩⟩
  done := by
    intro X hP hw hK hc i pins s σ H E I hf st hg
    subst hP hw hK
    obtain ⟨xs, hq, hx⟩ := hg
    obtain ⟨its, rv, p, hz⟩ := I.list hq
    obtain ⟨f0, f1, f2, f3, f4, f5⟩ := hf it (by simp)
    have hl := rv.length
    exact wpAny_pyNext_list_end (I.ok.hd hc) st p.isList (by simp; omega) fun h' eb => ⟨rfl, I.turned (t' := s.toks) (fun b o hb e => eb b o hb e) f0 f1 f3 f4 f5⟩
  self := fun _ _ _ _ _ st h => wpAny_pyIter_listiter st h
theorem turn_tuple {P : Program} {w : World} {K : PySem.W.Frag} {tg : Expr} (a it : Addr) : Turn P w K tg (Itt K a) [it] it (fun i h => h.IsTupleIter it a i) where
  mem := by simp
  obj := fun i h st b hb => by
    have e : b = it := by simpa using hb
    subst e
    obtain ⟨o, e, c, d⟩ := st
    exact ⟨o, e, fun v z => by rw [d] at z; cases z⟩
  keep := fun i h h' st k => st.at fun o e => k it (by simp) o e
  item := by
    intro X hP hw hK hc i pins s σ H E I hf st hg
    subst hP hw hK
    obtain ⟨xs, x, hq, hx⟩ := hg
    obtain ⟨its, rv, p, hz⟩ := I.tuple hq
    obtain ⟨u, hu, ru⟩ := rv.get hx
    obtain ⟨f0, f1, f2, f3, f4, f5⟩ := hf it (by simp)
    refine wpAny_pyNext_tuple_item st (show s.heap.IsTuple a its.toArray from p) (x := u) (by simpa using hu) fun h' st' sb => ?_
    have I1 : Inv X pins σ H { s with heap := h' } := I.turned (t' := s.toks) (fun b o hb e => (sb.2 b hb).trans e) f0 f1 f3 f4 f5
    obtain ⟨o, e, c, d⟩ := id st'
    exact ⟨u, rfl, go_of (s := { s with heap := h' }) e c d (by decide) ⟨x, H, I1, ru, ⟨rfl, fun ys hy => by rw [I.tuple_inj hy hq]; exact hx⟩, st', fun b hb => (hf b hb).1⟩⟩
  done := by
    intro X hP hw hK hc i pins s σ H E I hf st hg
    subst hP hw hK
    obtain ⟨xs, hq, hx⟩ := hg
    obtain ⟨its, rv, p, hz⟩ := I.tuple hq
    obtain ⟨f0, f1, f2, f3, f4, f5⟩ := hf it (by simp)
    have hl := rv.length
    exact wpAny_pyNext_tuple_end (I.ok.hd hc) st (show s.heap.IsTuple a its.toArray from p) (by simp; omega) fun h' eb => ⟨rfl, I.turned (t' := s.toks) (fun b o hb e => eb b o hb e) f0 f1 f3 f4 f5⟩
  self := fun _ _ _ _ _ st h => wpAny_pyIter_tupleiter st h
theorem turn_range {P : Program} {w : World} {K : PySem.W.Frag} {tg : Expr} (it : Addr) (lo : Int) (n : Nat) : Turn P w K tg (Itr lo n) [it] it (fun i h => IsRangeIter h it (lo + (i : Nat) * 1) ((n : Int) - (i : Nat)) 1) where
  mem := by simp
  obj := fun i h st b hb => by
    have e : b = it := by simpa using hb
    subst e
    exact ⟨_, st, fun v z => by
      have z' : Data.fields _ = Data.cell v := z
      cases z'⟩
  keep := fun i h h' st k => k it (by simp) _ st
  item := by
    intro X hP hw hK hc i pins s σ H E I hf st hg
    subst hP hw hK
    obtain ⟨f0, f1, f2, f3, f4, f5⟩ := hf it (by simp)
    have W := Walks.range (prog := X.prog) (w := X.w) (I.ok.hd hc) it lo 1 n
    refine W.item i s _ _ hg st fun v h' tk hv st' kk => ?_
    obtain ⟨t, rfl⟩ := hv
    have I1 : Inv X pins σ H { s with heap := h', toks := tk } := I.turned (fun b o hb e => kk b o (by simpa using hb) e) f0 f1 f3 f4 f5
    refine ⟨_, rfl, go_of (s := { s with heap := h', toks := tk }) (n := "range_iterator") st' rfl rfl (by decide) ⟨.int (lo + i), H, I1, ⟨t, ?_⟩, ⟨rfl, rfl⟩, st', fun b hb => (hf b hb).1⟩⟩
    rw [Int.mul_one]
  done := by
    intro X hP hw hK hc i pins s σ H E I hf st hg
    subst hP hw hK
    obtain ⟨f0, f1, f2, f3, f4, f5⟩ := hf it (by simp)
    exact wpAny_pyNext_range_end (I.ok.hd hc) st (by have : n ≤ i := hg; omega) fun h' eb => ⟨rfl, I.turned (t' := s.toks) (fun b o hb e => eb b o hb e) f0 f1 f3 f4 f5⟩
  self := fun _ _ _ _ _ st h => wpAny_pyIter_rangeiter st h
end L2

namespace L2
open PySem PySem.Spec PyProof.Rows
section
variable {X : Cx} {tg : Expr}
def iList (K : PySem.W.Frag) (tl : TE) : TI := fun σ H R => tl σ H fun x H1 => ∃ a, x = .ref a ∧ (∃ xs, SqL K H1 a xs) ∧ R (Itl K a) H1
def iTup (K : PySem.W.Frag) (tl : TE) : TI := fun σ H R => tl σ H fun x H1 => ∃ a, x = .ref a ∧ (∃ xs, SqT K H1 a xs) ∧ R (Itt K a) H1
theorem pi_list {l : Expr} {tl : TE} (hl : PE X l tl) : PI X tg l (iList X.K tl) := by
  intro pins s σ H R I h
  refine thn (hl pins s σ H _ I h) fun v s1 ⟨x, H1, I1, r1, q1⟩ => ?_
  obtain ⟨a, e, ⟨xs, hq⟩, q⟩ := q1
  subst e
  cases r1
  obtain ⟨its, rv, p, hz⟩ := I1.list hq
  refine wpAny_pyIter_list p.isList ?_
  refine ⟨s1.heap.objs.size, [s1.heap.objs.size], _, _, H1, rfl, I1.kept (t' := s1.toks) fun b o e => Heap.get?_push_of_some _ e, turn_list a _, ⟨_, Heap.get?_push_size _ rfl, rfl, rfl⟩, fun b hb => ?_, q⟩
  have e : b = s1.heap.objs.size := by simpa using hb
  subst e
  exact I1.fpOk (Nat.le_refl _) (I1.hok.fresh (Nat.le_refl _))
theorem pi_tup {l : Expr} {tl : TE} (hl : PE X l tl) : PI X tg l (iTup X.K tl) := by
  intro pins s σ H R I h
  refine thn (hl pins s σ H _ I h) fun v s1 ⟨x, H1, I1, r1, q1⟩ => ?_
  obtain ⟨a, e, ⟨xs, hq⟩, q⟩ := q1
  subst e
  cases r1
  obtain ⟨its, rv, p, hz⟩ := I1.tuple hq
  refine wpAny_pyIter_tuple (show s1.heap.IsTuple a its.toArray from p) ?_
  refine ⟨s1.heap.objs.size, [s1.heap.objs.size], _, _, H1, rfl, I1.kept (t' := s1.toks) fun b o e => Heap.get?_push_of_some _ e, turn_tuple a _, ⟨_, Heap.get?_push_size _ rfl, rfl, rfl⟩, fun b hb => ?_, q⟩
  have e : b = s1.heap.objs.size := by simpa using hb
  subst e
  exact I1.fpOk (Nat.le_refl _) (I1.hok.fresh (Nat.le_refl _))
/-- a range object just made, walked -/
theorem range_it {pins : List (Addr × Obj)} {σ : St} {H : Hp} {s : Shared} {R : It → Hp → Prop} {E : Value → Shared → Prop} {lo hi : Int} {t u v : Tok} {tk : Nat} (I : Inv X pins σ H s) (h1 : -(2 ^ 62) ≤ lo) (h2 : lo < 2 ^ 62) (h3 : -(2 ^ 62) ≤ hi) (h4 : hi < 2 ^ 62)
    (q : R (Itr lo (hi - lo).toNat) H) : wpAny (model X.prog X.w) X.A (pyIter (.ref s.heap.objs.size)) (PIE X pins σ tg R) E { s with heap := s.heap.push { cls := .type "range", data := .fields #[.int lo t, .int hi u, .int 1 v] }, toks := tk } := by
  refine wpAny_pyIter_range (IsRange.new ..) (small_one h1 h2 h3 h4) ?_
  have I1 : Inv X pins σ H { s with heap := s.heap.push { cls := .type "range", data := .fields #[.int lo t, .int hi u, .int 1 v] }, toks := tk } := I.kept fun b o e => Heap.get?_push_of_some _ e
  refine ⟨(s.heap.push { cls := .type "range", data := .fields #[.int lo t, .int hi u, .int 1 v] }).objs.size, [(s.heap.push { cls := .type "range", data := .fields #[.int lo t, .int hi u, .int 1 v] }).objs.size], _, _, H, rfl,
    I1.kept (t' := tk) fun b o e => Heap.get?_push_of_some _ e, turn_range _ lo (hi - lo).toNat, ?_, fun b hb => ?_, q⟩
  · have e1 : lo + ((0 : Nat) : Int) * 1 = lo := by simp
    have e2 : (((hi - lo).toNat : Nat) : Int) - ((0 : Nat) : Int) = Builtin.Range.rangeSize lo hi 1 := by rw [rangeSize_one]; split <;> omega
    show IsRangeIter _ _ (lo + ((0 : Nat) : Int) * 1) ((((hi - lo).toNat : Nat) : Int) - ((0 : Nat) : Int)) 1
    rw [e1, e2]
    exact Heap.get?_push_size _ rfl
  · have e : b = (s.heap.push { cls := .type "range", data := .fields #[.int lo t, .int hi u, .int 1 v] }).objs.size := by simpa using hb
    subst e
    exact I1.fpOk (Nat.le_refl _) (I1.hok.fresh (Nat.le_refl _))
def iRng1 (ta : TA) : TI := fun σ H R => ta σ H fun vs H1 => ∃ j : Int, vs = [.int j] ∧ -(2 ^ 62) ≤ j ∧ j < 2 ^ 62 ∧ R (Itr 0 j.toNat) H1
def iRng2 (ta : TA) : TI := fun σ H R => ta σ H fun vs H1 => ∃ i j : Int, vs = [.int i, .int j] ∧ (-(2 ^ 62) ≤ i ∧ i < 2 ^ 62 ∧ -(2 ^ 62) ≤ j ∧ j < 2 ^ 62) ∧ R (Itr i (j - i).toNat) H1
theorem pi_range1 {a : Expr} {ta : TA} {p pos : Pos} (hg : Gl X "range") (hm : X.mg "range" = none) (ha : PA X [a] ta) (hs : starEach [a] X.env = [(false, eval a X.env)] := by rfl) : PI X tg (.Call (.Name "range" p) [a] [] pos) (iRng1 ta) := by
  intro pins s σ H R I h
  refine Call_ (ld_blt I hg hm boot_range (PyProof.Rows.callWith_type1 (thn (ha pos pins s σ H _ I h) fun us s1 ⟨vs, H1, I1, r1, q1⟩ => ?_) hs rfl))
  obtain ⟨j, e, q1, q2, q⟩ := q1
  subst e
  cases r1 with
  | cons r rr =>
    cases rr
    obtain ⟨t, rfl⟩ := r
    exact call_range_1 (range_it I1 (by omega) (by omega) q1 q2 (by simpa using q))
/-! ### for -/
/-- W: the invariant by the turn and a measure; N: what the body is to reach -/
def tFor (wi : TI) (g : TG) (tb : TS) : TS := fun D σ H => wi σ H fun J H1 => ∃ W : Nat → Nat → St → Hp → Prop, (∃ m, W 0 m σ H1) ∧ ∀ i m σ H, W i m σ H →
  (J.stop i H ∧ D.nx σ H) ∨ (J.go i H ∧ ∃ N : St → Hp → Prop, (∀ σ' H', N σ' H' → ∃ m', m' < m ∧ W (i + 1) m' σ' H') ∧ ∀ x H', J.yld i H x H' → g x σ H' fun σ2 H2 => tb { D with nx := N, ct := N, bk := D.nx } σ2 H2)
/-- the records at fp as they stand -/
def pinsAt (fp : List Addr) (h : Heap) : List (Addr × Obj) := fp.filterMap fun b => (h.get? b).map fun o => (b, o)
theorem mem_pinsAt {fp : List Addr} {h : Heap} {b : Addr} {o : Obj} (hb : b ∈ fp) (e : h.get? b = some o) : (b, o) ∈ pinsAt fp h := List.mem_filterMap.mpr ⟨b, hb, by rw [e]; rfl⟩
theorem of_pinsAt {fp : List Addr} {h : Heap} {p : Addr × Obj} (hp : p ∈ pinsAt fp h) : p.1 ∈ fp ∧ h.get? p.1 = some p.2 := by
  obtain ⟨b, hb, e⟩ := List.mem_filterMap.mp hp
  cases q : h.get? b with
  | none => rw [q] at e; cases e
  | some o =>
    rw [q] at e
    have e' : (b, o) = p := Option.some.inj e
    subst e'
    exact ⟨hb, q⟩
theorem Inv.pinned {pins : List (Addr × Obj)} {σ : St} {H : Hp} {s : Shared} {fp : List Addr} (I : Inv X pins σ H s) (hf : ∀ b ∈ fp, FpOk X pins H b) (ho : ∀ b ∈ fp, ∃ o, s.heap.get? b = some o ∧ ∀ v, o.data ≠ .cell v) : Inv X (pins ++ pinsAt fp s.heap) σ H s :=
  I.pins_of fun p hp => (List.mem_append.mp hp).elim (fun z => I.pin p (List.mem_append_right _ z)) fun z => by
    obtain ⟨hb, e⟩ := of_pinsAt z
    obtain ⟨f0, f1, f2, _⟩ := hf p.1 hb
    obtain ⟨o, e', d⟩ := ho p.1 hb
    rw [e] at e'; cases e'
    exact ⟨e, f0, f1, f2, d⟩
theorem Inv.unpinned {pins pl : List (Addr × Obj)} {σ : St} {H : Hp} {s : Shared} (I : Inv X (pins ++ pl) σ H s) : Inv X pins σ H s := I.pins_of fun p hp => I.pin p (List.mem_append_right _ (List.mem_append_left _ hp))
theorem ps_for {iter : Expr} {body : List Stmt} {wi : TI} {g : TG} {tb : TS} {pos : Pos} (hp : PassesOwn (model X.prog X.w) X.A X.env X.xe) (hc : X.calm = true) (hi : PI X tg iter wi) (hg : PG X tg g) (hb : PSs X body tb)
    (hs : ∀ x, foldedSetIterable iter X.env x = pure x := by intro _; rfl) : PS X (.For tg iter body [] pos) (tFor wi g tb) := by
  intro pins s σ H D I h
  refine wpAny_For (thn (hi pins s σ H _ I h) fun v s1 h1 => thn h1 fun itv s2 h2 => ?_) hs
  obtain ⟨it, fp, tn, J, H2, e, I2, T, st2, f2, W, ⟨m0, w0⟩, turn⟩ := h2
  subst e
  -- what stays true of the iterator's objects through the loop
  have stat : ∀ {H' : Hp}, (∀ b ∈ fp, H' b = none) → ∀ b ∈ fp, FpOk X pins H' b := fun hn b hb => ⟨hn b hb, (f2 b hb).2⟩
  refine codeAny_forLoop_any (fun n s' => ∃ i σ' H', Inv X pins σ' H' s' ∧ tn i s'.heap ∧ (∀ b ∈ fp, H' b = none) ∧ W i n σ' H') ?_ m0 ⟨0, σ, H2, I2, st2, fun b hb => (f2 b hb).1, w0⟩
  rintro n s3 ⟨i, σ3, H3, I3, st3, fr3, w3⟩
  rcases turn i n σ3 H3 w3 with ⟨stop, qn⟩ | ⟨go, N, hN, step⟩
  · refine wpAny_passesOwn hp (thn (T.done X rfl rfl rfl hc i pins s3 σ3 H3 X.xe I3 (stat fr3) st3 stop) fun r s4 ⟨hr, I4⟩ => ?_)
    subst hr
    exact wpAny_execs_nil ⟨σ3, H3, I4, qn⟩
  · refine wpAny_passesOwn hp (thn (T.item X rfl rfl rfl hc i pins s3 σ3 H3 X.xe I3 (stat fr3) st3 go) fun r s4 ⟨u, hr, h4⟩ => ?_)
    subst hr
    refine wpAny_passesOwn hp (thn h4 fun _ s5 ⟨x, H5, I5, r5, y5, st5, fr5⟩ => ?_)
    have I5' := I5.pinned (stat fr5) (T.obj _ _ st5)
    refine wpAny_passesOwn hp (thn (hg _ s5 σ3 H5 x u _ I5' r5 (step x H5 y5)) fun _ s6 ⟨σ6, H6, I6, q6⟩ => ?_)
    refine wpAny_passesOwn hp (thn (hb _ s6 σ6 H6 _ I6 q6) fun f s7 q7 => ?_)
    have again : ∀ {σ7 : St} {H7 : Hp}, Inv X (pins ++ pinsAt fp s5.heap) σ7 H7 s7 → N σ7 H7 → ∃ m, m < n ∧ ∃ i σ' H', Inv X pins σ' H' s7 ∧ tn i s7.heap ∧ (∀ b ∈ fp, H' b = none) ∧ W i m σ' H' := fun {σ7 H7} I7 n7 => by
      obtain ⟨m', hm, w7⟩ := hN σ7 H7 n7
      refine ⟨m', hm, i + 1, σ7, H7, I7.unpinned, T.keep _ _ _ st5 fun b hb o e => (I7.pin (b, o) (List.mem_append_right _ (List.mem_append_right _ (mem_pinsAt hb e)))).1, fun b hb => ?_, w7⟩
      obtain ⟨o, e, d⟩ := T.obj _ _ st5 b hb
      exact (I7.pin (b, o) (List.mem_append_right _ (List.mem_append_right _ (mem_pinsAt hb e)))).2.1
    cases f with
    | next => obtain ⟨σ7, H7, I7, n7⟩ := q7; exact again I7 n7
    | cont => obtain ⟨σ7, H7, I7, n7⟩ := q7; exact again I7 n7
    | brk => obtain ⟨σ7, H7, I7, q7⟩ := q7; exact ⟨σ7, H7, I7.unpinned, q7⟩
    | ret v => obtain ⟨x7, σ7, H7, I7, r7, q7⟩ := q7; exact ⟨x7, σ7, H7, I7.unpinned, r7, q7⟩
end

/-! ### the forms one uses -/
/-- over a list that the body leaves as it is -/
theorem for_list {K : PySem.W.Frag} {a : Addr} {xs : List V} {g : TG} {tb : TS} {D : Ends} {σ : St} {H : Hp} (Pv : Nat → St → Hp → Prop) (h0 : Pv 0 σ H) (hl : ∀ i σ H, i ≤ xs.length → Pv i σ H → SqL K H a xs)
    (hs : ∀ i x σ H, xs[i]? = some x → Pv i σ H → g x σ H fun σ2 H2 => tb { D with nx := Pv (i + 1), ct := Pv (i + 1), bk := D.nx } σ2 H2) (hd : ∀ σ H, Pv xs.length σ H → D.nx σ H) :
    ∃ W : Nat → Nat → St → Hp → Prop, (∃ m, W 0 m σ H) ∧ ∀ i m σ H, W i m σ H →
      ((Itl K a).stop i H ∧ D.nx σ H) ∨ ((Itl K a).go i H ∧ ∃ N : St → Hp → Prop, (∀ σ' H', N σ' H' → ∃ m', m' < m ∧ W (i + 1) m' σ' H') ∧ ∀ x H', (Itl K a).yld i H x H' → g x σ H' fun σ2 H2 => tb { D with nx := N, ct := N, bk := D.nx } σ2 H2) := by
  refine ⟨fun i m σ H => m = xs.length - i ∧ i ≤ xs.length ∧ Pv i σ H, ⟨xs.length, by simp, Nat.zero_le _, h0⟩, ?_⟩
  rintro i m σ H ⟨rfl, hi, p⟩
  have q := hl i σ H hi p
  by_cases hlt : i < xs.length
  · refine .inr ⟨⟨xs, xs[i], q, by simp [hlt]⟩, Pv (i + 1), fun σ' H' p' => ⟨xs.length - (i + 1), by omega, rfl, hlt, p'⟩, fun x H' y => ?_⟩
    obtain ⟨e, y⟩ := y
    subst e
    exact hs i x σ _ (y xs q) p
  · have e : i = xs.length := by omega
    subst e
    exact .inl ⟨⟨xs, q, Nat.le_refl _⟩, hd σ H p⟩
theorem for_tup {K : PySem.W.Frag} {a : Addr} {xs : List V} {g : TG} {tb : TS} {D : Ends} {σ : St} {H : Hp} (Pv : Nat → St → Hp → Prop) (h0 : Pv 0 σ H) (hl : ∀ i σ H, i ≤ xs.length → Pv i σ H → SqT K H a xs)
    (hs : ∀ i x σ H, xs[i]? = some x → Pv i σ H → g x σ H fun σ2 H2 => tb { D with nx := Pv (i + 1), ct := Pv (i + 1), bk := D.nx } σ2 H2) (hd : ∀ σ H, Pv xs.length σ H → D.nx σ H) :
    ∃ W : Nat → Nat → St → Hp → Prop, (∃ m, W 0 m σ H) ∧ ∀ i m σ H, W i m σ H →
      ((Itt K a).stop i H ∧ D.nx σ H) ∨ ((Itt K a).go i H ∧ ∃ N : St → Hp → Prop, (∀ σ' H', N σ' H' → ∃ m', m' < m ∧ W (i + 1) m' σ' H') ∧ ∀ x H', (Itt K a).yld i H x H' → g x σ H' fun σ2 H2 => tb { D with nx := N, ct := N, bk := D.nx } σ2 H2) := by
  refine ⟨fun i m σ H => m = xs.length - i ∧ i ≤ xs.length ∧ Pv i σ H, ⟨xs.length, by simp, Nat.zero_le _, h0⟩, ?_⟩
  rintro i m σ H ⟨rfl, hi, p⟩
  have q := hl i σ H hi p
  by_cases hlt : i < xs.length
  · refine .inr ⟨⟨xs, xs[i], q, by simp [hlt]⟩, Pv (i + 1), fun σ' H' p' => ⟨xs.length - (i + 1), by omega, rfl, hlt, p'⟩, fun x H' y => ?_⟩
    obtain ⟨e, y⟩ := y
    subst e
    exact hs i x σ _ (y xs q) p
  · have e : i = xs.length := by omega
    subst e
    exact .inl ⟨⟨xs, q, Nat.le_refl _⟩, hd σ H p⟩
theorem for_range {lo : Int} {n : Nat} {g : TG} {tb : TS} {D : Ends} {σ : St} {H : Hp} (Pv : Nat → St → Hp → Prop) (h0 : Pv 0 σ H)
    (hs : ∀ i σ H, i < n → Pv i σ H → g (.int (lo + i)) σ H fun σ2 H2 => tb { D with nx := Pv (i + 1), ct := Pv (i + 1), bk := D.nx } σ2 H2) (hd : ∀ σ H, Pv n σ H → D.nx σ H) :
    ∃ W : Nat → Nat → St → Hp → Prop, (∃ m, W 0 m σ H) ∧ ∀ i m σ H, W i m σ H →
      ((Itr lo n).stop i H ∧ D.nx σ H) ∨ ((Itr lo n).go i H ∧ ∃ N : St → Hp → Prop, (∀ σ' H', N σ' H' → ∃ m', m' < m ∧ W (i + 1) m' σ' H') ∧ ∀ x H', (Itr lo n).yld i H x H' → g x σ H' fun σ2 H2 => tb { D with nx := N, ct := N, bk := D.nx } σ2 H2) := by
  refine ⟨fun i m σ H => m = n - i ∧ i ≤ n ∧ Pv i σ H, ⟨n, by simp, Nat.zero_le _, h0⟩, ?_⟩
  rintro i m σ H ⟨rfl, hi, p⟩
  by_cases hlt : i < n
  · refine .inr ⟨hlt, Pv (i + 1), fun σ' H' p' => ⟨n - (i + 1), by omega, rfl, hlt, p'⟩, fun x H' y => ?_⟩
    obtain ⟨e, y⟩ := y
    subst e y
    exact hs i σ _ hlt p
  · have e : i = n := by omega
    subst e
    exact .inl ⟨Nat.le_refl _, hd σ H p⟩
end L2

namespace L2
open PySem PySem.Spec PyProof.Rows

abbrev R2 := V → V → Hp → VK → Prop
/-- a two-place operation on values: f is binaryOp op, inplaceOp op or compareOp op -/
def OpR (X : Cx) (f : Value → Value → Sem Value) (r : R2) : Prop :=
  ∀ (pins : List (Addr × Obj)) (s : Shared) (σ : St) (H : Hp) (x y : V) (v u : Value) (Q : VK), Inv X pins σ H s → RelV x v → RelV y u → r x y H Q →
    wpAny (model X.prog X.w) X.A (f v u) (EP X pins σ Q) X.xe s
/-- a one-place operation -/
def UnR (X : Cx) (f : Value → Sem Value) (r : V → Hp → VK → Prop) : Prop :=
  ∀ (pins : List (Addr × Obj)) (s : Shared) (σ : St) (H : Hp) (x : V) (v : Value) (Q : VK), Inv X pins σ H s → RelV x v → r x H Q →
    wpAny (model X.prog X.w) X.A (f v) (EP X pins σ Q) X.xe s
/-- a call of a value that is known (a builtin, a type) with values -/
def CallR (X : Cx) (f : Value) (r : List V → Hp → VK → Prop) : Prop :=
  ∀ (pins : List (Addr × Obj)) (s : Shared) (σ : St) (H : Hp) (xs : List V) (us : List Value) (Q : VK), Inv X pins σ H s → Vals xs us → r xs H Q →
    wpAny (model X.prog X.w) X.A (call f us) (EP X pins σ Q) X.xe s
/-- a value's truth -/
def TruR (X : Cx) (r : V → Hp → (Bool → Hp → Prop) → Prop) : Prop :=
  ∀ (pins : List (Addr × Obj)) (s : Shared) (σ : St) (H : Hp) (x : V) (v : Value) (Q : Bool → Hp → Prop), Inv X pins σ H s → RelV x v → r x H Q →
    wpAny (model X.prog X.w) X.A (truthy v) (TP X pins σ Q) X.xe s

def tOp (r : R2) (ta tb : TE) : TE := fun σ H Q => ta σ H fun x H1 => tb σ H1 fun y H2 => r x y H2 Q
def tUn (r : V → Hp → VK → Prop) (ta : TE) : TE := fun σ H Q => ta σ H fun x H1 => r x H1 Q
/-- ints in, under C, and a value out -/
def rI (C : Int → Int → Prop) (g : Int → Int → V) : R2 := fun x y H Q => ∃ i j, x = .int i ∧ y = .int j ∧ C i j ∧ Q (g i j) H
def rI0 (g : Int → Int → V) : R2 := fun x y H Q => ∃ i j, x = .int i ∧ y = .int j ∧ Q (g i j) H
def rU (g : Int → V) : V → Hp → VK → Prop := fun x H Q => ∃ i, x = .int i ∧ Q (g i) H

section
variable {X : Cx} {a b c : Expr} {ta tb tc : TE} {pos : Pos}

theorem binT (ha : PE X a ta) (hb : PE X b tb) {pins : List (Addr × Obj)} {s : Shared} {σ : St} {H : Hp} {R : V → V → Hp → Prop} (I : Inv X pins σ H s)
    (h : ta σ H fun x H1 => tb σ H1 fun y H2 => R x y H2) {Q : Value → Shared → Prop} {f : Value → Value → Sem Value}
    (hf : ∀ v u s2 x y H2, Inv X pins σ H2 s2 → RelV x v → RelV y u → R x y H2 → wpAny (model X.prog X.w) X.A (f v u) Q X.xe s2) :
    wpAny (model X.prog X.w) X.A (eval a X.env) (fun v s₁ => wpAny (model X.prog X.w) X.A (eval b X.env) (fun u s₂ => wpAny (model X.prog X.w) X.A (f v u) Q X.xe s₂) X.xe s₁) X.xe s := by
  refine thn (ha pins s σ H _ I h) fun v s1 ⟨x, H1, I1, r1, q1⟩ => ?_
  refine thn (hb pins s1 σ H1 _ I1 q1) fun u s2 ⟨y, H2, I2, r2, q2⟩ => ?_
  exact hf v u s2 x y H2 I2 r1 r2 q2

theorem pe_op {op : Operator} {r : R2} (ho : OpR X (binaryOp op) r) (ha : PE X a ta) (hb : PE X b tb) : PE X (.BinOp a op b pos) (tOp r ta tb) := by
  intro pins s σ H Q I h
  exact wpAny_BinOp (binT ha hb I h fun v u s2 x y H2 I2 rx ry q => ho pins s2 σ H2 x y v u Q I2 rx ry q)
theorem pe_un {op : UnaryOp} {r : V → Hp → VK → Prop} (ho : UnR X (unaryOp op) r) (ha : PE X a ta) : PE X (.UnaryOp op a pos) (tUn r ta) := by
  intro pins s σ H Q I h
  exact UnaryOp_ (thn (ha pins s σ H _ I h) fun v s1 ⟨x, H1, I1, r1, q1⟩ => ho pins s1 σ H1 x v Q I1 r1 q1)
/-! ### ints -/
theorem opI {f : Value → Value → Sem Value} {C : Int → Int → Prop} {g : Int → Int → Int}
    (rule : ∀ (i j : Int) (t u : Tok) (s : Shared) (Q : Value → Shared → Prop) (E : Value → Shared → Prop), C i j → Q (.int (g i j) s.toks) { s with toks := s.toks + 1 } → wpAny (model X.prog X.w) X.A (f (.int i t) (.int j u)) Q E s) :
    OpR X f (rI C fun i j => .int (g i j)) := by
  intro pins s σ H x y v u Q I rx ry h
  obtain ⟨i, j, rfl, rfl, hc, q⟩ := h
  obtain ⟨t, rfl⟩ := rx
  obtain ⟨t', rfl⟩ := ry
  exact rule i j t t' s _ _ hc ⟨.int (g i j), H, I.tok _, ⟨_, rfl⟩, q⟩
theorem opI0 {f : Value → Value → Sem Value} {g : Int → Int → Int}
    (rule : ∀ (i j : Int) (t u : Tok) (s : Shared) (Q : Value → Shared → Prop) (E : Value → Shared → Prop), Q (.int (g i j) s.toks) { s with toks := s.toks + 1 } → wpAny (model X.prog X.w) X.A (f (.int i t) (.int j u)) Q E s) :
    OpR X f (rI0 fun i j => .int (g i j)) := by
  intro pins s σ H x y v u Q I rx ry h
  obtain ⟨i, j, rfl, rfl, q⟩ := h
  obtain ⟨t, rfl⟩ := rx
  obtain ⟨t', rfl⟩ := ry
  exact rule i j t t' s _ _ ⟨.int (g i j), H, I.tok _, ⟨_, rfl⟩, q⟩
theorem opB0 {f : Value → Value → Sem Value} {g : Int → Int → Bool}
    (rule : ∀ (i j : Int) (t u : Tok) (s : Shared) (Q : Value → Shared → Prop) (E : Value → Shared → Prop), Q (.bool (g i j)) s → wpAny (model X.prog X.w) X.A (f (.int i t) (.int j u)) Q E s) :
    OpR X f (rI0 fun i j => .bl (g i j)) := by
  intro pins s σ H x y v u Q I rx ry h
  obtain ⟨i, j, rfl, rfl, q⟩ := h
  obtain ⟨t, rfl⟩ := rx
  obtain ⟨t', rfl⟩ := ry
  exact rule i j t t' s _ _ ⟨.bl (g i j), H, I, rfl, q⟩

def CDiv (i j : Int) : Prop := 0 < j ∧ j < 1073741824
def CDivN (i j : Int) : Prop := j ≠ 0 ∧ j.natAbs < 1073741824
def CPow (i j : Int) : Prop := 0 ≤ j ∧ j ≤ 1000000 ∧ i.natAbs < 2 ^ 64
def CMul (i j : Int) : Prop := (-(2 ^ 64) < i ∧ i < 2 ^ 64) ∨ (-(2 ^ 64) < j ∧ j < 2 ^ 64)
theorem CMul.ok {i j : Int} (h : CMul i j) : IntMulOk i j := by
  rcases h with ⟨h1, h2⟩ | ⟨h1, h2⟩
  · exact .of_left (intBits_le_64 h1 h2)
  · exact .of_right (intBits_le_64 h1 h2)
theorem op_add : OpR X (binaryOp .Add) (rI0 fun i j => .int (i + j)) := opI0 fun _ _ _ _ _ _ _ q => add_int q
theorem op_sub : OpR X (binaryOp .Sub) (rI0 fun i j => .int (i - j)) := opI0 fun _ _ _ _ _ _ _ q => sub_int q
theorem op_mul : OpR X (binaryOp .Mult) (rI CMul fun i j => .int (i * j)) := opI fun _ _ _ _ _ _ _ hc q => mul_int q hc.ok
/-- // by a positive divisor -/
theorem op_fdiv : OpR X (binaryOp .FloorDiv) (rI CDiv fun i j => .int (i / j)) := opI fun i j _ _ _ _ _ hc q => by
  have h1 : (0 : Int) < j := hc.1
  have h2 : j < 1073741824 := hc.2
  exact floordiv_int (by omega) (by rw [Int.fdiv_eq_ediv_of_nonneg i (by omega)]; exact q) (.inl (PyProof.noPylong_small (by omega)))
/-- % by a positive divisor of any size -/
theorem op_mod : OpR X (binaryOp .Mod) (rI (fun _ j => 0 < j) fun i j => .int (i % j)) := opI fun i j _ _ _ _ _ hc q => by
  have h1 : (0 : Int) < j := hc
  exact mod_int' (by omega) (by rw [Int.fmod_eq_emod_of_nonneg i (by omega)]; exact q)
theorem op_pow : OpR X (binaryOp .Pow) (rI CPow fun i j => .int (i ^ j.toNat)) := opI fun _ _ _ _ _ _ _ hc q => pow_int_small hc.1 hc.2.1 hc.2.2 q
theorem unI {f : Value → Sem Value} {g : Int → Int}
    (rule : ∀ (i : Int) (t : Tok) (s : Shared) (Q : Value → Shared → Prop) (E : Value → Shared → Prop), Q (.int (g i) s.toks) { s with toks := s.toks + 1 } → wpAny (model X.prog X.w) X.A (f (.int i t)) Q E s) :
    UnR X f (rU fun i => .int (g i)) := by
  intro pins s σ H x v Q I rx h
  obtain ⟨i, rfl, q⟩ := h
  obtain ⟨t, rfl⟩ := rx
  exact rule i t s _ _ ⟨.int (g i), H, I.tok _, ⟨_, rfl⟩, q⟩
theorem un_neg : UnR X (unaryOp .USub) (rU fun i => .int (-i)) := unI fun _ _ _ _ _ q => neg_int q
/-! ### bools among ints: n += (a < b) -/
end

/-! ### comparisons -/
/-- the scalars that == tells apart as data does -/
def scal : V → V → Bool
  | .non, .non => true | .non, .int _ => true | .int _, .non => true | .non, .bl _ => true | .bl _, .non => true | .non, .str _ => true | .str _, .non => true
  | .int _, .int _ => true | .bl _, .bl _ => true | .str _, .str _ => true | .byt _, .byt _ => true
  | .int _, .str _ => true | .str _, .int _ => true | .bl _, .str _ => true | .str _, .bl _ => true
  | _, _ => false
def rEq : R2 := fun x y H Q => scal x y = true ∧ Q (.bl (decide (x = y))) H
def rNe : R2 := fun x y H Q => scal x y = true ∧ Q (.bl (!decide (x = y))) H

theorem dec_int {i j : Int} : decide (V.int i = V.int j) = (i == j) := by
  rw [Bool.eq_iff_iff]
  simp
theorem dec_bl {i j : Bool} : decide (V.bl i = V.bl j) = (i == j) := by
  rw [Bool.eq_iff_iff]
  simp
theorem dec_str {i j : Str} : decide (V.str i = V.str j) = (i == j) := by
  rw [Bool.eq_iff_iff]
  simp
theorem dec_byt {i j : Array UInt8} : decide (V.byt i = V.byt j) = (i.toList == j.toList) := by
  rw [Bool.eq_iff_iff]
  cases i
  cases j
  simp

section
variable {X : Cx} {a b c : Expr} {ta tb tc : TE} {pos : Pos}
theorem fin_bl {pins : List (Addr × Obj)} {σ : St} {H : Hp} {s : Shared} {Q : VK} {k k' : Bool} (I : Inv X pins σ H s) (q : Q (.bl k) H) (e : k = k') : EP X pins σ Q (.bool k') s := by
  subst e
  exact ⟨.bl k, H, I, rfl, q⟩
theorem op_eq : OpR X (compareOp .Eq) rEq := by
  intro pins s σ H x y v u Q I rx ry h
  obtain ⟨hs, q⟩ := h
  cases x with
  | non =>
    cases rx
    cases y with
    | non => cases ry; exact PySem.EqNone.eq_none_none (fin_bl I q (by simp))
    | bl j => cases ry; exact PySem.EqNone.eq_none_bool (fin_bl I q (by simp))
    | int j => obtain ⟨t', rfl⟩ := ry; exact PySem.EqNone.eq_none_int (fin_bl I q (by simp))
    | str j => obtain ⟨t', rfl⟩ := ry; exact PySem.EqNone.eq_none_str (fin_bl I q (by simp))
    | _ => exact absurd (show false = true from hs) Bool.false_ne_true
  | bl i =>
    cases rx
    cases y with
    | non => cases ry; exact PySem.EqNone.eq_bool_none (fin_bl I q (by simp))
    | bl j => cases ry; exact eq_bool (fin_bl I q dec_bl)
    | str j => obtain ⟨t', rfl⟩ := ry; exact PySem.EqMixed.eq_bool_str (fin_bl I q (by simp))
    | _ => exact absurd (show false = true from hs) Bool.false_ne_true
  | int i =>
    obtain ⟨t, rfl⟩ := rx
    cases y with
    | non => cases ry; exact PySem.EqNone.eq_int_none (fin_bl I q (by simp))
    | int j => obtain ⟨t', rfl⟩ := ry; exact eq_int (fin_bl I q dec_int)
    | str j => obtain ⟨t', rfl⟩ := ry; exact PySem.EqMixed.eq_int_str (fin_bl I q (by simp))
    | _ => exact absurd (show false = true from hs) Bool.false_ne_true
  | str i =>
    obtain ⟨t, rfl⟩ := rx
    cases y with
    | non => cases ry; exact PySem.EqNone.eq_str_none (fin_bl I q (by simp))
    | bl j => cases ry; exact PySem.EqMixed.eq_str_bool (fin_bl I q (by simp))
    | int j => obtain ⟨t', rfl⟩ := ry; exact PySem.EqMixed.eq_str_int (fin_bl I q (by simp))
    | str j => obtain ⟨t', rfl⟩ := ry; exact eq_str (fin_bl I q dec_str)
    | _ => exact absurd (show false = true from hs) Bool.false_ne_true
  | byt i =>
    obtain ⟨t, rfl⟩ := rx
    cases y with
    | byt j => obtain ⟨t', rfl⟩ := ry; exact PySem.W.eq_bytes (fin_bl I q dec_byt)
    | _ => exact absurd (show false = true from hs) Bool.false_ne_true
  | _ => cases y <;> exact absurd (show false = true from hs) Bool.false_ne_true
theorem op_ne : OpR X (compareOp .NotEq) rNe := by
  intro pins s σ H x y v u Q I rx ry h
  obtain ⟨hs, q⟩ := h
  cases x with
  | non =>
    cases rx
    cases y with
    | non => cases ry; exact PySem.EqNone.ne_none_none (fin_bl I q (by simp))
    | bl j => cases ry; exact PySem.EqNone.ne_none_bool (fin_bl I q (by simp))
    | int j => obtain ⟨t', rfl⟩ := ry; exact PySem.EqNone.ne_none_int (fin_bl I q (by simp))
    | str j => obtain ⟨t', rfl⟩ := ry; exact PySem.EqNone.ne_none_str (fin_bl I q (by simp))
    | _ => exact absurd (show false = true from hs) Bool.false_ne_true
  | bl i =>
    cases rx
    cases y with
    | non => cases ry; exact PySem.EqNone.ne_bool_none (fin_bl I q (by simp))
    | bl j => cases ry; exact ne_bool (fin_bl I q (congrArg not dec_bl))
    | str j => obtain ⟨t', rfl⟩ := ry; exact PySem.EqMixed.ne_bool_str (fin_bl I q (by simp))
    | _ => exact absurd (show false = true from hs) Bool.false_ne_true
  | int i =>
    obtain ⟨t, rfl⟩ := rx
    cases y with
    | non => cases ry; exact PySem.EqNone.ne_int_none (fin_bl I q (by simp))
    | int j => obtain ⟨t', rfl⟩ := ry; exact ne_int (fin_bl I q (congrArg not dec_int))
    | str j => obtain ⟨t', rfl⟩ := ry; exact PySem.EqMixed.ne_int_str (fin_bl I q (by simp))
    | _ => exact absurd (show false = true from hs) Bool.false_ne_true
  | str i =>
    obtain ⟨t, rfl⟩ := rx
    cases y with
    | non => cases ry; exact PySem.EqNone.ne_str_none (fin_bl I q (by simp))
    | bl j => cases ry; exact PySem.EqMixed.ne_str_bool (fin_bl I q (by simp))
    | int j => obtain ⟨t', rfl⟩ := ry; exact PySem.EqMixed.ne_str_int (fin_bl I q (by simp))
    | str j => obtain ⟨t', rfl⟩ := ry; exact ne_str (fin_bl I q (congrArg not dec_str))
    | _ => exact absurd (show false = true from hs) Bool.false_ne_true
  | byt i =>
    obtain ⟨t, rfl⟩ := rx
    cases y with
    | byt j => obtain ⟨t', rfl⟩ := ry; exact PySem.W.ne_bytes (fin_bl I q (congrArg not dec_byt))
    | _ => exact absurd (show false = true from hs) Bool.false_ne_true
  | _ => cases y <;> exact absurd (show false = true from hs) Bool.false_ne_true

theorem op_lt : OpR X (compareOp .Lt) (rI0 fun i j => .bl (decide (i < j))) := opB0 fun _ _ _ _ _ _ _ q => lt_int q
theorem op_le : OpR X (compareOp .LtE) (rI0 fun i j => .bl (decide (i ≤ j))) := opB0 fun _ _ _ _ _ _ _ q => le_int q
theorem op_gt : OpR X (compareOp .Gt) (rI0 fun i j => .bl (decide (j < i))) := opB0 fun _ _ _ _ _ _ _ q => gt_int q
theorem op_ge : OpR X (compareOp .GtE) (rI0 fun i j => .bl (decide (j ≤ i))) := opB0 fun _ _ _ _ _ _ _ q => ge_int q
/-- the one string within the other -/
theorem op_in_str : OpR X (compareOp .In) (fun x y H Q => ∃ i j, x = .str i ∧ y = .str j ∧ Q (.bl (!(Builtin.Str.occurrences j i 0 j.length 1).isEmpty)) H) := by
  intro pins s σ H x y v u Q I rx ry h
  obtain ⟨i, j, rfl, rfl, q⟩ := h
  obtain ⟨t, rfl⟩ := rx
  obtain ⟨t', rfl⟩ := ry
  exact in_str (fin_bl I q rfl)

/-- is None, is not None: the right side a value none -/
theorem op_isN : OpR X (compareOp .Is) (fun x y H Q => y = .non ∧ Q (.bl (decide (x = .non))) H) := by
  intro pins s σ H x y v u Q I rx ry h
  obtain ⟨rfl, q⟩ := h
  cases ry
  refine is_none_gen (fin_bl I q ?_)
  cases x <;> first
    | (cases rx; rfl)
    | (obtain ⟨t, rfl⟩ := rx; rfl)
theorem op_notN : OpR X (compareOp .IsNot) (fun x y H Q => y = .non ∧ Q (.bl (!decide (x = .non))) H) := by
  intro pins s σ H x y v u Q I rx ry h
  obtain ⟨rfl, q⟩ := h
  cases ry
  refine isnot_none_gen (fin_bl I q ?_)
  cases x <;> first
    | (cases rx; rfl)
    | (obtain ⟨t, rfl⟩ := rx; rfl)

/-- is, is not of two objects that are tracked lists or instances -/
def isObj : HO → Bool
  | .lst _ => true
  | .ins _ _ _ => true
  | _ => false
/-- two rules for one operation: by cases -/
theorem OpR.or {f : Value → Value → Sem Value} {r r' : R2} (h : OpR X f r) (h' : OpR X f r') : OpR X f (fun x y H Q => r x y H Q ∨ r' x y H Q) := by
  intro pins s σ H x y v u Q I rx ry q
  rcases q with q | q
  · exact h pins s σ H x y v u Q I rx ry q
  · exact h' pins s σ H x y v u Q I rx ry q

theorem nomark (b : Expr) {op : CmpOp} (h : op ≠ .In := by decide) (h2 : op ≠ .NotIn := by decide) : behindInMarks op b = false := by
  have e1 : (op == CmpOp.In) = false := by cases op <;> first | rfl | exact absurd rfl h
  have e2 : (op == CmpOp.NotIn) = false := by cases op <;> first | rfl | exact absurd rfl h2
  cases b <;> simp [behindInMarks, e1, e2]
/-- a comparison as a value; hm: nomark b, or (for in, not in) by with_unfolding_all rfl -/
theorem pe_cmpR {op : CmpOp} {r : R2} (ho : OpR X (compareOp op) r) (ha : PE X a ta) (hb : PE X b tb) (hm : behindInMarks op b = false) : PE X (.Compare a [op] [b] pos) (tOp r ta tb) := by
  intro pins s σ H Q I h
  exact wpAny_Compare1 (binT ha hb I h fun v u s2 x y H2 I2 rx ry q => ho pins s2 σ H2 x y v u Q I2 rx ry q) hm
/-- a reading of a value as a test -/
def tTest (t : TE) : TT := fun σ H Q => t σ H fun x H' => ∃ k, x = .bl k ∧ Q k H'
theorem pt_cmpR {op : CmpOp} {r : R2} (ho : OpR X (compareOp op) r) (ha : PE X a ta) (hb : PE X b tb) (hm : behindInMarks op b = false) : PT X (.Compare a [op] [b] pos) (tTest (tOp r ta tb)) := by
  intro pins s σ H Q I h
  refine wpAny_isTrue_Compare1 (thn (ha pins s σ H _ I h) fun v s1 ⟨x, H1, I1, r1, q1⟩ => thn (hb pins s1 σ H1 _ I1 q1) fun u s2 ⟨y, H2, I2, r2, q2⟩ =>
    thn (ho pins s2 σ H2 x y v u _ I2 r1 r2 q2) fun c s3 ⟨z, H3, I3, r3, k, e, q3⟩ => ?_) hm
  subst e
  cases r3
  exact wpAny_truthy_bool ⟨H3, I3, q3⟩
/-- a op1 b op2 c -/
def tChain (r r' : R2) (ta tb tc : TE) : TE := fun σ H Q => ta σ H fun x H1 => tb σ H1 fun y H2 => r x y H2 fun z H3 => ∃ k, z = .bl k ∧
  (if k = true then tc σ H3 fun w' H4 => r' y w' H4 Q else Q (.bl false) H3)
theorem pe_chain {op op' : CmpOp} {r r' : R2} (ho : OpR X (compareOp op) r) (ho' : OpR X (compareOp op') r') (ha : PE X a ta) (hb : PE X b tb) (hc : PE X c tc)
    (hm : lastMarks [op, op'] [b, c] = false := by with_unfolding_all rfl) : PE X (.Compare a [op, op'] [b, c] pos) (tChain r r' ta tb tc) := by
  intro pins s σ H Q I h
  refine Compare_chain (thn (ha pins s σ H _ I h) fun v s1 ⟨x, H1, I1, r1, q1⟩ => chain_link (thn (hb pins s1 σ H1 _ I1 q1) fun u s2 ⟨y, H2, I2, r2, q2⟩ =>
    thn (ho pins s2 σ H2 x y v u _ I2 r1 r2 q2) fun d s3 ⟨z, H3, I3, r3, k, e, q3⟩ => ?_)) hm
  subst e
  cases r3
  refine wpAny_truthy_bool ?_
  cases k with
  | false => exact ite_ff ⟨.bl false, H3, I3, rfl, q3⟩
  | true => exact ite_tt (chain_last (thn (hc pins s3 σ H3 _ I3 q3) fun w' s4 ⟨z', H4, I4, r4, q4⟩ => ho' pins s4 σ H4 y z' u w' Q I4 r2 r4 q4))
theorem pt_chain {op op' : CmpOp} {r r' : R2} (ho : OpR X (compareOp op) r) (ho' : OpR X (compareOp op') r') (ha : PE X a ta) (hb : PE X b tb) (hc : PE X c tc)
    (hm : lastMarks [op, op'] [b, c] = false := by with_unfolding_all rfl) : PT X (.Compare a [op, op'] [b, c] pos) (tTest (tChain r r' ta tb tc)) := by
  intro pins s σ H Q I h
  refine isTrue_chain (thn (ha pins s σ H _ I h) fun v s1 ⟨x, H1, I1, r1, q1⟩ => test_link (thn (hb pins s1 σ H1 _ I1 q1) fun u s2 ⟨y, H2, I2, r2, q2⟩ =>
    thn (ho pins s2 σ H2 x y v u _ I2 r1 r2 q2) fun d s3 ⟨z, H3, I3, r3, k, e, q3⟩ => ?_)) hm
  subst e
  cases r3
  refine wpAny_truthy_bool ?_
  cases k with
  | false =>
    obtain ⟨k', e', q'⟩ := q3
    cases e'
    exact ite_ff ⟨H3, I3, q'⟩
  | true =>
    refine ite_tt (test_last (thn (hc pins s3 σ H3 _ I3 q3) fun w' s4 ⟨z', H4, I4, r4, q4⟩ => thn (ho' pins s4 σ H4 y z' u w' _ I4 r2 r4 q4) fun d' s5 ⟨z2, H5, I5, r5, k2, e2, q5⟩ => ?_))
    subst e2
    cases r5
    exact wpAny_truthy_bool ⟨H5, I5, q5⟩

/-! ### truth -/
/-- a value's truth by the abstract heap -/
def TruV (K : PySem.W.Frag) (x : V) (H : Hp) (k : Bool) : Prop :=
  match x with
  | .non => k = false
  | .bl b => k = b
  | .int i => k = (i != 0)
  | .str y => y.length ≤ sizeLine ∧ k = ((y.length : Int) != 0)
  | .byt y => y.size ≤ sizeLine ∧ k = ((y.size : Int) != 0)
  | .ref p => (∃ xs, SqL K H p xs ∧ k = !xs.isEmpty) ∨ (∃ xs, SqT K H p xs ∧ k = !xs.isEmpty) ∨ ∃ kvs, H p = some (.dK kvs) ∧ k = !kvs.isEmpty
  | _ => False
theorem line63 : (sizeLine : Nat) < 2 ^ 63 := by rw [sizeLine_eq]; decide
/-! ### strs and bytes -/
theorem op_add_str : OpR X (binaryOp .Add) (fun x y H Q => ∃ i j, x = .str i ∧ y = .str j ∧ i.length + j.length ≤ sizeLine ∧ Q (.str (i ++ j)) H) := by
  intro pins s σ H x y v u Q I rx ry h
  obtain ⟨i, j, rfl, rfl, hz, q⟩ := h
  obtain ⟨t, rfl⟩ := rx
  obtain ⟨t', rfl⟩ := ry
  exact add_str (fun t' tk => ⟨.str (i ++ j), H, I.tok _, ⟨_, rfl⟩, q⟩) hz
def PlainIxT (b : Expr) : Prop := ∀ o i, subscripted b false o i = operate [o, i] (getItem o i)
/-! ### scalar builtins, by CallR -/
theorem vals1 {x : V} {us : List Value} (r : Vals [x] us) : ∃ u, us = [u] ∧ RelV x u := by
  cases r with
  | cons r1 r2 => cases r2; exact ⟨_, rfl, r1⟩
theorem vals2 {x y : V} {us : List Value} (r : Vals [x, y] us) : ∃ u w', us = [u, w'] ∧ RelV x u ∧ RelV y w' := by
  cases r with
  | cons r1 r2 =>
    cases r2 with
    | cons r3 r4 => cases r4; exact ⟨_, _, rfl, r1, r3⟩
theorem call_max2 (hc : X.calm = true) : CallR X (.builtin "max") (fun xs H Q => ∃ i j, xs = [.int i, .int j] ∧ Q (.int (if j > i then j else i)) H) := by
  intro pins s σ H xs us Q I r h
  obtain ⟨i, j, rfl, q⟩ := h
  obtain ⟨u, w', rfl, ⟨t, rfl⟩, ⟨t', rfl⟩⟩ := vals2 r
  refine max_two_ints (I.ok.hd hc) fun h' tk k => ⟨_, H, I.kept k, ?_, q⟩
  by_cases hj : j > i
  · rw [if_pos hj, if_pos hj]; exact ⟨_, rfl⟩
  · rw [if_neg hj, if_neg hj]; exact ⟨_, rfl⟩
theorem call_min2 (hc : X.calm = true) : CallR X (.builtin "min") (fun xs H Q => ∃ i j, xs = [.int i, .int j] ∧ Q (.int (if j < i then j else i)) H) := by
  intro pins s σ H xs us Q I r h
  obtain ⟨i, j, rfl, q⟩ := h
  obtain ⟨u, w', rfl, ⟨t, rfl⟩, ⟨t', rfl⟩⟩ := vals2 r
  refine min_two_ints (I.ok.hd hc) fun h' tk k => ⟨_, H, I.kept k, ?_, q⟩
  by_cases hj : j < i
  · rw [if_pos hj, if_pos hj]; exact ⟨_, rfl⟩
  · rw [if_neg hj, if_neg hj]; exact ⟨_, rfl⟩
theorem call_int1 : CallR X (.type "int") (fun xs H Q => (∃ i, xs = [.int i] ∧ Q (.int i) H) ∨ ∃ k, xs = [.bl k] ∧ Q (.int (if k then 1 else 0)) H) := by
  intro pins s σ H xs us Q I r h
  rcases h with ⟨i, rfl, q⟩ | ⟨k, rfl, q⟩
  · obtain ⟨u, rfl, t, rfl⟩ := vals1 r
    exact call_int_int ⟨.int i, H, I, ⟨_, rfl⟩, q⟩
  · obtain ⟨u, rfl, r1⟩ := vals1 r
    cases r1
    exact call_int_bool ⟨.int (if k then 1 else 0), H, I.tok _, ⟨_, rfl⟩, q⟩
theorem call_str_int : CallR X (.type "str") (fun xs H Q => ∃ i, xs = [.int i] ∧ i.natAbs.log2 < 1920 ∧ Q (.str (toString i)) H) := by
  intro pins s σ H xs us Q I r h
  obtain ⟨i, rfl, hz, q⟩ := h
  obtain ⟨u, rfl, t, rfl⟩ := vals1 r
  exact PySem.P.str_of_int hz ⟨.str _, H, I.tok _, ⟨_, rfl⟩, q⟩
/-- len of a str, a bytes, a list, a tuple -/
def LenV (K : PySem.W.Frag) (x : V) (H : Hp) (n : Nat) : Prop :=
  match x with
  | .str y => y.length ≤ sizeLine ∧ n = y.length
  | .byt y => y.size ≤ sizeLine ∧ n = y.size
  | .ref p => (∃ xs, SqL K H p xs ∧ n = xs.length) ∨ ∃ xs, SqT K H p xs ∧ n = xs.length
  | _ => False
theorem call_len : CallR X (.builtin "len") (fun xs H Q => ∃ x n, xs = [x] ∧ LenV X.K x H n ∧ Q (.int n) H) := by
  intro pins s σ H xs us Q I r h
  obtain ⟨x, n, rfl, e, q⟩ := h
  obtain ⟨u, rfl, rx⟩ := vals1 r
  have hl := line63
  have hs : sizeLine = 16777216 := sizeLine_eq
  cases x with
  | str y =>
    obtain ⟨t, rfl⟩ := rx
    obtain ⟨hy, e'⟩ : y.length ≤ sizeLine ∧ n = y.length := e
    subst e'
    exact len_str (by omega) ⟨.int _, H, I.tok _, ⟨_, rfl⟩, q⟩
  | byt y =>
    obtain ⟨t, rfl⟩ := rx
    obtain ⟨hy, e'⟩ : y.size ≤ sizeLine ∧ n = y.size := e
    subst e'
    exact PySem.W.len_bytes (by omega) ⟨.int _, H, I.tok _, ⟨_, rfl⟩, q⟩
  | ref p =>
    cases rx
    have e' : (∃ xs, SqL X.K H p xs ∧ n = xs.length) ∨ ∃ xs, SqT X.K H p xs ∧ n = xs.length := e
    rcases e' with ⟨xs, hx, e'⟩ | ⟨xs, hx, e'⟩
    · subst e'
      obtain ⟨its, r', pl, hz⟩ := I.list hx
      have hlen := r'.length
      exact Calls.call_len_list pl.isList (by simp only [List.size_toArray]; omega) ⟨.int xs.length, H, I.tok _, ⟨_, by simp only [List.size_toArray]; rw [hlen]⟩, q⟩
    · subst e'
      obtain ⟨its, r', pl, hz⟩ := I.tuple hx
      have hlen := r'.length
      exact len_tuple pl (by simp only [List.size_toArray]; omega) ⟨.int xs.length, H, I.tok _, ⟨_, by simp only [List.size_toArray]; rw [hlen]⟩, q⟩
  | _ => exact (show False from e).elim
end
end L2

namespace L2
open PySem PySem.Spec PyProof.Rows

/-! ### an instance, its attributes a map -/
structure ObjM (h : Heap) (x dx C : Addr) (mA : Str → Option Value) : Prop where
  obj : h.get? x = some (PySem.W.instObj C dx)
  ns : h.Ns1 dx mA
  ne : dx ≠ x

theorem lookIn_ns {h : Heap} {dx : Addr} {mA : Str → Option Value} (n : h.Ns1 dx mA) : ∃ od, h.get? dx = some od ∧ ∀ name, PySem.W.lookIn name od = some (mA name) := by
  obtain ⟨o, es, ep, ho, hd, hk, _, hm⟩ := n
  refine ⟨o, ho, fun name => ?_⟩
  have e := hm name
  unfold nsFind findBy at e
  rw [← Array.find?_toList] at e
  unfold PySem.W.lookIn
  rw [hd]
  dsimp only
  split
  · rename_i y q
    rw [q] at e
    exact congrArg some e
  · rename_i q
    rw [q] at e
    have a : es.toList.any (·.refKey) = false := by
      rw [List.any_eq_false]
      intro y hy
      obtain ⟨z, t, hkey⟩ := hk y (Array.mem_toList_iff.mp hy)
      simp [DictEntry.refKey, hkey]
    have a' : ¬ es.toList.any (·.refKey) = true := by rw [a]; exact Bool.false_ne_true
    rw [if_neg a']
    exact congrArg some e

theorem ObjM.look {h : Heap} {x dx C : Addr} {mA : Str → Option Value} (I : ObjM h x dx C mA) : ∃ od, PySem.W.InstAt h x (PySem.W.instObj C dx) C (some od) ∧ ∀ name, PySem.W.lookIn name od = some (mA name) :=
  let ⟨od, ho, hl⟩ := lookIn_ns I.ns
  ⟨od, ⟨I.obj, rfl, rfl, ho⟩, hl⟩

section
variable {prog : Program} {w : World} {A : Around} {E : Value → Shared → Prop} {s : Shared} {K : PySem.W.Frag} {x dx C f : Addr} {mA : Str → Option Value} {name : Str} {v : Value}

end

/-! ### the attributes as a list of pairs -/
def putF (f : Str) (v : V) : List (Str × V) → List (Str × V)
  | [] => [(f, v)]
  | (g, x) :: r => if g = f then (g, v) :: r else (g, x) :: putF f v r
theorem RelO.none_of {o : Option Value} (r : RelO none o) : o = none := by
  cases o with
  | none => rfl
  | some u => exact (show False from r).elim
section
variable {P : Program} {w : World} {H H' : Hp} {h h' : Heap} {a C dx : Addr} {fs fs' : List (Str × V)}
theorem ins_get (hok : HOk P w H h) (e : H a = some (.ins C dx fs)) : ∃ mA, ObjM h a dx C mA ∧ (∀ f, RelO (fs.lookup f) (mA f)) ∧ PySem.Within mA (fs.map (·.1)) ∧ fs.length ≤ 1000 ∧ H dx = some (.own a) := by
  obtain ⟨d, z, ne, ob, mA, n, r, q⟩ := (show ObjOk P w H h a (.ins C dx fs) from hok a _ e)
  exact ⟨mA, ⟨ob, n, ne⟩, r, q, z, d⟩
end

/-! ### what of the text a class must have -/
structure Cls (K : PySem.W.Frag) (C : Addr) : Prop where
  pg : PySem.W.plainGet K C Str.empty = true
  hd : PySem.W.hasDictIn K C = true
  po : PySem.W.plainOver K C = true
  sa : PySem.W.findIn K (.ref C) "__setattr__" = some (some (.builtin "object.__setattr__"))
theorem Cls.get {K : PySem.W.Frag} {C : Addr} (c : Cls K C) (f : Str) : PySem.W.plainGet K C f = true := c.pg
/-- no class of it has the name -/
def NoAttr (K : PySem.W.Frag) (C : Addr) (f : Str) : Prop := PySem.W.findIn K (.ref C) f = some none
/-- a constant of the class -/
structure Con (K : PySem.W.Frag) (C : Addr) (f : Str) (v : V) (u : Value) : Prop where
  at_ : PySem.W.findIn K (.ref C) f = some (some u)
  rel : RelV v u
  get : PySem.W.specialIn K u "__get__" = some none
  cp : PySem.W.copiedNames.contains f = false
/-- a method: a plain def of the class or of one above it -/
structure Meth (K : PySem.W.Frag) (C : Addr) (m : Str) (f : Addr) : Prop where
  at_ : PySem.W.findIn K (.ref C) m = some (some (.ref f))
  fn : PySem.W.isFn K (.ref f) = true
  kp : PySem.W.keepIn K (.ref f) = true

section
variable {X : Cx} {pins : List (Addr × Obj)} {σ : St} {H : Hp} {s : Shared} {a C dx : Addr} {fs : List (Str × V)} {f : Str} {v : V} {A : Around} {E : Value → Shared → Prop}

/-- a new instance, tracked, without attributes -/
theorem Inv.made (I : Inv X pins σ H s) : Inv X pins σ (upd (upd H s.heap.objs.size (.own (s.heap.objs.size + 1))) (s.heap.objs.size + 1) (.ins C s.heap.objs.size []))
    { s with heap := (s.heap.push PySem.W.emptyDict).push (PySem.W.instObj C s.heap.objs.size) } := by
  have e1 : (s.heap.push PySem.W.emptyDict).get? s.heap.objs.size = some PySem.W.emptyDict := Heap.get?_push_size s.heap rfl
  have e2 : ((s.heap.push PySem.W.emptyDict).push (PySem.W.instObj C s.heap.objs.size)).get? (s.heap.objs.size + 1) = some (PySem.W.instObj C s.heap.objs.size) := by
    have := Heap.get?_push_size (s.heap.push PySem.W.emptyDict) (o := PySem.W.instObj C s.heap.objs.size) rfl
    rwa [Heap.size_push] at this
  have e3 : (s.heap.push PySem.W.emptyDict).Ns s.heap.objs.size (fun _ => none) := ⟨PySem.W.emptyDict, #[], _, e1, rfl, (fun e he => absurd he (by simp)), fun _ => rfl⟩
  have I1 := I.laid (a := s.heap.objs.size) (o := .own (s.heap.objs.size + 1)) (h' := s.heap.push PySem.W.emptyDict) (t' := s.toks) (fun b u q => Heap.get?_push_of_some _ q) (Nat.le_refl _) ⟨_, e1⟩
  refine I1.laid (a := s.heap.objs.size + 1) (o := .ins C s.heap.objs.size []) (t' := s.toks) (fun b u q => Heap.get?_push_of_some _ q) (Nat.le_of_eq (Heap.size_push _ _)) ?_
  have ne : s.heap.objs.size ≠ s.heap.objs.size + 1 := Nat.ne_of_lt (Nat.lt_succ_self _)
  refine ⟨by rw [upd_ne ne, upd_same], Nat.zero_le _, ne, e2, fun _ => none, (Heap.Ns1.of_empty e3).at fun o q => Heap.get?_push_of_some _ q, fun _ => True.intro, fun y hy => absurd rfl hy⟩

end

/-! ### readings and rules -/
/-- e.f, an attribute of the instance -/
def tFld (K : PySem.W.Frag) (ta : TE) (f : Str) : TE := fun σ H Q => ta σ H fun x H1 => ∃ a C dx fs v, x = .ref a ∧ H1 a = some (.ins C dx fs) ∧ Cls K C ∧ NoAttr K C f ∧ fs.lookup f = some v ∧ Q v H1
/-- e.f, a constant of the class -/
def tCon (K : PySem.W.Frag) (ta : TE) (f : Str) : TE := fun σ H Q => ta σ H fun x H1 => ∃ a C dx fs v u, x = .ref a ∧ H1 a = some (.ins C dx fs) ∧ Cls K C ∧ Con K C f v u ∧ fs.lookup f = none ∧ Q v H1
/-- e.f = value -/
def sFld (K : PySem.W.Frag) (ta tv : TE) (f : Str) : TS := fun D σ H => tv σ H fun y H1 => ta σ H1 fun x H2 => ∃ a C dx fs, x = .ref a ∧ H2 a = some (.ins C dx fs) ∧ Cls K C ∧ NoAttr K C f ∧ fs.length < 1000 ∧
  D.nx σ (upd H2 a (.ins C dx (putF f y fs)))
/-- an augmented operator on two values -/
def InOp (X : Cx) (op : Operator) (rd : V → V → Hp → VK → Prop) : Prop :=
  ∀ (pins : List (Addr × Obj)) (s : Shared) (σ : St) (H : Hp) (x y : V) (u v : Value) (Q : VK), Inv X pins σ H s → RelV x u → RelV y v → rd x y H Q → wpAny (model X.prog X.w) X.A (inplaceOp op u v) (EP X pins σ Q) X.xe s
/-- e.f op= value -/
def sFldAug (K : PySem.W.Frag) (ta tv : TE) (rd : V → V → Hp → VK → Prop) (f : Str) : TS := fun D σ H => ta σ H fun x H1 => ∃ a C dx fs v, x = .ref a ∧ H1 a = some (.ins C dx fs) ∧ Cls K C ∧ NoAttr K C f ∧ fs.lookup f = some v ∧
  tv σ H1 fun y H2 => rd v y H2 fun z H3 => ∃ dx' fs', H3 a = some (.ins C dx' fs') ∧ fs'.length < 1000 ∧ D.nx σ (upd H3 a (.ins C dx' (putF f z fs')))

section
variable {X : Cx} {o e value : Expr} {f : Str} {pos pos' tpos : Pos} {ta tv : TE}
def rAdd : V → V → Hp → VK → Prop := fun x y H Q => ∃ i j, x = .int i ∧ y = .int j ∧ Q (.int (i + j)) H
def rSub : V → V → Hp → VK → Prop := fun x y H Q => ∃ i j, x = .int i ∧ y = .int j ∧ Q (.int (i - j)) H
end

/-! ### isinstance -/
section
variable {X : Cx} {pins : List (Addr × Obj)} {σ : St} {H : Hp} {s : Shared} {A : Around} {E : Value → Shared → Prop} {Q : Value → Shared → Prop} {c : Value} {b : Bool}
/-- the type of a value, as the fragment's deciders take it; for an instance its class -/
inductive TyOf (K : PySem.W.Frag) (H : Hp) : V → Value → Prop where
  | non : TyOf K H .non (.type "NoneType")
  | bl (x : Bool) : TyOf K H (.bl x) (.type "bool")
  | int (i : Int) : TyOf K H (.int i) (.type "int")
  | str (x : Str) : TyOf K H (.str x) (.type "str")
  | flt (x : UInt64) : TyOf K H (.flt x) (.type "float")
  | lst {a : Addr} {xs : List V} (e : H a = some (.lst xs)) : TyOf K H (.ref a) (.type "list")
  | frz {a : Addr} {o : Obj} {xs : List V} (e : H a = some (.frz o (.lst xs))) : TyOf K H (.ref a) (.type "list")
  | tup {a : Addr} {xs : List V} (e : H a = some (.tup xs)) : TyOf K H (.ref a) (.type "tuple")
  | dK {a : Addr} {kvs : List (Key × V)} (e : H a = some (.dK kvs)) : TyOf K H (.ref a) (.type "dict")
  | dT {a : Addr} {kvs : List (List Key × V)} (e : H a = some (.dT kvs)) : TyOf K H (.ref a) (.type "dict")
  | ins {a C dx : Addr} {fs : List (Str × V)} (e : H a = some (.ins C dx fs)) (cl : Cls K C) (ha : PySem.W.findIn K (.ref C) "__class__" = some (some (.builtin "object.__class__")))
      (hn : PySem.W.specialIn K (.builtin "object.__class__") "__get__" = some (some (.builtin "getset_descriptor.__get__"))) (htk : PySem.W.takesIn K (.builtin "object.__class__") = some true)
      (hm : PySem.W.mroIn K C (.type "object") = some true) : TyOf K H (.ref a) (.ref C)
/-- isinstance(x, c) for one class c, a built-in or an own one: kitOne's answer -/
theorem isinst_ok {x : V} {u t : Value} (I : Inv X pins σ H s) (rx : RelV x u) (ty : TyOf X.K H x t) (e : PySem.W.kitOne X.K t c = some b) (h : ∀ tk, Q (.bool b) { s with toks := tk }) :
    wpAny (model X.prog X.w) A (call (.builtin "isinstance") [u, c]) Q E s := by
  cases ty with
  | non => cases (show u = Value.none from rx); exact PySem.W.kia_one PySem.W.kitx_none I.kIn True.intro e (fun z => nomatch z) h
  | bl y => cases (show u = Value.bool y from rx); exact PySem.W.kia_one PySem.W.kitx_bool I.kIn True.intro e (fun z => nomatch z) h
  | int i => obtain ⟨t, q⟩ := (show ∃ t, u = Value.int i t from rx); cases q; exact PySem.W.kia_one PySem.W.kitx_int I.kIn True.intro e (fun z => nomatch z) h
  | str y => obtain ⟨t, q⟩ := (show ∃ t, u = Value.str y t from rx); cases q; exact PySem.W.kia_one PySem.W.kitx_str I.kIn True.intro e (fun z => nomatch z) h
  | flt y => obtain ⟨t, q⟩ := (show ∃ t, u = Value.float y t from rx); cases q; exact PySem.W.kia_one PySem.W.kitx_float I.kIn True.intro e (fun z => nomatch z) h
  | @lst a xs ea =>
    cases (show u = Value.ref a from rx)
    obtain ⟨_, _, n, _, h1⟩ := (show ObjOk X.prog X.w H s.heap a (.lst xs) from I.hok a _ ea)
    exact PySem.W.kia_one PySem.W.kitx_list I.kIn ⟨_, h1, rfl⟩ e (fun z => nomatch z) h
  | @frz a ob xs ea =>
    cases (show u = Value.ref a from rx)
    obtain ⟨_, _, _, n, _, h1⟩ := (show ObjOk X.prog X.w H s.heap a (.frz ob (.lst xs)) from I.hok a _ ea)
    exact PySem.W.kia_one PySem.W.kitx_list I.kIn ⟨_, h1, rfl⟩ e (fun z => nomatch z) h
  | @tup a xs ea =>
    cases (show u = Value.ref a from rx)
    obtain ⟨_, _, _, p⟩ := (show ObjOk X.prog X.w H s.heap a (.tup xs) from I.hok a _ ea)
    obtain ⟨o, h1, h2, _⟩ := p
    exact PySem.W.kia_one PySem.W.kitx_tuple I.kIn ⟨o, h1, h2⟩ e (fun z => nomatch z) h
  | @dK a kvs ea =>
    cases (show u = Value.ref a from rx)
    obtain ⟨_, _, vs, _, p⟩ := (show ObjOk X.prog X.w H s.heap a (.dK kvs) from I.hok a _ ea)
    obtain ⟨o, es, ep, h1, h2, _⟩ := p
    exact PySem.W.kia_one PySem.W.kitx_dict I.kIn ⟨o, h1, h2.1⟩ e (fun z => nomatch z) h
  | @dT a kvs ea =>
    cases (show u = Value.ref a from rx)
    obtain ⟨_, _, xs, _, o, es, ep, h1, h2, _⟩ := (show ObjOk X.prog X.w H s.heap a (.dT kvs) from I.hok a _ ea)
    exact PySem.W.kia_one PySem.W.kitx_dict I.kIn ⟨o, h1, h2.1⟩ e (fun z => nomatch z) h
  | @ins a C dx fs ea cl ha hn htk hm =>
    cases (show u = Value.ref a from rx)
    obtain ⟨mA, O, _⟩ := ins_get I.hok ea
    obtain ⟨od, J, _⟩ := O.look
    exact PySem.W.kia_one (PySem.W.kitx_own (cl.get _) cl.hd ha hn htk hm) I.kIn J e (fun z => nomatch z) h
end
end L2

namespace L2
open PySem PySem.Spec PyProof.Rows

/-! ### room -/
structure Room (k : Nat) (A : Around) : Prop where
  hd : A.handled = none
  dp : A.depth + 3 * k + 5 < recursionLimit
  un : A.units + 16 * k + 200 < cLine
theorem Room.mono {j k : Nat} {A : Around} (r : Room k A) (h : j ≤ k) : Room j A := ⟨r.hd, by have := r.dp; omega, by have := r.un; omega⟩
theorem Room.deeper {k : Nat} {A : Around} (r : Room (k + 1) A) (env : Env) : Room k (A.deeper env) :=
  ⟨r.hd, by have := r.dp; show A.depth + 1 + 3 * k + 5 < _; omega, by have := r.un; show A.units + 3 + 16 * k + 200 < _; omega⟩
theorem Room.in1 {k : Nat} {A : Around} (r : Room (k + 1) A) : Room k A.in1 :=
  ⟨r.hd, by have := r.dp; show A.depth + 3 * k + 5 < _; omega, by have := r.un; show A.units + 1 + 16 * k + 200 < _; omega⟩
theorem Room.depth {k : Nat} {A : Around} (r : Room k A) : A.depth < recursionLimit := by have := r.dp; omega
theorem Room.units {k : Nat} {A : Around} (r : Room k A) : A.units + 64 < cLine := by have := r.un; omega
/-! ### argument lists and displays -/
def tNil : TA := fun _ H Q => Q [] H
def tCons (ta : TE) (tr : TA) : TA := fun σ H Q => ta σ H fun x H1 => tr σ H1 fun xs H2 => Q (x :: xs) H2
section
variable {X : Cx} {e : Expr} {es : List Expr} {te : TE} {t : TA} {pos : Pos}
theorem pa_nil : PA X [] tNil := fun _ _ _ _ H Q I h => Calls.spliced_nil ⟨[], H, I, .nil, h⟩
theorem pa_cons (ha : PE X e te) (hr : PA X es t) (hs : starEach (e :: es) X.env = (false, eval e X.env) :: starEach es X.env := by rfl) : PA X (e :: es) (tCons te t) := by
  intro pos pins s σ H Q I h
  rw [hs]
  show wpAny _ _ (spliced ((false, eval e X.env) :: backTo pos (starEach es X.env))) _ _ s
  refine Calls.spliced_cons (thn (ha pins s σ H _ I h) fun u s1 ⟨x, H1, I1, r1, q1⟩ => ?_)
  exact thn (hr pos pins s1 σ H1 _ I1 q1) fun us s2 ⟨xs, H2, I2, r2, q2⟩ => ⟨x :: xs, H2, I2, .cons r1 r2, q2⟩

/-- a tuple, a list of written items -/
def tTup (t : TA) : TE := fun σ H Q => t σ H fun xs H1 => xs.length ≤ sizeLine ∧ ∀ p, H1 p = none → Q (.ref p) (upd H1 p (.tup xs))
def tLst (t : TA) : TE := fun σ H Q => t σ H fun xs H1 => xs.length ≤ sizeLine ∧ ∀ p, H1 p = none → Q (.ref p) (upd H1 p (.lst xs))
theorem pe_tup {x1} (h : PA X es t) : PE X (.Tuple es x1 pos) (tTup t) := by
  intro pins s σ H Q I hq
  refine wpAny_Tuple_spliced (thn (h pos pins s σ H _ I hq) fun us s1 ⟨xs, H1, I1, r, z, q⟩ => ⟨by rw [← r.length]; exact z, ?_⟩)
  have hf : H1 s1.heap.objs.size = none := I1.hok.fresh (Nat.le_refl _)
  refine ⟨.ref s1.heap.objs.size, upd H1 s1.heap.objs.size (.tup xs), I1.laid (t' := s1.toks) (fun b u e => Heap.get?_push_of_some _ e) (Nat.le_refl _) ?_, rfl, q _ hf⟩
  exact ⟨z, us, r, ⟨_, Heap.get?_push_size _ rfl, rfl, _, rfl⟩⟩
theorem pe_lst (h : PA X es t) : PE X (.List es pos) (tLst t) := by
  intro pins s σ H Q I hq
  refine wpAny_List_spliced (thn (h pos pins s σ H _ I hq) fun us s1 ⟨xs, H1, I1, r, z, q⟩ => ⟨by rw [← r.length]; exact z, ?_⟩)
  have hf : H1 s1.heap.objs.size = none := I1.hok.fresh (Nat.le_refl _)
  refine ⟨.ref s1.heap.objs.size, upd H1 s1.heap.objs.size (.lst xs), I1.laid (t' := s1.toks) (fun b u e => Heap.get?_push_of_some _ e) (Nat.le_refl _) ?_, rfl, q _ hf⟩
  exact ⟨z, us, 0, r, Heap.get?_push_size _ rfl⟩
end

/-! ### what a def promises -/
/-- a def's promise: the bound arguments in the parameters' order, the heap, the wanted end, the wanted exception -/
abbrev Sp := List V → Hp → VK → XK → Prop
/-- how an exception lies behind a call (file 08 gives it): the callers' frames, abstract heap and state ahead of the call, the wish, the exception, the state -/
abbrev CXT := List Env → Hp → Shared → XK → Value → Shared → Prop

/-- the state at a call -/
structure Env0 (P : Program) (w : World) (K : PySem.W.Frag) (mg : Str → Option Value) (base : Heap) (A : Around) (outer : List Env) (s : Shared) (H : Hp) : Prop where
  frames : A.frames = some outer
  mod : Mod K mg base
  bs : ∀ b o, base.get? b = some o → s.heap.get? b = some o ∧ H b = none
  bsz : base.objs.size ≤ s.heap.objs.size
  funs : s.heap.FunFrames base outer
  frf : ∀ b ∈ frs outer, H b = none
  hok : HOk P w H s.heap
  bare : AllBare s.gens
/-- a call's end -/
def CE (outer : List Env) (P : Program) (w : World) (H : Hp) (s : Shared) (Q : VK) (u : Value) (s' : Shared) : Prop :=
  ∃ v H', s'.os = s.os ∧ AllBare s'.gens ∧ Un (frs outer) [] H H' s.heap s'.heap ∧ HOk P w H' s'.heap ∧ RelV v u ∧ Q v H'
def CR (CX : CXT) (outer : List Env) (P : Program) (w : World) (H : Hp) (s : Shared) (Q : VK) (E : XK) (r : Result) (s' : Shared) : Prop :=
  match r with
  | .ok (.ret u) => CE outer P w H s Q u s'
  | .ok _ => False
  | .error e => CX outer H s E e s'
structure FnOk (P : Program) (w : World) (K : PySem.W.Frag) (mg : Str → Option Value) (base : Heap) (CX : CXT) (k : Nat) (f : Addr) (fd : FuncData) (ps : List Str) (sp : Sp) : Prop where
  len : ∀ vs H Q E, sp vs H Q E → vs.length = ps.length
  run : ∀ (A : Around) (outer : List Env) (s : Shared) (H : Hp) (args : Args) (us : List Value) (vs : List V) (Q : VK) (E : XK), Room k A → Env0 P w K mg base A outer s H → BindsTo s fd args (ps.zip us) → Vals vs us → sp vs H Q E →
    codeAny (model P w) A (.call (.ref f) args) (CR CX outer P w H s Q E) s
theorem FnOk.mono {P : Program} {w : World} {K : PySem.W.Frag} {mg : Str → Option Value} {base : Heap} {CX : CXT} {j k : Nat} {f : Addr} {fd : FuncData} {ps : List Str} {sp : Sp} (F : FnOk P w K mg base CX j f fd ps sp) (h : j ≤ k) :
    FnOk P w K mg base CX k f fd ps sp := ⟨F.len, fun A outer s H args us vs Q E hr => F.run A outer s H args us vs Q E (hr.mono h)⟩
/-- a weaker promise -/
theorem FnOk.imp {P : Program} {w : World} {K : PySem.W.Frag} {mg : Str → Option Value} {base : Heap} {CX : CXT} {k : Nat} {f : Addr} {fd : FuncData} {ps : List Str} {sp sp' : Sp} (F : FnOk P w K mg base CX k f fd ps sp)
    (h : ∀ vs H Q E, sp' vs H Q E → sp vs H Q E) : FnOk P w K mg base CX k f fd ps sp' :=
  ⟨fun vs H Q E q => F.len vs H Q E (h _ _ _ _ q), fun A outer s H args us vs Q E hr he hb hv hs => F.run A outer s H args us vs Q E hr he hb hv (h _ _ _ _ hs)⟩

theorem Env0.in1 {P : Program} {w : World} {K : PySem.W.Frag} {mg : Str → Option Value} {base : Heap} {A : Around} {outer : List Env} {s : Shared} {H : Hp} (e : Env0 P w K mg base A outer s H) :
    Env0 P w K mg base A.in1 outer s H := ⟨e.frames, e.mod, e.bs, e.bsz, e.funs, e.frf, e.hok, e.bare⟩

section
variable {X : Cx} {pins : List (Addr × Obj)} {σ : St} {H : Hp} {s s' : Shared}
/-- from a body: what a callee wants -/
theorem Inv.env0 (I : Inv X pins σ H s) : Env0 X.prog X.w X.K X.mg X.base X.A X.stack s H :=
  ⟨I.ok.frames, I.ok.mod, I.bs, Nat.le_trans I.ok.bsz I.sz, I.stack, I.stkFree, I.hok, I.bare⟩
/-- behind a call -/
theorem Inv.after {Q : VK} {u : Value} (I : Inv X pins σ H s) (h : CE X.stack X.prog X.w H s Q u s') : EP X pins σ Q u s' := by
  obtain ⟨v, H', os, bare, un, hok, r, q⟩ := h
  obtain ⟨hh, g, d, t, os'⟩ := s'
  obtain rfl : os' = s.os := os
  exact ⟨v, H', I.call (h' := hh) (g' := g) (d' := d) (t' := t) (ch := []) un hok bare (fun b z => absurd z (by simp)), r, q⟩
end

/-! ### calls -/
/-- f(..): the written arguments, then the defaults dvs; E: what is wanted of an exception -/
def tCall (sp : Sp) (dvs : List V) (E : XK) (t : TA) : TE := fun σ H Q => t σ H fun vs H1 => sp (vs ++ dvs) H1 Q E
/-- o.m(..) of an instance of the class at C -/
def tMeth (C : Addr) (m : Str) (sp : Sp) (dvs : List V) (E : XK) (ta : TE) (t : TA) : TE := fun σ H Q => ta σ H fun x H1 => ∃ a dx fs, x = .ref a ∧ H1 a = some (.ins C dx fs) ∧ fs.lookup m = none ∧
  t σ H1 fun vs H2 => sp (x :: (vs ++ dvs)) H2 Q E
/-- C(..): a new instance and its dict, then __init__ -/
def tMake (C : Addr) (sp : Sp) (dvs : List V) (E : XK) (t : TA) : TE := fun σ H Q => t σ H fun vs H1 => ∀ x dx, H1 x = none → H1 dx = none → dx ≠ x →
  sp (.ref x :: (vs ++ dvs)) (upd (upd H1 dx (.own x)) x (.ins C dx [])) (fun v H2 => v = .non ∧ Q (.ref x) H2) E

/-- how the parameters are bound: us the positional arguments, kw the keywords' values by name, ds the defaults that fill up -/
def Binds (K : PySem.W.Frag) (fd : FuncData) (ps : List Str) (ds : List Value) : Prop :=
  ∀ (s : Shared) (us : List Value), K.In s.heap → (us ++ ds).length = ps.length → BindsTo s fd ⟨us, []⟩ (ps.zip (us ++ ds))
/-- every parameter is given -/
theorem Binds.all {K : PySem.W.Frag} {fd : FuncData} {ps : List Str} (h : ∀ us : List Value, us.length = ps.length → bindArgs fd ⟨us, []⟩ = pure (ps.zip us)) : Binds K fd ps [] := fun s us _ hl => by
  rw [List.append_nil] at hl ⊢
  exact .of_eq (h us hl)

/-- an exception of a callee reaches what this body wants of exceptions -/
def Passes (CX : CXT) (X : Cx) (E : XK) : Prop := ∀ (pins : List (Addr × Obj)) (σ : St) (H : Hp) (s : Shared) (e : Value) (s' : Shared), Inv X pins σ H s → CX X.stack H s E e s' → X.xe e s'

section
variable {X : Cx} {CX : CXT} {k : Nat} {f C : Addr} {fd : FuncData} {ps : List Str} {sp : Sp} {dvs : List V} {ds : List Value} {E : XK} {x m : Str} {p pos apos : Pos} {e o : Expr} {es : List Expr} {ta : TE} {t : TA}

/-- the callee runs -/
theorem run_fn {pins : List (Addr × Obj)} {σ : St} {H : Hp} {s : Shared} {Q : VK} {us : List Value} {vs : List V} (F : FnOk X.prog X.w X.K X.mg X.base CX k f fd ps sp) (hr : Room k X.A) (hb : Binds X.K fd ps ds) (hd : Vals dvs ds) (hx : Passes CX X E)
    (I : Inv X pins σ H s) (r : Vals vs us) (h : sp (vs ++ dvs) H Q E) : wpAny (model X.prog X.w) X.A (call (.ref f) us) (EP X pins σ Q) X.xe s := by
  have r2 : Vals (vs ++ dvs) (us ++ ds) := r.append hd
  have hl : (us ++ ds).length = ps.length := by rw [← r2.length]; exact F.len _ _ _ _ h
  refine wpAny_call (codeAny_mono (F.run X.A X.stack s H ⟨us, []⟩ (us ++ ds) (vs ++ dvs) Q E hr I.env0 (hb s us I.kIn hl) r2 h) fun r s' hq => ?_)
  cases r with
  | error e => exact hx pins σ H s e s' I hq
  | ok fl =>
    cases fl with
    | ret u => exact I.after hq
    | next => exact False.elim hq
    | brk => exact False.elim hq
    | cont => exact False.elim hq

theorem pe_call (F : FnOk X.prog X.w X.K X.mg X.base CX k f fd ps sp) (hr : Room k X.A) (hg : Gl X x) (hm : X.mg x = some (.ref f)) (hk : PySem.W.keepIn X.K (.ref f) = true) (hb : Binds X.K fd ps ds) (hd : Vals dvs ds) (hx : Passes CX X E)
    (ha : PA X (e :: es) t) (hdb : (x == ("__debug__" : Str)) = false := by decide) (he : starEach (e :: es) X.env = (false, eval e X.env) :: starEach es X.env := by rfl) (hpl : (backTo pos (starEach es X.env)).any (·.1) = false := by rfl) :
    PE X (.Call (.Name x p) (e :: es) [] pos) (tCall sp dvs E t) := by
  intro pins s σ H Q I h
  refine wpAny_Call_Name_kw (ld_glob I hg hm ?_ hdb)
  refine PySem.W.callWith_K (h₀ := X.base) I.ok.mod.kin hk (thn (ha pos pins s σ H _ I h) fun us s1 ⟨vs, H1, I1, r, q⟩ => ⟨I1.kIn, ?_⟩) he hpl
  exact run_fn F hr hb hd hx I1 r q
/-- what a class must have to be made -/
structure Mk (K : PySem.W.Frag) (C f : Addr) : Prop where
  makes : PySem.W.makesIn K C = true
  init : PySem.W.findIn K (.ref C) "__init__" = some (some (.ref f))
  fn : PySem.W.isFn K (.ref f) = true
  kp : PySem.W.keepIn K (.ref C) = true

end

/-! ### keywords -/
/-- the values of the keywords, from the left -/
def PK (X : Cx) (kws : List Keyword) (t : TA) : Prop :=
  ∀ (pos : Pos) (pins : List (Addr × Obj)) (s : Shared) (σ : St) (H : Hp) (Q : List V → Hp → Prop), Inv X pins σ H s → t σ H Q → wpAny (model X.prog X.w) X.A (evalAll ((backToKw pos (keywordEach kws X.env)).map (·.2))) (AP X pins σ Q) X.xe s
section
variable {X : Cx} {CX : CXT} {k : Nat} {f C : Addr} {fd : FuncData} {ps ks : List Str} {sp : Sp} {E : XK} {x m : Str} {p pos apos kpos : Pos} {e o : Expr} {es : List Expr} {kws : List Keyword} {te ta : TE} {t tk : TA} {nm : Option Str}
/-- how a call with keywords binds: g puts the positional values us and the keywords' values ws (names ks) in the parameters' order, defaults among them -/
structure KBinds (K : PySem.W.Frag) (fd : FuncData) (ps ks : List Str) (g : List Value → List Value → List Value) (gV : List V → List V → List V) : Prop where
  to : ∀ (s : Shared) (us ws : List Value), K.In s.heap → (g us ws).length = ps.length → BindsTo s fd ⟨us, ks.zip ws⟩ (ps.zip (g us ws))
  rel : ∀ {vs : List V} {us : List Value} {zs : List V} {ws : List Value}, Vals vs us → Vals zs ws → Vals (gV vs zs) (g us ws)
def tCallK (sp : Sp) (gV : List V → List V → List V) (E : XK) (t tk : TA) : TE := fun σ H Q => t σ H fun vs H1 => tk σ H1 fun zs H2 => sp (gV vs zs) H2 Q E
variable {g : List Value → List Value → List Value} {gV : List V → List V → List V}
end

/-! ### a def's body keeps its promise -/
/-- names: the parameters first -/
structure FnScope (N P : List Str) (sc : Scope) : Prop where
  kind : sc.kind = .function
  co : sc.isCoroutine = false
  gen : sc.isGenerator = false
  nd : N.Nodup
  pre : N.take P.length = P
  par : ∀ x ∈ P, sc.names.lookup x = some .local ∨ sc.names.lookup x = some .cell
  nofree : ∀ y ∈ sc.names, y.2 ≠ .free

theorem bindL_out {kindOf : Str → Option NameKind} {x : Str} : ∀ {binds : List (Str × Value)} {m : Str → Option Value}, (∀ v, (x, v) ∉ binds) → bindL kindOf binds m x = m x
  | [], _, _ => rfl
  | (n, v) :: r, m, h => by
    unfold bindL
    rw [bindL_out fun w hw => h w (List.mem_cons_of_mem _ hw)]
    split
    · have : x ≠ n := by rintro rfl; exact h v List.mem_cons_self
      simp [this]
    · rfl
theorem bindC_out {kindOf : Str → Option NameKind} {x : Str} : ∀ {binds : List (Str × Value)} {m : Str → Option Value}, (∀ v, (x, v) ∉ binds) → bindC kindOf binds m x = m x
  | [], _, _ => rfl
  | (n, v) :: r, m, h => by
    unfold bindC
    rw [bindC_out fun w hw => h w (List.mem_cons_of_mem _ hw)]
    split
    · rfl
    · have : x ≠ n := by rintro rfl; exact h v List.mem_cons_self
      simp [this]
theorem bindL_get {kindOf : Str → Option NameKind} {x : Str} {v : Value} : ∀ {P : List Str} {vs : List Value} {i : Nat} {m : Str → Option Value}, P.Nodup → P[i]? = some x → vs[i]? = some v → kindOf x = some .local →
    bindL kindOf (P.zip vs) m x = some v
  | [], _, _, _, _, h, _, _ => by simp at h
  | _ :: _, [], _, _, _, _, h, _ => by simp at h
  | p :: P, w :: vs, 0, m, nd, h1, h2, hk => by
    simp at h1 h2; subst h1; subst h2
    show bindL kindOf ((p, w) :: P.zip vs) m p = _
    unfold bindL
    rw [bindL_out fun v hv => (List.nodup_cons.mp nd).1 (List.of_mem_zip hv).1, if_pos hk]
    simp
  | p :: P, w :: vs, i + 1, m, nd, h1, h2, hk => by
    show bindL kindOf ((p, w) :: P.zip vs) m x = _
    unfold bindL
    exact bindL_get (i := i) (List.nodup_cons.mp nd).2 (by simpa using h1) (by simpa using h2) hk
theorem bindC_get {kindOf : Str → Option NameKind} {x : Str} {v : Value} : ∀ {P : List Str} {vs : List Value} {i : Nat} {m : Str → Option Value}, P.Nodup → P[i]? = some x → vs[i]? = some v → kindOf x ≠ some .local →
    bindC kindOf (P.zip vs) m x = some v
  | [], _, _, _, _, h, _, _ => by simp at h
  | _ :: _, [], _, _, _, _, h, _ => by simp at h
  | p :: P, w :: vs, 0, m, nd, h1, h2, hk => by
    simp at h1 h2; subst h1; subst h2
    show bindC kindOf ((p, w) :: P.zip vs) m p = _
    unfold bindC
    rw [bindC_out fun v hv => (List.nodup_cons.mp nd).1 (List.of_mem_zip hv).1, if_neg hk]
    simp
  | p :: P, w :: vs, i + 1, m, nd, h1, h2, hk => by
    show bindC kindOf ((p, w) :: P.zip vs) m x = _
    unfold bindC
    exact bindC_get (i := i) (List.nodup_cons.mp nd).2 (by simpa using h1) (by simpa using h2) hk

/-- the names' values at the entry -/
def start (N : List Str) (vs : List V) : St := vs.map some ++ List.replicate (N.length - vs.length) none

/-- the context of a def's body, at its entry; an exception leaves the frame, then lies as CX says -/
def cxOf (CX : CXT) (P : Program) (w : World) (K : PySem.W.Frag) (mg : Str → Option Value) (base : Heap) (N : List Str) (qual : Str) (scope : Scope) (f : Addr) (cd : Value) (A : Around) (outer : List Env) (s : Shared) (H : Hp) (E : XK) : Cx where
  prog := P
  w := w
  K := K
  mg := mg
  base := base
  A := A.deeper (envOfC qual scope s.heap.objs.size f cd)
  N := N
  s₀ := s
  H₀ := H
  env := envOfC qual scope s.heap.objs.size f cd
  outer := outer
  stack := envOfC qual scope s.heap.objs.size f cd :: outer
  ex := []
  calm := true
  fn := fun _ => true
  pn := []
  xe := fun e s' => wpAny (model P w) (A.deeper (envOfC qual scope s.heap.objs.size f cd)) (leaving (envOfC qual scope s.heap.objs.size f cd) e) (fun _ s'' => CX outer H s E e s'') (fun e' s'' => CX outer H s E e' s'') s'

theorem cell_has {sc : Scope} {n : Nat} {x : Str} (h : sc.names.lookup x = some .cell) : ∃ c, (cellsFrom n sc.names []).lookup x = some c := by
  have q := PySem.W.cellsFrom_some sc.names n [] (.inl h)
  exact Option.isSome_iff_exists.mp q

theorem inv_start {CX : CXT} {P : Program} {w : World} {K : PySem.W.Frag} {mg : Str → Option Value} {base : Heap} {N ps : List Str} {qual : Str} {scope : Scope} {f : Addr} {cd : Value} {A : Around} {outer : List Env} {s s1 : Shared} {H : Hp} {E : XK} {us : List Value} {vs : List V}
    (S : FnScope N ps scope) (hd : A.handled = none) (e0 : Env0 P w K mg base A outer s H) (hl : vs.length = ps.length) (r : Vals vs us)
    (x : InCallC s s.heap.objs.size (bindL (envOfC qual scope s.heap.objs.size f cd).kindOf (ps.zip us) fun _ => none) (cellsFrom (s.heap.objs.size + 1) scope.names []) (bindC (envOfC qual scope s.heap.objs.size f cd).kindOf (ps.zip us) fun _ => none) s1) :
    Inv (cxOf CX P w K mg base N qual scope f cd A outer s H E) [] (start N vs) H s1 := by
  have hpl : ps.length ≤ N.length := by have := congrArg List.length S.pre; rw [List.length_take] at this; omega
  obtain ⟨h1, tk, rfl, hk⟩ := x.done
  have noA : ∀ b : Addr, b ∉ (cxOf CX P w K mg base N qual scope f cd A outer s H E).ex := fun b z => absurd (show b ∈ ([] : List Addr) from z) (by simp)
  refine ⟨⟨e0.mod, S.kind, rfl, rfl, Nat.le_refl _, fun y z c h1 h2 => ?_, fun y hy => ?_, fun y c _ h => ?_, fun _ => hd, Around.frames_deeper e0.frames, .inr ⟨rfl, rfl⟩, fun b z => absurd z (noA b), e0.bs, e0.bsz, fun b _ _ => noA b, fun b z => absurd z (noA b), e0.funs, e0.frf⟩,
    rfl, e0.bare, Un.kept hk, ⟨_, x.toInCall.ns, fun i y v h1 h2 h3 => ?_⟩, fun y c h => ⟨_, x.cell y c h⟩, e0.hok.fresh (Nat.le_refl _), fun y c h => ?_, fun p hp => absurd (show p ∈ ([] : List (Addr × Obj)) from hp) (by simp), e0.hok.kept hk, ?_⟩
  · exact name_of_addr x.apart (PySem.mem_of_lookup h1) (PySem.mem_of_lookup h2)
  · have hy : scope.names.lookup y = some .cell ∨ scope.names.lookup y = some .free := hy
    rcases hy with hy | hy
    · exact cell_has hy
    · exact absurd rfl (S.nofree _ (PySem.mem_of_lookup hy))
  · exact Nat.le_of_lt (x.above y c (PySem.mem_of_lookup h))
  · have hi : i < vs.length := by
      unfold start at h2
      by_cases hi : i < vs.length
      · exact hi
      · rw [List.getElem?_append_right (by simpa using hi)] at h2
        rw [List.getElem?_replicate] at h2
        split at h2 <;> cases h2
    have ha : vs[i]? = some v := by
      unfold start at h2
      rw [List.getElem?_append_left (by simpa using hi), List.getElem?_map] at h2
      cases e : vs[i]? with
      | none => rw [e] at h2; cases h2
      | some a => rw [e] at h2; cases h2; rfl
    obtain ⟨u, hu, rv⟩ := r.get ha
    have hp : ps[i]? = some y := by
      rw [← S.pre, List.getElem?_take_of_lt (by omega)]; exact h1
    have ndP : ps.Nodup := by rw [← S.pre]; exact S.nd.sublist (List.take_sublist _ _)
    refine ⟨u, rv, ?_⟩
    rcases S.par y (List.mem_of_getElem? hp) with k | k
    · exact .inl ⟨k, bindL_get ndP hp hu k⟩
    · obtain ⟨c, e⟩ := cell_has (n := s.heap.objs.size + 1) k
      refine .inr ⟨.inl k, c, e, ?_⟩
      have q := x.cell y c e
      rw [bindC_get ndP hp hu (by show scope.names.lookup y ≠ _; rw [k]; decide)] at q
      exact q
  · exact e0.hok.fresh (Nat.le_of_lt (x.above y c (PySem.mem_of_lookup h)))
  · unfold start
    show _ = N.length
    rw [List.length_append, List.length_map, List.length_replicate]
    omega

/-- THE RULE: a def (or a method) of the text, by its body. The body's reading t is chosen for each entry; it is run at the parameters' values -/
theorem fn_of {CX : CXT} {P : Program} {w : World} {K : PySem.W.Frag} {mg : Str → Option Value} {base : Heap} {k : Nat} {f : Addr} {name qual : Str} {params : Arguments} {body : List Stmt} {scope : Scope} {dV kV doc pm cdv ct oc : Value} {an od : Option Addr}
    {osl : Array (Option Value)} {N ps : List Str} {sp : Sp} (lk : K.lookup f = some ⟨oc, od, .func (PySem.W.fnOf name qual params body scope dV kV doc pm an cdv ct), osl⟩) (hcd : PySem.W.codeIn K cdv qual = true) (S : FnScope N ps scope)
    (len : ∀ vs H Q E, sp vs H Q E → vs.length = ps.length)
    (hbody : ∀ (A : Around) (outer : List Env) (s : Shared) (H : Hp) (vs : List V) (Q : VK) (E : XK), Room k (A.deeper (envOfC qual scope s.heap.objs.size f cdv)) → sp vs H Q E →
      ∃ t, PSs (cxOf CX P w K mg base N qual scope f cdv A outer s H E) body t ∧ t { nx := fun _ H' => Q .non H', rt := Q } (start N vs) H) :
    FnOk P w K mg base CX (k + 1) f (PySem.W.fnOf name qual params body scope dV kV doc pm an cdv ct) ps sp := by
  refine ⟨len, fun A outer s H args us vs Q E hr e0 hb r hsp => ?_⟩
  have hl := len _ _ _ _ hsp
  have KX : K.In s.heap := e0.mod.kin.keeps fun b o e => (e0.bs b o e).1
  have lim : s.heap.NoLimit := e0.mod.nolimit.keeps fun b o e => (e0.bs b o e).1
  have hkind : ∀ y ∈ ps.zip us, scope.names.lookup y.1 = some .local ∨ (scope.names.lookup y.1 = some .cell ∧ ((cellsFrom (s.heap.objs.size + 1) scope.names []).lookup y.1).isSome = true) := fun ⟨n, v⟩ hy => by
    rcases S.par n (List.of_mem_zip hy).1 with q | q
    · exact .inl q
    · exact .inr ⟨q, PySem.W.cellsFrom_some _ _ _ (.inl q)⟩
  refine codeAny_call_function hr.depth (KX _ _ lk) rfl S.co S.gen rfl (PySem.W.codeRec_of KX hcd) (hb _ _ _ _ ?_)
  refine wpAny_newFunctionEnv_cells S.kind hkind fun env he s1 x => ?_
  subst he
  refine ⟨lim.keeps x.toInCall.keep, codeAny_func ?_⟩
  obtain ⟨t, ht, hq⟩ := hbody A outer s H vs Q E (hr.deeper _) hsp
  have I : Inv (cxOf CX P w K mg base N qual scope f cdv A outer s H E) [] (start N vs) H s1 := inv_start S hr.hd e0 hl r x
  refine wpAny_mono (ht [] s1 (start N vs) H _ I hq) (fun fl s' hs => ?_) fun e s' hs => hs
  have fin : ∀ {σ' : St} {H' : Hp} {v : V} {u : Value}, Inv (cxOf CX P w K mg base N qual scope f cdv A outer s H E) [] σ' H' s' → RelV v u → Q v H' → CE outer P w H s Q u s' :=
    fun {σ' H' v u} J rv q => ⟨v, H', J.os, J.bare, J.base, J.hok, rv, q⟩
  cases fl with
  | ret u =>
    obtain ⟨v, σ', H', J, rv, q⟩ := hs
    exact fin J rv q
  | next =>
    obtain ⟨σ', H', J, q⟩ := hs
    exact fin (v := V.non) (u := Value.none) J rfl q
  | brk =>
    obtain ⟨_, _, _, q⟩ := hs
    exact False.elim q
  | cont =>
    obtain ⟨_, _, _, q⟩ := hs
    exact False.elim q
end L2

namespace L2
open PySem PySem.Spec PyProof.Rows
section
variable {X : Cx} {x : Str} {p pos : Pos} {e : Expr} {es : List Expr} {t : TA} {id T : String} {r : List V → Hp → VK → Prop}

def tCB (r : List V → Hp → VK → Prop) (t : TA) : TE := fun σ H Q => t σ H fun vs H1 => r vs H1 Q
/-- f(e, ..), f a built-in function -/
theorem pe_callB (hc : CallR X (.builtin id) r) (hg : Gl X x) (hm : X.mg x = none) (hv : bootBuiltins x = some (.builtin id)) (ha : PA X (e :: es) t) (hn : x ≠ "__name__" := by decide) (hdb : (x == ("__debug__" : Str)) = false := by decide)
    (he : starEach (e :: es) X.env = (false, eval e X.env) :: starEach es X.env := by rfl) (hpl : (backTo pos (starEach es X.env)).any (·.1) = false := by rfl) : PE X (.Call (.Name x p) (e :: es) [] pos) (tCB r t) := by
  intro pins s σ H Q I h
  refine wpAny_Call_Name_kw (ld_blt I hg hm hv ?_ hn hdb)
  exact PyProof.Rows.callWith_builtin1 (thn (ha pos pins s σ H _ I h) fun us s1 ⟨vs, H1, I1, r1, q1⟩ => hc pins s1 σ H1 vs us Q I1 r1 q1) he hpl
/-- T(e, ..), T a built-in type -/
theorem pe_callTy (hc : CallR X (.type T) r) (hg : Gl X x) (hm : X.mg x = none) (hv : bootBuiltins x = some (.type T)) (ha : PA X (e :: es) t) (hn : x ≠ "__name__" := by decide) (hdb : (x == ("__debug__" : Str)) = false := by decide)
    (he : starEach (e :: es) X.env = (false, eval e X.env) :: starEach es X.env := by rfl) (hpl : (backTo pos (starEach es X.env)).any (·.1) = false := by rfl) : PE X (.Call (.Name x p) (e :: es) [] pos) (tCB r t) := by
  intro pins s σ H Q I h
  refine wpAny_Call_Name_kw (ld_blt I hg hm hv ?_ hn hdb)
  exact PyProof.Rows.callWith_type1 (thn (ha pos pins s σ H _ I h) fun us s1 ⟨vs, H1, I1, r1, q1⟩ => hc pins s1 σ H1 vs us Q I1 r1 q1) he hpl
end
end L2

namespace HT
open PySem PyProof.Rows

/-- t < u of tuples of ints -/
def lexLt : List Int → List Int → Bool
  | [], [] => false
  | [], _ :: _ => true
  | _ :: _, [] => false
  | x :: xs, y :: ys => if x = y then lexLt xs ys else decide (x < y)
section
open PySem.SeqAt
open PySem.AutoSeq1 (wpAny_loadPart')
open PySem.MeetsSeq PySem.MeetsSeq2 PySem.MeetsSeq3

end

section
variable {prog : Program} {w : World} {A : Around} {E : Value → Shared → Prop} {s : Shared}

/-! ### t[a:b], not the whole -/
/-- a slice's bound as a place among n (d where it is left out) -/
def sIx (n d : Nat) : Option Int → Nat
  | none => d
  | some v => if v < 0 then (v + (n : Int)).toNat else min v.toNat n
theorem sIx_le (n d : Nat) (hd : d ≤ n) (o : Option Int) : sIx n d o ≤ n := by
  cases o with
  | none => exact hd
  | some v =>
    show (if v < 0 then (v + (n : Int)).toNat else min v.toNat n) ≤ n
    by_cases hv : v < 0
    · rw [if_pos hv]; omega
    · rw [if_neg hv]; exact Nat.min_le_right _ _
theorem clip_eq (v : Int) (n d : Nat) : (if v < 0 then max (v + (n : Int)) 0 else min v (n : Int)) = ((sIx n d (some v) : Nat) : Int) := by
  show (if v < 0 then max (v + (n : Int)) 0 else min v (n : Int)) = (((if v < 0 then (v + (n : Int)).toNat else min v.toNat n) : Nat) : Int)
  by_cases hv : v < 0
  · simp only [if_pos hv]; omega
  · simp only [if_neg hv]; omega
theorem adjust_gen (lo hi : Option Int) (n : Nat) : Builtin.Slice.sliceAdjust lo hi 1 (n : Int) = (((sIx n 0 lo : Nat) : Int), ((sIx n n hi : Nat) : Int)) := by
  have h1 : ¬ ((1 : Int) < 0) := by omega
  unfold Builtin.Slice.sliceAdjust
  simp only [h1, if_false]
  refine Prod.ext ?_ ?_
  · cases lo with
    | none => rfl
    | some v => exact clip_eq v n 0
  · cases hi with
    | none => rfl
    | some v => exact clip_eq v n n
theorem places_gen (i j : Nat) : Builtin.Slice.slicePlaces (i : Int) (j : Int) 1 = j - i := by
  unfold Builtin.Slice.slicePlaces
  have h1 : (1 : Int) > 0 := by omega
  simp only [h1, if_true, Int.ediv_one]
  split <;> omega
theorem slicePart_ {v : Value} {o : Option Int} {Q : Option Int → Shared → Prop} (p : IsPart v o) (h : Q o s) : wpAny (model prog w) A (Builtin.Slice.slicePartIndex v) Q E s := by
  cases p with
  | none => exact slicePart_none h
  | int i t => exact slicePart_int h
theorem sliceApplied_gen {sl : Addr} {vl vu : Value} {lo hi : Option Int} {n : Nat} {Q : Int × Int × Nat → Shared → Prop} (hs : s.heap.IsSliceOf sl vl vu .none) (pl : IsPart vl lo) (pu : IsPart vu hi)
    (h : Q (((sIx n 0 lo : Nat) : Int), 1, sIx n n hi - sIx n 0 lo) s) : wpAny (model prog w) A (Builtin.Slice.sliceApplied (.ref sl) (pure (n : Int))) Q E s := by
  obtain ⟨os, hos, hcs, hds⟩ := id hs
  unfold Builtin.Slice.sliceApplied Builtin.Slice.sliceFields
  refine wpAny_bind (wpAny_bind (wpAny_field hos hds (x := vl) rfl (wpAny_bind (wpAny_field hos hds (x := vu) rfl (wpAny_bind (wpAny_field hos hds (x := .none) rfl (wpAny_pure ?_)))))))
  refine wpAny_bind (slicePart_none ?_)
  show wpAny _ _ (if ((1 : Int) == 0) = true then _ else _) _ _ s
  rw [if_neg (by decide)]
  refine wpAny_bind (slicePart_ pl (wpAny_bind (slicePart_ pu (wpAny_bind (wpAny_pure ?_)))))
  show wpAny _ _ (match Builtin.Slice.sliceAdjust lo hi 1 (n : Int) with | (lo, hi) => pure (lo, (1 : Int), Builtin.Slice.slicePlaces lo hi 1)) _ _ s
  rw [adjust_gen lo hi n]
  show wpAny _ _ (pure (((sIx n 0 lo : Nat) : Int), (1 : Int), Builtin.Slice.slicePlaces ((sIx n 0 lo : Nat) : Int) ((sIx n n hi : Nat) : Int) 1)) _ _ s
  rw [places_gen]
  exact wpAny_pure h
theorem pick_gen (xs : Array Value) (i k : Nat) : ((List.range k).filterMap fun (m : Nat) => xs[((i : Int) + (m : Int) * 1).toNat]?).toArray = ((xs.toList.drop i).take k).toArray := by
  have e : (fun (m : Nat) => xs[((i : Int) + (m : Int) * 1).toNat]?) = fun m => xs[i + m]? := by
    funext m
    have : ((i : Int) + (m : Int) * 1).toNat = i + m := by omega
    rw [this]
  rw [e]
  have := pick_run xs i k
  rw [List.filterMap_map] at this
  have e2 : ((fun x => xs[x]?) ∘ fun x => i + x) = fun m => xs[i + m]? := rfl
  rw [e2] at this
  rw [this]

theorem getItem_tuple_cut {t sl : Addr} {items : Array Value} {vl vu : Value} {lo hi : Option Int} {Q : Value → Shared → Prop} (ht : IsTup s.heap t items) (hs : s.heap.IsSliceOf sl vl vu .none) (pl : IsPart vl lo) (pu : IsPart vu hi)
    (hw : ¬ (sIx items.size 0 lo = 0 ∧ sIx items.size items.size hi = items.size))
    (h : Q (.ref s.heap.objs.size) { s with heap := s.heap.push { cls := .type "tuple", data := .seq ((items.toList.drop (sIx items.size 0 lo)).take (sIx items.size items.size hi - sIx items.size 0 lo)).toArray } })
    (hsz : items.size ≤ sizeLine) : wpAny (model prog w) A (getItem (.ref t) (.ref sl)) Q E s := by
  have htake : sizeOk (.seq ((items.toList.drop (sIx items.size 0 lo)).take (sIx items.size items.size hi - sIx items.size 0 lo)).toArray) := by
    show ((items.toList.drop (sIx items.size 0 lo)).take (sIx items.size items.size hi - sIx items.size 0 lo)).toArray.size ≤ sizeLine
    rw [List.size_toArray, List.length_take, List.length_drop, Array.length_toList]
    omega
  have hj : sIx items.size items.size hi ≤ items.size := sIx_le _ _ (Nat.le_refl _) hi
  obtain ⟨os, hos, hcs, hds⟩ := id hs
  have hTs : s.TypeIs (.ref sl) "slice" := ⟨os, hos, hcs⟩
  unfold getItem
  try with_reducible refine wpAny_holding ?_
  first | refine wpAny_bind (wpAny_pure ?_) | skip
  refine wpAny_bind (wpAny_sequenceKey ht.typeIs (by decide) ?_)
  refine wpAny_bind (wpAny_callSpecial?_slot (name := Str.ofString "__getitem__") ht.typeIs PyProof.Rows.slot_tuple_getitem
    (wpAny_call_entry PyProof.Rows.slot_tuple_getitem ht.typeIs entry_tuple_getitem ?_ (args_tuple_getitem _ _)))
  show wpAny _ _ (Builtin.Tuple.tupleItemsOf (.ref t) >>= _) _ _ s
  refine wpAny_bind (tupleItemsOf_ ht ?_)
  refine wpAny_bind (wpAny_typeOf hTs ?_)
  rw [if_pos (by decide)]
  refine wpAny_bind (sliceApplied_gen hs pl pu ?_)
  have hno : ¬ ((((sIx items.size 0 lo : Nat) : Int) == 0 && (1 : Int) == 1 && (sIx items.size items.size hi - sIx items.size 0 lo) == items.size) = true) := by
    intro q
    rw [Bool.and_eq_true, Bool.and_eq_true] at q
    have q1 : ((sIx items.size 0 lo : Nat) : Int) = 0 := eq_of_beq q.1.1
    have q2 : sIx items.size items.size hi - sIx items.size 0 lo = items.size := eq_of_beq q.2
    exact hw ⟨by omega, by omega⟩
  show wpAny _ _ (if (((sIx items.size 0 lo : Nat) : Int) == 0 && (1 : Int) == 1 && (sIx items.size items.size hi - sIx items.size 0 lo) == items.size) = true then _ else _) _ _ s
  rw [if_neg hno, pick_gen]
  first
    | exact wpAny_bind (m := Builtin.Tuple.tupleExact _) (wpAny_newObj_type (wpAny_pure ⟨_, rfl, wpAny_pure h⟩) htake)
    | exact wpAny_bind (m := Builtin.Tuple.tupleExact _) (wpAny_newObj_type (wpAny_bind (wpAny_pure (wpAny_pure ⟨_, rfl, wpAny_pure h⟩))) htake)
    | exact wpAny_bind (wpAny_bind (m := Builtin.Tuple.tupleExact _) (wpAny_newObj_type (wpAny_pure (wpAny_pure ⟨_, rfl, wpAny_pure h⟩)) htake))
    | exact wpAny_bind (wpAny_bind (m := Builtin.Tuple.tupleExact _) (wpAny_newObj_type (wpAny_pure ⟨_, rfl, wpAny_pure h⟩) htake))
end
end HT

namespace L2
open PySem PySem.Spec PyProof.Rows

/-! ### the parts of a slice -/
abbrev TO := St → Hp → (Option Int → Hp → Prop) → Prop
/-- a slice's part (left out, or an int) -/
def PO (X : Cx) (e : Option Expr) (t : TO) : Prop :=
  ∀ (pins : List (Addr × Obj)) (s : Shared) (σ : St) (H : Hp) (Q : Option Int → Hp → Prop), Inv X pins σ H s → t σ H Q →
    wpAny (model X.prog X.w) X.A (evalPart e X.env) (fun u s' => ∃ o H', Inv X pins σ H' s' ∧ IsPart u o ∧ Q o H') X.xe s
def tNoPart : TO := fun _ H Q => Q none H
def tPart (t : TE) : TO := fun σ H Q => t σ H fun x H1 => ∃ i, x = .int i ∧ Q (some i) H1

theorem intsAre_of {ns : List Int} : ∀ {us : List Value}, Vals (ns.map V.int) us → IntsAre us ns := by
  induction ns with
  | nil => intro us r; rw [List.map_nil] at r; cases r; exact .nil
  | cons n ns ih =>
    intro us r
    rw [List.map_cons] at r
    cases r with
    | cons r1 r2 =>
      obtain ⟨t, e⟩ := r1
      subst e
      exact .cons n t (ih r2)

section
variable {X : Cx} {e : Expr} {te : TE} {lo hi : Option Expr} {tl th : TO} {pos p2 : Pos}

theorem po_none : PO X none tNoPart := by
  intro pins s σ H Q I h
  rw [evalPart_none]
  exact wpAny_pure ⟨none, H, I, .none, h⟩
theorem po_some (h : PE X e te) : PO X (some e) (tPart te) := by
  intro pins s σ H Q I hw
  rw [evalPart_some]
  refine thn (h pins s σ H _ I hw) fun u s1 ⟨x, H1, I1, r1, q1⟩ => ?_
  obtain ⟨i, rfl, q⟩ := q1
  obtain ⟨t, rfl⟩ := r1
  exact ⟨some i, H1, I1, .int i t, q⟩

/-- what a slice of a value is, by values: the slice object stands at sl -/
def SlR (X : Cx) (r : V → Option Int → Option Int → Hp → VK → Prop) : Prop :=
  ∀ (pins : List (Addr × Obj)) (s : Shared) (σ : St) (H : Hp) (x : V) (v vl vu : Value) (lo hi : Option Int) (sl : Addr) (Q : VK), Inv X pins σ H s → RelV x v → s.heap.IsSliceOf sl vl vu .none → IsPart vl lo → IsPart vu hi → r x lo hi H Q →
    ∃ T id, typeLookup (.type T) "__getitem__" = pure (some (.builtin id)) ∧ s.TypeIs v T ∧ wpAny (model X.prog X.w) X.A (getItem v (.ref sl)) (EP X pins σ Q) X.xe s
theorem SlR.or {r r' : V → Option Int → Option Int → Hp → VK → Prop} (h : SlR X r) (h' : SlR X r') : SlR X (fun x lo hi H Q => r x lo hi H Q ∨ r' x lo hi H Q) := by
  intro pins s σ H x v vl vu lo hi sl Q I rx hs pl pu q
  rcases q with q | q
  · exact h pins s σ H x v vl vu lo hi sl Q I rx hs pl pu q
  · exact h' pins s σ H x v vl vu lo hi sl Q I rx hs pl pu q
def tSl (r : V → Option Int → Option Int → Hp → VK → Prop) (te : TE) (tl th : TO) : TE := fun σ H Q => te σ H fun x H1 => tl σ H1 fun l H2 => th σ H2 fun u H3 => r x l u H3 Q
/-- a[lo:hi], any a -/
theorem pe_slice {r : V → Option Int → Option Int → Hp → VK → Prop} (hr : SlR X r) (he : PE X e te) (hl : PO X lo tl) (hu : PO X hi th) : PE X (.Subscript e (.Slice lo hi none p2) pos) (tSl r te tl th) := by
  intro pins s σ H Q I h
  refine Subscript_ (thn (he pins s σ H _ I h) fun v s1 ⟨x, H1, I1, r1, q1⟩ => ?_)
  refine wpAny_Slice (thn (hl pins s1 σ H1 _ I1 q1) fun vl s2 ⟨l, H2, I2, pl, q2⟩ => thn (hu pins s2 σ H2 _ I2 q2) fun vu s3 ⟨u, H3, I3, pu, q3⟩ => ?_)
  rw [evalPart_none]
  refine wpAny_pure ?_
  have I4 : Inv X pins σ H3 { s3 with heap := s3.heap.push { cls := .type "slice", data := .fields #[vl, vu, .none] } } := I3.kept (t' := s3.toks) fun b ob q => Heap.get?_push_of_some _ q
  obtain ⟨T, id, hT, ht, hg⟩ := hr pins { s3 with heap := s3.heap.push { cls := .type "slice", data := .fields #[vl, vu, .none] } } σ H3 x v vl vu l u s3.heap.objs.size Q I4 r1 (Heap.IsSliceOf.new ..) pl pu q3
  show wpAny (model X.prog X.w) X.A (subscriptTail e (.Slice lo hi none p2) v (.ref s3.heap.objs.size)) (EP X pins σ Q) X.xe { s3 with heap := s3.heap.push { cls := .type "slice", data := .fields #[vl, vu, .none] } }
  exact tail_any (ops := [.ref s3.heap.objs.size, v]) ht hT hg (by with_unfolding_all rfl)

/-- the items of xs[lo:hi] -/
def cutV (xs : List V) (lo hi : Option Int) : List V := (xs.drop (HT.sIx xs.length 0 lo)).take (HT.sIx xs.length xs.length hi - HT.sIx xs.length 0 lo)
theorem cutV_length (xs : List V) (lo hi : Option Int) : (cutV xs lo hi).length ≤ xs.length := by
  unfold cutV
  rw [List.length_take, List.length_drop]
  omega
/-- t[lo:hi], not the whole of it (the whole would be t itself) -/
def rSlT (K : PySem.W.Frag) : V → Option Int → Option Int → Hp → VK → Prop := fun x lo hi H Q => ∃ a xs, x = .ref a ∧ SqT K H a xs ∧
  ¬ (HT.sIx xs.length 0 lo = 0 ∧ HT.sIx xs.length xs.length hi = xs.length) ∧ ∀ p, H p = none → Q (.ref p) (upd H p (.tup (cutV xs lo hi)))
theorem sl_tup : SlR X (rSlT X.K) := by
  intro pins s σ H x v vl vu lo hi sl Q I rx hs pl pu h
  obtain ⟨a, xs, rfl, hx, hw, q⟩ := h
  cases rx
  obtain ⟨its, r, ht, hz⟩ := I.tuple hx
  have hlen : its.toArray.size = xs.length := by rw [List.size_toArray]; exact r.length.symm
  refine ⟨"tuple", _, PyProof.Rows.slot_tuple_getitem.lookup, ht.typeIs, ?_⟩
  refine HT.getItem_tuple_cut ht hs pl pu (by rw [hlen]; exact hw) ?_ (by rw [hlen]; exact hz)
  rw [hlen]
  refine ⟨.ref s.heap.objs.size, _, I.laid (t' := s.toks) (o := .tup (cutV xs lo hi)) (fun b ob q => Heap.get?_push_of_some _ q) (Nat.le_refl _) ?_, rfl, q _ (I.hok.fresh (Nat.le_refl _))⟩
  exact ⟨Nat.le_trans (cutV_length xs lo hi) hz, _, (r.drop (HT.sIx xs.length 0 lo)).take (HT.sIx xs.length xs.length hi - HT.sIx xs.length 0 lo), IsTup.new _ _⟩

/-! ### t < u, t + u -/
def rLtT (K : PySem.W.Frag) : R2 := fun x y H Q => ∃ a b ns ms, x = .ref a ∧ y = .ref b ∧ SqT K H a (ns.map V.int) ∧ SqT K H b (ms.map V.int) ∧ Q (.bl (HT.lexLt ns ms)) H
/-- t + u, t not empty: u empty gives t itself -/
def rCatT (K : PySem.W.Frag) : R2 := fun x y H Q => ∃ a b xs ys, x = .ref a ∧ y = .ref b ∧ SqT K H a xs ∧ SqT K H b ys ∧ xs ≠ [] ∧ xs.length + ys.length ≤ sizeLine ∧
  (ys = [] → Q (.ref a) H) ∧ (ys ≠ [] → ∀ p, H p = none → Q (.ref p) (upd H p (.tup (xs ++ ys))))
end
end L2

namespace L2
open PySem PySem.Spec PyProof.Rows

/-! ### places -/
/-- the place that an index of any sign means -/
def ixN (n : Nat) (i : Int) : Option Nat := if 0 ≤ i then (if i < n then some i.toNat else none) else if -(n : Int) ≤ i then some (i + n).toNat else none
def atI {α : Type} (xs : List α) (i : Int) : Option α := (ixN xs.length i).bind fun j => xs[j]?
theorem ixN_seq {n : Nat} {i : Int} {j : Nat} (h : ixN n i = some j) : seqIndex? i n = some j ∧ j < n ∧ -(n : Int) ≤ i ∧ i < n := by
  unfold ixN at h
  by_cases h0 : 0 ≤ i
  · rw [if_pos h0] at h
    by_cases h1 : i < n
    · rw [if_pos h1] at h
      have e : i.toNat = j := Option.some.inj h
      exact ⟨by rw [seqIndex_of h0 h1, e], by omega, by omega, h1⟩
    · rw [if_neg h1] at h; cases h
  · rw [if_neg h0] at h
    by_cases h1 : -(n : Int) ≤ i
    · rw [if_pos h1] at h
      have e : (i + n).toNat = j := Option.some.inj h
      exact ⟨by rw [seqIndex_neg (by omega) h1, e], by omega, h1, by omega⟩
    · rw [if_neg h1] at h; cases h
theorem atI_get {α : Type} {xs : List α} {i : Int} {v : α} (h : atI xs i = some v) : ∃ j, seqIndex? i xs.length = some j ∧ xs[j]? = some v ∧ j < xs.length ∧ -(xs.length : Int) ≤ i ∧ i < xs.length := by
  unfold atI at h
  cases e : ixN xs.length i with
  | none => rw [e] at h; cases h
  | some j =>
    rw [e] at h
    obtain ⟨h1, h2, h3, h4⟩ := ixN_seq e
    exact ⟨j, h1, h, h2, h3, h4⟩
theorem atI_nat {α : Type} {xs : List α} {j : Nat} {v : α} (h : xs[j]? = some v) : atI xs (j : Int) = some v := by
  have hj : j < xs.length := (List.getElem?_eq_some_iff.mp h).1
  have e : ixN xs.length (j : Int) = some j := by
    unfold ixN
    rw [if_pos (by omega), if_pos (by omega)]; simp
  unfold atI; rw [e]; exact h
/-! ### what may be subscripted -/
/-- what stands as an index of a plain subscript -/
def PlainIx (b : Expr) : Prop := ∀ o i, subscripted b false o i = operate [o, i] (getItem o i)
/-- a subscript by values -/
def IxR (X : Cx) (r : R2) : Prop :=
  ∀ (value slice : Expr) (pins : List (Addr × Obj)) (s : Shared) (σ : St) (H : Hp) (x y : V) (v u : Value) (Q : VK), Inv X pins σ H s → RelV x v → RelV y u → r x y H Q →
    subscripted slice false v u = operate [v, u] (getItem v u) → wpAny (model X.prog X.w) X.A (subscriptTail value slice v u) (EP X pins σ Q) X.xe s
/-- a call of a builtin's method by values: the receiver, the arguments -/
def MtR (X : Cx) (id : String) (r : V → List V → Hp → VK → Prop) : Prop :=
  ∀ (pins : List (Addr × Obj)) (s : Shared) (σ : St) (H : Hp) (x : V) (xs : List V) (v : Value) (us : List Value) (Q : VK), Inv X pins σ H s → RelV x v → Vals xs us → r x xs H Q →
    wpAny (model X.prog X.w) X.A (call (.builtin id) (v :: us)) (EP X pins σ Q) X.xe s
section
variable {X : Cx} {a b : Expr} {ta tb : TE} {pos : Pos}
theorem IxR.or {r r' : R2} (h : IxR X r) (h' : IxR X r') : IxR X (fun x y H Q => r x y H Q ∨ r' x y H Q) := by
  intro value slice pins s σ H x y v u Q I rx ry q hs
  rcases q with q | q
  · exact h value slice pins s σ H x y v u Q I rx ry q hs
  · exact h' value slice pins s σ H x y v u Q I rx ry q hs
theorem MtR.or {id : String} {r r' : V → List V → Hp → VK → Prop} (h : MtR X id r) (h' : MtR X id r') : MtR X id (fun x xs H Q => r x xs H Q ∨ r' x xs H Q) := by
  intro pins s σ H x xs v us Q I rx rs q
  rcases q with q | q
  · exact h pins s σ H x xs v us Q I rx rs q
  · exact h' pins s σ H x xs v us Q I rx rs q
/-- a[b] -/
theorem pe_ix {r : R2} (hr : IxR X r) (ha : PE X a ta) (hb : PE X b tb) (hs : PlainIx b) : PE X (.Subscript a b pos) (tOp r ta tb) := by
  intro pins s σ H Q I h
  exact Subscript_ (binT ha hb I h fun v u s2 x y H2 I2 rx ry q => hr a b pins s2 σ H2 x y v u Q I2 rx ry q (hs _ _))

def rIxL (K : PySem.W.Frag) : R2 := fun x y H Q => ∃ p xs i v, x = .ref p ∧ y = .int i ∧ SqL K H p xs ∧ atI xs i = some v ∧ Q v H
def rIxT (K : PySem.W.Frag) : R2 := fun x y H Q => ∃ p xs i v, x = .ref p ∧ y = .int i ∧ SqT K H p xs ∧ atI xs i = some v ∧ Q v H
def rIxS : R2 := fun x y H Q => ∃ z i c, x = .str z ∧ y = .int i ∧ z.length ≤ sizeLine ∧ atI z.cps.toList i = some c ∧ Q (.str ⟨#[c]⟩) H
theorem ix_list : IxR X (rIxL X.K) := by
  intro value slice pins s σ H x y v u Q I rx ry h hs
  obtain ⟨p, xs, i, z, rfl, rfl, hq, he, q⟩ := h
  cases rx
  obtain ⟨t, rfl⟩ := ry
  obtain ⟨its, r, pl, hz⟩ := I.list hq
  obtain ⟨j, h1, h2, h3, h4, h5⟩ := atI_get he
  obtain ⟨w, ew, rw'⟩ := r.get h2
  have hl := r.length
  have hn := line63
  have fin : EP X pins σ Q w s := ⟨z, H, I, rw', q⟩
  by_cases h0 : 0 ≤ i
  · have hj : i.toNat = j := by
      rw [seqIndex_of h0 h5] at h1
      exact Option.some.inj h1
    exact item_listR pl.isList h0 (by omega) (by rw [hj]; simpa using ew) fin hs
  · have hj : (i + (its.toArray.size : Int)).toNat = j := by
      rw [seqIndex_neg (by omega) h4] at h1
      rw [List.size_toArray, ← hl]
      exact Option.some.inj h1
    exact subscriptTail_builtinR (x := w) pl.isList.typeIs slot_list_getitem.lookup
      (wpAny_getItem_list_neg (Q := fun r s' => r = w ∧ EP X pins σ Q r s') pl.isList (by omega) (by rw [List.size_toArray] <;> omega) (by omega) (by rw [hj]; simpa using ew) ⟨rfl, fin⟩) hs
theorem ix_tup : IxR X (rIxT X.K) := by
  intro value slice pins s σ H x y v u Q I rx ry h hs
  obtain ⟨p, xs, i, z, rfl, rfl, hq, he, q⟩ := h
  cases rx
  obtain ⟨t, rfl⟩ := ry
  obtain ⟨its, r, pl, hz⟩ := I.tuple hq
  obtain ⟨j, h1, h2, h3, h4, h5⟩ := atI_get he
  obtain ⟨w, ew, rw'⟩ := r.get h2
  have hl := r.length
  have hn := line63
  have fin : EP X pins σ Q w s := ⟨z, H, I, rw', q⟩
  exact subscriptTail_builtinR (x := w) pl.typeIs slot_tuple_getitem.lookup
    (getItem_tuple (j := j) (Q := fun r s' => r = w ∧ EP X pins σ Q r s') pl (by omega) (by omega) (by rw [List.size_toArray, ← hl]; exact h1) (by simpa using ew) ⟨rfl, fin⟩) hs
theorem ix_str : IxR X rIxS := by
  intro value slice pins s σ H x y v u Q I rx ry h hs
  obtain ⟨z, i, c, rfl, rfl, hz, he, q⟩ := h
  obtain ⟨t, rfl⟩ := rx
  obtain ⟨t', rfl⟩ := ry
  obtain ⟨j, h1, h2, h3, h4, h5⟩ := atI_get he
  have hl : z.cps.toList.length = z.length := by simp [Str.length]
  rw [hl] at h1 h4 h5
  have hn := line63
  exact tail_any (typeIs_str s z t) slot_str_getitem.lookup (getItem_str (c := c) (by
    have e1 : decide (i < -(2 ^ 63 : Int)) = false := decide_eq_false (by omega)
    have e2 : decide (i ≥ 2 ^ 63) = false := decide_eq_false (by omega)
    rw [e1, e2, Bool.or_false]) (by rw [h1]; simpa using h2) ⟨.str ⟨#[c]⟩, H, I.tok _, ⟨_, rfl⟩, q⟩) hs
/-- list, tuple or str -/
def rIx (K : PySem.W.Frag) : R2 := fun x y H Q => rIxL K x y H Q ∨ rIxT K x y H Q ∨ rIxS x y H Q
theorem ix_seq : IxR X (rIx X.K) := ix_list.or (ix_tup.or ix_str)

/-! ### xs[i] = v, any sign -/
/-- the list's object behind a store -/
theorem mapSeq_set (its : List Value) (n j : Nat) (u : Value) : Obj.mapSeq (·.setIfInBounds j u) { cls := .type "list", data := .seq its.toArray n } = { cls := .type "list", data := .seq (its.set j u).toArray n } := by
  simp [Obj.mapSeq]
theorem Inv.lst {pins : List (Addr × Obj)} {σ : St} {H : Hp} {s : Shared} {p : Addr} {xs : List V} (I : Inv X pins σ H s) (h : H p = some (.lst xs)) :
    ∃ (its : List Value) (n : Nat), Vals xs its ∧ s.heap.get? p = some { cls := .type "list", data := .seq its.toArray n } ∧ xs.length ≤ sizeLine := by
  obtain ⟨z, its, n, r, e⟩ := I.hok p _ h
  exact ⟨its, n, r, e, z⟩
/-- the list at p is written by an update of its object -/
theorem Inv.lstUpd {pins : List (Addr × Obj)} {σ : St} {H : Hp} {s : Shared} {p : Addr} {xs ys : List V} {its its' : List Value} {n n' : Nat} {f : Obj → Obj} (I : Inv X pins σ H s) (h : H p = some (.lst xs))
    (ho : s.heap.get? p = some { cls := .type "list", data := .seq its.toArray n }) (hf : f { cls := .type "list", data := .seq its.toArray n } = { cls := .type "list", data := .seq its'.toArray n' }) (r : Vals ys its') (hz : ys.length ≤ sizeLine) (t : Nat) :
    Inv X pins σ (upd H p (.lst ys)) { s with heap := s.heap.update p f, toks := t } := by
  have e : (s.heap.update p f).get? p = some { cls := .type "list", data := .seq its'.toArray n' } := by
    rw [Heap.get?_update_self f ho (by rw [hf] <;> rfl), hf]
  refine I.write (x := p) (e := p) (by rw [h]; trivial) (.inl rfl) (fun b u hb q => (Heap.get?_update_other _ _ (Ne.symm hb)).trans q) ⟨_, e⟩ ?_
  exact ⟨hz, its', n', r, e⟩
def rSetL : V → V → V → Hp → (Hp → Prop) → Prop := fun o i v H Q => ∃ p xs k j, o = .ref p ∧ i = .int k ∧ H p = some (.lst xs) ∧ ixN xs.length k = some j ∧ Q (upd H p (.lst (xs.set j v)))
theorem set_list : PSet X rSetL := by
  intro pins s σ H o i v ov iv u Q I ro ri rv h
  obtain ⟨p, xs, k, j, rfl, rfl, hp, hj, q⟩ := h
  cases ro
  obtain ⟨t, rfl⟩ := ri
  obtain ⟨its, n, r, ho, hz⟩ := I.lst hp
  obtain ⟨h1, h2, h3, h4⟩ := ixN_seq hj
  have hl := r.length
  have hn := line63
  have I' : Inv X pins σ (upd H p (.lst (xs.set j v))) { s with heap := s.heap.update p (Obj.mapSeq (·.setIfInBounds j u)) } :=
    I.lstUpd hp ho (mapSeq_set its n j u) (r.set rv j) (by rw [List.length_set]; exact hz) s.toks
  by_cases h0 : 0 ≤ k
  · have hk : k.toNat = j := by
      rw [seqIndex_of h0 h4] at h1
      exact Option.some.inj h1
    exact PySem.W.ki_setAt ho h0 (by omega) (by rw [List.size_toArray, ← hl]; exact h4) (by rw [hk]; exact ⟨_, I', q⟩)
  · have hk : (k + (its.toArray.size : Int)).toNat = j := by
      rw [seqIndex_neg (by omega) h3] at h1
      rw [List.size_toArray, ← hl]
      exact Option.some.inj h1
    exact PySem.W.ki_setBack ho (by omega) (by rw [List.size_toArray, ← hl]; exact h3) (by omega) (by rw [hk]; exact ⟨_, I', q⟩)

/-! ### slices -/
theorem slice_bounds (lo hi : Option Int) (n : Nat) : (sliceBounds lo hi none n).1 = ((HT.sIx n 0 lo : Nat) : Int) ∧ (sliceBounds lo hi none n).2.1 = ((HT.sIx n n hi : Nat) : Int) ∧ (sliceBounds lo hi none n).2.2 = 1 := by
  refine ⟨?_, ?_, rfl⟩
  · cases lo with
    | none => simp [sliceBounds, HT.sIx]
    | some i =>
      simp only [sliceBounds, HT.sIx, Option.getD_none, show (1 : Int) > 0 by decide, if_true]
      by_cases h : i < 0
      · simp only [h, if_true] <;> omega
      · simp only [h, if_false] <;> omega
  · cases hi with
    | none => simp [sliceBounds, HT.sIx]
    | some i =>
      simp only [sliceBounds, HT.sIx, Option.getD_none, show (1 : Int) > 0 by decide, if_true]
      by_cases h : i < 0
      · simp only [h, if_true] <;> omega
      · simp only [h, if_false] <;> omega
theorem slicePick_cut (its : List Value) (lo hi : Option Int) : slicePick its.toArray lo hi none = ((its.drop (HT.sIx its.length 0 lo)).take (HT.sIx its.length its.length hi - HT.sIx its.length 0 lo)).toArray := by
  obtain ⟨h1, h2, h3⟩ := slice_bounds lo hi its.toArray.size
  unfold slicePick
  rw [h1, h2, h3]
  simp only [sliceRange_one, pick_run, List.size_toArray] <;> rfl
/-- xs[lo:hi] of a list: a new list -/
def rSlL (K : PySem.W.Frag) : V → Option Int → Option Int → Hp → VK → Prop := fun x lo hi H Q => ∃ a xs, x = .ref a ∧ SqL K H a xs ∧ ∀ p, H p = none → Q (.ref p) (upd H p (.lst (cutV xs lo hi)))
theorem sl_list : SlR X (rSlL X.K) := by
  intro pins s σ H x v vl vu lo hi sl Q I rx hs pl pu h
  obtain ⟨a, xs, rfl, hx, q⟩ := h
  cases rx
  obtain ⟨its, r, ht, hz⟩ := I.list hx
  have hlen := r.length
  refine ⟨"list", _, slot_list_getitem.lookup, ht.isList.typeIs, ?_⟩
  refine wpAny_getItem_list_slice ht.isList hs pl pu .none (by simp) ?_ (by rw [List.size_toArray] <;> omega)
  rw [slicePick_cut, ← hlen]
  refine ⟨.ref s.heap.objs.size, _, I.laid (t' := s.toks) (o := .lst (cutV xs lo hi)) (fun b ob q => Heap.get?_push_of_some _ q) (Nat.le_refl _) ?_, rfl, q _ (I.hok.fresh (Nat.le_refl _))⟩
  exact ⟨Nat.le_trans (cutV_length xs lo hi) hz, _, 0, (r.drop (HT.sIx xs.length 0 lo)).take (HT.sIx xs.length xs.length hi - HT.sIx xs.length 0 lo), Heap.get?_push_size _ rfl⟩

/-! ### in, not in: flat items -/
def flatV : V → Bool
  | .non => true
  | .bl _ => true
  | .int _ => true
  | .str _ => true
  | _ => false
/-- == of flat values -/
def eqV : V → V → Bool
  | .non, .non => true
  | .bl a, .bl b => a == b
  | .bl a, .int b => (if a then 1 else 0) == b
  | .int a, .bl b => a == (if b then 1 else 0)
  | .int a, .int b => a == b
  | .str a, .str b => a == b
  | _, _ => false
theorem eqAt_V {A : Around} {s : Shared} {y x : V} {u v : Value} (ry : RelV y u) (rx : RelV x v) (fy : flatV y = true) (fx : flatV x = true) : SeqAt.EqAt A s u v (eqV y x) := by
  cases y with
  | non =>
    cases ry
    cases x with
    | non => cases rx; exact SeqAt.EqAt.same _
    | bl b => cases rx; exact SeqAt.EqAt.none_bool b
    | int b => obtain ⟨t, rfl⟩ := rx; exact SeqAt.EqAt.none_int b t
    | str b => obtain ⟨t, rfl⟩ := rx; exact SeqAt.EqAt.none_str b t
    | _ => exact absurd (show false = true from fx) Bool.false_ne_true
  | bl a =>
    cases ry
    cases x with
    | non => cases rx; exact SeqAt.EqAt.bool_none a
    | bl b => cases rx; exact SeqAt.EqAt.bool_bool a b
    | int b => obtain ⟨t, rfl⟩ := rx; exact SeqAt.EqAt.bool_int a b t
    | str b => obtain ⟨t, rfl⟩ := rx; exact SeqAt.EqAt.bool_str a b t
    | _ => exact absurd (show false = true from fx) Bool.false_ne_true
  | int a =>
    obtain ⟨t', rfl⟩ := ry
    cases x with
    | non => cases rx; exact SeqAt.EqAt.int_none a t'
    | bl b => cases rx; exact SeqAt.EqAt.int_bool a t' b
    | int b => obtain ⟨t, rfl⟩ := rx; exact SeqAt.EqAt.int_int a t' b t
    | str b => obtain ⟨t, rfl⟩ := rx; exact SeqAt.EqAt.int_str a t' b t
    | _ => exact absurd (show false = true from fx) Bool.false_ne_true
  | str a =>
    obtain ⟨t', rfl⟩ := ry
    cases x with
    | non => cases rx; exact SeqAt.EqAt.str_none a t'
    | bl b => cases rx; exact SeqAt.EqAt.str_bool a t' b
    | int b => obtain ⟨t, rfl⟩ := rx; exact SeqAt.EqAt.str_int a t' b t
    | str b => obtain ⟨t, rfl⟩ := rx; exact SeqAt.EqAt.str_str a t' b t
    | _ => exact absurd (show false = true from fx) Bool.false_ne_true
  | _ => exact absurd (show false = true from fy) Bool.false_ne_true
/-- the items' answers, read off the values (a value's own answer does not lean on its token) -/
def eqU (x : V) (u : Value) : Bool := match u with
  | .none => eqV .non x
  | .bool b => eqV (.bl b) x
  | .int i _ => eqV (.int i) x
  | .str z _ => eqV (.str z) x
  | _ => false
theorem eqU_of {x y : V} {u : Value} (r : RelV y u) (f : flatV y = true) : eqU x u = eqV y x := by
  cases y with
  | non => cases r; rfl
  | bl b => cases r; rfl
  | int i => obtain ⟨t, rfl⟩ := r; rfl
  | str z => obtain ⟨t, rfl⟩ := r; rfl
  | _ => exact absurd (show false = true from f) Bool.false_ne_true
theorem any_eqU {x : V} : ∀ {xs : List V} {us : List Value}, Vals xs us → xs.all flatV = true → us.any (eqU x) = xs.any fun y => eqV y x
  | _, _, .nil, _ => rfl
  | y :: xs, u :: us, .cons r t, f => by
    rw [List.all_cons, Bool.and_eq_true] at f
    rw [List.any_cons, List.any_cons, eqU_of r f.1, any_eqU t f.2]
theorem mem_eqAt {A : Around} {s : Shared} {x : V} {v : Value} (rx : RelV x v) (fx : flatV x = true) : ∀ {xs : List V} {us : List Value}, Vals xs us → xs.all flatV = true → ∀ u ∈ us, SeqAt.EqAt A s u v (eqU x u)
  | _, _, .nil, _ => fun u hu => by cases hu
  | y :: xs, u :: us, .cons r t, f => fun u' hu => by
    rw [List.all_cons, Bool.and_eq_true] at f
    rcases List.mem_cons.mp hu with rfl | hu
    · rw [eqU_of r f.1]; exact eqAt_V r rx f.1 fx
    · exact mem_eqAt rx fx t f.2 u' hu
def inV (x : V) (xs : List V) : Bool := xs.any fun y => eqV y x
/-- x in a list or tuple of flat items -/
def rIn (K : PySem.W.Frag) (neg : Bool) : R2 := fun x y H Q => ∃ p xs, y = .ref p ∧ (SqL K H p xs ∨ SqT K H p xs) ∧ flatV x = true ∧ xs.all flatV = true ∧ Q (.bl (if neg then !inV x xs else inV x xs)) H
theorem op_in_seq : OpR X (compareOp .In) (rIn X.K false) := by
  intro pins s σ H x y v u Q I rx ry h
  obtain ⟨p, xs, rfl, hq, fx, fs, q⟩ := h
  cases ry
  rcases hq with hq | hq
  · obtain ⟨its, r, pl, hz⟩ := I.list hq
    refine SeqAt.in_listAt (eqU x) pl.isList (fun w hw => mem_eqAt rx fx r fs w (by simpa using hw)) ⟨.bl _, H, I, rfl, ?_⟩
    rw [show its.toArray.any (eqU x) = its.any (eqU x) by simp, any_eqU r fs]
    exact q
  · obtain ⟨its, r, pl, hz⟩ := I.tuple hq
    refine SeqAt.in_tupleAt (eqU x) pl (fun w hw => mem_eqAt rx fx r fs w (by simpa using hw)) ⟨.bl _, H, I, rfl, ?_⟩
    rw [show its.toArray.any (eqU x) = its.any (eqU x) by simp, any_eqU r fs]
    exact q
theorem op_notIn_seq : OpR X (compareOp .NotIn) (rIn X.K true) := by
  intro pins s σ H x y v u Q I rx ry h
  obtain ⟨p, xs, rfl, hq, fx, fs, q⟩ := h
  cases ry
  rcases hq with hq | hq
  · obtain ⟨its, r, pl, hz⟩ := I.list hq
    refine SeqAt.notIn_listAt (eqU x) pl.isList (fun w hw => mem_eqAt rx fx r fs w (by simpa using hw)) ⟨.bl _, H, I, rfl, ?_⟩
    rw [show its.toArray.any (eqU x) = its.any (eqU x) by simp, any_eqU r fs]
    exact q
  · obtain ⟨its, r, pl, hz⟩ := I.tuple hq
    refine SeqAt.notIn_tupleAt (eqU x) pl (fun w hw => mem_eqAt rx fx r fs w (by simpa using hw)) ⟨.bl _, H, I, rfl, ?_⟩
    rw [show its.toArray.any (eqU x) = its.any (eqU x) by simp, any_eqU r fs]
    exact q
theorem op_notIn_str : OpR X (compareOp .NotIn) (fun x y H Q => ∃ i j, x = .str i ∧ y = .str j ∧ Q (.bl (!(!(Builtin.Str.occurrences j i 0 j.length 1).isEmpty))) H) := by
  intro pins s σ H x y v u Q I rx ry h
  obtain ⟨i, j, rfl, rfl, q⟩ := h
  obtain ⟨t, rfl⟩ := rx
  obtain ⟨t', rfl⟩ := ry
  exact notIn_str ⟨.bl _, H, I, rfl, q⟩

/-! ### len, list(x), tuple(x) of any list or tuple that is read -/
theorem CallR.or {f : Value} {r r' : List V → Hp → VK → Prop} (h : CallR X f r) (h' : CallR X f r') : CallR X f (fun xs H Q => r xs H Q ∨ r' xs H Q) := by
  intro pins s σ H xs us Q I rs q
  rcases q with q | q
  · exact h pins s σ H xs us Q I rs q
  · exact h' pins s σ H xs us Q I rs q
theorem call_tuple_of : CallR X (.type "tuple") (fun xs H Q => ∃ p ys, xs = [.ref p] ∧ ((SqL X.K H p ys ∧ ∀ l, H l = none → Q (.ref l) (upd H l (.tup ys))) ∨ (SqT X.K H p ys ∧ Q (.ref p) H))) := by
  intro pins s σ H xs us Q I r h
  obtain ⟨p, ys, rfl, h⟩ := h
  obtain ⟨u, rfl, rx⟩ := vals1 r
  cases rx
  rcases h with ⟨hq, q⟩ | ⟨hq, q⟩
  · obtain ⟨its, r', pl, hz⟩ := I.list hq
    have hlen := r'.length
    refine call_tuple_list pl.isList (fun h' kp => ?_) (by simp only [List.size_toArray] <;> omega)
    have I1 : Inv X pins σ H { s with heap := h' } := I.kept (t' := s.toks) kp
    have I2 : Inv X pins σ (upd H h'.objs.size (.tup ys)) { s with heap := h'.push { cls := .type "tuple", data := .seq its.toArray } } :=
      I1.laid (t' := s.toks) (fun b o e => Heap.get?_push_of_some _ e) (Nat.le_refl _) (show ObjOk X.prog X.w _ _ _ (.tup ys) from ⟨hz, its, r', IsTup.new _ _⟩)
    exact ⟨.ref h'.objs.size, _, I2, rfl, q _ (I1.hok.fresh (Nat.le_refl _))⟩
  · obtain ⟨its, r', pl, hz⟩ := I.tuple hq
    exact call_tuple_same pl ⟨.ref p, H, I, rfl, q⟩

/-! ### the call of a builtin's method: o.m(..) -/
/-- the value is of that builtin type -/
def tyV (K : PySem.W.Frag) (T : String) (x : V) (H : Hp) : Prop := match x with
  | .str _ => T = "str"
  | .int _ => T = "int"
  | .ref p => (T = "list" ∧ ∃ xs, SqL K H p xs) ∨ (T = "tuple" ∧ ∃ o, K.lookup p = some o ∧ o.cls = .type "tuple" ∧ o.dict = none) ∨
      (T = "dict" ∧ ((∃ kvs, H p = some (.dK kvs)) ∨ ∃ kvs, H p = some (.dT kvs))) ∨ (T = "set" ∧ ∃ S n, H p = some (.set S n))
  | _ => False
theorem tyV_is {pins : List (Addr × Obj)} {σ : St} {H : Hp} {s : Shared} {T : String} {x : V} {v : Value} (I : Inv X pins σ H s) (r : RelV x v) (ty : tyV X.K T x H) :
    s.TypeIs v T ∧ ∀ a, v = .ref a → ∃ ob, s.heap.get? a = some ob ∧ ob.dict = none := by
  cases x with
  | str z =>
    obtain ⟨t, rfl⟩ := r
    cases (show T = "str" from ty)
    exact ⟨typeIs_str s z t, fun _ e => nomatch e⟩
  | int i =>
    obtain ⟨t, rfl⟩ := r
    cases (show T = "int" from ty)
    exact ⟨typeIs_int s i t, fun _ e => nomatch e⟩
  | ref p =>
    cases r
    rcases ty with ⟨rfl, xs, hq⟩ | ⟨rfl, o, hk, hc, hd⟩ | ⟨rfl, hk⟩ | ⟨rfl, S, n, hk⟩
    · obtain ⟨its, _, pl, _⟩ := I.list hq
      refine ⟨pl.isList.typeIs, fun a e => ?_⟩
      cases e
      obtain ⟨o, n, e, c, hd, _⟩ := pl
      exact ⟨o, e, hd⟩
    · refine ⟨⟨o, I.kIn p o hk, hc⟩, fun a e => ?_⟩
      cases e
      exact ⟨o, I.kIn _ o hk, hd⟩
    · have z : ∃ o, s.heap.get? p = some o ∧ o.ExactDict := by
        rcases hk with ⟨kvs, hk⟩ | ⟨kvs, hk⟩
        · obtain ⟨_, _, _, _, o, _, _, e, ex, _⟩ := I.hok p _ hk
          exact ⟨o, e, ex⟩
        · obtain ⟨_, _, _, _, o, _, _, e, ex, _⟩ := I.hok p _ hk
          exact ⟨o, e, ex⟩
      obtain ⟨o, e, ex⟩ := z
      refine ⟨⟨o, e, ex.1⟩, fun a e2 => ?_⟩
      cases e2
      exact ⟨o, e, ex.2.1⟩
    · obtain ⟨o, _, _, _, e, ex, _⟩ := I.hok p _ hk
      refine ⟨⟨o, e, ex.1⟩, fun a e2 => ?_⟩
      cases e2
      exact ⟨o, e, ex.2.1⟩
  | _ => exact False.elim ty
def tBM0 (K : PySem.W.Frag) (T : String) (r : V → List V → Hp → VK → Prop) (to : TE) : TE := fun σ H Q => to σ H fun x H1 => tyV K T x H1 ∧ r x [] H1 Q
def tBM (K : PySem.W.Frag) (T : String) (r : V → List V → Hp → VK → Prop) (to : TE) (t : TA) : TE := fun σ H Q => to σ H fun x H1 => tyV K T x H1 ∧ t σ H1 fun xs H2 => r x xs H2 Q
variable {o e : Expr} {es : List Expr} {to : TE} {t : TA} {name : Str} {apos cpos : Pos} {T id : String} {r : V → List V → Hp → VK → Prop}
theorem pe_bm (pa : PlainAttrs T) (slot : Slot T name id) (hty : typeOf (.builtin id) = pure (.type "method_descriptor")) (hm : MtR X id r) (ho : PE X o to) (ha : PA X (e :: es) t)
    (hbase : attributeBase o name X.env (eval o X.env) = eval o X.env := by rfl)
    (hfew : ((backTo cpos (starEach (e :: es) X.env)).all (fun x => !x.1) && (backToKw cpos (keywordEach [] X.env)).all (fun x => x.1.isSome)
      && decide ((e :: es).length + ([] : List Keyword).length + (if ([] : List Keyword).isEmpty then 0 else 1) < 30)) = true := by rfl)
    (hline : (apos.endLine == cpos.line) = true := by rfl) (hs : starEach (e :: es) X.env = (false, eval e X.env) :: starEach es X.env := by rfl) (hplain : (backTo cpos (starEach es X.env)).any (·.1) = false := by rfl) :
    PE X (.Call (.Attribute o name apos) (e :: es) [] cpos) (tBM X.K T r to t) := by
  intro pins s σ H Q I h
  refine wpAny_Call_method_late hbase hfew hline rfl (thn (ho pins s σ H _ I h) fun v s1 ⟨x, H1, I1, r1, ty, q1⟩ => ?_)
  obtain ⟨h1, h2⟩ := tyV_is I1 r1 ty
  refine ⟨T, id, pa, slot, hty, h1, h2, ?_⟩
  have hA := ha cpos pins s1 σ H1 _ I1 q1
  rw [hs] at hA ⊢
  refine Calls.callWith_builtin (by show (false || (backTo cpos (starEach es X.env)).any (·.1)) = false; rw [hplain] <;> rfl) (Calls.evalArgs_plain ?_)
  exact thn hA fun us s2 ⟨vs, H2, I2, r2, q2⟩ => hm pins s2 σ H2 x vs v us Q I2 r1 r2 q2
/- xs.append(e), list.index on a module's tuple .. are MtR facts of 06m -/
end
end L2

namespace L2
open PySem PySem.Spec PyProof.Rows

def MtM (X : Cx) (id : String) (r : V → List V → Hp → VK → Prop) : Prop :=
  ∀ (pins : List (Addr × Obj)) (s : Shared) (σ : St) (H : Hp) (x : V) (xs : List V) (v : Value) (us : List Value) (Q : VK), Inv X pins σ H s → RelV x v → Vals xs us → r x xs H Q →
    wpAny (model X.prog X.w) X.A (call (.builtin id) (v :: us)) (EP X pins σ Q) X.xe s

/-! ### lists of values -/
theorem Vals.one : ∀ {x : V} {us : List Value}, Vals [x] us → ∃ u, us = [u] ∧ RelV x u
  | _, _, .cons r .nil => ⟨_, rfl, r⟩
theorem Vals.two : ∀ {x y : V} {us : List Value}, Vals [x, y] us → ∃ u v, us = [u, v] ∧ RelV x u ∧ RelV y v
  | _, _, _, .cons r (.cons q .nil) => ⟨_, _, rfl, r, q⟩
theorem Vals.zero : ∀ {us : List Value}, Vals [] us → us = []
  | _, .nil => rfl
theorem Vals.dropLast {xs : List V} {us : List Value} (h : Vals xs us) : Vals xs.dropLast us.dropLast := by
  induction h with
  | nil => exact .nil
  | cons r t ih =>
    cases t with
    | nil => exact .nil
    | cons q t' => exact .cons r ih
theorem Vals.eraseIdx : ∀ {xs : List V} {us : List Value} (i : Nat), Vals xs us → Vals (xs.eraseIdx i) (us.eraseIdx i)
  | _, _, _, .nil => .nil
  | _, _, 0, .cons _ t => t
  | _, _, i + 1, .cons r t => .cons r (Vals.eraseIdx i t)
theorem Vals.reverse {xs : List V} {us : List Value} (h : Vals xs us) : Vals xs.reverse us.reverse := by
  induction h with
  | nil => exact .nil
  | cons r t ih => rw [List.reverse_cons, List.reverse_cons]; exact Vals.append ih (.cons r .nil)
theorem len_erase {α : Type} : ∀ (l : List α) (i : Nat), (l.eraseIdx i).length ≤ l.length
  | [], _ => Nat.le_refl _
  | _ :: _, 0 => Nat.le_succ _
  | _ :: r, i + 1 => Nat.succ_le_succ (len_erase r i)
section
variable {X : Cx} {pins : List (Addr × Obj)} {σ : St} {H : Hp} {s : Shared} {l b : Addr} {xs ys zs : List V}

/-! ### the two steps: a tracked list is rewritten, a new list is laid -/
theorem Inv.lset {its its' : List Value} {n : Nat} {f : Array Value → Array Value} {t' : Nat} (I : Inv X pins σ H s) (hH : H l = some (.lst xs))
    (e : s.heap.get? l = some { cls := .type "list", data := .seq its.toArray n }) (hf : f its.toArray = its'.toArray) (hv : Vals ys its') (hz : ys.length ≤ sizeLine) :
    Inv X pins σ (upd H l (.lst ys)) { s with heap := s.heap.update l (Obj.mapSeq f), toks := t' } := by
  have q := PySem.IsL.update e f
  rw [hf] at q
  refine I.write (x := l) (e := l) (by rw [hH]; exact trivial) (.inl rfl) (fun b' u hb hu => (Heap.get?_update_other s.heap (Obj.mapSeq f) (Ne.symm hb)).trans hu) ⟨_, q⟩ ?_
  exact ⟨hz, its', _, hv, q⟩
theorem Inv.lnew {its : List Value} {t' : Nat} (I : Inv X pins σ H s) (hv : Vals ys its) (hz : ys.length ≤ sizeLine) :
    Inv X pins σ (upd H s.heap.objs.size (.lst ys)) { s with heap := s.heap.push { cls := .type "list", data := .seq its.toArray }, toks := t' } :=
  I.laid (fun _ _ q => Heap.get?_push_of_some _ q) (Nat.le_refl _) ⟨hz, its, 0, hv, Heap.get?_push_size _ rfl⟩
theorem Inv.fresh (I : Inv X pins σ H s) : H s.heap.objs.size = none := I.hok.fresh (Nat.le_refl _)
theorem Inv.lstM (I : Inv X pins σ H s) (hH : H l = some (.lst xs)) : xs.length ≤ sizeLine ∧ ∃ (its : List Value) (n : Nat), Vals xs its ∧ xs.length = its.length ∧ s.heap.get? l = some { cls := .type "list", data := .seq its.toArray n } := by
  obtain ⟨z, its, n, r, e⟩ := I.hok l _ hH
  exact ⟨z, its, n, r, r.length, e⟩

end

section
variable {X : Cx}

/-! ### methods -/
def rAppend : V → List V → Hp → VK → Prop := fun x vs H Q => ∃ l xs y, x = .ref l ∧ vs = [y] ∧ H l = some (.lst xs) ∧ xs.length < sizeLine ∧ Q .non (upd H l (.lst (xs ++ [y])))
theorem mt_append : MtM X "list.append" rAppend := by
  intro pins s σ H x vs v us Q I rx rv h
  obtain ⟨l, xs, y, rfl, rfl, hH, hz, q⟩ := h
  cases rx
  obtain ⟨u, rfl, ru⟩ := rv.one
  obtain ⟨z, its, n, r, hl, e⟩ := I.lstM hH
  refine call_meets F.slot_list_append ⟨_, e, rfl⟩ F.entry_list_append (F.args_list_append_2 _ _) (PySem.list_append l its.toArray n u (by rw [List.size_toArray]; omega)) ⟨e, ?_⟩
  refine ⟨.non, _, I.lset (its' := its ++ [u]) hH e (by simp) (r.append (.cons ru .nil)) ?_, rfl, q⟩
  rw [List.length_append, List.length_singleton]
  omega

def rExtend : V → List V → Hp → VK → Prop := fun x vs H Q => ∃ l b xs zs, x = .ref l ∧ vs = [.ref b] ∧ H l = some (.lst xs) ∧ H b = some (.lst zs) ∧ xs.length + zs.length ≤ sizeLine ∧ Q .non (upd H l (.lst (xs ++ zs)))
def rPop : V → List V → Hp → VK → Prop := fun x vs H Q => ∃ l xs y, x = .ref l ∧ vs = [] ∧ H l = some (.lst xs) ∧ xs[xs.length - 1]? = some y ∧ Q y (upd H l (.lst xs.dropLast))
def rPopAt : V → List V → Hp → VK → Prop := fun x vs H Q => ∃ l xs i k y, x = .ref l ∧ vs = [.int i] ∧ H l = some (.lst xs) ∧ -(2 ^ 63) ≤ i ∧ i < 2 ^ 63 ∧ seqIndex? i xs.length = some k ∧ xs[k]? = some y ∧ Q y (upd H l (.lst (xs.eraseIdx k)))
theorem mt_popAt : MtM X "list.pop" rPopAt := by
  intro pins s σ H x vs v us Q I rx rv h
  obtain ⟨l, xs, i, k, y, rfl, rfl, hH, h1, h2, hk, hy, q⟩ := h
  cases rx
  obtain ⟨u, rfl, ru⟩ := rv.one
  obtain ⟨t, rfl⟩ := ru
  obtain ⟨z, its, n, r, hl, e⟩ := I.lstM hH
  obtain ⟨w, hw, rw'⟩ := r.get hy
  refine call_meets F.slot_list_pop ⟨_, e, rfl⟩ F.entry_list_pop (F.args_list_pop_2 _ _)
    (MeetsSeq.list_pop_at l its.toArray n i t k w (fitsIndex_both h1 h2) (by rw [List.size_toArray, ← hl]; exact hk) (by rw [← Array.getElem?_toList]; exact hw) (by rw [List.size_toArray]; omega)) ⟨e, ?_⟩
  refine ⟨y, _, I.lset (its' := its.eraseIdx k) hH e ?_ (r.eraseIdx k) ?_, rw', q⟩
  · show its.toArray.eraseIdxIfInBounds k = (its.eraseIdx k).toArray
    rw [List.eraseIdxIfInBounds_toArray]
  · have := len_erase xs k
    omega

def rReverse : V → List V → Hp → VK → Prop := fun x vs H Q => ∃ l xs, x = .ref l ∧ vs = [] ∧ H l = some (.lst xs) ∧ Q .non (upd H l (.lst xs.reverse))
def rClear : V → List V → Hp → VK → Prop := fun x vs H Q => ∃ l xs, x = .ref l ∧ vs = [] ∧ H l = some (.lst xs) ∧ Q .non (upd H l (.lst []))
/-! ### list + list, list += list, list * int -/
def rCat : R2 := fun x y H Q => ∃ l b xs zs, x = .ref l ∧ y = .ref b ∧ H l = some (.lst xs) ∧ H b = some (.lst zs) ∧ xs.length + zs.length ≤ sizeLine ∧ ∀ p, H p = none → Q (.ref p) (upd H p (.lst (xs ++ zs)))
theorem op_cat : OpR X (binaryOp .Add) rCat := by
  intro pins s σ H x y v u Q I rx ry h
  obtain ⟨l, b, xs, zs, rfl, rfl, hH, hB, hz, q⟩ := h
  cases rx
  cases ry
  obtain ⟨z, its, n, r, hl, e⟩ := I.lstM hH
  obtain ⟨z2, its2, n2, r2, hl2, e2⟩ := I.lstM hB
  refine PySem.P.add_list e e2 ?_ (by rw [List.size_toArray, List.size_toArray]; omega)
  have ea : its.toArray ++ its2.toArray = (its ++ its2).toArray := by simp
  rw [ea]
  exact ⟨.ref _, _, I.lnew (t' := s.toks) (r.append r2) (by rw [List.length_append]; omega), rfl, q _ I.fresh⟩
/-- a list times an int (a negative one is nothing) -/
def rRep : R2 := fun x y H Q => ∃ l k xs, x = .ref l ∧ y = .int k ∧ H l = some (.lst xs) ∧ -(2 ^ 63) ≤ k ∧ k < 2 ^ 63 ∧ xs.length * k.toNat ≤ sizeLine ∧
  ∀ p, H p = none → Q (.ref p) (upd H p (.lst (List.replicate k.toNat xs).flatten))
/-! ### del xs[i] -/
end

/-! ### xs[a:b] = ys -/
section
variable {prog : Program} {w : World} {A : Around} {E : Value → Shared → Prop} {s : Shared}
end

section
variable {X : Cx}
end
end L2

namespace Att
open PySem PySem.W PySem.Calls PyProof.Rows

/-! ### the script -/
theorem ints_of_wellAll {P : Params} {h : Heap} : ∀ (ns : List Int) (vs : List Value), WellAll P h vs (ns.map WData.int) → IntsAre vs ns := by
  intro ns
  induction ns with
  | nil =>
    intro vs w
    rw [List.map_nil] at w
    cases w
    exact .nil
  | cons n ns ih =>
    intro vs w
    rw [List.map_cons] at w
    cases w with
    | cons a b =>
      cases a
      exact .cons _ _ (ih _ b)

theorem script_of {l : OpenLaw} {n : Nat} (hn : l.most = some n) {P : Params} {h : Heap} {args : List WData} {vals : List Value}
    (hpre : l.row.toRowW.claim.pre args = true) (hwl : WellAll P h vals args) :
    ∃ a vs ns, vals = [Value.ref a] ∧ args = [WData.list (ns.map WData.int)] ∧ h.get? a = some { cls := .type "list", data := .seq vs.toArray } ∧ IntsAre vs ns ∧ ns.length ≤ n := by
  have hsh : WShape.hasAll [] args [.list .int] = true := (pre_splitW hpre).1
  have hc : l.pre.holds [] { args := args } = true := (pre_splitW hpre).2
  obtain ⟨d, r, rfl, h1, h2⟩ := hasAllW_cons hsh
  obtain rfl := hasAllW_nil h2
  obtain ⟨xs, rfl, h3⟩ := hasW_list h1
  obtain ⟨ns, rfl⟩ := items_int h3
  have hlen : ns.length ≤ n := by
    unfold OpenLaw.pre at hc
    have h4 : (WTm.not (.lt (.lit (.int (n : Int))) (.len (.arg 0)))).holds [] { args := [.list (ns.map .int)] } = true := by
      have h4 := (holds_andW hc).1
      rw [hn] at h4
      exact h4
    have h5 := condW_of h4 (w_not (w_lt w_lit (w_len_list (w_arg rfl))))
    rw [List.length_map] at h5
    refine Nat.le_of_not_lt fun q => ?_
    have q' : (n : Int) < ((ns.length : Nat) : Int) := by omega
    first
      | (rw [decide_eq_true q'] at h5; exact absurd h5 (by decide))
      | (simp at h5; omega)
  cases hwl with
  | cons w1 w2 =>
    cases w2
    cases w1 with
    | list ho hall => exact ⟨_, _, ns, rfl, rfl, ho, ints_of_wellAll ns _ hall, hlen⟩

theorem post_true (l : OpenLaw) (args : List WData) : l.row.toRowW.claim.post args (.bool true) args = true :=
  postW_of (r := l.row.toRowW) (X := (true == true))
    (show WShape.has [] (.bool true) .bool = true by first | rfl | decide | simp [WShape.has, WShape.arms, WShape.armsAll])
    (show (WTm.eq .res (.lit (.bool true))).value [] { args := args, res := some (.bool true), after := args } = some (.bool (true == true)) from w_eq_bool (w_res rfl) w_lit) rfl

/-! ### the attachment: holds_open's last premise (the goal 'hc' behind k_head) from a wpAny of the law's body -/
/-- the same from a codeAny of the CALL (for a layer whose function contracts speak of calls) -/
theorem attach_call {l : OpenLaw} {n : Nat} {q : Program} {loose : List Str} {XP : (Str → Option Value) → Heap → Prop} {YP : World → Heap → Prop} {d : DefRec}
    (hn : l.most = some n) (hdf : d.params.defaults = [])
    (call : ∀ (w : World) (s₀ s₁ : Shared) (mg mb : Str → Option Value) (fa : Addr) (o : Obj) (pm cd doc : Value) (a : Addr) (vs : List Value) (ns : List Int),
      Ground q loose [] XP w s₀ mg mb s₁.heap → YP w s₁.heap →
      s₁.heap.get? fa = some o → o.data = .func (docDef d.name d.params d.body d.scope pm cd doc) → s₁.heap.CodeRec cd d.name → mg d.name = some (.ref fa) →
      s₁.heap.get? a = some { cls := .type "list", data := .seq vs.toArray } → IntsAre vs ns → ns.length ≤ n → s₁.gens = #[] →
      codeAny (model l.prog w) callerA (.call (.ref fa) ⟨[.ref a], []⟩) (fun r s' => r = .ok (.ret (.bool true)) ∧ OldK s₁.heap s'.heap ∧ s'.os = s₁.os ∧ AllBare s'.gens) s₁) :
    WalkO q loose XP YP l.row.toRowW d [] (fun f vs => PySem.call f vs) := by
  intro w s₀ s₁ mg mb G Y fa o pm cd doc dV kV ho hd hcd hD hmg hg args vals as hpre hlay hrd hwl hlo
  obtain rfl : dV = .none := Dflts.none hD hdf
  obtain rfl : kV = .none := Dflts.noKw hD
  obtain ⟨a, vs, ns, rfl, rfl, hobj, hints, hlen⟩ := script_of hn hpre hwl
  refine enter_call (codeAny_mono (call w s₀ s₁ mg mb fa o pm cd doc a vs ns G Y ho (fd_plain hd) hcd hmg hobj hints hlen hg) fun r s' hq => ?_)
  obtain ⟨rfl, h2, h3, h4⟩ := hq
  exact ⟨.inl ⟨.bool true, .bool true, [], rfl, fun _ => rfl, .bool true, post_true l _, fun _ => ⟨List.Pairwise.nil, fun _ hm => (nomatch hm)⟩⟩, h2, h3, h4⟩

/-! ### rules over ANY heap (no ledger) from facts about the written part K: the library's own take a ledger (News) for what they write -/
section
variable {prog : Program} {w : World} {A : Around} {E : Value → Shared → Prop} {s : Shared} {K : Frag}

/-! the whole heap as the ledger: makes every rule that writes through a ledger a rule over any heap -/
def noObjs (h : Heap) : Heap := { h with objs := #[] }
def ledger (h : Heap) (L d : Addr) : List (Addr × Obj) := (List.range h.objs.size).filterMap fun a => if a = L ∨ a = d then none else (h.get? a).map fun o => (a, o)
end
end Att

namespace L2
open PySem PySem.Spec PyProof.Rows

theorem vals_ints : ∀ {vs : List Value} {ns : List Int}, IntsAre vs ns → Vals (ns.map V.int) vs
  | _, _, .nil => .nil
  | _, _, .cons n t h => .cons ⟨t, rfl⟩ (vals_ints h)

/-- nothing is tracked but the script, known to the object (or it is an object of the module) -/
def Only (H : Hp) : Prop := ∀ b, H b = none ∨ ∃ o xs, H b = some (.frz o (.lst xs))

/-- THE HEAD: the law's promise, at the heap behind the top. F, the promise of the law's def, may use that base is part of the heap (so K.In base, base.Ns mainGlobals mg stand in Mod) -/
theorem law_call {P : Program} {w : World} {K : PySem.W.Frag} {mg mb : Str → Option Value} {CX : CXT} {k : Nat} {fa a : Addr} {fd : FuncData} {x : Str} {sp : Sp} {s₁ : Shared} {vs : List Value} {ns : List Int}
    (KX : K.In s₁.heap) (hns : s₁.heap.Ns mainGlobals mg) (hb : s₁.heap.Ns builtinsNs mb) (hbb : ∀ x : Str, x ≠ "__name__" → mb x = bootBuiltins x) (hlim : s₁.heap.NoLimit) (hg : s₁.gens = #[])
    (ha : s₁.heap.get? a = some { cls := .type "list", data := .seq vs.toArray }) (hi : IntsAre vs ns) (hl : ns.length ≤ sizeLine) (hr : Room k callerA)
    (F : ∀ base : Heap, K.In base → base.Ns mainGlobals mg → FnOk P w K mg base CX k fa fd [x] sp) (hbind : ∀ (s : Shared) (u : Value), BindsTo s fd ⟨[u], []⟩ [(x, u)])
    (hsp : ∀ H : Hp, Only H → SqL K H a (ns.map V.int) → sp [.ref a] H (fun v _ => v = .bl true) fun _ _ _ => False)
    (hCX : ∀ H e s', CX [] H s₁ (fun _ _ _ => False) e s' → False) :
    codeAny (model P w) callerA (.call (.ref fa) ⟨[.ref a], []⟩) (fun r s' => r = .ok (.ret (.bool true)) ∧ OldK s₁.heap s'.heap ∧ s'.os = s₁.os ∧ AllBare s'.gens) s₁ := by
  have rv := vals_ints hi
  have lenV := hi.length
  -- from an abstract heap in which nothing but the script may be tracked
  have core : ∀ H : Hp, Only H → SqL K H a (ns.map V.int) → HOk P w H s₁.heap → (∀ b, H b ≠ none → b = a) → (H a ≠ none → K.lookup a = none) →
      codeAny (model P w) callerA (.call (.ref fa) ⟨[.ref a], []⟩) (fun r s' => r = .ok (.ret (.bool true)) ∧ OldK s₁.heap s'.heap ∧ s'.os = s₁.os ∧ AllBare s'.gens) s₁ := by
    intro H hO hS hok hA hK
    have base_of : ∀ {b : Addr} {o : Obj}, s₁.heap.get? b = some o → H b = none → (hidT s₁.heap H).get? b = some o := fun e n => hidT_get e n
    have noA : ∀ {b : Addr} {o : Obj} {es : Array DictEntry} {ep : Nat}, s₁.heap.get? b = some o → o.data = .dict es ep → H b = none := fun {b o es ep} e d => by
      cases q : H b with
      | none => rfl
      | some u =>
        have e' : b = a := hA b (by rw [q]; simp)
        subst e'
        rw [ha] at e; cases e
        have d' : Data.seq vs.toArray _ = Data.dict es ep := d
        cases d'
    have nsK : ∀ {b : Addr} {m : Str → Option Value}, s₁.heap.Ns b m → (hidT s₁.heap H).Ns b m := fun {b m} ⟨o, es, ep, e, d, r⟩ => ⟨o, es, ep, base_of e (noA e d), d, r⟩
    have hKb : K.In (hidT s₁.heap H) := fun b o e => base_of (KX b o e) (by
      cases q : H b with
      | none => rfl
      | some u =>
        have e' : b = a := hA b (by rw [q]; simp)
        subst e'
        rw [hK (by rw [q]; simp)] at e; cases e)
    have hM : Mod K mg (hidT s₁.heap H) := ⟨hKb, nsK hns, ⟨mb, nsK hb, hbb⟩, let ⟨mc, h1, h2⟩ := hlim; ⟨mc, nsK h1, h2⟩⟩
    have e0 : Env0 P w K mg (hidT s₁.heap H) callerA [] s₁ H := ⟨rfl, hM, fun b o e => of_hidT e, Nat.le_of_eq (hidT_size _ _), trivial, fun b hb => absurd (show b ∈ ([] : List Addr) from hb) (by simp), hok, .of_eq hg⟩
    refine codeAny_mono ((F _ hKb (nsK hns)).run callerA [] s₁ H ⟨[.ref a], []⟩ [.ref a] [.ref a] _ _ hr e0 (hbind s₁ (.ref a)) (.cons rfl .nil) (hsp H hO hS)) fun r s' h => ?_
    cases r with
    | error e => exact (hCX H e s' h).elim
    | ok fl =>
      cases fl with
      | next => exact False.elim h
      | brk => exact False.elim h
      | cont => exact False.elim h
      | ret u =>
        obtain ⟨v, H', os, bare, un, hok', r', q⟩ := h
        have q' : v = .bl true := q
        subst q'
        obtain rfl : u = Value.bool true := r'
        refine ⟨rfl, OldK.of_keep fun b o e => ?_, os, bare⟩
        cases q : H b with
        | none => exact un.keep b o e q (by intro z; exact absurd (show b ∈ ([] : List Addr) from z) (by simp)) (by simp)
        | some u =>
          rcases hO b with z | ⟨ob, xs, z⟩
          · rw [q] at z; cases z
          · have z2 := un.frzs b ob _ z
            obtain ⟨e1, _⟩ := hok b _ z
            obtain ⟨e2, _⟩ := hok' b _ z2
            rw [e] at e1; cases e1
            exact e2
  cases hk : K.lookup a with
  | some o =>
    -- the script is one of the module's own objects
    have e := KX a o hk
    rw [ha] at e
    cases e
    refine core (fun _ => none) (fun _ => .inl rfl) (.inr ⟨_, vs.toArray, _, hk, rfl, rfl, rfl, by rw [List.size_toArray, lenV]; exact hl, by simpa using rv⟩) (fun b u z => by have z' : (none : Option HO) = some u := z; cases z') (fun b z => absurd rfl z) fun z => absurd rfl z
  | none =>
    refine core (fun b => if b = a then some (.frz { cls := .type "list", data := .seq vs.toArray } (.lst (ns.map V.int))) else none) (fun b => ?_) (.inl (.inr ⟨{ cls := .type "list", data := .seq vs.toArray }, if_pos rfl⟩)) (fun b u z => ?_) (fun b z => ?_) fun _ => hk
    · by_cases hb : b = a
      · exact .inr ⟨_, _, if_pos hb⟩
      · exact .inl (if_neg hb)
    · by_cases hb : b = a
      · have z' := (if_pos hb).symm.trans z
        cases z'
        subst hb
        exact ⟨ha, by rw [List.length_map]; exact hl, vs, _, rv, ha⟩
      · have z' := (if_neg hb).symm.trans z
        cases z'
    · by_cases hb : b = a
      · exact hb
      · exact absurd (if_neg hb) z
end L2

namespace L2
open PySem PySem.Spec PyProof.Rows

abbrev KOf {K : PySem.W.Frag} {h : Heap} (_ : K.In h) : PySem.W.Frag := K

end L2

/-! SHORT WORDS over the layer: a def of the text, its body, what a loop and a test want. -/
namespace L2
open PySem PySem.Spec PyProof.Rows

/-! ### the text by places -/
/-- the j-th statement of a class's body -/
def inClass (s : Stmt) (j : Nat) : Stmt := match s with
  | .ClassDef _ _ _ body _ _ _ _ _ _ _ => body.getD j (.Pass ⟨0, 0, 0, 0⟩)
  | _ => .Pass ⟨0, 0, 0, 0⟩
def defArgs (s : Stmt) : Arguments := match s with
  | .FunctionDef _ a _ _ _ _ _ _ _ _ => a
  | _ => { posonlyargs := [], args := [], vararg := none, kwonlyargs := [], kw_defaults := [], kwarg := none, defaults := [] }
def defBody (s : Stmt) : List Stmt := match s with
  | .FunctionDef _ _ b _ _ _ _ _ _ _ => b
  | _ => []
def defScope (s : Stmt) : Scope := match s with
  | .FunctionDef _ _ _ _ _ _ sc _ _ _ => sc
  | _ => { kind := .function, names := [], isGenerator := false, isCoroutine := false }

/-! ### no exception leaves a def -/
abbrev CX0 : CXT := fun _ _ _ _ _ _ => False
abbrev E0 : XK := fun _ _ _ => False
theorem pass0 {X : Cx} : Passes CX0 X E0 := fun _ _ _ _ _ _ _ h => h.elim

/-! ### a def (or method) of the text as it stands behind the top -/
structure Fun (K : PySem.W.Frag) (x qual : Str) (st : Stmt) (f : Addr) (fd : FuncData) : Prop where
  ex : ∃ (oc : Value) (od : Option Addr) (kV doc pm : Value) (an : Option Addr) (cdv ct : Value) (osl : Array (Option Value)),
    fd = PySem.W.fnOf x qual (defArgs st) (defBody st) (defScope st) .none kV doc pm an cdv ct ∧ K.lookup f = some ⟨oc, od, .func fd, osl⟩ ∧ PySem.W.codeIn K cdv qual = true
  kp : PySem.W.keepIn K (.ref f) = true
section
variable {P : Program} {w : World} {K : PySem.W.Frag} {mg : Str → Option Value} {base : Heap}
/-- THE RULE for a def: its body as a term of rules, and the reading of that term -/
theorem Fun.ok {x qual : Str} {st : Stmt} {f : Addr} {fd : FuncData} {N ps : List Str} {k : Nat} {sp : Sp} (F : Fun K x qual st f fd) (S : FnScope N ps (defScope st)) (len : ∀ vs H Q E, sp vs H Q E → vs.length = ps.length)
    (hbody : ∀ (cdv : Value) (A : Around) (outer : List Env) (s : Shared) (H : Hp) (vs : List V) (Q : VK) (E : XK), Room k (A.deeper (envOfC qual (defScope st) s.heap.objs.size f cdv)) → sp vs H Q E →
      ∃ t, PSs (cxOf CX0 P w K mg base N qual (defScope st) f cdv A outer s H E).nox (defBody st) t ∧ t { nx := fun _ H' => Q .non H', rt := Q } (start N vs) H) : FnOk P w K mg base CX0 (k + 1) f fd ps sp := by
  obtain ⟨oc, od, kV, doc, pm, an, cdv, ct, osl, rfl, lk, hcd⟩ := F.ex
  refine fn_of lk hcd S len fun A outer s H vs Q E hr hsp => ?_
  obtain ⟨t, h, q⟩ := hbody cdv A outer s H vs Q E hr hsp
  exact ⟨t, h.nox, q⟩
/-- how its arguments bind (no defaults): h is «fun _ _ _ _ _ _ us hl => match us, hl with | [_, _], _ => rfl», one _ a parameter -/
theorem Fun.binds {x qual : Str} {st : Stmt} {f : Addr} {fd : FuncData} {ps : List Str} (F : Fun K x qual st f fd)
    (h : ∀ (kV doc pm : Value) (an : Option Addr) (cdv ct : Value) (us : List Value), us.length = ps.length → bindArgs (PySem.W.fnOf x qual (defArgs st) (defBody st) (defScope st) .none kV doc pm an cdv ct) ⟨us, []⟩ = pure (ps.zip us)) : Binds K fd ps [] := by
  obtain ⟨oc, od, kV, doc, pm, an, cdv, ct, osl, rfl, lk, hcd⟩ := F.ex
  exact .all (h kV doc pm an cdv ct)
theorem fun_mk {x qual : Str} {st : Stmt} {f : Addr} {oc : Value} {od an : Option Addr} {osl : Array (Option Value)} {kV doc pm cdv ct : Value} (l : K.lookup f = some ⟨oc, od, .func (PySem.W.fnOf x qual (defArgs st) (defBody st) (defScope st) .none kV doc pm an cdv ct), osl⟩)
    (c : PySem.W.codeIn K cdv qual = true) (k : PySem.W.keepIn K (.ref f) = true) : Fun K x qual st f (PySem.W.fnOf x qual (defArgs st) (defBody st) (defScope st) .none kV doc pm an cdv ct) := ⟨⟨oc, od, kV, doc, pm, an, cdv, ct, osl, rfl, l, c⟩, k⟩
end
theorem small1000 {n : Nat} (h : n ≤ 1000) : n < sizeLine := Nat.lt_of_le_of_lt h (by decide)

/-! ### expressions in short: the name that stands in the i-th slot -/
section
variable {X : Cx}
theorem pv (i : Nat) {x : Str} {pos : Pos} (hN : X.N[i]? = some x := by rfl) (hv : Vis X.env.scope x := by first | exact Or.inl rfl | exact Or.inr (Or.inl rfl) | exact Or.inr (Or.inr rfl)) (hd : (x == ("__debug__" : Str)) = false := by decide)
    (hcd : (x == ("__classdict__" : Str)) = false := by decide) : PE X (.Name x pos) (tVar i) := pe_var hN hv hd hcd
end

/-! ### tests -/
theorem iteT {A B : Prop} (h : A) : if true = true then A else B := by
  rw [if_pos rfl]
  exact h
theorem ite2 {c A B : Prop} [Decidable c] (h1 : c → A) (h2 : ¬ c → B) : if c then A else B := by
  by_cases h : c
  · rw [if_pos h]
    exact h1 h
  · rw [if_neg h]
    exact h2 h
/-! ### heaps -/
/-- all that was tracked is as it was -/
def Same (H H' : Hp) : Prop := ∀ b o, H b = some o → H' b = some o
theorem Same.refl (H : Hp) : Same H H := fun _ _ h => h
theorem Same.trans {H H1 H2 : Hp} (a : Same H H1) (b : Same H1 H2) : Same H H2 := fun c o h => b c o (a c o h)
theorem Same.free {H H' : Hp} (e : Same H H') {l : Addr} (h : H' l = Option.none) : H l = Option.none := by
  cases q : H l with
  | none => rfl
  | some o =>
    rw [e l o q] at h
    cases h
theorem Same.seq {K : PySem.W.Frag} {H H' : Hp} {a : Addr} {xs : List V} (e : Same H H') (h : SqL K H a xs) : SqL K H' a xs := by
  rcases h with (h | ⟨o, h⟩) | h
  · exact .inl (.inl (e _ _ h))
  · exact .inl (.inr ⟨o, e _ _ h⟩)
  · exact .inr h

end L2

set_option Elab.async false
set_option linter.all false
set_option maxRecDepth 100000
set_option maxHeartbeats 4000000
/-! COMPREHENSIONS over the hand layer: [elt for x in iter], [elt for x in iter if c] -/
namespace L2
open PySem PySem.Spec PyProof.Rows

theorem HOk.track {P : Program} {w : World} {H : Hp} {h : Heap} {a : Addr} {o : HO} (x : HOk P w H h) (hn : H a = none) (new : ObjOk P w (upd H a o) h a o) : HOk P w (upd H a o) h := fun b u e => by
  by_cases hb : b = a
  · subst hb; rw [upd_same] at e; cases e; exact new
  · rw [upd_ne hb] at e
    exact (x b u e).stay (fun c v _ q => q) (fun c q => by rw [upd_ne (ne_of_none q hn)]; exact q) fun c xs q => by rw [upd_ne (ne_of_none q hn)]; exact q
theorem HOk.same {P : Program} {w : World} {H : Hp} {h h' : Heap} {C : Addr} (x : HOk P w H h) (hn : H C = none) (hs : Heap.SameBut C h h') : HOk P w H h' := fun b u e => by
  refine (x b u e).stay (fun c v hc q => hs.extBut c v ?_ q) (fun _ q => q) fun _ _ q => q
  rcases hc with z | z
  · rw [z]; exact ne_of_none e hn
  · exact ne_of_none z hn

/-- the block's context -/
def blockCx (X : Cx) (scope : Scope) (N' : List Str) (cl : List (Str × Addr)) (C : Addr) (s : Shared) (H : Hp) (ex : List Addr) : Cx where
  prog := X.prog
  w := X.w
  K := X.K
  mg := X.mg
  base := X.base
  A := X.A
  N := N'
  s₀ := s
  H₀ := H
  env := compEnvC scope cl C X.env
  outer := X.stack
  stack := X.stack
  ex := ex
  fn := fun _ => false
  calm := X.calm
  pn := []
  xe := fun _ _ => False

/-- the names that the block sees: its own, then those at caps among the frame's -/
def capN (X : Cx) (x : Str) (caps : List Nat) : List Str := x :: caps.map fun j => X.N.getD j Str.empty
def capS (σ : St) (caps : List Nat) : St := caps.map fun j => (σ[j]?).getD none

/-- the block's scope, looked at once (all by rfl or decide) -/
structure BlkOk (X : Cx) (scope : Scope) (x : Str) (caps : List Nat) : Prop where
  kind : scope.kind = .function
  nocell : ∀ y ∈ scope.names, y.2 ≠ .cell
  locs : ∀ y ∈ scope.names, y.2 = .local → scope.names.lookup y.1 = some .local
  own : scope.names.lookup x = some .local
  frees : ∀ y ∈ scope.names, y.2 = .free → X.env.kindOf y.1 = some .cell
  cap : ∀ j ∈ caps, (X.N[j]?).isSome = true ∧ X.env.kindOf (X.N.getD j Str.empty) = some .cell ∧ scope.names.lookup (X.N.getD j Str.empty) = some .free
  nd : (capN X x caps).Nodup

theorem closure_some {env : Env} : ∀ (names : List (Str × NameKind)) (acc : List (Str × Addr)), (∀ y ∈ names, y.2 = .free → ∃ c, env.cells.lookup y.1 = some c) → (∀ x c, acc.lookup x = some c → env.cells.lookup x = some c) →
    ∃ cl, (forIn names acc fun (p : Str × NameKind) (r : List (Str × Addr)) => (do
      if (p.2 == NameKind.free) = true then do let a ← cellOf env p.1; pure (ForInStep.yield ((p.1, a) :: r)) else pure (ForInStep.yield r) : Sem _)) = pure cl ∧
      (∀ x c, cl.lookup x = some c → env.cells.lookup x = some c) ∧ (∀ x c, acc.lookup x = some c → ∃ c', cl.lookup x = some c') ∧ ∀ x, (x, NameKind.free) ∈ names → ∃ c, cl.lookup x = some c
  | [], acc, _, ha => ⟨acc, rfl, ha, fun x c h => ⟨c, h⟩, fun x h => nomatch h⟩
  | (n, k) :: r, acc, hn, ha => by
    by_cases hk : k = .free
    · subst hk
      obtain ⟨c, hc⟩ := hn (n, .free) List.mem_cons_self rfl
      have ha' : ∀ x d, (((n, c) :: acc : List (Str × Addr))).lookup x = some d → env.cells.lookup x = some d := fun x d h => by
        rw [List.lookup_cons] at h
        cases e : x == n with
        | true =>
          rw [e] at h
          have : x = n := by simpa using e
          subst this
          cases h
          exact hc
        | false => rw [e] at h; exact ha x d h
      obtain ⟨cl, h1, h2, h3, h4⟩ := closure_some r ((n, c) :: acc) (fun y hy => hn y (List.mem_cons_of_mem _ hy)) ha'
      refine ⟨cl, ?_, h2, fun x d h => ?_, fun x hx => ?_⟩
      · rw [List.forIn_cons]
        have e : cellOf env n = pure c := by unfold cellOf; rw [hc]
        simp only [beq_self_eq_true, if_true, e]
        exact h1
      · by_cases hx : x = n
        · subst hx
          exact h3 x c (by rw [List.lookup_cons]; simp)
        · exact h3 x d (by rw [List.lookup_cons, beq_false_of_ne hx]; exact h)
      · rcases List.mem_cons.mp hx with e | hx
        · cases e
          exact h3 _ c (by rw [List.lookup_cons]; simp)
        · exact h4 x hx
    · have hb : (k == NameKind.free) = false := by simpa using hk
      obtain ⟨cl, h1, h2, h3, h4⟩ := closure_some r acc (fun y hy => hn y (List.mem_cons_of_mem _ hy)) ha
      refine ⟨cl, ?_, h2, h3, fun x hx => ?_⟩
      · rw [List.forIn_cons]
        simp only [hb, Bool.false_eq_true, if_false]
        exact h1
      · rcases List.mem_cons.mp hx with e | hx
        · cases e; exact absurd rfl hk
        · exact h4 x hx

theorem relabel_shape {env : Env} : ∀ {names : List (Str × NameKind)} {x : Str} {k : NameKind}, (names.map fun (n, k) => if (k == NameKind.free && env.scope.kind == .function && env.kindOf n == some .cell) then (n, NameKind.cell) else (n, k)).lookup x = some k →
    (∃ k0, (x, k0) ∈ names ∧ names.lookup x = some k0 ∧ (k0 = k ∨ (k0 = .free ∧ k = .cell)))
  | [], _, _, h => by simp at h
  | (n, k0) :: r, x, k, h => by
    rw [List.map_cons, List.lookup_cons] at h
    cases hx : x == n with
    | true =>
      have e : x = n := by simpa using hx
      subst e
      refine ⟨k0, List.mem_cons_self, by rw [List.lookup_cons]; simp, ?_⟩
      by_cases hc : (k0 == NameKind.free && env.scope.kind == .function && env.kindOf x == some .cell) = true
      · rw [if_pos hc] at h
        simp at h
        have : k0 = .free := by
          simp only [Bool.and_eq_true] at hc
          simpa using hc.1.1
        exact .inr ⟨this, h.symm⟩
      · rw [if_neg hc] at h
        simp at h
        exact .inl h
    | false =>
      have h' : (r.map fun (n, k) => if (k == NameKind.free && env.scope.kind == .function && env.kindOf n == some .cell) then (n, NameKind.cell) else (n, k)).lookup x = some k := by
        by_cases hc : (k0 == NameKind.free && env.scope.kind == .function && env.kindOf n == some .cell) = true
        · rw [if_pos hc] at h; simpa [hx] using h
        · rw [if_neg hc] at h; simpa [hx] using h
      obtain ⟨k1, a, b, c⟩ := relabel_shape h'
      exact ⟨k1, List.mem_cons_of_mem _ a, by rw [List.lookup_cons, hx]; exact b, c⟩

/-- the tests of a clause -/
def PIfs (X : Cx) (ifs : List Expr) (t : TT) : Prop :=
  ∀ (pins : List (Addr × Obj)) (s : Shared) (σ : St) (H : Hp) (Q : Bool → Hp → Prop), Inv X pins σ H s → t σ H Q →
    wpAny (model X.prog X.w) X.A (forIn ifs true fun c r => if r = true then do let ok ← isTrue c X.env (eval c X.env); pure (ForInStep.yield ok) else pure (ForInStep.yield r)) (TP X pins σ Q) X.xe s
def tAll : TT := fun _ H Q => Q true H
theorem pifs_nil {X : Cx} : PIfs X [] tAll := fun _ _ _ H _ I h => wpAny_tests_nil ⟨H, I, h⟩
theorem pifs_one {X : Cx} {c : Expr} {t : TT} (h : PT X c t) : PIfs X [c] t := fun pins s σ H Q I hq => wpAny_tests_one (h pins s σ H Q I hq)

/-- what a turn wants: W the invariant (turn, measure, the list so far, heap) -/
def CompW (J : It) (cap : St) (tc : TT) (te : TE) (Fin : List V → Hp → Prop) (W : Nat → Nat → List V → Hp → Prop) : Prop :=
  ∀ i m ys H, W i m ys H → ys.length < sizeLine ∧ ((J.stop i H ∧ Fin ys H) ∨ (J.go i H ∧ ∃ N : List V → Hp → Prop, (∀ ys' H', N ys' H' → ∃ m', m' < m ∧ W (i + 1) m' ys' H') ∧ ∀ x H', J.yld i H x H' →
    tc (some x :: cap) H' fun b H2 => if b = true then te (some x :: cap) H2 fun y H3 => N (ys ++ [y]) H3 else N ys H2))
def tComp (wi : TI) (caps : List Nat) (tc : TT) (te : TE) : TE := fun σ H Q => wi σ H fun J H1 => ∃ W : Nat → Nat → List V → Hp → Prop, (∃ m, W 0 m [] H1) ∧
  CompW J (capS σ caps) tc te (fun ys H => ∀ p, H p = none → Q (.ref p) (upd H p (.lst ys))) W

section
variable {X : Cx} {pins : List (Addr × Obj)} {σ : St} {H2 : Hp} {s2 : Shared}

theorem blk_start {scope : Scope} {x : Str} {caps : List Nat} {cl : List (Str × Addr)} {fp : List Addr} {s3 : Shared} {D : Addr} {h1 : Heap} {tk : Nat} {m : Str → Option Value} (B : BlkOk X scope x caps) (I2 : Inv X pins σ H2 s2) (f2 : ∀ b ∈ fp, FpOk X pins H2 b)
    (c1 : ∀ x c, cl.lookup x = some c → X.env.cells.lookup x = some c) (c2 : ∀ x, (x, NameKind.free) ∈ scope.names → ∃ c, cl.lookup x = some c)
    (I3 : Inv X pins σ H2 s3) (hD : D = s2.heap.objs.size) (h3 : s3.heap.objs.size = D + 1) (old : ∀ b o, s3.heap.get? b = some o → h1.get? b = some o) (hfp : ∀ b ∈ fp, b < s2.heap.objs.size)
    (hn : h1.Ns s3.heap.objs.size m) :
    Inv (blockCx X scope (capN X x caps) cl s3.heap.objs.size s3 H2 (D :: fp)) [] (none :: capS σ caps) H2 { s3 with heap := h1, toks := tk } := by
  have neD : ∀ b o, s2.heap.get? b = some o → b ≠ D := fun b o e => by rw [hD]; exact Nat.ne_of_lt (Heap.lt_size e)
  have exlt : ∀ b ∈ D :: fp, b < s3.heap.objs.size := fun b hb => by
    rw [h3]
    rcases List.mem_cons.mp hb with e | hb
    · rw [e]; exact Nat.lt_succ_self _
    · exact Nat.lt_succ_of_lt (by rw [hD]; exact hfp b hb)
  have keeps := I3.hok.kept (h' := h1) old
  refine ⟨⟨I2.mod, B.kind, I2.ok.glob, I2.ok.blt, Nat.le_refl _, fun y z c e1 e2 => ?_, fun y hy => ?_, fun y c e _ => (by cases e), fun hc => I2.ok.hd hc, I2.ok.frames, .inl rfl, fun b hb => ?_, fun b o e => ?_, ?_, fun b o e hb => ?_, fun b hb hf => ?_, I3.stack, fun b hb => I2.stkFree b hb⟩,
    rfl, I3.bare, Un.kept old, ⟨m, hn, fun i y v e1 e2 e3 => ?_⟩, fun y c e => ?_, I3.hok.fresh (Nat.le_refl _), fun y c e => I3.freeC y c (c1 y c e), fun p hp => (nomatch hp), keeps, ?_⟩
  · exact I2.ok.inj y z c (c1 y c e1) (c1 z c e2)
  · have hy : (relabel scope X.env).names.lookup y = some .cell ∨ (relabel scope X.env).names.lookup y = some .free := hy
    rcases hy with hy | hy
    · obtain ⟨k0, a, b, c⟩ := relabel_shape hy
      rcases c with c | ⟨c, _⟩
      · subst c; exact absurd rfl (B.nocell _ a)
      · subst c; exact c2 y a
    · obtain ⟨k0, a, b, c⟩ := relabel_shape hy
      rcases c with c | ⟨_, c⟩
      · subst c; exact c2 y a
      · cases c
  · refine ⟨Nat.ne_of_lt (exlt b hb), fun y c e z => ?_⟩
    have e' := c1 y c e
    rcases List.mem_cons.mp hb with q | q
    · obtain ⟨v, o, ho, _⟩ := I2.cell y c e'
      exact neD c o ho (z.trans q)
    · exact (f2 b q).2.2.2.2.1 y c e' z
  · exact I3.bs b o e
  · exact Nat.le_trans I2.ok.bsz (Nat.le_trans I2.sz (show s2.heap.objs.size ≤ s3.heap.objs.size by rw [h3, hD]; exact Nat.le_succ _))
  · rcases List.mem_cons.mp hb with q | q
    · exact neD b o (I2.bk b o e) q
    · rcases (f2 b q).2.2.2.1 with z | z
      · exact I2.ok.noex b o e z
      · exact absurd (Nat.lt_of_lt_of_le (Heap.lt_size (I2.ok.bs b o e).1) z) (Nat.lt_irrefl _)
  · have hf : b ∈ frs X.stack := hf
    rcases List.mem_cons.mp (I2.stkSub b hf) with z | z
    · rcases List.mem_cons.mp hb with q | q
      · exact absurd I2.lt (by rw [← z, q, hD]; exact Nat.lt_irrefl _)
      · exact (f2 b q).2.1 z
    · rcases List.mem_cons.mp hb with q | q
      · exact I2.nofs (a := b) (by rw [q, hD]; exact Nat.le_refl _) z
      · exact (f2 b q).2.2.1 z
  · cases i with
    | zero => cases e2
    | succ j =>
      have e1 : (caps.map fun j => X.N.getD j Str.empty)[j]? = some y := e1
      have e2 : (caps.map fun j => (σ[j]?).getD none)[j]? = some (some v) := e2
      rw [List.getElem?_map] at e1 e2
      cases hj : caps[j]? with
      | none => rw [hj] at e1; cases e1
      | some q =>
        rw [hj] at e1 e2
        have e1' : X.N.getD q Str.empty = y := Option.some.inj e1
        have e2' : (σ[q]?).getD none = some v := Option.some.inj e2
        obtain ⟨hs, hk, hsc⟩ := B.cap q (List.mem_of_getElem? hj)
        obtain ⟨y', hy'⟩ := Option.isSome_iff_exists.mp hs
        have ey : y' = y := by rw [← e1', List.getD_eq_getElem?_getD, hy']; rfl
        subst ey
        have es : σ[q]? = some (some v) := by
          cases hq : σ[q]? with
          | none => rw [hq] at e2'; cases e2'
          | some o => rw [hq] at e2'; exact congrArg some e2'
        rw [e1'] at hk hsc
        obtain ⟨m2, _, hl⟩ := I3.loc
        have hk' : X.env.scope.names.lookup y' = some .cell := hk
        obtain ⟨u, r, l⟩ := hl q y' v hy' es (.inr (.inl hk'))
        refine ⟨u, r, .inr ⟨?_, ?_⟩⟩
        · rcases e3 with e3 | e3 | e3
          · obtain ⟨k0, a, b, c⟩ := relabel_shape (show (relabel scope X.env).names.lookup y' = some .local from e3)
            rw [hsc] at b
            cases b
            rcases c with c | ⟨_, c⟩ <;> cases c
          · exact .inl e3
          · exact .inr e3
        · rcases l with ⟨l, _⟩ | ⟨_, c, hc, z⟩
          · rw [hk] at l; cases l
          · obtain ⟨c', hc'⟩ := c2 y' (PySem.mem_of_lookup hsc)
            have ec : c' = c := Option.some.inj ((c1 y' c' hc').symm.trans hc)
            subst ec
            obtain ⟨o, ho, hd⟩ := z
            exact ⟨c', hc', o, old c' o ho, hd⟩
  · obtain ⟨v, o, ho, hd⟩ := I3.cell y c (c1 y c e)
    exact ⟨v, o, old c o ho, hd⟩
  · show _ = (capN X x caps).length
    unfold capN capS
    rw [List.length_cons, List.length_cons, List.length_map, List.length_map]

theorem closureFor_cl {scope : Scope} {env : Env} (h : ∀ y ∈ scope.names, y.2 = .free → ∃ c, env.cells.lookup y.1 = some c) :
    ∃ cl, closureFor scope env = pure cl ∧ (∀ x c, cl.lookup x = some c → env.cells.lookup x = some c) ∧ ∀ x, (x, NameKind.free) ∈ scope.names → ∃ c, cl.lookup x = some c := by
  obtain ⟨cl, h1, h2, _, h4⟩ := closure_some (env := env) scope.names [] h (fun x c e => nomatch e)
  refine ⟨cl, ?_, h2, h4⟩
  simp only [closureFor]
  have e : (forIn scope.names ([] : List (Str × Addr)) fun x r =>
      (match x with
      | (name, kind) => if (kind == NameKind.free) = true then do let a ← cellOf env name; pure (ForInStep.yield ((name, a) :: r)) else pure (ForInStep.yield r) : Sem (ForInStep (List (Str × Addr))))) = pure cl := h1
  first
    | (rw [e]; rfl)
    | (refine Eq.trans (congrArg (· >>= pure) ?_) (rfl : (pure cl >>= pure : Sem _) = pure cl); exact e)

theorem compLoop_lg {prog : Program} {w : World} {A : Around} {R : Result → Shared → Prop} {s : Shared} {elt target iter : Expr} {ifs : List Expr} {scope : Scope} {pos : Pos} {it acc : Value} {env : Env} (I : Nat → Shared → Prop)
    (turn : ∀ n s, I n s → wpAny (model prog w) A (pyNext it) (fun r s₁ => match r with
      | none => R (.ok .next) s₁
      | some v => wpAny (model prog w) A (letOwnedTupleGo target it v) (fun _ s₁ => wpAny (model prog w) A (assign target env v) (fun _ s₂ =>
          wpAny (model prog w) A (forIn ifs true fun c r => if r = true then do let ok ← isTrue c env (eval c env); pure (ForInStep.yield ok) else pure (ForInStep.yield r)) (fun ok s₃ =>
            if ok = true then wpAny (model prog w) A (eval elt env) (fun x s₄ =>
              wpAny (model prog w) A (call (.builtin "list.append") [acc, x]) (fun _ s₅ => ∃ m, m < n ∧ I m s₅) (fun _ _ => False) s₄) (fun _ _ => False) s₃
            else ∃ m, m < n ∧ I m s₃) (fun _ _ => False) s₂) (fun _ _ => False) s₁) (fun _ _ => False) s₁) (fun _ _ => False) s)
    (n : Nat) (h : I n s) :
    codeAny (model prog w) A (.compLoop (.ListComp elt [⟨target, iter, ifs, 0⟩] scope pos) 0 it acc env) R s := by
  refine codeAny_loop rfl I (fun n s hI => ?_) n h
  show wpAny _ A ((compTurn (.ListComp elt [⟨target, iter, ifs, 0⟩] scope pos) 0 it acc env).onRaise (fun x => do noteFrame x env; theTreesLotGoes x)) _ _ s
  refine wpAny_noted ?_
  rw [compTurn_list]
  refine wpAny_bind (wpAny_standAt (wpAny_bind (wpAny_mono (turn n s hI) (fun r s₁ h₁ => ?_) fun _ _ h' => h'.elim)))
  cases r with
  | none => exact wpAny_pure h₁
  | some v =>
    refine wpAny_bind (wpAny_mono h₁ (fun _ s₁ h₁ => ?_) fun _ _ h' => h'.elim)
    refine wpAny_bind (wpAny_mono h₁ (fun _ s₂ h₂ => wpAny_bind (wpAny_mono h₂ (fun ok s₃ h₃ => ?_) fun _ _ h' => h'.elim)) fun _ _ h' => h'.elim)
    cases ok with
    | false => exact wpAny_pure ⟨rfl, h₃⟩
    | true =>
      exact wpAny_bind (wpAny_bind (wpAny_mono h₃ (fun x s₄ h₄ => wpAny_bind (wpAny_mono h₄ (fun _ s₅ h₅ => wpAny_pure (wpAny_pure ⟨rfl, h₅⟩)) fun _ _ h' => h'.elim)) fun _ _ h' => h'.elim))

theorem comp_core {scope : Scope} {x : Str} {px : Pos} {caps : List Nat} {elt iter : Expr} {ifs : List Expr} {pos : Pos} {cl : List (Str × Addr)} {fp : List Addr} {it : Addr} {tn : Nat → Heap → Prop} {J : It} {tc : TT} {te : TE} {Fin : List V → Hp → Prop} {W : Nat → Nat → List V → Hp → Prop} {E : Value → Shared → Prop}
    {RR : Value → Addr → Result → Shared → Prop} {m0 : Nat} (hc : X.calm = true) (B : BlkOk X scope x caps) (I2 : Inv X pins σ H2 s2) (T : Turn X.prog X.w X.K (.Name x px) J fp it tn) (st2 : tn 0 s2.heap) (f2 : ∀ b ∈ fp, FpOk X pins H2 b)
    (c1 : ∀ x c, cl.lookup x = some c → X.env.cells.lookup x = some c) (c2 : ∀ x, (x, NameKind.free) ∈ scope.names → ∃ c, cl.lookup x = some c)
    (hI : ∀ cl C s H ex, PIfs (blockCx X scope (capN X x caps) cl C s H ex) ifs tc) (hE : ∀ cl C s H ex, PE (blockCx X scope (capN X x caps) cl C s H ex) elt te)
    (w0 : W 0 m0 [] H2) (cw : CompW J (capS σ caps) tc te Fin W)
    (hRR : ∀ D C s' H' ys m, H' D = none → s'.heap.Ns C m → FpOk X pins (upd H' D (.lst ys)) C → Inv X pins σ (upd H' D (.lst ys)) s' → Fin ys H' → RR (.ref D) C (.ok .next) s') :
    wpAny (model X.prog X.w) X.A (newList []) (fun acc s₃ => wpAny (model X.prog X.w) X.A (newFunctionEnv scope X.env.globals cl [] X.env.qual none .none (some X.env)) (fun cenv s₄ =>
      codeAny (model X.prog X.w) X.A (.compStart (.ListComp elt [⟨.Name x px, iter, ifs, 0⟩] scope pos) 0 (.ref it) acc { cenv with scope := relabel scope X.env }) (RR acc cenv.locals) s₄) E s₃) E s2 := by
  refine wpAny_newObj_type (wpAny_newFunctionEnv B.nocell (by intro y hy; simp at hy) (fun h₁ hns₁ hsb₁ => ?_) B.kind)
  dsimp only at hns₁ hsb₁ ⊢
  have hfp : ∀ b ∈ fp, b < s2.heap.objs.size := fun b hb => by
    obtain ⟨o, e, _⟩ := T.obj _ _ st2 b hb
    exact Heap.lt_size e
  have I3 : Inv X pins σ H2 { s2 with heap := s2.heap.push { cls := .type "list", dict := none, data := .seq ([] : List Value).toArray } } := I2.kept (t' := s2.toks) fun b o e => Heap.get?_push_of_some _ e
  have h3 : (s2.heap.push { cls := .type "list", dict := none, data := .seq ([] : List Value).toArray }).objs.size = s2.heap.objs.size + 1 := Heap.size_push ..
  have hobj : (s2.heap.push { cls := .type "list", dict := none, data := .seq ([] : List Value).toArray }).get? s2.heap.objs.size = some { cls := .type "list", dict := none, data := .seq ([] : List Value).toArray } := Heap.get?_push_size _ rfl
  have old3 : ∀ b o, s2.heap.get? b = some o → (s2.heap.push { cls := .type "list", dict := none, data := .seq ([] : List Value).toArray }).get? b = some o := fun b o e => Heap.get?_push_of_some _ e
  generalize hH3 : s2.heap.push { cls := .type "list", dict := none, data := .seq ([] : List Value).toArray } = h3' at hns₁ hsb₁ I3 h3 hobj old3 ⊢
  have old : ∀ b o, h3'.get? b = some o → h₁.get? b = some o := fun b o e => hsb₁.extBut b o (Nat.ne_of_lt (Heap.lt_size e)) (Heap.get?_push_of_some _ e)
  have hDC : s2.heap.objs.size ≠ h3'.objs.size := by rw [h3]; exact Nat.ne_of_lt (Nat.lt_succ_self _)
  have IB := blk_start (cl := cl) (fp := fp) (s3 := { s2 with heap := h3' }) (D := s2.heap.objs.size) (h1 := h₁) (tk := s2.toks + ([] : List (Str × Value)).length) B I2 f2 c1 c2 I3 rfl h3 old hfp hns₁
  generalize hY : blockCx X scope (capN X x caps) cl h3'.objs.size { s2 with heap := h3' } H2 (s2.heap.objs.size :: fp) = Y at IB
  have yP : Y.prog = X.prog := by rw [← hY]; rfl
  have yw : Y.w = X.w := by rw [← hY]; rfl
  have yK : Y.K = X.K := by rw [← hY]; rfl
  have yA : Y.A = X.A := by rw [← hY]; rfl
  have yc : Y.calm = true := by rw [← hY]; exact hc
  have yenv : Y.env = compEnvC scope cl h3'.objs.size X.env := by rw [← hY]; rfl
  have hIY : PIfs Y ifs tc := by rw [← hY]; exact hI _ _ _ _ _
  have hEY : PE Y elt te := by rw [← hY]; exact hE _ _ _ _ _
  have yxe : Y.xe = fun _ _ => False := by rw [← hY]; rfl
  have ypn : Y.pn = [] := by rw [← hY]; rfl
  have hgN : PG Y (.Name x px) (gName 0) := by
    rw [← hY]
    exact pg_name B.nd rfl (.inl (lookup_relabel_local B.own)) (.inr (lookup_relabel_local B.own))
  have fD : ∀ {H' : Hp}, H' s2.heap.objs.size = none → FpOk Y [] H' s2.heap.objs.size := fun {H'} hn => by
    refine ⟨hn, ?_, ?_, ?_, ?_, fun p hp => ?_⟩
    · rw [yenv]; exact hDC
    · exact IB.ok.exfs _ (by rw [← hY]; exact List.mem_cons_self)
    · exact .inl (by rw [← hY]; exact List.mem_cons_self)
    · exact fun y c e => (IB.ok.exf _ (by rw [← hY]; exact List.mem_cons_self)).2 y c e
    · rw [ypn] at hp; exact nomatch hp
  have fF : ∀ {H' : Hp}, (∀ b ∈ fp, H' b = none) → ∀ b ∈ fp, FpOk Y [] H' b := fun {H'} hn b hb => by
    have hm : b ∈ Y.ex := by rw [← hY]; exact List.mem_cons_of_mem _ hb
    refine ⟨hn b hb, ?_, IB.ok.exfs b hm, .inl hm, fun y c e => (IB.ok.exf b hm).2 y c e, fun p hp => ?_⟩
    · exact (IB.ok.exf b hm).1
    · rw [ypn] at hp; exact nomatch hp
  have acc0 : h₁.PlainList s2.heap.objs.size ([] : List Value).toArray := ⟨0, by exact old _ _ hobj⟩
  have loop : ∀ s₃ : Shared, s₃ = { s2 with heap := h₁, toks := s2.toks + ([] : List (Str × Value)).length } →
      codeAny (model X.prog X.w) X.A (.compLoop (.ListComp elt [⟨.Name x px, iter, ifs, 0⟩] scope pos) 0 (.ref it) (.ref s2.heap.objs.size) (compEnvC scope cl h3'.objs.size X.env)) (RR (.ref s2.heap.objs.size) h3'.objs.size) s₃ := by
    rintro s₃ rfl
    refine compLoop_lg (fun n s' => ∃ i ys its H', Inv Y [] (none :: capS σ caps) H' s' ∧ tn i s'.heap ∧ (∀ b ∈ fp, H' b = none) ∧ H' s2.heap.objs.size = none ∧ Vals ys its ∧ s'.heap.PlainList s2.heap.objs.size its.toArray ∧ W i n ys H') ?_ m0
      ⟨0, [], [], H2, IB, T.keep _ _ _ st2 (fun b hb o e => old _ _ (old3 _ _ e)), fun b hb => (f2 b hb).1, I2.fresh, .nil, acc0, w0⟩
    rintro n s3 ⟨i, ys, its, H3, I3', st3, fr3, frD, rv, pl, w3⟩
    have cv : ∀ {α : Type} {f : Sem α} {Q Q' : α → Shared → Prop} {s : Shared}, wpAny (model Y.prog Y.w) Y.A f Q Y.xe s → (∀ a s', Q a s' → Q' a s') → wpAny (model X.prog X.w) X.A f Q' (fun _ _ => False) s := fun {α f Q Q' s} h hq => by
      rw [yP, yw, yA, yxe] at h
      exact wpAny_mono h hq fun _ _ e => e
    have cvX : ∀ {α : Type} {f : Sem α} {Q Q' : α → Shared → Prop} {s : Shared}, wpAny (model X.prog X.w) Y.A f Q (fun _ _ => False) s → (∀ a s', Q a s' → Q' a s') → wpAny (model X.prog X.w) X.A f Q' (fun _ _ => False) s := fun {α f Q Q' s} h hq => by
      rw [yA] at h
      exact wpAny_mono h hq fun _ _ e => e
    obtain ⟨nD, hD3⟩ := id pl
    have plD : ∀ b ∈ [s2.heap.objs.size], ∃ o, s3.heap.get? b = some o ∧ ∀ v, o.data ≠ .cell v := fun b hb => by
      have e : b = s2.heap.objs.size := by simpa using hb
      subst e
      exact ⟨_, hD3, fun v z => by cases z⟩
    have IP := I3'.pinned (fp := [s2.heap.objs.size]) (fun b hb => by
      have e : b = s2.heap.objs.size := by simpa using hb
      subst e
      exact fD frD) plD
    have memD := mem_pinsAt (fp := [s2.heap.objs.size]) (List.mem_singleton.mpr rfl) hD3
    have fF' : ∀ b ∈ fp, FpOk Y ([] ++ pinsAt [s2.heap.objs.size] s3.heap) H3 b := fun b hb => by
      obtain ⟨q1, q2, q3, q4, q5, q6⟩ := fF fr3 b hb
      refine ⟨q1, q2, q3, q4, q5, fun p hp => ?_⟩
      rw [ypn] at hp
      obtain ⟨hp1, _⟩ := of_pinsAt (show p ∈ pinsAt [s2.heap.objs.size] s3.heap by simpa using hp)
      have e : p.1 = s2.heap.objs.size := by simpa using hp1
      rw [e]
      exact (Nat.ne_of_lt (hfp b hb)).symm
    obtain ⟨hys, h | ⟨go, N, hN, step⟩⟩ := cw i n ys H3 w3
    · obtain ⟨stop, fin⟩ := h
      refine cvX (T.done Y yP yw yK yc i _ s3 _ H3 _ IP fF' st3 stop) fun r s4 ⟨hr, I4⟩ => ?_
      subst hr
      obtain ⟨m4, hm4, _⟩ := I4.loc
      rw [yenv] at hm4
      have base4 : Un (frs X.stack) (s2.heap.objs.size :: fp) H2 H3 h3' s4.heap := by
        have := I4.base
        rw [← hY] at this
        exact this
      have hok4 : HOk X.prog X.w H3 s4.heap := by
        have := I4.hok
        rw [yP, yw] at this
        exact this
      have pl4 := (I4.pin _ (List.mem_append_right _ (List.mem_append_right _ memD))).1
      have nC : H3 h3'.objs.size = none := by
        have := I4.free
        rw [yenv] at this
        exact this
      have hlen : ys.length ≤ sizeLine := Nat.le_of_lt hys
      have osEq : s4.os = s2.os := by
        have := I4.os
        rw [← hY] at this
        exact this
      have neD : ∀ b o, s2.heap.get? b = some o → b ≠ s2.heap.objs.size := fun b o e => Nat.ne_of_lt (Heap.lt_size e)
      have nin : ∀ b o, s2.heap.get? b = some o → b ∉ fp → b ∉ s2.heap.objs.size :: fp := fun b o e hb z => (List.mem_cons.mp z).elim (neD b o e) hb
      have hokN : HOk X.prog X.w (upd H3 s2.heap.objs.size (.lst ys)) s4.heap := hok4.track frD ⟨hlen, its, nD, rv, pl4⟩
      have U : Un (frs X.stack) fp H2 (upd H3 s2.heap.objs.size (.lst ys)) s2.heap s4.heap := by
        refine ⟨fun b o e hn hf hx => base4.keep b o (old3 b o e) hn hf (nin b o e hx), fun b o e hn hf hx => base4.slot b o (old3 b o e) hn hf (nin b o e hx), fun b o e hn hx => ?_, fun b o e hx => base4.there b o (old3 b o e) (nin b o e hx), fun b xs e => ?_, fun b o xs e => ?_, fun b ps e => ?_⟩
        · rw [upd_ne (neD b o e)]
          exact base4.free b o (old3 b o e) hn (nin b o e hx)
        · have q := base4.tups b xs e
          rw [upd_ne (ne_of_none q frD)]
          exact q
        · have q := base4.frzs b o xs e
          rw [upd_ne (ne_of_none q frD)]
          exact q
        · obtain ⟨more, q⟩ := base4.tbls b ps e
          exact ⟨more, by rw [upd_ne (ne_of_none q frD)]; exact q⟩
      have I5 : Inv X pins σ (upd H3 s2.heap.objs.size (.lst ys)) s4 := I2.call' (ch := fp) osEq U hokN I4.bare fun b hb => by
        obtain ⟨_, q2, _, q4, q5, q6⟩ := f2 b hb
        exact ⟨q4, q2, q5, q6⟩
      exact hRR _ _ _ _ _ m4 frD hm4 (I2.fpOk (Nat.le_of_lt (by rw [h3]; exact Nat.lt_succ_self _)) (by rw [upd_ne hDC.symm]; exact nC)) I5 fin
    · refine cvX (T.item Y yP yw yK yc i _ s3 _ H3 _ IP fF' st3 go) fun r s4 ⟨u, hr, h4⟩ => ?_
      subst hr
      refine cvX h4 fun _ s5 ⟨y, H5, I5, r5, y5, st5, fr5⟩ => ?_
      have frD5 : H5 s2.heap.objs.size = none := (I5.pin _ (List.mem_append_right _ (List.mem_append_right _ memD))).2.1
      have hD5 := (I5.pin _ (List.mem_append_right _ (List.mem_append_right _ memD))).1
      have I5p := I5.unpinned.pinned (fp := s2.heap.objs.size :: fp) (fun b hb => by
        rcases List.mem_cons.mp hb with e | hb
        · subst e; exact fD frD5
        · exact fF fr5 b hb) (fun b hb => by
        rcases List.mem_cons.mp hb with e | hb
        · subst e; exact ⟨_, hD5, fun v z => by cases z⟩
        · exact T.obj _ _ st5 b hb)
      have memD5 := mem_pinsAt (fp := s2.heap.objs.size :: fp) List.mem_cons_self hD5
      rw [← yenv]
      refine cv (hgN _ s5 _ H5 y u (fun σ' H' => σ' = some y :: capS σ caps ∧ H' = H5) I5p r5 ⟨rfl, rfl⟩) fun _ s6 ⟨σ6, H6, I6, e6, e6'⟩ => ?_
      rw [e6, e6'] at I6
      have back : ∀ {m' : Nat} {σ7 : St} {H7 : Hp} {s7 : Shared} {ys' : List V} {its' : List Value}, Inv Y [] σ7 H7 s7 → σ7 = some y :: capS σ caps → tn (i + 1) s7.heap → (∀ b ∈ fp, H7 b = none) → H7 s2.heap.objs.size = none → Vals ys' its' → s7.heap.PlainList s2.heap.objs.size its'.toArray → m' < n ∧ W (i + 1) m' ys' H7 →
          ∃ m, m < n ∧ ∃ i ys its H', Inv Y [] (none :: capS σ caps) H' s7 ∧ tn i s7.heap ∧ (∀ b ∈ fp, H' b = none) ∧ H' s2.heap.objs.size = none ∧ Vals ys its ∧ s7.heap.PlainList s2.heap.objs.size its.toArray ∧ W i m ys H' := by
        intro m' σ7 H7 s7 ys' its' J1 e1 st7 fr7 fd7 rv7 pl7 wm
        subst e1
        refine ⟨m', wm.1, i + 1, ys', its', H7, J1.weak (by simp) (fun j v hj => ?_), st7, fr7, fd7, rv7, pl7, wm.2⟩
        cases j with
        | zero => cases hj
        | succ j => exact hj
      have stay : ∀ {σ7 : St} {H7 : Hp} {s7 : Shared}, Inv Y ([] ++ pinsAt (s2.heap.objs.size :: fp) s5.heap) σ7 H7 s7 → tn (i + 1) s7.heap ∧ (∀ b ∈ fp, H7 b = none) ∧ H7 s2.heap.objs.size = none ∧ s7.heap.get? s2.heap.objs.size = some { cls := .type "list", data := .seq its.toArray nD } := by
        intro σ7 H7 s7 J1
        refine ⟨T.keep _ _ _ st5 fun b hb o e => (J1.pin (b, o) (List.mem_append_right _ (List.mem_append_right _ (mem_pinsAt (List.mem_cons_of_mem _ hb) e)))).1, fun b hb => ?_, (J1.pin _ (List.mem_append_right _ (List.mem_append_right _ memD5))).2.1, (J1.pin _ (List.mem_append_right _ (List.mem_append_right _ memD5))).1⟩
        obtain ⟨o, e, d⟩ := T.obj _ _ st5 b hb
        exact (J1.pin (b, o) (List.mem_append_right _ (List.mem_append_right _ (mem_pinsAt (List.mem_cons_of_mem _ hb) e)))).2.1
      refine cv (hIY _ s6 _ H5 _ I6 (step y H5 y5)) fun ok s7 ⟨H7, I7, q7⟩ => ?_
      cases ok with
      | false =>
        rw [if_neg (by decide)] at q7
        rw [if_neg (by decide)]
        obtain ⟨m', wm⟩ := hN _ _ q7
        obtain ⟨a1, a2, a3, a4⟩ := stay I7
        exact back I7.unpinned rfl a1 a2 a3 rv ⟨nD, a4⟩ wm
      | true =>
        rw [if_pos rfl] at q7
        rw [if_pos rfl]
        refine cv (hEY _ s7 _ H7 _ I7 q7) fun z s8 ⟨vz, H8, I8, rz, wm⟩ => ?_
        obtain ⟨m', wm⟩ := hN _ _ wm
        obtain ⟨a1, a2, a3, a4⟩ := stay I8
        have hlen := rv.length
        refine wpAny_list_append_plain (hsz := by rw [List.size_toArray]; omega) (⟨nD, a4⟩ : s8.heap.PlainList _ its.toArray) fun h9 hl9 hs9 => ?_
        obtain ⟨q1, q2, q3, q4, q5, q6⟩ := fD a3
        have I9 : Inv Y [] _ H8 { s8 with heap := h9 } := I8.unpinned.turned (t' := s8.toks) (fun b o hb e => hs9.extBut b o hb e) q1 q2 q4 q5 q6
        refine back I9 rfl (T.keep _ _ _ a1 fun b hb o e => hs9.extBut b o (Nat.ne_of_lt (hfp b hb)) e) a2 a3 (its' := its ++ [z]) (rv.append (.cons rz .nil)) ?_ wm
        have e : its.toArray.push z = (its ++ [z]).toArray := by simp
        rw [e] at hl9
        exact hl9
  exact codeAny_compStart_list (loop _ rfl) (T.self _ 0 _ _ _ (T.keep _ _ _ st2 (fun b hb o e => old _ _ (old3 _ _ e))) (loop _ rfl))

theorem pe_lcomp {scope : Scope} {x : Str} {px : Pos} {caps : List Nat} {elt iter : Expr} {ifs : List Expr} {pos : Pos} {wi : TI} {tc : TT} {te : TE} (hc : X.calm = true) (B : BlkOk X scope x caps) (hi : PI X (.Name x px) iter wi)
    (hI : ∀ cl C s H ex, PIfs (blockCx X scope (capN X x caps) cl C s H ex) ifs tc) (hE : ∀ cl C s H ex, PE (blockCx X scope (capN X x caps) cl C s H ex) elt te)
    (hs : ∀ x, foldedSetIterable iter X.env x = pure x := by intro _; rfl) : PE X (.ListComp elt [⟨.Name x px, iter, ifs, 0⟩] scope pos) (tComp wi caps tc te) := by
  intro pins s σ H Q I h
  obtain ⟨cl, hcl, c1, c2⟩ := closureFor_cl (scope := scope) (env := X.env) fun y hy e => I.ok.has y.1 (.inl (B.frees y hy e))
  rw [eval_ListComp]
  refine wpAny_comprehension_free (use := none) rfl hs hcl B.kind B.locs (thn (hi pins s σ H _ I h) fun v s1 h1 => thn h1 fun itv s2 h2 => ?_)
  obtain ⟨it, fp, tn, J, H2, e, I2, T, st2, f2, W, ⟨m0, w0⟩, cw⟩ := h2
  subst e
  refine comp_core (RR := fun acc C => compPost (model X.prog X.w) X.A X.xe none (EP X pins σ Q) acc C) hc B I2 T st2 f2 c1 c2 hI hE w0 cw ?_
  intro D C s' H' ys m hD hn fC I' fin
  obtain ⟨q1, q2, q3, q4, q5, q6⟩ := fC
  exact ⟨m, hn, fun h' hs' => ⟨.ref D, _, I'.turned (t' := s'.toks) (fun b o hb e => hs'.extBut b o hb e) q1 q2 q4 q5 q6, rfl, fin D hD⟩⟩

/-- name = [..] -/
theorem ps_lcomp {scope : Scope} {x y : Str} {px py : Pos} {i : Nat} {caps : List Nat} {elt iter : Expr} {ifs : List Expr} {pos spos : Pos} {wi : TI} {tc : TT} {te : TE} (hN : X.N.Nodup) (hi' : X.N[i]? = some y) (hy : Loc X.env.scope y) (hc : X.calm = true) (B : BlkOk X scope x caps) (hi : PI X (.Name x px) iter wi)
    (hI : ∀ cl C s H ex, PIfs (blockCx X scope (capN X x caps) cl C s H ex) ifs tc) (hE : ∀ cl C s H ex, PE (blockCx X scope (capN X x caps) cl C s H ex) elt te)
    (hs : ∀ x, foldedSetIterable iter X.env x = pure x := by intro _; rfl)
    (hsw : swapsWith (.ListComp elt [⟨.Name x px, iter, ifs, 0⟩] scope pos) (some (.Name y py)) spos.line X.env = pure true := by rfl)
    (hf : X.fn y = true ∨ X.env.scope.names.lookup y = some .local := by first | exact .inl rfl | exact .inr rfl | assumption) :
    PS X (.Assign [.Name y py] (.ListComp elt [⟨.Name x px, iter, ifs, 0⟩] scope pos) spos) (tAsg (tComp wi caps tc te) (gName i)) := by
  intro pins s σ H D I h
  obtain ⟨cl, hcl, c1, c2⟩ := closureFor_cl (scope := scope) (env := X.env) fun y hy e => I.ok.has y.1 (.inl (B.frees y hy e))
  rw [exec_Assign_Name_used _ _ _ _ hsw]
  refine wpAny_bind (wpAny_standAt (wpAny_bind ?_))
  show wpAny _ X.A (do let _ ← comprehension (.ListComp elt [⟨.Name x px, iter, ifs, 0⟩] scope pos) scope X.env _ (newList []) false (eval iter X.env) (some (assign (.Name y py) X.env))) _ _ s
  refine wpAny_bind (wpAny_mono (wpAny_comprehension_free (use := some (assign (.Name y py) X.env)) (Q := fun _ s' => SP X pins D .next s') rfl hs hcl B.kind B.locs
    (thn (hi pins s σ H _ I h) fun v s1 h1 => thn h1 fun itv s2 h2 => ?_)) (fun _ s' hq => wpAny_pure (wpAny_pure hq)) fun _ _ e => e)
  obtain ⟨it, fp, tn, J, H2, e, I2, T, st2, f2, W, ⟨m0, w0⟩, cw⟩ := h2
  subst e
  refine comp_core (RR := fun acc C => compPost (model X.prog X.w) X.A X.xe (some (assign (.Name y py) X.env)) (fun _ s' => SP X pins D .next s') acc C) hc B I2 T st2 f2 c1 c2 hI hE w0 cw ?_
  intro Dd C s' H' ys m hD hn fC I' fin
  obtain ⟨q1, q2, q3, q4, q5, q6⟩ := fC
  show wpAny _ _ (assign (.Name y py) X.env (.ref Dd)) _ _ _
  refine wpAny_assign_Name (store_ok2 I' hN hi' hy (v := .ref Dd) rfl (fun s2 I2 ⟨a, hs2, ha⟩ => ?_) hf)
  have ne : C ≠ a := by
    rcases ha with z | z
    · rw [z]; exact q2
    · exact (q5 y a z).symm
  refine ⟨m, hn.sameBut hs2 ne, fun h' hs' => ?_⟩
  exact ⟨_, _, I2.turned (t' := s2.toks) (fun b o hb e => hs'.extBut b o hb e) q1 q2 q4 q5 q6, fin Dd hD⟩
end
/-! ### the forms one uses -/
section
variable {K : PySem.W.Frag} {a : Addr} {xs : List V} {cap : St} {tc : TT} {te : TE} {Fin : List V → Hp → Prop} {H : Hp}
theorem comp_list (Pv : Nat → List V → Hp → Prop) (h0 : Pv 0 [] H) (hz : xs.length < sizeLine) (hl : ∀ i ys H, i ≤ xs.length → Pv i ys H → SqL K H a xs ∧ ys.length ≤ i)
    (hs : ∀ i x ys H, xs[i]? = some x → Pv i ys H → tc (some x :: cap) H fun b H2 => if b = true then te (some x :: cap) H2 fun y H3 => Pv (i + 1) (ys ++ [y]) H3 else Pv (i + 1) ys H2) (hd : ∀ ys H, Pv xs.length ys H → Fin ys H) :
    ∃ W : Nat → Nat → List V → Hp → Prop, (∃ m, W 0 m [] H) ∧ CompW (Itl K a) cap tc te Fin W := by
  refine ⟨fun i m ys H => m = xs.length - i ∧ i ≤ xs.length ∧ Pv i ys H, ⟨xs.length, by simp, Nat.zero_le _, h0⟩, ?_⟩
  rintro i m ys H ⟨rfl, hi, p⟩
  obtain ⟨q, hy⟩ := hl i ys H hi p
  refine ⟨by omega, ?_⟩
  by_cases hlt : i < xs.length
  · refine .inr ⟨⟨xs, xs[i], q, by simp [hlt]⟩, Pv (i + 1), fun ys' H' p' => ⟨xs.length - (i + 1), by omega, rfl, hlt, p'⟩, fun x H' y => ?_⟩
    obtain ⟨e, y⟩ := y
    subst e
    exact hs i x ys _ (y xs q) p
  · have e : i = xs.length := by omega
    subst e
    exact .inl ⟨⟨xs, q, Nat.le_refl _⟩, hd ys H p⟩
theorem comp_tup (Pv : Nat → List V → Hp → Prop) (h0 : Pv 0 [] H) (hz : xs.length < sizeLine) (hl : ∀ i ys H, i ≤ xs.length → Pv i ys H → SqT K H a xs ∧ ys.length ≤ i)
    (hs : ∀ i x ys H, xs[i]? = some x → Pv i ys H → tc (some x :: cap) H fun b H2 => if b = true then te (some x :: cap) H2 fun y H3 => Pv (i + 1) (ys ++ [y]) H3 else Pv (i + 1) ys H2) (hd : ∀ ys H, Pv xs.length ys H → Fin ys H) :
    ∃ W : Nat → Nat → List V → Hp → Prop, (∃ m, W 0 m [] H) ∧ CompW (Itt K a) cap tc te Fin W := by
  refine ⟨fun i m ys H => m = xs.length - i ∧ i ≤ xs.length ∧ Pv i ys H, ⟨xs.length, by simp, Nat.zero_le _, h0⟩, ?_⟩
  rintro i m ys H ⟨rfl, hi, p⟩
  obtain ⟨q, hy⟩ := hl i ys H hi p
  refine ⟨by omega, ?_⟩
  by_cases hlt : i < xs.length
  · refine .inr ⟨⟨xs, xs[i], q, by simp [hlt]⟩, Pv (i + 1), fun ys' H' p' => ⟨xs.length - (i + 1), by omega, rfl, hlt, p'⟩, fun x H' y => ?_⟩
    obtain ⟨e, y⟩ := y
    subst e
    exact hs i x ys _ (y xs q) p
  · have e : i = xs.length := by omega
    subst e
    exact .inl ⟨⟨xs, q, Nat.le_refl _⟩, hd ys H p⟩
theorem comp_range {lo : Int} {n : Nat} (Pv : Nat → List V → Hp → Prop) (h0 : Pv 0 [] H) (hz : n < sizeLine) (hl : ∀ i ys H, i ≤ n → Pv i ys H → ys.length ≤ i)
    (hs : ∀ i ys H, i < n → Pv i ys H → tc (some (.int (lo + i)) :: cap) H fun b H2 => if b = true then te (some (.int (lo + i)) :: cap) H2 fun y H3 => Pv (i + 1) (ys ++ [y]) H3 else Pv (i + 1) ys H2) (hd : ∀ ys H, Pv n ys H → Fin ys H) :
    ∃ W : Nat → Nat → List V → Hp → Prop, (∃ m, W 0 m [] H) ∧ CompW (Itr lo n) cap tc te Fin W := by
  refine ⟨fun i m ys H => m = n - i ∧ i ≤ n ∧ Pv i ys H, ⟨n, by simp, Nat.zero_le _, h0⟩, ?_⟩
  rintro i m ys H ⟨rfl, hi, p⟩
  have hy := hl i ys H hi p
  refine ⟨by omega, ?_⟩
  by_cases hlt : i < n
  · refine .inr ⟨hlt, Pv (i + 1), fun ys' H' p' => ⟨n - (i + 1), by omega, rfl, hlt, p'⟩, fun x H' y => ?_⟩
    obtain ⟨e, y⟩ := y
    subst e y
    exact hs i ys _ hlt p
  · have e : i = n := by omega
    subst e
    exact .inl ⟨Nat.le_refl _, hd ys H p⟩
theorem all_true {σ : St} {H : Hp} {A B : Hp → Prop} (h : A H) : tAll σ H fun b H2 => if b = true then A H2 else B H2 := by
  have e : (if true = true then A H else B H) = A H := if_pos rfl
  exact Eq.mpr e h
theorem comp_list0 (Pv : Nat → List V → Hp → Prop) (h0 : Pv 0 [] H) (hz : xs.length < sizeLine) (hl : ∀ i ys H, i ≤ xs.length → Pv i ys H → SqL K H a xs ∧ ys.length ≤ i)
    (hs : ∀ i x ys H, xs[i]? = some x → Pv i ys H → te (some x :: cap) H fun y H3 => Pv (i + 1) (ys ++ [y]) H3) (hd : ∀ ys H, Pv xs.length ys H → Fin ys H) :
    ∃ W : Nat → Nat → List V → Hp → Prop, (∃ m, W 0 m [] H) ∧ CompW (Itl K a) cap tAll te Fin W :=
  comp_list Pv h0 hz hl (fun i x ys H hx h => all_true (hs i x ys H hx h)) hd
theorem comp_tup0 (Pv : Nat → List V → Hp → Prop) (h0 : Pv 0 [] H) (hz : xs.length < sizeLine) (hl : ∀ i ys H, i ≤ xs.length → Pv i ys H → SqT K H a xs ∧ ys.length ≤ i)
    (hs : ∀ i x ys H, xs[i]? = some x → Pv i ys H → te (some x :: cap) H fun y H3 => Pv (i + 1) (ys ++ [y]) H3) (hd : ∀ ys H, Pv xs.length ys H → Fin ys H) :
    ∃ W : Nat → Nat → List V → Hp → Prop, (∃ m, W 0 m [] H) ∧ CompW (Itt K a) cap tAll te Fin W :=
  comp_tup Pv h0 hz hl (fun i x ys H hx h => all_true (hs i x ys H hx h)) hd
theorem comp_range0 {lo : Int} {n : Nat} (Pv : Nat → List V → Hp → Prop) (h0 : Pv 0 [] H) (hz : n < sizeLine) (hl : ∀ i ys H, i ≤ n → Pv i ys H → ys.length ≤ i)
    (hs : ∀ i ys H, i < n → Pv i ys H → te (some (.int (lo + i)) :: cap) H fun y H3 => Pv (i + 1) (ys ++ [y]) H3) (hd : ∀ ys H, Pv n ys H → Fin ys H) :
    ∃ W : Nat → Nat → List V → Hp → Prop, (∃ m, W 0 m [] H) ∧ CompW (Itr lo n) cap tAll te Fin W :=
  comp_range Pv h0 hz hl (fun i ys H hx h => all_true (hs i ys H hx h)) hd
end
end L2

set_option Elab.async false
set_option linter.all false
set_option maxRecDepth 100000
set_option maxHeartbeats 4000000
/-! MORE RULES: data, == and != of data, isinstance, all, sorted, set, min and max of a tuple, xs[::-1] -/
namespace L2
open PySem PySem.Spec PyProof.Rows

mutual
/-- the value v is the datum d -/
inductive IsD (K : PySem.W.Frag) (H : Hp) : V → PyData → Prop
  | non : IsD K H .non .none
  | bl (b : Bool) : IsD K H (.bl b) (.bool b)
  | int (i : Int) : IsD K H (.int i) (.int i)
  | str (x : Str) : IsD K H (.str x) (.str x)
  | lst {a : Addr} {xs : List V} {ds : List PyData} : SqL K H a xs → IsDs K H xs ds → IsD K H (.ref a) (.list ds)
  | tup {a : Addr} {xs : List V} {ds : List PyData} : SqT K H a xs → IsDs K H xs ds → IsD K H (.ref a) (.tuple ds)
inductive IsDs (K : PySem.W.Frag) (H : Hp) : List V → List PyData → Prop
  | nil : IsDs K H [] []
  | cons {x : V} {xs : List V} {d : PyData} {ds : List PyData} : IsD K H x d → IsDs K H xs ds → IsDs K H (x :: xs) (d :: ds)
end

section
variable {X : Cx} {pins : List (Addr × Obj)} {σ : St} {H : Hp} {s : Shared}
mutual
theorem IsD.reads (I : Inv X pins σ H s) : ∀ {v : V} {d : PyData} {u : Value}, IsD X.K H v d → RelV v u → ∃ as, Reads s.heap u d as
  | _, _, _, .non, r => by cases r; exact ⟨_, .none⟩
  | _, _, _, .bl b, r => by cases r; exact ⟨_, .bool b⟩
  | _, _, _, .int i, r => by obtain ⟨t, rfl⟩ := r; exact ⟨_, .int i t⟩
  | _, _, _, .str x, r => by obtain ⟨t, rfl⟩ := r; exact ⟨_, .str x t⟩
  | _, _, _, .lst q qs, r => by
    cases r
    obtain ⟨its, rv, ⟨o, n, e, c, _, d⟩, _⟩ := I.list q
    obtain ⟨as, ra⟩ := IsDs.reads I qs rv
    exact ⟨_, .list e c d (by simpa using ra)⟩
  | _, _, _, .tup q qs, r => by
    cases r
    obtain ⟨its, rv, ⟨o, e, c, n, d⟩, _⟩ := I.tuple q
    obtain ⟨as, ra⟩ := IsDs.reads I qs rv
    exact ⟨_, .tuple e c d (by simpa using ra)⟩
theorem IsDs.reads (I : Inv X pins σ H s) : ∀ {vs : List V} {ds : List PyData} {us : List Value}, IsDs X.K H vs ds → Vals vs us → ∃ as, ReadsAll s.heap us ds as
  | _, _, _, .nil, .nil => ⟨_, .nil⟩
  | _, _, _, .cons q qs, .cons r rs => by
    obtain ⟨as, ra⟩ := IsD.reads I q r
    obtain ⟨bs, rb⟩ := IsDs.reads I qs rs
    exact ⟨_, .cons ra rb⟩
end
end

theorem Same.sqT {K : PySem.W.Frag} {H H' : Hp} {a : Addr} {xs : List V} (e : Same H H') (h : SqT K H a xs) : SqT K H' a xs := by
  rcases h with (h | ⟨o, h⟩) | h
  · exact .inl (.inl (e _ _ h))
  · exact .inl (.inr ⟨o, e _ _ h⟩)
  · exact .inr h
mutual
theorem IsD.same {K : PySem.W.Frag} {H H' : Hp} (e : Same H H') : ∀ {v : V} {d : PyData}, IsD K H v d → IsD K H' v d
  | _, _, .non => .non
  | _, _, .bl b => .bl b
  | _, _, .int i => .int i
  | _, _, .str x => .str x
  | _, _, .lst q qs => .lst (e.seq q) (IsDs.same e qs)
  | _, _, .tup q qs => .tup (e.sqT q) (IsDs.same e qs)
theorem IsDs.same {K : PySem.W.Frag} {H H' : Hp} (e : Same H H') : ∀ {vs : List V} {ds : List PyData}, IsDs K H vs ds → IsDs K H' vs ds
  | _, _, .nil => .nil
  | _, _, .cons q qs => .cons (IsD.same e q) (IsDs.same e qs)
end
theorem IsDs.ints {K : PySem.W.Frag} {H : Hp} : ∀ ns : List Int, IsDs K H (ns.map V.int) (ns.map PyData.int)
  | [] => .nil
  | n :: ns => .cons (.int n) (IsDs.ints ns)
theorem IsDs.length {K : PySem.W.Frag} {H : Hp} : ∀ {vs : List V} {ds : List PyData}, IsDs K H vs ds → vs.length = ds.length
  | _, _, .nil => rfl
  | _, _, .cons _ t => by rw [List.length_cons, List.length_cons, IsDs.length t]
theorem IsDs.get {K : PySem.W.Frag} {H : Hp} : ∀ {vs : List V} {ds : List PyData} {i : Nat} {v : V}, IsDs K H vs ds → vs[i]? = some v → ∃ d, ds[i]? = some d ∧ IsD K H v d
  | _, _, _, _, .nil, e => by simp at e
  | _, _, 0, _, .cons q _, e => by simp at e; subst e; exact ⟨_, rfl, q⟩
  | _, _, i + 1, v, .cons _ t, e => by
    obtain ⟨d, h1, h2⟩ := IsDs.get (i := i) (v := v) t (by simpa using e)
    exact ⟨d, by simpa using h1, h2⟩
theorem IsDs.append {K : PySem.W.Frag} {H : Hp} : ∀ {xs ys : List V} {ds es : List PyData}, IsDs K H xs ds → IsDs K H ys es → IsDs K H (xs ++ ys) (ds ++ es)
  | _, _, _, _, .nil, h => h
  | _, _, _, _, .cons q t, h => .cons q (IsDs.append t h)

section
variable {X : Cx}
/-- == and != of data -/
def rEqD (K : PySem.W.Frag) : R2 := fun x y H Q => ∃ d e, IsD K H x d ∧ IsD K H y e ∧ SeqAt.shaped d = true ∧ SeqAt.shaped e = true ∧ Q (.bl (PyData.eqv d e)) H
def rNeD (K : PySem.W.Frag) : R2 := fun x y H Q => ∃ d e, IsD K H x d ∧ IsD K H y e ∧ SeqAt.shaped d = true ∧ SeqAt.shaped e = true ∧ Q (.bl (!PyData.eqv d e)) H
theorem op_eqD (hu : X.A.units + 64 < cLine) : OpR X (compareOp .Eq) (rEqD X.K) := by
  intro pins s σ H x y v u Q I rx ry h
  obtain ⟨d, e, hd, he, sd, se, q⟩ := h
  obtain ⟨as, ra⟩ := hd.reads I rx
  obtain ⟨bs, rb⟩ := he.reads I ry
  exact SeqAt.compareEq_shaped ra rb sd se hu ⟨.bl _, H, I, rfl, q⟩
theorem op_neD (hu : X.A.units + 64 < cLine) : OpR X (compareOp .NotEq) (rNeD X.K) := by
  intro pins s σ H x y v u Q I rx ry h
  obtain ⟨d, e, hd, he, sd, se, q⟩ := h
  obtain ⟨as, ra⟩ := hd.reads I rx
  obtain ⟨bs, rb⟩ := he.reads I ry
  exact SeqAt.compareNe_shaped ra rb sd se hu ⟨.bl _, H, I, rfl, q⟩

/-! ### isinstance -/
/-- .. of lists and tuples that are read, too -/
inductive TyV (K : PySem.W.Frag) (H : Hp) : V → Value → Prop
  | of {x : V} {t : Value} : TyOf K H x t → TyV K H x t
  | tup {a : Addr} {xs : List V} : SqT K H a xs → TyV K H (.ref a) (.type "tuple")
  | lst {a : Addr} {xs : List V} : SqL K H a xs → TyV K H (.ref a) (.type "list")
theorem TyV.int {K : PySem.W.Frag} {H : Hp} (i : Int) : TyV K H (.int i) (.type "int") := .of (.int i)
theorem call_isi : CallR X (.builtin "isinstance") (fun xs H Q => ∃ x T t b, xs = [x, .ty T] ∧ TyV X.K H x t ∧ PySem.W.kitOne X.K t (.type T) = some b ∧ Q (.bl b) H) := by
  intro pins s σ H xs us Q I r h
  obtain ⟨x, T, t, b, rfl, ty, e, q⟩ := h
  obtain ⟨u, v, rfl, ru, rv⟩ := vals2 r
  cases rv
  cases ty with
  | of ty => exact isinst_ok I ru ty e fun tk => ⟨.bl b, H, I.tok tk, rfl, q⟩
  | tup hq =>
    cases ru
    obtain ⟨its, _, ⟨o, h1, h2, _⟩, _⟩ := I.tuple hq
    exact PySem.W.kia_one PySem.W.kitx_tuple I.kIn ⟨o, h1, h2⟩ e (fun z => nomatch z) fun tk => ⟨.bl b, H, I.tok tk, rfl, q⟩
  | lst hq =>
    cases ru
    obtain ⟨its, _, ⟨o, n, h1, h2, _⟩, _⟩ := I.list hq
    exact PySem.W.kia_one PySem.W.kitx_list I.kIn ⟨o, h1, h2⟩ e (fun z => nomatch z) fun tk => ⟨.bl b, H, I.tok tk, rfl, q⟩
/-- isinstance(x, (A, B, ..)) -/
theorem isinst_tup {pins : List (Addr × Obj)} {σ : St} {H : Hp} {s : Shared} {A : Around} {E : Value → Shared → Prop} {Q : Value → Shared → Prop} {b : Bool} {x : V} {u t : Value} {tp : Addr} {dd : Option Addr} {its : List Value} {n : Nat} {sl : Array (Option Value)} (I : Inv X pins σ H s) (rx : RelV x u) (ty : TyOf X.K H x t)
    (htp : s.heap.get? tp = some ⟨.type "tuple", dd, .seq its.toArray n, sl⟩) (e : PySem.W.kitAny X.K t its = some b) (h : ∀ tk, Q (.bool b) { s with toks := tk }) :
    wpAny (model X.prog X.w) A (call (.builtin "isinstance") [u, .ref tp]) Q E s := by
  cases ty with
  | non => cases (show u = Value.none from rx); exact PySem.W.kia_tup PySem.W.kitx_none I.kIn True.intro htp e (fun z => nomatch z) h
  | bl y => cases (show u = Value.bool y from rx); exact PySem.W.kia_tup PySem.W.kitx_bool I.kIn True.intro htp e (fun z => nomatch z) h
  | int i => obtain ⟨t, q⟩ := (show ∃ t, u = Value.int i t from rx); cases q; exact PySem.W.kia_tup PySem.W.kitx_int I.kIn True.intro htp e (fun z => nomatch z) h
  | str y => obtain ⟨t, q⟩ := (show ∃ t, u = Value.str y t from rx); cases q; exact PySem.W.kia_tup PySem.W.kitx_str I.kIn True.intro htp e (fun z => nomatch z) h
  | flt y => obtain ⟨t, q⟩ := (show ∃ t, u = Value.float y t from rx); cases q; exact PySem.W.kia_tup PySem.W.kitx_float I.kIn True.intro htp e (fun z => nomatch z) h
  | @lst a xs ea =>
    cases (show u = Value.ref a from rx)
    obtain ⟨_, _, n, _, h1⟩ := (show ObjOk X.prog X.w H s.heap a (.lst xs) from I.hok a _ ea)
    exact PySem.W.kia_tup PySem.W.kitx_list I.kIn ⟨_, h1, rfl⟩ htp e (fun z => nomatch z) h
  | @frz a ob xs ea =>
    cases (show u = Value.ref a from rx)
    obtain ⟨_, _, _, n, _, h1⟩ := (show ObjOk X.prog X.w H s.heap a (.frz ob (.lst xs)) from I.hok a _ ea)
    exact PySem.W.kia_tup PySem.W.kitx_list I.kIn ⟨_, h1, rfl⟩ htp e (fun z => nomatch z) h
  | @tup a xs ea =>
    cases (show u = Value.ref a from rx)
    obtain ⟨_, _, _, p⟩ := (show ObjOk X.prog X.w H s.heap a (.tup xs) from I.hok a _ ea)
    obtain ⟨o, h1, h2, _⟩ := p
    exact PySem.W.kia_tup PySem.W.kitx_tuple I.kIn ⟨o, h1, h2⟩ htp e (fun z => nomatch z) h
  | @dK a kvs ea =>
    cases (show u = Value.ref a from rx)
    obtain ⟨_, _, vs, _, p⟩ := (show ObjOk X.prog X.w H s.heap a (.dK kvs) from I.hok a _ ea)
    obtain ⟨o, es, ep, h1, h2, _⟩ := p
    exact PySem.W.kia_tup PySem.W.kitx_dict I.kIn ⟨o, h1, h2.1⟩ htp e (fun z => nomatch z) h
  | @dT a kvs ea =>
    cases (show u = Value.ref a from rx)
    obtain ⟨_, _, xs, _, o, es, ep, h1, h2, _⟩ := (show ObjOk X.prog X.w H s.heap a (.dT kvs) from I.hok a _ ea)
    exact PySem.W.kia_tup PySem.W.kitx_dict I.kIn ⟨o, h1, h2.1⟩ htp e (fun z => nomatch z) h
  | @ins a C dx fs ea cl ha hn htk hm =>
    cases (show u = Value.ref a from rx)
    obtain ⟨mA, O, _⟩ := ins_get I.hok ea
    obtain ⟨od, J, _⟩ := O.look
    exact PySem.W.kia_tup (PySem.W.kitx_own (cl.get _) cl.hd ha hn htk hm) I.kIn J htp e (fun z => nomatch z) h
theorem tys_eq : ∀ {Ts : List String} {us : List Value}, Vals (Ts.map V.ty) us → us = Ts.map Value.type
  | [], _, .nil => rfl
  | T :: Ts, _, .cons r rs => by
    rw [List.map_cons, ← tys_eq rs]
    exact congrArg (· :: _) r
theorem call_isiT : CallR X (.builtin "isinstance") (fun xs H Q => ∃ x p, ∃ Ts : List String, ∃ t b, xs = [x, .ref p] ∧ H p = some (.tup (Ts.map V.ty)) ∧ TyV X.K H x t ∧ PySem.W.kitAny X.K t (Ts.map Value.type) = some b ∧ Q (.bl b) H) := by
  intro pins s σ H xs us Q I r h
  obtain ⟨x, p, Ts, t, b, rfl, hp, ty, e, q⟩ := h
  obtain ⟨u, v, rfl, ru, rv⟩ := vals2 r
  cases rv
  obtain ⟨its, r', ⟨⟨oc, od, dt, sl⟩, e1, c1, n, d1⟩, hz⟩ := I.tuple (SqT.of hp)
  simp only at c1 d1
  subst c1 d1
  have := tys_eq r'
  subst this
  cases ty with
  | of ty => exact isinst_tup I ru ty e1 e fun tk => ⟨.bl b, H, I.tok tk, rfl, q⟩
  | tup hq =>
    cases ru
    obtain ⟨its, _, ⟨o, h1, h2, _⟩, _⟩ := I.tuple hq
    exact PySem.W.kia_tup PySem.W.kitx_tuple I.kIn ⟨o, h1, h2⟩ e1 e (fun z => nomatch z) fun tk => ⟨.bl b, H, I.tok tk, rfl, q⟩
  | lst hq =>
    cases ru
    obtain ⟨its, _, ⟨o, n, h1, h2, _⟩, _⟩ := I.list hq
    exact PySem.W.kia_tup PySem.W.kitx_list I.kIn ⟨o, h1, h2⟩ e1 e (fun z => nomatch z) fun tk => ⟨.bl b, H, I.tok tk, rfl, q⟩

/-! ### all of a list of truths -/
theorem call_all (hc : X.calm = true) : CallR X (.builtin "all") (fun xs H Q => ∃ p, ∃ bs : List Bool, xs = [.ref p] ∧ SqL X.K H p (bs.map V.bl) ∧ Q (.bl (bs.all id)) H) := by
  intro pins s σ H xs us Q I r h
  obtain ⟨p, bs, rfl, hq, q⟩ := h
  obtain ⟨u, rfl, rx⟩ := vals1 r
  cases rx
  obtain ⟨its, rv, pl, hz⟩ := I.list hq
  have hlen := rv.length
  rw [List.length_map] at hlen
  have hlt : p < s.heap.objs.size := by obtain ⟨o, n, e, _⟩ := pl; exact Heap.lt_size e
  refine call_all_walk (wpAny_pyIter_list pl.isList ?_)
  refine ⟨s.heap.objs.size, _, _, its.toArray.size, _, _, fun i => bs.getD i true, rfl, Walks.list (A := X.A.in1) (I.ok.hd hc) s.heap.objs.size p (Nat.ne_of_lt hlt) its.toArray, ⟨⟨_, Heap.get?_push_size _ rfl, rfl, rfl⟩, pl.isList.push _⟩, ?_, fun h' tk hk => ?_⟩
  · intro i v s' Q' E' hP hQ
    have hP : its[i]? = some v := by simpa using hP
    have hb : (bs.map V.bl)[i]? = some (.bl (bs.getD i true)) := by
      have hi : i < bs.length := by
        have := (List.getElem?_eq_some_iff.mp hP).1
        omega
      rw [List.getElem?_map, List.getD_eq_getElem?_getD]
      simp [hi]
    obtain ⟨u, hu, ru⟩ := rv.get hb
    rw [hP] at hu
    cases hu
    cases ru
    exact wpAny_truthy_bool hQ
  · have e : (List.range its.toArray.size).all (fun i => bs.getD i true) = bs.all id := by
      rw [List.size_toArray, ← hlen, Bool.eq_iff_iff, List.all_eq_true, List.all_eq_true]
      constructor
      · intro h b hb
        obtain ⟨i, hi, rfl⟩ := List.mem_iff_getElem.mp hb
        have := h i (List.mem_range.mpr hi)
        rw [List.getD_eq_getElem?_getD, List.getElem?_eq_getElem hi] at this
        exact this
      · intro h i hi
        have hi := List.mem_range.mp hi
        rw [List.getD_eq_getElem?_getD, List.getElem?_eq_getElem hi]
        exact h _ (List.getElem_mem hi)
    rw [e]
    refine ⟨.bl _, H, I.kept (t' := tk) (fun b o e => hk b o (fun hm => ?_) (Heap.get?_push_of_some _ e)), rfl, q⟩
    have : b = s.heap.objs.size := by simpa using hm
    exact absurd (this ▸ Heap.lt_size e) (Nat.lt_irrefl _)

/-! ### sorted of a list of ints -/
def sortI (ns : List Int) : List Int := ns.mergeSort fun a b => decide (a ≤ b)
theorem sortI_perm (ns : List Int) : (sortI ns).Perm ns := List.mergeSort_perm ns _
theorem sortI_le (ns : List Int) : (sortI ns).Pairwise (· ≤ ·) := by
  have h := List.pairwise_mergeSort (le := fun a b : Int => decide (a ≤ b)) (fun a b c h1 h2 => by simp at *; omega) (fun a b => by simp; omega) ns
  exact h.imp fun h => by simpa using h
theorem sortI_uniq {ns ms : List Int} (hp : ms.Perm ns) (hs : ms.Pairwise (· ≤ ·)) : ms = sortI ns := PySem.W.ksm_same (hp.trans (sortI_perm ns).symm) hs (sortI_le ns)
theorem sortI_of_perm {ns ms : List Int} (hp : ms.Perm ns) : sortI ms = sortI ns := sortI_uniq ((sortI_perm ms).trans hp) (sortI_le ms)
theorem sortI_length (ns : List Int) : (sortI ns).length = ns.length := (sortI_perm ns).length_eq
theorem vals_of_ints : ∀ {vs : List Value} {ns : List Int}, IntsAre vs ns → Vals (ns.map V.int) vs := vals_ints
theorem call_sorted : CallR X (.builtin "sorted") (fun xs H Q => ∃ p, ∃ ns : List Int, xs = [.ref p] ∧ SqL X.K H p (ns.map V.int) ∧ ns.length < 64 ∧ ∀ l, H l = none → Q (.ref l) (upd H l (.lst ((sortI ns).map V.int)))) := by
  intro pins s σ H xs us Q I r h
  obtain ⟨p, ns, rfl, hq, h64, q⟩ := h
  obtain ⟨u, rfl, rx⟩ := vals1 r
  cases rx
  obtain ⟨its, rv, pl, hz⟩ := I.list hq
  have hlen := rv.length
  rw [List.length_map] at hlen
  refine sorted_ints pl.isList (intsAre_of rv) (by omega) fun out ns' a1 a2 a3 => ?_
  have e := sortI_uniq a2 a3
  subst e
  obtain ⟨n, he⟩ := sortedAll_at s.heap its out
  refine ⟨.ref (s.heap.objs.size + 1), _, I.laid (a := s.heap.objs.size + 1) (o := .lst ((sortI ns).map V.int)) (t' := s.toks) (fun b o e => sortedAll_old e) (Nat.le_succ _) ?_, rfl, q _ (I.hok.fresh (Nat.le_succ _))⟩
  exact ⟨by rw [List.length_map, sortI_length]; rw [List.length_map] at hz; exact hz, out.toList, n, vals_of_ints a1, by simpa [seqObj] using he⟩

/-! ### set(xs) of ints, and its length -/
theorem firstMet_nodup (val : Nat → Int) : ∀ (n : Nat), ((List.range n).map val).Nodup → firstMet val n = (List.range n).map val
  | 0, _ => rfl
  | n + 1, h => by
    rw [List.range_succ, List.map_append] at h
    have h' := List.nodup_append.mp h
    rw [firstMet_succ, firstMet_nodup val n h'.1, List.range_succ, List.map_append]
    unfold step_dedup
    split
    · rename_i hc
      exfalso
      have hm : val n ∈ (List.range n).map val := by
        first
        | simpa using hc
        | exact List.contains_iff_mem.mp hc
      exact h'.2.2 _ hm _ (by simp) rfl
    · rfl
theorem call_set : CallR X (.type "set") (fun xs H Q => ∃ p, ∃ ns : List Int, xs = [.ref p] ∧ SqL X.K H p (ns.map V.int) ∧ ns.length < 4000 ∧ X.calm = true ∧
    ∀ l S n, H l = none → n = (firstMet (fun i => ns.getD i 0) ns.length).length → Q (.ref l) (upd H l (.set S n))) := by
  intro pins s σ H xs us Q I r h
  obtain ⟨p, ns, rfl, hq, h4, hc, q⟩ := h
  obtain ⟨u, rfl, rx⟩ := vals1 r
  cases rx
  obtain ⟨its, rv, pl, hz⟩ := I.list hq
  have hlen := rv.length
  rw [List.length_map] at hlen
  refine call_set_list (I.ok.hd hc) pl.isList (by simpa using intsAre_of rv) (by rw [List.size_toArray]; show its.length + 1 < 4096; omega) fun h' tk hS hk => ?_
  refine ⟨.ref s.heap.objs.size, _, I.laid (a := s.heap.objs.size) (o := .set _ _) (t' := tk) (fun b o e => hk b o (Heap.lt_size e) e) (Nat.le_refl _) hS, rfl, q _ _ _ (I.hok.fresh (Nat.le_refl _)) ?_⟩
  rw [List.size_toArray, hlen]
theorem call_lenS : CallR X (.builtin "len") (fun xs H Q => ∃ p S n, xs = [.ref p] ∧ H p = some (.set S n) ∧ Q (.int n) H) := by
  intro pins s σ H xs us Q I r h
  obtain ⟨p, S, n, rfl, hq, q⟩ := h
  obtain ⟨u, rfl, rx⟩ := vals1 r
  cases rx
  obtain ⟨o, es, ep, t, e, hex, hd, _, _, hb, hf, hn⟩ := (show ObjOk X.prog X.w H s.heap p (.set S n) from I.hok p _ hq)
  subst hn
  exact call_len_set e hex hd hf (by have : es.size < 4096 := hb; omega) ⟨.int _, H, I.tok _, ⟨_, rfl⟩, q⟩

/-! ### min and max of a tuple of two ints -/
theorem iter_tup2 {pins : List (Addr × Obj)} {σ : St} {H : Hp} {s : Shared} {p : Addr} {i j : Int} (I : Inv X pins σ H s) (hq : SqT X.K H p [.int i, .int j]) :
    ∃ its : List Value, its.length = 2 ∧ IsTup s.heap p its.toArray ∧ p < s.heap.objs.size ∧ ∀ k v, its[k]? = some v → ∃ t, v = Value.int ([i, j].getD k 0) t := by
  obtain ⟨its, rv, pl, hz⟩ := I.tuple hq
  refine ⟨its, rv.length.symm, pl, ?_, fun k v hv => ?_⟩
  · obtain ⟨o, e, _⟩ := pl; exact Heap.lt_size e
  · have hk : k < 2 := by
      have := (List.getElem?_eq_some_iff.mp hv).1
      rw [← rv.length] at this
      exact this
    have hb : ([V.int i, V.int j] : List V)[k]? = some (.int ([i, j].getD k 0)) := by
      match k, hk with
      | 0, _ => rfl
      | 1, _ => rfl
    obtain ⟨u, hu, ru⟩ := rv.get hb
    rw [hv] at hu
    cases hu
    exact ru
theorem call_minT (hc : X.calm = true) : CallR X (.builtin "min") (fun xs H Q => ∃ p i j, xs = [.ref p] ∧ SqT X.K H p [.int i, .int j] ∧ Q (.int (if j < i then j else i)) H) := by
  intro pins s σ H xs us Q I r h
  obtain ⟨p, i, j, rfl, hq, q⟩ := h
  obtain ⟨u, rfl, rx⟩ := vals1 r
  cases rx
  obtain ⟨its, hl, pl, hlt, hv⟩ := iter_tup2 I hq
  refine call_min_walk (wpAny_pyIter_tuple (show s.heap.IsTuple p its.toArray from pl) ?_)
  refine ⟨s.heap.objs.size, _, _, its.toArray.size, _, _, fun a b => decide ([i, j].getD a 0 < [i, j].getD b 0), rfl, Walks.tuple (A := X.A.in1) (I.ok.hd hc) s.heap.objs.size p (Nat.ne_of_lt hlt) its.toArray, ⟨⟨_, Heap.get?_push_size _ rfl, rfl, rfl⟩, ?_⟩, ?_, ?_, ?_, fun v h' tk hP hk => ?_⟩
  · obtain ⟨o, e, r⟩ := pl
    exact ⟨o, Heap.get?_push_of_some _ e, r⟩
  · intro b hb
    show b < (s.heap.push _).objs.size
    rw [Heap.size_push]
    rcases List.mem_cons.mp hb with e | hb
    · rw [e]; exact Nat.lt_succ_self _
    · have : b = p := by simpa using hb
      rw [this]; exact Nat.lt_succ_of_lt hlt
  · rw [List.size_toArray, hl]; decide
  · exact CmpOf.ints_lt (fun k => [i, j].getD k 0) fun k v hP => hv k v (by simpa using hP)
  · rw [List.size_toArray, hl] at hP
    have hP : its[argBest (fun a b => decide ([i, j].getD a 0 < [i, j].getD b 0)) 1]? = some v := by simpa using hP
    obtain ⟨t, rfl⟩ := hv _ _ hP
    have e : ([i, j].getD (argBest (fun a b => decide ([i, j].getD a 0 < [i, j].getD b 0)) 1) 0) = if j < i then j else i := by
      unfold argBest
      show ([i, j].getD (if decide (j < i) = true then 1 else 0) 0) = _
      by_cases hji : j < i
      · simp [hji]
      · simp [hji]
    rw [e]
    refine ⟨.int _, H, I.kept (t' := tk) (fun b o e => hk b o (fun hm => ?_) (Heap.get?_push_of_some _ e)), ⟨_, rfl⟩, q⟩
    have : b = s.heap.objs.size := by simpa using hm
    exact absurd (this ▸ Heap.lt_size e) (Nat.lt_irrefl _)
theorem call_maxT (hc : X.calm = true) : CallR X (.builtin "max") (fun xs H Q => ∃ p i j, xs = [.ref p] ∧ SqT X.K H p [.int i, .int j] ∧ Q (.int (if j > i then j else i)) H) := by
  intro pins s σ H xs us Q I r h
  obtain ⟨p, i, j, rfl, hq, q⟩ := h
  obtain ⟨u, rfl, rx⟩ := vals1 r
  cases rx
  obtain ⟨its, hl, pl, hlt, hv⟩ := iter_tup2 I hq
  refine call_max_walk (wpAny_pyIter_tuple (show s.heap.IsTuple p its.toArray from pl) ?_)
  refine ⟨s.heap.objs.size, _, _, its.toArray.size, _, _, fun a b => decide ([i, j].getD a 0 > [i, j].getD b 0), rfl, Walks.tuple (A := X.A.in1) (I.ok.hd hc) s.heap.objs.size p (Nat.ne_of_lt hlt) its.toArray, ⟨⟨_, Heap.get?_push_size _ rfl, rfl, rfl⟩, ?_⟩, ?_, ?_, ?_, fun v h' tk hP hk => ?_⟩
  · obtain ⟨o, e, r⟩ := pl
    exact ⟨o, Heap.get?_push_of_some _ e, r⟩
  · intro b hb
    show b < (s.heap.push _).objs.size
    rw [Heap.size_push]
    rcases List.mem_cons.mp hb with e | hb
    · rw [e]; exact Nat.lt_succ_self _
    · have : b = p := by simpa using hb
      rw [this]; exact Nat.lt_succ_of_lt hlt
  · rw [List.size_toArray, hl]; decide
  · exact CmpOf.ints_gt (fun k => [i, j].getD k 0) fun k v hP => hv k v (by simpa using hP)
  · rw [List.size_toArray, hl] at hP
    have hP : its[argBest (fun a b => decide ([i, j].getD a 0 > [i, j].getD b 0)) 1]? = some v := by simpa using hP
    obtain ⟨t, rfl⟩ := hv _ _ hP
    have e : ([i, j].getD (argBest (fun a b => decide ([i, j].getD a 0 > [i, j].getD b 0)) 1) 0) = if j > i then j else i := by
      unfold argBest
      show ([i, j].getD (if decide (j > i) = true then 1 else 0) 0) = _
      by_cases hji : j > i
      · have h2 : i < j := hji
        simp [h2]
      · have h2 : ¬ i < j := hji
        simp [h2]
    rw [e]
    refine ⟨.int _, H, I.kept (t' := tk) (fun b o e => hk b o (fun hm => ?_) (Heap.get?_push_of_some _ e)), ⟨_, rfl⟩, q⟩
    have : b = s.heap.objs.size := by simpa using hm
    exact absurd (this ▸ Heap.lt_size e) (Nat.lt_irrefl _)

/-! ### xs[::-1] -/
def tRev (K : PySem.W.Frag) (te : TE) : TE := fun σ H Q => te σ H fun x H1 => ∃ a xs, x = .ref a ∧ SqL K H1 a xs ∧ ∀ p, H1 p = none → Q (.ref p) (upd H1 p (.lst xs.reverse))
end
end L2

set_option Elab.async false
set_option linter.all false
set_option maxRecDepth 100000
set_option maxHeartbeats 4000000
/-! A module's defs, constants and built-ins as the derivations name them; heaps that keep; data turned about -/
namespace L2
open PySem PySem.Spec PyProof.Rows

/-- the built-in names that the text does not bind -/
structure Bl (mg : Str → Option Value) : Prop where
  len : mg "len" = none
  isinstance : mg "isinstance" = none
  int : mg "int" = none
  bool : mg "bool" = none
  list : mg "list" = none
  tuple : mg "tuple" = none
  set : mg "set" = none
  all : mg "all" = none
  sorted : mg "sorted" = none
  min : mg "min" = none
  max : mg "max" = none
  range : mg "range" = none
  enumerate : mg "enumerate" = none
  sum : mg "sum" = none
  str : mg "str" = none
  dict : mg "dict" = none
/-- a name of the top that holds a plain value -/
def Cst (mg : Str → Option Value) (x : Str) (v : V) : Prop := ∃ u, mg x = some u ∧ RelV v u
/-- a def of the top that keeps its promise with k calls -/
def Dfn (P : Program) (w : World) (K : PySem.W.Frag) (mg : Str → Option Value) (base : Heap) (k : Nat) (x : Str) (ps : List Str) (sp : Sp) : Prop :=
  ∃ f fd, FnOk P w K mg base CX0 k f fd ps sp ∧ mg x = some (.ref f) ∧ PySem.W.keepIn K (.ref f) = true ∧ Binds K fd ps []

section
variable {X : Cx} {x : Str} {p pos : Pos} {e : Expr} {es : List Expr} {t : TA}
theorem pe_ty {T : String} (hg : Gl X x) (hm : X.mg x = none) (hv : bootBuiltins x = some (.type T)) (hn : x ≠ "__name__" := by decide) (hd : (x == ("__debug__" : Str)) = false := by decide) : PE X (.Name x pos) (tC (.ty T)) := pe_bltn hg hm hv rfl hn hd
theorem pe_const {v : V} (hg : Gl X x) (h : Cst X.mg x v) (hd : (x == ("__debug__" : Str)) = false := by decide) : PE X (.Name x pos) (tC v) := by
  obtain ⟨u, hm, r⟩ := h
  exact pe_glob hg hm r hd
theorem pe_def {k k' : Nat} {ps : List Str} {sp : Sp} (D : Dfn X.prog X.w X.K X.mg X.base k x ps sp) (hr : Room k' X.A) (hk : k ≤ k') (hg : Gl X x) (ha : PA X (e :: es) t) (hdb : (x == ("__debug__" : Str)) = false := by decide)
    (he : starEach (e :: es) X.env = (false, eval e X.env) :: starEach es X.env := by rfl) (hpl : (backTo pos (starEach es X.env)).any (·.1) = false := by rfl) : PE X (.Call (.Name x p) (e :: es) [] pos) (tCall sp [] E0 t) := by
  obtain ⟨f, fd, F, hm, hkp, hb⟩ := D
  exact pe_call F (hr.mono hk) hg hm hkp hb .nil pass0 ha hdb he hpl
end

/-! ### a block's scope, looked at once -/
def blkTest (scope sc : Scope) (N : List Str) (x : Str) (caps : List Nat) : Bool :=
  scope.names.all (fun y => y.2 != .cell) && scope.names.all (fun y => y.2 != .local || scope.names.lookup y.1 == some .local) && scope.names.lookup x == some .local &&
  scope.names.all (fun y => y.2 != .free || sc.names.lookup y.1 == some .cell) &&
  caps.all (fun j => decide (j < N.length) && sc.names.lookup (N.getD j Str.empty) == some .cell && scope.names.lookup (N.getD j Str.empty) == some .free) && decide (x :: caps.map fun j => N.getD j Str.empty).Nodup
theorem blk_ok {X : Cx} {scope sc : Scope} {x : Str} {caps : List Nat} {N : List Str} (hsc : X.env.scope = sc) (hN : X.N = N) (hk : scope.kind = .function) (h : blkTest scope sc N x caps = true) : BlkOk X scope x caps := by
  unfold blkTest at h
  simp only [Bool.and_eq_true] at h
  obtain ⟨⟨⟨⟨⟨h1, h2⟩, h3⟩, h4⟩, h5⟩, h6⟩ := h
  rw [List.all_eq_true] at h1 h2 h4 h5
  refine ⟨hk, fun y hy => by simpa using h1 y hy, fun y hy e => ?_, by simpa using h3, fun y hy e => ?_, fun j hj => ?_, ?_⟩
  · have := h2 y hy
    rw [e] at this
    simpa using this
  · have := h4 y hy
    rw [e] at this
    show X.env.scope.names.lookup y.1 = _
    rw [hsc]
    simpa using this
  · have := h5 j hj
    simp only [Bool.and_eq_true, decide_eq_true_eq, beq_iff_eq] at this
    obtain ⟨⟨a, b⟩, c⟩ := this
    refine ⟨?_, ?_, ?_⟩
    · rw [hN, List.getElem?_eq_getElem a]; rfl
    · show X.env.scope.names.lookup _ = _
      rw [hsc, hN]; exact b
    · rw [hN]; exact c
  · unfold capN
    rw [hN]
    exact of_decide_eq_true h6

/-! ### heaps -/
/-- all but what stands at r is as it was -/
def Keep (r : Addr) (H H' : Hp) : Prop := ∀ b o, H b = some o → b ≠ r → H' b = some o
theorem Same.keep {H H' : Hp} (e : Same H H') (r : Addr) : Keep r H H' := fun b o h _ => e b o h
theorem Keep.refl (r : Addr) (H : Hp) : Keep r H H := fun _ _ h _ => h
theorem Keep.trans {r : Addr} {H H1 H2 : Hp} (a : Keep r H H1) (b : Keep r H1 H2) : Keep r H H2 := fun c o h n => b c o (a c o h n) n
theorem Keep.upd {r : Addr} {H : Hp} {o : HO} : Keep r H (L2.upd H r o) := fun b u h n => by rw [upd_ne n]; exact h
theorem same_new {H : Hp} {p : Addr} (h : H p = none) (o : HO) : Same H (upd H p o) := fun b u q => by rw [upd_ne (ne_of_none q h)]; exact q
/-- a thing that is new to H is no thing of H -/
theorem Keep.free {r : Addr} {H H' : Hp} (e : Keep r H H') {l : Addr} (hr : ∃ o, H' r = some o) (h : H' l = Option.none) : H l = Option.none := by
  cases q : H l with
  | none => rfl
  | some o =>
    by_cases hl : l = r
    · subst hl
      obtain ⟨o', z⟩ := hr
      rw [h] at z
      cases z
    · rw [e l o q hl] at h
      cases h

mutual
/-- no list in it -/
def noList : PyData → Bool
  | .list _ => false
  | .tuple xs => noLists xs
  | .dict _ => false
  | _ => true
def noLists : List PyData → Bool
  | [] => true
  | x :: xs => noList x && noLists xs
end
theorem SqT.keep {K : PySem.W.Frag} {r a : Addr} {H H' : Hp} {zs xs : List V} (k : Keep r H H') (hr : H r = some (.lst zs)) (h : SqT K H a xs) : SqT K H' a xs := by
  rcases h with (h | ⟨o, h⟩) | h
  · exact .inl (.inl (k _ _ h (ne_of h hr (by intro z; cases z))))
  · exact .inl (.inr ⟨o, k _ _ h (ne_of h hr (by intro z; cases z))⟩)
  · exact .inr h
theorem SqL.keep {K : PySem.W.Frag} {r a : Addr} {H H' : Hp} {xs : List V} (k : Keep r H H') (hr : a ≠ r) (h : SqL K H a xs) : SqL K H' a xs := by
  rcases h with (h | ⟨o, h⟩) | h
  · exact .inl (.inl (k _ _ h hr))
  · exact .inl (.inr ⟨o, k _ _ h hr⟩)
  · exact .inr h
mutual
theorem IsD.keep {K : PySem.W.Frag} {r : Addr} {H H' : Hp} {zs : List V} (k : Keep r H H') (hr : H r = some (.lst zs)) : ∀ {v : V} {d : PyData}, IsD K H v d → noList d = true → IsD K H' v d
  | _, _, .non, _ => .non
  | _, _, .bl b, _ => .bl b
  | _, _, .int i, _ => .int i
  | _, _, .str x, _ => .str x
  | _, _, .lst q qs, h => by cases h
  | _, _, .tup q qs, h => .tup (q.keep k hr) (IsDs.keep k hr qs h)
theorem IsDs.keep {K : PySem.W.Frag} {r : Addr} {H H' : Hp} {zs : List V} (k : Keep r H H') (hr : H r = some (.lst zs)) : ∀ {vs : List V} {ds : List PyData}, IsDs K H vs ds → noLists ds = true → IsDs K H' vs ds
  | _, _, .nil, _ => .nil
  | _, _, .cons q qs, h => by
    have h' := Bool.and_eq_true_iff.mp (show (noList _ && noLists _) = true from h)
    exact .cons (IsD.keep k hr q h'.1) (IsDs.keep k hr qs h'.2)
end

/-! ### data read off -/
theorem IsD.inv_int {K : PySem.W.Frag} {H : Hp} {v : V} {i : Int} (h : IsD K H v (.int i)) : v = .int i := by cases h; rfl
theorem IsD.inv_tup {K : PySem.W.Frag} {H : Hp} {v : V} {ds : List PyData} (h : IsD K H v (.tuple ds)) : ∃ a xs, v = .ref a ∧ SqT K H a xs ∧ IsDs K H xs ds := by cases h with | tup q qs => exact ⟨_, _, rfl, q, qs⟩
theorem IsD.inv_lst {K : PySem.W.Frag} {H : Hp} {v : V} {ds : List PyData} (h : IsD K H v (.list ds)) : ∃ a xs, v = .ref a ∧ SqL K H a xs ∧ IsDs K H xs ds := by cases h with | lst q qs => exact ⟨_, _, rfl, q, qs⟩
theorem IsDs.inv_cons {K : PySem.W.Frag} {H : Hp} {vs : List V} {d : PyData} {ds : List PyData} (h : IsDs K H vs (d :: ds)) : ∃ x xs, vs = x :: xs ∧ IsD K H x d ∧ IsDs K H xs ds := by cases h with | cons q qs => exact ⟨_, _, rfl, q, qs⟩
theorem IsDs.inv_nil {K : PySem.W.Frag} {H : Hp} {vs : List V} (h : IsDs K H vs []) : vs = [] := by cases h; rfl
theorem IsDs.inv_ints {K : PySem.W.Frag} {H : Hp} : ∀ {ns : List Int} {vs : List V}, IsDs K H vs (ns.map PyData.int) → vs = ns.map V.int
  | [], _, h => h.inv_nil
  | n :: ns, _, h => by
    obtain ⟨x, xs, rfl, q, qs⟩ := IsDs.inv_cons (d := .int n) (ds := ns.map PyData.int) h
    rw [q.inv_int, IsDs.inv_ints qs]
    rfl
/-- a tie -/
abbrev Tie := Int × Int × Int
def tieD (t : Tie) : PyData := .tuple [.int t.1, .int t.2.1, .int t.2.2]
theorem IsD.inv_tie {K : PySem.W.Frag} {H : Hp} {v : V} {t : Tie} (h : IsD K H v (tieD t)) : ∃ a, v = .ref a ∧ SqT K H a [.int t.1, .int t.2.1, .int t.2.2] := by
  obtain ⟨a, xs, rfl, q, qs⟩ := h.inv_tup
  obtain ⟨x, xs, rfl, q1, qs⟩ := qs.inv_cons
  obtain ⟨y, xs, rfl, q2, qs⟩ := qs.inv_cons
  obtain ⟨z, xs, rfl, q3, qs⟩ := qs.inv_cons
  rw [qs.inv_nil, q1.inv_int, q2.inv_int, q3.inv_int] at q
  exact ⟨a, rfl, q⟩
theorem IsD.tie {K : PySem.W.Frag} {H : Hp} {a : Addr} {x y c : Int} (h : SqT K H a [.int x, .int y, .int c]) : IsD K H (.ref a) (tieD (x, y, c)) := .tup h (.cons (.int x) (.cons (.int y) (.cons (.int c) .nil)))
theorem noLists_ties : ∀ ts : List Tie, noLists (ts.map tieD) = true
  | [] => rfl
  | t :: ts => by
    show (noList (tieD t) && noLists (ts.map tieD)) = true
    rw [noLists_ties ts]
    rfl
theorem line1000 {n : Nat} (h : n ≤ 1000) : n ≤ sizeLine := Nat.le_of_lt (small1000 h)
theorem bl_of {Q : VK} {H : Hp} {b : Bool} (e : b = true) (q : Q (.bl true) H) : Q (.bl b) H := by rw [e]; exact q
/-- an if whose test is known -/
theorem ifT {c : Bool} {A B : Prop} (e : c = true) (h : A) : if c = true then A else B := by rw [if_pos e]; exact h
theorem ifF {c : Bool} {A B : Prop} (e : c = false) (h : B) : if c = true then A else B := by rw [e, if_neg Bool.false_ne_true]; exact h
/-- what a net is made of -/
structure BrOk (ns : List Int) : Prop where
  one : 1 ≤ ns.length
  ten : ns.length ≤ 10
  rng : ∀ n ∈ ns, 0 ≤ n ∧ n ≤ 999
  nd : ns.Nodup
structure TieOk (ns : List Int) (t : Tie) : Prop where
  a : t.1 ∈ ns
  b : t.2.1 ∈ ns
  ne : t.1 ≠ t.2.1
  lo : 1 ≤ t.2.2
  hi : t.2.2 ≤ 1000
structure TsOk (ns : List Int) (ts : List Tie) : Prop where
  few : ts.length ≤ 16
  each : ∀ t ∈ ts, TieOk ns t
def mn (x y : Int) : Int := if y < x then y else x
def mx (x y : Int) : Int := if y > x then y else x
def loT (t : Tie) : Tie := (mn t.1 t.2.1, mx t.1 t.2.1, t.2.2)
def netD (bs : List Int) (ts : List Tie) : PyData := .tuple [.tuple (bs.map .int), .tuple (ts.map tieD)]
def dueD (ns : List Int) (ts : List Tie) : PyData := .tuple [.tuple ((sortI ns).map .int), .tuple ((ts.map loT).map tieD)]
theorem BrOk.perm {ns ms : List Int} (h : BrOk ns) (p : ms.Perm ns) : BrOk ms := ⟨by rw [p.length_eq]; exact h.one, by rw [p.length_eq]; exact h.ten, fun n hn => h.rng n (p.mem_iff.mp hn), p.nodup_iff.mpr h.nd⟩
theorem TsOk.perm {ns ms : List Int} {ts : List Tie} (h : TsOk ns ts) (p : ms.Perm ns) : TsOk ms ts := ⟨h.few, fun t ht => let ⟨a, b, c, d, e⟩ := h.each t ht; ⟨p.mem_iff.mpr a, p.mem_iff.mpr b, c, d, e⟩⟩
theorem inV_ints {n : Int} {ns : List Int} : inV (.int n) (ns.map V.int) = decide (n ∈ ns) := by
  unfold inV
  rw [List.any_map, Bool.eq_iff_iff, List.any_eq_true, decide_eq_true_eq]
  constructor
  · rintro ⟨m, hm, e⟩
    have e : (m == n) = true := e
    rw [← beq_iff_eq.mp e]
    exact hm
  · intro h
    exact ⟨n, h, show (n == n) = true by simp⟩
theorem flat_ints (ns : List Int) : (ns.map V.int).all flatV = true := by
  rw [List.all_map, List.all_eq_true]
  intro n _
  rfl
theorem get_ints {ns : List Int} {i : Nat} {x : V} (h : (ns.map V.int)[i]? = some x) : ∃ n, x = .int n ∧ ns[i]? = some n := by
  rw [List.getElem?_map] at h
  cases e : ns[i]? with
  | none => rw [e] at h; cases h
  | some n => rw [e] at h; exact ⟨n, (Option.some.inj h).symm, rfl⟩

/-! ### the rules that name the written part, with it told (within a block the context is bound) -/
section
variable {X : Cx} (K : PySem.W.Frag) (h : X.K = K)
include h
theorem ixK_tup : IxR X (rIxT K) := by subst h; exact ix_tup
theorem ixK_seq : IxR X (rIx K) := by subst h; exact ix_seq
theorem slK_tup : SlR X (rSlT K) := by subst h; exact sl_tup
theorem callK_minT (hc : X.calm = true) : CallR X (.builtin "min") (fun xs H Q => ∃ p i j, xs = [.ref p] ∧ SqT K H p [.int i, .int j] ∧ Q (.int (if j < i then j else i)) H) := by subst h; exact call_minT hc
theorem callK_maxT (hc : X.calm = true) : CallR X (.builtin "max") (fun xs H Q => ∃ p i j, xs = [.ref p] ∧ SqT K H p [.int i, .int j] ∧ Q (.int (if j > i then j else i)) H) := by subst h; exact call_maxT hc
end
end L2

set_option Elab.async false
set_option linter.all false
set_option maxRecDepth 100000
set_option maxHeartbeats 4000000
/-! for a, b in enumerate(t), t a tuple; sum of a tuple of ints -/
namespace L2
open PySem PySem.Spec PyProof.Rows

/-! ### the tuple's iterator asked by enumerate -/
section
variable {prog : Program} {w : World} {A : Around} {E : Value → Shared → Prop} {s : Shared}
end
open AutoSeq1 (wpAny_loadPart') in
/-! ### records of ours that turned; a thing that is new, tracked -/
section
variable {X : Cx} {pins : List (Addr × Obj)} {σ : St} {H : Hp} {s : Shared} {h' : Heap}
theorem Inv.track {T : Addr} {o : HO} (I : Inv X pins σ H s) (hT : H T = none) (h0 : X.s₀.heap.objs.size ≤ T) (hL : T ≠ X.env.locals) (hcl : ∀ x c, X.env.cells.lookup x = some c → c ≠ T) (hp : ∀ p ∈ X.pn ++ pins, p.1 ≠ T)
    (new : ObjOk X.prog X.w (upd H T o) s.heap T o) : Inv X pins σ (upd H T o) s := by
  have neT : ∀ b ob, X.s₀.heap.get? b = some ob → b ≠ T := fun b ob e => Nat.ne_of_lt (Nat.lt_of_lt_of_le (Heap.lt_size e) h0)
  refine ⟨I.ok, I.os, I.bare, ⟨I.base.keep, I.base.slot, fun b ob e n hx => ?_, I.base.there, fun b xs e => ?_, fun b ob xs e => ?_, fun b ps e => ?_⟩, I.loc, I.cell, ?_, fun x c e => ?_, fun p hpp => ?_, I.hok.track hT new, I.len⟩
  · rw [upd_ne (neT b ob e)]; exact I.base.free b ob e n hx
  · have q := I.base.tups b xs e; rw [upd_ne (ne_of_none q hT)]; exact q
  · have q := I.base.frzs b ob xs e; rw [upd_ne (ne_of_none q hT)]; exact q
  · obtain ⟨m, q⟩ := I.base.tbls b ps e
    exact ⟨m, by rw [upd_ne (ne_of_none q hT)]; exact q⟩
  · rw [upd_ne hL.symm]; exact I.free
  · rw [upd_ne (hcl x c e)]; exact I.freeC x c e
  · obtain ⟨a, b, c, d, e⟩ := I.pin p hpp
    exact ⟨a, by rw [upd_ne (hp p hpp)]; exact b, c, d, e⟩
end

/-! ### enumerate(t) -/
/-- pairs (i, item i) of the tuple at a, each a new tuple -/
def Ite (K : PySem.W.Frag) (a : Addr) : It :=
  ⟨fun i H => ∃ xs x, SqT K H a xs ∧ xs[i]? = some x, fun i H v H' => ∃ p, v = .ref p ∧ H p = none ∧ ∀ xs x, SqT K H a xs → xs[i]? = some x → H' = upd H p (.tup [.int i, x]), fun i H => ∃ xs, SqT K H a xs ∧ xs.length ≤ i⟩
section
variable {X : Cx}
def iEnumT (K : PySem.W.Frag) (ta : TA) : TI := fun σ H R => ta σ H fun vs H1 => ∃ a, vs = [.ref a] ∧ (∃ xs, SqT K H1 a xs) ∧ R (Ite K a) H1
/-! ### sum of a tuple of two ints -/
end
end L2

set_option Elab.async false
set_option linter.all false
set_option maxRecDepth 100000
set_option maxHeartbeats 4000000
/-! TEXTS: f-strings, join, split, a walk over a text's signs, int of a number's text -/
namespace L2
open PySem PySem.Spec PyProof.Rows
open PySem.Builtin PySem.Builtin.Str
/-! ### f-strings of ints and texts -/
abbrev TJ := St → Hp → Str → (Str → Hp → Prop) → Prop
def PJ (X : Cx) (vs : List Expr) (t : TJ) : Prop :=
  ∀ (pins : List (Addr × Obj)) (s : Shared) (σ : St) (H : Hp) (acc : Str) (Q : Str → Hp → Prop), Inv X pins σ H s → t σ H acc Q →
    Joins (model X.prog X.w) X.A X.xe (evalEach vs X.env) acc (fun out s1 => ∃ H1, Inv X pins σ H1 s1 ∧ out.length ≤ sizeLine ∧ Q out H1) s
def jNil : TJ := fun _ H acc Q => acc.length ≤ sizeLine ∧ Q acc H
def jCons (te : TE) (tr : TJ) : TJ := fun σ H acc Q => te σ H fun x H1 => ∃ y, x = .str y ∧ (acc ++ y).length ≤ sizeLine ∧ tr σ H1 (acc ++ y) Q
def tFmt (te : TE) : TE := fun σ H Q => te σ H fun x H1 => ∃ i, x = .int i ∧ i.natAbs.log2 < 1920 ∧ Q (.str (toString i)) H1
def tJoined (t : TJ) : TE := fun σ H Q => t σ H Str.empty fun out H1 => Q (.str out) H1
section
variable {X : Cx} {e : Expr} {es : List Expr} {te : TE} {tr : TJ} {pos : Pos}
theorem pj_nil : PJ X [] jNil := fun pins s σ H acc Q I h => ⟨H, I, h.1, h.2⟩
theorem pj_cons (he : PE X e te) (hr : PJ X es tr) (hs : evalEach (e :: es) X.env = eval e X.env :: evalEach es X.env := by rfl) : PJ X (e :: es) (jCons te tr) := by
  intro pins s σ H acc Q I h
  rw [hs]
  show wpAny _ _ _ _ _ _
  refine thn (he pins s σ H _ I h) fun v s1 ⟨x, H1, I1, r1, y, e1, hz, q1⟩ => ?_
  subst e1
  obtain ⟨t, rfl⟩ := r1
  exact ⟨y, t, rfl, hz, hr pins s1 σ H1 (acc ++ y) Q I1 q1⟩
theorem pe_fmt (he : PE X e te) : PE X (.FormattedValue e (-1) none pos) (tFmt te) := by
  intro pins s σ H Q I h
  refine wpAny_FormattedValue_plain (thn (he pins s σ H _ I h) fun v s1 ⟨x, H1, I1, r1, i, e1, hd, q1⟩ => ?_)
  subst e1
  obtain ⟨t, rfl⟩ := r1
  exact wpAny_formatField_int hd ⟨.str _, H1, I1.tok _, ⟨_, rfl⟩, q1⟩
theorem Joins.imp {M : Model} {A : Around} {E : Value → Shared → Prop} : ∀ {ps : List (Sem Value)} {acc : Str} {Q Q' : Str → Shared → Prop} {s : Shared}, (∀ o s, Q o s → Q' o s) → Joins M A E ps acc Q s → Joins M A E ps acc Q' s
  | [], _, _, _, _, f, h => f _ _ h
  | _ :: _, _, _, _, _, f, h => thn h fun v s1 ⟨y, t, e, hz, hr⟩ => ⟨y, t, e, hz, Joins.imp f hr⟩
theorem pe_joined {v1 v2 : Expr} {rest : List Expr} (h : PJ X (v1 :: v2 :: rest) tr) : PE X (.JoinedStr (v1 :: v2 :: rest) pos) (tJoined tr) := by
  intro pins s σ H Q I hq
  refine wpAny_JoinedStr (Joins.imp (fun out s1 ⟨H1, I1, hz, q⟩ => ⟨hz, ?_⟩) (h pins s σ H Str.empty _ I hq))
  exact ⟨.str out, H1, I1.tok _, ⟨_, rfl⟩, q⟩
end
/-! ### join, split -/
theorem strs_of : ∀ {ys : List Str} {us : List Value}, Vals (ys.map V.str) us → StrsAre us ys
  | [], _, .nil => .nil
  | y :: ys, _, .cons r rs => by
    obtain ⟨t, rfl⟩ := r
    exact .cons y t (strs_of rs)
theorem vals_strs : ∀ l : List (Str × Tok), Vals ((l.map (·.1)).map V.str) (strValues l)
  | [] => .nil
  | p :: l => .cons ⟨p.2, rfl⟩ (vals_strs l)
section
variable {X : Cx}
def rJoin (K : PySem.W.Frag) : V → List V → Hp → VK → Prop := fun x vs H Q => ∃ sep p, ∃ ys : List Str, x = .str sep ∧ vs = [.ref p] ∧ SqL K H p (ys.map V.str) ∧ (ys.map (·.length)).sum + ys.length * sep.length ≤ 16777216 ∧ Q (.str (Txt.join sep ys)) H
theorem mt_join : MtR X "str.join" (rJoin X.K) := by
  intro pins s σ H x vs v us Q I rx rv h
  obtain ⟨sep, p, ys, rfl, rfl, hq, hz, q⟩ := h
  obtain ⟨t, rfl⟩ := rx
  obtain ⟨u, rfl, ru⟩ := rv.one
  cases ru
  obtain ⟨its, r, pl, _⟩ := I.list hq
  exact join_list pl.isList (by simpa using strs_of r) hz fun t' k => ⟨.str _, H, I.tok k, ⟨_, rfl⟩, q⟩
def rSplit : V → List V → Hp → VK → Prop := fun x vs H Q => ∃ z c, x = .str z ∧ vs = [.str ⟨#[c]⟩] ∧ z.length + 2 ≤ sizeLine ∧ ∀ p, H p = none → Q (.ref p) (upd H p (.lst ((Txt.split z ⟨#[c]⟩).map V.str)))
theorem split_few (z : Str) (c : Nat) : (Txt.split z ⟨#[c]⟩).length ≤ z.length + 1 := by
  have h := StrLaws.join_split z ⟨#[c]⟩
  have g : ∀ ps : List Str, ps.length ≤ (Str.join ⟨#[c]⟩ ps).length + 1 := by
    intro ps
    induction ps with
    | nil => exact Nat.zero_le _
    | cons p r ih =>
      cases r with
      | nil => show 1 ≤ _ + 1; omega
      | cons p' r =>
        show (p' :: r).length + 1 ≤ (p ++ (⟨#[c]⟩ : Str) ++ Str.join ⟨#[c]⟩ (p' :: r)).length + 1
        rw [strLen_append, strLen_append]
        have : (⟨#[c]⟩ : Str).length = 1 := rfl
        omega
  have := g (Txt.split z ⟨#[c]⟩)
  rw [h] at this
  exact this
theorem mt_split : MtR X "str.split" rSplit := by
  intro pins s σ H x vs v us Q I rx rv h
  obtain ⟨z, c, rfl, rfl, hz, q⟩ := h
  obtain ⟨t, rfl⟩ := rx
  obtain ⟨u, rfl, t', rfl⟩ := rv.one
  have few := split_few z c
  have fin : ∀ (l : List (Str × Tok)) (k : Nat), l.map (·.1) = Txt.split z ⟨#[c]⟩ → EP X pins σ Q (.ref s.heap.objs.size) { s with heap := s.heap.push { cls := .type "list", data := .seq (strValues l).toArray }, toks := k } := fun l k e => by
    have hv := vals_strs l
    rw [e] at hv
    exact ⟨.ref s.heap.objs.size, _, I.lnew (t' := k) hv (by rw [List.length_map]; omega), rfl, q _ I.fresh⟩
  have hy : ((⟨#[c]⟩ : Str).length == 0) = false := rfl
  cases h1 : (decide (z.length < (⟨#[c]⟩ : Str).length) || decide (strKind z < strKind ⟨#[c]⟩)) with
  | true => exact call_meets F.slot_str_split (typeIs_str _ _ _) F.entry_str_split (F.args_str_split_2 _ _) (meets_str_split_cannot_occur z ⟨#[c]⟩ t t' h1) (fin [(z, t)] s.toks (if_pos h1).symm)
  | false =>
    cases hf : (occurrences z ⟨#[c]⟩ 0 z.length (z.length + 1)).isEmpty with
    | true => exact call_meets F.slot_str_split (typeIs_str _ _ _) F.entry_str_split (F.args_str_split_2 _ _) (meets_str_split_not_found z ⟨#[c]⟩ t t' h1 hy hf) (fin [(z, t)] s.toks ((if_neg (ne_true_of_eq_false h1)).trans (if_pos hf)).symm)
    | false =>
      have es : Txt.split z ⟨#[c]⟩ = partsBetween z (occurrences z ⟨#[c]⟩ 0 z.length (z.length + 1)) (⟨#[c]⟩ : Str).length := (if_neg (ne_true_of_eq_false h1)).trans (if_neg (ne_true_of_eq_false hf))
      rw [es] at few
      refine call_meets F.slot_str_split (typeIs_str _ _ _) F.entry_str_split (F.args_str_split_2 _ _) (meets_str_split_sep z ⟨#[c]⟩ t t' h1 hy hf (by omega) (by omega)) ?_
      have g := fin (numbered s.toks (partsBetween z (occurrences z ⟨#[c]⟩ 0 z.length (z.length + 1)) (⟨#[c]⟩ : Str).length)) (s.toks + (partsBetween z (occurrences z ⟨#[c]⟩ 0 z.length (z.length + 1)) (⟨#[c]⟩ : Str).length).length) ((numbered_texts _ _).trans es.symm)
      rw [← strsFrom_eq] at g
      exact g

/-! ### int(str(n)) -/
end
/-! ### a walk over a text's signs -/
def Its (z : Str) : It := ⟨fun i _ => i < z.length, fun i H x H' => H' = H ∧ ∃ c, z.cps.toList[i]? = some c ∧ x = .str ⟨#[c]⟩, fun i _ => z.length ≤ i⟩
theorem turn_str {P : Program} {w : World} {K : PySem.W.Frag} {x : Str} {px : Pos} (it : Addr) (z : Str) (t : Tok) : Turn P w K (.Name x px) (Its z) [it] it (fun i h => h.IsStrIter it (strIterType z) z t i) where
  mem := by simp
  obj := fun i h st b hb => by
    have e : b = it := by simpa using hb
    subst e
    obtain ⟨o, e, c, d⟩ := st
    exact ⟨o, e, fun v q => by rw [d] at q; cases q⟩
  keep := fun i h h' st k => let ⟨o, ho, r⟩ := st; ⟨o, k it (by simp) o ho, r⟩
  item := by
    intro X hP hw hK hc i pins s σ H E I hf st hg
    subst hP hw hK
    obtain ⟨f0, f1, f2, f3, f4, f5⟩ := hf it (by simp)
    have hi : i < z.cps.size := hg
    obtain ⟨c, hcx⟩ : ∃ c, z.cps[i]? = some c := ⟨z.cps[i], by simp [hi]⟩
    have fin : ∀ h' : Heap, h'.IsStrIter it (strIterType z) z t (i + 1) → Heap.SameBut it s.heap h' → ∃ u, (some (Value.str ⟨#[c]⟩ s.toks)) = some u ∧ wpAny (model X.prog X.w) X.A (letOwnedTupleGo (.Name x px) (.ref it) u) (fun _ s2 => ∃ x' H', Inv X pins σ H' s2 ∧ RelV x' u ∧ (Its z).yld i H x' H' ∧ s2.heap.IsStrIter it (strIterType z) z t (i + 1) ∧ ∀ b ∈ [it], H' b = none) E { s with heap := h', toks := s.toks + 1 } := fun h' st' sb =>
      ⟨_, rfl, wpAny_pure ⟨.str ⟨#[c]⟩, H, I.turned (t' := s.toks + 1) (fun b o hb e => (sb.2 b hb).trans e) f0 f1 f3 f4 f5, ⟨_, rfl⟩, ⟨rfl, c, by simpa using hcx, rfl⟩, st', fun b hb => (hf b hb).1⟩⟩
    cases ha : z.cps.all (· < 128) with
    | true =>
      have et : strIterType z = "str_ascii_iterator" := by unfold strIterType; rw [ha]; rfl
      rw [et] at st
      exact wpAny_pyNext_ascii_item st hcx fun h' st' sb => fin h' (by rw [et]; exact st') sb
    | false =>
      have et : strIterType z = "str_iterator" := by unfold strIterType; rw [ha]; rfl
      rw [et] at st
      exact wpAny_pyNext_wide_item st hcx fun h' st' sb => fin h' (by rw [et]; exact st') sb
  done := by
    intro X hP hw hK hc i pins s σ H E I hf st hg
    subst hP hw hK
    obtain ⟨f0, f1, f2, f3, f4, f5⟩ := hf it (by simp)
    have hi : z.cps.size ≤ i := hg
    have hcx : z.cps[i]? = none := by simp [hi]
    have fin : ∀ h' : Heap, Heap.ExtBut it s.heap h' → (none : Option Value) = none ∧ Inv X pins σ H { s with heap := h' } := fun h' eb => ⟨rfl, I.turned (t' := s.toks) (fun b o hb e => eb b o hb e) f0 f1 f3 f4 f5⟩
    cases ha : z.cps.all (· < 128) with
    | true =>
      have et : strIterType z = "str_ascii_iterator" := by unfold strIterType; rw [ha]; rfl
      rw [et] at st
      exact wpAny_pyNext_ascii_end (I.ok.hd hc) st hcx fin
    | false =>
      have et : strIterType z = "str_iterator" := by unfold strIterType; rw [ha]; rfl
      rw [et] at st
      exact wpAny_pyNext_wide_end (I.ok.hd hc) st hcx fin
  self := fun A i s Q E st h => by
    cases ha : z.cps.all (· < 128) with
    | true =>
      have et : strIterType z = "str_ascii_iterator" := by unfold strIterType; rw [ha]; rfl
      rw [et] at st
      exact wpAny_pyIter_striter_ascii st h
    | false =>
      have et : strIterType z = "str_iterator" := by unfold strIterType; rw [ha]; rfl
      rw [et] at st
      exact wpAny_pyIter_striter_wide st h
section
variable {X : Cx}
def iStr (tl : TE) : TI := fun σ H R => tl σ H fun x H1 => ∃ z, x = .str z ∧ R (Its z) H1
theorem pi_str {x : Str} {px : Pos} {l : Expr} {tl : TE} (hl : PE X l tl) : PI X (.Name x px) l (iStr tl) := by
  intro pins s σ H R I h
  refine thn (hl pins s σ H _ I h) fun v s1 ⟨y, H1, I1, r1, z, e, q⟩ => ?_
  subst e
  obtain ⟨t, rfl⟩ := r1
  refine wpAny_pyIter_strU ⟨s1.heap.objs.size, [s1.heap.objs.size], _, _, H1, rfl, I1.kept (t' := s1.toks) fun b o e => Heap.get?_push_of_some _ e, turn_str _ z t, ⟨_, Heap.get?_push_size _ rfl, rfl, rfl⟩, fun b hb => ?_, q⟩
  have e : b = s1.heap.objs.size := by simpa using hb
  subst e
  exact I1.fpOk (Nat.le_refl _) (I1.hok.fresh (Nat.le_refl _))
theorem comp_str0 {z : Str} {cap : St} {te : TE} {Fin : List V → Hp → Prop} {H : Hp} (Pv : Nat → List V → Hp → Prop) (h0 : Pv 0 [] H) (hz : z.length < sizeLine) (hl : ∀ i ys H, i ≤ z.length → Pv i ys H → ys.length ≤ i)
    (hs : ∀ i c ys H, z.cps.toList[i]? = some c → Pv i ys H → te (some (.str ⟨#[c]⟩) :: cap) H fun y H3 => Pv (i + 1) (ys ++ [y]) H3) (hd : ∀ ys H, Pv z.length ys H → Fin ys H) :
    ∃ W : Nat → Nat → List V → Hp → Prop, (∃ m, W 0 m [] H) ∧ CompW (Its z) cap tAll te Fin W := by
  refine ⟨fun i m ys H => m = z.length - i ∧ i ≤ z.length ∧ Pv i ys H, ⟨z.length, by simp, Nat.zero_le _, h0⟩, ?_⟩
  rintro i m ys H ⟨rfl, hi, p⟩
  have hy := hl i ys H hi p
  refine ⟨by omega, ?_⟩
  by_cases hlt : i < z.length
  · refine .inr ⟨hlt, Pv (i + 1), fun ys' H' p' => ⟨z.length - (i + 1), by omega, rfl, hlt, p'⟩, fun x H' y => ?_⟩
    obtain ⟨e, c, hcx, ex⟩ := y
    subst e ex
    exact all_true (hs i c ys _ hcx p)
  · have e : i = z.length := by omega
    subst e
    exact .inl ⟨Nat.le_refl _, hd ys H p⟩
end
end L2

set_option Elab.async false
set_option linter.all false
set_option maxRecDepth 100000
set_option maxHeartbeats 4000000
/-! TEXTS: what a cut text is; numbers' figures -/
namespace L2
open PySem PySem.Spec PyProof.Rows
open PySem.Builtin PySem.Builtin.Str
def codes (x : Str) : List Nat := x.cps.toList
theorem codes_inj {x y : Str} (h : codes x = codes y) : x = y := Str.ext' (Array.toList_inj.mp h)
theorem codes_app (x y : Str) : codes (x ++ y) = codes x ++ codes y := PySem.W.KT.app_list x y
theorem codes_len (x : Str) : (codes x).length = x.length := by unfold codes; simp [Str.length]
def jl (c : Nat) : List (List Nat) → List Nat
  | [] => []
  | [x] => x
  | x :: y :: r => x ++ c :: jl c (y :: r)
theorem join_codes (c : Nat) : ∀ ps : List Str, codes (Str.join ⟨#[c]⟩ ps) = jl c (ps.map codes)
  | [] => rfl
  | [x] => rfl
  | x :: y :: r => by
    show codes (x ++ (⟨#[c]⟩ : Str) ++ Str.join ⟨#[c]⟩ (y :: r)) = codes x ++ c :: jl c ((y :: r).map codes)
    rw [codes_app, codes_app, join_codes c (y :: r), List.append_assoc]
    rfl
theorem cut_one {c : Nat} : ∀ {a b A B : List Nat}, c ∉ a → c ∉ b → a ++ c :: A = b ++ c :: B → a = b ∧ A = B
  | [], [], _, _, _, _, h => ⟨rfl, (List.cons.inj h).2⟩
  | [], y :: b, _, _, _, hb, h => absurd (List.cons.inj h).1 (fun e => hb (by rw [e]; exact List.mem_cons_self))
  | x :: a, [], _, _, ha, _, h => absurd (List.cons.inj h).1 (fun e => ha (by rw [← e]; exact List.mem_cons_self))
  | x :: a, y :: b, A, B, ha, hb, h => by
    obtain ⟨e1, e2⟩ := List.cons.inj h
    obtain ⟨e3, e4⟩ := cut_one (fun z => ha (List.mem_cons_of_mem _ z)) (fun z => hb (List.mem_cons_of_mem _ z)) e2
    exact ⟨by rw [e1, e3], e4⟩
theorem jl_has {c : Nat} {x y : List Nat} {r : List (List Nat)} : c ∈ jl c (x :: y :: r) := by
  show c ∈ x ++ c :: jl c (y :: r)
  simp
theorem jl_inj {c : Nat} : ∀ {ps qs : List (List Nat)}, ps ≠ [] → qs ≠ [] → (∀ p ∈ ps, c ∉ p) → (∀ q ∈ qs, c ∉ q) → jl c ps = jl c qs → ps = qs
  | [], _, h, _, _, _, _ => absurd rfl h
  | _, [], _, h, _, _, _ => absurd rfl h
  | [x], [y], _, _, _, _, h => by rw [show x = y from h]
  | [x], y :: z :: r, _, _, hp, _, h => absurd (show c ∈ x by rw [show x = jl c (y :: z :: r) from h]; exact jl_has) (hp x List.mem_cons_self)
  | x :: z :: r, [y], _, _, _, hq, h => absurd (show c ∈ y by rw [show y = jl c (x :: z :: r) from h.symm]; exact jl_has) (hq y List.mem_cons_self)
  | x :: y :: r, x' :: y' :: r', _, _, hp, hq, h => by
    obtain ⟨e1, e2⟩ := cut_one (hp x List.mem_cons_self) (hq x' List.mem_cons_self) (show x ++ c :: jl c (y :: r) = x' ++ c :: jl c (y' :: r') from h)
    rw [e1, jl_inj (by simp) (by simp) (fun p hp' => hp p (List.mem_cons_of_mem _ hp')) (fun q hq' => hq q (List.mem_cons_of_mem _ hq')) e2]
theorem cnt_count (c : Nat) : ∀ l : List Nat, cnt c l = (l.count c : Int)
  | [] => by simp [cnt_nil]
  | x :: l => by
    rw [cnt_cons, cnt_count c l, List.count_cons]
    by_cases e : x = c
    · subst e; simp <;> omega
    · have e' : ¬ c = x := fun z => e z.symm
      simp [e, e']
theorem jl_count (c : Nat) : ∀ ps : List (List Nat), ps ≠ [] → (jl c ps).count c + 1 = (ps.map (List.count c)).sum + ps.length
  | [], h => absurd rfl h
  | [x], _ => by simp [jl]
  | x :: y :: r, _ => by
    have ih := jl_count c (y :: r) (by simp)
    show (x ++ c :: jl c (y :: r)).count c + 1 = _
    rw [List.count_append, List.count_cons_self, List.map_cons, List.sum_cons, List.length_cons]
    omega
theorem split_free {x : Str} {c : Nat} : ∀ p ∈ Txt.split x ⟨#[c]⟩, c ∉ codes p := by
  have h1 := split_len x c
  have h2 := join_codes c (Txt.split x ⟨#[c]⟩)
  rw [StrLaws.join_split] at h2
  rw [cnt_count] at h1
  have hne : (Txt.split x ⟨#[c]⟩).map codes ≠ [] := by
    intro e
    have : (Txt.split x ⟨#[c]⟩).length = 0 := by rw [← List.length_map (f := codes), e]; rfl
    omega
  have h3 := jl_count c _ hne
  rw [← h2, List.length_map] at h3
  have h4 : (x.cps.toList.count c) = (codes x).count c := rfl
  have h5 : (((Txt.split x ⟨#[c]⟩).map codes).map (List.count c)).sum = 0 := by omega
  intro p hp hc
  have h6 : List.count c (codes p) ∈ ((Txt.split x ⟨#[c]⟩).map codes).map (List.count c) := List.mem_map.mpr ⟨codes p, List.mem_map.mpr ⟨p, hp, rfl⟩, rfl⟩
  have h7 : ∀ (l : List Nat) (k : Nat), k ∈ l → k ≤ l.sum := by
    intro l
    induction l with
    | nil => intro k h; cases h
    | cons a l ih =>
      intro k h
      rw [List.sum_cons]
      rcases List.mem_cons.mp h with e | h
      · omega
      · have := ih k h; omega
  have h8 := h7 _ _ h6
  have h9 := List.count_pos_iff.mpr hc
  omega
/-- a text cut at c: the one row of parts without c that makes it -/
theorem split_eq {x : Str} {c : Nat} {ps : List Str} (hne : ps ≠ []) (hf : ∀ p ∈ ps, c ∉ codes p) (h : codes x = jl c (ps.map codes)) : Txt.split x ⟨#[c]⟩ = ps := by
  have h2 := join_codes c (Txt.split x ⟨#[c]⟩)
  rw [StrLaws.join_split] at h2
  have hs : (Txt.split x ⟨#[c]⟩).map codes ≠ [] := by
    intro e
    have h1 := split_len x c
    rw [cnt_count] at h1
    have : (Txt.split x ⟨#[c]⟩).length = 0 := by rw [← List.length_map (f := codes), e]; rfl
    omega
  have e := jl_inj hs (by simpa using hne) (fun p hp => by obtain ⟨q, hq, rfl⟩ := List.mem_map.mp hp; exact split_free q hq) (fun p hp => by obtain ⟨q, hq, rfl⟩ := List.mem_map.mp hp; exact hf q hq) (h2.symm.trans h)
  have inj : ∀ {as bs : List Str}, as.map codes = bs.map codes → as = bs := by
    intro as
    induction as with
    | nil => intro bs h; cases bs with | nil => rfl | cons b bs => cases h
    | cons a as ih =>
      intro bs h
      cases bs with
      | nil => cases h
      | cons b bs =>
        rw [List.map_cons, List.map_cons] at h
        obtain ⟨h1, h2⟩ := List.cons.inj h
        rw [codes_inj h1, ih h2]
  exact inj e
/-! ### figures -/
def dg (n : Int) : Str := Str.ofString (toString n)
def figs (m : Nat) : List Nat := (Nat.toDigits 10 m).map Char.toNat
theorem dg_codes (m : Nat) : codes (dg (m : Int)) = figs m := PySem.W.KIN.signs_num m
def figOk (m : Nat) : Bool := decide (1 ≤ (figs m).length) && decide ((figs m).length ≤ 4) && (figs m).all (fun c => decide (48 ≤ c) && decide (c ≤ 57)) && (if m = 0 then figs m == [48] else (figs m).head? != some 48)
theorem figs_ok : (List.range 1001).all figOk = true := by decide +kernel
structure FigOk (n : Int) : Prop where
  one : 1 ≤ (codes (dg n)).length
  four : (codes (dg n)).length ≤ 4
  fig : ∀ c ∈ codes (dg n), 48 ≤ c ∧ c ≤ 57
  nought : n = 0 → codes (dg n) = [48]
  first : n ≠ 0 → (codes (dg n)).head? ≠ some 48
theorem fig_ok {n : Int} (h0 : 0 ≤ n) (h1 : n ≤ 1000) : FigOk n := by
  obtain ⟨m, rfl⟩ : ∃ m : Nat, n = (m : Int) := ⟨n.toNat, by omega⟩
  have h := List.all_eq_true.mp figs_ok m (List.mem_range.mpr (by omega))
  unfold figOk at h
  simp only [Bool.and_eq_true, decide_eq_true_eq] at h
  obtain ⟨⟨⟨a, b⟩, c⟩, d⟩ := h
  rw [← dg_codes] at a b c d
  refine ⟨a, b, fun k hk => ?_, fun e => ?_, fun e => ?_⟩
  · have := List.all_eq_true.mp c k hk
    simpa using this
  · have e : m = 0 := by omega
    rw [if_pos e] at d
    simpa using d
  · have e : ¬ m = 0 := by omega
    rw [if_neg e] at d
    simpa using d
end L2

set_option Elab.async false
set_option linter.all false
set_option maxRecDepth 100000
set_option maxHeartbeats 4000000
/-! TEXTS: a net's text, its lines and words -/
namespace L2
open PySem PySem.Spec PyProof.Rows
open PySem.Builtin PySem.Builtin.Str
def wB : Str := "bridge"
def wT : Str := "tie"
def nl : Str := "\n"
def sp1 : Str := " "
def bW (n : Int) : Str := ("bridge " : Str) ++ dg n
def tW (t : Tie) : Str := ("tie " : Str) ++ dg t.1 ++ (" " : Str) ++ dg t.2.1 ++ (" " : Str) ++ dg t.2.2
def lns (bs : List Int) (ts : List Tie) : List Str := bs.map bW ++ ts.map tW
def fl (ls : List Str) : List Nat := (ls.map fun l => codes l ++ [10]).flatten
def txt (bs : List Int) (ts : List Tie) : Str := ⟨(fl (lns bs ts)).toArray⟩
theorem codes_txt (bs : List Int) (ts : List Tie) : codes (txt bs ts) = fl (lns bs ts) := by unfold codes txt; simp
theorem fl_app (a b : List Str) : fl (a ++ b) = fl a ++ fl b := by unfold fl; simp
theorem fl_one (a : Str) : fl [a] = codes a ++ [10] := by unfold fl; simp
theorem jl_end (c : Nat) : ∀ ls : List (List Nat), jl c (ls ++ [[]]) = (ls.map (· ++ [c])).flatten
  | [] => rfl
  | [x] => by simp [jl]
  | x :: y :: r => by
    show x ++ c :: jl c ((y :: r) ++ [[]]) = _
    rw [jl_end c (y :: r)]
    simp
structure NetOk (bs : List Int) (ts : List Tie) : Prop where
  br : BrOk bs
  ti : TsOk bs ts
  so : sortI bs = bs
  lo : ts.map loT = ts
theorem BrOk.fig {bs : List Int} (h : BrOk bs) {n : Int} (hn : n ∈ bs) : FigOk n := fig_ok (h.rng n hn).1 (by have := (h.rng n hn).2; omega)
structure TFig (t : Tie) : Prop where
  a : FigOk t.1
  b : FigOk t.2.1
  c : FigOk t.2.2
theorem NetOk.bfig {bs : List Int} {ts : List Tie} (h : NetOk bs ts) {n : Int} (hn : n ∈ bs) : FigOk n := h.br.fig hn
theorem NetOk.tfig {bs : List Int} {ts : List Tie} (h : NetOk bs ts) {t : Tie} (ht : t ∈ ts) : TFig t := by
  obtain ⟨a, b, _, d, e⟩ := h.ti.each t ht
  exact ⟨h.br.fig a, h.br.fig b, fig_ok (by omega) e⟩
theorem netok_due {ns : List Int} {ts : List Tie} (B : BrOk ns) (O : TsOk ns ts) : NetOk (sortI ns) (ts.map loT) := by
  have p := sortI_perm ns
  refine ⟨B.perm p, ⟨by rw [List.length_map]; exact O.few, fun t ht => ?_⟩, sortI_of_perm p, ?_⟩
  · obtain ⟨u, hu, rfl⟩ := List.mem_map.mp ht
    obtain ⟨a, b, c, d, e⟩ := (O.perm p).each u hu
    refine ⟨?_, ?_, ?_, d, e⟩
    · show mn u.1 u.2.1 ∈ sortI ns
      unfold mn; split <;> assumption
    · show mx u.1 u.2.1 ∈ sortI ns
      unfold mx; split <;> assumption
    · show mn u.1 u.2.1 ≠ mx u.1 u.2.1
      unfold mn mx; split <;> split <;> omega
  · rw [List.map_map]
    refine List.map_congr_left fun t _ => ?_
    show loT (loT t) = loT t
    have e1 : mn (mn t.1 t.2.1) (mx t.1 t.2.1) = mn t.1 t.2.1 := by unfold mn mx; (repeat' split) <;> omega
    have e2 : mx (mn t.1 t.2.1) (mx t.1 t.2.1) = mx t.1 t.2.1 := by unfold mn mx; (repeat' split) <;> omega
    show (mn (mn t.1 t.2.1) (mx t.1 t.2.1), mx (mn t.1 t.2.1) (mx t.1 t.2.1), t.2.2) = _
    rw [e1, e2]
    rfl
/-! ### a line's signs -/
theorem codes_bW (n : Int) : codes (bW n) = codes ("bridge " : Str) ++ codes (dg n) := codes_app _ _
theorem codes_tW (t : Tie) : codes (tW t) = codes ("tie " : Str) ++ (codes (dg t.1) ++ (32 :: (codes (dg t.2.1) ++ (32 :: codes (dg t.2.2))))) := by
  unfold tW
  rw [codes_app, codes_app, codes_app, codes_app, codes_app]
  have e : codes (" " : Str) = [32] := by decide
  rw [e]
  simp
theorem FigOk.no {n : Int} (h : FigOk n) {c : Nat} (hc : c < 48) : c ∉ codes (dg n) := fun m => by have := (h.fig c m).1; omega
theorem bW_no {n : Int} (h : FigOk n) : 10 ∉ codes (bW n) := by
  rw [codes_bW]
  intro m
  rcases List.mem_append.mp m with m | m
  · revert m; decide
  · exact h.no (by decide) m
theorem tW_no {t : Tie} (h : TFig t) : 10 ∉ codes (tW t) := by
  rw [codes_tW]
  have h1 := h.a.no (c := 10) (by decide)
  have h2 := h.b.no (c := 10) (by decide)
  have h3 := h.c.no (c := 10) (by decide)
  have h0 : 10 ∉ codes ("tie " : Str) := by decide
  simp [h0, h1, h2, h3]
theorem lns_no {bs : List Int} {ts : List Tie} (h : NetOk bs ts) : ∀ l ∈ lns bs ts, 10 ∉ codes l := by
  intro l hl
  rcases List.mem_append.mp hl with m | m
  · obtain ⟨n, hn, rfl⟩ := List.mem_map.mp m
    exact bW_no (h.bfig hn)
  · obtain ⟨t, ht, rfl⟩ := List.mem_map.mp m
    exact tW_no (h.tfig ht)
theorem split_txt {bs : List Int} {ts : List Tie} (h : NetOk bs ts) : Txt.split (txt bs ts) ⟨#[10]⟩ = lns bs ts ++ [Str.empty] := by
  refine split_eq (by simp) (fun p hp => ?_) ?_
  · rcases List.mem_append.mp hp with m | m
    · exact lns_no h p m
    · rw [List.mem_singleton.mp m]
      decide
  · rw [codes_txt, List.map_append]
    show fl (lns bs ts) = jl 10 ((lns bs ts).map codes ++ [[]])
    rw [jl_end, List.map_map]
    rfl
theorem split_bW {n : Int} (h : FigOk n) : Txt.split (bW n) ⟨#[32]⟩ = [wB, dg n] := by
  refine split_eq (by simp) (fun p hp => ?_) ?_
  · simp only [List.mem_cons, List.not_mem_nil, or_false] at hp
    rcases hp with rfl | rfl
    · decide
    · exact h.no (by decide)
  · rw [codes_bW]
    show _ = codes wB ++ 32 :: codes (dg n)
    have e : codes ("bridge " : Str) = codes wB ++ [32] := by decide
    rw [e, List.append_assoc]
    rfl
theorem split_tW {t : Tie} (h : TFig t) : Txt.split (tW t) ⟨#[32]⟩ = [wT, dg t.1, dg t.2.1, dg t.2.2] := by
  refine split_eq (by simp) (fun p hp => ?_) ?_
  · simp only [List.mem_cons, List.not_mem_nil, or_false] at hp
    rcases hp with rfl | rfl | rfl | rfl
    · decide
    · exact h.a.no (by decide)
    · exact h.b.no (by decide)
    · exact h.c.no (by decide)
  · rw [codes_tW]
    show _ = codes wT ++ 32 :: (codes (dg t.1) ++ 32 :: (codes (dg t.2.1) ++ 32 :: codes (dg t.2.2)))
    have e : codes ("tie " : Str) = codes wT ++ [32] := by decide
    rw [e, List.append_assoc]
    rfl
/-! ### lengths -/
theorem bW_len {n : Int} (h : FigOk n) : (codes (bW n)).length ≤ 20 := by
  rw [codes_bW, List.length_append]
  have := h.four
  have e : (codes ("bridge " : Str)).length = 7 := by decide
  omega
theorem tW_len {t : Tie} (h : TFig t) : (codes (tW t)).length ≤ 20 := by
  rw [codes_tW]
  have h1 := h.a.four
  have h2 := h.b.four
  have h3 := h.c.four
  have e : (codes ("tie " : Str)).length = 4 := by decide
  simp only [List.length_append, List.length_cons]
  omega
theorem fl_len : ∀ ls : List Str, (∀ l ∈ ls, (codes l).length ≤ 20) → (fl ls).length ≤ 21 * ls.length
  | [], _ => Nat.le_refl _
  | l :: ls, h => by
    have ih := fl_len ls fun x hx => h x (List.mem_cons_of_mem _ hx)
    have h1 := h l List.mem_cons_self
    have e : fl (l :: ls) = (codes l ++ [10]) ++ fl ls := by unfold fl; simp
    rw [e, List.length_append, List.length_append]
    have e2 : (l :: ls).length = ls.length + 1 := rfl
    have e3 : ([10] : List Nat).length = 1 := rfl
    omega
theorem lns_len {bs : List Int} {ts : List Tie} (h : NetOk bs ts) : ∀ l ∈ lns bs ts, (codes l).length ≤ 20 := by
  intro l hl
  rcases List.mem_append.mp hl with m | m
  · obtain ⟨n, hn, rfl⟩ := List.mem_map.mp m
    exact bW_len (h.bfig hn)
  · obtain ⟨t, ht, rfl⟩ := List.mem_map.mp m
    exact tW_len (h.tfig ht)
theorem lns_few {bs : List Int} {ts : List Tie} (h : NetOk bs ts) : (lns bs ts).length ≤ 26 := by
  unfold lns
  rw [List.length_append, List.length_map, List.length_map]
  have := h.br.ten
  have := h.ti.few
  omega
theorem txt_len {bs : List Int} {ts : List Tie} (h : NetOk bs ts) : (txt bs ts).length ≤ 600 := by
  rw [← codes_len, codes_txt]
  have := fl_len _ (lns_len h)
  have := lns_few h
  omega
/-! ### joined -/
theorem join_eq (x : Str) (ps : List Str) : Txt.join x ps = Str.join x ps := StrLaws.glued_eq_join x ps
theorem join0_codes' : ∀ ps : List Str, codes (Str.join Str.empty ps) = (ps.map codes).flatten
  | [] => rfl
  | [x] => by show codes x = _; simp
  | x :: y :: r => by
    show codes (x ++ Str.empty ++ Str.join Str.empty (y :: r)) = _
    rw [codes_app, codes_app, join0_codes' (y :: r)]
    have e : codes Str.empty = [] := rfl
    rw [e]
    simp
theorem join0_codes (ps : List Str) : codes (Txt.join Str.empty ps) = (ps.map codes).flatten := by rw [join_eq]; exact join0_codes' ps
/-- a tie's line, put together of its words -/
theorem join_tie (t : Tie) : codes (Txt.join sp1 [wT, dg t.1, dg t.2.1, dg t.2.2]) = codes (tW t) := by
  have e : sp1 = ⟨#[32]⟩ := by decide
  rw [e, join_eq, join_codes, codes_tW]
  show codes wT ++ 32 :: (codes (dg t.1) ++ 32 :: (codes (dg t.2.1) ++ 32 :: codes (dg t.2.2))) = _
  have e2 : codes ("tie " : Str) = codes wT ++ [32] := by decide
  rw [e2, List.append_assoc]
  rfl
/-- the lines as they are put together in the program -/
def bL (n : Int) : Str := Str.empty ++ ("bridge " : Str) ++ dg n ++ ("\n" : Str)
def tL (t : Tie) : Str := Str.empty ++ ("tie " : Str) ++ dg t.1 ++ (" " : Str) ++ dg t.2.1 ++ (" " : Str) ++ dg t.2.2 ++ ("\n" : Str)
theorem codes_bL (n : Int) : codes (bL n) = codes (bW n) ++ [10] := by
  unfold bL bW
  rw [codes_app, codes_app, codes_app, codes_app]
  have e : codes ("\n" : Str) = [10] := by decide
  rw [e]
  rfl
theorem codes_tL (t : Tie) : codes (tL t) = codes (tW t) ++ [10] := by
  unfold tL tW
  simp only [codes_app]
  have e : codes ("\n" : Str) = [10] := by decide
  rw [e]
  rfl
theorem join_lines (bs : List Int) (ts : List Tie) : Txt.join Str.empty (bs.map bL ++ ts.map tL) = txt bs ts := by
  refine codes_inj ?_
  rw [join0_codes, codes_txt]
  unfold fl lns
  rw [List.map_append, List.map_append, List.map_map, List.map_map, List.map_map, List.map_map]
  have e1 : (codes ∘ bL) = ((fun l => codes l ++ [10]) ∘ bW) := funext codes_bL
  have e2 : (codes ∘ tL) = ((fun l => codes l ++ [10]) ∘ tW) := funext codes_tL
  rw [e1, e2]
/-- all but its last one -/
theorem cutV_last (xs : List V) (v : V) : cutV (xs ++ [v]) none (some (-1)) = xs := by
  unfold cutV HT.sIx
  have e : (xs ++ [v]).length = xs.length + 1 := by rw [List.length_append]; rfl
  rw [e]
  simp only [List.drop_zero]
  have z : (if (-1 : Int) < 0 then ((-1 : Int) + ((xs.length + 1 : Nat) : Int)).toNat else min (-1 : Int).toNat (xs.length + 1)) - 0 = xs.length := by
    rw [if_pos (by decide)]
    omega
  first
  | rw [z, List.take_left']; rfl
  | (simp only [z]; simp)
  | simp [z]
end L2

set_option Elab.async false
set_option linter.all false
set_option maxRecDepth 100000
set_option maxHeartbeats 4000000
/-! EXCEPTIONS of own classes: raised, passed on by a def, caught by a name -/
namespace L2
open PySem PySem.Spec PyProof.Rows
theorem ObjOk.obj {P : Program} {w : World} {H : Hp} {h : Heap} {a : Addr} {o : HO} (x : ObjOk P w H h a o) : ∃ u, h.get? a = some u := by
  cases o with
  | lst xs => obtain ⟨_, _, _, _, e⟩ := x; exact ⟨_, e⟩
  | tup xs => obtain ⟨_, _, _, ob, e, _⟩ := x; exact ⟨_, e⟩
  | dK kvs => obtain ⟨_, _, _, _, o, _, _, e, _⟩ := x; exact ⟨_, e⟩
  | dT kvs => obtain ⟨_, _, _, _, o, _, _, e, _⟩ := x; exact ⟨_, e⟩
  | set S n => obtain ⟨o, _, _, _, e, _⟩ := x; exact ⟨_, e⟩
  | ins C dx fs => obtain ⟨_, _, _, e, _⟩ := x; exact ⟨_, e⟩
  | own y => exact x
  | xd fs => obtain ⟨_, ⟨_, _, _, e, _⟩, _⟩ := x; exact ⟨_, e⟩
  | rng lo hi => obtain ⟨_, _, _, e⟩ := x; exact ⟨_, e⟩
  | frz ob u => exact ⟨_, x.1⟩
  | tbl ps => exact ⟨_, (show h.get? a = some _ from x)⟩
  | met f y => exact ⟨_, (show h.get? a = some _ from x)⟩
  | ext φ => exact x.2.1
theorem HOk.none_of {P : Program} {w : World} {H : Hp} {h : Heap} {a : Addr} (x : HOk P w H h) (e : h.get? a = none) : H a = none := by
  cases q : H a with
  | none => rfl
  | some u =>
    obtain ⟨ob, z⟩ := (x a u q).obj
    rw [e] at z
    cases z
/-- an exception of the class cls at a; T its newest entry -/
def ExAt (h : Heap) (a : Addr) (cls : Value) (T : Option Addr) : Prop :=
  ∃ oe vs a0, h.get? a = some oe ∧ oe.cls = cls ∧ oe.data = .fields vs ∧ vs[0]? = some a0 ∧
    match T with
    | none => vs[1]? = some .none
    | some T => vs[1]? = some (.ref T) ∧ T ≠ a ∧ ∃ oT ts, h.get? T = some oT ∧ oT.data = .fields ts ∧ ts[3]? = some .none
/-- an exception that lies behind a piece of code: s, H ahead of it, s', H' behind it -/
structure Fl (P : Program) (w : World) (l : List Env) (H : Hp) (s : Shared) (H' : Hp) (a : Addr) (cls : Value) (s' : Shared) : Prop where
  os : s'.os = s.os
  bare : AllBare s'.gens
  un : Un (frs l) [] H H' s.heap s'.heap
  hok : HOk P w H' s'.heap
  na : s.heap.get? a = none
  ha : H' a = none
  ex : ∃ T, ExAt s'.heap a cls T ∧ ∀ t, T = some t → s.heap.get? t = none ∧ H' t = none
/-- how an exception lies behind a call -/
def CX1 (P : Program) (w : World) : CXT := fun l H s E e s' => ∃ a cls H', e = .ref a ∧ Fl P w l H s H' a cls s' ∧ E cls none H'
/-- what a body wants of the exceptions in it -/
def XW (X : Cx) (E : XK) : Prop := ∀ (pins : List (Addr × Obj)) (σ : St) (H : Hp) (s : Shared) (H' : Hp) (a : Addr) (cls : Value) (s' : Shared),
  Inv X pins σ H s → Fl X.prog X.w X.stack H s H' a cls s' → E cls none H' → X.xe (.ref a) s'
theorem XW.passes {X : Cx} {E : XK} (h : XW X E) : Passes (CX1 X.prog X.w) X E := fun pins σ H s e s' I ⟨a, cls, H', z, f, q⟩ => by
  subst z
  exact h pins σ H s H' a cls s' I f q
/-! ### an entry is made -/
section
variable {M : Model} {A : Around} {E : Value → Shared → Prop} {s : Shared} {B : Heap} {env : Env} {outer : List Env} {L a : Addr} {cls : Value} {T : Option Addr} {Q : Unit → Shared → Prop}
/-- the heap without the frames, the exception and its entry -/
def bare0 (h : Heap) (l : List Env) (a : Addr) (T : Option Addr) : Heap := PySem.W.hideAll h (a :: (T.toList ++ frs l))
theorem bare0_stays (h : Heap) (l : List Env) (a : Addr) (T : Option Addr) : (bare0 h l a T).StaysIn h := fun b o e => PySem.W.of_hideAll _ e
theorem bare0_fr {h : Heap} {l : List Env} (a : Addr) (T : Option Addr) (hl : h.FunFrames B l) : h.FunFrames (bare0 h l a T) l :=
  PySem.W.funFrames_hide hl fun e he b hb => List.mem_cons_of_mem _ (List.mem_append_right _ (List.mem_filterMap.mpr ⟨e, he, hb⟩))
theorem bare0_a (h : Heap) (l : List Env) (a : Addr) (T : Option Addr) : (bare0 h l a T).get? a = none := PySem.W.hideAll_none _ List.mem_cons_self
theorem bare0_T (h : Heap) (l : List Env) (a t : Addr) : (bare0 h l a (some t)).get? t = none := PySem.W.hideAll_none _ (List.mem_cons_of_mem _ (List.mem_append_left _ (by simp)))
theorem leave_step (hfr : A.frames = some (env :: outer)) (hf : env.frame = some L) (hl : s.heap.FunFrames B (env :: outer)) (hx : ExAt s.heap a cls T)
    (h : ∀ h' a0, Heap.LeftW (bare0 s.heap (env :: outer) a T) (env :: outer) a cls a0 s.heap h' → Q () { s with heap := h' }) : wpAny M A (leaving env (.ref a)) Q E s := by
  obtain ⟨oe, vs, a0, he, hc, hd, h0, ht⟩ := hx
  cases T with
  | none =>
    subst hc
    exact wpAny_leaving_firstW hfr (bare0_fr a none hl) hf he (bare0_stays _ _ _ _) (bare0_a _ _ _ _) hd ht h0 fun h' z => h h' a0 z
  | some t =>
    obtain ⟨h1, hne, oT, ts, e1, e2, e3⟩ := ht
    exact wpAny_leaving_nextW hfr (bare0_fr a (some t) hl) hf ⟨oe, vs, t, oT, ts, he, ⟨hc, h0⟩, hd, h1, bare0_T _ _ _ _, hne, e1, e2, e3⟩ (bare0_stays _ _ _ _) (bare0_a _ _ _ _) fun h' z => h h' a0 z
theorem land_step (hfr : A.frames = some (env :: outer)) (hf : env.frame = some L) (hl : s.heap.FunFrames B (env :: outer)) (hx : ExAt s.heap a cls T)
    (h : ∀ h' a0, Heap.LeftW (bare0 s.heap (env :: outer) a T) (env :: outer) a cls a0 s.heap h' → Q () { s with heap := h' }) : wpAny M A (noteFrame (.ref a) env) (fun _ s2 => wpAny M A (setFlight (.ref a) none) Q E s2) E s := by
  obtain ⟨oe, vs, a0, he, hc, hd, h0, ht⟩ := hx
  have fin : ∀ h', Heap.NotedW (bare0 s.heap (env :: outer) a T) (env :: outer) a cls a0 (rawInt L) s.heap h' → wpAny M A (setFlight (.ref a) none) Q E { s with heap := h' } := fun h' ⟨k1, k2, k3, k4⟩ =>
    wpAny_setFlight_noneW k1 k2 k3 fun h2 j1 j2 j3 j4 => h h2 a0 ⟨j1, j2, j3, fun b o e nf => by
      obtain ⟨sl, e2⟩ := k4 b o e nf
      exact ⟨sl, j4 b _ e2 nf⟩⟩
  cases T with
  | none =>
    subst hc
    unfold noteFrame
    simp only [hf]
    refine wpAny_bind (wpAny_field he hd ht ?_)
    rw [if_neg (by decide)]
    exact wpAny_entryW hfr (bare0_fr a none hl) hf he (bare0_stays _ _ _ _) (bare0_a _ _ _ _) hd (Array.getElem?_eq_some_iff.mp ht).1 h0 fin
  | some t =>
    obtain ⟨h1, hne, oT, ts, e1, e2, e3⟩ := ht
    exact wpAny_noteFrame_onW hfr (bare0_fr a (some t) hl) hf ⟨oe, vs, t, oT, ts, he, ⟨hc, h0⟩, hd, h1, bare0_T _ _ _ _, hne, e1, e2, e3⟩ (bare0_stays _ _ _ _) (bare0_a _ _ _ _) fin
end
/-- the step's heap as a whole -/
theorem Fl.left {P : Program} {w : World} {l : List Env} {H H' : Hp} {s s' : Shared} {a : Addr} {cls a0 : Value} {h' B : Heap} (f : Fl P w l H s H' a cls s') {T : Option Addr} (hT : ∀ t, T = some t → s.heap.get? t = none ∧ H' t = none)
    (hl : s'.heap.FunFrames B l) (hfr : ∀ b ∈ frs l, H' b = none) (z : Heap.LeftW (bare0 s'.heap l a T) l a cls a0 s'.heap h') : Fl P w l H s H' a cls { s' with heap := h' } := by
  obtain ⟨k1, k2, k3, k4⟩ := z
  have inb : ∀ b o, s'.heap.get? b = some o → b ≠ a → (∀ t, T = some t → b ≠ t) → b ∉ frs l → h'.get? b = some o := fun b o e na nt nf => k1 b o (PySem.W.hideAll_get _ e (by
    intro m
    rcases List.mem_cons.mp m with m | m
    · exact na m
    · rcases List.mem_append.mp m with m | m
      · cases T with
        | none => cases m
        | some t => exact nt t rfl (by simpa using m)
      · exact nf m))
  have slot : ∀ b o, s'.heap.get? b = some o → b ∈ frs l → ∃ sl, h'.get? b = some { o with slots := sl } := fun b o e hb => by
    obtain ⟨_, o2, e2, nf⟩ := hl.mem hb
    rw [e] at e2
    cases e2
    exact k4 b o e nf
  have old : ∀ b o, s.heap.get? b = some o → b ≠ a ∧ ∀ t, T = some t → b ≠ t := fun b o e => ⟨(fun z => by rw [z, f.na] at e; cases e), (fun t ht z => by rw [z, (hT t ht).1] at e; cases e)⟩
  refine ⟨f.os, f.bare, ⟨fun b o e n nf _ => ?_, fun b o e n hb _ => ?_, f.un.free, fun b o e _ => ?_, f.un.tups, f.un.frzs, f.un.tbls⟩, ?_, f.na, f.ha, ?_⟩
  · exact inb b o (f.un.keep b o e n nf (by simp)) (old b o e).1 (old b o e).2 nf
  · obtain ⟨sl, e1⟩ := f.un.slot b o e n hb (by simp)
    obtain ⟨sl', e2⟩ := slot b _ e1 hb
    exact ⟨sl', e2⟩
  · obtain ⟨o1, e1⟩ := f.un.there b o e (by simp)
    by_cases hb : b ∈ frs l
    · obtain ⟨sl, e2⟩ := slot b _ e1 hb
      exact ⟨_, e2⟩
    · exact ⟨o1, inb b o1 e1 (old b o e).1 (old b o e).2 hb⟩
  · intro b u e
    have good : ∀ c v, H' c = some v → ∀ ob, s'.heap.get? c = some ob → h'.get? c = some ob := fun c v ec ob eo =>
      inb c ob eo (fun z => by rw [z, f.ha] at ec; cases ec) (fun t ht z => by rw [z, (hT t ht).2] at ec; cases ec) fun m => by rw [hfr c m] at ec; cases ec
    refine (f.hok b u e).stay (fun c v hc q => ?_) (fun _ q => q) fun _ _ q => q
    rcases hc with z | z
    · rw [z] at q ⊢; exact good b u e v q
    · exact good c _ z v q
  · obtain ⟨oe, vs, t', oT, ts, e1, ⟨e2, e3⟩, e4, e5, e6, e7, e8, e9, e10⟩ := k3
    refine ⟨some t', ⟨oe, vs, a0, e1, e2, e4, e3, e5, e7, oT, ts, e8, e9, e10⟩, fun t ht => ?_⟩
    cases ht
    have hid : ∀ o, s'.heap.get? t' = some o → T = some t' := fun o e => by
      have nin : ¬ (t' ∉ (a :: (T.toList ++ frs l))) := fun m => by
        have q : (bare0 s'.heap l a T).get? t' = some o := PySem.W.hideAll_get _ e m
        rw [e6] at q
        cases q
      have m := Classical.not_not.mp nin
      rcases List.mem_cons.mp m with m | m
      · exact absurd m e7
      · rcases List.mem_append.mp m with m | m
        · cases T with
          | none => cases m
          | some t => rw [show t' = t by simpa using m]
        · obtain ⟨_, o2, q, nf⟩ := k2.mem m
          rw [e8] at q
          cases q
          exact absurd e9 (nf ts)
    constructor
    · cases q : s.heap.get? t' with
      | none => rfl
      | some o =>
        obtain ⟨o1, q1⟩ := f.un.there t' o q (by simp)
        have := (hT t' (hid o1 q1)).1
        rw [q] at this
        cases this
    · cases q : H' t' with
      | none => rfl
      | some u =>
        obtain ⟨o1, q1⟩ := (f.hok t' u q).obj
        have := (hT t' (hid o1 q1)).2
        rw [q] at this
        cases this
end L2

set_option Elab.async false
set_option linter.all false
set_option maxRecDepth 100000
set_option maxHeartbeats 4000000
namespace L2
open PySem PySem.Spec PyProof.Rows
/-! ### an exception leaves a def -/
section
variable {P : Program} {w : World} {K : PySem.W.Frag} {mg : Str → Option Value} {base : Heap}
theorem Inv.raised {X : Cx} {pins : List (Addr × Obj)} {σ : St} {H H' : Hp} {s s' : Shared} {a : Addr} {cls : Value} (I : Inv X pins σ H s) (f : Fl X.prog X.w X.stack H s H' a cls s') : Inv X pins σ H' s' :=
  I.call' (ch := []) f.os f.un f.hok f.bare (fun b z => absurd z (by simp))
theorem stack_cons {X : Cx} (ok : X.Ok) (h : X.stack = X.env :: X.outer) : X.env.frame = some X.env.locals := by
  rcases ok.stk with e | e
  · rw [h] at e
    exact absurd (congrArg List.length e) (by simp)
  · exact e.2
theorem xw_def {N : List Str} {qual : Str} {scope : Scope} {f : Addr} {cd : Value} {A : Around} {outer : List Env} {s : Shared} {H : Hp} {E : XK} : XW (cxOf (CX1 P w) P w K mg base N qual scope f cd A outer s H E) E := by
  intro pins σ H2 s2 H' a cls s' I f q
  have J := I.raised f
  obtain ⟨T, hx, hT⟩ := f.ex
  show wpAny _ _ (leaving _ _) _ _ _
  refine leave_step (outer := outer) J.ok.frames (stack_cons J.ok rfl) J.stack hx fun h' a0 z => ?_
  have f2 := f.left hT J.stack J.stkFree z
  have J2 := I.raised f2
  have back : ∀ b, s2.heap.get? b = none → s.heap.get? b = none := fun b e => by
    cases z : s.heap.get? b with
    | none => rfl
    | some o =>
      obtain ⟨o', e'⟩ := I.base.there b o z (by intro m; cases m)
      rw [e] at e'
      cases e'
  obtain ⟨T2, hx2, hT2⟩ := f2.ex
  exact ⟨a, cls, H', rfl, ⟨J2.os, J2.bare, J2.base, J2.hok, back a f2.na, f2.ha, T2, hx2, fun t ht => ⟨back t (hT2 t ht).1, (hT2 t ht).2⟩⟩, q⟩
/-- THE RULE for a def that may raise -/
theorem Fun.ok1 {x qual : Str} {st : Stmt} {f : Addr} {fd : FuncData} {N ps : List Str} {k : Nat} {sp : Sp} (F : Fun K x qual st f fd) (S : FnScope N ps (defScope st)) (len : ∀ vs H Q E, sp vs H Q E → vs.length = ps.length)
    (hbody : ∀ (cdv : Value) (A : Around) (outer : List Env) (s : Shared) (H : Hp) (vs : List V) (Q : VK) (E : XK), Room k (A.deeper (envOfC qual (defScope st) s.heap.objs.size f cdv)) → sp vs H Q E →
      XW (cxOf (CX1 P w) P w K mg base N qual (defScope st) f cdv A outer s H E) E →
      ∃ t, PSs (cxOf (CX1 P w) P w K mg base N qual (defScope st) f cdv A outer s H E) (defBody st) t ∧ t { nx := fun _ H' => Q .non H', rt := Q } (start N vs) H) : FnOk P w K mg base (CX1 P w) (k + 1) f fd ps sp := by
  obtain ⟨oc, od, kV, doc, pm, an, cdv, ct, osl, rfl, lk, hcd⟩ := F.ex
  exact fn_of lk hcd S len fun A outer s H vs Q E hr hsp => hbody cdv A outer s H vs Q E hr hsp xw_def
/-- a def of the top that keeps its promise, and may raise -/
def Dfn1 (P : Program) (w : World) (K : PySem.W.Frag) (mg : Str → Option Value) (base : Heap) (k : Nat) (x : Str) (ps : List Str) (sp : Sp) : Prop :=
  ∃ f fd, FnOk P w K mg base (CX1 P w) k f fd ps sp ∧ mg x = some (.ref f) ∧ PySem.W.keepIn K (.ref f) = true ∧ Binds K fd ps []
end
section
variable {X : Cx} {x : Str} {p pos np cpos : Pos} {e : Expr} {es : List Expr} {t : TA} {E : XK} {C : Addr} {bm : List Value}
theorem pe_def1 {k k' : Nat} {ps : List Str} {sp : Sp} (D : Dfn1 X.prog X.w X.K X.mg X.base k x ps sp) (hw : XW X E) (hr : Room k' X.A) (hk : k ≤ k') (hg : Gl X x) (ha : PA X (e :: es) t) (hdb : (x == ("__debug__" : Str)) = false := by decide)
    (he : starEach (e :: es) X.env = (false, eval e X.env) :: starEach es X.env := by rfl) (hpl : (backTo pos (starEach es X.env)).any (·.1) = false := by rfl) : PE X (.Call (.Name x p) (e :: es) [] pos) (tCall sp [] E t) := by
  obtain ⟨f, fd, F, hm, hkp, hb⟩ := D
  exact pe_call F (hr.mono hk) hg hm hkp hb .nil hw.passes ha hdb he hpl
/-! ### raise C(..) -/
def tRaise (C : Addr) (t : TA) (E : XK) : TS := fun _ σ H => t σ H fun vs H1 => vs.length ≤ sizeLine ∧ E (.ref C) none H1
theorem ps_raise (hw : XW X E) (hc : X.calm = true) (O : OwnCls x C [.type "ValueError", .type "Exception", .type "BaseException", .type "object"] "ValueError.__new__" X.mg X.base) (hg : Gl X x) (ha : PA X (e :: es) t) (hdb : (x == ("__debug__" : Str)) = false := by decide)
    (he : starEach (e :: es) X.env = (false, eval e X.env) :: starEach es X.env := by rfl) (hpl : (backTo cpos (starEach es X.env)).any (·.1) = false := by rfl) :
    PS X (.Raise (some (.Call (.Name x np) (e :: es) [] cpos)) none pos) (tRaise C t E) := by
  intro pins s σ H D I h
  obtain ⟨tl, N, nm, q, bs, hdct, sn, sub, ab, col, dd, k0, k1, k2, k3, k5, mN, hC, hN, hni, T⟩ := O.obj
  refine wpAny_Raise_call_subU (C := C) (nm := nm) (q := q) (N := N) (bs := bs) (bm := tl) (hdct := hdct) (sn := sn) (sub := sub) (ab := ab) (col := col) (dd := dd) (k0 := k0) (k1 := k1) (k2 := k2) (k3 := k3) (k5 := k5) (mN := mN)
    PySem.F.excBase_ValueError rfl PySem.F.excBase_ValueError (T.hasType PySem.F.excBase_ValueError.hasBase) (I.ok.hd hc) (by rw [he]; show (false || (backTo cpos (starEach es X.env)).any (·.1)) = false; rw [hpl]; rfl) hni (ld_glob I hg O.bound ⟨rfl, ?_⟩ hdb)
  have hA := ha cpos pins s σ H _ I h
  rw [he] at hA ⊢
  refine Calls.evalArgs_plain (thn hA fun us s2 ⟨vs, H2, I2, r2, q2⟩ => ⟨rfl, by rw [← r2.length]; exact q2.1, I2.bk _ _ hC, hN.keeps I2.bk, T.keeps I2.bk, fun h' a hm => ?_⟩)
  obtain ⟨tt, ht, _, _⟩ := hm.there
  refine hw pins σ H2 s2 H2 a (.ref C) { s2 with heap := h' } I2 ⟨rfl, I2.bare, Un.kept hm.keeps, I2.hok.kept hm.keeps, hm.new, I2.hok.none_of hm.new, none, ?_, fun _ z => by cases z⟩ q2.2
  exact ⟨_, _, .ref tt, ht, rfl, rfl, rfl, rfl⟩
end
end L2

set_option Elab.async false
set_option linter.all false
set_option maxRecDepth 100000
set_option maxHeartbeats 4000000
namespace L2
open PySem PySem.Spec PyProof.Rows
/-! ### try: one call, except T as n -/
/-- how an exception lies behind a piece of this body's code: the names as they were -/
def XP (X : Cx) (pins : List (Addr × Obj)) (σ : St) (E : XK) (v : Value) (s' : Shared) : Prop :=
  ∃ a cls H1 H' s1, v = .ref a ∧ Inv X pins σ H1 s1 ∧ Fl X.prog X.w X.stack H1 s1 H' a cls s' ∧ E cls none H'
/-- a call that may raise -/
def PCx (X : Cx) (e : Expr) (t : St → Hp → VK → XK → Prop) : Prop :=
  ∀ (pins : List (Addr × Obj)) (s : Shared) (σ : St) (H : Hp) (Q : VK) (E : XK), Inv X pins σ H s → t σ H Q E → wpAny (model X.prog X.w) X.A (eval e X.env) (EP X pins σ Q) (XP X pins σ E) s
/-- a try's body -/
def PB (X : Cx) (body : List Stmt) (t : Ends → XK → St → Hp → Prop) : Prop :=
  ∀ (pins : List (Addr × Obj)) (s : Shared) (σ : St) (H : Hp) (D : Ends) (E : XK), Inv X pins σ H s → t D E σ H → wpAny (model X.prog X.w) X.A (execs body X.env) (SP X pins D) (XP X pins σ E) s
section
variable {X : Cx} {x : Str} {p pos : Pos} {e c : Expr} {es : List Expr} {t : TA}
def tC1 (sp : Sp) (t : TA) : St → Hp → VK → XK → Prop := fun σ H Q E => t σ H fun vs H1 => sp vs H1 Q E
theorem pc_def1 {k k' : Nat} {ps : List Str} {sp : Sp} (D : Dfn1 X.prog X.w X.K X.mg X.base k x ps sp) (hr : Room k' X.A) (hk : k ≤ k') (hg : Gl X x) (ha : PA X.nox (e :: es) t) (hdb : (x == ("__debug__" : Str)) = false := by decide)
    (he : starEach (e :: es) X.env = (false, eval e X.env) :: starEach es X.env := by rfl) (hpl : (backTo pos (starEach es X.env)).any (·.1) = false := by rfl) : PCx X (.Call (.Name x p) (e :: es) [] pos) (tC1 sp t) := by
  obtain ⟨f, fd, F, hm, hkp, hb⟩ := D
  intro pins s σ H Q E I h
  refine wpAny_Call_Name_kw (ld_glob I hg hm ?_ hdb)
  refine PySem.W.callWith_K (h₀ := X.base) I.ok.mod.kin hkp (wpAny_mono (ha pos pins s σ H _ (I.wish _) h) (fun us s1 ⟨vs, H1, I1, r, q⟩ => ⟨I1.unwish.kIn, ?_⟩) (fun _ _ z => False.elim z)) he hpl
  have I2 := I1.unwish
  have hl : (us ++ []).length = ps.length := by rw [List.append_nil, ← r.length]; exact F.len _ _ _ _ q
  have hbd := hb s1 us I2.kIn hl
  rw [List.append_nil] at hbd
  refine wpAny_call (codeAny_mono (F.run X.A X.stack s1 H1 ⟨us, []⟩ us vs Q E (hr.mono hk) I2.env0 hbd r q) fun r s' hq => ?_)
  cases r with
  | error e =>
    obtain ⟨a, cls, H', z, f, q'⟩ := hq
    exact ⟨a, cls, H1, H', s1, z, I2, f, q'⟩
  | ok fl =>
    cases fl with
    | ret u => exact I2.after hq
    | next => exact False.elim hq
    | brk => exact False.elim hq
    | cont => exact False.elim hq
variable {tc : St → Hp → VK → XK → Prop}
theorem pb_set {i : Nat} {pos' : Pos} (hN : X.N.Nodup) (hi : X.N[i]? = some x) (hx : Loc X.env.scope x) (hc : PCx X c tc) (hs : swapsWith c (some (.Name x pos')) pos.line X.env = pure false := by rfl)
    (hf : X.fn x = true ∨ X.env.scope.names.lookup x = some .local := by first | exact .inl rfl | exact .inr rfl | assumption) : PB X [.Assign [.Name x pos'] c pos] (fun D E σ H => tc σ H (fun v H' => D.nx (σ.set i (some v)) H') E) := by
  intro pins s σ H D E I h
  refine wpAny_execs_cons (wpAny_Assign_Name (thn (hc pins s σ H _ E I h) fun v s1 ⟨y, H1, I1, r1, q1⟩ => ?_) hs)
  exact store_ok I1 hN hi hx r1 (fun s2 I2 => wpAny_execs_nil ⟨_, H1, I2, q1⟩) hf
end
/-! ### caught -/
/-- an exception in hand -/
def xcO (a : Addr) (cls : Value) : HO := .ext fun h => ∃ o vs, h.get? a = some o ∧ o.cls = cls ∧ o.data = .fields vs
abbrev Cx.caught (X : Cx) (a : Addr) : Cx := { X with A := X.A.mark (some (.ref a)), calm := false, xe := fun _ _ => False }
section
variable {X : Cx} {pins : List (Addr × Obj)} {σ : St} {H H' : Hp} {s s' : Shared} {a : Addr} {cls : Value}
theorem Inv.caught (I : Inv X pins σ H s) (a : Addr) : Inv (X.caught a) pins σ H s :=
  ⟨⟨I.ok.mod, I.ok.kind, I.ok.glob, I.ok.blt, I.ok.above, I.ok.inj, I.ok.has, I.ok.cab, fun z => Bool.noConfusion z, I.ok.frames, I.ok.stk, I.ok.exf, I.ok.bs, I.ok.bsz, I.ok.noex, I.ok.exfs, I.ok.funs, I.ok.frf⟩, I.os, I.bare, I.base, I.loc, I.cell, I.free, I.freeC, I.pin, I.hok, I.len⟩
theorem Inv.uncaught (I : Inv (X.caught a) pins σ H s) (ok : X.Ok) : Inv X pins σ H s := ⟨ok, I.os, I.bare, I.base, I.loc, I.cell, I.free, I.freeC, I.pin, I.hok, I.len⟩
/-- it is taken in hand -/
theorem Fl.hold {P : Program} {w : World} {l : List Env} (f : Fl P w l H s H' a cls s') (h0 : HOk P w H s.heap) : s'.os = s.os ∧ Un (frs l) [] H (upd H' a (xcO a cls)) s.heap s'.heap ∧ HOk P w (upd H' a (xcO a cls)) s'.heap := by
  have na : ∀ b o, s.heap.get? b = some o → b ≠ a := fun b o e z => by rw [z, f.na] at e; cases e
  have nH : ∀ b o, H b = some o → b ≠ a := fun b o e z => by rw [z, h0.none_of f.na] at e; cases e
  have nH' : ∀ b o, H' b = some o → b ≠ a := fun b o e z => by rw [z, f.ha] at e; cases e
  refine ⟨f.os, ⟨f.un.keep, f.un.slot, fun b o e n hx => ?_, f.un.there, fun b xs e => ?_, fun b o u e => ?_, fun b ps e => ?_⟩, fun b u e => ?_⟩
  · rw [upd_ne (na b o e)]; exact f.un.free b o e n hx
  · rw [upd_ne (nH b _ e)]; exact f.un.tups b xs e
  · rw [upd_ne (nH b _ e)]; exact f.un.frzs b o u e
  · rw [upd_ne (nH b _ e)]; exact f.un.tbls b ps e
  · by_cases hb : b = a
    · subst hb
      rw [upd_same] at e
      cases e
      obtain ⟨T, ⟨oe, vs, a0, he, hc, hd, _⟩, _⟩ := f.ex
      exact ⟨⟨oe, vs, he, hc, hd⟩, ⟨oe, he⟩, fun h1 h2 ⟨o, vs, e1, e2, e3⟩ k => ⟨o, vs, k o e1, e2, e3⟩⟩
    · rw [upd_ne hb] at e
      exact (f.hok b u e).stay (fun _ _ _ q => q) (fun c q => by rw [upd_ne (nH' c _ q)]; exact q) fun c xs q => by rw [upd_ne (nH' c _ q)]; exact q
theorem left_ex {l : List Env} {a0 : Value} {B h h' : Heap} (z : Heap.LeftW B l a cls a0 h h') : ∃ t, ExAt h' a cls (some t) := by
  obtain ⟨_, _, ⟨oe, vs, t, oT, ts, e1, ⟨e2, e3⟩, e4, e5, e6, e7, e8, e9, e10⟩, _⟩ := z
  exact ⟨t, oe, vs, a0, e1, e2, e4, e3, e5, e7, oT, ts, e8, e9, e10⟩
theorem flight_step {M : Model} {A : Around} {E : Value → Shared → Prop} {B : Heap} {l : List Env} {Q : Unit → Shared → Prop} {t : Addr} (hl : s.heap.FunFrames B l) (hx : ExAt s.heap a cls (some t))
    (h : ∀ h' a0, Heap.LeftW (bare0 s.heap l a (some t)) l a cls a0 s.heap h' → Q () { s with heap := h' }) : wpAny M A (setFlight (.ref a) none) Q E s := by
  obtain ⟨oe, vs, a0, he, hc, hd, h0, h1, hne, oT, ts, e1, e2, e3⟩ := hx
  exact wpAny_setFlight_noneW (bare0_stays _ _ _ _) (bare0_fr a (some t) hl) ⟨oe, vs, t, oT, ts, he, ⟨hc, h0⟩, hd, h1, bare0_T _ _ _ _, hne, e1, e2, e3⟩ fun h2 j1 j2 j3 j4 =>
    h h2 a0 ⟨j1, j2, j3, fun b o e nf => ⟨o.slots, j4 b o e nf⟩⟩
end
end L2

set_option Elab.async false
set_option linter.all false
set_option maxRecDepth 100000
set_option maxHeartbeats 4000000
namespace L2
open PySem PySem.Spec PyProof.Rows
section
variable {X : Cx} {pins : List (Addr × Obj)} {σ : St} {H H' : Hp} {s s' : Shared} {a : Addr} {cls : Value}
theorem ex_some {h : Heap} {T : Option Addr} {t : Addr} (x : ExAt h a cls T) (y : ExAt h a cls (some t)) : T = some t := by
  obtain ⟨oe, vs, a0, he, hc, hd, h0, ht⟩ := x
  obtain ⟨oe', vs', a0', he', hc', hd', h0', h1', _⟩ := y
  rw [he] at he'
  cases he'
  rw [hd] at hd'
  cases hd'
  cases T with
  | none => rw [show vs[1]? = some Value.none from ht] at h1'; cases h1'
  | some u =>
    rw [ht.1] at h1'
    cases h1'
    rfl
/-- the name behind the suite is gone -/
theorem name_goes {M : Model} {A : Around} {E : Value → Shared → Prop} {Q : Unit → Shared → Prop} {i : Nat} {n : Str} {pos : Pos} (I : Inv X pins σ H s) (hN : X.N.Nodup) (hi : X.N[i]? = some n) (hn : X.env.scope.names.lookup n = some .local)
    (h : ∀ s', Inv X pins (σ.set i none) H s' → Q () s') : wpAny M A (do bindName X.env n .none; unbindBehindTheSuite X.env n pos) Q E s := by
  obtain ⟨m, hm, hl⟩ := id I.loc
  have hcls : (X.env.scope.kind == .class || (X.env.scope.kind == .module && X.env.locals != X.env.globals)) = false := by rw [I.ok.kind]; rfl
  refine wpAny_nameGoes_keeps hn hm hcls fun h' v hn' sb => h _ ?_
  have neL : ∀ b o, X.s₀.heap.get? b = some o → b ≠ X.env.locals := fun b o e => Nat.ne_of_lt (Nat.lt_of_lt_of_le (Heap.lt_size e) I.ok.above)
  have same : ∀ b, b ≠ X.env.locals → h'.get? b = s.heap.get? b := fun b hb => sb.2 b hb
  refine ⟨I.ok, I.os, I.bare, ⟨fun b o e n hb hx => ?_, fun b o e n hb hx => ?_, I.base.free, fun b o e hx => ?_, I.base.tups, I.base.frzs, I.base.tbls⟩, ⟨_, hn', fun j x u e1 e2 e3 => ?_⟩, fun x c e => ?_, I.free, I.freeC, fun p hp => ?_, fun b u e => ?_, by rw [List.length_set]; exact I.len⟩
  · exact (same b (neL b o e)).trans (I.base.keep b o e n hb hx)
  · obtain ⟨sl, e1⟩ := I.base.slot b o e n hb hx
    exact ⟨sl, (same b (neL b o e)).trans e1⟩
  · obtain ⟨o', e1⟩ := I.base.there b o e hx
    exact ⟨o', (same b (neL b o e)).trans e1⟩
  · have hji : j ≠ i := by
      intro z
      subst z
      rw [List.getElem?_set_self' ] at e2
      cases q : σ[j]? with
      | none => rw [q] at e2; cases e2
      | some _ => rw [q] at e2; cases e2
    rw [List.getElem?_set_ne (Ne.symm hji)] at e2
    obtain ⟨w, r, l⟩ := hl j x u e1 e2 e3
    refine ⟨w, r, ?_⟩
    have xn : x ≠ n := fun z => hji (nodup_ix hN (by rw [← z]; exact e1) hi)
    rcases l with ⟨l1, l2⟩ | ⟨k, c, e, o, ho, hd⟩
    · exact .inl ⟨l1, by show (if x = n then v else m x) = some w; rw [if_neg xn]; exact l2⟩
    · exact .inr ⟨k, c, e, o, (same c (I.cne x c e)).trans ho, hd⟩
  · obtain ⟨v, o, ho, hd⟩ := I.cell x c e
    exact ⟨v, o, (same c (I.cne x c e)).trans ho, hd⟩
  · obtain ⟨e, n, ne, nf, d⟩ := I.pin p hp
    exact ⟨(same p.1 ne).trans e, n, ne, nf, d⟩
  · have nl : ∀ c v, H c = some v → c ≠ X.env.locals := fun c v q z => by rw [z, I.free] at q; cases q
    refine (I.hok b u e).stay (fun c v hc q => ?_) (fun _ q => q) fun _ _ q => q
    rcases hc with z | z
    · rw [z] at q ⊢; exact (same b (nl b u e)).trans q
    · exact (same c (nl c _ z)).trans q
end
def behind (i : Nat) (D : Ends) : Ends := { nx := fun σ H => D.nx (σ.set i none) H, rt := D.rt, bk := fun σ H => D.bk (σ.set i none) H, ct := fun σ H => D.ct (σ.set i none) H }
def tTry (K : PySem.W.Frag) (C : Value) (i : Nat) (tb : Ends → XK → St → Hp → Prop) (ts : TS) : TS := fun D σ H =>
  tb D (fun cls _ H' => PySem.W.exmOne K cls C = some true ∧ ∀ a, H' a = none → ts (behind i D) (σ.set i (some (.ref a))) (upd H' a (xcO a cls))) σ H
section
variable {X : Cx} {body suite : List Stmt} {b₀ : Stmt} {T n : Str} {tp hpos pos : Pos} {C : Value} {i : Nat} {tb : Ends → XK → St → Hp → Prop} {ts : TS}
theorem ps_try (hst : X.stack = X.env :: X.outer) (hN : X.N.Nodup) (hi : X.N[i]? = some n) (hn : X.env.scope.names.lookup n = some .local) (hb : PB X body tb) (hg : Gl X T) (hm : X.mg T = some C) (hs : ∀ a, PSs (X.caught a) (b₀ :: suite) ts) (hdb : (T == ("__debug__" : Str)) = false := by decide) :
    PS X (.Try body [.ExceptHandler (some (.Name T tp)) (some n) (b₀ :: suite) hpos] [] [] pos) (tTry X.K C i tb ts) := by
  intro pins s σ H D I h
  refine wpAny_Try_except (wpAny_mono (hb pins s σ H D _ I h) (fun f s1 q => ?_) fun v s' hx => ?_)
  · cases f with
    | next => exact wpAny_execs_nil q
    | brk => exact q
    | cont => exact q
    | ret u => exact q
  obtain ⟨a, cls, H1, H', s1, rfl, I1, f, hcls, hk⟩ := hx
  have J := I1.raised f
  obtain ⟨T0, hx, hT⟩ := f.ex
  have hframe := stack_cons I.ok hst
  have jst := J.stack
  have jfr := J.stkFree
  have fr := I.ok.frames
  rw [hst] at jst jfr fr
  have back : ∀ {s2 : Shared}, Fl X.prog X.w (X.env :: X.outer) H1 s1 H' a cls s2 → Fl X.prog X.w X.stack H1 s1 H' a cls s2 := fun z => by rw [hst]; exact z
  have f' : Fl X.prog X.w (X.env :: X.outer) H1 s1 H' a cls s' := by rw [← hst]; exact f
  refine land_step fr hframe jst hx fun h' a0 z => ?_
  have f2 := f'.left hT jst jfr z
  obtain ⟨T2, hx2, hT2⟩ := f2.ex
  obtain ⟨t, hx2'⟩ := left_ex z
  have et := ex_some hx2 hx2'
  subst et
  have J2 := I1.raised (back f2)
  have jst2 := J2.stack
  rw [hst] at jst2
  obtain ⟨oe, vs, b0, he, hc, _⟩ := id hx2
  have LT : PySem.W.Looks (model X.prog X.w) h' (typeOf (.ref a)) cls := by
    subst hc
    exact (PySem.W.Looks.ld he).andThen .now
  refine wpAny_handleBy_cons (codeAny_handlers_test (ld_glob (X := X.caught a) (J2.caught a) hg hm ((PySem.W.exm_one J2.kIn LT hcls).here ?_) hdb)) (by intro q; cases q)
  refine codeAny_handlers_suite_as (flight_step jst2 hx2 fun h3 a1 z3 => ?_)
  have f3 := f2.left hT2 jst2 jfr z3
  obtain ⟨os3, un3, hok3⟩ := (back f3).hold I1.hok
  have J3 : Inv X pins σ (upd H' a (xcO a cls)) { s' with heap := h3 } := I1.call' (ch := []) os3 un3 hok3 f3.bare (fun b z => absurd z (by simp))
  refine store_ok (X := X.caught a) (J3.caught a) hN hi (.inl hn) (show RelV (.ref a) (.ref a) from rfl) (fun s4 I4 => ?_) (.inr hn)
  refine wpAny_mono (hs a pins s4 _ _ (behind i D) I4 (hk a f3.ha)) (fun fl s5 q5 => ?_) fun _ _ z => False.elim z
  cases fl with
  | next =>
    obtain ⟨σ5, H5, I5, q⟩ := q5
    exact name_goes (I5.uncaught I.ok) hN hi hn fun s6 I6 => ⟨_, H5, I6, q⟩
  | brk =>
    obtain ⟨σ5, H5, I5, q⟩ := q5
    exact name_goes (I5.uncaught I.ok) hN hi hn fun s6 I6 => ⟨_, H5, I6, q⟩
  | cont =>
    obtain ⟨σ5, H5, I5, q⟩ := q5
    exact name_goes (I5.uncaught I.ok) hN hi hn fun s6 I6 => ⟨_, H5, I6, q⟩
  | ret u =>
    obtain ⟨v, σ5, H5, I5, r, q⟩ := q5
    exact name_goes (I5.uncaught I.ok) hN hi hn fun s6 I6 => ⟨v, _, H5, I6, r, q⟩
end
end L2

set_option Elab.async false
set_option linter.all false
set_option maxRecDepth 100000
set_option maxHeartbeats 4000000
namespace L2
open PySem PySem.Spec PySem.W PySem.Calls PyProof.Rows PySem.Builtin PySem.Builtin.ObjectAttr PySem.Builtin.Getset_descriptor
/-! ### isinstance of an exception in hand -/
section
variable {prog : Program} {w : World} {A : Around} {E : Value → Shared → Prop} {K : Frag} {h : Heap} {g : Array GenState} {d : Drawn} {t : Nat} {os : OsState} {a C : Addr} {o : Obj}
/-- what is asked of an own exception's class -/
structure XCls (K : Frag) (C : Addr) : Prop where
  ga : findIn K (.ref C) "__getattribute__" = some (some (.builtin "BaseException.__getattribute__"))
  gr : findIn K (.ref C) "__getattr__" = some none
  cl : findIn K (.ref C) "__class__" = some (some (.builtin "object.__class__"))
  mo : mroIn K C (.type "object") = some true
  mb : mroIn K C (.type "BaseException") = some true
  ci : (clsIn K C).isSome = true
theorem xc_get {R : Result → Shared → Prop} (X : K.In h) (hx : h.get? a = some o) (hc : o.cls = .ref C) (Z : XCls K C) (hq : R (.ok (.ret (.ref C))) ⟨h, g, d, t, os⟩) :
    codeAny (model prog w) A (.call (.builtin "getset_descriptor.__get__") ⟨[.builtin "object.__class__", .ref a, .ref C], []⟩) R ⟨h, g, d, t, os⟩ := by
  have L0 : Looks (model prog w) h (typeOf (.ref a)) (.ref C) := hc ▸ (Looks.ld hx).andThen .now
  have L1 := looks_mroIn (M := model prog w) X Z.mo
  refine codeAny_call_builtin KF.slot_gs.plain KF.entry_gs (KF.slot_gs.check _ _ _ _ _ _ _ _ KF.type_class (KF.args_gs _ _ _) ?_)
  unfold Builtin.«getset_descriptor.__get__» descrGet
  rw [dga_obj]
  refine wpAny_bind (wpAny_pure ?_)
  unfold descrGetter descrCheckInstance descrNameAndClass isInstance
  simp only [KF.owner_class]
  repeat lk
  refine ⟨Code.quiet_builtin _ (by decide +kernel), codeAny_builtin KF.entry_class ?_⟩
  unfold Builtin.«object.__class__» shownTypeOf
  repeat lk
  exact hq
theorem xc_entry {tk : Tok} {Q : Fin → Shared → Prop} (X : K.In h) (hx : h.get? a = some o) (hc : o.cls = .ref C) (Z : XCls K C) (hq : Q (.done (.ret (.ref C))) ⟨h, g, d, t, os⟩) :
    wpAny (model prog w) A (Builtin.«object.__getattribute__» ⟨[.ref a, .str "__class__" tk], []⟩) Q E ⟨h, g, d, t, os⟩ := by
  have L0 : Looks (model prog w) h (typeOf (.ref a)) (.ref C) := hc ▸ (Looks.ld hx).andThen .now
  have L1 := looks_findIn (M := model prog w) X Z.cl
  have hT5 : (⟨h, g, d, t, os⟩ : Shared).TypeIs (.builtin "object.__class__") "getset_descriptor" := F.typeOf_object_class
  have f5 := F.typeOf_object_class
  have f6 := F.slot_gs_get.lookup
  have f7 := F.slot_gs_set.lookup
  repeat (any_goals (first | assumption | (with_reducible refine Looks.at L0 ?_) | (with_reducible refine Looks.at L1 ?_) | (with_reducible refine wpAny_loadPart_at hx ?_; rw [hc]) | wp_step))
  refine xc_get X hx hc Z ?_
  repeat (any_goals (first | assumption | wp_step))
theorem xc_check {nameV : Value} {M : Model} {Q : Unit → Shared → Prop} (X : K.In h) (hx : h.get? a = some o) (hc : o.cls = .ref C) (Z : XCls K C) (hq : Q () ⟨h, g, d, t, os⟩) :
    wpAny M A (checkBuiltinCall "BaseException.__getattribute__" ⟨[.ref a, nameV], []⟩) Q E ⟨h, g, d, t, os⟩ := by
  have hk : builtinKind "BaseException.__getattribute__" = some .slot := by decide +kernel
  have hsplit : splitId "BaseException.__getattribute__" = some ("BaseException", "__getattribute__") := by decide +kernel
  have L1 := looks_mroIn (M := M) X Z.mb
  have ha := F.args_bexc_ga (.ref a) nameV
  simp only [checkBuiltinCall, hk, hsplit]
  refine wpAny_bind ?_
  unfold isInstance
  repeat (first | (with_reducible refine wpAny_loadPart_at hx ?_; rw [hc]) | (with_reducible refine Looks.at L1 ?_) | wp_step)
  exact hq
theorem xc_call {tk : Tok} {R : Result → Shared → Prop} (X : K.In h) (hx : h.get? a = some o) (hc : o.cls = .ref C) (Z : XCls K C) (hq : R (.ok (.ret (.ref C))) ⟨h, g, d, t, os⟩) :
    codeAny (model prog w) A (.call (.builtin "BaseException.__getattribute__") ⟨[.ref a, .str "__class__" tk], []⟩) R ⟨h, g, d, t, os⟩ :=
  codeAny_call_builtin PySem.F.excAttr_ValueError.ga.plain F.entry_bexc_ga (xc_check X hx hc Z (xc_entry X hx hc Z hq))
end
end L2

set_option Elab.async false
set_option linter.all false
set_option maxRecDepth 100000
set_option maxHeartbeats 4000000
namespace L2
open PySem PySem.Spec PySem.W PySem.Calls PyProof.Rows PySem.Builtin PySem.Builtin.ObjectAttr PySem.Builtin.Getset_descriptor
section
variable {prog : Program} {w : World} {A : Around} {E : Value → Shared → Prop} {K : Frag} {h : Heap} {g : Array GenState} {d : Drawn} {t : Nat} {os : OsState} {a C : Addr} {o : Obj}
theorem xc_by {tk : Tok} {fill : Bool} {Q : Value → Shared → Prop} (X : K.In h) (hx : h.get? a = some o) (hc : o.cls = .ref C) (Z : XCls K C) (hq : Q (.ref C) ⟨h, g, d, t, os⟩) :
    wpAny (model prog w) A (getAttrBy (.ref a) (.str "__class__" tk) fill) Q E ⟨h, g, d, t, os⟩ := by
  have f3 := PySem.F.excAttr_ValueError.ga.bind (.ref a)
  have L1 := looks_findIn (M := model prog w) X Z.ga
  have L2 := looks_findIn (M := model prog w) X Z.gr
  have hx2 : (Value.builtin "BaseException.__getattribute__" == Value.builtin "object.__getattribute__") = false := by decide +kernel
  have hx1 : (onTheHeap (Value.ref C) && Value.builtin "BaseException.__getattribute__" == Value.builtin "object.__getattribute__") = false := by rw [hx2]; rfl
  repeat (any_goals (first | assumption | (with_reducible refine wpAny_loadPart_at hx ?_; rw [hc]) | (with_reducible refine Looks.at L1 ?_) | (with_reducible refine Looks.at L2 ?_) | wp_step))
  refine xc_call X hx hc Z ?_
  repeat (any_goals (first | assumption | wp_step))
theorem xc_attr {Q : Option Value → Shared → Prop} (X : K.In h) (hx : h.get? a = some o) (hc : o.cls = .ref C) (Z : XCls K C) (hq : Q (some (.ref C)) ⟨h, g, d, t + 1, os⟩) :
    wpAny (model prog w) A (getAttr? (.ref a) "__class__") Q E ⟨h, g, d, t, os⟩ := by
  unfold getAttr? getAttrBy?
  repeat (any_goals (first | assumption | with_reducible apply xc_by X hx hc Z | wp_step))
theorem kitx_exc (Z : XCls K C) : KitX K (.ref a) (.ref C) (fun h => ∃ o vs, h.get? a = some o ∧ o.cls = .ref C ∧ o.data = .fields vs) where
  ty := fun _ _ _ ⟨o, vs, e, c, _⟩ => c ▸ (Looks.ld e).andThen .now
  it := fun _ _ X _ => by
    have hcD := Z.ci
    unfold clsIn at hcD
    split at hcD
    · rename_i c' d' cd' sl' ho
      intro A' Q' E' s' k q
      unfold isType loadHead
      exact wpAny_bind (wpAny_loadPart (k _ _ (X _ _ ho)) (wpAny_pure q))
    · cases hcD
  ne := fun h tp dd its n sl X htp => by
    have hcD := Z.ci
    refine Bool.eq_false_iff.mpr fun q => ?_
    have e : C = tp := Value.ref.inj (beq_iff_eq.mp q)
    subst e
    unfold clsIn at hcD
    split at hcD
    · rename_i c' d' cd' sl' ho
      have z := (X _ _ ho).symm.trans htp
      cases z
    · cases hcD
  ca := fun {_ _ _ _ _ s} X ⟨o, vs, e, c, _⟩ k => by
    obtain ⟨h, g, d, t, os⟩ := s
    exact xc_attr X e c Z k
end
end L2

set_option Elab.async false
set_option linter.all false
set_option maxRecDepth 100000
set_option maxHeartbeats 4000000
namespace L2
open PySem PySem.Spec PyProof.Rows
section
variable {X : Cx}
theorem exc_at {pins : List (Addr × Obj)} {σ : St} {H : Hp} {s : Shared} {a : Addr} {cls : Value} (I : Inv X pins σ H s) (e : H a = some (xcO a cls)) : ∃ o vs, s.heap.get? a = some o ∧ o.cls = cls ∧ o.data = .fields vs :=
  (show ObjOk X.prog X.w H s.heap a (xcO a cls) from I.hok a _ e).1
/-- isinstance(an exception, an own class) -/
theorem call_isiX : CallR X (.builtin "isinstance") (fun xs H Q => ∃ a C D b, xs = [.ref a, .ref D] ∧ H a = some (xcO a (.ref C)) ∧ XCls X.K C ∧ PySem.W.kitOne X.K (.ref C) (.ref D) = some b ∧ Q (.bl b) H) := by
  intro pins s σ H xs us Q I r h
  obtain ⟨a, C, D, b, rfl, ha, Z, e, q⟩ := h
  obtain ⟨u, v, rfl, ru, rv⟩ := vals2 r
  cases ru
  cases rv
  exact PySem.W.kia_one (kitx_exc Z) I.kIn (exc_at I ha) e (fun z => nomatch z) fun tk => ⟨.bl b, H, I.tok tk, rfl, q⟩
/-- .. a built-in one -/
theorem call_isiXT : CallR X (.builtin "isinstance") (fun xs H Q => ∃ a C T b, xs = [.ref a, .ty T] ∧ H a = some (xcO a (.ref C)) ∧ XCls X.K C ∧ PySem.W.kitOne X.K (.ref C) (.type T) = some b ∧ Q (.bl b) H) := by
  intro pins s σ H xs us Q I r h
  obtain ⟨a, C, T, b, rfl, ha, Z, e, q⟩ := h
  obtain ⟨u, v, rfl, ru, rv⟩ := vals2 r
  cases ru
  cases rv
  exact PySem.W.kia_one (kitx_exc Z) I.kIn (exc_at I ha) e (fun z => nomatch z) fun tk => ⟨.bl b, H, I.tok tk, rfl, q⟩
theorem refs_eq : ∀ {Cs : List Addr} {us : List Value}, Vals (Cs.map V.ref) us → us = Cs.map Value.ref
  | [], _, .nil => rfl
  | C :: Cs, _, .cons r rs => by
    rw [List.map_cons, ← refs_eq rs]
    exact congrArg (· :: _) r
/-- .. a tuple of own ones -/
theorem call_isiXs : CallR X (.builtin "isinstance") (fun xs H Q => ∃ a C p, ∃ Cs : List Addr, ∃ b, xs = [.ref a, .ref p] ∧ H a = some (xcO a (.ref C)) ∧ XCls X.K C ∧ H p = some (.tup (Cs.map V.ref)) ∧ PySem.W.kitAny X.K (.ref C) (Cs.map Value.ref) = some b ∧ Q (.bl b) H) := by
  intro pins s σ H xs us Q I r h
  obtain ⟨a, C, p, Cs, b, rfl, ha, Z, hp, e, q⟩ := h
  obtain ⟨u, v, rfl, ru, rv⟩ := vals2 r
  cases ru
  cases rv
  obtain ⟨its, r', ⟨⟨oc, od, dt, sl⟩, e1, c1, n, d1⟩, hz⟩ := I.tuple (SqT.of hp)
  simp only at c1 d1
  subst c1 d1
  have := refs_eq r'
  subst this
  exact PySem.W.kia_tup (kitx_exc Z) I.kIn (exc_at I ha) e1 e (fun z => nomatch z) fun tk => ⟨.bl b, H, I.tok tk, rfl, q⟩
/-- int(a text that reads) -/
theorem call_int_text : CallR X (.type "int") (fun xs H Q => ∃ z n, xs = [.str z] ∧ PySem.intText? z = some n ∧ z.length ≤ 640 ∧ Q (.int n) H) := by
  intro pins s σ H xs us Q I r h
  obtain ⟨z, n, rfl, e, hl, q⟩ := h
  obtain ⟨u, rfl, t, rfl⟩ := vals1 r
  exact PySem.W.KIN.call_text e hl ⟨.int n, H, I.tok _, ⟨_, rfl⟩, q⟩
end
end L2

set_option Elab.async false
set_option linter.all false
set_option maxRecDepth 100000
set_option maxHeartbeats 4000000
/-! TEXTS: parts of a text, a text many times, list.insert, a walk over signs with a test -/
namespace L2
open PySem PySem.Spec PyProof.Rows
open PySem.Builtin PySem.Builtin.Str
theorem comp_str {z : Str} {cap : St} {tc : TT} {te : TE} {Fin : List V → Hp → Prop} {H : Hp} (Pv : Nat → List V → Hp → Prop) (h0 : Pv 0 [] H) (hz : z.length < sizeLine) (hl : ∀ i ys H, i ≤ z.length → Pv i ys H → ys.length ≤ i)
    (hs : ∀ i c ys H, z.cps.toList[i]? = some c → Pv i ys H → tc (some (.str ⟨#[c]⟩) :: cap) H fun b H2 => if b = true then te (some (.str ⟨#[c]⟩) :: cap) H2 fun y H3 => Pv (i + 1) (ys ++ [y]) H3 else Pv (i + 1) ys H2) (hd : ∀ ys H, Pv z.length ys H → Fin ys H) :
    ∃ W : Nat → Nat → List V → Hp → Prop, (∃ m, W 0 m [] H) ∧ CompW (Its z) cap tc te Fin W := by
  refine ⟨fun i m ys H => m = z.length - i ∧ i ≤ z.length ∧ Pv i ys H, ⟨z.length, by simp, Nat.zero_le _, h0⟩, ?_⟩
  rintro i m ys H ⟨rfl, hi, p⟩
  have hy := hl i ys H hi p
  refine ⟨by omega, ?_⟩
  by_cases hlt : i < z.length
  · refine .inr ⟨hlt, Pv (i + 1), fun ys' H' p' => ⟨z.length - (i + 1), by omega, rfl, hlt, p'⟩, fun x H' y => ?_⟩
    obtain ⟨e, c, hcx, ex⟩ := y
    subst e ex
    exact hs i c ys _ hcx p
  · have e : i = z.length := by omega
    subst e
    exact .inl ⟨Nat.le_refl _, hd ys H p⟩
/-! ### z[lo:hi] -/
def cutS (z : Str) (lo hi : Option Int) : Str := if (strSliceIndices lo hi 1 z.length).length = z.length then z else ⟨((strSliceIndices lo hi 1 z.length).filterMap (z.cps[·]?)).toArray⟩
theorem cutS_len (z : Str) (lo hi : Option Int) : (cutS z lo hi).length ≤ z.length := by
  unfold cutS
  split
  · exact Nat.le_refl _
  · show ((strSliceIndices lo hi 1 z.length).filterMap (z.cps[·]?)).toArray.size ≤ _
    rw [List.size_toArray]
    exact Nat.le_trans (List.length_filterMap_le _ _) (indices_len_le lo hi z.length)
theorem cutS_last {z : Str} {l : List Nat} {c : Nat} (h : codes z = l ++ [c]) : codes (cutS z none (some (-1))) = l := by
  have hl : z.length = l.length + 1 := by rw [← codes_len, h, List.length_append]; rfl
  have e : strSliceIndices none (some (-1)) 1 z.length = (List.range l.length).map (fun k => 0 + k) := by
    rw [StrLaws.sliceIdx_neg_hi none z.length (by decide) (by rw [hl]; omega)]
    have e2 : ((-1 : Int) + (z.length : Int)) = ((l.length : Nat) : Int) := by rw [hl]; omega
    rw [e2]
    exact StrLaws.strSliceIndices_plain (a := 0) (b := l.length) (Nat.zero_le _) (by omega)
  unfold cutS
  rw [e, if_neg (by rw [List.length_map, List.length_range]; omega)]
  show ((((List.range l.length).map (fun k => 0 + k)).filterMap (z.cps[·]?)).toArray).toList = l
  have e3 : (fun i : Nat => z.cps[i]?) = fun i : Nat => (codes z)[i]? := by
    funext i
    unfold codes
    simp
  rw [List.toList_toArray, e3, h]
  have := StrLaws.picks (l ++ [c]) l.length 0 (by rw [List.length_append]; simp)
  rw [this]
  simp
section
variable {X : Cx}
def rSlS : V → Option Int → Option Int → Hp → VK → Prop := fun x lo hi H Q => ∃ z, x = .str z ∧ z.length ≤ sizeLine ∧ Q (.str (cutS z lo hi)) H
theorem part_of {v : Value} {lo : Option Int} (h : IsPart v lo) : ∃ l : Option (Int × Tok), v = partValue l ∧ l.map (·.1) = lo := by
  cases h with
  | none => exact ⟨none, rfl, rfl⟩
  | int i t => exact ⟨some (i, t), rfl, rfl⟩
theorem sl_str : SlR X rSlS := by
  intro pins s σ H x v vl vu lo hi sl Q I rx hs pl pu h
  obtain ⟨z, rfl, hz, q⟩ := h
  obtain ⟨t, rfl⟩ := rx
  refine ⟨"str", _, slot_str_getitem.lookup, typeIs_str s z t, ?_⟩
  obtain ⟨l, rfl, el⟩ := part_of pl
  obtain ⟨u, rfl, eu⟩ := part_of pu
  have hs' : s.heap.IsSlice sl l u none := hs
  refine wpAny_getItem_str_slice hs' rfl ?_
  have e : sliceMade z t l u none = if (strSliceIndices lo hi 1 z.length).length = z.length then .val (.str z t) else .str ⟨((strSliceIndices lo hi 1 z.length).filterMap (z.cps[·]?)).toArray⟩ := by
    unfold sliceMade slicePicked
    rw [el, eu]
    simp
  rw [e]
  have cl := cutS_len z lo hi
  unfold cutS at q cl
  split
  · rename_i hh
    rw [if_pos hh] at q
    exact ⟨.str z, H, I, ⟨t, rfl⟩, q⟩
  · rename_i hh
    rw [if_neg hh] at q cl
    exact ⟨Nat.le_trans cl hz, .str _, H, I.tok _, ⟨_, rfl⟩, q⟩
end
end L2

set_option Elab.async false
set_option linter.all false
set_option maxRecDepth 100000
set_option maxHeartbeats 4000000
namespace L2
open PySem PySem.Spec PyProof.Rows
open PySem.Builtin PySem.Builtin.Str
section
variable {X : Cx}
theorem rep_len (z : Str) : ∀ (n : Nat) (a : Array Nat), ((List.replicate n z.cps).foldl (· ++ ·) a).size = a.size + n * z.cps.size
  | 0, a => by simp
  | n + 1, a => by
    rw [List.replicate_succ, List.foldl_cons, rep_len z n, Array.size_append, Nat.succ_mul]
    omega
/-- a text, twice or more often -/
def rMulS : R2 := fun x y H Q => ∃ z k, x = .str z ∧ y = .int k ∧ 2 ≤ k ∧ k ≤ 1000000 ∧ 1 ≤ z.length ∧ z.length * k.toNat ≤ 1000000 ∧ ∀ u : Str, u.length = z.length * k.toNat → Q (.str u) H
theorem op_mul_str : OpR X (binaryOp .Mult) rMulS := by
  intro pins s σ H x y v u Q I rx ry h
  obtain ⟨z, k, rfl, rfl, h2, h6, h1, hz, q⟩ := h
  obtain ⟨t, rfl⟩ := rx
  obtain ⟨t', rfl⟩ := ry
  have big : (1000000 : Nat) ≤ sizeLine := by decide
  have nb : (k == 1 || z.length == 0) = false := by
    have e1 : (k == 1) = false := beq_false_of_ne (by omega)
    have e2 : (z.length == 0) = false := beq_false_of_ne (by omega)
    rw [e1, e2]; rfl
  have zl : z.length ≤ 1000000 := by
    have : z.length * 1 ≤ z.length * k.toNat := Nat.mul_le_mul_left _ (by omega)
    omega
  have hr : (decide (k < -(2 ^ 63 : Int)) || decide (k ≥ 2 ^ 63)) = false := by
    rw [decide_eq_false (by omega), decide_eq_false (by omega)]; rfl
  have hb : ¬ k < 1 → (k == 1 || z.length == 0) = false → ¬ ((z.length : Int) > (2 ^ 63 - 1) / k) := fun _ _ => by
    have : (1000000 : Int) ≤ (2 ^ 63 - 1) / k := (Int.le_ediv_iff_mul_le (by omega)).mpr (by omega)
    omega
  have hl : ¬ k < 1 → (k == 1 || z.length == 0) = false → tooLong (z.length * k.toNat) = false := fun _ _ => by
    unfold tooLong
    exact decide_eq_false (by omega)
  refine P.mul_str hr hb hl ?_
  rw [if_neg (by omega), if_neg (by rw [nb]; exact Bool.false_ne_true)]
  have el : (⟨(List.replicate k.toNat z.cps).foldl (· ++ ·) #[]⟩ : Str).length = z.length * k.toNat := by
    show ((List.replicate k.toNat z.cps).foldl (· ++ ·) #[]).size = _
    rw [rep_len, Nat.mul_comm z.length]
    simp [Str.length]
  exact ⟨by rw [el]; omega, .str _, H, I.tok _, ⟨_, rfl⟩, q _ el⟩
/-- l.insert(i, y) -/
def rInsert : V → List V → Hp → VK → Prop := fun x vs H Q => ∃ l xs i y, x = .ref l ∧ vs = [.int i, y] ∧ H l = some (.lst xs) ∧ 0 ≤ i ∧ i ≤ xs.length ∧ xs.length < sizeLine ∧ Q .non (upd H l (.lst (xs.take i.toNat ++ y :: xs.drop i.toNat)))
theorem Vals.ins {xs : List V} {us : List Value} {y : V} {u : Value} (r : Vals xs us) (ry : RelV y u) (k : Nat) : Vals (xs.take k ++ y :: xs.drop k) (us.take k ++ u :: us.drop k) := (r.take k).append (.cons ry (r.drop k))
theorem mt_insert : MtM X "list.insert" rInsert := by
  intro pins s σ H x vs v us Q I rx rv h
  obtain ⟨l, xs, i, y, rfl, rfl, hH, h0, h1, hz, q⟩ := h
  cases rx
  obtain ⟨ui, u, rfl, ri, ry⟩ := vals2 rv
  obtain ⟨t, rfl⟩ := ri
  obtain ⟨z, its, n, r, hl, e⟩ := I.lstM hH
  have line : (sizeLine : Int) < 2 ^ 63 := by decide
  have hfit : ¬ (!Builtin.List.listFitsIndex i) = true := by
    rw [fitsIndex_both (by omega) (by omega)]
    exact Bool.false_ne_true
  refine call_meets F.slot_list_insert ⟨_, e, rfl⟩ F.entry_list_insert (F.args_list_insert_3 _ _ _) (AutoSeq1.list_insert_list_int_val_1 l its.toArray n i t u hfit (by rw [List.size_toArray]; omega)) ⟨e, ?_⟩
  refine ⟨.non, _, I.lset (its' := its.take i.toNat ++ u :: its.drop i.toNat) hH e ?_ (Vals.ins r ry i.toNat) ?_, rfl, q⟩
  · show ((its.toArray.extract 0 (if i < 0 then (i + (its.toArray.size : Int)).toNat else min i.toNat its.toArray.size)).push u ++ its.toArray.extract (if i < 0 then (i + (its.toArray.size : Int)).toNat else min i.toNat its.toArray.size)) = _
    have ek : (if i < 0 then (i + (its.toArray.size : Int)).toNat else min i.toNat its.toArray.size) = i.toNat := by
      rw [if_neg (by omega), List.size_toArray]
      omega
    rw [ek]
    apply Array.toList_inj.mp
    simp
    exact List.take_of_length_le (by rw [List.length_drop]; exact Nat.le_refl _)
  · rw [List.length_append, List.length_cons, List.length_take, List.length_drop]
    omega
end
end L2

set_option Elab.async false
set_option linter.all false
set_option maxRecDepth 100000
set_option maxHeartbeats 4000000
namespace L2
open PySem PySem.Spec PyProof.Rows
open PySem.Builtin PySem.Builtin.Str
theorem repl_len (x y z : Str) : (Txt.replace x y z).length ≤ x.length + (x.length + 1) * z.length := by
  unfold Txt.replace
  split
  · exact Nat.le_add_right _ _
  · have h1 := StrLaws.occ_length_le x y 0 x.length (x.length + 1)
    have hy : (glued y (partsBetween x (occurrences x y 0 x.length (x.length + 1)) y.length)).length = x.length := by rw [StrLaws.glued_between_self]
    rw [size_glued, length_partsBetween, Nat.add_sub_cancel] at hy
    rw [size_glued, length_partsBetween, Nat.add_sub_cancel]
    have h2 : (occurrences x y 0 x.length (x.length + 1)).length * z.length ≤ (x.length + 1) * z.length := Nat.mul_le_mul_right _ h1
    omega
section
variable {X : Cx} {a : Expr} {ta : TE} {y z : Str} {k1 k2 k3 : Nat} {p1 p2 p3 p4 apos cpos : Pos}
/-- xs[0].replace(y, z) -/
def tRepl (K : PySem.W.Frag) (y z : Str) (ta : TE) : TE := fun σ H Q => ta σ H fun x H1 => ∃ p xs w, x = .ref p ∧ SqL K H1 p xs ∧ xs[0]? = some (.str w) ∧ w.length ≤ 1000000 ∧ z.length ≤ 8 ∧ (y == z) = false ∧
  ∀ u : Str, u.length ≤ w.length + (w.length + 1) * z.length → Q (.str u) H1
theorem pe_repl (ha : PE X a ta)
    (hbase : attributeBase (.Subscript a (.Constant (.int 0) k1 p1) p2) "replace" X.env (eval (.Subscript a (.Constant (.int 0) k1 p1) p2) X.env) = eval (.Subscript a (.Constant (.int 0) k1 p1) p2) X.env := by rfl)
    (hfew : ((backTo cpos (starEach [.Constant (.str y) k2 p3, .Constant (.str z) k3 p4] X.env)).all (fun x => !x.1) && (backToKw cpos (keywordEach [] X.env)).all (fun x => x.1.isSome)
      && decide ([Expr.Constant (.str y) k2 p3, .Constant (.str z) k3 p4].length + ([] : List Keyword).length + (if ([] : List Keyword).isEmpty then 0 else 1) < 30)) = true := by rfl)
    (hline : (apos.endLine == cpos.line) = true := by rfl) :
    PE X (.Call (.Attribute (.Subscript a (.Constant (.int 0) k1 p1) p2) "replace" apos) [.Constant (.str y) k2 p3, .Constant (.str z) k3 p4] [] cpos) (tRepl X.K y z ta) := by
  intro pins s σ H Q I h
  refine wpAny_Call_method_late hbase hfew hline rfl ?_
  refine Subscript_ (thn (ha pins s σ H _ I h) fun v s1 ⟨x, H1, I1, r1, p, xs, w, ex, hq, h0, hw, hz, hne, q⟩ => ?_)
  subst ex
  cases r1
  refine wpAny_Constant_int ?_
  obtain ⟨its, r, pl, hzz⟩ := I1.list hq
  obtain ⟨wv, ew, rw'⟩ := r.get h0
  obtain ⟨tw, rfl⟩ := rw'
  refine item_listR (s := { s1 with toks := s1.toks + 1 }) pl.isList (by decide) (by decide) (by simpa using ew) ?_ rfl
  refine ⟨"str", "str.replace", PySem.F.plainAttrs_str, PySem.F.slot_str_replace, PySem.F.type_str_replace, typeIs_str _ _ _, (fun b e => by cases e), ?_⟩
  refine Calls.callWith_builtin rfl (Calls.evalArgs_plain ?_)
  refine Calls.spliced_cons (Calls.Constant_str (k := k2) (pos := p3) (Calls.spliced_cons (Calls.Constant_str (k := k3) (pos := p4) (Calls.spliced_nil ?_))))
  have big : w.length + (w.length + 1) * z.length ≤ 16777216 := by
    have : (w.length + 1) * z.length ≤ 1000001 * 8 := Nat.mul_le_mul (by omega) hz
    omega
  refine SC.replace (by simp) (by simp) (by simp) hne big fun t' k => ?_
  exact ⟨.str (Txt.replace w y z), H1, I1.tok k, ⟨_, rfl⟩, q _ (repl_len w y z)⟩
end
end L2

set_option Elab.async false
set_option linter.all false
set_option maxRecDepth 100000
set_option maxHeartbeats 4000000
namespace L2
open PySem PySem.Spec PyProof.Rows
section
variable {X : Cx}
/-- xs == [], xs != [] -/
def rEqE (K : PySem.W.Frag) : R2 := fun x y H Q => ∃ p q xs, x = .ref p ∧ y = .ref q ∧ SqL K H p xs ∧ SqL K H q [] ∧ Q (.bl (decide (xs.length = 0))) H
def rNeE (K : PySem.W.Frag) : R2 := fun x y H Q => ∃ p q xs, x = .ref p ∧ y = .ref q ∧ SqL K H p xs ∧ SqL K H q [] ∧ Q (.bl (!decide (xs.length = 0))) H
theorem op_eqE (hu : X.A.units + 64 < cLine) : OpR X (compareOp .Eq) (rEqE X.K) := by
  intro pins s σ H x y v u Q I rx ry h
  obtain ⟨p, q, xs, rfl, rfl, hp, hq, k⟩ := h
  cases rx
  cases ry
  obtain ⟨its, r, pl, hz⟩ := I.list hp
  obtain ⟨its2, r2, pl2, hz2⟩ := I.list hq
  have l1 := r.length
  have l2 := r2.length
  have e2 : its2 = [] := List.length_eq_zero_iff.mp (by rw [← l2]; rfl)
  subst e2
  by_cases h0 : xs.length = 0
  · have e1 : its = [] := List.length_eq_zero_iff.mp (by omega)
    subst e1
    refine SeqAt.eq_listAt (e := fun _ => true) pl.isList pl2.isList rfl (by omega) (fun j h1 _ => absurd h1 (by simp)) ?_
    rw [decide_eq_true h0] at k
    exact ⟨.bl true, H, I, rfl, k⟩
  · refine SeqAt.eq_list_lengthsAt pl.isList pl2.isList ?_ (by omega) ?_
    · rw [List.size_toArray, List.size_toArray, ← l1]
      simpa using h0
    · rw [decide_eq_false h0] at k
      exact ⟨.bl false, H, I, rfl, k⟩
theorem op_neE (hu : X.A.units + 64 < cLine) : OpR X (compareOp .NotEq) (rNeE X.K) := by
  intro pins s σ H x y v u Q I rx ry h
  obtain ⟨p, q, xs, rfl, rfl, hp, hq, k⟩ := h
  cases rx
  cases ry
  obtain ⟨its, r, pl, hz⟩ := I.list hp
  obtain ⟨its2, r2, pl2, hz2⟩ := I.list hq
  have l1 := r.length
  have l2 := r2.length
  have e2 : its2 = [] := List.length_eq_zero_iff.mp (by rw [← l2]; rfl)
  subst e2
  by_cases h0 : xs.length = 0
  · have e1 : its = [] := List.length_eq_zero_iff.mp (by omega)
    subst e1
    refine SeqAt.RcNeAt.lists (e := fun _ => true) pl.isList pl2.isList rfl (by omega) (fun j h1 _ => absurd h1 (by simp)) X.prog X.w X.xe _ ?_
    rw [decide_eq_true h0] at k
    exact ⟨.bl false, H, I, rfl, k⟩
  · refine SeqAt.RcNeAt.lists_lengths pl.isList pl2.isList ?_ (by omega) X.prog X.w X.xe _ ?_
    · rw [List.size_toArray, List.size_toArray, ← l1]
      simpa using h0
    · rw [decide_eq_false h0] at k
      exact ⟨.bl true, H, I, rfl, k⟩
end
section
variable {X : Cx} (K : PySem.W.Frag) (h : X.K = K)
include h
end
end L2

set_option Elab.async false
set_option linter.all false
set_option maxRecDepth 100000
namespace Hd
open PySem PySem.W PyProof.Rows
def topRunG (st : SharedT → Thread → Option (SharedT × Thread)) (ok th : Thread → Bool) : Nat → SharedT → Thread → Option SharedT
  | 0, _, _ => none
  | n + 1, s, t => match th t with
    | true => some s
    | false => match ok t with
      | false => none
      | true => match st s t with
        | some (s', t') => topRunG st ok th n s' t'
        | none => none
theorem topRunG_of {tb : String → Option Builtin} {p : Program} {w : World} {n₀ : Nat} {ann : Option Value} : ∀ {n : Nat} {s s' : SharedT} {t : Thread}, topRunG (stepT (denote tb) p w) (stepOk n₀ ann) through n s t = some s' → topRun tb p w n₀ ann n s.abs t = some s'.abs
  | 0, _, _, _, h => by cases h
  | n + 1, s, s', t, h => by
    unfold topRunG at h
    unfold topRun
    cases ht : through t with
    | true => rw [ht] at h; cases h; rfl
    | false =>
      rw [ht] at h
      dsimp only at h ⊢
      cases hk : stepOk n₀ ann t with
      | false => rw [hk] at h; cases h
      | true =>
        rw [hk] at h
        dsimp only at h ⊢
        cases hs : stepT (denote tb) p w s t with
        | none => rw [hs] at h; cases h
        | some r =>
          obtain ⟨s2, t2⟩ := r
          rw [hs] at h
          rw [stepT_spec hs]
          exact topRunG_of h
/-- the opening's objects, as a tree -/
noncomputable def bootTree (P : Params) : BT :=
  .node (boot_o_0 P) (.node (boot_o_1 P) (.node (boot_o_3 P) (.node (boot_o_7 P) .nil .nil) .nil) (.node (boot_o_5 P) (.node (boot_o_9 P) .nil .nil) .nil))
    (.node (boot_o_2 P) (.node (boot_o_4 P) (.node (boot_o_8 P) .nil .nil) .nil) (.node (boot_o_6 P) (.node (boot_o_10 P) .nil .nil) .nil))
theorem boot_abs (P : Params) : absHeap (bootTree P) 11 {} = boot_heap P := by kernel_rfl
theorem boot_size (P : Params) : ((boot_heap P).isNs mainGlobals && (Array.mk [] : Array GenState).size == 0, (boot_heap P).objs.size, (boot_heap P).nsMap mainGlobals "__annotations__") = (true, 11, some (.ref 6)) := by
  rw [show @Heap.nsMap = _ from Fast.te8920871248978507458]
  kernel_rfl
noncomputable def stepY := Fast.tw10156331382660048174
noncomputable def denoteY := Fast.tw11892475500146522536
noncomputable def tableY := Fast.tw14364793385576792824
noncomputable def okY := Fast.tw6613529449190102663
noncomputable def seenY := Fast.tw4187177175401517315
noncomputable def modsY := Fast.tw5923862056798008813
/-- what is looked at behind the top -/
noncomputable def allSeen {α : Type} (p q : Program) (loose : List Str) (Xt : Shared → Bool) (Yf : Shared → α) (h0 : Heap) (s : SharedT) :=
  ((staticsOk (modsY p.main.body) h0 s.abs.heap && namesBound p s.abs.heap && gensDone s.abs && laidKept h0 s.abs.heap), seenY q loose (modsY p.main.body) Xt true s.abs, Yf s.abs)
theorem left_of {p q : Program} {loose : List Str} {Xt : Shared → Bool} {α : Type} {Yf : Shared → α} {Ya : World → α} {N : Nat} (e : opening p = plainProg p.main.scope.names) (hN : Nat.ble 600 N = true) (f : ∀ s, fenceModules? p s = some s)
    (one : ∀ (w : World) (os : OsState), (topRunG (stepY (denoteY tableY) p w) (okY 11 (some (.ref 6))) through N ⟨bootTree w.params, 11, {}, Array.mk [], boot_drawn, boot_toks, os⟩ (topStub p)).map (allSeen p q loose Xt Yf (boot_heap w.params)) = some (true, openGood q loose, Ya w)) :
    LeftO p q loose Xt Yf Ya N := by
  intro w
  obtain ⟨⟨h, gs, d, k, os⟩, e1, e2⟩ := Option.map_eq_some_iff.mp (boot_open e hN f w)
  obtain ⟨rfl, rfl, rfl, rfl⟩ : h = boot_heap w.params ∧ gs = Array.mk [] ∧ d = boot_drawn ∧ k = boot_toks := by simpa using e2
  obtain ⟨s, r, z⟩ := Option.map_eq_some_iff.mp (one w os)
  obtain ⟨z1, z2, z3⟩ : _ ∧ _ ∧ _ := by simpa only [Prod.mk.injEq] using boot_size w.params
  obtain ⟨l1, l2, l3⟩ : _ ∧ _ ∧ _ := by simpa only [allSeen, Prod.mk.injEq] using z
  unfold stepY denoteY tableY okY at r
  rw [← Fast.te10156331382660048174, ← Fast.te11892475500146522536, ← Fast.te14364793385576792824, ← Fast.te6613529449190102663] at r
  unfold modsY at l1 l2
  unfold seenY at l2
  rw [← Fast.te5923862056798008813] at l1 l2
  rw [← Fast.te4187177175401517315] at l2
  have r2 := topRunG_of r
  have ea : (SharedT.mk (bootTree w.params) 11 {} (Array.mk []) boot_drawn boot_toks os).abs = ⟨boot_heap w.params, Array.mk [], boot_drawn, boot_toks, os⟩ := by
    show Shared.mk (absHeap _ _ _) _ _ _ _ = _
    rw [boot_abs]
  rw [ea] at r2
  have t : topFrom treeTable p w N ⟨boot_heap w.params, Array.mk [], boot_drawn, boot_toks, os⟩ = some s.abs := by
    unfold topFrom
    dsimp only
    rw [z1, z2, z3, r2]
    show (match staticsOk (importedModules p.main.body) (boot_heap w.params) s.abs.heap && namesBound p s.abs.heap && gensDone s.abs && laidKept (boot_heap w.params) s.abs.heap with | true => _ | false => _) = _
    rw [l1]
  unfold openEnds
  rw [e1]
  show (topFrom treeTable p w N _).map _ = _
  rw [t]
  exact congrArg some (Prod.ext l2 l3)
end Hd

set_option Elab.async false
set_option linter.all false
set_option maxRecDepth 100000
/-! THE HEAD, as the layer takes it: what is looked at behind the module's top -/
namespace Hd
open PySem PySem.W PyProof.Rows L2
/-- the objects of a list, by their addresses from i on -/
def frag0 : Nat → List Obj → Frag
  | _, [] => []
  | i, o :: r => match o with
    | ⟨_, _, .freed, _⟩ => frag0 (i + 1) r
    | o => (i, o) :: frag0 (i + 1) r
def fragOf (g : Heap) : Frag := frag0 0 g.objs.toList
theorem frag0_in : ∀ (l : List Obj) (i a : Nat) (o : Obj), (frag0 i l).lookup a = some o → i ≤ a ∧ l[a - i]? = some o ∧ (match some o with | some ⟨_, _, .freed, _⟩ => none | o => o) = some o
  | [], _, _, _, h => by cases h
  | x :: r, i, a, o, h => by
    have rec1 : (frag0 (i + 1) r).lookup a = some o → i ≤ a ∧ (x :: r)[a - i]? = some o ∧ (match some o with | some ⟨_, _, .freed, _⟩ => none | o => o) = some o := fun q => by
      obtain ⟨h1, h2, h3⟩ := frag0_in r (i + 1) a o q
      refine ⟨by omega, ?_, h3⟩
      rw [show a - i = (a - (i + 1)) + 1 by omega, List.getElem?_cons_succ]
      exact h2
    unfold frag0 at h
    split at h
    · exact rec1 h
    · rename_i c hne
      rw [List.lookup_cons] at h
      split at h
      · rename_i e
        cases h
        have e := eq_of_beq e
        subst e
        refine ⟨Nat.le_refl _, by rw [Nat.sub_self]; rfl, ?_⟩
        split
        · rename_i d1 d2 d3 d4
          cases d4
          exact (hne _ _ _ rfl).elim
        · rfl
      · exact rec1 h
theorem fragOf_get {g : Heap} {a : Addr} {o : Obj} (h : (fragOf g).lookup a = some o) : g.get? a = some o := by
  obtain ⟨_, h2, h3⟩ := frag0_in _ _ _ _ h
  unfold Heap.get?
  rw [Nat.sub_zero, Array.getElem?_toList] at h2
  rw [h2]
  exact h3
/-- a def, as the module holds it; what hangs on the run alone left out -/
def fnSee (K : Frag) (nm : Str) : Option (FuncData × Bool × Bool) := match nsIn K mainGlobals nm with
  | some (some (.ref f)) => match K.lookup f with
    | some ⟨_, _, .func fd, _⟩ => some ({ fd with kwdefaults := .none, doc := .none, pyModule := .none, annotations := none, code := .none, closureTuple := .none }, codeIn K fd.code fd.qualname, keepIn K (.ref f))
    | _ => none
  | _ => none
def fnDue (nm : Str) (st : Stmt) : Option (FuncData × Bool × Bool) := some (fnOf nm nm (defArgs st) (defBody st) (defScope st) .none .none .none .none none .none .none, true, true)
theorem fun_of {K : Frag} {nm : Str} {st : Stmt} (e : fnSee K nm = fnDue nm st) : ∃ fa fd, Fun K nm nm st fa fd ∧ nsIn K mainGlobals nm = some (some (.ref fa)) := by
  unfold fnSee at e
  split at e
  · rename_i f hf
    split at e
    · rename_i oc od fd sl hl
      simp only [fnDue, Option.some.injEq, Prod.mk.injEq] at e
      obtain ⟨e1, e2, e3⟩ := e
      obtain ⟨n1, n2, n3, n4, n5, n6, n7, n8, n9, n10, n11, n12, n13, n14, n15⟩ := fd
      simp only [fnOf, FuncData.mk.injEq] at e1
      obtain ⟨rfl, rfl, rfl, rfl, rfl, rfl, rfl, rfl, -, -, -, -, -, -, rfl⟩ := e1
      exact ⟨f, _, fun_mk hl e2 e3, hf⟩
    · cases e
  · cases e
def noSee (K : Frag) (y : Str) : Bool := match nsIn K mainGlobals y with
  | some none => true
  | _ => false
theorem walk_ex {l : OpenLaw} {n k : Nat} {q : Program} {loose : List Str} {XP : (Str → Option Value) → Heap → Prop} {YP : World → Heap → Prop} {d : DefRec} {CX : World → CXT} {x : Str}
    (hn : l.most = some n) (hn2 : n ≤ sizeLine) (hdf : d.params.defaults = []) (hr : Room k callerA)
    (F : ∀ (w : World) (mg : Str → Option Value) (fa : Addr) (h : Heap), YP w h → h.Ns mainGlobals mg → mg d.name = some (.ref fa) → ∃ (K : Frag) (sp : Sp), K.In h ∧
      (∃ fd : FuncData, (∀ (s : Shared) (u : Value), BindsTo s fd ⟨[u], []⟩ [(x, u)]) ∧ ∀ base : Heap, K.In base → base.Ns mainGlobals mg → FnOk l.prog w K mg base (CX w) k fa fd [x] sp) ∧
      ∀ (H : Hp) (a : Addr) (ns : List Int), ns.length ≤ n → Only H → SqL K H a (ns.map V.int) → sp [.ref a] H (fun v _ => v = .bl true) fun _ _ _ => False)
    (hCX : ∀ (w : World) (H : Hp) (s : Shared) (e : Value) (s' : Shared), CX w [] H s (fun _ _ _ => False) e s' → False) :
    WalkO q loose XP YP l.row.toRowW d [] (fun f vs => PySem.call f vs) := by
  refine Att.attach_call hn hdf fun w s₀ s₁ mg mb fa o pm cd doc a vs ns G Y ho hd hcd hmg hobj hints hlen hg => ?_
  obtain ⟨K, sp, KX, ⟨fd, hb, hF⟩, hsp⟩ := F w mg fa _ Y G.T.g hmg
  exact law_call KX G.T.g G.T.b G.T.builtins G.T.nolimit hg hobj hints (Nat.le_trans hlen hn2) hr hF hb (fun H hO hS => hsp H a ns hlen hO hS) fun H e s' => hCX w H s₁ e s'
end Hd

set_option Elab.async false
set_option linter.all false
set_option maxRecDepth 100000
set_option maxHeartbeats 4000000

namespace My
open PySem L2
def top (i : Nat) : Stmt := PySem.Challenge.pw_shutways_k05_texts_of_no_net.main.body.getD i (.Pass ⟨0, 0, 0, 0⟩)
abbrev s_is_whole : Stmt := top 11
theorem sc_is_whole : FnScope ["thing"] ["thing"] (defScope s_is_whole) := ⟨rfl, rfl, rfl, by decide +kernel, rfl, by decide +kernel, by decide +kernel⟩
abbrev s_is_whole_between : Stmt := top 12
theorem sc_is_whole_between : FnScope ["thing", "least", "greatest"] ["thing", "least", "greatest"] (defScope s_is_whole_between) := ⟨rfl, rfl, rfl, by decide +kernel, rfl, by decide +kernel, by decide +kernel⟩
abbrev s_is_numeral : Stmt := top 13
theorem sc_is_numeral : FnScope ["word", "most_figures"] ["word", "most_figures"] (defScope s_is_numeral) := ⟨rfl, rfl, rfl, by decide +kernel, rfl, by decide +kernel, by decide +kernel⟩
abbrev s_make_net : Stmt := top 19
theorem sc_make_net : FnScope ["bridges", "ties"] ["bridges", "ties"] (defScope s_make_net) := ⟨rfl, rfl, rfl, by decide +kernel, rfl, by decide +kernel, by decide +kernel⟩
abbrev s_are_bridges : Stmt := top 20
theorem sc_are_bridges : FnScope ["things"] ["things"] (defScope s_are_bridges) := ⟨rfl, rfl, rfl, by decide +kernel, rfl, by decide +kernel, by decide +kernel⟩
abbrev s_is_tie : Stmt := top 21
theorem sc_is_tie : FnScope ["thing", "bridges"] ["thing", "bridges"] (defScope s_is_tie) := ⟨rfl, rfl, rfl, by decide +kernel, rfl, by decide +kernel, by decide +kernel⟩
abbrev s_lesser_end_first : Stmt := top 22
theorem sc_lesser_end_first : FnScope ["tie"] ["tie"] (defScope s_lesser_end_first) := ⟨rfl, rfl, rfl, by decide +kernel, rfl, by decide +kernel, by decide +kernel⟩
abbrev s_show_net : Stmt := top 25
theorem sc_show_net : FnScope ["net", "lines", "one", "other", "cost"] ["net"] (defScope s_show_net) := ⟨rfl, rfl, rfl, by decide +kernel, rfl, by decide +kernel, by decide +kernel⟩
abbrev s_read_net : Stmt := top 26
theorem sc_read_net : FnScope ["text", "bridges", "ties", "line", "words", "numbers", "net"] ["text"] (defScope s_read_net) := ⟨rfl, rfl, rfl, by decide +kernel, rfl, by decide +kernel, by decide +kernel⟩
abbrev s_read_numbers : Stmt := top 27
theorem sc_read_numbers : FnScope ["words"] ["words"] (defScope s_read_numbers) := ⟨rfl, rfl, rfl, by decide +kernel, rfl, by decide +kernel, by decide +kernel⟩
abbrev s_law_stream : Stmt := top 29
theorem sc_law_stream : FnScope ["cell", "low"] ["cell"] (defScope s_law_stream) := ⟨rfl, rfl, rfl, by decide +kernel, rfl, by decide +kernel, by decide +kernel⟩
abbrev s_law_take : Stmt := top 30
theorem sc_law_take : FnScope ["row", "many", "got"] ["row", "many"] (defScope s_law_take) := ⟨rfl, rfl, rfl, by decide +kernel, rfl, by decide +kernel, by decide +kernel⟩
abbrev s_law_bridges : Stmt := top 31
theorem sc_law_bridges : FnScope ["row", "bridges", "many", "k", "number"] ["row"] (defScope s_law_bridges) := ⟨rfl, rfl, rfl, by decide +kernel, rfl, by decide +kernel, by decide +kernel⟩
abbrev s_law_cost : Stmt := top 32
theorem sc_law_cost : FnScope ["row"] ["row"] (defScope s_law_cost) := ⟨rfl, rfl, rfl, by decide +kernel, rfl, by decide +kernel, by decide +kernel⟩
abbrev s_law_ties : Stmt := top 33
theorem sc_law_ties : FnScope ["row", "bridges", "ties", "k", "at", "to", "tie"] ["row", "bridges"] (defScope s_law_ties) := ⟨rfl, rfl, rfl, by decide +kernel, rfl, by decide +kernel, by decide +kernel⟩
abbrev s_law_due : Stmt := top 34
theorem sc_law_due : FnScope ["bridges", "ties"] ["bridges", "ties"] (defScope s_law_due) := ⟨rfl, rfl, rfl, by decide +kernel, rfl, by decide +kernel, by decide +kernel⟩
abbrev s_law_same : Stmt := top 35
theorem sc_law_same : FnScope ["found", "due"] ["found", "due"] (defScope s_law_same) := ⟨rfl, rfl, rfl, by decide +kernel, rfl, by decide +kernel, by decide +kernel⟩
abbrev s_law_written : Stmt := top 36
theorem sc_law_written : FnScope ["net", "text", "number", "one", "other", "cost"] ["net"] (defScope s_law_written) := ⟨rfl, rfl, rfl, by decide +kernel, rfl, by decide +kernel, by decide +kernel⟩
abbrev s_law_odd_line : Stmt := top 37
theorem sc_law_odd_line : FnScope ["row", "lines", "word", "some"] ["row", "lines"] (defScope s_law_odd_line) := ⟨rfl, rfl, rfl, by decide +kernel, rfl, by decide +kernel, by decide +kernel⟩
abbrev s_law_odd_word : Stmt := top 38
theorem sc_law_odd_word : FnScope ["row", "word", "some"] ["row"] (defScope s_law_odd_word) := ⟨rfl, rfl, rfl, by decide +kernel, rfl, by decide +kernel, by decide +kernel⟩
abbrev s_law_words_bent : Stmt := top 39
theorem sc_law_words_bent : FnScope ["row", "line", "words", "at", "kind", "old", "spot", "signs", "sign", "behind"] ["row", "line"] (defScope s_law_words_bent) := ⟨rfl, rfl, rfl, by decide +kernel, rfl, by decide +kernel, by decide +kernel⟩
abbrev s_law_bent : Stmt := top 40
theorem sc_law_bent : FnScope ["row", "text", "lines", "at", "to", "kind", "held", "tail"] ["row", "text"] (defScope s_law_bent) := ⟨rfl, rfl, rfl, by decide +kernel, rfl, by decide +kernel, by decide +kernel⟩
abbrev s_law_number : Stmt := top 41
theorem sc_law_number : FnScope ["word", "least", "most"] ["word", "least", "most"] (defScope s_law_number) := ⟨rfl, rfl, rfl, by decide +kernel, rfl, by decide +kernel, by decide +kernel⟩
abbrev s_law_read : Stmt := top 42
theorem sc_law_read : FnScope ["text", "bridges", "ties", "line", "words", "numbers"] ["text"] (defScope s_law_read) := ⟨rfl, rfl, rfl, by decide +kernel, rfl, by decide +kernel, by decide +kernel⟩
abbrev s_law_right : Stmt := top 43
theorem sc_law_right : FnScope ["text", "due", "got", "caught", "e"] ["text"] (defScope s_law_right) := ⟨rfl, rfl, rfl, by decide +kernel, rfl, by decide +kernel, by decide +kernel⟩
abbrev s_law : Stmt := top 44
theorem sc_law : FnScope ["script", "cell", "row", "bridges", "text", "once", "many", "some"] ["script"] (defScope s_law) := ⟨rfl, rfl, rfl, by decide +kernel, rfl, by decide +kernel, by decide +kernel⟩
structure Cn (mg : Str → Option Value) : Prop where
  FIGURES : Cst mg "FIGURES" (.str "0123456789")
  MOST_BRIDGES : Cst mg "MOST_BRIDGES" (.int 10)
  MOST_TIES : Cst mg "MOST_TIES" (.int 16)
  GREATEST_NUMBER : Cst mg "GREATEST_NUMBER" (.int 999)
  GREATEST_COST : Cst mg "GREATEST_COST" (.int 1000)
  MOST_FIGURES : Cst mg "MOST_FIGURES" (.int 4)
section
variable {P : Program} {w : World} {K : PySem.W.Frag} {mg : Str → Option Value} {base : Heap} {f : Addr} {fd : FuncData}
/-! ### is_whole: of an int, True -/
def sp_is_whole : Sp := fun vs H Q _ => ∃ i : Int, vs = [.int i] ∧ Q (.bl true) H
theorem ok_is_whole (F : Fun K "is_whole" "is_whole" s_is_whole f fd) (T : Bl mg) : FnOk P w K mg base CX0 1 f fd ["thing"] sp_is_whole := by
  refine F.ok sc_is_whole (fun vs H Q E h => ?_) (fun cdv A outer s H vs Q E hr h => ?_)
  · obtain ⟨i, rfl, _⟩ := h
    rfl
  obtain ⟨i, rfl, q⟩ := h
  refine ⟨_, (pss_one (ps_ret (pe_and (pe_callB call_isi (by rfl) T.isinstance (by kernel_rfl) (pa_cons (pv 0) (pa_cons (pe_ty (T := "int") rfl T.int (by kernel_rfl)) pa_nil))) (pe_one (pe_not (pe_callB call_isi (by rfl) T.isinstance (by kernel_rfl) (pa_cons (pv 0) (pa_cons (pe_ty (T := "bool") rfl T.bool (by kernel_rfl)) pa_nil)))))))), ?_⟩
  refine ⟨_, rfl, _, _, _, true, rfl, .int i, by kernel_rfl, true, rfl, iteT ?_⟩
  refine ⟨_, rfl, _, _, _, false, rfl, .int i, by kernel_rfl, false, rfl, q⟩
/-! ### is_whole_between: of ints -/
def sp_between : Sp := fun vs H Q _ => ∃ i a b : Int, vs = [.int i, .int a, .int b] ∧ Q (.bl (decide (a ≤ i ∧ i ≤ b))) H
theorem ok_is_whole_between (F : Fun K "is_whole_between" "is_whole_between" s_is_whole_between f fd) (D_is_whole : Dfn P w K mg base 1 "is_whole" ["thing"] sp_is_whole) : FnOk P w K mg base CX0 2 f fd ["thing", "least", "greatest"] sp_between := by
  refine F.ok sc_is_whole_between (fun vs H Q E h => ?_) (fun cdv A outer s H vs Q E hr h => ?_)
  · obtain ⟨i, a, b, rfl, _⟩ := h
    rfl
  obtain ⟨i, a, b, rfl, q⟩ := h
  refine ⟨_, (pss_one (ps_ret (pe_and (pe_def D_is_whole hr (by omega) rfl (pa_cons (pv 0) pa_nil)) (pe_one (pe_chain op_le op_le (pv 1) (pv 0) (pv 2)))))), ?_⟩
  refine ⟨_, rfl, i, rfl, true, rfl, iteT ?_⟩
  refine ⟨_, rfl, _, rfl, a, i, rfl, rfl, _, rfl, ?_⟩
  by_cases h1 : a ≤ i
  · refine ifT (decide_eq_true h1) ⟨_, rfl, i, b, rfl, rfl, ?_⟩
    have e : decide (a ≤ i ∧ i ≤ b) = decide (i ≤ b) := by simp [h1]
    rw [e] at q
    exact q
  · have e : decide (a ≤ i ∧ i ≤ b) = false := by simp [h1]
    rw [e] at q
    refine ifF (decide_eq_false h1) ?_
    exact q
/-! ### are_bridges: of at most ten ints -/
def RngOk (ns : List Int) : Prop := ∀ n ∈ ns, 0 ≤ n ∧ n ≤ 999
instance (ns : List Int) : Decidable (RngOk ns) := inferInstanceAs (Decidable (∀ n ∈ ns, 0 ≤ n ∧ n ≤ 999))
theorem firstMet_len (val : Nat → Int) : ∀ n, (PyProof.Rows.firstMet val n).length = n → ((List.range n).map val).Nodup
  | 0, _ => List.nodup_nil
  | n + 1, h => by
    have hl := PyProof.Rows.firstMet_length_le val n
    rw [PyProof.Rows.firstMet_succ] at h
    unfold PyProof.Rows.step_dedup at h
    split at h
    · omega
    · rename_i hc
      have hn : (PyProof.Rows.firstMet val n).length = n := by
        rw [List.length_append] at h
        simpa using h
      have ih := firstMet_len val n hn
      rw [List.range_succ, List.map_append]
      refine List.nodup_append.mpr ⟨ih, by simp, fun a ha b hb => ?_⟩
      have eb : b = val n := by simpa using hb
      intro z
      apply hc
      have ham : ((List.range n).map val).any (· == val n) = true := List.any_eq_true.mpr ⟨a, ha, by rw [z, eb]; simp⟩
      rw [← PyProof.Rows.firstMet_any val n (val n)] at ham
      first
      | exact ham
      | (obtain ⟨x, hx, ex⟩ := List.any_eq_true.mp ham; rw [beq_iff_eq.mp ex] at hx; exact List.contains_iff_mem.mpr hx)
      | (obtain ⟨x, hx, ex⟩ := List.any_eq_true.mp ham; rw [beq_iff_eq.mp ex] at hx; exact hx)
theorem getD_all (ns : List Int) : (List.range ns.length).map (fun i => ns.getD i 0) = ns := by
  apply List.ext_getElem
  · simp
  · intro i h1 h2
    simp [List.getD_eq_getElem?_getD, h2]
theorem firstMet_iff (ns : List Int) : (PyProof.Rows.firstMet (fun i => ns.getD i 0) ns.length).length = ns.length ↔ ns.Nodup := by
  have e := getD_all ns
  constructor
  · intro h
    have := firstMet_len _ _ h
    rw [e] at this
    exact this
  · intro h
    have nd : ((List.range ns.length).map fun i => ns.getD i 0).Nodup := by rw [e]; exact h
    rw [firstMet_nodup _ _ nd, List.length_map, List.length_range]
def sp_are_bridges (K : PySem.W.Frag) : Sp := fun vs H Q _ => ∃ a ns, vs = [.ref a] ∧ SqL K H a (ns.map V.int) ∧ ns.length ≤ 10 ∧ ∀ b H', Same H H' → (b = true ↔ (RngOk ns ∧ ns.Nodup)) → Q (.bl b) H'
theorem all_map_decide (ns : List Int) (p : Int → Bool) : (ns.map p).all id = ns.all p := by rw [List.all_map]; rfl
theorem ok_are_bridges (F : Fun K "are_bridges" "are_bridges" s_are_bridges f fd) (T : Bl mg) (C : Cn mg) (D_is_whole_between : Dfn P w K mg base 2 "is_whole_between" ["thing", "least", "greatest"] sp_between) :
    FnOk P w K mg base CX0 3 f fd ["things"] (sp_are_bridges K) := by
  refine F.ok sc_are_bridges (fun vs H Q E h => ?_) (fun cdv A outer s H vs Q E hr h => ?_)
  · obtain ⟨i, ns, rfl, _⟩ := h
    rfl
  obtain ⟨a, ns, rfl, hS, h10, q⟩ := h
  refine ⟨_, (pss_cons (ps_if (pt_not (pt_val (pe_callB (call_all rfl) (by rfl) T.all (by kernel_rfl) (pa_cons (pe_lcomp rfl (caps := []) (blk_ok (sc := defScope s_are_bridges) (N := ["things"]) rfl rfl rfl (by decide +kernel)) (pi_list (pv 0)) (fun _ _ _ _ _ => pifs_nil) (fun _ _ _ _ _ => (pe_def D_is_whole_between hr (by omega) rfl (pa_cons (pv 0) (pa_cons pe_int (pa_cons (pe_const rfl C.GREATEST_NUMBER) pa_nil)))))) pa_nil)))) (pss_one (ps_ret pe_bl)) pss_nil)
      (pss_one (ps_ret (pe_cmpR op_eq (pe_callB call_lenS (by rfl) T.len (by kernel_rfl) (pa_cons (pe_callTy call_set (by rfl) T.set (by kernel_rfl) (pa_cons (pv 0) pa_nil)) pa_nil)) (pe_callB call_len (by rfl) T.len (by kernel_rfl) (pa_cons (pv 0) pa_nil)) (nomark _))))), ?_⟩
  have hl : (ns.map V.int).length = ns.length := List.length_map _
  refine ⟨_, rfl, a, rfl, ⟨_, hS⟩, comp_list0 (xs := ns.map V.int) (fun i ys H' => H' = H ∧ ys = ((ns.take i).map fun n => decide (0 ≤ n ∧ n ≤ 999)).map V.bl) ⟨rfl, rfl⟩ (by rw [hl]; exact small1000 (by omega)) (fun i ys H' _ h => ?_) (fun i x ys H' hx h => ?_) (fun ys H' h => ?_)⟩
  · obtain ⟨rfl, rfl⟩ := h
    exact ⟨hS, by rw [List.length_map, List.length_map, List.length_take]; exact Nat.min_le_left _ _⟩
  · obtain ⟨rfl, rfl⟩ := h
    obtain ⟨n, rfl, hn⟩ := get_ints hx
    refine ⟨_, rfl, n, 0, 999, rfl, rfl, ?_⟩
    rw [List.take_add_one, hn]
    simp
  · obtain ⟨rfl, rfl⟩ := h
    rw [hl, List.take_length]
    intro p hp
    have s1 := same_new hp (.lst ((ns.map fun n => decide (0 ≤ n ∧ n ≤ 999)).map V.bl))
    refine ⟨p, _, rfl, SqL.of upd_same, _, rfl, ?_⟩
    rw [all_map_decide]
    by_cases hr : RngOk ns
    · have ea : (ns.all fun n => decide (0 ≤ n ∧ n ≤ 999)) = true := List.all_eq_true.mpr fun n hn => decide_eq_true (hr n hn)
      refine ifF (by rw [ea]; rfl) ?_
      refine ⟨_, rfl, a, ns, rfl, s1.seq hS, by omega, rfl, fun l S n hl2 hn => ?_⟩
      refine ⟨l, S, n, rfl, upd_same, ?_⟩
      have s2 := s1.trans (same_new hl2 (.set S n))
      refine ⟨_, rfl, _, _, rfl, .inl ⟨_, s2.seq hS, rfl⟩, rfl, ?_⟩
      refine q _ _ s2 ?_
      rw [decide_eq_true_iff, hn, hl]
      constructor
      · intro z
        have z' : ((PyProof.Rows.firstMet (fun i => ns.getD i 0) ns.length).length : Int) = (ns.length : Int) := V.int.inj z
        exact ⟨hr, (firstMet_iff ns).mp (by omega)⟩
      · rintro ⟨_, nd⟩
        rw [(firstMet_iff ns).mpr nd]
    · have ea : (ns.all fun n => decide (0 ≤ n ∧ n ≤ 999)) = false := by
        cases e : ns.all fun n => decide (0 ≤ n ∧ n ≤ 999) with
        | false => rfl
        | true => exact absurd (fun n hn => of_decide_eq_true (List.all_eq_true.mp e n hn)) hr
      refine ifT (by rw [ea]; rfl) ?_
      exact q _ _ s1 ⟨fun z => (Bool.noConfusion z), fun z => absurd z.1 hr⟩
end
end My

set_option Elab.async false
set_option linter.all false
set_option maxRecDepth 100000
set_option maxHeartbeats 4000000

namespace My
open PySem L2
section
variable {P : Program} {w : World} {K : PySem.W.Frag} {mg : Str → Option Value} {base : Heap} {f : Addr} {fd : FuncData}
/-! ### is_tie: of a tuple of three ints -/
def sp_is_tie (K : PySem.W.Frag) : Sp := fun vs H Q _ => ∃ t b ns x y c, vs = [.ref t, .ref b] ∧ SqT K H t [.int x, .int y, .int c] ∧ SqL K H b (ns.map V.int) ∧ ∀ r : Bool, (r = true ↔ TieOk ns (x, y, c)) → Q (.bl r) H
theorem ok_is_tie (F : Fun K "is_tie" "is_tie" s_is_tie f fd) (T : Bl mg) (C : Cn mg) (D_is_whole : Dfn P w K mg base 1 "is_whole" ["thing"] sp_is_whole) (D_is_whole_between : Dfn P w K mg base 2 "is_whole_between" ["thing", "least", "greatest"] sp_between) :
    FnOk P w K mg base CX0 3 f fd ["thing", "bridges"] (sp_is_tie K) := by
  refine F.ok sc_is_tie (fun vs H Q E h => ?_) (fun cdv A outer s H vs Q E hr h => ?_)
  · obtain ⟨t, b, ns, x, y, c, rfl, _⟩ := h
    rfl
  obtain ⟨t, b, ns, x, y, c, rfl, hT, hS, q⟩ := h
  refine ⟨_, (pss_cons (ps_if (PW.pt (pw_or (pt_not (pt_val (pe_callB call_isi (by rfl) T.isinstance (by kernel_rfl) (pa_cons (pv 0) (pa_cons (pe_ty (T := "tuple") rfl T.tuple (by kernel_rfl)) pa_nil))))) (pw_or1 (pt_cmpR op_ne (pe_callB call_len (by rfl) T.len (by kernel_rfl) (pa_cons (pv 0) pa_nil)) pe_int (nomark _))))) (pss_one (ps_ret pe_bl)) pss_nil)
      (pss_cons (ps_if (PW.pt (pw_or (pt_not (pt_val (pe_def D_is_whole hr (by omega) rfl (pa_cons (pe_ix ix_tup (pv 0) pe_int (fun _ _ => rfl)) pa_nil)))) (pw_or1 (pt_not (pt_val (pe_def D_is_whole hr (by omega) rfl (pa_cons (pe_ix ix_tup (pv 0) pe_int (fun _ _ => rfl)) pa_nil))))))) (pss_one (ps_ret pe_bl)) pss_nil)
      (pss_cons (ps_if (PW.pt (pw_or (pt_cmpR op_notIn_seq (pe_ix ix_tup (pv 0) pe_int (fun _ _ => rfl)) (pv 1) (by rfl)) (pw_or1 (pt_cmpR op_notIn_seq (pe_ix ix_tup (pv 0) pe_int (fun _ _ => rfl)) (pv 1) (by rfl))))) (pss_one (ps_ret pe_bl)) pss_nil)
      (pss_one (ps_ret (pe_and (pe_cmpR op_ne (pe_ix ix_tup (pv 0) pe_int (fun _ _ => rfl)) (pe_ix ix_tup (pv 0) pe_int (fun _ _ => rfl)) (nomark _)) (pe_one (pe_def D_is_whole_between hr (by omega) rfl (pa_cons (pe_ix ix_tup (pv 0) pe_int (fun _ _ => rfl)) (pa_cons pe_int (pa_cons (pe_const rfl C.GREATEST_COST) pa_nil))))))))))), ?_⟩
  refine ⟨_, rfl, _, _, _, true, rfl, .tup hT, by kernel_rfl, true, rfl, ifF rfl ?_⟩
  refine ⟨_, rfl, _, _, rfl, .inr ⟨_, hT, rfl⟩, rfl, _, rfl, ifF rfl ?_⟩
  refine ⟨_, rfl, t, _, 0, _, rfl, rfl, hT, rfl, x, rfl, true, rfl, ifF rfl ?_⟩
  refine ⟨_, rfl, t, _, 1, _, rfl, rfl, hT, rfl, y, rfl, true, rfl, ifF rfl ?_⟩
  by_cases hx : x ∈ ns
  · refine ⟨_, rfl, t, _, 0, _, rfl, rfl, hT, rfl, _, rfl, b, _, rfl, .inl hS, rfl, flat_ints _, _, rfl, ifF (by show (!inV (.int x) (ns.map V.int)) = false; rw [inV_ints, decide_eq_true hx]; rfl) ?_⟩
    by_cases hy : y ∈ ns
    · refine ⟨_, rfl, t, _, 1, _, rfl, rfl, hT, rfl, _, rfl, b, _, rfl, .inl hS, rfl, flat_ints _, _, rfl, ifF (by show (!inV (.int y) (ns.map V.int)) = false; rw [inV_ints, decide_eq_true hy]; rfl) ?_⟩
      refine ⟨_, rfl, t, _, 0, _, rfl, rfl, hT, rfl, _, rfl, t, _, 1, _, rfl, rfl, hT, rfl, rfl, _, rfl, ?_⟩
      by_cases hxy : x = y
      · refine ifF (by rw [hxy]; simp) ?_
        exact q _ ⟨fun z => Bool.noConfusion z, fun z => absurd hxy z.ne⟩
      · refine ifT (by have : ¬ V.int x = V.int y := fun e => hxy (V.int.inj e); rw [decide_eq_false this]; rfl) ?_
        refine ⟨_, rfl, t, _, 2, _, rfl, rfl, hT, rfl, c, 1, 1000, rfl, ?_⟩
        refine q _ ?_
        rw [decide_eq_true_iff]
        exact ⟨fun z => ⟨hx, hy, hxy, z.1, z.2⟩, fun z => ⟨z.lo, z.hi⟩⟩
    · refine ⟨_, rfl, t, _, 1, _, rfl, rfl, hT, rfl, _, rfl, b, _, rfl, .inl hS, rfl, flat_ints _, _, rfl, ifT (by show (!inV (.int y) (ns.map V.int)) = true; rw [inV_ints, decide_eq_false hy]; rfl) ?_⟩
      exact q _ ⟨fun z => Bool.noConfusion z, fun z => absurd z.b hy⟩
  · refine ⟨_, rfl, t, _, 0, _, rfl, rfl, hT, rfl, _, rfl, b, _, rfl, .inl hS, rfl, flat_ints _, _, rfl, ifT (by show (!inV (.int x) (ns.map V.int)) = true; rw [inV_ints, decide_eq_false hx]; rfl) ?_⟩
    exact q _ ⟨fun z => Bool.noConfusion z, fun z => absurd z.a hx⟩
/-! ### lesser_end_first -/
def sp_lesser (K : PySem.W.Frag) : Sp := fun vs H Q _ => ∃ t x y c, vs = [.ref t] ∧ SqT K H t [.int x, .int y, .int c] ∧ ∀ p, H p = none → Q (.ref p) (upd H p (.tup [.int (mn x y), .int (mx x y), .int c]))
theorem ok_lesser_end_first (F : Fun K "lesser_end_first" "lesser_end_first" s_lesser_end_first f fd) (T : Bl mg) : FnOk P w K mg base CX0 1 f fd ["tie"] (sp_lesser K) := by
  refine F.ok sc_lesser_end_first (fun vs H Q E h => ?_) (fun cdv A outer s H vs Q E hr h => ?_)
  · obtain ⟨t, x, y, c, rfl, _⟩ := h
    rfl
  obtain ⟨t, x, y, c, rfl, hT, q⟩ := h
  refine ⟨_, (pss_one (ps_ret (pe_tup (pa_cons (pe_callB (call_min2 rfl) (by rfl) T.min (by kernel_rfl) (pa_cons (pe_ix ix_tup (pv 0) pe_int (fun _ _ => rfl)) (pa_cons (pe_ix ix_tup (pv 0) pe_int (fun _ _ => rfl)) pa_nil))) (pa_cons (pe_callB (call_max2 rfl) (by rfl) T.max (by kernel_rfl) (pa_cons (pe_ix ix_tup (pv 0) pe_int (fun _ _ => rfl)) (pa_cons (pe_ix ix_tup (pv 0) pe_int (fun _ _ => rfl)) pa_nil))) (pa_cons (pe_ix ix_tup (pv 0) pe_int (fun _ _ => rfl)) pa_nil)))))), ?_⟩
  refine ⟨_, rfl, t, _, 0, _, rfl, rfl, hT, rfl, _, rfl, t, _, 1, _, rfl, rfl, hT, rfl, x, y, rfl, ?_⟩
  refine ⟨_, rfl, t, _, 0, _, rfl, rfl, hT, rfl, _, rfl, t, _, 1, _, rfl, rfl, hT, rfl, x, y, rfl, ?_⟩
  exact ⟨_, rfl, t, _, 2, _, rfl, rfl, hT, rfl, line1000 (by show 3 ≤ 1000; decide), fun p hp => q p hp⟩
/-! ### make_net: of ints and of ties of ints; it may refuse -/
def MkOk (ns : List Int) (ts : List Tie) : Prop := BrOk ns ∧ TsOk ns ts
def sp_make1 (K : PySem.W.Frag) (NN : Addr) : Sp := fun vs H Q E => ∃ a b ns ts xs, vs = [.ref a, .ref b] ∧ SqL K H a (ns.map V.int) ∧ SqL K H b xs ∧ IsDs K H xs (ts.map tieD) ∧ ns.length ≤ 1000000 ∧ ts.length ≤ 1000000 ∧
  (∀ r H', Same H H' → MkOk ns ts → IsD K H' r (dueD ns ts) → Q r H') ∧ ∀ H', Same H H' → ¬ MkOk ns ts → E (.ref NN) none H'
abbrev NoNetCls (mg : Str → Option Value) (base : Heap) (NN : Addr) : Prop := PyProof.Rows.OwnCls "NoNet" NN [.type "ValueError", .type "Exception", .type "BaseException", .type "object"] "ValueError.__new__" mg base
theorem ok_make1 {NN : Addr} (F : Fun K "make_net" "make_net" s_make_net f fd) (T : Bl mg) (C : Cn mg) (O : NoNetCls mg base NN) (D_are_bridges : Dfn P w K mg base 3 "are_bridges" ["things"] (sp_are_bridges K)) (D_is_tie : Dfn P w K mg base 3 "is_tie" ["thing", "bridges"] (sp_is_tie K)) (D_lesser_end_first : Dfn P w K mg base 1 "lesser_end_first" ["tie"] (sp_lesser K)) :
    FnOk P w K mg base (CX1 P w) 4 f fd ["bridges", "ties"] (sp_make1 K NN) := by
  refine F.ok1 sc_make_net (fun vs H Q E h => ?_) (fun cdv A outer s H vs Q E hr h hw => ?_)
  · obtain ⟨a, b, ns, ts, xs, rfl, _⟩ := h
    rfl
  obtain ⟨a, b, ns, ts, xs, rfl, hA, hBl, hD, hn9, ht9, q, qe⟩ := h
  refine ⟨_, (pss_cons (ps_if (PW.pt (pw_or (pt_not (pt_val (pe_callB call_isi (by rfl) T.isinstance (by kernel_rfl) (pa_cons (pv 0) (pa_cons (pe_ty (T := "list") rfl T.list (by kernel_rfl)) pa_nil))))) (pw_or1 (pt_not (pt_val (pe_callB call_isi (by rfl) T.isinstance (by kernel_rfl) (pa_cons (pv 1) (pa_cons (pe_ty (T := "list") rfl T.list (by kernel_rfl)) pa_nil)))))))) (pss_one (ps_raise hw rfl O rfl (pa_cons pe_str pa_nil))) pss_nil)
      (pss_cons (ps_if (pt_not (pt_chain op_le op_le pe_int (pe_callB call_len (by rfl) T.len (by kernel_rfl) (pa_cons (pv 0) pa_nil)) (pe_const rfl C.MOST_BRIDGES))) (pss_one (ps_raise hw rfl O rfl (pa_cons pe_str pa_nil))) pss_nil)
      (pss_cons (ps_if (pt_cmpR op_gt (pe_callB call_len (by rfl) T.len (by kernel_rfl) (pa_cons (pv 1) pa_nil)) (pe_const rfl C.MOST_TIES) (nomark _)) (pss_one (ps_raise hw rfl O rfl (pa_cons pe_str pa_nil))) pss_nil)
      (pss_cons (ps_if (pt_not (pt_val (pe_def D_are_bridges hr (by omega) rfl (pa_cons (pv 0) pa_nil)))) (pss_one (ps_raise hw rfl O rfl (pa_cons pe_str pa_nil))) pss_nil)
      (pss_cons (ps_if (pt_not (pt_val (pe_callB (call_all rfl) (by rfl) T.all (by kernel_rfl) (pa_cons (pe_lcomp rfl (caps := [0]) (blk_ok (sc := defScope s_make_net) (N := ["bridges", "ties"]) rfl rfl rfl (by decide +kernel)) (pi_list (pv 1)) (fun _ _ _ _ _ => pifs_nil) (fun _ _ _ _ _ => (pe_def D_is_tie hr (by omega) rfl (pa_cons (pv 0) (pa_cons (pv 1) pa_nil))))) pa_nil)))) (pss_one (ps_raise hw rfl O rfl (pa_cons pe_str pa_nil))) pss_nil)
      (pss_one (ps_ret (pe_tup (pa_cons (pe_callTy call_tuple_of (by rfl) T.tuple (by kernel_rfl) (pa_cons (pe_callB call_sorted (by rfl) T.sorted (by kernel_rfl) (pa_cons (pv 0) pa_nil)) pa_nil)) (pa_cons (pe_callTy call_tuple_of (by rfl) T.tuple (by kernel_rfl) (pa_cons (pe_lcomp rfl (caps := []) (blk_ok (sc := defScope s_make_net) (N := ["bridges", "ties"]) rfl rfl rfl (by decide +kernel)) (pi_list (pv 1)) (fun _ _ _ _ _ => pifs_nil) (fun _ _ _ _ _ => (pe_def D_lesser_end_first hr (by omega) rfl (pa_cons (pv 0) pa_nil)))) pa_nil)) pa_nil)))))))))), ?_⟩
  have hl : (ns.map V.int).length = ns.length := List.length_map _
  have hx : xs.length = ts.length := by rw [hD.length, List.length_map]
  have no : ∀ {H'}, Same H H' → ¬ MkOk ns ts → ([V.str Str.empty].length ≤ sizeLine ∧ E (.ref NN) none H') := fun s z => ⟨line1000 (by show 1 ≤ 1000; decide), qe _ s z⟩
  refine ⟨_, rfl, _, _, _, true, rfl, .lst hA, by kernel_rfl, true, rfl, ifF rfl ?_⟩
  refine ⟨_, rfl, _, _, _, true, rfl, .lst hBl, by kernel_rfl, true, rfl, ifF rfl ?_⟩
  refine ⟨_, rfl, _, _, rfl, .inl ⟨_, hA, rfl⟩, _, _, rfl, rfl, _, rfl, ?_⟩
  by_cases h1 : 1 ≤ ns.length
  case neg => exact ifF (by rw [hl]; exact decide_eq_false (by omega)) ⟨_, rfl, ifT rfl (no (Same.refl _) fun z => h1 z.1.one)⟩
  refine ifT (by rw [hl]; exact decide_eq_true (by omega)) ?_
  by_cases h10 : ns.length ≤ 10
  case neg => exact ⟨_, _, rfl, rfl, _, rfl, ifT (by rw [hl, decide_eq_false (by omega)]; rfl) (no (Same.refl _) fun z => h10 z.1.ten)⟩
  refine ⟨_, _, rfl, rfl, _, rfl, ifF (by rw [hl, decide_eq_true (by omega)]; rfl) ?_⟩
  by_cases h16 : ts.length ≤ 16
  case neg => exact ⟨_, rfl, _, _, rfl, .inl ⟨_, hBl, rfl⟩, _, _, rfl, rfl, _, rfl, ifT (by rw [hx]; exact decide_eq_true (by omega)) (no (Same.refl _) fun z => h16 z.2.few)⟩
  refine ⟨_, rfl, _, _, rfl, .inl ⟨_, hBl, rfl⟩, _, _, rfl, rfl, _, rfl, ifF (by rw [hx]; exact decide_eq_false (by omega)) ?_⟩
  refine ⟨_, rfl, a, ns, rfl, hA, h10, fun r1 H1 s1 e1 => ⟨r1, rfl, ?_⟩⟩
  cases r1 with
  | false => exact ifT rfl (no s1 fun z => Bool.noConfusion (e1.mpr ⟨z.1.rng, z.1.nd⟩))
  | true =>
  obtain ⟨hR, hN⟩ := e1.mp rfl
  have hB : BrOk ns := ⟨h1, h10, hR, hN⟩
  refine ifF rfl ?_
  refine ⟨_, rfl, b, rfl, ⟨_, s1.seq hBl⟩, comp_list0 (xs := xs) (fun i ys H' => H' = H1 ∧ ∃ rs : List Bool, ys = rs.map V.bl ∧ rs.length = i ∧ (rs.all id = true ↔ ∀ t ∈ ts.take i, TieOk ns t)) ⟨rfl, [], rfl, rfl, by simp⟩ (by rw [hx]; exact small1000 (by omega)) (fun i ys H' _ h => ?_) (fun i x ys H' hx h => ?_) (fun ys H' h => ?_)⟩
  · obtain ⟨rfl, rs, rfl, hrl, _⟩ := h
    exact ⟨s1.seq hBl, by rw [List.length_map, hrl]; exact Nat.le_refl _⟩
  · obtain ⟨rfl, rs, rfl, hrl, hrs⟩ := h
    obtain ⟨d, hd, hx'⟩ := (hD.same s1).get hx
    rw [List.getElem?_map] at hd
    obtain ⟨t, ht, rfl⟩ := Option.map_eq_some_iff.mp hd
    obtain ⟨ta, rfl, hT⟩ := hx'.inv_tie
    refine ⟨_, rfl, _, rfl, ta, a, ns, _, _, _, rfl, hT, s1.seq hA, fun r er => ⟨rfl, rs ++ [r], ?_, ?_, ?_⟩⟩
    · rw [List.map_append]; rfl
    · rw [List.length_append, hrl]; rfl
    · rw [List.all_append, Bool.and_eq_true, hrs, List.take_add_one, ht]
      have e : (([r] : List Bool).all id = true) ↔ r = true := by cases r <;> decide
      rw [e, er]
      simp only [Option.toList, List.mem_append, List.mem_singleton]
      constructor
      · rintro ⟨z1, z2⟩ u (hu | rfl)
        · exact z1 u hu
        · exact z2
      · intro z
        exact ⟨fun u hu => z u (.inl hu), z t (.inr rfl)⟩
  · obtain ⟨rfl, rs, rfl, hrl, hrs⟩ := h
    rw [hx, List.take_length] at hrs
    intro p hp
    have s2 := s1.trans (same_new hp (.lst (rs.map V.bl)))
    refine ⟨p, _, rfl, SqL.of upd_same, _, rfl, ?_⟩
    by_cases hts : ∀ t ∈ ts, TieOk ns t
    case neg => exact ifT (by cases e : rs.all id with | false => rfl | true => exact absurd (hrs.mp e) hts) (no s2 fun z => hts z.2.each)
    have hO : TsOk ns ts := ⟨h16, hts⟩
    refine ifF (by rw [hrs.mpr hts]; rfl) ?_
    refine ⟨_, rfl, a, ns, rfl, s2.seq hA, by omega, fun l hl3 => ?_⟩
    refine ⟨l, _, rfl, .inl ⟨SqL.of upd_same, fun u hu => ?_⟩⟩
    have s3 := s2.trans ((same_new hl3 (.lst ((sortI ns).map V.int))).trans (same_new hu (.tup ((sortI ns).map V.int))))
    refine ⟨_, rfl, b, rfl, ⟨_, s3.seq hBl⟩, comp_list0 (xs := xs) (fun i ys H' => Same _ H' ∧ IsDs K H' ys (((ts.take i).map loT).map tieD)) ⟨Same.refl _, .nil⟩ (by rw [hx]; exact small1000 (by omega)) (fun i ys H' _ h => ?_) (fun i x ys H' hx h => ?_) (fun ys H' h => ?_)⟩
    · obtain ⟨g, gs⟩ := h
      exact ⟨(s3.trans g).seq hBl, by rw [gs.length, List.length_map, List.length_map, List.length_take]; exact Nat.min_le_left _ _⟩
    · obtain ⟨g, gs⟩ := h
      obtain ⟨d, hd, hx'⟩ := (hD.same (s3.trans g)).get hx
      rw [List.getElem?_map] at hd
      obtain ⟨t, ht, rfl⟩ := Option.map_eq_some_iff.mp hd
      obtain ⟨ta, rfl, hT⟩ := hx'.inv_tie
      refine ⟨_, rfl, ta, _, _, _, rfl, hT, fun v hv => ?_⟩
      have g2 := same_new hv (.tup [.int (mn t.1 t.2.1), .int (mx t.1 t.2.1), .int t.2.2])
      refine ⟨g.trans g2, ?_⟩
      rw [List.take_add_one, ht, List.map_append, List.map_append]
      exact (gs.same g2).append (.cons (IsD.tie (SqT.of upd_same)) .nil)
    · obtain ⟨g, gs⟩ := h
      intro v hv
      rw [hx, List.take_length] at gs
      refine ⟨v, _, rfl, .inl ⟨SqL.of upd_same, fun z hz => ?_⟩⟩
      have g2 := (same_new hv (.lst ys)).trans (same_new hz (.tup ys))
      refine ⟨line1000 (by show 2 ≤ 1000; decide), fun r hr => ?_⟩
      have g3 := g2.trans (same_new hr (.tup [.ref u, .ref z]))
      refine q _ _ (s3.trans (g.trans g3)) ⟨hB, hO⟩ (.tup (SqT.of upd_same) (.cons (.tup (SqT.of ?_) (IsDs.ints _)) (.cons (.tup (SqT.of ?_) (gs.same g3)) .nil)))
      · exact g3 _ _ (g _ _ upd_same)
      · exact (same_new hr (.tup [.ref u, .ref z])) _ _ upd_same
end
end My

set_option Elab.async false
set_option linter.all false
set_option maxRecDepth 100000
set_option maxHeartbeats 4000000

namespace My
open PySem L2
section
variable {P : Program} {w : World} {K : PySem.W.Frag} {mg : Str → Option Value} {base : Heap} {f : Addr} {fd : FuncData}
/-! ### a numeral of at most four figures -/
def Can (z : Str) : Prop := 1 ≤ z.length ∧ z.length ≤ 4 ∧ (∀ c ∈ codes z, 48 ≤ c ∧ c ≤ 57) ∧ (z = ("0" : Str) ∨ (codes z).head? ≠ some 48)
def val (z : Str) : Int := ((NumText.digitsVal (codes z) : Nat) : Int)
theorem figs_read {z : Str} (h1 : 1 ≤ z.length) (h4 : z.length ≤ 4) (hf : ∀ c ∈ codes z, 48 ≤ c ∧ c ≤ 57) : PySem.intText? z = some (val z) := by
  refine intText_digits (x := z) hf ?_ (by omega)
  intro e
  have : (codes z).length = 0 := by rw [show codes z = [] from e]; rfl
  rw [codes_len] at this
  omega
theorem can_fig {n : Int} (h0 : 0 ≤ n) (h1 : n ≤ 1000) : Can (dg n) ∧ val (dg n) = n := by
  have F := fig_ok h0 h1
  have h1' := F.one
  have h4' := F.four
  rw [codes_len] at h1' h4'
  refine ⟨⟨h1', h4', F.fig, ?_⟩, ?_⟩
  · by_cases hn : n = 0
    · exact .inl (codes_inj ((F.nought hn).trans (by decide)))
    · exact .inr (F.first hn)
  · have e := figs_read h1' h4' F.fig
    rw [show PySem.intText? (dg n) = some n from PySem.W.KIN.num_reads h0 (by omega)] at e
    exact (Option.some.inj e).symm
theorem val_lt {z : Str} (h4 : z.length ≤ 4) (hf : ∀ c ∈ codes z, 48 ≤ c ∧ c ≤ 57) : 0 ≤ val z ∧ val z ≤ 9999 := by
  rw [← codes_len] at h4
  unfold val
  match e : codes z, h4, hf with
  | [], _, _ => exact ⟨by decide, by decide⟩
  | [a], _, h => have := h a (by simp); simp [NumText.digitsVal]; omega
  | [a, b], _, h => have := h a (by simp); have := h b (by simp); simp [NumText.digitsVal]; omega
  | [a, b, c], _, h => have := h a (by simp); have := h b (by simp); have := h c (by simp); simp [NumText.digitsVal]; omega
  | [a, b, c, d], _, h => have := h a (by simp); have := h b (by simp); have := h c (by simp); have := h d (by simp); simp [NumText.digitsVal]; omega
def isFig (c : Nat) : Bool := decide (48 ≤ c ∧ c ≤ 57)
theorem in_figs (c : Nat) : (!(Builtin.Str.occurrences ("0123456789" : Str) ⟨#[c]⟩ 0 ("0123456789" : Str).length 1).isEmpty) = isFig c := by
  rw [StrLaws.found_one]
  have e2 : ("0123456789" : Str).cps.toList = [48, 49, 50, 51, 52, 53, 54, 55, 56, 57] := by decide
  rw [e2]
  unfold isFig
  by_cases h : 48 ≤ c ∧ c ≤ 57
  · rw [decide_eq_true h, decide_eq_true_eq]
    have : c = 48 ∨ c = 49 ∨ c = 50 ∨ c = 51 ∨ c = 52 ∨ c = 53 ∨ c = 54 ∨ c = 55 ∨ c = 56 ∨ c = 57 := by omega
    simpa using this
  · rw [decide_eq_false h, decide_eq_false_iff_not]
    intro m
    simp at m
    omega
def sp_numeral : Sp := fun vs H Q _ => ∃ z, vs = [.str z, .int 4] ∧ z.length ≤ 1000000 ∧ ∀ b H', Same H H' → (b = true ↔ Can z) → Q (.bl b) H'
theorem ok_is_numeral (F : Fun K "is_numeral" "is_numeral" s_is_numeral f fd) (T : Bl mg) (C : Cn mg) : FnOk P w K mg base CX0 1 f fd ["word", "most_figures"] sp_numeral := by
  refine F.ok sc_is_numeral (fun vs H Q E h => ?_) (fun cdv A outer s H vs Q E hr h => ?_)
  · obtain ⟨z, rfl, _⟩ := h
    rfl
  obtain ⟨z, rfl, hz, q⟩ := h
  refine ⟨_, (pss_cons (ps_if (pt_not (pt_chain op_le op_le pe_int (pe_callB call_len (by rfl) T.len (by kernel_rfl) (pa_cons (pv 0) pa_nil)) (pv 1))) (pss_one (ps_ret pe_bl)) pss_nil)
      (pss_cons (ps_if (pt_not (pt_val (pe_callB (call_all rfl) (by rfl) T.all (by kernel_rfl) (pa_cons (pe_lcomp rfl (caps := []) (blk_ok (sc := defScope s_is_numeral) (N := ["word", "most_figures"]) rfl rfl rfl (by decide +kernel)) (pi_str (pv 0)) (fun _ _ _ _ _ => pifs_nil) (fun _ _ _ _ _ => (pe_cmpR op_in_str (pv 0) (pe_const rfl C.FIGURES) (by rfl)))) pa_nil)))) (pss_one (ps_ret pe_bl)) pss_nil)
      (pss_one (ps_ret (pe_or (pe_cmpR op_eq (pv 0) pe_str (nomark _)) (pe_one (pe_cmpR op_ne (pe_ix ix_str (pv 0) pe_int (fun _ _ => rfl)) pe_str (nomark _)))))))), ?_⟩
  have big : z.length ≤ sizeLine := Nat.le_trans hz (by decide)
  refine ⟨_, rfl, _, _, rfl, ⟨big, rfl⟩, _, _, rfl, rfl, _, rfl, ?_⟩
  by_cases h1 : 1 ≤ z.length
  case neg => exact ifF (decide_eq_false (by omega)) ⟨_, rfl, ifT rfl (q _ _ (Same.refl _) ⟨fun e => Bool.noConfusion e, fun e => absurd e.1 h1⟩)⟩
  refine ifT (decide_eq_true (by omega)) ?_
  by_cases h4 : z.length ≤ 4
  case neg => exact ⟨_, rfl, _, _, rfl, rfl, _, rfl, ifT (by rw [decide_eq_false (by omega)]; rfl) (q _ _ (Same.refl _) ⟨fun e => Bool.noConfusion e, fun e => absurd e.2.1 h4⟩)⟩
  refine ⟨_, rfl, _, _, rfl, rfl, _, rfl, ifF (by rw [decide_eq_true (by omega)]; rfl) ?_⟩
  have zl : (codes z).length = z.length := codes_len z
  refine ⟨_, rfl, z, rfl, comp_str0 (fun i ys H' => H' = H ∧ ys = (((codes z).take i).map isFig).map V.bl) ⟨rfl, rfl⟩ (small1000 (by omega)) (fun i ys H' _ h => ?_) (fun i c ys H' hx h => ?_) (fun ys H' h => ?_)⟩
  · obtain ⟨rfl, rfl⟩ := h
    rw [List.length_map, List.length_map, List.length_take]
    exact Nat.min_le_left _ _
  · obtain ⟨rfl, rfl⟩ := h
    refine ⟨_, rfl, _, _, rfl, rfl, rfl, ?_⟩
    have hx' : (codes z)[i]? = some c := hx
    rw [in_figs, List.take_add_one, hx']
    simp
  · obtain ⟨rfl, rfl⟩ := h
    rw [← zl, List.take_length]
    intro p hp
    have s1 := same_new hp (.lst (((codes z).map isFig).map V.bl))
    refine ⟨p, _, rfl, SqL.of upd_same, _, rfl, ?_⟩
    have ea : (((codes z).map isFig).all id = true) ↔ ∀ c ∈ codes z, 48 ≤ c ∧ c ≤ 57 := by
      rw [List.all_map, List.all_eq_true]
      exact ⟨fun h c hc => of_decide_eq_true (h c hc), fun h c hc => decide_eq_true (h c hc)⟩
    by_cases hf : ∀ c ∈ codes z, 48 ≤ c ∧ c ≤ 57
    case neg => exact ifT (by cases e : ((codes z).map isFig).all id with | false => rfl | true => exact absurd (ea.mp e) hf) (q _ _ s1 ⟨fun e => Bool.noConfusion e, fun e => absurd e.2.2.1 hf⟩)
    refine ifF (by rw [ea.mpr hf]; rfl) ?_
    refine ⟨_, rfl, rfl, _, rfl, ?_⟩
    by_cases h0 : z = ("0" : Str)
    · refine ifT (decide_eq_true (congrArg V.str h0)) (q _ _ s1 ⟨fun _ => ⟨h1, h4, hf, .inl h0⟩, fun _ => ?_⟩)
      first
      | exact decide_eq_true (congrArg V.str h0)
      | rfl
    · have ne' : ¬ V.str z = V.str ("0" : Str) := fun e => h0 (V.str.inj e)
      refine ifF (decide_eq_false ne') ?_
      obtain ⟨c, r, hc⟩ : ∃ c r, codes z = c :: r := by
        cases e : codes z with
        | nil => rw [e] at zl; exact absurd h1 (by rw [← zl]; decide)
        | cons c r => exact ⟨c, r, rfl⟩
      refine ⟨_, rfl, z, 0, c, rfl, rfl, big, ?_, rfl, ?_⟩
      · show atI (codes z) 0 = some c
        rw [hc]
        unfold atI ixN
        have e3 : (0 : Int) < ((c :: r).length : Int) := by show (0 : Int) < ((r.length + 1 : Nat) : Int); omega
        simp [e3]
      refine q _ _ s1 ?_
      have e48 : (V.str ⟨#[c]⟩ = V.str ("0" : Str)) ↔ c = 48 := by
        constructor
        · intro e
          have e := congrArg codes (V.str.inj e)
          exact (List.cons.inj (e.trans (show codes ("0" : Str) = [48] by decide))).1
        · intro e
          rw [e]
          exact congrArg V.str (codes_inj (by decide))
      by_cases hc48 : c = 48
      · rw [decide_eq_true (e48.mpr hc48)]
        refine ⟨fun e => Bool.noConfusion e, fun e => ?_⟩
        rcases e.2.2.2 with e | e
        · exact absurd e h0
        · exact absurd (by rw [hc, hc48]; rfl) e
      · rw [decide_eq_false fun e => hc48 (e48.mp e)]
        exact ⟨fun _ => ⟨h1, h4, hf, .inr (by rw [hc]; intro e; exact hc48 (Option.some.inj e))⟩, fun _ => rfl⟩
/-! ### read_numbers: it may refuse -/
def sp_numbers (K : PySem.W.Frag) (NN : Addr) : Sp := fun vs H Q E => ∃ a, ∃ zs : List Str, vs = [.ref a] ∧ SqL K H a (zs.map V.str) ∧ zs.length ≤ 1000000 ∧ (∀ z ∈ zs, z.length ≤ 1000000) ∧
  (∀ r H', Same H H' → H r = none → (∀ z ∈ zs, Can z) → SqL K H' r ((zs.map val).map V.int) → Q (.ref r) H') ∧ ∀ H', Same H H' → (¬ ∀ z ∈ zs, Can z) → E (.ref NN) none H'
theorem get_str {zs : List Str} {i : Nat} {x : V} (h : (zs.map V.str)[i]? = some x) : ∃ z, x = .str z ∧ zs[i]? = some z := by
  rw [List.getElem?_map] at h
  obtain ⟨n, hn, rfl⟩ := Option.map_eq_some_iff.mp h
  exact ⟨n, rfl, hn⟩
theorem ok_read_numbers {NN : Addr} (F : Fun K "read_numbers" "read_numbers" s_read_numbers f fd) (T : Bl mg) (C : Cn mg) (O : NoNetCls mg base NN) (D_is_numeral : Dfn P w K mg base 1 "is_numeral" ["word", "most_figures"] sp_numeral) :
    FnOk P w K mg base (CX1 P w) 2 f fd ["words"] (sp_numbers K NN) := by
  refine F.ok1 sc_read_numbers (fun vs H Q E h => ?_) (fun cdv A outer s H vs Q E hr h hw => ?_)
  · obtain ⟨a, zs, rfl, _⟩ := h
    rfl
  obtain ⟨a, zs, rfl, hS, hn9, hB, q, qe⟩ := h
  refine ⟨_, (pss_cons (ps_if (pt_not (pt_val (pe_callB (call_all rfl) (by rfl) T.all (by kernel_rfl) (pa_cons (pe_lcomp rfl (caps := []) (blk_ok (sc := defScope s_read_numbers) (N := ["words"]) rfl rfl rfl (by decide +kernel)) (pi_list (pv 0)) (fun _ _ _ _ _ => pifs_nil) (fun _ _ _ _ _ => (pe_def D_is_numeral hr (by omega) rfl (pa_cons (pv 0) (pa_cons (pe_const rfl C.MOST_FIGURES) pa_nil))))) pa_nil)))) (pss_one (ps_raise hw rfl O rfl (pa_cons pe_str pa_nil))) pss_nil)
      (pss_one (ps_ret (pe_lcomp rfl (caps := []) (blk_ok (sc := defScope s_read_numbers) (N := ["words"]) rfl rfl rfl (by decide +kernel)) (pi_list (pv 0)) (fun _ _ _ _ _ => pifs_nil) (fun _ _ _ _ _ => (pe_callTy call_int_text (by rfl) T.int (by kernel_rfl) (pa_cons (pv 0) pa_nil))))))), ?_⟩
  have hl : (zs.map V.str).length = zs.length := List.length_map _
  have big : zs.length < sizeLine := Nat.lt_of_le_of_lt hn9 (by decide)
  refine ⟨_, rfl, a, rfl, ⟨_, hS⟩, comp_list0 (xs := zs.map V.str) (fun i ys H' => Same H H' ∧ ∃ rs : List Bool, ys = rs.map V.bl ∧ rs.length = i ∧ (rs.all id = true ↔ ∀ z ∈ zs.take i, Can z)) ⟨Same.refl _, [], rfl, rfl, by simp⟩ (by rw [hl]; exact big) (fun i ys H' _ h => ?_) (fun i x ys H' hx h => ?_) (fun ys H' h => ?_)⟩
  · obtain ⟨g, rs, rfl, hrl, _⟩ := h
    exact ⟨g.seq hS, by rw [List.length_map, hrl]; exact Nat.le_refl _⟩
  · obtain ⟨g, rs, rfl, hrl, hrs⟩ := h
    obtain ⟨z, rfl, hz⟩ := get_str hx
    refine ⟨_, rfl, z, rfl, hB z (List.mem_of_getElem? hz), fun r H2 g2 er => ⟨g.trans g2, rs ++ [r], ?_, ?_, ?_⟩⟩
    · rw [List.map_append]; rfl
    · rw [List.length_append, hrl]; rfl
    · rw [List.all_append, Bool.and_eq_true, hrs, List.take_add_one, hz]
      have e : (([r] : List Bool).all id = true) ↔ r = true := by cases r <;> decide
      rw [e, er]
      simp only [Option.toList, List.mem_append, List.mem_singleton]
      constructor
      · rintro ⟨z1, z2⟩ u (hu | rfl)
        · exact z1 u hu
        · exact z2
      · intro y
        exact ⟨fun u hu => y u (.inl hu), y z (.inr rfl)⟩
  · obtain ⟨g, rs, rfl, hrl, hrs⟩ := h
    rw [hl, List.take_length] at hrs
    intro p hp
    have s1 := g.trans (same_new hp (.lst (rs.map V.bl)))
    refine ⟨p, _, rfl, SqL.of upd_same, _, rfl, ?_⟩
    by_cases hc : ∀ z ∈ zs, Can z
    case neg => exact ifT (by cases e : rs.all id with | false => rfl | true => exact absurd (hrs.mp e) hc) ⟨line1000 (by show 1 ≤ 1000; decide), qe _ s1 hc⟩
    refine ifF (by rw [hrs.mpr hc]; rfl) ?_
    refine ⟨_, rfl, a, rfl, ⟨_, s1.seq hS⟩, comp_list0 (xs := zs.map V.str) (fun i ys H' => H' = _ ∧ ys = ((zs.take i).map val).map V.int) ⟨rfl, rfl⟩ (by rw [hl]; exact big) (fun i ys H' _ h => ?_) (fun i x ys H' hx h => ?_) (fun ys H' h => ?_)⟩
    · obtain ⟨rfl, rfl⟩ := h
      exact ⟨s1.seq hS, by rw [List.length_map, List.length_map, List.length_take]; exact Nat.min_le_left _ _⟩
    · obtain ⟨rfl, rfl⟩ := h
      obtain ⟨z, rfl, hz⟩ := get_str hx
      obtain ⟨c1, c4, cf, _⟩ := hc z (List.mem_of_getElem? hz)
      refine ⟨_, rfl, z, val z, rfl, figs_read c1 c4 cf, by omega, rfl, ?_⟩
      rw [List.take_add_one, hz]
      simp
    · obtain ⟨rfl, rfl⟩ := h
      intro v hv
      refine q v _ (s1.trans (same_new hv _)) ?_ hc ?_
      · cases e : H v with
        | none => rfl
        | some o => rw [s1 _ _ e] at hv; cases hv
      · rw [hl, List.take_length]
        exact SqL.of upd_same
end
end My

set_option Elab.async false
set_option linter.all false
set_option maxRecDepth 100000
set_option maxHeartbeats 4000000

namespace My
open PySem L2
section
variable {P : Program} {w : World} {K : PySem.W.Frag} {mg : Str → Option Value} {base : Heap} {f : Addr} {fd : FuncData}
theorem inv_netD {K : PySem.W.Frag} {H : Hp} {v : V} {bs : List Int} {ts : List Tie} (h : IsD K H v (netD bs ts)) : ∃ a u t xs, v = .ref a ∧ SqT K H a [.ref u, .ref t] ∧ SqT K H u (bs.map V.int) ∧ SqT K H t xs ∧ IsDs K H xs (ts.map tieD) := by
  obtain ⟨a, ys, rfl, q, qs⟩ := h.inv_tup
  obtain ⟨x, ys, rfl, q1, qs⟩ := qs.inv_cons
  obtain ⟨y, ys, rfl, q2, qs⟩ := qs.inv_cons
  rw [qs.inv_nil] at q
  obtain ⟨u, us, rfl, hu, hus⟩ := q1.inv_tup
  obtain ⟨t, xs, rfl, ht, hts⟩ := q2.inv_tup
  rw [hus.inv_ints] at hu
  exact ⟨a, u, t, xs, rfl, q, hu, ht, hts⟩
theorem put_same {H H' : Hp} {p : Addr} (e : Same H H') (h : H p = none) (o : HO) : Same H (upd H' p o) := fun b u q => by rw [upd_ne (ne_of_none q h)]; exact e b u q
theorem log_ok {n : Int} (h0 : 0 ≤ n) (h1 : n ≤ 1000) : n.natAbs.log2 < 1920 := by have := Nat.log2_le_self n.natAbs; omega
theorem len_b : ("bridge " : Str).length = 7 := by decide
theorem len_t : ("tie " : Str).length = 4 := by decide
theorem len_s : (" " : Str).length = 1 := by decide
theorem len_n : ("\n" : Str).length = 1 := by decide
theorem len_0 : Str.empty.length = 0 := by decide
theorem dg_len {n : Int} (h : FigOk n) : (dg n).length ≤ 4 := by have := h.four; rw [codes_len] at this; exact this
theorem bL_len {n : Int} (h : FigOk n) : (bL n).length ≤ 21 := by rw [← codes_len, codes_bL, List.length_append]; have := bW_len h; simp; omega
theorem tL_len {t : Tie} (h : TFig t) : (tL t).length ≤ 21 := by rw [← codes_len, codes_tL, List.length_append]; have := tW_len h; simp; omega
/-- a net told as its text -/
def sp_text (K : PySem.W.Frag) : Sp := fun vs H Q _ => ∃ v bs ts, vs = [v] ∧ IsD K H v (netD bs ts) ∧ NetOk bs ts ∧ ∀ H', Same H H' → Q (.str (txt bs ts)) H'
theorem tnum {bs : List Int} {ts : List Tie} (h : NetOk bs ts) {t : Tie} (ht : t ∈ ts) : (0 ≤ t.1 ∧ t.1 ≤ 1000) ∧ (0 ≤ t.2.1 ∧ t.2.1 ≤ 1000) ∧ (0 ≤ t.2.2 ∧ t.2.2 ≤ 1000) := by
  obtain ⟨a, b, _, d, e⟩ := h.ti.each t ht
  have := h.br.rng _ a
  have := h.br.rng _ b
  exact ⟨⟨by omega, by omega⟩, ⟨by omega, by omega⟩, ⟨by omega, e⟩⟩
theorem sum_le21 : ∀ ys : List Str, (∀ y ∈ ys, y.length ≤ 21) → (ys.map (·.length)).sum ≤ 21 * ys.length
  | [], _ => Nat.le_refl _
  | y :: ys, h => by
    have ih := sum_le21 ys fun x hx => h x (List.mem_cons_of_mem _ hx)
    have h1 := h y List.mem_cons_self
    rw [List.map_cons, List.sum_cons]
    have e2 : (y :: ys).length = ys.length + 1 := rfl
    omega
theorem ok_show_net (F : Fun K "show_net" "show_net" s_show_net f fd) (T : Bl mg) : FnOk P w K mg base CX0 1 f fd ["net"] (sp_text K) := by
  refine F.ok sc_show_net (fun vs H Q E h => ?_) (fun cdv A outer s H vs Q E hr h => ?_)
  · obtain ⟨v, bs, ts, rfl, _⟩ := h
    rfl
  obtain ⟨v, bs, ts, rfl, hN, hO, q⟩ := h
  obtain ⟨a, u, t, xs, rfl, hA, hU, hT, hD⟩ := inv_netD hN
  refine ⟨_, (pss_cons (ps_lcomp (i := 1) sc_show_net.nd rfl (Or.inl rfl) rfl (caps := []) (blk_ok (sc := defScope s_show_net) (N := ["net", "lines", "one", "other", "cost"]) rfl rfl rfl (by decide +kernel)) (pi_tup (pe_ix ix_tup (pv 0) pe_int (fun _ _ => rfl))) (fun _ _ _ _ _ => pifs_nil) (fun _ _ _ _ _ => (pe_joined (pj_cons pe_str (pj_cons (pe_fmt (pv 0)) (pj_cons pe_str pj_nil))))))
      (pss_cons (ps_for PassesOwn.never rfl (pi_tup (pe_ix ix_tup (pv 0) pe_int (fun _ _ => rfl))) (pg_tup rfl (pgs_cons (pg_name (i := 2) sc_show_net.nd rfl (Or.inl rfl)) (pgs_cons (pg_name (i := 3) sc_show_net.nd rfl (Or.inl rfl)) (pgs_cons (pg_name (i := 4) sc_show_net.nd rfl (Or.inl rfl)) pgs_nil)))) (pss_one (ps_expr (pe_bm PySem.F.plainAttrs_list PySem.F.slot_list_append PySem.F.type_list_append mt_append (pv 1) (pa_cons (pe_joined (pj_cons pe_str (pj_cons (pe_fmt (pv 2)) (pj_cons pe_str (pj_cons (pe_fmt (pv 3)) (pj_cons pe_str (pj_cons (pe_fmt (pv 4)) (pj_cons pe_str pj_nil)))))))) pa_nil)))))
      (pss_one (ps_ret (pe_bm PySem.F.plainAttrs_str PySem.F.slot_str_join PySem.F.type_str_join mt_join pe_str (pa_cons (pv 1) pa_nil)))))), ?_⟩
  have xlen : xs.length = ts.length := by rw [hD.length, List.length_map]
  have blen : (bs.map V.int).length = bs.length := List.length_map _
  have h10 := hO.br.ten
  have h16 := hO.ti.few
  refine ⟨_, rfl, a, _, 0, _, rfl, rfl, hA, rfl, u, rfl, ⟨_, hU⟩, comp_tup0 (xs := bs.map V.int) (fun i ys H' => H' = H ∧ ys = (bs.take i).map fun n => V.str (bL n)) ⟨rfl, rfl⟩ (by rw [blen]; exact small1000 (by omega)) (fun i ys H' _ h => ?_) (fun i x ys H' hx h => ?_) (fun ys H' h => ?_)⟩
  · obtain ⟨rfl, rfl⟩ := h
    exact ⟨hU, by rw [List.length_map, List.length_take]; exact Nat.min_le_left _ _⟩
  · obtain ⟨rfl, rfl⟩ := h
    obtain ⟨n, rfl, hn⟩ := get_ints hx
    have hm := hO.br.rng n (List.mem_of_getElem? hn)
    have d4 := dg_len (hO.bfig (List.mem_of_getElem? hn))
    refine ⟨("bridge " : Str), rfl, line1000 (by simp only [strLen_append, len_b, len_0]; omega), _, rfl, n, rfl, log_ok hm.1 (by omega), dg n, rfl, line1000 (by simp only [strLen_append, len_b, len_0]; omega), ("\n" : Str), rfl, line1000 (by simp only [strLen_append, len_b, len_0, len_n]; omega), line1000 (by simp only [strLen_append, len_b, len_0, len_n]; omega), rfl, ?_⟩
    rw [List.take_add_one, hn, List.map_append]
    rfl
  · obtain ⟨rfl, rfl⟩ := h
    rw [blen, List.take_length]
    intro p hp
    have s1 := same_new hp (.lst (bs.map fun n => V.str (bL n)))
    refine ⟨_, rfl, a, _, 1, _, rfl, rfl, s1.sqT hA, rfl, t, rfl, ⟨_, s1.sqT hT⟩, for_tup (K := K) (a := t) (xs := xs) (fun i σ H2 => ∃ v2 v3 v4, σ = [some (.ref a), some (.ref p), v2, v3, v4] ∧ Same H' H2 ∧ H2 p = some (.lst (((bs.map bL) ++ (ts.take i).map tL).map V.str)))
      ⟨none, none, none, rfl, s1, by rw [List.take_zero, List.map_nil, List.append_nil, List.map_map]; exact upd_same⟩ (fun i σ H2 _ h => ?_) ?_ ?_⟩
    · obtain ⟨_, _, _, _, g, _⟩ := h
      exact g.sqT hT
    · rintro i x σ H2 hx ⟨v2, v3, v4, rfl, g, e⟩
      obtain ⟨d, hd, hx'⟩ := (hD.same g).get hx
      rw [List.getElem?_map] at hd
      obtain ⟨tt, ht, rfl⟩ := Option.map_eq_some_iff.mp hd
      obtain ⟨ta, rfl, hTt⟩ := hx'.inv_tie
      have tm := List.mem_of_getElem? ht
      obtain ⟨⟨a0, a1⟩, ⟨b0, b1⟩, ⟨c0, c1⟩⟩ := tnum hO tm
      have fg := hO.tfig tm
      have da := dg_len fg.a
      have db := dg_len fg.b
      have dc := dg_len fg.c
      refine ⟨ta, _, rfl, hTt, rfl, _, _, rfl, _, _, rfl, _, _, rfl, rfl, ?_⟩
      refine ⟨_, rfl, .inl ⟨rfl, _, SqL.of e⟩, ("tie " : Str), rfl, line1000 (by simp only [strLen_append, len_t, len_0]; omega),
        _, rfl, tt.1, rfl, log_ok a0 a1, dg tt.1, rfl, line1000 (by simp only [strLen_append, len_t, len_0]; omega), (" " : Str), rfl, line1000 (by simp only [strLen_append, len_t, len_0, len_s]; omega),
        _, rfl, tt.2.1, rfl, log_ok b0 b1, dg tt.2.1, rfl, line1000 (by simp only [strLen_append, len_t, len_0, len_s]; omega), (" " : Str), rfl, line1000 (by simp only [strLen_append, len_t, len_0, len_s]; omega),
        _, rfl, tt.2.2, rfl, log_ok c0 c1, dg tt.2.2, rfl, line1000 (by simp only [strLen_append, len_t, len_0, len_s]; omega), ("\n" : Str), rfl, line1000 (by simp only [strLen_append, len_t, len_0, len_s, len_n]; omega), line1000 (by simp only [strLen_append, len_t, len_0, len_s, len_n]; omega), ?_⟩
      refine ⟨p, _, _, rfl, rfl, e, small1000 ?_, ?_⟩
      · rw [List.length_map, List.length_append, List.length_map, List.length_map, List.length_take]
        omega
      refine ⟨_, _, _, rfl, put_same g hp _, ?_⟩
      rw [upd_same, List.take_add_one, ht]
      simp only [List.map_append, List.append_assoc]
      rfl
    · rintro σ H2 ⟨v2, v3, v4, rfl, g, e⟩
      rw [xlen, List.take_length] at e
      refine ⟨rfl, _, rfl, Str.empty, p, (bs.map bL ++ ts.map tL), rfl, rfl, SqL.of e, ?_, ?_⟩
      · have := sum_le21 (bs.map bL ++ ts.map tL) fun y hy => ?_
        · have e3 : (bs.map bL ++ ts.map tL).length ≤ 26 := by rw [List.length_append, List.length_map, List.length_map]; omega
          rw [len_0]
          omega
        · rcases List.mem_append.mp hy with m | m
          · obtain ⟨n, hn, rfl⟩ := List.mem_map.mp m
            exact bL_len (hO.bfig hn)
          · obtain ⟨t, ht, rfl⟩ := List.mem_map.mp m
            exact tL_len (hO.tfig ht)
      · rw [join_lines]
        exact q _ g
/-! ### _law_written -/
theorem ok_written (F : Fun K "_law_written" "_law_written" s_law_written f fd) (T : Bl mg) : FnOk P w K mg base CX0 1 f fd ["net"] (sp_text K) := by
  refine F.ok sc_law_written (fun vs H Q E h => ?_) (fun cdv A outer s H vs Q E hr h => ?_)
  · obtain ⟨v, bs, ts, rfl, _⟩ := h
    rfl
  obtain ⟨v, bs, ts, rfl, hN, hO, q⟩ := h
  obtain ⟨a, u, t, xs, rfl, hA, hU, hT, hD⟩ := inv_netD hN
  refine ⟨_, (pss_cons (ps_set (i := 1) sc_law_written.nd rfl (Or.inl rfl) pe_str)
      (pss_cons (ps_for PassesOwn.never rfl (pi_tup (pe_ix ix_tup (pv 0) pe_int (fun _ _ => rfl))) (pg_name (i := 2) sc_law_written.nd rfl (Or.inl rfl)) (pss_one (ps_set (i := 1) sc_law_written.nd rfl (Or.inl rfl) (pe_op op_add_str (pe_op op_add_str (pe_op op_add_str (pv 1) pe_str) (pe_callTy call_str_int (by rfl) T.str (by kernel_rfl) (pa_cons (pv 2) pa_nil))) pe_str))))
      (pss_cons (ps_for PassesOwn.never rfl (pi_tup (pe_ix ix_tup (pv 0) pe_int (fun _ _ => rfl))) (pg_tup rfl (pgs_cons (pg_name (i := 3) sc_law_written.nd rfl (Or.inl rfl)) (pgs_cons (pg_name (i := 4) sc_law_written.nd rfl (Or.inl rfl)) (pgs_cons (pg_name (i := 5) sc_law_written.nd rfl (Or.inl rfl)) pgs_nil)))) (pss_one (ps_set (i := 1) sc_law_written.nd rfl (Or.inl rfl) (pe_op op_add_str (pe_op op_add_str (pv 1) (pe_bm PySem.F.plainAttrs_str PySem.F.slot_str_join PySem.F.type_str_join mt_join pe_str (pa_cons (pe_lst (pa_cons pe_str (pa_cons (pe_callTy call_str_int (by rfl) T.str (by kernel_rfl) (pa_cons (pv 3) pa_nil)) (pa_cons (pe_callTy call_str_int (by rfl) T.str (by kernel_rfl) (pa_cons (pv 4) pa_nil)) (pa_cons (pe_callTy call_str_int (by rfl) T.str (by kernel_rfl) (pa_cons (pv 5) pa_nil)) pa_nil))))) pa_nil))) pe_str))))
      (pss_one (ps_ret (pv 1)))))), ?_⟩
  have xlen : xs.length = ts.length := by rw [hD.length, List.length_map]
  have blen : (bs.map V.int).length = bs.length := List.length_map _
  have h10 := hO.br.ten
  have h16 := hO.ti.few
  have lb : ∀ i, (fl (lns (bs.take i) [])).length ≤ 210 := fun i => by
    have := fl_len (lns (bs.take i) []) fun l hl => lns_len hO l (by
      rcases List.mem_append.mp hl with m | m
      · obtain ⟨n, hn, rfl⟩ := List.mem_map.mp m
        exact List.mem_append.mpr (.inl (List.mem_map.mpr ⟨n, List.mem_of_mem_take hn, rfl⟩))
      · cases m)
    have e : (lns (bs.take i) []).length ≤ 10 := by unfold lns; rw [List.length_append, List.length_map, List.length_take]; simp; omega
    omega
  have lt : ∀ i, (fl (lns bs (ts.take i))).length ≤ 546 := fun i => by
    have := fl_len (lns bs (ts.take i)) fun l hl => lns_len hO l (by
      rcases List.mem_append.mp hl with m | m
      · exact List.mem_append.mpr (.inl m)
      · obtain ⟨n, hn, rfl⟩ := List.mem_map.mp m
        exact List.mem_append.mpr (.inr (List.mem_map.mpr ⟨n, List.mem_of_mem_take hn, rfl⟩)))
    have e : (lns bs (ts.take i)).length ≤ 26 := by unfold lns; rw [List.length_append, List.length_map, List.length_map, List.length_take]; omega
    omega
  refine ⟨_, rfl, a, _, 0, _, rfl, rfl, hA, rfl, u, rfl, ⟨_, hU⟩, for_tup (K := K) (a := u) (xs := bs.map V.int) (fun i σ H2 => ∃ z v2, σ = [some (.ref a), some (.str z), v2, none, none, none] ∧ H2 = H ∧ codes z = fl (lns (bs.take i) []))
    ⟨Str.empty, none, rfl, rfl, rfl⟩ (fun i σ H2 _ h => ?_) ?_ ?_⟩
  · obtain ⟨_, _, _, rfl, _⟩ := h
    exact hU
  · rintro i x σ H2 hx ⟨z, v2, rfl, rfl, ez⟩
    obtain ⟨n, rfl, hn⟩ := get_ints hx
    have hm := hO.br.rng n (List.mem_of_getElem? hn)
    have d4 := dg_len (hO.bfig (List.mem_of_getElem? hn))
    have zl : z.length ≤ 210 := by rw [← codes_len, ez]; exact lb i
    refine ⟨_, rfl, z, ("bridge " : Str), rfl, rfl, line1000 (by rw [len_b]; omega), _, rfl, n, rfl, log_ok hm.1 (by omega), z ++ ("bridge " : Str), dg n, rfl, rfl, line1000 (by simp only [strLen_append, len_b]; omega), z ++ ("bridge " : Str) ++ dg n, ("\n" : Str), rfl, rfl, line1000 (by simp only [strLen_append, len_b, len_n]; omega), ?_⟩
    refine ⟨_, _, rfl, rfl, ?_⟩
    rw [codes_app, codes_app, codes_app, ez, List.take_add_one, hn]
    unfold lns
    rw [List.map_append, List.map_nil, List.append_nil, List.append_nil, fl_app]
    show _ = _ ++ fl [bW n]
    rw [fl_one, codes_bW]
    have e : codes ("\n" : Str) = [10] := by decide
    rw [e]
    simp only [List.append_assoc]
  · rintro σ H2 ⟨z, v2, rfl, rfl, ez⟩
    rw [blen, List.take_length] at ez
    refine ⟨_, rfl, a, _, 1, _, rfl, rfl, hA, rfl, t, rfl, ⟨_, hT⟩, for_tup (K := K) (a := t) (xs := xs) (fun i σ H3 => ∃ z v2 v3 v4 v5, σ = [some (.ref a), some (.str z), v2, v3, v4, v5] ∧ Same H2 H3 ∧ codes z = fl (lns bs (ts.take i)))
      ⟨z, v2, none, none, none, rfl, Same.refl _, ez⟩ (fun i σ H3 _ h => ?_) ?_ ?_⟩
    · obtain ⟨_, _, _, _, _, _, g, _⟩ := h
      exact g.sqT hT
    · rintro i x σ H3 hx ⟨z, v2, v3, v4, v5, rfl, g, ez⟩
      obtain ⟨d, hd, hx'⟩ := (hD.same g).get hx
      rw [List.getElem?_map] at hd
      obtain ⟨tt, ht, rfl⟩ := Option.map_eq_some_iff.mp hd
      obtain ⟨ta, rfl, hTt⟩ := hx'.inv_tie
      have tm := List.mem_of_getElem? ht
      obtain ⟨⟨a0, a1⟩, ⟨b0, b1⟩, ⟨c0, c1⟩⟩ := tnum hO tm
      have fg := hO.tfig tm
      have da := dg_len fg.a
      have db := dg_len fg.b
      have dc := dg_len fg.c
      have zl : z.length ≤ 546 := by rw [← codes_len, ez]; exact lt i
      have jt := join_tie tt
      have jl : (Txt.join sp1 [wT, dg tt.1, dg tt.2.1, dg tt.2.2]).length ≤ 20 := by rw [← codes_len, jt]; exact tW_len fg
      refine ⟨ta, _, rfl, hTt, rfl, _, _, rfl, _, _, rfl, _, _, rfl, rfl, ?_⟩
      refine ⟨_, rfl, rfl, _, rfl, tt.1, rfl, log_ok a0 a1, _, rfl, tt.2.1, rfl, log_ok b0 b1, _, rfl, tt.2.2, rfl, log_ok c0 c1, line1000 (by show 4 ≤ 1000; decide), fun p hp => ?_⟩
      have g1 := same_new hp (.lst [.str wT, .str (dg tt.1), .str (dg tt.2.1), .str (dg tt.2.2)])
      refine ⟨sp1, p, [wT, dg tt.1, dg tt.2.1, dg tt.2.2], rfl, rfl, SqL.of upd_same, ?_, z, _, rfl, rfl, line1000 (by omega), z ++ Txt.join sp1 [wT, dg tt.1, dg tt.2.1, dg tt.2.2], ("\n" : Str), rfl, rfl, line1000 (by simp only [strLen_append, len_n]; omega), ?_⟩
      · show wT.length + ((dg tt.1).length + ((dg tt.2.1).length + ((dg tt.2.2).length + 0))) + 4 * sp1.length ≤ 16777216
        have e1 : wT.length = 3 := by decide
        have e2 : sp1.length = 1 := by decide
        omega
      refine ⟨_, _, _, _, _, rfl, g.trans g1, ?_⟩
      rw [codes_app, codes_app, ez, jt, List.take_add_one, ht]
      unfold lns
      rw [List.map_append, ← List.append_assoc, fl_app (bs.map bW ++ (ts.take i).map tW)]
      show _ = _ ++ fl [tW tt]
      rw [fl_one, List.append_assoc]
      have e : codes ("\n" : Str) = [10] := by decide
      rw [e]
    · rintro σ H3 ⟨z, v2, v3, v4, v5, rfl, g, ez⟩
      rw [xlen, List.take_length] at ez
      have e : z = txt bs ts := codes_inj (ez.trans (codes_txt bs ts).symm)
      rw [e]
      exact ⟨_, rfl, q _ g⟩
end
end My

set_option Elab.async false
set_option linter.all false
set_option maxRecDepth 100000
set_option maxHeartbeats 4000000

namespace My
open PySem L2
section
variable {P : Program} {w : World} {K : PySem.W.Frag} {mg : Str → Option Value} {base : Heap} {f : Addr} {fd : FuncData}
/-! ### read_net -/
def IsTxt (z : Str) : Prop := ∃ bs ts, NetOk bs ts ∧ z = txt bs ts
def sp_read (K : PySem.W.Frag) (NN : Addr) : Sp := fun vs H Q E => ∃ z, vs = [.str z] ∧ z.length ≤ 900000 ∧ (∀ bs ts, NetOk bs ts → z = txt bs ts → ∀ v H', Same H H' → IsD K H' v (netD bs ts) → Q v H') ∧ (¬ IsTxt z → ∀ H', Same H H' → E (.ref NN) none H')
theorem lns_get {bs : List Int} {ts : List Tie} {i : Nat} {x : V} (h : ((lns bs ts).map V.str)[i]? = some x) : (∃ n, x = .str (bW n) ∧ bs[i]? = some n ∧ i < bs.length) ∨ (∃ t, x = .str (tW t) ∧ ts[i - bs.length]? = some t ∧ bs.length ≤ i) := by
  rw [List.getElem?_map] at h
  obtain ⟨l, hl, rfl⟩ := Option.map_eq_some_iff.mp h
  unfold lns at hl
  by_cases hi : i < bs.length
  · rw [List.getElem?_append_left (by rw [List.length_map]; exact hi), List.getElem?_map] at hl
    obtain ⟨n, hn, rfl⟩ := Option.map_eq_some_iff.mp hl
    exact .inl ⟨n, rfl, hn, hi⟩
  · rw [List.getElem?_append_right (by rw [List.length_map]; omega), List.length_map, List.getElem?_map] at hl
    obtain ⟨t, ht, rfl⟩ := Option.map_eq_some_iff.mp hl
    exact .inr ⟨t, rfl, ht, by omega⟩
structure Rd (K : PySem.W.Frag) (H0 H : Hp) (pb pt pl : Addr) (bs : List Int) (ts : List Tie) (xs : List V) (i : Nat) : Prop where
  sm : Same H0 H
  b0 : H0 pb = none
  t0 : H0 pt = none
  bt : pt ≠ pb
  nb : pl ≠ pb
  nt : pl ≠ pt
  lb : H pb = some (.lst ((bs.take i).map V.int))
  lt : H pt = some (.lst xs)
  ll : H pl = some (.lst ((lns bs ts).map V.str))
  ds : IsDs K H xs ((ts.take (i - bs.length)).map tieD)
theorem Rd.same {K : PySem.W.Frag} {H0 H H1 : Hp} {pb pt pl : Addr} {bs : List Int} {ts : List Tie} {xs : List V} {i : Nat} (r : Rd K H0 H pb pt pl bs ts xs i) (s : Same H H1) : Rd K H0 H1 pb pt pl bs ts xs i :=
  ⟨r.sm.trans s, r.b0, r.t0, r.bt, r.nb, r.nt, s _ _ r.lb, s _ _ r.lt, s _ _ r.ll, r.ds.same s⟩
theorem Rd.addB {K : PySem.W.Frag} {H0 H : Hp} {pb pt pl : Addr} {bs : List Int} {ts : List Tie} {xs : List V} {i : Nat} {n : Int} (r : Rd K H0 H pb pt pl bs ts xs i) (hn : bs[i]? = some n) (hi : i < bs.length) : Rd K H0 (upd H pb (.lst ((bs.take i).map V.int ++ [.int n]))) pb pt pl bs ts xs (i + 1) := by
  refine ⟨put_same r.sm r.b0 _, r.b0, r.t0, r.bt, r.nb, r.nt, ?_, by rw [upd_ne r.bt]; exact r.lt, by rw [upd_ne r.nb]; exact r.ll, ?_⟩
  · rw [upd_same, List.take_add_one, hn, List.map_append]
    rfl
  · have e1 : i - bs.length = 0 := by omega
    have e2 : i + 1 - bs.length = 0 := by omega
    have d := r.ds
    rw [e1] at d
    rw [e2]
    exact d.keep Keep.upd r.lb (noLists_ties _)
theorem Rd.addT {K : PySem.W.Frag} {H0 H : Hp} {pb pt pl : Addr} {bs : List Int} {ts : List Tie} {xs : List V} {i : Nat} {t : Tie} {v : V} (r : Rd K H0 H pb pt pl bs ts xs i) (ht : ts[i - bs.length]? = some t) (hi : bs.length ≤ i) (hv : IsD K H v (tieD t)) : Rd K H0 (upd H pt (.lst (xs ++ [v]))) pb pt pl bs ts (xs ++ [v]) (i + 1) := by
  refine ⟨put_same r.sm r.t0 _, r.b0, r.t0, r.bt, r.nb, r.nt, ?_, upd_same, by rw [upd_ne r.nt]; exact r.ll, ?_⟩
  · rw [upd_ne r.bt.symm, r.lb, List.take_of_length_le hi, List.take_of_length_le (by omega)]
  · have e2 : i + 1 - bs.length = (i - bs.length) + 1 := by omega
    rw [e2, List.take_add_one, ht, List.map_append]
    exact (r.ds.keep Keep.upd r.lt (noLists_ties _)).append (.cons (hv.keep Keep.upd r.lt rfl) .nil)
theorem part_len {c : Nat} {p : List Nat} : ∀ {ps : List (List Nat)}, p ∈ ps → p.length ≤ (jl c ps).length
  | [], h => by cases h
  | [x], h => by rw [List.mem_singleton.mp h]; exact Nat.le_refl _
  | x :: y :: r, h => by
    show p.length ≤ (x ++ c :: jl c (y :: r)).length
    rw [List.length_append, List.length_cons]
    rcases List.mem_cons.mp h with e | h
    · rw [e]; omega
    · have := part_len (c := c) h; omega
theorem split_part {z p : Str} {c : Nat} (h : p ∈ Txt.split z ⟨#[c]⟩) : p.length ≤ z.length := by
  have h2 := join_codes c (Txt.split z ⟨#[c]⟩)
  rw [StrLaws.join_split] at h2
  have := part_len (c := c) (p := codes p) (ps := (Txt.split z ⟨#[c]⟩).map codes) (List.mem_map.mpr ⟨p, h, rfl⟩)
  rw [← h2, codes_len, codes_len] at this
  exact this
theorem split_ne (z : Str) (c : Nat) : Txt.split z ⟨#[c]⟩ ≠ [] := by
  intro e
  have h1 := PyProof.Rows.split_len z c
  rw [cnt_count] at h1
  have : (Txt.split z ⟨#[c]⟩).length = 0 := by rw [e]; rfl
  omega
theorem cutV_one (x : V) (xs : List V) : cutV (x :: xs) (some 1) none = xs := by
  unfold cutV HT.sIx
  simp
theorem at_zero (x : V) (xs : List V) : atI (x :: xs) 0 = some x := by
  unfold atI ixN
  have e3 : (0 : Int) < ((x :: xs).length : Int) := by show (0 : Int) < ((xs.length + 1 : Nat) : Int); omega
  simp [e3]
structure Rn (K : PySem.W.Frag) (H0 H : Hp) (pb pt pl : Addr) (ls : List Str) (ns : List Int) (ts : List Tie) (xs : List V) (i : Nat) : Prop where
  sm : Same H0 H
  b0 : H0 pb = none
  t0 : H0 pt = none
  bt : pt ≠ pb
  nb : pl ≠ pb
  nt : pl ≠ pt
  lb : H pb = some (.lst (ns.map V.int))
  lt : H pt = some (.lst xs)
  ll : H pl = some (.lst (ls.map V.str))
  ds : IsDs K H xs (ts.map tieD)
  nl : ns.length ≤ i
  tl : ts.length ≤ i
theorem Rn.same {K : PySem.W.Frag} {H0 H H1 : Hp} {pb pt pl : Addr} {ls : List Str} {ns : List Int} {ts : List Tie} {xs : List V} {i : Nat} (r : Rn K H0 H pb pt pl ls ns ts xs i) (s : Same H H1) : Rn K H0 H1 pb pt pl ls ns ts xs i :=
  ⟨r.sm.trans s, r.b0, r.t0, r.bt, r.nb, r.nt, s _ _ r.lb, s _ _ r.lt, s _ _ r.ll, r.ds.same s, r.nl, r.tl⟩
theorem Rn.addB {K : PySem.W.Frag} {H0 H : Hp} {pb pt pl : Addr} {ls : List Str} {ns : List Int} {ts : List Tie} {xs : List V} {i : Nat} (r : Rn K H0 H pb pt pl ls ns ts xs i) (n : Int) : Rn K H0 (upd H pb (.lst (ns.map V.int ++ [.int n]))) pb pt pl ls (ns ++ [n]) ts xs (i + 1) :=
  ⟨put_same r.sm r.b0 _, r.b0, r.t0, r.bt, r.nb, r.nt, by rw [upd_same, List.map_append]; rfl, by rw [upd_ne r.bt]; exact r.lt, by rw [upd_ne r.nb]; exact r.ll, r.ds.keep Keep.upd r.lb (noLists_ties _), by rw [List.length_append]; have := r.nl; simp; omega, Nat.le_succ_of_le r.tl⟩
theorem Rn.addT {K : PySem.W.Frag} {H0 H : Hp} {pb pt pl : Addr} {ls : List Str} {ns : List Int} {ts : List Tie} {xs : List V} {i : Nat} {t : Tie} {v : V} (r : Rn K H0 H pb pt pl ls ns ts xs i) (hv : IsD K H v (tieD t)) : Rn K H0 (upd H pt (.lst (xs ++ [v]))) pb pt pl ls ns (ts ++ [t]) (xs ++ [v]) (i + 1) :=
  ⟨put_same r.sm r.t0 _, r.b0, r.t0, r.bt, r.nb, r.nt, by rw [upd_ne r.bt.symm]; exact r.lb, upd_same, by rw [upd_ne r.nt]; exact r.ll, by rw [List.map_append]; exact (r.ds.keep Keep.upd r.lt (noLists_ties _)).append (.cons (hv.keep Keep.upd r.lt rfl) .nil), Nat.le_succ_of_le r.nl, by rw [List.length_append]; have := r.tl; simp; omega⟩
theorem ok_read_net {NN : Addr} (F : Fun K "read_net" "read_net" s_read_net f fd) (T : Bl mg) (O : NoNetCls mg base NN) (D_read_numbers : Dfn1 P w K mg base 2 "read_numbers" ["words"] (sp_numbers K NN)) (D_make_net : Dfn1 P w K mg base 4 "make_net" ["bridges", "ties"] (sp_make1 K NN)) (D_show_net : Dfn P w K mg base 1 "show_net" ["net"] (sp_text K)) :
    FnOk P w K mg base (CX1 P w) 5 f fd ["text"] (sp_read K NN) := by
  refine F.ok1 sc_read_net (fun vs H Q E h => ?_) (fun cdv A outer s H vs Q E hr h hw => ?_)
  · obtain ⟨z, rfl, _⟩ := h
    rfl
  obtain ⟨z, rfl, hz9, q, qe⟩ := h
  refine ⟨_, (pss_cons (ps_set (i := 1) sc_read_net.nd rfl (Or.inl rfl) (pe_lst pa_nil))
      (pss_cons (ps_set (i := 2) sc_read_net.nd rfl (Or.inl rfl) (pe_lst pa_nil))
      (pss_cons (ps_for PassesOwn.leaving rfl (pi_list (pe_slice sl_list (pe_bm PySem.F.plainAttrs_str PySem.F.slot_str_split PySem.F.type_str_split mt_split (pv 0) (pa_cons pe_str pa_nil)) po_none (po_some (pe_un un_neg pe_int)))) (pg_name (i := 3) sc_read_net.nd rfl (Or.inl rfl)) (pss_cons (ps_set (i := 4) sc_read_net.nd rfl (Or.inl rfl) (pe_bm PySem.F.plainAttrs_str PySem.F.slot_str_split PySem.F.type_str_split mt_split (pv 3) (pa_cons pe_str pa_nil)))
      (pss_cons (ps_set (i := 5) sc_read_net.nd rfl (Or.inl rfl) (pe_def1 D_read_numbers hw hr (by omega) rfl (pa_cons (pe_slice sl_list (pv 4) (po_some pe_int) po_none) pa_nil)))
      (pss_one (ps_if (PW.pt (pw_and (pt_cmpR op_eq (pe_ix ix_list (pv 4) pe_int (fun _ _ => rfl)) pe_str (nomark _)) (pw_and1 (pt_cmpR op_eq (pe_callB call_len (by rfl) T.len (by kernel_rfl) (pa_cons (pv 5) pa_nil)) pe_int (nomark _))))) (pss_one (ps_expr (pe_bm PySem.F.plainAttrs_list PySem.F.slot_list_append PySem.F.type_list_append mt_append (pv 1) (pa_cons (pe_ix ix_list (pv 5) pe_int (fun _ _ => rfl)) pa_nil)))) (pss_one (ps_if (PW.pt (pw_and (pt_cmpR op_eq (pe_ix ix_list (pv 4) pe_int (fun _ _ => rfl)) pe_str (nomark _)) (pw_and1 (pt_cmpR op_eq (pe_callB call_len (by rfl) T.len (by kernel_rfl) (pa_cons (pv 5) pa_nil)) pe_int (nomark _))))) (pss_one (ps_expr (pe_bm PySem.F.plainAttrs_list PySem.F.slot_list_append PySem.F.type_list_append mt_append (pv 2) (pa_cons (pe_callTy call_tuple_of (by rfl) T.tuple (by kernel_rfl) (pa_cons (pv 5) pa_nil)) pa_nil)))) (pss_one (ps_raise hw rfl O rfl (pa_cons pe_str pa_nil))))))))))
      (pss_cons (ps_set (i := 6) sc_read_net.nd rfl (Or.inl rfl) (pe_def1 D_make_net hw hr (by omega) rfl (pa_cons (pv 1) (pa_cons (pv 2) pa_nil))))
      (pss_cons (ps_if (pt_cmpR op_ne (pe_def D_show_net hr (by omega) rfl (pa_cons (pv 6) pa_nil)) (pv 0) (nomark _)) (pss_one (ps_raise hw rfl O rfl (pa_cons pe_str pa_nil))) pss_nil)
      (pss_one (ps_ret (pv 6)))))))), ?_⟩
  by_cases hz : IsTxt z
  · obtain ⟨bs, ts, hO, rfl⟩ := hz
    have tl := txt_len hO
    have h10 := hO.br.ten
    have h16 := hO.ti.few
    have c32 : (" " : Str) = ⟨#[32]⟩ := by decide
    have c10 : ("\n" : Str) = ⟨#[10]⟩ := by decide
    refine ⟨line1000 (by show 0 ≤ 1000; decide), fun pb hb => ⟨line1000 (by show 0 ≤ 1000; decide), fun pt ht => ?_⟩⟩
    have s1 := same_new hb (.lst [])
    have s2 := same_new ht (.lst [])
    refine ⟨_, rfl, rfl, txt bs ts, 10, rfl, congrArg (fun z => [V.str z]) c10, by have := line1000 (n := 602) (by decide); omega, fun pw hw => ?_⟩
    rw [split_txt hO]
    have s3 := same_new hw (.lst ((lns bs ts ++ [Str.empty]).map V.str))
    refine ⟨1, rfl, -1, rfl, pw, _, rfl, SqL.of upd_same, fun pl hl => ?_⟩
    rw [List.map_append] at s3 hl ⊢
    have ec : cutV ((lns bs ts).map V.str ++ [Str.empty].map V.str) none (some (-1)) = (lns bs ts).map V.str := cutV_last _ _
    rw [ec]
    have s4 := same_new hl (.lst ((lns bs ts).map V.str))
    have s14 := s1.trans (s2.trans (s3.trans s4))
    have s24 := s2.trans (s3.trans s4)
    have s34 := s3.trans s4
    have t0 : H pt = none := by
      cases e : H pt with
      | none => rfl
      | some o => rw [s1 _ _ e] at ht; cases ht
    have bt : pt ≠ pb := (ne_of_none upd_same ht).symm
    have nb : pl ≠ pb := (ne_of_none (s3 _ _ (s2 _ _ upd_same)) hl).symm
    have nt : pl ≠ pt := (ne_of_none (s3 _ _ upd_same) hl).symm
    refine ⟨pl, rfl, ⟨_, SqL.of upd_same⟩, for_list (K := K) (a := pl) (xs := (lns bs ts).map V.str) (fun i σ H' => ∃ v3 v4 v5 xs, σ = [some (.str (txt bs ts)), some (.ref pb), some (.ref pt), v3, v4, v5, none] ∧ Rd K H H' pb pt pl bs ts xs i)
      ⟨none, none, none, [], rfl, s14, hb, t0, bt, nb, nt, s24 _ _ upd_same, s34 _ _ upd_same, upd_same, by rw [Nat.zero_sub]; exact .nil⟩ (fun i σ H' _ h => ?_) ?_ ?_⟩
    · obtain ⟨_, _, _, _, _, r⟩ := h
      exact SqL.of r.ll
    · rintro i x σ H5 hx ⟨v3, v4, v5, xs, rfl, r5⟩
      rcases lns_get hx with ⟨n, rfl, hn, hi⟩ | ⟨t, rfl, ht, hi⟩
      · have mem := List.mem_of_getElem? hn
        have fg := hO.bfig mem
        have rg := hO.br.rng n mem
        have ln := bW_len fg
        rw [codes_len] at ln
        refine ⟨_, rfl, rfl, bW n, 32, rfl, congrArg (fun z => [V.str z]) c32, by have := line1000 (n := 602) (by decide); omega, fun p1 h1 => ?_⟩
        rw [split_bW fg]
        have r6 := r5.same (same_new h1 (.lst ([wB, dg n].map V.str)))
        refine ⟨_, rfl, 1, rfl, p1, _, rfl, SqL.of upd_same, fun p2 h2 => ?_⟩
        have u2 := same_new h2 (.lst (cutV ([wB, dg n].map V.str) (some 1) none))
        have r7 := r6.same u2
        have cn := can_fig rg.1 (by omega : n ≤ 1000)
        refine ⟨p2, [dg n], rfl, SqL.of upd_same, (by show 1 ≤ 1000000; decide), (fun m hm => by rw [List.mem_singleton.mp hm]; have := cn.1.2.1; omega), fun p3 H8 u3 h3 _ q3 => ?_, fun H8 _ nc => absurd (fun m hm => by rw [List.mem_singleton.mp hm]; exact cn.1) nc⟩
        have q3 : SqL K H8 p3 ([n].map V.int) := by
          have e : [dg n].map val = [n] := by rw [List.map_cons, cn.2]; rfl
          rw [e] at q3
          exact q3
        have r8 := r7.same u3
        refine ⟨_, rfl, p1, _, 0, _, rfl, rfl, SqL.of (u3 _ _ (u2 _ _ upd_same)), rfl, rfl, _, rfl, ifT (decide_eq_true rfl) ?_⟩
        refine ⟨_, rfl, _, _, rfl, .inl ⟨_, q3, rfl⟩, rfl, _, rfl, ifT (decide_eq_true rfl) ?_⟩
        refine ⟨_, rfl, .inl ⟨rfl, _, SqL.of r8.lb⟩, _, rfl, p3, _, 0, _, rfl, rfl, q3, rfl, pb, _, _, rfl, rfl, r8.lb, small1000 (by rw [List.length_map, List.length_take]; omega), ?_⟩
        exact ⟨_, _, _, xs, rfl, r8.addB hn hi⟩
      · have mem := List.mem_of_getElem? ht
        have fg := hO.tfig mem
        obtain ⟨⟨a0, a1⟩, ⟨b0, b1⟩, ⟨c0, c1⟩⟩ := tnum hO mem
        have ln := tW_len fg
        rw [codes_len] at ln
        refine ⟨_, rfl, rfl, tW t, 32, rfl, congrArg (fun z => [V.str z]) c32, by have := line1000 (n := 602) (by decide); omega, fun p1 h1 => ?_⟩
        rw [split_tW fg]
        have r6 := r5.same (same_new h1 (.lst ([wT, dg t.1, dg t.2.1, dg t.2.2].map V.str)))
        refine ⟨_, rfl, 1, rfl, p1, _, rfl, SqL.of upd_same, fun p2 h2 => ?_⟩
        have u2 := same_new h2 (.lst (cutV ([wT, dg t.1, dg t.2.1, dg t.2.2].map V.str) (some 1) none))
        have r7 := r6.same u2
        have ca := can_fig a0 a1
        have cb := can_fig b0 b1
        have cc := can_fig c0 c1
        have all3 : ∀ m ∈ [dg t.1, dg t.2.1, dg t.2.2], Can m := fun m hm => by
          simp only [List.mem_cons, List.not_mem_nil, or_false] at hm
          rcases hm with rfl | rfl | rfl
          · exact ca.1
          · exact cb.1
          · exact cc.1
        refine ⟨p2, [dg t.1, dg t.2.1, dg t.2.2], rfl, SqL.of upd_same, (by show 3 ≤ 1000000; decide), (fun m hm => by have := (all3 m hm).2.1; omega), fun p3 H8 u3 h3 _ q3 => ?_, fun H8 _ nc => absurd all3 nc⟩
        have q3 : SqL K H8 p3 ([t.1, t.2.1, t.2.2].map V.int) := by
          have e : [dg t.1, dg t.2.1, dg t.2.2].map val = [t.1, t.2.1, t.2.2] := by rw [List.map_cons, List.map_cons, List.map_cons, ca.2, cb.2, cc.2]; rfl
          rw [e] at q3
          exact q3
        have r8 := r7.same u3
        have q1 := u3 _ _ (u2 _ _ (upd_same (H := H5) (o := .lst ([wT, dg t.1, dg t.2.1, dg t.2.2].map V.str))))
        refine ⟨_, rfl, p1, _, 0, _, rfl, rfl, SqL.of q1, rfl, rfl, _, rfl, ifF (decide_eq_false fun z => absurd (V.str.inj z) (by decide)) ?_⟩
        refine ⟨_, rfl, p1, _, 0, _, rfl, rfl, SqL.of q1, rfl, rfl, _, rfl, ifT (decide_eq_true rfl) ?_⟩
        refine ⟨_, rfl, _, _, rfl, .inl ⟨_, q3, rfl⟩, rfl, _, rfl, ifT (decide_eq_true rfl) ?_⟩
        refine ⟨_, rfl, .inl ⟨rfl, _, SqL.of r8.lt⟩, _, rfl, p3, _, rfl, .inl ⟨q3, fun p4 h4 => ?_⟩⟩
        have u4 := same_new h4 (.tup ([t.1, t.2.1, t.2.2].map V.int))
        have r9 := r8.same u4
        have xl : xs.length ≤ 16 := by rw [r9.ds.length, List.length_map, List.length_take]; omega
        refine ⟨pt, _, _, rfl, rfl, r9.lt, small1000 (by omega), ?_⟩
        exact ⟨_, _, _, _, rfl, r9.addT ht hi (IsD.tie (SqT.of upd_same))⟩
    · rintro σ H5 ⟨v3, v4, v5, xs, rfl, r5⟩
      have el : ((lns bs ts).map V.str).length = bs.length + ts.length := by unfold lns; rw [List.length_map, List.length_append, List.length_map, List.length_map]
      rw [el] at r5
      have lb := r5.lb
      rw [List.take_of_length_le (by omega)] at lb
      have ds := r5.ds
      rw [List.take_of_length_le (by omega)] at ds
      refine ⟨_, rfl, _, rfl, pb, pt, bs, ts, xs, rfl, SqL.of lb, SqL.of r5.lt, ds, by omega, by omega, fun nv H6 s6 _ n6 => ?_, fun H6 _ nc => absurd ⟨hO.br, hO.ti⟩ nc⟩
      have ed : dueD bs ts = netD bs ts := by unfold dueD netD; rw [hO.so, hO.lo]
      rw [ed] at n6
      refine ⟨_, rfl, nv, bs, ts, rfl, n6, hO, fun H7 s7 => ⟨_, rfl, rfl, _, rfl, ifF (by simp) ?_⟩⟩
      exact ⟨_, rfl, q bs ts hO rfl nv H7 (r5.sm.trans (s6.trans s7)) (n6.same s7)⟩
  · have no := qe hz
    have c32 : (" " : Str) = ⟨#[32]⟩ := by decide
    have c10 : ("\n" : Str) = ⟨#[10]⟩ := by decide
    have big : (1000002 : Nat) ≤ sizeLine := by decide
    refine ⟨line1000 (by show 0 ≤ 1000; decide), fun pb hb => ⟨line1000 (by show 0 ≤ 1000; decide), fun pt ht => ?_⟩⟩
    have s1 := same_new hb (.lst [])
    have s2 := same_new ht (.lst [])
    refine ⟨_, rfl, rfl, z, 10, rfl, congrArg (fun z => [V.str z]) c10, by omega, fun pw hw' => ?_⟩
    obtain ⟨ls, la, els⟩ : ∃ ls la, Txt.split z ⟨#[10]⟩ = ls ++ [la] := ⟨_, _, (List.dropLast_concat_getLast (split_ne z 10)).symm⟩
    have few := split_few z 10
    have part : ∀ l ∈ ls, l.length ≤ z.length := fun l hl => split_part (c := 10) (by rw [els]; exact List.mem_append_left _ hl)
    rw [els] at few ⊢
    rw [List.length_append] at few
    have few : ls.length ≤ 900000 := by simp at few; omega
    have s3 := same_new hw' (.lst ((ls ++ [la]).map V.str))
    refine ⟨1, rfl, -1, rfl, pw, _, rfl, SqL.of upd_same, fun pl hl => ?_⟩
    rw [List.map_append] at s3 hl ⊢
    have ec : cutV (ls.map V.str ++ [la].map V.str) none (some (-1)) = ls.map V.str := cutV_last _ _
    rw [ec]
    have s4 := same_new hl (.lst (ls.map V.str))
    have s14 := s1.trans (s2.trans (s3.trans s4))
    have s24 := s2.trans (s3.trans s4)
    have s34 := s3.trans s4
    have t0 : H pt = none := by
      cases e : H pt with
      | none => rfl
      | some o => rw [s1 _ _ e] at ht; cases ht
    have bt : pt ≠ pb := (ne_of_none upd_same ht).symm
    have nb : pl ≠ pb := (ne_of_none (s3 _ _ (s2 _ _ upd_same)) hl).symm
    have nt : pl ≠ pt := (ne_of_none (s3 _ _ upd_same) hl).symm
    refine ⟨pl, rfl, ⟨_, SqL.of upd_same⟩, for_list (K := K) (a := pl) (xs := ls.map V.str) (fun i σ H' => i ≤ ls.length ∧ ∃ v3 v4 v5 ns ts xs, σ = [some (.str z), some (.ref pb), some (.ref pt), v3, v4, v5, none] ∧ Rn K H H' pb pt pl ls ns ts xs i)
      ⟨Nat.zero_le _, none, none, none, [], [], [], rfl, s14, hb, t0, bt, nb, nt, s24 _ _ upd_same, s34 _ _ upd_same, upd_same, .nil, Nat.le_refl _, Nat.le_refl _⟩ (fun i σ H' _ h => ?_) ?_ ?_⟩
    · obtain ⟨_, _, _, _, _, _, _, _, r⟩ := h
      exact SqL.of r.ll
    · rintro i x σ H5 hx ⟨hi, v3, v4, v5, ns, ts, xs, rfl, r5⟩
      obtain ⟨l, rfl, hl'⟩ := get_str hx
      have ll := part l (List.mem_of_getElem? hl')
      have hi' : i < ls.length := (List.getElem?_eq_some_iff.mp hl').1
      have n9 := r5.nl
      have t9 := r5.tl
      refine ⟨_, rfl, rfl, l, 32, rfl, congrArg (fun z => [V.str z]) c32, by omega, fun p1 h1 => ?_⟩
      obtain ⟨w0, wr, ew⟩ : ∃ w0 wr, Txt.split l ⟨#[32]⟩ = w0 :: wr := by
        cases e : Txt.split l ⟨#[32]⟩ with
        | nil => exact absurd e (split_ne l 32)
        | cons a b => exact ⟨a, b, rfl⟩
      have fw := split_few l 32
      have pw' : ∀ u ∈ wr, u.length ≤ l.length := fun u hu => split_part (c := 32) (by rw [ew]; exact List.mem_cons_of_mem _ hu)
      rw [ew] at fw ⊢
      have fw : wr.length ≤ 900000 := by simp at fw; omega
      have r6 := r5.same (same_new h1 (.lst ((w0 :: wr).map V.str)))
      refine ⟨_, rfl, 1, rfl, p1, _, rfl, SqL.of upd_same, fun p2 h2 => ?_⟩
      have ec1 : cutV ((w0 :: wr).map V.str) (some 1) none = wr.map V.str := cutV_one _ _
      rw [ec1]
      have u2 := same_new h2 (.lst (wr.map V.str))
      have r7 := r6.same u2
      refine ⟨p2, wr, rfl, SqL.of upd_same, by omega, fun u hu => by have := pw' u hu; omega, fun p3 H8 u3 h3 hcan q3 => ?_, fun H8 u3 _ => no _ (r7.sm.trans u3)⟩
      have r8 := r7.same u3
      have q1 : H8 p1 = some (.lst ((w0 :: wr).map V.str)) := u3 _ _ (u2 _ _ upd_same)
      have nlen : ((wr.map val).map V.int).length = wr.length := by rw [List.length_map, List.length_map]
      have at0 : atI ((w0 :: wr).map V.str) 0 = some (.str w0) := at_zero _ _
      refine ⟨_, rfl, p1, _, 0, .str w0, rfl, rfl, SqL.of q1, at0, rfl, _, rfl, ?_⟩
      by_cases hb1 : w0 = wB
      · refine ifT (decide_eq_true (congrArg V.str hb1)) ?_
        by_cases hb2 : wr.length = 1
        · obtain ⟨u, eu⟩ : ∃ u, wr = [u] := List.length_eq_one_iff.mp hb2
          subst eu
          refine ⟨_, rfl, _, _, rfl, .inl ⟨_, q3, rfl⟩, rfl, _, rfl, ifT (decide_eq_true rfl) ?_⟩
          refine ⟨_, rfl, .inl ⟨rfl, _, SqL.of r8.lb⟩, _, rfl, p3, _, 0, _, rfl, rfl, q3, rfl, pb, _, _, rfl, rfl, r8.lb, by rw [List.length_map]; omega, ?_⟩
          exact ⟨hi', _, _, _, _, _, _, rfl, r8.addB (val u)⟩
        · refine ⟨_, rfl, _, _, rfl, .inl ⟨_, q3, rfl⟩, rfl, _, rfl, ifF (decide_eq_false fun e => hb2 ?_) ?_⟩
          · have e := V.int.inj e
            rw [nlen] at e
            omega
          refine ⟨_, rfl, p1, _, 0, .str w0, rfl, rfl, SqL.of q1, at0, rfl, _, rfl, ifF (decide_eq_false fun e => ?_) ⟨line1000 (by show 1 ≤ 1000; decide), no _ r8.sm⟩⟩
          have e := V.str.inj e
          rw [hb1] at e
          exact absurd e (by decide)
      · refine ifF (decide_eq_false fun e => hb1 (V.str.inj e)) ?_
        refine ⟨_, rfl, p1, _, 0, .str w0, rfl, rfl, SqL.of q1, at0, rfl, _, rfl, ?_⟩
        by_cases hb3 : w0 = wT
        · refine ifT (decide_eq_true (congrArg V.str hb3)) ?_
          by_cases hb4 : wr.length = 3
          · obtain ⟨u1, u2', u3', eu⟩ : ∃ a b c, wr = [a, b, c] := by
              match wr, hb4 with
              | [a, b, c], _ => exact ⟨a, b, c, rfl⟩
            subst eu
            refine ⟨_, rfl, _, _, rfl, .inl ⟨_, q3, rfl⟩, rfl, _, rfl, ifT (decide_eq_true rfl) ?_⟩
            refine ⟨_, rfl, .inl ⟨rfl, _, SqL.of r8.lt⟩, _, rfl, p3, _, rfl, .inl ⟨q3, fun p4 h4 => ?_⟩⟩
            have u4 := same_new h4 (.tup (([u1, u2', u3'].map val).map V.int))
            have r9 := r8.same u4
            have xl : xs.length = ts.length := by rw [r9.ds.length, List.length_map]
            refine ⟨pt, _, _, rfl, rfl, r9.lt, by omega, ?_⟩
            exact ⟨hi', _, _, _, _, _, _, rfl, r9.addT (t := (val u1, val u2', val u3')) (IsD.tie (SqT.of upd_same))⟩
          · refine ⟨_, rfl, _, _, rfl, .inl ⟨_, q3, rfl⟩, rfl, _, rfl, ifF (decide_eq_false fun e => hb4 ?_) ⟨line1000 (by show 1 ≤ 1000; decide), no _ r8.sm⟩⟩
            have e := V.int.inj e
            rw [nlen] at e
            omega
        · exact ifF (decide_eq_false fun e => hb3 (V.str.inj e)) ⟨line1000 (by show 1 ≤ 1000; decide), no _ r8.sm⟩
    · rintro σ H5 ⟨hi, v3, v4, v5, ns, ts, xs, rfl, r5⟩
      have n9 := r5.nl
      have t9 := r5.tl
      rw [List.length_map] at n9 t9
      refine ⟨_, rfl, _, rfl, pb, pt, ns, ts, xs, rfl, SqL.of r5.lb, SqL.of r5.lt, r5.ds, by omega, by omega, fun nv H6 s6 mk n6 => ?_, fun H6 s6 _ => no _ (r5.sm.trans s6)⟩
      have NO := netok_due mk.1 mk.2
      refine ⟨_, rfl, nv, sortI ns, ts.map loT, rfl, n6, NO, fun H7 s7 => ⟨_, rfl, rfl, _, rfl, ?_⟩⟩
      have ne : ¬ V.str (txt (sortI ns) (ts.map loT)) = V.str z := fun e => hz ⟨_, _, NO, (V.str.inj e).symm⟩
      exact ifT (by rw [decide_eq_false ne]; rfl) ⟨line1000 (by show 1 ≤ 1000; decide), no _ (r5.sm.trans (s6.trans s7))⟩
end
end My

set_option Elab.async false
set_option linter.all false
set_option maxRecDepth 100000
set_option maxHeartbeats 4000000

namespace My
open PySem L2
section
variable {P : Program} {w : World} {K : PySem.W.Frag} {mg : Str → Option Value} {base : Heap} {f : Addr} {fd : FuncData}
/-! ### _law_number -/
def NumIn (z : Str) (a b : Int) : Prop := ∃ n, a ≤ n ∧ n ≤ b ∧ z = dg n
def sp_number : Sp := fun vs H Q _ => ∃ z a b, vs = [.str z, .int a, .int b] ∧ 0 ≤ a ∧ b ≤ 1000 ∧ z.length ≤ 1000000 ∧ (∀ n H', Same H H' → a ≤ n → n ≤ b → z = dg n → Q (.int n) H') ∧ ∀ H', Same H H' → ¬ NumIn z a b → Q .non H'
theorem ok_number (F : Fun K "_law_number" "_law_number" s_law_number f fd) (T : Bl mg) : FnOk P w K mg base CX0 1 f fd ["word", "least", "most"] sp_number := by
  refine F.ok sc_law_number (fun vs H Q E h => ?_) (fun cdv A outer s H vs Q E hr h => ?_)
  · obtain ⟨z, a, b, rfl, _⟩ := h
    rfl
  obtain ⟨z, a, b, rfl, ha, hb, hz, q, qn⟩ := h
  refine ⟨_, (pss_cons (ps_if (PW.pt (pw_or (pt_cmpR op_eq (pv 0) pe_str (nomark _)) (pw_or (pt_cmpR op_gt (pe_callB call_len (by rfl) T.len (by kernel_rfl) (pa_cons (pv 0) pa_nil)) pe_int (nomark _)) (pw_or1 (pt_cmpR (op_neE hr.units) (pe_lcomp rfl (caps := []) (blk_ok (sc := defScope s_law_number) (N := ["word", "least", "most"]) rfl rfl rfl (by decide +kernel)) (pi_str (pv 0)) (fun _ _ _ _ _ => pifs_one (pt_cmpR op_notIn_str (pv 0) pe_str (by rfl))) (fun _ _ _ _ _ => (pv 0))) (pe_lst pa_nil) (nomark _)))))) (pss_one (ps_ret pe_non)) pss_nil)
      (pss_cons (ps_if (PW.pt (pw_or (pt_cmpR op_ne (pe_callTy call_str_int (by rfl) T.str (by kernel_rfl) (pa_cons (pe_callTy call_int_text (by rfl) T.int (by kernel_rfl) (pa_cons (pv 0) pa_nil)) pa_nil)) (pv 0) (nomark _)) (pw_or1 (pt_not (pt_chain op_le op_le (pv 1) (pe_callTy call_int_text (by rfl) T.int (by kernel_rfl) (pa_cons (pv 0) pa_nil)) (pv 2)))))) (pss_one (ps_ret pe_non)) pss_nil)
      (pss_one (ps_ret (pe_callTy call_int_text (by rfl) T.int (by kernel_rfl) (pa_cons (pv 0) pa_nil)))))), ?_⟩
  have big : z.length ≤ sizeLine := Nat.le_trans hz (by decide)
  have can : NumIn z a b → Can z := fun ⟨n, h1, h2, e⟩ => by rw [e]; exact (can_fig (by omega) (by omega)).1
  refine ⟨_, rfl, rfl, _, rfl, ?_⟩
  by_cases h0 : z = ("" : Str)
  · refine ifT (decide_eq_true (congrArg V.str h0)) (qn _ (Same.refl _) fun c => ?_)
    have := (can c).1
    rw [h0] at this
    exact absurd this (by decide)
  refine ifF (decide_eq_false fun e => h0 (V.str.inj e)) ?_
  refine ⟨_, rfl, _, _, rfl, ⟨big, rfl⟩, _, _, rfl, rfl, _, rfl, ?_⟩
  by_cases h4 : z.length ≤ 4
  case neg => exact ifT (decide_eq_true (by omega)) (qn _ (Same.refl _) fun c => h4 (can c).2.1)
  refine ifF (decide_eq_false (by omega)) ?_
  have h1 : 1 ≤ z.length := by
    rcases Nat.eq_zero_or_pos z.length with e | e
    · have e0 : codes z = [] := List.length_eq_zero_iff.mp (by rw [codes_len]; exact e)
      exact absurd (codes_inj (e0.trans (by decide))) h0
    · exact e
  refine ⟨_, rfl, z, rfl, comp_str (fun i ys H' => H' = H ∧ ys.length ≤ i ∧ (ys.length = 0 ↔ ∀ c ∈ (codes z).take i, 48 ≤ c ∧ c ≤ 57)) ⟨rfl, Nat.le_refl _, by simp⟩ (small1000 (by omega)) (fun i ys H' _ h => h.2.1) (fun i c ys H' hx h => ?_) (fun ys H' h => ?_)⟩
  · obtain ⟨rfl, hl, he⟩ := h
    have hx' : (codes z)[i]? = some c := hx
    refine ⟨_, rfl, _, _, rfl, rfl, _, rfl, ?_⟩
    rw [in_figs]
    by_cases hc : 48 ≤ c ∧ c ≤ 57
    · refine ifF (by unfold isFig; rw [decide_eq_true hc]; rfl) ⟨rfl, by omega, ?_⟩
      rw [List.take_add_one, hx', he]
      simp only [Option.toList, List.mem_append, List.mem_singleton]
      exact ⟨fun z1 u hu => hu.elim (z1 u) (fun e => by rw [e]; exact hc), fun z1 u hu => z1 u (.inl hu)⟩
    · refine ifT (by unfold isFig; rw [decide_eq_false hc]; rfl) ⟨_, rfl, rfl, ?_, ?_⟩
      · rw [List.length_append]; simp; omega
      · rw [List.length_append, List.take_add_one, hx']
        simp only [Option.toList, List.mem_append, List.mem_singleton]
        exact ⟨fun e => absurd e (by simp), fun z1 => absurd (z1 c (.inr rfl)) hc⟩
  · obtain ⟨rfl, hl, he⟩ := h
    rw [← codes_len, List.take_length] at he
    intro p hp
    have s1 := same_new hp (.lst ys)
    refine ⟨line1000 (by show 0 ≤ 1000; decide), fun p2 hp2 => ?_⟩
    have s2 := same_new hp2 (.lst [])
    have s12 := s1.trans s2
    refine ⟨p, p2, ys, rfl, rfl, SqL.of (s2 _ _ upd_same), SqL.of upd_same, _, rfl, ?_⟩
    by_cases hf : ∀ c ∈ codes z, 48 ≤ c ∧ c ≤ 57
    case neg => exact ifT (by rw [decide_eq_false fun e => hf (he.mp e)]; rfl) (qn _ s12 fun c => hf (can c).2.2.1)
    refine ifF (by rw [decide_eq_true (he.mpr hf)]; rfl) ?_
    have rd := figs_read h1 h4 hf
    have vl := val_lt h4 hf
    have lg : (val z).natAbs.log2 < 1920 := by
      have := Nat.log2_le_self (val z).natAbs
      rcases Nat.lt_or_ge (val z).natAbs.log2 1920 with h | h
      · exact h
      · exfalso
        have h14 : (val z).natAbs < 2 ^ 14 := by omega
        have := (Nat.log2_lt (n := (val z).natAbs) (k := 14) (by intro e; rw [e] at h; exact absurd h (by decide))).mpr h14
        omega
    refine ⟨_, rfl, z, val z, rfl, rd, by omega, val z, rfl, lg, _, rfl, rfl, _, rfl, ?_⟩
    by_cases hd : dg (val z) = z
    case neg =>
      refine ifT (by have : ¬ V.str (dg (val z)) = V.str z := fun e => hd (V.str.inj e); exact congrArg not (decide_eq_false this)) (qn _ s12 fun ⟨n, c1, c2, c3⟩ => hd ?_)
      have := (can_fig (n := n) (by omega) (by omega)).2
      rw [c3, this]
    refine ifF (by have : V.str (dg (val z)) = V.str z := congrArg V.str hd; exact congrArg not (decide_eq_true this)) ?_
    refine ⟨_, rfl, _, rfl, z, val z, rfl, rd, by omega, a, val z, rfl, rfl, _, rfl, ?_⟩
    have vn : ∀ n, z = dg n → a ≤ n → n ≤ b → n = val z := fun n e c1 c2 => by rw [e]; exact (can_fig (n := n) (by omega) (by omega)).2.symm
    by_cases hlo : a ≤ val z
    case neg => exact ifF (decide_eq_false hlo) ⟨_, rfl, ifT rfl (qn _ s12 fun ⟨n, c1, c2, c3⟩ => hlo (by rw [← vn n c3 c1 c2]; exact c1))⟩
    refine ifT (decide_eq_true hlo) ?_
    by_cases hhi : val z ≤ b
    case neg => exact ⟨_, rfl, _, _, rfl, rfl, _, rfl, ifT (by rw [decide_eq_false hhi]; rfl) (qn _ s12 fun ⟨n, c1, c2, c3⟩ => hhi (by rw [← vn n c3 c1 c2]; exact c2))⟩
    refine ⟨_, rfl, _, _, rfl, rfl, _, rfl, ifF (by rw [decide_eq_true hhi]; rfl) ?_⟩
    exact ⟨_, rfl, z, val z, rfl, rd, by omega, q (val z) _ s12 hlo hhi hd.symm⟩
end
end My

set_option Elab.async false
set_option linter.all false
set_option maxRecDepth 100000
set_option maxHeartbeats 4000000

namespace My
open PySem L2
section
variable {P : Program} {w : World} {K : PySem.W.Frag} {mg : Str → Option Value} {base : Heap} {f : Addr} {fd : FuncData}
/-! ### what the law reads: lines and words -/
theorem fl_jl : ∀ {ls : List Str}, ls ≠ [] → fl ls = jl 10 (ls.map codes) ++ [10]
  | [], h => absurd rfl h
  | [x], _ => by rw [fl_one]; rfl
  | x :: y :: r, _ => by
    have e : fl (x :: y :: r) = (codes x ++ [10]) ++ fl (y :: r) := by unfold fl; simp
    rw [e, fl_jl (ls := y :: r) (by simp)]
    show _ = (codes x ++ 10 :: jl 10 ((y :: r).map codes)) ++ [10]
    simp
theorem lns_ne {bs : List Int} {ts : List Tie} (h : NetOk bs ts) : lns bs ts ≠ [] := by
  intro e
  have h1 := h.br.one
  have : (lns bs ts).length = 0 := by rw [e]; rfl
  unfold lns at this
  rw [List.length_append, List.length_map] at this
  omega
theorem txt_last {bs : List Int} {ts : List Tie} (h : NetOk bs ts) : codes (txt bs ts) = jl 10 ((lns bs ts).map codes) ++ [10] := by
  rw [codes_txt]
  exact fl_jl (lns_ne h)
theorem at_last {α : Type} (xs : List α) (x : α) : atI (xs ++ [x]) (-1) = some x := by
  unfold atI ixN
  have e : (xs ++ [x]).length = xs.length + 1 := by rw [List.length_append]; rfl
  rw [e, if_neg (by decide), if_pos (by omega)]
  show (xs ++ [x])[((-1 : Int) + ((xs.length + 1 : Nat) : Int)).toNat]? = some x
  have e2 : ((-1 : Int) + ((xs.length + 1 : Nat) : Int)).toNat = xs.length := by omega
  rw [e2]
  simp
theorem cutV_13 (x : V) (xs : List V) : cutV (x :: xs) (some 1) (some 3) = xs.take 2 := by
  unfold cutV HT.sIx
  have e : (x :: xs).length = xs.length + 1 := rfl
  rw [e]
  have e1 : (if (1 : Int) < 0 then ((1 : Int) + ((xs.length + 1 : Nat) : Int)).toNat else min (1 : Int).toNat (xs.length + 1)) = 1 := by rw [if_neg (by decide)]; show min 1 (xs.length + 1) = 1; omega
  have e3 : (if (3 : Int) < 0 then ((3 : Int) + ((xs.length + 1 : Nat) : Int)).toNat else min (3 : Int).toNat (xs.length + 1)) = min 3 (xs.length + 1) := by rw [if_neg (by decide)]; rfl
  simp only [e1, e3]
  show (xs.take (min 3 (xs.length + 1) - 1)) = _
  by_cases h : xs.length ≤ 2
  · rw [List.take_of_length_le h, List.take_of_length_le (by omega)]
  · rw [show min 3 (xs.length + 1) - 1 = 2 by omega]
theorem cutV_3 (xs : List V) : cutV xs (some 3) none = xs.drop 3 := by
  unfold cutV HT.sIx
  have e3 : (if (3 : Int) < 0 then ((3 : Int) + (xs.length : Int)).toNat else min (3 : Int).toNat xs.length) = min 3 xs.length := by rw [if_neg (by decide)]; rfl
  simp only [e3]
  by_cases h : xs.length ≤ 3
  · rw [List.drop_eq_nil_of_le (by omega), List.drop_eq_nil_of_le h]; simp
  · rw [show min 3 xs.length = 3 by omega, List.take_of_length_le (by rw [List.length_drop]; omega)]
open Classical in
noncomputable def nv (a b : Int) (z : Str) : V := if NumIn z a b then .int (val z) else .non
theorem nv_dg {a b n : Int} (ha : 0 ≤ a) (hb : b ≤ 1000) (h1 : a ≤ n) (h2 : n ≤ b) : nv a b (dg n) = .int n := by
  unfold nv
  rw [if_pos ⟨n, h1, h2, rfl⟩, (can_fig (by omega) (by omega)).2]
theorem nv_non {a b : Int} {z : Str} (h : ¬ NumIn z a b) : nv a b z = .non := by unfold nv; rw [if_neg h]
theorem nv_flat (a b : Int) (zs : List Str) : (zs.map (nv a b)).all flatV = true := by
  rw [List.all_eq_true]
  intro v hv
  obtain ⟨z, _, rfl⟩ := List.mem_map.mp hv
  unfold nv
  split <;> rfl
theorem nv_ints {a b : Int} (ha : 0 ≤ a) (hb : b ≤ 1000) : ∀ {zs : List Str}, inV .non (zs.map (nv a b)) = false → ∃ ks : List Int, zs = ks.map dg ∧ zs.map (nv a b) = ks.map V.int ∧ ∀ k ∈ ks, a ≤ k ∧ k ≤ b
  | [], _ => ⟨[], rfl, rfl, fun _ h => by cases h⟩
  | z :: r, h => by
    have h' : (eqV (nv a b z) .non || inV .non (r.map (nv a b))) = false := h
    rw [Bool.or_eq_false_iff] at h'
    obtain ⟨ks, e1, e2, e3⟩ := nv_ints ha hb h'.2
    by_cases hz : NumIn z a b
    · obtain ⟨n, h1, h2, rfl⟩ := hz
      refine ⟨n :: ks, by rw [e1]; rfl, by rw [List.map_cons, nv_dg ha hb h1 h2, e2]; rfl, fun k hk => ?_⟩
      rcases List.mem_cons.mp hk with rfl | hk
      · exact ⟨h1, h2⟩
      · exact e3 k hk
    · rw [nv_non hz] at h'
      exact absurd h'.1 (by decide)
theorem inV_app (x : V) (xs ys : List V) : inV x (xs ++ ys) = (inV x xs || inV x ys) := by unfold inV; rw [List.any_append]
theorem inV_non_ints (ks : List Int) : inV .non (ks.map V.int) = false := by
  unfold inV
  rw [List.any_map, List.any_eq_false]
  intro k _
  exact Bool.false_ne_true
theorem dg_inj {a b : Int} (a0 : 0 ≤ a) (a1 : a ≤ 1000) (b0 : 0 ≤ b) (b1 : b ≤ 1000) (e : dg a = dg b) : a = b := by
  rw [← (can_fig a0 a1).2, ← (can_fig b0 b1).2, e]
theorem dgs_inj : ∀ {ks ms : List Int}, (∀ k ∈ ks, 0 ≤ k ∧ k ≤ 1000) → (∀ k ∈ ms, 0 ≤ k ∧ k ≤ 1000) → ks.map dg = ms.map dg → ks = ms
  | [], [], _, _, _ => rfl
  | [], m :: ms, _, _, e => by cases e
  | k :: ks, [], _, _, e => by cases e
  | k :: ks, m :: ms, h1, h2, e => by
    obtain ⟨e1, e2⟩ := List.cons.inj e
    have a := h1 k (List.mem_cons_self ..)
    have b := h2 m (List.mem_cons_self ..)
    rw [dg_inj a.1 a.2 b.1 b.2 e1, dgs_inj (fun k hk => h1 k (List.mem_cons_of_mem _ hk)) (fun k hk => h2 k (List.mem_cons_of_mem _ hk)) e2]
theorem line_b {l : Str} {n : Int} (h : Txt.split l ⟨#[32]⟩ = [wB, dg n]) : l = bW n := by
  have h2 := join_codes 32 (Txt.split l ⟨#[32]⟩)
  rw [StrLaws.join_split, h] at h2
  refine codes_inj (h2.trans ?_)
  rw [codes_bW, show codes ("bridge " : Str) = codes wB ++ [32] by decide]
  simp [jl]
theorem line_t {l : Str} {t : Tie} (h : Txt.split l ⟨#[32]⟩ = [wT, dg t.1, dg t.2.1, dg t.2.2]) : l = tW t := by
  have h2 := join_codes 32 (Txt.split l ⟨#[32]⟩)
  rw [StrLaws.join_split, h] at h2
  refine codes_inj (h2.trans ?_)
  rw [codes_tW, show codes ("tie " : Str) = codes wT ++ [32] by decide]
  simp [jl]
theorem map_fix {f : Tie → Tie} : ∀ {l : List Tie}, l.map f = l → ∀ t ∈ l, f t = t
  | [], _, t, h => by cases h
  | a :: r, e, t, h => by
    rw [List.map_cons] at e
    obtain ⟨e1, e2⟩ := List.cons.inj e
    rcases List.mem_cons.mp h with rfl | h
    · exact e1
    · exact map_fix e2 t h
theorem net_up {bs : List Int} {ts : List Tie} (h : NetOk bs ts) : bs.Pairwise (· < ·) := by
  have h1 := sortI_le bs
  rw [h.so] at h1
  exact (h1.and h.br.nd).imp (fun ⟨a, b⟩ => by omega)
theorem net_lt {bs : List Int} {ts : List Tie} (h : NetOk bs ts) {t : Tie} (ht : t ∈ ts) : t.1 < t.2.1 := by
  have e : mn t.1 t.2.1 = t.1 := congrArg Prod.fst (map_fix h.lo t ht)
  have ne := (h.ti.each t ht).ne
  unfold mn at e
  split at e <;> omega
theorem loT_lt {t : Tie} (h : t.1 < t.2.1) : loT t = t := by
  unfold loT mn mx
  rw [if_neg (by omega), if_pos (by omega)]
theorem take_lt {l : List Int} {i : Nat} {n m : Int} (h : l.Pairwise (· < ·)) (hn : l[i]? = some n) (hm : m ∈ l.take i) : m < n := by
  obtain ⟨hi, e⟩ := List.getElem?_eq_some_iff.mp hn
  have e2 : l = l.take i ++ n :: l.drop (i + 1) := by
    have := List.take_append_drop i l
    rw [List.drop_eq_getElem_cons hi, e] at this
    exact this.symm
  rw [e2] at h
  exact (List.pairwise_append.mp h).2.2 m hm n (by simp)
/-- the line that may stand next -/
def OkL (ns : List Int) (ts : List Tie) (l : Str) : Prop := (∃ n, l = bW n ∧ 0 ≤ n ∧ n ≤ 999 ∧ ts = [] ∧ ∀ m ∈ ns, m < n) ∨ (∃ t, l = tW t ∧ TieOk ns t ∧ t.1 < t.2.1)
structure Gd (z : Str) (ls : List Str) (ns : List Int) (ts : List Tie) (i : Nat) : Prop where
  ln : ∀ bs us, NetOk bs us → z = txt bs us → ls = lns bs us
  tk : ls.take i = lns ns ts
  up : ns.Pairwise (· < ·)
  rg : ∀ n ∈ ns, 0 ≤ n ∧ n ≤ 999
  ti : ∀ t ∈ ts, TieOk ns t ∧ t.1 < t.2.1
  un : ∀ bs us, NetOk bs us → z = txt bs us → ns = bs.take i ∧ ts = us.take (i - bs.length)
theorem Gd.get {z l : Str} {ls : List Str} {ns bs : List Int} {ts us : List Tie} {i : Nat} (g : Gd z ls ns ts i) (N : NetOk bs us) (e : z = txt bs us) (hx : ls[i]? = some l) : (∃ n, l = bW n ∧ bs[i]? = some n ∧ i < bs.length) ∨ (∃ t, l = tW t ∧ us[i - bs.length]? = some t ∧ bs.length ≤ i) := by
  have hx' : ((lns bs us).map V.str)[i]? = some (.str l) := by rw [List.getElem?_map, ← g.ln bs us N e, hx]; rfl
  rcases lns_get hx' with ⟨n, en, hn, hi⟩ | ⟨t, et, ht, hi⟩
  · exact .inl ⟨n, V.str.inj en, hn, hi⟩
  · exact .inr ⟨t, V.str.inj et, ht, hi⟩
theorem Gd.okl {z l : Str} {ls : List Str} {ns : List Int} {ts : List Tie} {i : Nat} (g : Gd z ls ns ts i) (hx : ls[i]? = some l) (h : IsTxt z) : OkL ns ts l := by
  obtain ⟨bs, us, N, e⟩ := h
  obtain ⟨e1, e2⟩ := g.un bs us N e
  rcases g.get N e hx with ⟨n, en, hn, hi⟩ | ⟨t, et, ht, hi⟩
  · have mem := List.mem_of_getElem? hn
    have rg := N.br.rng n mem
    refine .inl ⟨n, en, rg.1, rg.2, ?_, fun m hm => ?_⟩
    · rw [e2, show i - bs.length = 0 by omega]; rfl
    · rw [e1] at hm
      exact take_lt (net_up N) hn hm
  · have mem := List.mem_of_getElem? ht
    have en : ns = bs := by rw [e1, List.take_of_length_le hi]
    exact .inr ⟨t, et, by rw [en]; exact N.ti.each t mem, net_lt N mem⟩
theorem bt_ne {n : Int} {t : Tie} (h : FigOk n) (g : TFig t) : bW n ≠ tW t := by
  intro e
  have e := congrArg (fun z => Txt.split z ⟨#[32]⟩) e
  simp only [split_bW h, split_tW g] at e
  exact absurd (congrArg List.length e) (by simp)
theorem Gd.addB {z : Str} {ls : List Str} {ns : List Int} {i : Nat} {n : Int} (g : Gd z ls ns [] i) (hx : ls[i]? = some (bW n)) (h0 : 0 ≤ n) (h9 : n ≤ 999) (up : ∀ m ∈ ns, m < n) : Gd z ls (ns ++ [n]) [] (i + 1) := by
  refine ⟨g.ln, ?_, List.pairwise_append.mpr ⟨g.up, List.pairwise_singleton _ _, fun a ha b hb => by rw [List.mem_singleton.mp hb]; exact up a ha⟩, fun m hm => ?_, fun t ht => (by cases ht), fun bs us N e => ?_⟩
  · rw [List.take_add_one, hx, g.tk]
    simp [lns]
  · rcases List.mem_append.mp hm with hm | hm
    · exact g.rg m hm
    · rw [List.mem_singleton.mp hm]; exact ⟨h0, h9⟩
  · obtain ⟨e1, e2⟩ := g.un bs us N e
    have fn : FigOk n := fig_ok h0 (by omega)
    rcases g.get N e hx with ⟨m, em, hm, hi⟩ | ⟨t, et, ht, hi⟩
    · have mem := List.mem_of_getElem? hm
      have em := congrArg (fun z => Txt.split z ⟨#[32]⟩) em
      simp only [split_bW fn, split_bW (N.bfig mem)] at em
      have rg := N.br.rng m mem
      have enm : n = m := dg_inj h0 (by omega) rg.1 (by omega) (List.cons.inj (List.cons.inj em).2).1
      rw [enm, e1, List.take_add_one, hm]
      exact ⟨rfl, by rw [show i + 1 - bs.length = 0 by omega]; rfl⟩
    · exact absurd et (bt_ne fn (N.tfig (List.mem_of_getElem? ht)))
theorem Gd.addT {z : Str} {ls : List Str} {ns : List Int} {ts : List Tie} {i : Nat} {t : Tie} (g : Gd z ls ns ts i) (hx : ls[i]? = some (tW t)) (ok : TieOk ns t) (lt : t.1 < t.2.1) : Gd z ls ns (ts ++ [t]) (i + 1) := by
  have ra := g.rg _ ok.a
  have rb := g.rg _ ok.b
  have lo := ok.lo
  have hi := ok.hi
  have ft : TFig t := ⟨fig_ok ra.1 (by omega), fig_ok rb.1 (by omega), fig_ok (by omega) hi⟩
  refine ⟨g.ln, ?_, g.up, g.rg, fun u hu => ?_, fun bs us N e => ?_⟩
  · rw [List.take_add_one, hx, g.tk]
    simp [lns]
  · rcases List.mem_append.mp hu with hu | hu
    · exact g.ti u hu
    · rw [List.mem_singleton.mp hu]; exact ⟨ok, lt⟩
  · obtain ⟨e1, e2⟩ := g.un bs us N e
    rcases g.get N e hx with ⟨m, em, hm, hi⟩ | ⟨u, eu, hu, hi⟩
    · exact absurd em.symm (bt_ne (N.bfig (List.mem_of_getElem? hm)) ft)
    · have mem := List.mem_of_getElem? hu
      have eu := congrArg (fun z => Txt.split z ⟨#[32]⟩) eu
      simp only [split_tW ft, split_tW (N.tfig mem)] at eu
      obtain ⟨⟨a0, a1⟩, ⟨b0, b1⟩, ⟨c0, c1⟩⟩ := tnum N mem
      have q1 := (List.cons.inj eu).2
      have q2 := (List.cons.inj q1).2
      have q3 := (List.cons.inj q2).2
      have etu : t = u := Prod.ext (dg_inj ra.1 (by omega) a0 a1 (List.cons.inj q1).1) (Prod.ext (dg_inj rb.1 (by omega) b0 b1 (List.cons.inj q2).1) (dg_inj (by omega) (by omega) c0 c1 (List.cons.inj q3).1))
      refine ⟨by rw [e1, List.take_of_length_le hi, List.take_of_length_le (by omega)], ?_⟩
      rw [show i + 1 - bs.length = (i - bs.length) + 1 by omega, List.take_add_one (i := i - bs.length), hu, etu, ← e2]
      rfl
theorem Gd.len {z : Str} {ls : List Str} {ns : List Int} {ts : List Tie} {i : Nat} (g : Gd z ls ns ts i) (hi : i ≤ ls.length) : ns.length + ts.length = i := by
  have e := congrArg List.length g.tk
  unfold lns at e
  rw [List.length_take, List.length_append, List.length_map, List.length_map] at e
  omega
theorem Gd.net {z : Str} {ls : List Str} {ns : List Int} {ts : List Tie} {i : Nat} (g : Gd z ls ns ts i) (h1 : 1 ≤ ns.length) (h10 : ns.length ≤ 10) (h16 : ts.length ≤ 16) : NetOk ns ts := by
  refine ⟨⟨h1, h10, g.rg, g.up.imp (fun h => by omega)⟩, ⟨h16, fun t ht => (g.ti t ht).1⟩, (sortI_uniq (List.Perm.refl _) (g.up.imp (fun h => by omega))).symm, ?_⟩
  rw [List.map_congr_left (fun t ht => loT_lt (g.ti t ht).2)]
  simp
theorem Gd.end {z : Str} {ls : List Str} {ns : List Int} {ts : List Tie} (g : Gd z ls ns ts ls.length) (h : IsTxt z) : 1 ≤ ns.length ∧ ns.length ≤ 10 ∧ ts.length ≤ 16 := by
  obtain ⟨bs, us, N, e⟩ := h
  obtain ⟨e1, e2⟩ := g.un bs us N e
  have el := congrArg List.length (g.ln bs us N e)
  unfold lns at el
  rw [List.length_append, List.length_map, List.length_map] at el
  have h1 := N.br.one
  have h2 := N.br.ten
  have h3 := N.ti.few
  rw [e1, e2, List.length_take, List.length_take]
  omega
def OkK (ns : List Int) (ts : List Tie) (w0 : Str) (ks : List Int) : Prop := (w0 = wB ∧ ts = [] ∧ ∃ n, ks = [n] ∧ ∀ m ∈ ns, m < n) ∨ (w0 = wT ∧ ∃ t : Tie, ks = [t.1, t.2.1, t.2.2] ∧ TieOk ns t ∧ t.1 < t.2.1)
theorem OkL.ks {ns : List Int} {ts : List Tie} {l w0 : Str} {ks : List Int} (h : OkL ns ts l) (ew : Txt.split l ⟨#[32]⟩ = w0 :: ks.map dg) (rk : ∀ k ∈ ks, 0 ≤ k ∧ k ≤ 1000) (rg : ∀ n ∈ ns, 0 ≤ n ∧ n ≤ 999) : OkK ns ts w0 ks := by
  rcases h with ⟨n, rfl, a0, a9, et, up⟩ | ⟨t, rfl, ok, lt⟩
  · rw [split_bW (fig_ok a0 (by omega))] at ew
    obtain ⟨e1, e2⟩ := List.cons.inj ew
    refine .inl ⟨e1.symm, et, n, ?_, up⟩
    exact dgs_inj rk (fun k hk => by rw [List.mem_singleton.mp hk]; exact ⟨a0, by omega⟩) e2.symm
  · have ra := rg _ ok.a
    have rb := rg _ ok.b
    have lo := ok.lo
    have hi := ok.hi
    rw [split_tW ⟨fig_ok ra.1 (by omega), fig_ok rb.1 (by omega), fig_ok (by omega) hi⟩] at ew
    obtain ⟨e1, e2⟩ := List.cons.inj ew
    refine .inr ⟨e1.symm, t, ?_, ok, lt⟩
    refine dgs_inj rk (fun k hk => ?_) e2.symm
    simp only [List.mem_cons, List.not_mem_nil, or_false] at hk
    rcases hk with rfl | rfl | rfl <;> exact ⟨by omega, by omega⟩
theorem OkL.int {ns : List Int} {ts : List Tie} {l w0 : Str} {wr : List Str} (h : OkL ns ts l) (ew : Txt.split l ⟨#[32]⟩ = w0 :: wr) (rg : ∀ n ∈ ns, 0 ≤ n ∧ n ≤ 999) : inV .non ((wr.take 2).map (nv 0 999) ++ (wr.drop 2).map (nv 1 1000)) = false := by
  rcases h with ⟨n, rfl, a0, a9, et, up⟩ | ⟨t, rfl, ok, lt⟩
  · rw [split_bW (fig_ok a0 (by omega))] at ew
    rw [← (List.cons.inj ew).2]
    show inV .non [nv 0 999 (dg n)] = false
    rw [nv_dg (by decide) (by decide) a0 a9]
    exact inV_non_ints [n]
  · have ra := rg _ ok.a
    have rb := rg _ ok.b
    have lo := ok.lo
    have hi := ok.hi
    rw [split_tW ⟨fig_ok ra.1 (by omega), fig_ok rb.1 (by omega), fig_ok (by omega) hi⟩] at ew
    rw [← (List.cons.inj ew).2]
    show inV .non [nv 0 999 (dg t.1), nv 0 999 (dg t.2.1), nv 1 1000 (dg t.2.2)] = false
    rw [nv_dg (by decide) (by decide) ra.1 ra.2, nv_dg (by decide) (by decide) rb.1 rb.2, nv_dg (by decide) (by decide) lo hi]
    exact inV_non_ints [t.1, t.2.1, t.2.2]
theorem new_heap {H : Hp} {p : Addr} (h : H p = none) (o : HO) : ∃ H', H' = upd H p o ∧ Same H H' ∧ H' p = some o := ⟨_, rfl, same_new h o, upd_same⟩
end
end My

set_option Elab.async false
set_option linter.all false
set_option maxRecDepth 100000
set_option maxHeartbeats 4000000

namespace My
open PySem L2
section
variable {P : Program} {w : World} {K : PySem.W.Frag} {mg : Str → Option Value} {base : Heap} {f : Addr} {fd : FuncData}
/-! ### _law_read -/
def sp_lread (K : PySem.W.Frag) : Sp := fun vs H Q _ => ∃ z, vs = [.str z] ∧ z.length ≤ 900000 ∧ (∀ bs ts, NetOk bs ts → z = txt bs ts → ∀ v H', Same H H' → IsD K H' v (netD bs ts) → Q v H') ∧ (¬ IsTxt z → ∀ H', Same H H' → Q .non H')
theorem ok_law_read (F : Fun K "_law_read" "_law_read" s_law_read f fd) (T : Bl mg) (D_law_number : Dfn P w K mg base 1 "_law_number" ["word", "least", "most"] sp_number) : FnOk P w K mg base CX0 2 f fd ["text"] (sp_lread K) := by
  refine F.ok sc_law_read (fun vs H Q E h => ?_) (fun cdv A outer s H vs Q E hr h => ?_)
  · obtain ⟨z, rfl, _⟩ := h
    rfl
  obtain ⟨z, rfl, hz9, q, qn⟩ := h
  refine ⟨_, (pss_cons (ps_set (i := 1) sc_law_read.nd rfl (Or.inl rfl) (pe_lst pa_nil))
      (pss_cons (ps_set (i := 2) sc_law_read.nd rfl (Or.inl rfl) (pe_lst pa_nil))
      (pss_cons (ps_if (PW.pt (pw_or (pt_cmpR op_eq (pv 0) pe_str (nomark _)) (pw_or1 (pt_cmpR op_ne (pe_ix ix_str (pv 0) (pe_un un_neg pe_int) (fun _ _ => rfl)) pe_str (nomark _))))) (pss_one (ps_ret pe_non)) pss_nil)
      (pss_cons (ps_for PassesOwn.never rfl (pi_list (pe_bm PySem.F.plainAttrs_str PySem.F.slot_str_split PySem.F.type_str_split mt_split (pe_slice sl_str (pv 0) po_none (po_some (pe_un un_neg pe_int))) (pa_cons pe_str pa_nil))) (pg_name (i := 3) sc_law_read.nd rfl (Or.inl rfl)) (pss_cons (ps_set (i := 4) sc_law_read.nd rfl (Or.inl rfl) (pe_bm PySem.F.plainAttrs_str PySem.F.slot_str_split PySem.F.type_str_split mt_split (pv 3) (pa_cons pe_str pa_nil)))
      (pss_cons (ps_lcomp (i := 5) sc_law_read.nd rfl (Or.inl rfl) rfl (caps := []) (blk_ok (sc := defScope s_law_read) (N := ["text", "bridges", "ties", "line", "words", "numbers"]) rfl rfl rfl (by decide +kernel)) (pi_list (pe_slice sl_list (pv 4) (po_some pe_int) (po_some pe_int))) (fun _ _ _ _ _ => pifs_nil) (fun _ _ _ _ _ => (pe_def D_law_number hr (by omega) rfl (pa_cons (pv 0) (pa_cons pe_int (pa_cons pe_int pa_nil))))))
      (pss_cons (ps_set (i := 5) sc_law_read.nd rfl (Or.inl rfl) (pe_op op_cat (pv 5) (pe_lcomp rfl (caps := []) (blk_ok (sc := defScope s_law_read) (N := ["text", "bridges", "ties", "line", "words", "numbers"]) rfl rfl rfl (by decide +kernel)) (pi_list (pe_slice sl_list (pv 4) (po_some pe_int) po_none)) (fun _ _ _ _ _ => pifs_nil) (fun _ _ _ _ _ => (pe_def D_law_number hr (by omega) rfl (pa_cons (pv 0) (pa_cons pe_int (pa_cons pe_int pa_nil))))))))
      (pss_cons (ps_if (pt_cmpR op_in_seq pe_non (pv 5) (by rfl)) (pss_one (ps_ret pe_non)) pss_nil)
      (pss_one (ps_if (PW.pt (pw_and (pt_cmpR op_eq (pe_ix ix_list (pv 4) pe_int (fun _ _ => rfl)) pe_str (nomark _)) (pw_and (pt_cmpR op_eq (pe_callB call_len (by rfl) T.len (by kernel_rfl) (pa_cons (pv 4) pa_nil)) pe_int (nomark _)) (pw_and (pt_cmpR (op_eqE hr.units) (pv 2) (pe_lst pa_nil) (nomark _)) (pw_and1 (PW.pt (pw_or (pt_cmpR (op_eqE hr.units) (pv 1) (pe_lst pa_nil) (nomark _)) (pw_or1 (pt_cmpR op_lt (pe_ix ix_list (pv 1) (pe_un un_neg pe_int) (fun _ _ => rfl)) (pe_ix ix_list (pv 5) pe_int (fun _ _ => rfl)) (nomark _)))))))))) (pss_one (ps_expr (pe_bm PySem.F.plainAttrs_list PySem.F.slot_list_append PySem.F.type_list_append mt_append (pv 1) (pa_cons (pe_ix ix_list (pv 5) pe_int (fun _ _ => rfl)) pa_nil)))) (pss_one (ps_if (PW.pt (pw_or (pt_cmpR op_ne (pe_ix ix_list (pv 4) pe_int (fun _ _ => rfl)) pe_str (nomark _)) (pw_or (pt_cmpR op_ne (pe_callB call_len (by rfl) T.len (by kernel_rfl) (pa_cons (pv 4) pa_nil)) pe_int (nomark _)) (pw_or1 (pt_not (pt_cmpR op_lt (pe_ix ix_list (pv 5) pe_int (fun _ _ => rfl)) (pe_ix ix_list (pv 5) pe_int (fun _ _ => rfl)) (nomark _))))))) (pss_one (ps_ret pe_non)) (pss_one (ps_if (PW.pt (pw_or (pt_cmpR op_notIn_seq (pe_ix ix_list (pv 5) pe_int (fun _ _ => rfl)) (pv 1) (by rfl)) (pw_or1 (pt_cmpR op_notIn_seq (pe_ix ix_list (pv 5) pe_int (fun _ _ => rfl)) (pv 1) (by rfl))))) (pss_one (ps_ret pe_non)) (pss_one (ps_expr (pe_bm PySem.F.plainAttrs_list PySem.F.slot_list_append PySem.F.type_list_append mt_append (pv 2) (pa_cons (pe_callTy call_tuple_of (by rfl) T.tuple (by kernel_rfl) (pa_cons (pv 5) pa_nil)) pa_nil)))))))))))))))
      (pss_cons (ps_if (PW.pt (pw_or (pt_not (pt_chain op_le op_le pe_int (pe_callB call_len (by rfl) T.len (by kernel_rfl) (pa_cons (pv 1) pa_nil)) pe_int)) (pw_or1 (pt_cmpR op_gt (pe_callB call_len (by rfl) T.len (by kernel_rfl) (pa_cons (pv 2) pa_nil)) pe_int (nomark _))))) (pss_one (ps_ret pe_non)) pss_nil)
      (pss_one (ps_ret (pe_tup (pa_cons (pe_callTy call_tuple_of (by rfl) T.tuple (by kernel_rfl) (pa_cons (pv 1) pa_nil)) (pa_cons (pe_callTy call_tuple_of (by rfl) T.tuple (by kernel_rfl) (pa_cons (pv 2) pa_nil)) pa_nil)))))))))), ?_⟩
  have c32 : (" " : Str) = ⟨#[32]⟩ := by decide
  have c10 : ("\n" : Str) = ⟨#[10]⟩ := by decide
  have big : (1000002 : Nat) ≤ sizeLine := by decide
  have l0 : (0 : Nat) ≤ sizeLine := Nat.zero_le _
  refine ⟨l0, fun pb hb => ⟨l0, fun pt ht => ?_⟩⟩
  have s1 := same_new hb (.lst [])
  have s2 := same_new ht (.lst [])
  have s12 := s1.trans s2
  refine ⟨_, rfl, rfl, _, rfl, ?_⟩
  by_cases h0 : z = ("" : Str)
  · refine ifT (decide_eq_true (congrArg V.str h0)) (qn (fun ⟨bs, us, N, e⟩ => ?_) _ s12)
    have l := congrArg List.length (txt_last N)
    rw [← e, h0, List.length_append] at l
    exact absurd l (by simp [show codes ("" : Str) = [] by decide])
  refine ifF (decide_eq_false fun e => h0 (V.str.inj e)) ?_
  have hne : codes z ≠ [] := fun e => h0 (codes_inj (e.trans (by decide)))
  obtain ⟨y, c, hy⟩ : ∃ y c, codes z = y ++ [c] := ⟨_, _, (List.dropLast_concat_getLast hne).symm⟩
  refine ⟨_, rfl, 1, rfl, z, -1, c, rfl, rfl, by omega, ?_, rfl, _, rfl, ?_⟩
  · show atI (codes z) (-1) = some c
    rw [hy]
    exact at_last _ _
  by_cases hc : c = 10
  case neg =>
    refine ifT ?_ (qn (fun ⟨bs, us, N, e⟩ => hc ?_) _ s12)
    · have : ¬ V.str ⟨#[c]⟩ = V.str ("\n" : Str) := fun e => hc (by
        have e := congrArg codes (V.str.inj e)
        exact (List.cons.inj (e.trans (show codes ("\n" : Str) = [10] by decide))).1)
      exact congrArg not (decide_eq_false this)
    · have e2 := txt_last N
      rw [← e, hy] at e2
      exact (List.cons.inj (List.append_inj' e2 rfl).2).1
  subst hc
  refine ifF (by have : V.str ⟨#[10]⟩ = V.str ("\n" : Str) := congrArg V.str c10.symm; exact congrArg not (decide_eq_true this)) ?_
  have cy : codes (cutS z none (some (-1))) = y := cutS_last hy
  have yl := cutS_len z none (some (-1))
  have hls : ∀ bs us, NetOk bs us → z = txt bs us → Txt.split (cutS z none (some (-1))) ⟨#[10]⟩ = lns bs us := fun bs us N e => by
    have e2 := txt_last N
    rw [← e, hy] at e2
    exact split_eq (lns_ne N) (lns_no N) (cy.trans (List.append_inj' e2 rfl).1)
  refine ⟨_, rfl, 1, rfl, -1, rfl, z, rfl, by omega, rfl, cutS z none (some (-1)), 10, rfl, congrArg (fun z => [V.str z]) c10, by omega, fun pl hl => ?_⟩
  have few := split_few (cutS z none (some (-1))) 10
  have part : ∀ l ∈ Txt.split (cutS z none (some (-1))) ⟨#[10]⟩, l.length ≤ z.length := fun l hl => Nat.le_trans (split_part (c := 10) hl) yl
  have lne := split_ne (cutS z none (some (-1))) 10
  have lj : codes (cutS z none (some (-1))) = jl 10 ((Txt.split (cutS z none (some (-1))) ⟨#[10]⟩).map codes) := by
    have := join_codes 10 (Txt.split (cutS z none (some (-1))) ⟨#[10]⟩)
    rw [StrLaws.join_split] at this
    exact this
  generalize Txt.split (cutS z none (some (-1))) ⟨#[10]⟩ = ls at hls few part lne lj ⊢
  have s3 := same_new hl (.lst (ls.map V.str))
  have s13 := s12.trans s3
  have s23 := s2.trans s3
  have t0 : H pt = none := by
    cases e : H pt with
    | none => rfl
    | some o => rw [s1 _ _ e] at ht; cases ht
  have bt : pt ≠ pb := (ne_of_none upd_same ht).symm
  have nb : pl ≠ pb := (ne_of_none (s2 _ _ upd_same) hl).symm
  have nt : pl ≠ pt := (ne_of_none upd_same hl).symm
  have fewl : ls.length ≤ 900001 := by omega
  refine ⟨pl, rfl, ⟨_, SqL.of upd_same⟩, for_list (K := K) (a := pl) (xs := ls.map V.str) (fun i σ H' => i ≤ ls.length ∧ ∃ v3 v4 v5 ns ts xs, σ = [some (.str z), some (.ref pb), some (.ref pt), v3, v4, v5] ∧ Rn K H H' pb pt pl ls ns ts xs i ∧ Gd z ls ns ts i)
    ⟨Nat.zero_le _, none, none, none, [], [], [], rfl, ⟨s13, hb, t0, bt, nb, nt, s23 _ _ upd_same, s3 _ _ upd_same, upd_same, .nil, Nat.le_refl _, Nat.le_refl _⟩, ⟨hls, rfl, List.Pairwise.nil, fun _ h => (by cases h), fun _ h => (by cases h), fun bs us N e => ⟨rfl, by rw [Nat.zero_sub]; rfl⟩⟩⟩ (fun i σ H' _ h => ?_) ?_ ?_⟩
  · obtain ⟨_, _, _, _, _, _, _, _, r, _⟩ := h
    exact SqL.of r.ll
  · rintro i x σ H5 hx ⟨hi, v3, v4, v5, ns, ts, xs, rfl, r5, g5⟩
    obtain ⟨l, rfl, hl'⟩ := get_str hx
    have ll := part l (List.mem_of_getElem? hl')
    have hi' : i < ls.length := (List.getElem?_eq_some_iff.mp hl').1
    have n9 := r5.nl
    have t9 := r5.tl
    have xl : xs.length = ts.length := by rw [r5.ds.length, List.length_map]
    refine ⟨_, rfl, rfl, l, 32, rfl, congrArg (fun z => [V.str z]) c32, by omega, fun p1 h1 => ?_⟩
    obtain ⟨w0, wr, ew⟩ : ∃ w0 wr, Txt.split l ⟨#[32]⟩ = w0 :: wr := by
      cases e : Txt.split l ⟨#[32]⟩ with
      | nil => exact absurd e (split_ne l 32)
      | cons a b => exact ⟨a, b, rfl⟩
    have fw := split_few l 32
    have pw' : ∀ u ∈ wr, u.length ≤ l.length := fun u hu => split_part (c := 32) (by rw [ew]; exact List.mem_cons_of_mem _ hu)
    rw [ew] at fw ⊢
    have fw : wr.length ≤ 900000 := by simp at fw; omega
    have u1 := same_new h1 (.lst ((w0 :: wr).map V.str))
    refine ⟨_, rfl, 1, rfl, 3, rfl, p1, _, rfl, SqL.of upd_same, fun p2 h2 => ?_⟩
    have ec1 : cutV ((w0 :: wr).map V.str) (some 1) (some 3) = (wr.take 2).map V.str := (cutV_13 _ _).trans List.map_take.symm
    rw [ec1]
    have u2 := same_new h2 (.lst ((wr.take 2).map V.str))
    have lt2 : ((wr.take 2).map V.str).length ≤ 900000 := by rw [List.length_map, List.length_take]; omega
    refine ⟨p2, rfl, ⟨_, SqL.of upd_same⟩, comp_list0 (xs := (wr.take 2).map V.str) (fun i ys H' => Same _ H' ∧ ys = ((wr.take 2).take i).map (nv 0 999)) ⟨Same.refl _, rfl⟩ (by omega) (fun i ys H' _ h => ?_) (fun i x ys H' hx h => ?_) (fun ys H' h => ?_)⟩
    · obtain ⟨g, rfl⟩ := h
      exact ⟨g.seq (SqL.of upd_same), by rw [List.length_map, List.length_take]; exact Nat.min_le_left _ _⟩
    · obtain ⟨g, rfl⟩ := h
      obtain ⟨u, rfl, hu⟩ := get_str hx
      have ul := pw' u (List.mem_of_mem_take (List.mem_of_getElem? hu))
      refine ⟨_, rfl, u, 0, 999, rfl, by decide, by decide, by omega, fun n H' s' a b e => ⟨g.trans s', ?_⟩, fun H' s' nn => ⟨g.trans s', ?_⟩⟩
      · rw [List.take_add_one (i := i), hu, List.map_append, e]
        show _ = _ ++ [nv 0 999 (dg n)]
        rw [nv_dg (by decide) (by decide) a b]
      · rw [List.take_add_one (i := i), hu, List.map_append]
        show _ = _ ++ [nv 0 999 u]
        rw [nv_non nn]
    obtain ⟨g3, rfl⟩ := h
    intro p3 h3
    rw [List.length_map, List.take_length]
    have u3 := same_new h3 (.lst ((wr.take 2).map (nv 0 999)))
    have u13 := u1.trans (u2.trans (g3.trans u3))
    refine ⟨_, rfl, _, rfl, 3, rfl, p1, (w0 :: wr).map V.str, rfl, SqL.of (u3 _ _ (g3 _ _ (u2 _ _ upd_same))), fun p4 h4 => ?_⟩
    have ec3 : cutV ((w0 :: wr).map V.str) (some 3) none = (wr.drop 2).map V.str := (cutV_3 _).trans List.map_drop.symm
    rw [ec3]
    have u4 := same_new h4 (.lst ((wr.drop 2).map V.str))
    have ld2 : ((wr.drop 2).map V.str).length ≤ 900000 := by rw [List.length_map, List.length_drop]; omega
    refine ⟨p4, rfl, ⟨_, SqL.of upd_same⟩, comp_list0 (xs := (wr.drop 2).map V.str) (fun i ys H' => Same _ H' ∧ ys = ((wr.drop 2).take i).map (nv 1 1000)) ⟨Same.refl _, rfl⟩ (by omega) (fun i ys H' _ h => ?_) (fun i x ys H' hx h => ?_) (fun ys H9 h => ?_)⟩
    · obtain ⟨g, rfl⟩ := h
      exact ⟨g.seq (SqL.of upd_same), by rw [List.length_map, List.length_take]; exact Nat.min_le_left _ _⟩
    · obtain ⟨g, rfl⟩ := h
      obtain ⟨u, rfl, hu⟩ := get_str hx
      have ul := pw' u (List.mem_of_mem_drop (List.mem_of_getElem? hu))
      refine ⟨_, rfl, u, 1, 1000, rfl, by decide, by decide, by omega, fun n H' s' a b e => ⟨g.trans s', ?_⟩, fun H' s' nn => ⟨g.trans s', ?_⟩⟩
      · rw [List.take_add_one (i := i), hu, List.map_append, e]
        show _ = _ ++ [nv 1 1000 (dg n)]
        rw [nv_dg (by decide) (by decide) a b]
      · rw [List.take_add_one (i := i), hu, List.map_append]
        show _ = _ ++ [nv 1 1000 u]
        rw [nv_non nn]
    obtain ⟨g5', rfl⟩ := h
    intro p5 h5
    rw [List.length_map, List.take_length]
    have u5 := same_new h5 (.lst ((wr.drop 2).map (nv 1 1000)))
    have u45 := u4.trans (g5'.trans u5)
    refine ⟨p3, p5, _, _, rfl, rfl, u45 _ _ upd_same, upd_same, by rw [List.length_map, List.length_map, List.length_take, List.length_drop]; omega, fun p6 h6 => ?_⟩
    obtain ⟨HA, eA, u6, q6⟩ := new_heap h6 (.lst ((wr.take 2).map (nv 0 999) ++ (wr.drop 2).map (nv 1 1000)))
    rw [← eA]
    have u16 := u13.trans (u45.trans u6)
    have q1 := (u2.trans (g3.trans (u3.trans (u45.trans u6)))) _ _ upd_same
    have r6 := r5.same u16
    have okl : IsTxt z → OkL ns ts l := fun h => g5.okl hl' h
    refine ⟨_, rfl, p6, _, rfl, .inl (SqL.of q6), rfl, by rw [List.all_append, nv_flat, nv_flat]; rfl, _, rfl, ?_⟩
    by_cases hno : inV .non ((wr.take 2).map (nv 0 999) ++ (wr.drop 2).map (nv 1 1000)) = true
    · refine ifT hno (qn (fun hT => ?_) _ r6.sm)
      rw [(okl hT).int ew g5.rg] at hno
      cases hno
    have hno' : inV .non ((wr.take 2).map (nv 0 999) ++ (wr.drop 2).map (nv 1 1000)) = false := Bool.eq_false_iff.mpr hno
    refine ifF hno' ?_
    rw [inV_app, Bool.or_eq_false_iff] at hno'
    obtain ⟨ka, ea, va, ra⟩ := nv_ints (by decide) (by decide) hno'.1
    obtain ⟨kb, eb, vb, rb⟩ := nv_ints (by decide) (by decide) hno'.2
    have ek : wr = (ka ++ kb).map dg := by rw [List.map_append, ← ea, ← eb, List.take_append_drop]
    have la : ka.length = min 2 wr.length := by have := congrArg List.length ea; rw [List.length_take, List.length_map] at this; exact this.symm
    have lb : kb.length = wr.length - 2 := by have := congrArg List.length eb; rw [List.length_drop, List.length_map] at this; exact this.symm
    rw [va, vb, ← List.map_append] at q6
    have rk : ∀ k ∈ ka ++ kb, 0 ≤ k ∧ k ≤ 1000 := fun k hk => by
      rcases List.mem_append.mp hk with hk | hk
      · have := ra k hk; omega
      · have := rb k hk; omega
    have no : ¬ OkK ns ts w0 (ka ++ kb) → ∀ H', Same H H' → Q .non H' := fun h => qn (fun t => h ((okl t).ks (by rw [← ek]; exact ew) rk g5.rg))
    have at0 : atI ((w0 :: wr).map V.str) 0 = some (.str w0) := at_zero _ _
    have wl : ((w0 :: wr).map V.str).length = wr.length + 1 := by rw [List.length_map]; rfl
    refine ⟨_, rfl, p1, _, 0, .str w0, rfl, rfl, SqL.of q1, at0, rfl, _, rfl, ?_⟩
    by_cases hb1 : w0 = wB
    · refine ifT (decide_eq_true (congrArg V.str hb1)) ?_
      have nT : (!decide (V.str w0 = V.str ("tie" : Str))) = true := by
        have : ¬ V.str w0 = V.str ("tie" : Str) := fun e => by
          have e := V.str.inj e
          rw [hb1] at e
          exact absurd e (by decide)
        exact congrArg not (decide_eq_false this)
      have nW : ¬ w0 = wT := fun e => by rw [hb1] at e; exact absurd e (by decide)
      refine ⟨_, rfl, _, _, rfl, .inl ⟨_, SqL.of q1, rfl⟩, rfl, _, rfl, ?_⟩
      by_cases h2 : wr.length = 1
      case neg =>
        refine ifF (decide_eq_false fun e => h2 ?_) ⟨_, rfl, p1, _, 0, .str w0, rfl, rfl, SqL.of q1, at0, rfl, _, rfl, ifT nT (no (fun o => ?_) _ r6.sm)⟩
        · have e := V.int.inj e
          rw [wl] at e
          omega
        · rcases o with ⟨_, _, n, e, _⟩ | ⟨e, _⟩
          · exact h2 (by rw [ek, e]; rfl)
          · exact nW e
      refine ifT (decide_eq_true (by rw [wl, h2]; rfl)) ?_
      refine ⟨_, rfl, l0, fun p7 h7 => ?_⟩
      obtain ⟨HB, eB, u7, q7⟩ := new_heap h7 (.lst [])
      rw [← eB]
      have r7 := r6.same u7
      have q1b := u7 _ _ q1
      have q6b := u7 _ _ q6
      refine ⟨pt, p7, xs, rfl, rfl, SqL.of r7.lt, SqL.of q7, _, rfl, ?_⟩
      by_cases hts : ts = []
      case neg =>
        refine ifF (decide_eq_false fun e => hts (List.length_eq_zero_iff.mp (by omega))) ⟨_, rfl, p1, _, 0, .str w0, rfl, rfl, SqL.of q1b, at0, rfl, _, rfl, ifT nT (no (fun o => ?_) _ r7.sm)⟩
        rcases o with ⟨_, e, _⟩ | ⟨e, _⟩
        · exact hts e
        · exact nW e
      subst hts
      refine ifT (decide_eq_true xl) ?_
      refine ⟨_, rfl, l0, fun p8 h8 => ?_⟩
      obtain ⟨HC, eC, u8, q8⟩ := new_heap h8 (.lst [])
      rw [← eC]
      have r8 := r7.same u8
      have q1c := u8 _ _ q1b
      have q6c := u8 _ _ q6b
      obtain ⟨k, rfl⟩ : ∃ k, ka = [k] := List.length_eq_one_iff.mp (by omega)
      have ekb : kb = [] := List.length_eq_zero_iff.mp (by omega)
      subst ekb
      have rk1 := ra k (List.mem_singleton.mpr rfl)
      have el : l = bW k := line_b (by rw [ew, hb1, ek]; rfl)
      refine ⟨pb, p8, _, rfl, rfl, SqL.of r8.lb, SqL.of q8, _, rfl, ?_⟩
      have hlk : ls[i]? = some (bW k) := by rw [← el]; exact hl'
      by_cases e0 : ns = []
      · refine ifT (decide_eq_true (by rw [e0]; rfl)) ?_
        exact ⟨_, rfl, .inl ⟨rfl, _, SqL.of r8.lb⟩, _, rfl, p6, _, 0, .int k, rfl, rfl, SqL.of q6c, rfl, pb, _, _, rfl, rfl, r8.lb, by rw [List.length_map]; omega, hi', _, _, _, _, _, _, rfl, r8.addB k, g5.addB hlk rk1.1 rk1.2 (fun m hm => by rw [e0] at hm; cases hm)⟩
      obtain ⟨ini, la, e1⟩ : ∃ ini la, ns = ini ++ [la] := ⟨_, _, (List.dropLast_concat_getLast e0).symm⟩
      refine ifF (decide_eq_false (by rw [List.length_map]; exact fun e => e0 (List.length_eq_zero_iff.mp e))) ?_
      have alast : atI (ns.map V.int) (-1) = some (.int la) := by rw [e1, List.map_append]; exact at_last _ _
      refine ⟨_, rfl, 1, rfl, pb, _, -1, .int la, rfl, rfl, SqL.of r8.lb, alast, _, rfl, p6, _, 0, .int k, rfl, rfl, SqL.of q6c, rfl, _, _, rfl, rfl, _, rfl, ?_⟩
      by_cases hlt : la < k
      · refine ifT (decide_eq_true hlt) ?_
        refine ⟨_, rfl, .inl ⟨rfl, _, SqL.of r8.lb⟩, _, rfl, p6, _, 0, .int k, rfl, rfl, SqL.of q6c, rfl, pb, _, _, rfl, rfl, r8.lb, by rw [List.length_map]; omega, hi', _, _, _, _, _, _, rfl, r8.addB k, g5.addB hlk rk1.1 rk1.2 (fun m hm => ?_)⟩
        have up := g5.up
        rw [e1] at hm up
        rcases List.mem_append.mp hm with hm | hm
        · have := (List.pairwise_append.mp up).2.2 m hm la (List.mem_singleton.mpr rfl)
          omega
        · rw [List.mem_singleton.mp hm]; exact hlt
      · refine ifF (decide_eq_false hlt) ⟨_, rfl, p1, _, 0, .str w0, rfl, rfl, SqL.of q1c, at0, rfl, _, rfl, ifT nT (no (fun o => ?_) _ r8.sm)⟩
        rcases o with ⟨_, _, n, e, up⟩ | ⟨e, _⟩
        · have ek : k = n := (List.cons.inj e).1
          exact hlt (by rw [ek]; exact up la (by rw [e1]; exact List.mem_append_right _ (List.mem_singleton.mpr rfl)))
        · exact nW e
    · refine ifF (decide_eq_false fun e => hb1 (V.str.inj e)) ?_
      have nB : ¬ w0 = wB := hb1
      refine ⟨_, rfl, p1, _, 0, .str w0, rfl, rfl, SqL.of q1, at0, rfl, _, rfl, ?_⟩
      by_cases hb3 : w0 = wT
      case neg =>
        refine ifT (by have : ¬ V.str w0 = V.str ("tie" : Str) := fun e => hb3 (V.str.inj e); exact congrArg not (decide_eq_false this)) (no (fun o => ?_) _ r6.sm)
        rcases o with ⟨e, _⟩ | ⟨e, _⟩
        · exact nB e
        · exact hb3 e
      refine ifF (by have : V.str w0 = V.str ("tie" : Str) := congrArg V.str hb3; exact congrArg not (decide_eq_true this)) ?_
      refine ⟨_, rfl, _, _, rfl, .inl ⟨_, SqL.of q1, rfl⟩, rfl, _, rfl, ?_⟩
      by_cases h4 : wr.length = 3
      case neg =>
        refine ifT ?_ (no (fun o => ?_) _ r6.sm)
        · have : ¬ V.int ((((w0 :: wr).map V.str).length : Nat) : Int) = V.int 4 := fun e => h4 (by
            have e := V.int.inj e
            rw [wl] at e
            omega)
          exact congrArg not (decide_eq_false this)
        · rcases o with ⟨e, _⟩ | ⟨_, t, e, _⟩
          · exact nB e
          · exact h4 (by rw [ek, e]; rfl)
      refine ifF (by have : V.int ((((w0 :: wr).map V.str).length : Nat) : Int) = V.int 4 := (by rw [wl, h4]; rfl); exact congrArg not (decide_eq_true this)) ?_
      obtain ⟨k0, k1, rfl⟩ : ∃ a b, ka = [a, b] := by
        match ka, (show ka.length = 2 by omega) with
        | [a, b], _ => exact ⟨a, b, rfl⟩
      obtain ⟨k2, rfl⟩ : ∃ c, kb = [c] := List.length_eq_one_iff.mp (by omega)
      have rc := rb k2 (List.mem_singleton.mpr rfl)
      have el : l = tW (k0, k1, k2) := line_t (by rw [ew, hb3, ek]; rfl)
      have hlk : ls[i]? = some (tW (k0, k1, k2)) := by rw [← el]; exact hl'
      have okk : OkK ns ts w0 ([k0, k1] ++ [k2]) → (k0 ∈ ns ∧ k1 ∈ ns) ∧ k0 < k1 := fun o => by
        rcases o with ⟨e, _⟩ | ⟨_, t, e, ok, lt⟩
        · exact absurd e nB
        · obtain ⟨e1, e⟩ := List.cons.inj e
          obtain ⟨e2, e⟩ := List.cons.inj e
          rw [e1, e2]
          exact ⟨⟨ok.a, ok.b⟩, lt⟩
      refine ⟨_, rfl, p6, _, 0, .int k0, rfl, rfl, SqL.of q6, rfl, _, rfl, p6, _, 1, .int k1, rfl, rfl, SqL.of q6, rfl, _, _, rfl, rfl, _, rfl, ?_⟩
      by_cases hlt : k0 < k1
      case neg => exact ifT (by rw [decide_eq_false hlt]; rfl) (no (fun o => hlt (okk o).2) _ r6.sm)
      refine ifF (by rw [decide_eq_true hlt]; rfl) ?_
      refine ⟨_, rfl, p6, _, 0, .int k0, rfl, rfl, SqL.of q6, rfl, _, rfl, pb, _, rfl, .inl (SqL.of r6.lb), rfl, flat_ints _, _, rfl, ?_⟩
      rw [inV_ints]
      by_cases ha : k0 ∈ ns
      case neg => exact ifT (by rw [decide_eq_false ha]; rfl) (no (fun o => ha (okk o).1.1) _ r6.sm)
      refine ifF (by rw [decide_eq_true ha]; rfl) ?_
      refine ⟨_, rfl, p6, _, 1, .int k1, rfl, rfl, SqL.of q6, rfl, _, rfl, pb, _, rfl, .inl (SqL.of r6.lb), rfl, flat_ints _, _, rfl, ?_⟩
      rw [inV_ints]
      by_cases hb : k1 ∈ ns
      case neg => exact ifT (by rw [decide_eq_false hb]; rfl) (no (fun o => hb (okk o).1.2) _ r6.sm)
      refine ifF (by rw [decide_eq_true hb]; rfl) ?_
      refine ⟨_, rfl, .inl ⟨rfl, _, SqL.of r6.lt⟩, _, rfl, p6, _, rfl, .inl ⟨SqL.of q6, fun p7 h7 => ?_⟩⟩
      have u7 := same_new h7 (.tup (([k0, k1] ++ [k2]).map V.int))
      have r7 := r6.same u7
      refine ⟨pt, _, _, rfl, rfl, r7.lt, by omega, ?_⟩
      exact ⟨hi', _, _, _, _, _, _, rfl, r7.addT (t := (k0, k1, k2)) (IsD.tie (SqT.of upd_same)), g5.addT hlk ⟨ha, hb, by show k0 ≠ k1; omega, rc.1, rc.2⟩ hlt⟩
  · rintro σ H5 ⟨hi, v3, v4, v5, ns, ts, xs, rfl, r5, g5⟩
    rw [List.length_map] at hi r5 g5
    have n9 := r5.nl
    have t9 := r5.tl
    have nl : (ns.map V.int).length = ns.length := List.length_map _
    have xl : xs.length = ts.length := by rw [r5.ds.length, List.length_map]
    refine ⟨_, rfl, _, _, rfl, .inl ⟨_, SqL.of r5.lb, rfl⟩, _, _, rfl, rfl, _, rfl, ?_⟩
    by_cases h1 : 1 ≤ ns.length
    case neg => exact ifF (by rw [nl]; exact decide_eq_false (by omega)) ⟨_, rfl, ifT rfl (qn (fun t => h1 (g5.end t).1) _ r5.sm)⟩
    refine ifT (by rw [nl]; exact decide_eq_true (by omega)) ?_
    by_cases h10 : ns.length ≤ 10
    case neg => exact ⟨_, _, rfl, rfl, _, rfl, ifT (by rw [nl, decide_eq_false (by omega)]; rfl) (qn (fun t => h10 (g5.end t).2.1) _ r5.sm)⟩
    refine ⟨_, _, rfl, rfl, _, rfl, ifF (by rw [nl, decide_eq_true (by omega)]; rfl) ?_⟩
    by_cases h16 : ts.length ≤ 16
    case neg => exact ⟨_, rfl, _, _, rfl, .inl ⟨_, SqL.of r5.lt, rfl⟩, _, _, rfl, rfl, _, rfl, ifT (by rw [xl]; exact decide_eq_true (by omega)) (qn (fun t => h16 (g5.end t).2.2) _ r5.sm)⟩
    refine ⟨_, rfl, _, _, rfl, .inl ⟨_, SqL.of r5.lt, rfl⟩, _, _, rfl, rfl, _, rfl, ifF (by rw [xl]; exact decide_eq_false (by omega)) ?_⟩
    have N := g5.net h1 h10 h16
    have ez : z = txt ns ts := by
      have tk := g5.tk
      rw [List.take_length] at tk
      refine codes_inj ?_
      rw [txt_last N, ← tk, ← lj, cy, hy]
    refine ⟨_, rfl, pb, _, rfl, .inl ⟨SqL.of r5.lb, fun w1 hw1 => ?_⟩⟩
    have v1 := same_new hw1 (.tup (ns.map V.int))
    refine ⟨_, rfl, pt, _, rfl, .inl ⟨SqL.of (v1 _ _ r5.lt), fun w2 hw2 => ?_⟩⟩
    have v2 := same_new hw2 (.tup xs)
    refine ⟨line1000 (by show 2 ≤ 1000; decide), fun r hr => ?_⟩
    have v3 := same_new hr (.tup [.ref w1, .ref w2])
    have v13 := v1.trans (v2.trans v3)
    exact q ns ts N ez _ _ (r5.sm.trans v13) (.tup (SqT.of upd_same) (.cons (.tup (SqT.of ((v2.trans v3) _ _ upd_same)) (IsDs.ints _)) (.cons (.tup (SqT.of (v3 _ _ upd_same)) (r5.ds.same v13)) .nil)))
end
end My

set_option Elab.async false
set_option linter.all false
set_option maxRecDepth 100000
set_option maxHeartbeats 4000000

namespace My
open PySem L2
section
variable {P : Program} {w : World} {K : PySem.W.Frag} {mg : Str → Option Value} {base : Heap} {f : Addr} {fd : FuncData}
/-! ### the drawn row -/
def RowL (l : List V) : Prop := ∃ a b c : Int, l = [.int a, .int b, .int c] ∧ 0 ≤ b ∧ b < 536870909
def RowAt (H : Hp) (r : Addr) : Prop := ∃ l, H r = some (.lst l) ∧ RowL l
theorem RowAt.is {H : Hp} {r : Addr} (h : RowAt H r) : ∃ zs, H r = some (.lst zs) := let ⟨l, e, _⟩ := h; ⟨l, e⟩
theorem RowAt.same {H H' : Hp} {r : Addr} (h : RowAt H r) (e : Same H H') : RowAt H' r := let ⟨l, q, z⟩ := h; ⟨l, e _ _ q, z⟩
theorem RowAt.some {H : Hp} {r : Addr} (h : RowAt H r) : ∃ o, H r = some o := let ⟨l, e, _⟩ := h; ⟨_, e⟩
theorem RowAt.ne {H : Hp} {r p : Addr} (h : RowAt H r) (n : H p = none) : p ≠ r := fun e => by
  obtain ⟨l, q, _⟩ := h
  rw [e, q] at n
  cases n
theorem RowAt.new {H : Hp} {r : Addr} {l : List V} (z : RowL l) : RowAt (upd H r (.lst l)) r := ⟨l, upd_same, z⟩
theorem posM : (0 : Int) < 536870909 := by decide
/-! ### _law_stream -/
def sp_stream : Sp := fun vs H Q _ => ∃ i : Int, vs = [.int i] ∧ ∀ p H', H p = none → Same H H' → RowAt H' p → Q (.ref p) H'
theorem ok_stream (F : Fun K "_law_stream" "_law_stream" s_law_stream f fd) (T : Bl mg) : FnOk P w K mg base CX0 1 f fd ["cell"] sp_stream := by
  refine F.ok sc_law_stream (fun vs H Q E h => ?_) (fun cdv A outer s H vs Q E hr h => ?_)
  · obtain ⟨i, rfl, _⟩ := h
    rfl
  obtain ⟨i, rfl, q⟩ := h
  refine ⟨_, (pss_cons (ps_set (i := 1) sc_law_stream.nd rfl (Or.inl rfl) (pe_op op_mod (pv 0) pe_int))
      (pss_cons (ps_set (i := 1) sc_law_stream.nd rfl (Or.inl rfl) (pe_op op_mod (pe_op op_add (pe_op op_mul (pe_op op_mod (pe_op op_mul (pv 1) (pv 1)) pe_int) (pe_op op_add (pv 1) pe_int)) pe_int) pe_int))
      (pss_one (ps_ret (pe_lst (pa_cons (pv 0) (pa_cons (pv 1) (pa_cons (pe_callTy call_int1 (by rfl) T.int (by kernel_rfl) (pa_cons (pe_cmpR op_ge (pv 0) (pe_op op_pow pe_int pe_int) (nomark _)) pa_nil)) pa_nil)))))))), ?_⟩
  refine ⟨_, rfl, _, _, rfl, rfl, posM, ?_⟩
  have h0 : 0 ≤ i % 536870909 := Int.emod_nonneg _ (by decide)
  have h1 : i % 536870909 < 536870909 := Int.emod_lt_of_pos _ (by decide)
  refine ⟨_, rfl, _, rfl, _, _, rfl, rfl, .inl ⟨by omega, by omega⟩, _, _, rfl, rfl, posM, ?_⟩
  refine ⟨_, rfl, _, _, rfl, rfl, _, _, rfl, rfl, .inr ⟨by omega, by omega⟩, _, _, rfl, rfl, _, _, rfl, rfl, posM, ?_⟩
  refine ⟨_, rfl, _, rfl, _, rfl, _, _, rfl, rfl, ⟨by decide, by decide, by decide⟩, _, _, rfl, rfl, .inr ⟨_, rfl, ?_⟩⟩
  refine ⟨line1000 (by show 3 ≤ 1000; decide), fun p hp => q p _ hp (same_new hp _) (RowAt.new ⟨_, _, _, rfl, ?_, ?_⟩)⟩
  · exact Int.emod_nonneg _ (by decide)
  · exact Int.emod_lt_of_pos _ (by decide)
/-! ### _law_take: a number from 0 on, below many -/
def sp_take : Sp := fun vs H Q _ => ∃ r m, vs = [.ref r, .int m] ∧ RowAt H r ∧ 1 ≤ m ∧ m ≤ 1000000 ∧ ∀ (g : Int) H', 0 ≤ g → g < m → Keep r H H' → RowAt H' r → Q (.int g) H'
theorem ok_take (F : Fun K "_law_take" "_law_take" s_law_take f fd) : FnOk P w K mg base CX0 1 f fd ["row", "many"] sp_take := by
  refine F.ok sc_law_take (fun vs H Q E h => ?_) (fun cdv A outer s H vs Q E hr h => ?_)
  · obtain ⟨r, m, rfl, _⟩ := h
    rfl
  obtain ⟨r, m, rfl, ⟨l, hR, a, b, c, rfl, hb0, hb1⟩, hm0, hm1, q⟩ := h
  refine ⟨_, (pss_cons (ps_if (pt_cmpR op_eq (pe_ix ix_list (pv 0) pe_int (fun _ _ => rfl)) pe_int (nomark _)) (pss_cons (ps_set (i := 2) sc_law_take.nd rfl (Or.inl rfl) (pe_op op_mod (pe_ix ix_list (pv 0) pe_int (fun _ _ => rfl)) (pv 1)))
      (pss_cons (ps_asg (pe_op op_fdiv (pe_ix ix_list (pv 0) pe_int (fun _ _ => rfl)) (pv 1)) (pg_sub (pv 0) pe_int set_list))
      (pss_one (ps_ret (pv 2))))) pss_nil)
      (pss_cons (ps_asg (pe_op op_mod (pe_op op_mul (pe_op op_add (pe_ix ix_list (pv 0) pe_int (fun _ _ => rfl)) pe_int) (pe_op op_add (pe_ix ix_list (pv 0) pe_int (fun _ _ => rfl)) pe_int)) pe_int) (pg_sub (pv 0) pe_int set_list))
      (pss_one (ps_ret (pe_op op_mod (pe_op op_fdiv (pe_op op_add (pe_op op_mul (pe_ix ix_list (pv 0) pe_int (fun _ _ => rfl)) pe_int) pe_int) pe_int) (pv 1)))))), ?_⟩
  have hm : 0 < m := by omega
  refine ⟨_, rfl, r, _, 2, _, rfl, rfl, SqL.of hR, rfl, rfl, _, rfl, ite2 (fun e => ?_) (fun e => ?_)⟩
  · refine ⟨_, rfl, r, _, 0, _, rfl, rfl, SqL.of hR, rfl, _, rfl, a, m, rfl, rfl, hm, ?_⟩
    refine ⟨_, rfl, r, _, 0, _, rfl, rfl, SqL.of hR, rfl, _, rfl, a, m, rfl, rfl, ⟨hm, by omega⟩, _, rfl, r, _, 0, 0, rfl, rfl, hR, rfl, ?_⟩
    exact ⟨_, rfl, q _ _ (Int.emod_nonneg _ (by omega)) (Int.emod_lt_of_pos _ hm) Keep.upd (RowAt.new ⟨_, _, _, rfl, hb0, hb1⟩)⟩
  · refine ⟨_, rfl, r, _, 1, _, rfl, rfl, SqL.of hR, rfl, _, _, rfl, rfl, _, rfl, r, _, 1, _, rfl, rfl, SqL.of hR, rfl, _, _, rfl, rfl, _, _, rfl, rfl, .inl ⟨by omega, by omega⟩, _, _, rfl, rfl, posM, _, rfl, r, _, 1, 1, rfl, rfl, hR, rfl, ?_⟩
    have h0 : 0 ≤ (b + 7919) * (b + 104729) % 536870909 := Int.emod_nonneg _ (by decide)
    have h1 : (b + 7919) * (b + 104729) % 536870909 < 536870909 := Int.emod_lt_of_pos _ (by decide)
    refine ⟨_, rfl, r, _, 1, _, rfl, rfl, SqL.of upd_same, rfl, _, _, rfl, rfl, .inl ⟨by omega, by omega⟩, _, _, rfl, rfl, _, _, rfl, rfl, ⟨by decide, by decide⟩, _, rfl, _, m, rfl, rfl, hm, ?_⟩
    exact q _ _ (Int.emod_nonneg _ (by omega)) (Int.emod_lt_of_pos _ hm) Keep.upd (RowAt.new ⟨_, _, _, rfl, h0, h1⟩)
/-! ### a menu of three or four, by a drawn place -/
theorem at3 {a b c : V} {g : Int} (h0 : 0 ≤ g) (h : g < 3) {C : V → Prop} (ha : C a) (hb : C b) (hc : C c) : ∃ v, atI [a, b, c] g = some v ∧ C v := by
  have : g = 0 ∨ g = 1 ∨ g = 2 := by omega
  rcases this with rfl | rfl | rfl
  · exact ⟨a, rfl, ha⟩
  · exact ⟨b, rfl, hb⟩
  · exact ⟨c, rfl, hc⟩
theorem at4 {a b c d : V} {g : Int} (h0 : 0 ≤ g) (h : g < 4) {C : V → Prop} (ha : C a) (hb : C b) (hc : C c) (hd : C d) : ∃ v, atI [a, b, c, d] g = some v ∧ C v := by
  have : g = 0 ∨ g = 1 ∨ g = 2 ∨ g = 3 := by omega
  rcases this with rfl | rfl | rfl | rfl
  · exact ⟨a, rfl, ha⟩
  · exact ⟨b, rfl, hb⟩
  · exact ⟨c, rfl, hc⟩
  · exact ⟨d, rfl, hd⟩
theorem at2 {a b : V} {g : Int} (h0 : 0 ≤ g) (h : g < 2) {C : V → Prop} (ha : C a) (hb : C b) : ∃ v, atI [a, b] g = some v ∧ C v := by
  have : g = 0 ∨ g = 1 := by omega
  rcases this with rfl | rfl
  · exact ⟨a, rfl, ha⟩
  · exact ⟨b, rfl, hb⟩
/-! ### the next free number: a count that falls -/
def cnt (n0 : Int) (ns : List Int) (j : Int) : Nat := (ns.filter fun m => decide (j ≤ (m - n0) % 1000)).length
theorem cnt_le (n0 : Int) (ns : List Int) (j : Int) : cnt n0 ns (j + 1) ≤ cnt n0 ns j := by
  unfold cnt
  induction ns with
  | nil => exact Nat.le_refl _
  | cons m r ih =>
    rw [List.filter_cons, List.filter_cons]
    by_cases h1 : j + 1 ≤ (m - n0) % 1000
    · have h2 : j ≤ (m - n0) % 1000 := by omega
      simp only [h1, h2, decide_true, if_true, List.length_cons]
      omega
    · by_cases h2 : j ≤ (m - n0) % 1000
      · simp only [h1, h2, decide_true, decide_false, if_true, Bool.false_eq_true, if_false, List.length_cons]
        omega
      · simp only [h1, h2, decide_false, Bool.false_eq_true, if_false]
        exact ih
theorem cnt_lt {n0 n : Int} : ∀ {ns : List Int}, n ∈ ns → cnt n0 ns ((n - n0) % 1000 + 1) + 1 ≤ cnt n0 ns ((n - n0) % 1000)
  | [], h => nomatch h
  | m :: r, h => by
    have hle := cnt_le n0 r ((n - n0) % 1000)
    unfold cnt at hle ⊢
    rw [List.filter_cons, List.filter_cons]
    rcases List.mem_cons.mp h with e | h
    · subst e
      have h1 : ¬ (n - n0) % 1000 + 1 ≤ (n - n0) % 1000 := by omega
      simp only [h1, decide_false, Bool.false_eq_true, if_false, Int.le_refl, decide_true, if_true, List.length_cons]
      omega
    · have ih := cnt_lt (n0 := n0) h
      unfold cnt at ih
      by_cases h1 : (n - n0) % 1000 + 1 ≤ (m - n0) % 1000
      · have h2 : (n - n0) % 1000 ≤ (m - n0) % 1000 := by omega
        simp only [h1, h2, decide_true, if_true, List.length_cons]
        omega
      · by_cases h2 : (n - n0) % 1000 ≤ (m - n0) % 1000
        · simp only [h1, h2, decide_true, decide_false, if_true, Bool.false_eq_true, if_false, List.length_cons]
          omega
        · simp only [h1, h2, decide_false, Bool.false_eq_true, if_false]
          exact ih
theorem cnt_all (n0 : Int) (ns : List Int) : cnt n0 ns 0 = ns.length := by
  unfold cnt
  rw [List.filter_eq_self.mpr]
  intro m _
  exact decide_eq_true (Int.emod_nonneg _ (by decide))
/-! ### _law_bridges -/
def sp_bridges : Sp := fun vs H Q _ => ∃ r, vs = [.ref r] ∧ RowAt H r ∧ ∀ p ns H', Keep r H H' → RowAt H' r → H p = none → H' p = some (.lst (ns.map V.int)) → BrOk ns → Q (.ref p) H'
structure BrIn (ns : List Int) (i : Nat) : Prop where
  len : ns.length = i
  rng : ∀ n ∈ ns, 0 ≤ n ∧ n ≤ 999
  nd : ns.Nodup
theorem ok_bridges (F : Fun K "_law_bridges" "_law_bridges" s_law_bridges f fd) (T : Bl mg) (D_law_take : Dfn P w K mg base 1 "_law_take" ["row", "many"] sp_take) : FnOk P w K mg base CX0 2 f fd ["row"] sp_bridges := by
  refine F.ok sc_law_bridges (fun vs H Q E h => ?_) (fun cdv A outer s H vs Q E hr h => ?_)
  · obtain ⟨r, rfl, _⟩ := h
    rfl
  obtain ⟨r, rfl, hR, q⟩ := h
  refine ⟨_, (pss_cons (ps_set (i := 1) sc_law_bridges.nd rfl (Or.inl rfl) (pe_lst pa_nil))
      (pss_cons (ps_set (i := 2) sc_law_bridges.nd rfl (Or.inl rfl) (pe_ix ix_list (pe_lst (pa_cons (pe_op op_add pe_int (pe_def D_law_take hr (by omega) rfl (pa_cons (pv 0) (pa_cons pe_int pa_nil)))) (pa_cons (pe_op op_add pe_int (pe_def D_law_take hr (by omega) rfl (pa_cons (pv 0) (pa_cons pe_int pa_nil)))) (pa_cons pe_int pa_nil)))) (pe_def D_law_take hr (by omega) rfl (pa_cons (pv 0) (pa_cons pe_int pa_nil))) (fun _ _ => rfl)))
      (pss_cons (ps_for PassesOwn.never rfl (pi_range1 rfl T.range (pa_cons (pv 2) pa_nil)) (pg_name (i := 3) sc_law_bridges.nd rfl (Or.inl rfl)) (pss_cons (ps_set (i := 4) sc_law_bridges.nd rfl (Or.inl rfl) (pe_ix ix_list (pe_lst (pa_cons (pe_def D_law_take hr (by omega) rfl (pa_cons (pv 0) (pa_cons pe_int pa_nil))) (pa_cons (pe_op op_add pe_int (pe_def D_law_take hr (by omega) rfl (pa_cons (pv 0) (pa_cons pe_int pa_nil)))) (pa_cons (pe_def D_law_take hr (by omega) rfl (pa_cons (pv 0) (pa_cons pe_int pa_nil))) pa_nil)))) (pe_def D_law_take hr (by omega) rfl (pa_cons (pv 0) (pa_cons pe_int pa_nil))) (fun _ _ => rfl)))
      (pss_cons (ps_while PassesOwn.never (pt_cmpR op_in_seq (pv 4) (pv 1) (by rfl)) (pss_one (ps_set (i := 4) sc_law_bridges.nd rfl (Or.inl rfl) (pe_op op_mod (pe_op op_add (pv 4) pe_int) pe_int))))
      (pss_one (ps_expr (pe_bm PySem.F.plainAttrs_list PySem.F.slot_list_append PySem.F.type_list_append mt_append (pv 1) (pa_cons (pv 4) pa_nil)))))))
      (pss_one (ps_ret (pv 1)))))), ?_⟩
  refine ⟨line1000 (by show 0 ≤ 1000; decide), fun p hp => ?_⟩
  have pr : p ≠ r := hR.ne hp
  have k0 : Keep r H (upd H p (.lst [])) := (same_new hp _).keep r
  have R0 := hR.same (same_new hp (.lst []))
  have e0 : upd H p (.lst []) p = some (.lst []) := upd_same
  refine ⟨_, rfl, r, 10, rfl, R0, by decide, by decide, fun g1 H1 a1 b1 k1 R1 => ⟨_, _, rfl, rfl, ?_⟩⟩
  refine ⟨_, rfl, r, 4, rfl, R1, by decide, by decide, fun g2 H2 a2 b2 k2 R2 => ⟨_, _, rfl, rfl, ?_⟩⟩
  refine ⟨line1000 (by show 3 ≤ 1000; decide), fun p3 hp3 => ?_⟩
  have R3 := R2.same (same_new hp3 (.lst [.int (1 + g1), .int (4 + g2), .int 10]))
  refine ⟨_, rfl, r, 3, rfl, R3, by decide, by decide, fun g4 H4 a4 b4 k4 R4 => ?_⟩
  obtain ⟨v4, hv4, n4, rfl, lo4, hi4⟩ := at3 (a := .int (1 + g1)) (b := .int (4 + g2)) (c := .int 10) a4 b4 (C := fun v => ∃ n : Int, v = .int n ∧ 1 ≤ n ∧ n ≤ 10) ⟨_, rfl, by omega, by omega⟩ ⟨_, rfl, by omega, by omega⟩ ⟨_, rfl, by omega, by omega⟩
  have e3 : H4 p3 = some (.lst [.int (1 + g1), .int (4 + g2), .int 10]) := k4 _ _ upd_same (R2.ne hp3)
  refine ⟨p3, _, g4, _, rfl, rfl, SqL.of e3, hv4, ?_⟩
  have kk : Keep r H H4 := k0.trans (k1.trans (k2.trans (((same_new hp3 _).keep r).trans k4)))
  have e4 : H4 p = some (.lst []) := k4 _ _ (same_new hp3 _ _ _ (k2 _ _ (k1 _ _ e0 pr) pr)) pr
  refine ⟨_, rfl, n4, rfl, by omega, by omega, for_range (n := n4.toNat) (fun i σ H' => ∃ ns v3 v4, σ = [some (.ref r), some (.ref p), some (.int n4), v3, v4] ∧ Keep r H H' ∧ RowAt H' r ∧ H' p = some (.lst (ns.map V.int)) ∧ BrIn ns i)
    ⟨[], none, none, rfl, kk, R4, e4, ⟨rfl, (fun n hn => by cases hn), List.nodup_nil⟩⟩ ?_ ?_⟩
  · rintro i σ H5 hi ⟨ns, v3, v4, rfl, k5, R5, e5, B⟩
    refine ⟨_, rfl, r, 1000, rfl, R5, by decide, by decide, fun g6 H6 a6 b6 k6 R6 => ?_⟩
    refine ⟨_, rfl, r, 10, rfl, R6, by decide, by decide, fun g7 H7 a7 b7 k7 R7 => ⟨_, _, rfl, rfl, ?_⟩⟩
    refine ⟨_, rfl, r, 12, rfl, R7, by decide, by decide, fun g8 H8 a8 b8 k8 R8 => ?_⟩
    refine ⟨line1000 (by show 3 ≤ 1000; decide), fun p9 hp9 => ?_⟩
    have R9 := R8.same (same_new hp9 (.lst [.int g6, .int (990 + g7), .int g8]))
    refine ⟨_, rfl, r, 3, rfl, R9, by decide, by decide, fun gA HA aA bA kA RA => ?_⟩
    obtain ⟨vA, hvA, n0, rfl, loA, hiA⟩ := at3 (a := .int g6) (b := .int (990 + g7)) (c := .int g8) aA bA (C := fun v => ∃ n : Int, v = .int n ∧ 0 ≤ n ∧ n ≤ 999) ⟨_, rfl, by omega, by omega⟩ ⟨_, rfl, by omega, by omega⟩ ⟨_, rfl, by omega, by omega⟩
    have e9 : HA p9 = some (.lst [.int g6, .int (990 + g7), .int g8]) := kA _ _ upd_same (R8.ne hp9)
    refine ⟨p9, _, gA, _, rfl, rfl, SqL.of e9, hvA, ?_⟩
    have kk5 : Keep r H5 HA := k6.trans (k7.trans (k8.trans (((same_new hp9 _).keep r).trans kA)))
    have eA : HA p = some (.lst (ns.map V.int)) := kk5 _ _ e5 pr
    have hi' : i < 10 := by omega
    refine ⟨fun m σ' H' => ∃ n : Int, σ' = [some (.ref r), some (.ref p), some (.int n4), some (.int (0 + i)), some (.int n)] ∧ H' = HA ∧ 0 ≤ n ∧ n ≤ 999 ∧ m = cnt n0 ns ((n - n0) % 1000) ∧ (m : Int) + (n - n0) % 1000 ≤ ns.length,
      ⟨_, n0, rfl, rfl, loA, hiA, rfl, by rw [Int.sub_self]; show ((cnt n0 ns 0 : Nat) : Int) + 0 ≤ _; rw [cnt_all]; omega⟩, ?_⟩
    rintro m σ' H' ⟨n, rfl, rfl, ln, hn, rfl, hm⟩
    refine ⟨_, rfl, _, rfl, p, _, rfl, .inl (SqL.of eA), rfl, flat_ints _, _, rfl, ?_⟩
    show if inV (.int n) (ns.map V.int) = true then _ else _
    rw [inV_ints]
    by_cases hin : n ∈ ns
    · refine ifT (decide_eq_true hin) ?_
      have hlt := cnt_lt (n0 := n0) hin
      have hlen := B.len
      have hj : (n - n0) % 1000 < 999 := by omega
      have hs : ((n + 1) % 1000 - n0) % 1000 = (n - n0) % 1000 + 1 := by omega
      refine ⟨fun σ1 H1 => σ1 = [some (.ref r), some (.ref p), some (.int n4), some (.int (0 + i)), some (.int ((n + 1) % 1000))] ∧ H1 = H', ?_, ?_⟩
      · rintro σ1 H1 ⟨rfl, rfl⟩
        refine ⟨cnt n0 ns ((n - n0) % 1000 + 1), by omega, (n + 1) % 1000, rfl, rfl, by omega, by omega, by rw [hs], ?_⟩
        rw [hs]
        omega
      · exact ⟨_, rfl, _, _, rfl, rfl, _, _, rfl, rfl, (show (0 : Int) < 1000 by decide), rfl, rfl⟩
    · refine ifF (decide_eq_false hin) ?_
      refine ⟨_, rfl, .inl ⟨rfl, _, SqL.of eA⟩, _, rfl, p, _, _, rfl, rfl, eA, ?_, ?_⟩
      · rw [List.length_map, B.len]; exact small1000 (by omega)
      refine ⟨ns ++ [n], _, _, rfl, fun b o hb nb => ?_, ?_, ?_, ⟨?_, ?_, ?_⟩⟩
      · rw [upd_ne]
        · exact kk5 _ _ (k5 _ _ hb nb) nb
        · intro e
          rw [e, hp] at hb
          cases hb
      · obtain ⟨l, ql, zl⟩ := RA
        exact ⟨l, by rw [upd_ne pr.symm]; exact ql, zl⟩
      · rw [upd_same, List.map_append]
        rfl
      · rw [List.length_append, B.len]; rfl
      · intro z hz
        rcases List.mem_append.mp hz with hz | hz
        · exact B.rng z hz
        · rw [List.mem_singleton.mp hz]; exact ⟨ln, hn⟩
      · refine List.nodup_append.mpr ⟨B.nd, by simp, fun a ha b hb => ?_⟩
        rw [List.mem_singleton.mp hb]
        rintro rfl
        exact hin ha
  · rintro σ H5 ⟨ns, v3, v4, rfl, k5, R5, e5, B⟩
    refine ⟨_, rfl, q p ns H5 k5 R5 hp e5 ⟨?_, ?_, B.rng, B.nd⟩⟩
    · rw [B.len]; omega
    · rw [B.len]; omega
/-! ### _law_cost -/
def sp_cost : Sp := fun vs H Q _ => ∃ r, vs = [.ref r] ∧ RowAt H r ∧ ∀ (c : Int) H', 1 ≤ c → c ≤ 1000 → Keep r H H' → RowAt H' r → Q (.int c) H'
theorem ok_cost (F : Fun K "_law_cost" "_law_cost" s_law_cost f fd) (D_law_take : Dfn P w K mg base 1 "_law_take" ["row", "many"] sp_take) : FnOk P w K mg base CX0 2 f fd ["row"] sp_cost := by
  refine F.ok sc_law_cost (fun vs H Q E h => ?_) (fun cdv A outer s H vs Q E hr h => ?_)
  · obtain ⟨r, rfl, _⟩ := h
    rfl
  obtain ⟨r, rfl, hR, q⟩ := h
  refine ⟨_, (pss_one (ps_ret (pe_ix ix_list (pe_lst (pa_cons (pe_op op_add pe_int (pe_def D_law_take hr (by omega) rfl (pa_cons (pv 0) (pa_cons pe_int pa_nil)))) (pa_cons pe_int (pa_cons pe_int (pa_cons (pe_op op_add pe_int (pe_def D_law_take hr (by omega) rfl (pa_cons (pv 0) (pa_cons pe_int pa_nil)))) pa_nil))))) (pe_def D_law_take hr (by omega) rfl (pa_cons (pv 0) (pa_cons pe_int pa_nil))) (fun _ _ => rfl)))), ?_⟩
  refine ⟨_, rfl, r, 1000, rfl, hR, by decide, by decide, fun g1 H1 a1 b1 k1 R1 => ⟨_, _, rfl, rfl, ?_⟩⟩
  refine ⟨_, rfl, r, 5, rfl, R1, by decide, by decide, fun g2 H2 a2 b2 k2 R2 => ⟨_, _, rfl, rfl, ?_⟩⟩
  refine ⟨line1000 (by show 4 ≤ 1000; decide), fun p3 hp3 => ?_⟩
  have R3 := R2.same (same_new hp3 (.lst [.int (1 + g1), .int 1, .int 1000, .int (1 + g2)]))
  refine ⟨_, rfl, r, 4, rfl, R3, by decide, by decide, fun g4 H4 a4 b4 k4 R4 => ?_⟩
  obtain ⟨v4, hv4, n4, rfl, lo4, hi4⟩ := at4 (a := .int (1 + g1)) (b := .int 1) (c := .int 1000) (d := .int (1 + g2)) a4 b4 (C := fun v => ∃ n : Int, v = .int n ∧ 1 ≤ n ∧ n ≤ 1000) ⟨_, rfl, by omega, by omega⟩ ⟨_, rfl, by omega, by omega⟩ ⟨_, rfl, by omega, by omega⟩ ⟨_, rfl, by omega, by omega⟩
  have e3 : H4 p3 = some (.lst [.int (1 + g1), .int 1, .int 1000, .int (1 + g2)]) := k4 _ _ upd_same (R2.ne hp3)
  exact ⟨p3, _, g4, _, rfl, rfl, SqL.of e3, hv4, q n4 H4 lo4 hi4 (k1.trans (k2.trans (((same_new hp3 _).keep r).trans k4))) R4⟩
/-! ### ties -/
theorem shaped_ties (ts : List Tie) : SeqAt.shaped (.list (ts.map tieD)) = true := by
  have h : ∀ ts : List Tie, PyData.canLayAll0 (ts.map tieD) = true ∧ PyData.depthAll (ts.map tieD) ≤ 1 := by
    intro ts
    induction ts with
    | nil => exact ⟨rfl, Nat.zero_le _⟩
    | cons t ts ih =>
      refine ⟨?_, ?_⟩
      · show (PyData.canLay0 (tieD t) && PyData.canLayAll0 (ts.map tieD)) = true
        rw [ih.1]
        rfl
      · show max (PyData.depth (tieD t)) (PyData.depthAll (ts.map tieD)) ≤ 1
        have : PyData.depth (tieD t) = 1 := rfl
        rw [this]
        exact Nat.max_le.mpr ⟨Nat.le_refl _, ih.2⟩
  show (PyData.canLayAll0 (ts.map tieD) && decide (PyData.depthAll (ts.map tieD) + 1 ≤ 64)) = true
  rw [(h ts).1, decide_eq_true (by have := (h ts).2; omega)]
  rfl
theorem atI_ints {ns : List Int} {i : Int} (h0 : 0 ≤ i) (h : i < ns.length) : ∃ x, atI (ns.map V.int) i = some (.int x) ∧ ns[i.toNat]? = some x := by
  have hk : i.toNat < ns.length := by omega
  have ek : i = ((i.toNat : Nat) : Int) := by omega
  refine ⟨ns[i.toNat], ?_, List.getElem?_eq_getElem hk⟩
  have q : atI (ns.map V.int) ((i.toNat : Nat) : Int) = some (.int ns[i.toNat]) := atI_nat (by rw [List.getElem?_map, List.getElem?_eq_getElem hk]; rfl)
  rw [← ek] at q
  exact q
theorem atI_any {xs : List V} {i : Int} (h0 : 0 ≤ i) (h : i < xs.length) : ∃ x, atI xs i = some x ∧ xs[i.toNat]? = some x := by
  have hk : i.toNat < xs.length := by omega
  have ek : i = ((i.toNat : Nat) : Int) := by omega
  refine ⟨xs[i.toNat], ?_, List.getElem?_eq_getElem hk⟩
  have q : atI xs ((i.toNat : Nat) : Int) = some xs[i.toNat] := atI_nat (List.getElem?_eq_getElem hk)
  rw [← ek] at q
  exact q
theorem nodup_ne {ns : List Int} (nd : ns.Nodup) {i j : Nat} {x y : Int} (hi : ns[i]? = some x) (hj : ns[j]? = some y) (ne : i ≠ j) : x ≠ y := by
  obtain ⟨h1, e1⟩ := List.getElem?_eq_some_iff.mp hi
  obtain ⟨h2, e2⟩ := List.getElem?_eq_some_iff.mp hj
  intro e
  rw [← e1, ← e2] at e
  exact ne ((List.getElem_inj nd).mp e)
/-- what stands between two turns -/
structure TsIn (K : PySem.W.Frag) (H0 H : Hp) (r q : Addr) (ns : List Int) (ts : List Tie) (xs : List V) (i : Nat) : Prop where
  kp : Keep r H0 H
  row : RowAt H r
  lst : H q = some (.lst xs)
  ds : IsDs K H xs (ts.map tieD)
  each : ∀ t ∈ ts, TieOk ns t
  len : ts.length = i
theorem TsIn.go {K : PySem.W.Frag} {H0 H H' : Hp} {r q : Addr} {ns : List Int} {ts : List Tie} {xs : List V} {i : Nat} (h : TsIn K H0 H r q ns ts xs i) (qr : q ≠ r) (k : Keep r H H') (R : RowAt H' r) : TsIn K H0 H' r q ns ts xs i := by
  obtain ⟨zs, hz⟩ := h.row.is
  exact ⟨h.kp.trans k, R, k _ _ h.lst qr, h.ds.keep k hz (noLists_ties ts), h.each, h.len⟩
theorem TsIn.same {K : PySem.W.Frag} {H0 H H' : Hp} {r q : Addr} {ns : List Int} {ts : List Tie} {xs : List V} {i : Nat} (h : TsIn K H0 H r q ns ts xs i) (qr : q ≠ r) (k : Same H H') : TsIn K H0 H' r q ns ts xs i := h.go qr (k.keep r) (h.row.same k)
theorem TsIn.push {K : PySem.W.Frag} {H0 H : Hp} {r q : Addr} {ns : List Int} {ts : List Tie} {xs : List V} {i : Nat} {v : V} {t : Tie} (h : TsIn K H0 H r q ns ts xs i) (q0 : H0 q = none) (qr : q ≠ r) (hv : IsD K H v (tieD t)) (ht : TieOk ns t) :
    TsIn K H0 (upd H q (.lst (xs ++ [v]))) r q ns (ts ++ [t]) (xs ++ [v]) (i + 1) := by
  have kq : Keep q H (upd H q (.lst (xs ++ [v]))) := Keep.upd
  refine ⟨fun b o hb nb => ?_, ?_, upd_same, ?_, fun z hz => ?_, by rw [List.length_append, h.len]; rfl⟩
  · rw [upd_ne (ne_of_none hb q0)]
    exact h.kp b o hb nb
  · obtain ⟨l, ql, zl⟩ := h.row
    exact ⟨l, by rw [upd_ne qr.symm]; exact ql, zl⟩
  · rw [List.map_append]
    exact (h.ds.keep kq h.lst (noLists_ties ts)).append (.cons (hv.keep kq h.lst rfl) .nil)
  · rcases List.mem_append.mp hz with hz | hz
    · exact h.each z hz
    · rw [List.mem_singleton.mp hz]; exact ht
def sp_ties (K : PySem.W.Frag) : Sp := fun vs H Q _ => ∃ r b ns, vs = [.ref r, .ref b] ∧ RowAt H r ∧ b ≠ r ∧ SqL K H b (ns.map V.int) ∧ BrOk ns ∧
  ∀ q ts xs H', Keep r H H' → RowAt H' r → H q = none → H' q = some (.lst xs) → IsDs K H' xs (ts.map tieD) → TsOk ns ts → Q (.ref q) H'
theorem ok_ties (F : Fun K "_law_ties" "_law_ties" s_law_ties f fd) (T : Bl mg) (D_law_take : Dfn P w K mg base 1 "_law_take" ["row", "many"] sp_take) (D_law_cost : Dfn P w K mg base 2 "_law_cost" ["row"] sp_cost) : FnOk P w K mg base CX0 3 f fd ["row", "bridges"] (sp_ties K) := by
  refine F.ok sc_law_ties (fun vs H Q E h => ?_) (fun cdv A outer s H vs Q E hr h => ?_)
  · obtain ⟨r, b, ns, rfl, _⟩ := h
    rfl
  obtain ⟨r, b, ns, rfl, hR, br, hS, hB, fin⟩ := h
  refine ⟨_, (pss_cons (ps_set (i := 2) sc_law_ties.nd rfl (Or.inl rfl) (pe_lst pa_nil))
      (pss_cons (ps_for PassesOwn.never rfl (pi_range1 rfl T.range (pa_cons (pe_op op_mul (pe_ix ix_list (pe_lst (pa_cons (pe_def D_law_take hr (by omega) rfl (pa_cons (pv 0) (pa_cons pe_int pa_nil))) (pa_cons pe_int pa_nil))) (pe_def D_law_take hr (by omega) rfl (pa_cons (pv 0) (pa_cons pe_int pa_nil))) (fun _ _ => rfl)) (pe_callTy call_int1 (by rfl) T.int (by kernel_rfl) (pa_cons (pe_cmpR op_gt (pe_callB call_len (by rfl) T.len (by kernel_rfl) (pa_cons (pv 1) pa_nil)) pe_int (nomark _)) pa_nil))) pa_nil)) (pg_name (i := 3) sc_law_ties.nd rfl (Or.inl rfl)) (pss_cons (ps_set (i := 4) sc_law_ties.nd rfl (Or.inl rfl) (pe_def D_law_take hr (by omega) rfl (pa_cons (pv 0) (pa_cons (pe_callB call_len (by rfl) T.len (by kernel_rfl) (pa_cons (pv 1) pa_nil)) pa_nil))))
      (pss_cons (ps_set (i := 5) sc_law_ties.nd rfl (Or.inl rfl) (pe_op op_mod (pe_op op_add (pe_op op_add (pv 4) pe_int) (pe_def D_law_take hr (by omega) rfl (pa_cons (pv 0) (pa_cons (pe_op op_sub (pe_callB call_len (by rfl) T.len (by kernel_rfl) (pa_cons (pv 1) pa_nil)) pe_int) pa_nil)))) (pe_callB call_len (by rfl) T.len (by kernel_rfl) (pa_cons (pv 1) pa_nil))))
      (pss_cons (ps_set (i := 6) sc_law_ties.nd rfl (Or.inl rfl) (pe_tup (pa_cons (pe_ix ix_list (pv 1) (pv 4) (fun _ _ => rfl)) (pa_cons (pe_ix ix_list (pv 1) (pv 5) (fun _ _ => rfl)) (pa_cons (pe_def D_law_cost hr (by omega) rfl (pa_cons (pv 0) pa_nil)) pa_nil)))))
      (pss_cons (ps_if (PW.pt (pw_and (pt_cmpR (op_neD hr.units) (pv 2) (pe_lst pa_nil) (nomark _)) (pw_and1 (pt_cmpR op_eq (pe_def D_law_take hr (by omega) rfl (pa_cons (pv 0) (pa_cons pe_int pa_nil))) pe_int (nomark _))))) (pss_cons (ps_set (i := 6) sc_law_ties.nd rfl (Or.inl rfl) (pe_ix ix_list (pv 2) (pe_def D_law_take hr (by omega) rfl (pa_cons (pv 0) (pa_cons (pe_callB call_len (by rfl) T.len (by kernel_rfl) (pa_cons (pv 2) pa_nil)) pa_nil))) (fun _ _ => rfl)))
      (pss_one (ps_set (i := 6) sc_law_ties.nd rfl (Or.inl rfl) (pe_ix ix_list (pe_lst (pa_cons (pv 6) (pa_cons (pe_tup (pa_cons (pe_ix ix_tup (pv 6) pe_int (fun _ _ => rfl)) (pa_cons (pe_ix ix_tup (pv 6) pe_int (fun _ _ => rfl)) (pa_cons (pe_ix ix_tup (pv 6) pe_int (fun _ _ => rfl)) pa_nil)))) (pa_cons (pe_tup (pa_cons (pe_ix ix_tup (pv 6) pe_int (fun _ _ => rfl)) (pa_cons (pe_ix ix_tup (pv 6) pe_int (fun _ _ => rfl)) (pa_cons (pe_def D_law_cost hr (by omega) rfl (pa_cons (pv 0) pa_nil)) pa_nil)))) pa_nil)))) (pe_def D_law_take hr (by omega) rfl (pa_cons (pv 0) (pa_cons pe_int pa_nil))) (fun _ _ => rfl))))) pss_nil)
      (pss_one (ps_expr (pe_bm PySem.F.plainAttrs_list PySem.F.slot_list_append PySem.F.type_list_append mt_append (pv 2) (pa_cons (pv 6) pa_nil)))))))))
      (pss_one (ps_ret (pv 2))))), ?_⟩
  have hl : (ns.map V.int).length = ns.length := List.length_map _
  have h10 := hB.ten
  have h01 := hB.one
  refine ⟨line1000 (by show 0 ≤ 1000; decide), fun q hq => ?_⟩
  have qr : q ≠ r := hR.ne hq
  have s0 := same_new hq (.lst [])
  have R0 := hR.same s0
  refine ⟨_, rfl, r, 17, rfl, R0, by decide, by decide, fun g1 H1 a1 b1 k1 R1 => ?_⟩
  refine ⟨line1000 (by show 2 ≤ 1000; decide), fun p2 hp2 => ?_⟩
  have R2 := R1.same (same_new hp2 (.lst [.int g1, .int 16]))
  refine ⟨_, rfl, r, 2, rfl, R2, by decide, by decide, fun g3 H3 a3 b3 k3 R3 => ?_⟩
  obtain ⟨v3, hv3, n3, rfl, lo3, hi3⟩ := at2 (a := .int g1) (b := .int 16) a3 b3 (C := fun v => ∃ n : Int, v = .int n ∧ 0 ≤ n ∧ n ≤ 16) ⟨_, rfl, by omega, by omega⟩ ⟨_, rfl, by omega, by omega⟩
  have e2 : H3 p2 = some (.lst [.int g1, .int 16]) := k3 _ _ upd_same (R1.ne hp2)
  refine ⟨p2, _, g3, _, rfl, rfl, SqL.of e2, hv3, ?_⟩
  have kk : Keep r H H3 := (s0.keep r).trans (k1.trans (((same_new hp2 _).keep r).trans k3))
  have e3 : H3 q = some (.lst []) := k3 _ _ (same_new hp2 _ _ _ (k1 _ _ upd_same qr)) qr
  have hS3 : SqL K H3 b (ns.map V.int) := hS.keep kk br
  refine ⟨_, rfl, _, _, rfl, .inl ⟨_, hS3, rfl⟩, _, _, rfl, rfl, .inr ⟨_, rfl, _, _, rfl, rfl, .inl ⟨by omega, by omega⟩, ?_⟩⟩
  have T0 : TsIn K H H3 r q ns [] [] 0 := ⟨kk, R3, e3, .nil, (fun t ht => by cases ht), rfl⟩
  obtain ⟨n, hn, hn16, hn1⟩ : ∃ n : Nat, n3 * (if decide ((1 : Int) < ((ns.map V.int).length : Int)) then 1 else 0) = (n : Int) ∧ n ≤ 16 ∧ (0 < n → 1 < ns.length) := by
    by_cases h1 : 1 < ns.length
    · refine ⟨n3.toNat, ?_, by omega, fun _ => h1⟩
      rw [if_pos (decide_eq_true (by rw [hl]; omega))]
      omega
    · refine ⟨0, ?_, by omega, fun h => absurd h (by omega)⟩
      rw [if_neg (by rw [decide_eq_false (by rw [hl]; omega)]; decide)]
      omega
  refine ⟨_, rfl, ?_, ?_, ?_⟩
  · show -(2 ^ 62) ≤ n3 * (if decide ((1 : Int) < ((ns.map V.int).length : Int)) then 1 else 0); rw [hn]; omega
  · show n3 * (if decide ((1 : Int) < ((ns.map V.int).length : Int)) then 1 else 0) < 2 ^ 62; rw [hn]; omega
  have ent : (n3 * (if decide ((1 : Int) < ((ns.map V.int).length : Int)) then 1 else 0)).toNat = n := by rw [hn]; rfl
  show ∃ W, _ ∧ _
  refine for_range (lo := 0) (n := (n3 * (if decide ((1 : Int) < ((ns.map V.int).length : Int)) then 1 else 0)).toNat) (fun i σ H' => ∃ ts xs v3 v4 v5 v6, σ = [some (.ref r), some (.ref b), some (.ref q), v3, v4, v5, v6] ∧ TsIn K H H' r q ns ts xs i) ⟨[], [], none, none, none, none, rfl, T0⟩ ?_ ?_
  · rintro i σ H5 hi ⟨ts, xs, v3, v4, v5, v6, rfl, T5⟩
    rw [ent] at hi
    have hlen := hn1 (by omega)
    have hS5 : SqL K H5 b (ns.map V.int) := hS.keep T5.kp br
    refine ⟨_, rfl, _, rfl, _, _, rfl, .inl ⟨_, hS5, rfl⟩, r, _, rfl, T5.row, by rw [hl]; omega, by rw [hl]; omega, fun g6 H6 a6 b6 k6 R6 => ?_⟩
    rw [hl] at b6
    have T6 := T5.go qr k6 R6
    have hS6 : SqL K H6 b (ns.map V.int) := hS.keep T6.kp br
    refine ⟨_, rfl, _, _, rfl, rfl, _, rfl, _, rfl, _, _, rfl, .inl ⟨_, hS6, rfl⟩, _, _, rfl, rfl, r, _, rfl, T6.row, by rw [hl]; omega, by rw [hl]; omega, fun g7 H7 a7 b7 k7 R7 => ?_⟩
    rw [hl] at b7
    have T7 := T6.go qr k7 R7
    have hS7 : SqL K H7 b (ns.map V.int) := hS.keep T7.kp br
    refine ⟨_, _, rfl, rfl, _, rfl, _, _, rfl, .inl ⟨_, hS7, rfl⟩, _, _, rfl, rfl, (by show (0 : Int) < ((ns.map V.int).length : Int); rw [hl]; omega), ?_⟩
    have hto0 : 0 ≤ (g6 + 1 + g7) % ((ns.map V.int).length : Int) := Int.emod_nonneg _ (by rw [hl]; omega)
    have hto1 : (g6 + 1 + g7) % ((ns.map V.int).length : Int) < (ns.length : Int) := by
      have := Int.emod_lt_of_pos (g6 + 1 + g7) (b := ((ns.map V.int).length : Int)) (by rw [hl]; omega)
      rw [hl] at this ⊢
      exact this
    have hne : g6 ≠ (g6 + 1 + g7) % ((ns.map V.int).length : Int) := by
      rw [hl]
      by_cases hc : g6 + 1 + g7 < ns.length
      · rw [Int.emod_eq_of_lt (by omega) hc]; omega
      · have e : (g6 + 1 + g7) % (ns.length : Int) = g6 + 1 + g7 - ns.length := by
          have z : g6 + 1 + g7 = (g6 + 1 + g7 - ns.length) + ns.length := by omega
          rw [z]
          first
          | rw [Int.add_emod_right]
          | rw [Int.add_emod_self]
          rw [Int.emod_eq_of_lt (by omega) (by omega)]
          omega
        rw [e]; omega
    obtain ⟨x, hx, hxi⟩ := atI_ints (ns := ns) a6 b6
    obtain ⟨y, hy, hyi⟩ := atI_ints (ns := ns) hto0 hto1
    have xy : x ≠ y := nodup_ne hB.nd hxi hyi (by omega)
    refine ⟨_, rfl, _, rfl, b, _, _, _, rfl, rfl, hS7, hx, _, rfl, _, rfl, b, _, _, _, rfl, rfl, hS7, hy, _, rfl, r, rfl, T7.row, fun c8 H8 a8 b8 k8 R8 => ?_⟩
    have T8 := T7.go qr k8 R8
    refine ⟨line1000 (by show 3 ≤ 1000; decide), fun p9 hp9 => ?_⟩
    have s9 := same_new hp9 (.tup [.int x, .int y, .int c8])
    have T9 := T8.same qr s9
    have ok9 : TieOk ns (x, y, c8) := ⟨List.mem_of_getElem? hxi, List.mem_of_getElem? hyi, xy, a8, b8⟩
    have d9 : IsD K (upd H8 p9 (.tup [.int x, .int y, .int c8])) (.ref p9) (tieD (x, y, c8)) := IsD.tie (SqT.of upd_same)
    refine ⟨_, rfl, line1000 (by show 0 ≤ 1000; decide), fun pA hpA => ?_⟩
    have sA := same_new hpA (.lst [])
    have TA := T9.same qr sA
    have dA := d9.same sA
    refine ⟨.list (ts.map tieD), .list [], .lst (SqL.of TA.lst) TA.ds, .lst (SqL.of upd_same) .nil, shaped_ties ts, by decide, _, rfl, ?_⟩
    have few : xs.length < sizeLine := by
      have e := T5.ds.length
      rw [List.length_map, T5.len] at e
      exact small1000 (by omega)
    refine ite2 (fun hne0 => ?_) (fun _ => ?_)
    · -- and take(row, 6) == 0
      refine ⟨_, rfl, r, 6, rfl, TA.row, by decide, by decide, fun gB HB aB bB kB RB => ?_⟩
      have TB := TA.go qr kB RB
      obtain ⟨zsA, hzA⟩ := TA.row.is
      have dB := dA.keep kB hzA rfl
      refine ⟨rfl, _, rfl, ite2 (fun _ => ?_) (fun _ => ?_)⟩
      · -- tie = ties[take(row, len(ties))]
        have pos : 0 < xs.length := by
          cases ts with
          | nil => exact absurd hne0 (by decide)
          | cons t ts => rw [T5.ds.length]; simp
        have xlen : xs.length = i := by rw [T5.ds.length, List.length_map, T5.len]
        refine ⟨_, rfl, _, rfl, _, rfl, _, _, rfl, .inl ⟨_, SqL.of TB.lst, rfl⟩, r, _, rfl, TB.row, by omega, by omega, fun gC HC aC bC kC RC => ?_⟩
        have TC := TB.go qr kC RC
        obtain ⟨v, hv, hvi⟩ := atI_any (xs := xs) aC bC
        refine ⟨q, _, gC, _, rfl, rfl, SqL.of TC.lst, hv, ?_⟩
        obtain ⟨d, hd, dv⟩ := TC.ds.get hvi
        rw [List.getElem?_map] at hd
        obtain ⟨t, ht, rfl⟩ := Option.map_eq_some_iff.mp hd
        have okt := T5.each t (List.mem_of_getElem? ht)
        obtain ⟨ta, rfl, hT⟩ := dv.inv_tie
        refine ⟨_, rfl, _, rfl, ta, _, 1, _, rfl, rfl, hT, rfl, _, rfl, ta, _, 0, _, rfl, rfl, hT, rfl, _, rfl, ta, _, 2, _, rfl, rfl, hT, rfl, line1000 (by show 3 ≤ 1000; decide), fun pD hpD => ?_⟩
        have sD := same_new hpD (.tup [.int t.2.1, .int t.1, .int t.2.2])
        have TD := TC.same qr sD
        have hTD := sD.sqT hT
        refine ⟨_, rfl, ta, _, 0, _, rfl, rfl, hTD, rfl, _, rfl, ta, _, 1, _, rfl, rfl, hTD, rfl, _, rfl, r, rfl, TD.row, fun cE HE aE bE kE RE => ?_⟩
        have TE := TD.go qr kE RE
        refine ⟨line1000 (by show 3 ≤ 1000; decide), fun pF hpF => ?_⟩
        have sF := same_new hpF (.tup [.int t.1, .int t.2.1, .int cE])
        have TF := TE.same qr sF
        refine ⟨line1000 (by show 3 ≤ 1000; decide), fun pG hpG => ?_⟩
        have sG := same_new hpG (.lst [.ref ta, .ref pD, .ref pF])
        have TG := TF.same qr sG
        refine ⟨_, rfl, r, 3, rfl, TG.row, by decide, by decide, fun gH HH aH bH kH RH => ?_⟩
        have TH := TG.go qr kH RH
        have prG : pG ≠ r := TF.row.ne hpG
        have eG : HH pG = some (.lst [.ref ta, .ref pD, .ref pF]) := kH _ _ upd_same prG
        obtain ⟨zsD, hzD⟩ := TD.row.is
        obtain ⟨zsG, hzG⟩ := TG.row.is
        have dT : IsD K HH (.ref ta) (tieD t) := (((IsD.tie hTD).keep kE hzD rfl).same (sF.trans sG)).keep kH hzG rfl
        have dD : IsD K HH (.ref pD) (tieD (t.2.1, t.1, t.2.2)) := (((IsD.tie (SqT.of upd_same)).keep kE hzD rfl).same (sF.trans sG)).keep kH hzG rfl
        have dF : IsD K HH (.ref pF) (tieD (t.1, t.2.1, cE)) := ((IsD.tie (SqT.of upd_same)).same sG).keep kH hzG rfl
        obtain ⟨vH, hvH, tH, dH, okH⟩ := at3 (a := .ref ta) (b := .ref pD) (c := .ref pF) aH bH (C := fun v => ∃ t', IsD K HH v (tieD t') ∧ TieOk ns t') ⟨_, dT, okt⟩ ⟨_, dD, ⟨okt.b, okt.a, okt.ne.symm, okt.lo, okt.hi⟩⟩ ⟨_, dF, ⟨okt.a, okt.b, okt.ne, aE, bE⟩⟩
        refine ⟨pG, _, gH, _, rfl, rfl, SqL.of eG, hvH, ?_⟩
        refine ⟨_, rfl, .inl ⟨rfl, _, SqL.of TH.lst⟩, _, rfl, q, _, _, rfl, rfl, TH.lst, few, ?_⟩
        exact ⟨_, _, _, _, _, _, rfl, TH.push hq qr dH okH⟩
      · refine ⟨_, rfl, .inl ⟨rfl, _, SqL.of TB.lst⟩, _, rfl, q, _, _, rfl, rfl, TB.lst, few, ?_⟩
        exact ⟨_, _, _, _, _, _, rfl, TB.push hq qr dB ok9⟩
    · refine ifF rfl ?_
      refine ⟨_, rfl, .inl ⟨rfl, _, SqL.of TA.lst⟩, _, rfl, q, _, _, rfl, rfl, TA.lst, few, ?_⟩
      exact ⟨_, _, _, _, _, _, rfl, TA.push hq qr dA ok9⟩
  · rintro σ H5 ⟨ts, xs, v3, v4, v5, v6, rfl, T5⟩
    rw [ent] at T5
    exact ⟨_, rfl, fin q ts xs H5 T5.kp T5.row hq T5.lst T5.ds ⟨by rw [T5.len]; exact hn16, T5.each⟩⟩
/-! ### _law_due -/
def sp_due (K : PySem.W.Frag) : Sp := fun vs H Q _ => ∃ a b ns ts xs, vs = [.ref a, .ref b] ∧ SqL K H a (ns.map V.int) ∧ SqL K H b xs ∧ IsDs K H xs (ts.map tieD) ∧ ns.length ≤ 10 ∧ ts.length ≤ 16 ∧ ∀ r H', Same H H' → IsD K H' r (dueD ns ts) → Q r H'
theorem ok_due (F : Fun K "_law_due" "_law_due" s_law_due f fd) (T : Bl mg) : FnOk P w K mg base CX0 1 f fd ["bridges", "ties"] (sp_due K) := by
  refine F.ok sc_law_due (fun vs H Q E h => ?_) (fun cdv A outer s H vs Q E hr h => ?_)
  · obtain ⟨a, b, ns, ts, xs, rfl, _⟩ := h
    rfl
  obtain ⟨a, b, ns, ts, xs, rfl, hA, hBl, hD, h10, h16, q⟩ := h
  refine ⟨_, (pss_one (ps_ret (pe_tup (pa_cons (pe_callTy call_tuple_of (by rfl) T.tuple (by kernel_rfl) (pa_cons (pe_callB call_sorted (by rfl) T.sorted (by kernel_rfl) (pa_cons (pv 0) pa_nil)) pa_nil)) (pa_cons (pe_callTy call_tuple_of (by rfl) T.tuple (by kernel_rfl) (pa_cons (pe_lcomp rfl (caps := []) (blk_ok (sc := defScope s_law_due) (N := ["bridges", "ties"]) rfl rfl rfl (by decide +kernel)) (pi_list (pv 1)) (fun _ _ _ _ _ => pifs_nil) (fun _ _ _ _ _ => (pe_tup (pa_cons (pe_callB (callK_minT K rfl rfl) (by rfl) T.min (by kernel_rfl) (pa_cons (pe_slice (slK_tup K rfl) (pv 0) po_none (po_some pe_int)) pa_nil)) (pa_cons (pe_callB (callK_maxT K rfl rfl) (by rfl) T.max (by kernel_rfl) (pa_cons (pe_slice (slK_tup K rfl) (pv 0) po_none (po_some pe_int)) pa_nil)) (pa_cons (pe_ix (ixK_tup K rfl) (pv 0) pe_int (fun _ _ => rfl)) pa_nil)))))) pa_nil)) pa_nil))))), ?_⟩
  have hx : xs.length = ts.length := by rw [hD.length, List.length_map]
  refine ⟨_, rfl, a, ns, rfl, hA, by omega, fun l hl3 => ?_⟩
  refine ⟨l, _, rfl, .inl ⟨SqL.of upd_same, fun u hu => ?_⟩⟩
  have s3 := (same_new hl3 (.lst ((sortI ns).map V.int))).trans (same_new hu (.tup ((sortI ns).map V.int)))
  refine ⟨_, rfl, b, rfl, ⟨_, s3.seq hBl⟩, comp_list0 (xs := xs) (fun i ys H' => Same _ H' ∧ IsDs K H' ys (((ts.take i).map loT).map tieD)) ⟨Same.refl _, .nil⟩ (by rw [hx]; exact small1000 (by omega)) (fun i ys H' _ h => ?_) (fun i x ys H' hx h => ?_) (fun ys H' h => ?_)⟩
  · obtain ⟨g, gs⟩ := h
    exact ⟨(s3.trans g).seq hBl, by rw [gs.length, List.length_map, List.length_map, List.length_take]; exact Nat.min_le_left _ _⟩
  · obtain ⟨g, gs⟩ := h
    obtain ⟨d, hd, hx'⟩ := (hD.same (s3.trans g)).get hx
    rw [List.getElem?_map] at hd
    obtain ⟨t, ht, rfl⟩ := Option.map_eq_some_iff.mp hd
    obtain ⟨ta, rfl, hT⟩ := hx'.inv_tie
    refine ⟨_, rfl, 2, rfl, ta, _, rfl, hT, (fun z => absurd (show (2 : Nat) = 3 from z.2) (by decide)), fun u1 hu1 => ?_⟩
    have g1 := same_new hu1 (.tup (cutV [.int t.1, .int t.2.1, .int t.2.2] none (some 2)))
    refine ⟨u1, t.1, t.2.1, rfl, SqT.of upd_same, ?_⟩
    refine ⟨_, rfl, 2, rfl, ta, _, rfl, g1.sqT hT, (fun z => absurd (show (2 : Nat) = 3 from z.2) (by decide)), fun u2 hu2 => ?_⟩
    have g2 := g1.trans (same_new hu2 (.tup (cutV [.int t.1, .int t.2.1, .int t.2.2] none (some 2))))
    refine ⟨u2, t.1, t.2.1, rfl, SqT.of upd_same, ?_⟩
    refine ⟨_, rfl, ta, _, 2, _, rfl, rfl, g2.sqT hT, rfl, line1000 (by show 3 ≤ 1000; decide), fun u3 hu3 => ?_⟩
    have g3 := g2.trans (same_new hu3 (.tup [.int (mn t.1 t.2.1), .int (mx t.1 t.2.1), .int t.2.2]))
    refine ⟨g.trans g3, ?_⟩
    rw [List.take_add_one, ht, List.map_append, List.map_append]
    exact (gs.same g3).append (.cons (IsD.tie (SqT.of upd_same)) .nil)
  · obtain ⟨g, gs⟩ := h
    intro v hv
    rw [hx, List.take_length] at gs
    refine ⟨v, _, rfl, .inl ⟨SqL.of upd_same, fun z hz => ?_⟩⟩
    have g2 := (same_new hv (.lst ys)).trans (same_new hz (.tup ys))
    refine ⟨line1000 (by show 2 ≤ 1000; decide), fun r hr => ?_⟩
    have g3 := g2.trans (same_new hr (.tup [.ref u, .ref z]))
    refine q _ _ (s3.trans (g.trans g3)) (.tup (SqT.of upd_same) (.cons (.tup (SqT.of ?_) (IsDs.ints _)) (.cons (.tup (SqT.of ?_) (gs.same g3)) .nil)))
    · exact g3 _ _ (g _ _ upd_same)
    · exact (same_new hr (.tup [.ref u, .ref z])) _ _ upd_same
/-! ### _law_same: of two of one datum, True -/
mutual
def plainD : PyData → Bool
  | .int _ => true
  | .tuple xs => plainDs xs && decide (xs.length ≤ 1000)
  | .list xs => plainDs xs && decide (xs.length ≤ 1000)
  | _ => false
def plainDs : List PyData → Bool
  | [] => true
  | x :: xs => plainD x && plainDs xs
end
theorem plainDs_get : ∀ {ds : List PyData} {i : Nat} {d : PyData}, plainDs ds = true → ds[i]? = some d → plainD d = true
  | [], _, _, _, e => by simp at e
  | x :: xs, 0, d, h, e => by
    simp at e
    subst e
    exact (Bool.and_eq_true_iff.mp (show (plainD x && plainDs xs) = true from h)).1
  | x :: xs, i + 1, d, h, e => plainDs_get (Bool.and_eq_true_iff.mp (show (plainD x && plainDs xs) = true from h)).2 (by simpa using e)
theorem depthAll_get : ∀ {ds : List PyData} {i : Nat} {d : PyData}, ds[i]? = some d → d.depth ≤ PyData.depthAll ds
  | [], _, _, e => by simp at e
  | x :: xs, 0, d, e => by
    simp at e
    subst e
    exact Nat.le_max_left _ _
  | x :: xs, i + 1, d, e => Nat.le_trans (depthAll_get (ds := xs) (i := i) (by simpa using e)) (Nat.le_max_right _ _)
def sp_same (K : PySem.W.Frag) (n : Nat) : Sp := fun vs H Q _ => ∃ v u d, vs = [v, u] ∧ IsD K H v d ∧ IsD K H u d ∧ plainD d = true ∧ d.depth < n ∧ ∀ H', Same H H' → Q (.bl true) H'
theorem ok_same_step {n : Nat} (F : Fun K "_law_same" "_law_same" s_law_same f fd) (T : Bl mg) (D_law_same : Dfn P w K mg base n "_law_same" ["found", "due"] (sp_same K n)) : FnOk P w K mg base CX0 (n + 1) f fd ["found", "due"] (sp_same K (n + 1)) := by
  refine F.ok sc_law_same (fun vs H Q E h => ?_) (fun cdv A outer s H vs Q E hr h => ?_)
  · obtain ⟨v, u, d, rfl, _⟩ := h
    rfl
  obtain ⟨v, u, d, rfl, hv, hu, hp, hd, q⟩ := h
  refine ⟨_, (pss_cons (ps_if (pt_val (pe_callB call_isiT (by rfl) T.isinstance (by kernel_rfl) (pa_cons (pv 1) (pa_cons (pe_tup (pa_cons (pe_ty (T := "list") rfl T.list (by kernel_rfl)) (pa_cons (pe_ty (T := "tuple") rfl T.tuple (by kernel_rfl)) pa_nil))) pa_nil)))) (pss_cons (ps_if (PW.pt (pw_or (pt_cmpR op_ne (pe_callB call_isi (by rfl) T.isinstance (by kernel_rfl) (pa_cons (pv 0) (pa_cons (pe_ty (T := "list") rfl T.list (by kernel_rfl)) pa_nil))) (pe_callB call_isi (by rfl) T.isinstance (by kernel_rfl) (pa_cons (pv 1) (pa_cons (pe_ty (T := "list") rfl T.list (by kernel_rfl)) pa_nil))) (nomark _)) (pw_or1 (pt_cmpR op_ne (pe_callB call_isi (by rfl) T.isinstance (by kernel_rfl) (pa_cons (pv 0) (pa_cons (pe_ty (T := "tuple") rfl T.tuple (by kernel_rfl)) pa_nil))) (pe_callB call_isi (by rfl) T.isinstance (by kernel_rfl) (pa_cons (pv 1) (pa_cons (pe_ty (T := "tuple") rfl T.tuple (by kernel_rfl)) pa_nil))) (nomark _))))) (pss_one (ps_ret pe_bl)) pss_nil)
      (pss_cons (ps_if (pt_cmpR op_ne (pe_callB call_len (by rfl) T.len (by kernel_rfl) (pa_cons (pv 0) pa_nil)) (pe_callB call_len (by rfl) T.len (by kernel_rfl) (pa_cons (pv 1) pa_nil)) (nomark _)) (pss_one (ps_ret pe_bl)) pss_nil)
      (pss_one (ps_ret (pe_cmpR (op_eqD hr.units) (pe_lcomp rfl (caps := [0, 1]) (blk_ok (sc := defScope s_law_same) (N := ["found", "due"]) rfl rfl rfl (by decide +kernel)) (pi_range1 rfl T.range (pa_cons (pe_callB call_len (by rfl) T.len (by kernel_rfl) (pa_cons (pv 1) pa_nil)) pa_nil)) (fun _ _ _ _ _ => pifs_one (pt_not (pt_val (pe_def D_law_same hr (by omega) rfl (pa_cons (pe_ix (ixK_seq K rfl) (pv 1) (pv 0) (fun _ _ => rfl)) (pa_cons (pe_ix (ixK_seq K rfl) (pv 2) (pv 0) (fun _ _ => rfl)) pa_nil)))))) (fun _ _ _ _ _ => (pv 0))) (pe_lst pa_nil) (nomark _)))))) pss_nil)
      (pss_cons (ps_if (PW.pt (pw_or (pt_cmpR op_isN (pv 1) pe_non (nomark _)) (pw_or1 (pt_val (pe_callB call_isi (by rfl) T.isinstance (by kernel_rfl) (pa_cons (pv 0) (pa_cons (pe_ty (T := "bool") rfl T.bool (by kernel_rfl)) pa_nil))))))) (pss_one (ps_ret (pe_and (pe_cmpR op_isN (pv 0) pe_non (nomark _)) (pe_one (pe_cmpR op_isN (pv 1) pe_non (nomark _)))))) pss_nil)
      (pss_one (ps_ret (pe_and (pe_callB call_isi (by rfl) T.isinstance (by kernel_rfl) (pa_cons (pv 0) (pa_cons (pe_ty (T := "int") rfl T.int (by kernel_rfl)) pa_nil))) (pe_one (pe_cmpR op_eq (pv 0) (pv 1) (nomark _)))))))), ?_⟩
  cases d with
  | int i =>
    cases hv
    cases hu
    refine ⟨_, rfl, line1000 (by show 2 ≤ 1000; decide), fun p hp => ?_⟩
    have s1 := same_new hp (.tup (["list", "tuple"].map V.ty))
    refine ⟨_, p, ["list", "tuple"], _, false, rfl, upd_same, .int i, by kernel_rfl, false, rfl, ifF rfl ?_⟩
    refine ⟨_, rfl, rfl, _, rfl, ifF (decide_eq_false (fun z => by cases z)) ?_⟩
    refine ⟨_, rfl, _, _, _, false, rfl, .int i, by kernel_rfl, false, rfl, ifF rfl ?_⟩
    refine ⟨_, rfl, _, _, _, true, rfl, .int i, by kernel_rfl, true, rfl, ifT rfl ?_⟩
    refine ⟨_, rfl, _, rfl, rfl, ?_⟩
    exact bl_of (Q := Q) (decide_eq_true rfl) (q _ s1)
  | tuple ds =>
    obtain ⟨a, xs, rfl, hA, hAs⟩ := hv.inv_tup
    obtain ⟨b, ys, rfl, hB, hBs⟩ := hu.inv_tup
    have hp' := Bool.and_eq_true_iff.mp (show (plainDs ds && decide (ds.length ≤ 1000)) = true from hp)
    have hlen := of_decide_eq_true hp'.2
    have hd' : PyData.depthAll ds + 1 < n + 1 := hd
    have lx := hAs.length
    have ly := hBs.length
    refine ⟨_, rfl, line1000 (by show 2 ≤ 1000; decide), fun p hpp => ?_⟩
    have s1 := same_new hpp (.tup (["list", "tuple"].map V.ty))
    refine ⟨_, p, ["list", "tuple"], _, true, rfl, upd_same, .tup (s1.sqT hB), by kernel_rfl, true, rfl, ifT rfl ?_⟩
    refine ⟨_, rfl, _, _, _, false, rfl, .tup (s1.sqT hA), by kernel_rfl, _, rfl, _, _, _, false, rfl, .tup (s1.sqT hB), by kernel_rfl, rfl, _, rfl, ifF rfl ?_⟩
    refine ⟨_, rfl, _, _, _, true, rfl, .tup (s1.sqT hA), by kernel_rfl, _, rfl, _, _, _, true, rfl, .tup (s1.sqT hB), by kernel_rfl, rfl, _, rfl, ifF rfl ?_⟩
    refine ⟨_, rfl, _, _, rfl, .inr ⟨_, s1.sqT hA, rfl⟩, _, rfl, _, _, rfl, .inr ⟨_, s1.sqT hB, rfl⟩, rfl, _, rfl, ifF (by rw [lx, ly]; simp) ?_⟩
    refine ⟨_, rfl, _, _, rfl, .inr ⟨_, s1.sqT hB, rfl⟩, _, rfl, by omega, by omega, comp_range (n := (ys.length : Int).toNat) (fun i zs H' => zs = [] ∧ Same (upd H p (.tup (["list", "tuple"].map V.ty))) H') ⟨rfl, Same.refl _⟩ (small1000 (by omega)) (fun i zs H' _ h => by rw [h.1]; exact Nat.zero_le _) (fun i zs H' hi h => ?_) (fun zs H' h => ?_)⟩
    · obtain ⟨rfl, g⟩ := h
      have hiy : i < ys.length := by omega
      have s2 := s1.trans g
      obtain ⟨x, hx, hxi⟩ := atI_any (xs := xs) (i := 0 + (i : Int)) (by omega) (by omega)
      obtain ⟨y, hy, hyi⟩ := atI_any (xs := ys) (i := 0 + (i : Int)) (by omega) (by omega)
      obtain ⟨e, he, ex⟩ := (hAs.same s2).get hxi
      obtain ⟨e', he', ey⟩ := (hBs.same s2).get hyi
      rw [he] at he'
      cases he'
      refine ⟨_, rfl, _, rfl, .inr (.inl ⟨a, xs, _, x, rfl, rfl, s2.sqT hA, hx, _, rfl, _, rfl, .inr (.inl ⟨b, ys, _, y, rfl, rfl, s2.sqT hB, hy, x, y, e, rfl, ex, ey, plainDs_get hp'.1 he, by have := depthAll_get he; omega, fun H3 g3 => ⟨true, rfl, ifF rfl ⟨rfl, g.trans g3⟩⟩⟩)⟩)⟩
    · obtain ⟨rfl, g⟩ := h
      intro r hr'
      have g2 := same_new hr' (.lst [])
      refine ⟨line1000 (by show 0 ≤ 1000; decide), fun z hz => ?_⟩
      have g3 := same_new hz (.lst [])
      refine ⟨.list [], .list [], .lst (SqL.of (g3 _ _ upd_same)) .nil, .lst (SqL.of upd_same) .nil, rfl, rfl, ?_⟩
      exact q _ (s1.trans (g.trans (g2.trans g3)))
  | list ds =>
    obtain ⟨a, xs, rfl, hA, hAs⟩ := hv.inv_lst
    obtain ⟨b, ys, rfl, hB, hBs⟩ := hu.inv_lst
    have hp' := Bool.and_eq_true_iff.mp (show (plainDs ds && decide (ds.length ≤ 1000)) = true from hp)
    have hlen := of_decide_eq_true hp'.2
    have hd' : PyData.depthAll ds + 1 < n + 1 := hd
    have lx := hAs.length
    have ly := hBs.length
    refine ⟨_, rfl, line1000 (by show 2 ≤ 1000; decide), fun p hpp => ?_⟩
    have s1 := same_new hpp (.tup (["list", "tuple"].map V.ty))
    refine ⟨_, p, ["list", "tuple"], _, true, rfl, upd_same, .lst (s1.seq hB), by kernel_rfl, true, rfl, ifT rfl ?_⟩
    refine ⟨_, rfl, _, _, _, true, rfl, .lst (s1.seq hA), by kernel_rfl, _, rfl, _, _, _, true, rfl, .lst (s1.seq hB), by kernel_rfl, rfl, _, rfl, ifF rfl ?_⟩
    refine ⟨_, rfl, _, _, _, false, rfl, .lst (s1.seq hA), by kernel_rfl, _, rfl, _, _, _, false, rfl, .lst (s1.seq hB), by kernel_rfl, rfl, _, rfl, ifF rfl ?_⟩
    refine ⟨_, rfl, _, _, rfl, .inl ⟨_, s1.seq hA, rfl⟩, _, rfl, _, _, rfl, .inl ⟨_, s1.seq hB, rfl⟩, rfl, _, rfl, ifF (by rw [lx, ly]; simp) ?_⟩
    refine ⟨_, rfl, _, _, rfl, .inl ⟨_, s1.seq hB, rfl⟩, _, rfl, by omega, by omega, comp_range (n := (ys.length : Int).toNat) (fun i zs H' => zs = [] ∧ Same (upd H p (.tup (["list", "tuple"].map V.ty))) H') ⟨rfl, Same.refl _⟩ (small1000 (by omega)) (fun i zs H' _ h => by rw [h.1]; exact Nat.zero_le _) (fun i zs H' hi h => ?_) (fun zs H' h => ?_)⟩
    · obtain ⟨rfl, g⟩ := h
      have hiy : i < ys.length := by omega
      have s2 := s1.trans g
      obtain ⟨x, hx, hxi⟩ := atI_any (xs := xs) (i := 0 + (i : Int)) (by omega) (by omega)
      obtain ⟨y, hy, hyi⟩ := atI_any (xs := ys) (i := 0 + (i : Int)) (by omega) (by omega)
      obtain ⟨e, he, ex⟩ := (hAs.same s2).get hxi
      obtain ⟨e', he', ey⟩ := (hBs.same s2).get hyi
      rw [he] at he'
      cases he'
      refine ⟨_, rfl, _, rfl, .inl ⟨a, xs, _, x, rfl, rfl, s2.seq hA, hx, _, rfl, _, rfl, .inl ⟨b, ys, _, y, rfl, rfl, s2.seq hB, hy, x, y, e, rfl, ex, ey, plainDs_get hp'.1 he, by have := depthAll_get he; omega, fun H3 g3 => ⟨true, rfl, ifF rfl ⟨rfl, g.trans g3⟩⟩⟩⟩⟩
    · obtain ⟨rfl, g⟩ := h
      intro r hr'
      have g2 := same_new hr' (.lst [])
      refine ⟨line1000 (by show 0 ≤ 1000; decide), fun z hz => ?_⟩
      have g3 := same_new hz (.lst [])
      refine ⟨.list [], .list [], .lst (SqL.of (g3 _ _ upd_same)) .nil, .lst (SqL.of upd_same) .nil, rfl, rfl, ?_⟩
      exact q _ (s1.trans (g.trans (g2.trans g3)))
  | none => cases hp
  | bool b => cases hp
  | str x => cases hp
  | dict kvs => cases hp
theorem ok_same (F : Fun K "_law_same" "_law_same" s_law_same f fd) (T : Bl mg) (m : mg "_law_same" = some (.ref f)) (k : PySem.W.keepIn K (.ref f) = true) (b : Binds K fd ["found", "due"] []) : ∀ n, FnOk P w K mg base CX0 n f fd ["found", "due"] (sp_same K n)
  | 0 => by
    have no : ∀ vs H Q E, ¬ sp_same K 0 vs H Q E := fun vs H Q E h => by
      obtain ⟨v, u, d, _, _, _, _, hd, _⟩ := h
      omega
    exact ⟨fun vs H Q E h => absurd h (no vs H Q E), fun A outer s H args us vs Q E _ _ _ _ h => absurd h (no vs H Q E)⟩
  | n + 1 => ok_same_step F T ⟨f, fd, ok_same F T m k b n, m, k, b⟩
end
end My

set_option Elab.async false
set_option linter.all false
set_option maxRecDepth 100000
set_option maxHeartbeats 4000000

namespace My
open PySem L2
section
variable {P : Program} {w : World} {K : PySem.W.Frag} {mg : Str → Option Value} {base : Heap} {f : Addr} {fd : FuncData}
/-! ### texts that are bent: how long they are -/
def tot : List Str → Nat
  | [] => 0
  | a :: r => a.length + 1 + tot r
theorem tot_app : ∀ a b : List Str, tot (a ++ b) = tot a + tot b
  | [], b => by simp [tot]
  | x :: r, b => by
    show x.length + 1 + tot (r ++ b) = x.length + 1 + tot r + tot b
    rw [tot_app r b]; omega
theorem tot_ins (ls : List Str) (y : Str) (k : Nat) : tot (ls.take k ++ y :: ls.drop k) = tot ls + (y.length + 1) := by
  have e : tot ls = tot (ls.take k) + tot (ls.drop k) := by rw [← tot_app, List.take_append_drop]
  rw [tot_app, e]
  show _ + (y.length + 1 + tot (ls.drop k)) = _
  omega
theorem tot_erase : ∀ (ls : List Str) (k : Nat), tot (ls.eraseIdx k) ≤ tot ls
  | [], k => by simp [tot]
  | a :: r, 0 => by show tot r ≤ a.length + 1 + tot r; omega
  | a :: r, k + 1 => by
    show a.length + 1 + tot (r.eraseIdx k) ≤ a.length + 1 + tot r
    have := tot_erase r k
    omega
theorem map_erase : ∀ (ls : List Str) (k : Nat), (ls.map V.str).eraseIdx k = (ls.eraseIdx k).map V.str
  | [], k => by simp
  | a :: r, 0 => rfl
  | a :: r, k + 1 => by
    show V.str a :: (r.map V.str).eraseIdx k = V.str a :: (r.eraseIdx k).map V.str
    rw [map_erase r k]
theorem tot_set : ∀ (ls : List Str) (k : Nat) (y : Str), tot (ls.set k y) ≤ tot ls + (y.length + 1)
  | [], k, y => by simp [tot]
  | a :: r, 0, y => by show y.length + 1 + tot r ≤ a.length + 1 + tot r + (y.length + 1); omega
  | a :: r, k + 1, y => by
    show a.length + 1 + tot (r.set k y) ≤ a.length + 1 + tot r + (y.length + 1)
    have := tot_set r k y
    omega
theorem tot_mem : ∀ {ls : List Str} {y : Str}, y ∈ ls → y.length + 1 ≤ tot ls
  | [], y, h => by cases h
  | a :: r, y, h => by
    show _ ≤ a.length + 1 + tot r
    rcases List.mem_cons.mp h with rfl | h
    · omega
    · have := tot_mem h; omega
theorem tot_len : ∀ ls : List Str, ls.length ≤ tot ls
  | [] => Nat.le_refl _
  | a :: r => by
    show r.length + 1 ≤ a.length + 1 + tot r
    have := tot_len r
    omega
theorem sum_tot : ∀ ls : List Str, (ls.map (·.length)).sum + ls.length = tot ls
  | [] => rfl
  | a :: r => by
    have := sum_tot r
    simp only [List.map_cons, List.sum_cons, List.length_cons]
    show _ = a.length + 1 + tot r
    omega
theorem jl_tot (c : Nat) : ∀ ls : List Str, ls ≠ [] → (jl c (ls.map codes)).length + 1 = tot ls
  | [], h => absurd rfl h
  | [x], _ => by show (codes x).length + 1 = x.length + 1 + 0; rw [codes_len]
  | x :: y :: r, _ => by
    show (codes x ++ c :: jl c ((y :: r).map codes)).length + 1 = x.length + 1 + tot (y :: r)
    rw [List.length_append, List.length_cons, codes_len, ← jl_tot c (y :: r) (by simp)]
    omega
theorem tot_split (z : Str) (c : Nat) : tot (Txt.split z ⟨#[c]⟩) = z.length + 1 := by
  rw [← jl_tot c _ (split_ne z c), ← join_codes, StrLaws.join_split, codes_len]
theorem join_tot (c : Nat) (ls : List Str) : (Txt.join ⟨#[c]⟩ ls).length ≤ tot ls := by
  rw [join_eq, ← codes_len, join_codes]
  by_cases h : ls = []
  · rw [h]; exact Nat.le_refl _
  · have := jl_tot c ls h; omega
theorem app_len (x y : Str) : (x ++ y).length = x.length + y.length := by rw [← codes_len, codes_app, List.length_append, codes_len, codes_len]
theorem flat_tot : ∀ ls : List Str, ((ls.map fun l => l ++ ("\n" : Str)).map codes).flatten.length = tot ls
  | [] => rfl
  | a :: r => by
    have := flat_tot r
    simp only [List.map_cons, List.flatten_cons, List.length_append, codes_len, app_len, len_n]
    show _ = a.length + 1 + tot r
    rw [this]
theorem join_nl (ls : List Str) : (Txt.join Str.empty (ls.map fun l => l ++ ("\n" : Str))).length = tot ls := by
  rw [← codes_len, join0_codes, flat_tot]
theorem sum_nl : ∀ ls : List Str, ((ls.map fun l => l ++ ("\n" : Str)).map (·.length)).sum = tot ls
  | [] => rfl
  | a :: r => by
    have := sum_nl r
    simp only [List.map_cons, List.sum_cons, app_len, len_n]
    show _ = a.length + 1 + tot r
    rw [this]
def AllS (B : Nat) (xs : List V) : Prop := ∀ v ∈ xs, ∃ y : Str, v = .str y ∧ y.length ≤ B
theorem allS_of {B : Nat} {L : List Str} (h : L.all (fun y => decide (y.length ≤ B)) = true) : AllS B (L.map V.str) := fun v hv => by
  obtain ⟨y, hy, rfl⟩ := List.mem_map.mp hv
  exact ⟨y, rfl, of_decide_eq_true (List.all_eq_true.mp h y hy)⟩
theorem AllS.mono {b B : Nat} {xs : List V} (h : b ≤ B) (a : AllS b xs) : AllS B xs := fun v hv => let ⟨y, e, l⟩ := a v hv; ⟨y, e, Nat.le_trans l h⟩
theorem AllS.nil {B : Nat} : AllS B [] := fun _ h => by cases h
theorem AllS.cons {B : Nat} {y : Str} {xs : List V} (h : y.length ≤ B) (t : AllS B xs) : AllS B (.str y :: xs) := fun v hv => by
  rcases List.mem_cons.mp hv with rfl | hv
  · exact ⟨y, rfl, h⟩
  · exact t v hv
theorem AllS.app {B : Nat} {xs ys : List V} (a : AllS B xs) (b : AllS B ys) : AllS B (xs ++ ys) := fun v hv => (List.mem_append.mp hv).elim (a v) (b v)
theorem ixN_of {n : Nat} {g : Int} (h0 : 0 ≤ g) (h : g < n) : ixN n g = some g.toNat := by
  unfold ixN
  rw [if_pos h0, if_pos h]
theorem AllS.pick {B : Nat} {H : Hp} {p : Addr} {xs : List V} {g : Int} (q : H p = some (.lst xs)) {n : Nat} (a : AllS B xs) (hn : xs.length = n) (h0 : 0 ≤ g) (h : g < n) : ∃ y, atI xs g = some (.str y) ∧ y.length ≤ B := by
  subst hn
  have hj : g.toNat < xs.length := by omega
  obtain ⟨y, e, hy⟩ := a _ (List.getElem_mem hj)
  refine ⟨y, ?_, hy⟩
  unfold atI
  rw [ixN_of h0 h]
  show xs[g.toNat]? = _
  rw [List.getElem?_eq_getElem hj, e]
theorem upd_get {H HA : Hp} {p : Addr} {o : HO} (e : upd H p o = HA) : HA p = some o := e ▸ upd_same
theorem upd_sm {H HA : Hp} {p : Addr} {o : HO} (h : H p = none) (e : upd H p o = HA) : Same H HA := e ▸ same_new h o
/-- a list of texts of my own beside the drawn row -/
structure Bt (H0 H : Hp) (r pl : Addr) (ls : List Str) : Prop where
  kp : Keep r H0 H
  rw : RowAt H r
  p0 : H0 pl = none
  ne : pl ≠ r
  hp : H pl = some (.lst (ls.map V.str))
theorem Bt.same {H0 H H' : Hp} {r pl : Addr} {ls : List Str} (b : Bt H0 H r pl ls) (s : Same H H') : Bt H0 H' r pl ls := ⟨b.kp.trans (s.keep r), b.rw.same s, b.p0, b.ne, s _ _ b.hp⟩
theorem Bt.keep {H0 H H' : Hp} {r pl : Addr} {ls : List Str} (b : Bt H0 H r pl ls) (k : Keep r H H') (R : RowAt H' r) : Bt H0 H' r pl ls := ⟨b.kp.trans k, R, b.p0, b.ne, k _ _ b.hp b.ne⟩
theorem Bt.put {H0 H : Hp} {r pl : Addr} {ls ls' : List Str} {xs : List V} (b : Bt H0 H r pl ls) (e : xs = ls'.map V.str) : Bt H0 (upd H pl (.lst xs)) r pl ls' := by
  subst e
  refine ⟨fun a o h n => ?_, ?_, b.p0, b.ne, upd_same⟩
  · rw [upd_ne (ne_of_none h b.p0)]
    exact b.kp a o h n
  · obtain ⟨l, hl, z⟩ := b.rw
    exact ⟨l, by rw [upd_ne b.ne.symm]; exact hl, z⟩
theorem Bt.ix {H0 H : Hp} {r pl : Addr} {ls : List Str} {g : Int} (b : Bt H0 H r pl ls) (h0 : 0 ≤ g) (h : g < (ls.map V.str).length) : ∃ y, atI (ls.map V.str) g = some (.str y) ∧ (ls.map V.str)[g.toNat]? = some (.str y) ∧ y.length + 1 ≤ tot ls := by
  rw [List.length_map] at h
  have hj : g.toNat < ls.length := by omega
  have e : (ls.map V.str)[g.toNat]? = some (.str ls[g.toNat]) := by rw [List.getElem?_map, List.getElem?_eq_getElem hj]; rfl
  refine ⟨ls[g.toNat], ?_, e, tot_mem (List.getElem_mem hj)⟩
  unfold atI
  rw [ixN_of h0 (by rw [List.length_map]; exact h)]
  exact e
theorem dg_1002 {g : Int} (h0 : 0 ≤ g) (h1 : g < 1002) : (dg g).length ≤ 4 ∧ g.natAbs.log2 < 1920 := by
  refine ⟨?_, by have := Nat.log2_le_self g.natAbs; omega⟩
  by_cases h : g ≤ 1000
  · exact dg_len (fig_ok h0 h)
  · have e : g = 1001 := by omega
    rw [e]
    decide +kernel
def litX : List Expr → List Str
  | .Constant (.str x) _ _ :: es => x :: litX es
  | _ => []
def litR : List Expr → List Expr
  | .Constant (.str _) _ _ :: es => litR es
  | es => es
def tPre (xs : List Str) (t : TA) : TA := fun σ H Q => t σ H fun ys H2 => Q (xs.map V.str ++ ys) H2
theorem pa_pre {X : Cx} {t : TA} : ∀ {es : List Expr}, PA X (litR es) t → PA X es (tPre (litX es) t)
  | [], h => h
  | e :: es, h => by
    cases e with
    | Constant c k p =>
      cases c with
      | str x => exact pa_cons pe_str (pa_pre (es := es) h) rfl
      | _ => exact h
    | _ => exact h
end
end My

set_option Elab.async false
set_option linter.all false
set_option maxRecDepth 100000
set_option maxHeartbeats 4000000

namespace My
open PySem L2
section
variable {P : Program} {w : World} {K : PySem.W.Frag} {mg : Str → Option Value} {base : Heap} {f : Addr} {fd : FuncData}
/-! ### the rules once more, closed against unfolding: for texts with long lists of literals -/
structure PAW (X : Cx) (es : List Expr) (t : TA) : Prop where
  h : PA X es t
structure PEW (X : Cx) (e : Expr) (t : TE) : Prop where
  h : PE X e t
structure PSW (X : Cx) (st : Stmt) (t : TS) : Prop where
  h : PS X st t
structure PSsW (X : Cx) (ss : List Stmt) (t : TS) : Prop where
  h : PSs X ss t
theorem wa_nil {X : Cx} : PAW X [] tNil := ⟨pa_nil⟩
theorem wa_cons {X : Cx} {e : Expr} {es : List Expr} {te : TE} {t : TA} (ha : PE X e te) (hr : PAW X es t) (hs : starEach (e :: es) X.env = (false, eval e X.env) :: starEach es X.env := by rfl) : PAW X (e :: es) (tCons te t) := ⟨pa_cons ha hr.h hs⟩
theorem wa_pre {X : Cx} {t : TA} {es : List Expr} (h : PAW X (litR es) t) : PAW X es (tPre (litX es) t) := ⟨pa_pre h.h⟩
theorem we_lst {X : Cx} {es : List Expr} {t : TA} {pos : Pos} (h : PAW X es t) : PEW X (.List es pos) (tLst t) := ⟨pe_lst h.h⟩
theorem we_op {X : Cx} {a b : Expr} {ta tb : TE} {pos : Pos} {op : Operator} {r : R2} (ho : OpR X (binaryOp op) r) (ha : PE X a ta) (hb : PEW X b tb) : PEW X (.BinOp a op b pos) (tOp r ta tb) := ⟨pe_op ho ha hb.h⟩
theorem ws_set {X : Cx} {pos : Pos} {i : Nat} {x : Str} {e : Expr} {te : TE} {pos' : Pos} (hN : X.N.Nodup) (hi : X.N[i]? = some x) (hx : Loc X.env.scope x) (he : PEW X e te) (hs : swapsWith e (some (.Name x pos')) pos.line X.env = pure false := by rfl) (hf : X.fn x = true ∨ X.env.scope.names.lookup x = some .local := by first | exact .inl rfl | exact .inr rfl | assumption) :
    PSW X (.Assign [.Name x pos'] e pos) (tAsg te (gName i)) := ⟨ps_set hN hi hx he.h hs hf⟩
theorem ws_ret {X : Cx} {e : Expr} {te : TE} {pos : Pos} (he : PEW X e te) : PSW X (.Return (some e) pos) (tRet te) := ⟨ps_ret he.h⟩
theorem wss_cons {X : Cx} {st : Stmt} {rest : List Stmt} {t u : TS} (h1 : PSW X st t) (h2 : PSsW X rest u) : PSsW X (st :: rest) (tSeq t u) := ⟨pss_cons h1.h h2.h⟩
theorem wss_one {X : Cx} {st : Stmt} {t : TS} (h1 : PSW X st t) : PSsW X [st] t := ⟨pss_one h1.h⟩
theorem we_ix {X : Cx} {a b : Expr} {ta tb : TE} {pos : Pos} {r : R2} (hr : IxR X r) (ha : PEW X a ta) (hb : PE X b tb) (hs : PlainIx b) : PEW X (.Subscript a b pos) (tOp r ta tb) := ⟨pe_ix hr ha.h hb hs⟩
theorem ws_if {X : Cx} {c : Expr} {as bs : List Stmt} {pos : Pos} {tc : TT} {t u : TS} (hc : PT X c tc) (h1 : PSsW X as t) (h2 : PSsW X bs u) : PSW X (.If c as bs pos) (tIfS tc t u) := ⟨ps_if hc h1.h h2.h⟩
end
end My

set_option Elab.async false
set_option linter.all false
set_option maxRecDepth 100000
set_option maxHeartbeats 4000000

namespace My
open PySem L2
section
variable {P : Program} {w : World} {K : PySem.W.Frag} {mg : Str → Option Value} {base : Heap} {f : Addr} {fd : FuncData}
/-! ### _law_odd_word -/
def sp_oddw : Sp := fun vs H Q _ => ∃ r, vs = [.ref r] ∧ RowAt H r ∧ ∀ (y : Str) H', y.length ≤ 5000 → Keep r H H' → RowAt H' r → Q (.str y) H'
theorem ok_odd_word (F : Fun K "_law_odd_word" "_law_odd_word" s_law_odd_word f fd) (T : Bl mg) (D_law_take : Dfn P w K mg base 1 "_law_take" ["row", "many"] sp_take) : FnOk P w K mg base CX0 2 f fd ["row"] sp_oddw := by
  refine F.ok sc_law_odd_word (fun vs H Q E h => ?_) (fun cdv A outer s H vs Q E hr h => ?_)
  · obtain ⟨r, rfl, _⟩ := h
    rfl
  obtain ⟨r, rfl, hR, q⟩ := h
  refine ⟨_, (PSsW.h (wss_cons (ws_set (i := 1) sc_law_odd_word.nd rfl (Or.inl rfl) (.mk (pe_callTy call_str_int (by rfl) T.str (by kernel_rfl) (pa_cons (pe_def D_law_take hr (by omega) rfl (pa_cons (pv 0) (pa_cons pe_int pa_nil))) pa_nil)))) (wss_cons (ws_set (i := 2) sc_law_odd_word.nd rfl (Or.inl rfl) (we_lst (wa_pre wa_nil))) (wss_cons (ws_set (i := 2) sc_law_odd_word.nd rfl (Or.inl rfl) (we_op op_cat (pv 2) (we_lst (wa_pre (wa_cons (pv 1) (wa_cons pe_str (wa_cons pe_str wa_nil))))))) (wss_cons (ws_set (i := 2) sc_law_odd_word.nd rfl (Or.inl rfl) (we_op op_cat (pv 2) (we_lst (wa_cons (pe_op op_mul_str pe_str pe_int) (wa_cons (pe_op op_mul_str pe_str pe_int) wa_nil))))) (wss_one (ws_ret (.mk (pe_ix ix_list (pv 2) (pe_def D_law_take hr (by omega) rfl (pa_cons (pv 0) (pa_cons pe_int pa_nil))) (fun _ _ => rfl)))))))))), ?_⟩
  refine ⟨_, rfl, r, 1002, rfl, hR, by decide, by decide, fun g H1 g0 g1 k1 R1 => ?_⟩
  obtain ⟨hw, lg⟩ := dg_1002 g0 g1
  have hw5 : (Str.ofString (toString g)).length ≤ 5000 := Nat.le_trans hw (by decide)
  refine ⟨g, rfl, lg, ?_⟩
  generalize Str.ofString (toString g) = wd at hw5 ⊢
  refine ⟨line1000 (by show 16 ≤ 1000; decide), fun p1 h1 => ?_⟩
  generalize e1 : upd _ p1 _ = H2
  have u1 := upd_sm h1 e1
  have q1 := upd_get e1
  refine ⟨_, rfl, _, rfl, line1000 (by show 13 ≤ 1000; decide), fun p2 h2 => ?_⟩
  generalize e2 : upd _ p2 _ = H3
  have u2 := upd_sm h2 e2
  have q2 := upd_get e2
  refine ⟨p1, p2, _, _, rfl, rfl, u2 _ _ q1, q2, line1000 (by show 16 + 13 ≤ 1000; decide), fun p3 h3 => ?_⟩
  generalize e3 : upd _ p3 _ = H4
  have u3 := upd_sm h3 e3
  have q3 := upd_get e3
  refine ⟨_, rfl, ("9" : Str), 30, rfl, rfl, by decide, by decide, by decide, by decide, fun z1 l1 => ⟨("9" : Str), 5000, rfl, rfl, by decide, by decide, by decide, by decide, fun z2 l2 => ⟨line1000 (by show 2 ≤ 1000; decide), fun p4 h4 => ?_⟩⟩⟩
  have c9 : ("9" : Str).length = 1 := by decide
  have l1' : z1.length ≤ 5000 := by rw [l1, c9]; decide
  have l2' : z2.length ≤ 5000 := by rw [l2, c9]; decide
  generalize e4 : upd _ p4 _ = H5
  have u4 := upd_sm h4 e4
  have q4 := upd_get e4
  refine ⟨p3, p4, _, _, rfl, rfl, u4 _ _ q3, q4, line1000 (by show 29 + 2 ≤ 1000; decide), fun p5 h5 => ?_⟩
  generalize e5 : upd _ p5 _ = H6
  have u5 := upd_sm h5 e5
  have q5 := upd_get e5
  have u15 := u1.trans (u2.trans (u3.trans (u4.trans u5)))
  have R6 := R1.same u15
  have n5 : p5 ≠ r := (R1.same (u1.trans (u2.trans (u3.trans u4)))).ne h5
  refine ⟨_, rfl, _, rfl, r, 31, rfl, R6, by decide, by decide, fun g2 H7 a0 a1 k7 R7 => ?_⟩
  have q7 := k7 _ _ q5 n5
  obtain ⟨y, ey, hy⟩ := AllS.pick (B := 5000) q7 (by repeat (first | exact AllS.nil | exact AllS.mono (b := 40) (by omega) (allS_of (by decide +kernel)) | refine AllS.app ?_ ?_ | refine AllS.cons (by assumption) ?_ | refine AllS.cons (Nat.le_trans (m := 40) (by decide) (by omega)) ?_ )) (by rfl) a0 a1
  exact ⟨p5, _, g2, .str y, rfl, rfl, SqL.of q7, ey, q y H7 hy (k1.trans ((u15.keep r).trans k7)) R7⟩
end
end My

set_option Elab.async false
set_option linter.all false
set_option maxRecDepth 100000
set_option maxHeartbeats 4000000

namespace My
open PySem L2
section
variable {P : Program} {w : World} {K : PySem.W.Frag} {mg : Str → Option Value} {base : Heap} {f : Addr} {fd : FuncData}
/-! ### _law_odd_line -/
def sp_oddl : Sp := fun vs H Q _ => ∃ r a xs, ∃ w : Str, vs = [.ref r, .ref a] ∧ RowAt H r ∧ a ≠ r ∧ H a = some (.lst xs) ∧ xs[0]? = some (.str w) ∧ w.length ≤ 100000 ∧ ∀ (y : Str) H', y.length ≤ 4 * w.length + 5010 → Keep r H H' → RowAt H' r → Q (.str y) H'
theorem ok_odd_line (F : Fun K "_law_odd_line" "_law_odd_line" s_law_odd_line f fd) (T : Bl mg) (D_law_take : Dfn P w K mg base 1 "_law_take" ["row", "many"] sp_take) : FnOk P w K mg base CX0 2 f fd ["row", "lines"] sp_oddl := by
  refine F.ok sc_law_odd_line (fun vs H Q E h => ?_) (fun cdv A outer s H vs Q E hr h => ?_)
  · obtain ⟨r, a, xs, w, rfl, _⟩ := h
    rfl
  obtain ⟨r, a, xs, w, rfl, hR, hn, hA, h0, hw9, q⟩ := h
  refine ⟨_, (PSsW.h (wss_cons (ws_set (i := 2) sc_law_odd_line.nd rfl (Or.inl rfl) (.mk (pe_callTy call_str_int (by rfl) T.str (by kernel_rfl) (pa_cons (pe_def D_law_take hr (by omega) rfl (pa_cons (pv 0) (pa_cons pe_int pa_nil))) pa_nil)))) (wss_cons (ws_set (i := 3) sc_law_odd_line.nd rfl (Or.inl rfl) (we_lst (wa_pre wa_nil))) (wss_cons (ws_set (i := 3) sc_law_odd_line.nd rfl (Or.inl rfl) (we_op op_cat (pv 3) (we_lst (wa_pre wa_nil)))) (wss_cons (ws_set (i := 3) sc_law_odd_line.nd rfl (Or.inl rfl) (we_op op_cat (pv 3) (we_lst (wa_pre wa_nil)))) (wss_cons (ws_set (i := 3) sc_law_odd_line.nd rfl (Or.inl rfl) (we_op op_cat (pv 3) (we_lst (wa_cons (pe_op op_add_str pe_str (pe_op op_mul_str pe_str pe_int)) (wa_cons (pe_op op_add_str pe_str (pv 2)) (wa_pre wa_nil)))))) (wss_cons (ws_set (i := 3) sc_law_odd_line.nd rfl (Or.inl rfl) (we_op op_cat (pv 3) (we_lst (wa_cons (pe_repl (pv 1)) (wa_cons (pe_op op_add_str pe_str (pe_op op_mul_str pe_str pe_int)) wa_nil))))) (wss_one (ws_ret (.mk (pe_ix ix_list (pv 3) (pe_def D_law_take hr (by omega) rfl (pa_cons (pv 0) (pa_cons pe_int pa_nil))) (fun _ _ => rfl)))))))))))), ?_⟩
  refine ⟨_, rfl, r, 1002, rfl, hR, by decide, by decide, fun g H1 g0 g1 k1 R1 => ?_⟩
  obtain ⟨hw, lg⟩ := dg_1002 g0 g1
  have A1 := k1 _ _ hA hn
  refine ⟨g, rfl, lg, ?_⟩
  have hw : (Str.ofString (toString g)).length ≤ 4 := hw
  generalize Str.ofString (toString g) = wd at hw ⊢
  refine ⟨line1000 (by show 10 ≤ 1000; decide), fun p1 h1 => ?_⟩
  generalize e1 : upd _ p1 _ = H2
  have u1 := upd_sm h1 e1
  have q1 := upd_get e1
  refine ⟨_, rfl, line1000 (by show 7 ≤ 1000; decide), fun p2 h2 => ?_⟩
  generalize e2 : upd _ p2 _ = H3
  have u2 := upd_sm h2 e2
  have q2 := upd_get e2
  refine ⟨p1, p2, _, _, rfl, rfl, u2 _ _ q1, q2, line1000 (by show 10 + 7 ≤ 1000; decide), fun p3 h3 => ?_⟩
  generalize e3 : upd _ p3 _ = H4
  have u3 := upd_sm h3 e3
  have q3 := upd_get e3
  refine ⟨_, rfl, line1000 (by show 7 ≤ 1000; decide), fun p4 h4 => ?_⟩
  generalize e4 : upd _ p4 _ = H5
  have u4 := upd_sm h4 e4
  have q4 := upd_get e4
  refine ⟨p3, p4, _, _, rfl, rfl, u4 _ _ q3, q4, line1000 (by show 17 + 7 ≤ 1000; decide), fun p5 h5 => ?_⟩
  generalize e5 : upd _ p5 _ = H6
  have u5 := upd_sm h5 e5
  have q5 := upd_get e5
  have c1 : ("1" : Str).length = 1 := by decide
  refine ⟨_, rfl, ("1" : Str), 40, rfl, rfl, by decide, by decide, by decide, by decide, fun z1 l1 => ?_⟩
  have l1 : z1.length = 40 := by rw [l1, c1]; decide
  refine ⟨_, _, rfl, rfl, line1000 (by rw [len_b]; omega), _, rfl, _, _, rfl, rfl, line1000 (by rw [len_b]; omega), line1000 (by show 5 ≤ 1000; decide), fun p6 h6 => ?_⟩
  generalize e6 : upd _ p6 _ = H7
  have u6 := upd_sm h6 e6
  have q6 := upd_get e6
  refine ⟨p5, p6, _, _, rfl, rfl, u6 _ _ q5, q6, line1000 (by show 24 + 5 ≤ 1000; decide), fun p7 h7 => ?_⟩
  generalize e7 : upd _ p7 _ = H8
  have u7 := upd_sm h7 e7
  have q7 := upd_get e7
  have u17 := u1.trans (u2.trans (u3.trans (u4.trans (u5.trans (u6.trans u7)))))
  refine ⟨_, rfl, _, rfl, a, xs, w, rfl, SqL.of (u17 _ _ A1), h0, by omega, by decide, by decide, fun zr hzr => ?_⟩
  refine ⟨("1" : Str), 5000, rfl, rfl, by decide, by decide, by decide, by decide, fun z2 l2 => ?_⟩
  have l2 : z2.length = 5000 := by rw [l2, c1]; decide
  refine ⟨_, _, rfl, rfl, Nat.le_trans (by rw [len_b, l2]; exact Nat.le_refl 5007) (show 5007 ≤ sizeLine by decide), line1000 (by show 2 ≤ 1000; decide), fun p8 h8 => ?_⟩
  generalize e8 : upd _ p8 _ = H9
  have u8 := upd_sm h8 e8
  have q8 := upd_get e8
  refine ⟨p7, p8, _, _, rfl, rfl, u8 _ _ q7, q8, line1000 (by show 29 + 2 ≤ 1000; decide), fun p9 h9 => ?_⟩
  generalize e9 : upd _ p9 _ = H10
  have u9 := upd_sm h9 e9
  have q9 := upd_get e9
  have u19 := u17.trans (u8.trans u9)
  have n9 : p9 ≠ r := (R1.same (u17.trans u8)).ne h9
  refine ⟨_, rfl, _, rfl, r, 31, rfl, R1.same u19, by decide, by decide, fun g2 H11 a0 a1 k2 R2 => ?_⟩
  have qq := k2 _ _ q9 n9
  have i1 : (("bridge " : Str) ++ z1).length ≤ 4 * w.length + 5010 := by rw [app_len, len_b]; omega
  have i2 : (("bridge " : Str) ++ wd).length ≤ 4 * w.length + 5010 := by rw [app_len, len_b]; omega
  have i3 : zr.length ≤ 4 * w.length + 5010 := by
    have : ("tie" : Str).length = 3 := by decide
    rw [this] at hzr
    omega
  have i4 : (("bridge " : Str) ++ z2).length ≤ 4 * w.length + 5010 := by rw [app_len, len_b]; omega
  have cc : ∀ {y : Str} {ys : List V}, y.length ≤ 40 → AllS (4 * w.length + 5010) ys → AllS (4 * w.length + 5010) (.str y :: ys) := fun h t => AllS.cons (by omega) t
  obtain ⟨y, ey, hy⟩ := AllS.pick (B := 4 * w.length + 5010) qq (by repeat (first | exact AllS.nil | exact AllS.mono (b := 40) (by omega) (allS_of (by decide +kernel)) | refine AllS.app ?_ ?_ | refine AllS.cons (by assumption) ?_ | refine AllS.cons (Nat.le_trans (m := 40) (by decide) (by omega)) ?_ )) (by rfl) a0 a1
  exact ⟨p9, _, g2, .str y, rfl, rfl, SqL.of qq, ey, q y H11 hy (k1.trans ((u19.keep r).trans k2)) R2⟩
end
end My

set_option Elab.async false
set_option linter.all false
set_option maxRecDepth 100000
set_option maxHeartbeats 4000000

namespace My
open PySem L2
section
variable {P : Program} {w : World} {K : PySem.W.Frag} {mg : Str → Option Value} {base : Heap} {f : Addr} {fd : FuncData}
theorem at_some {α : Type} {l : List α} {g : Int} (h0 : 0 ≤ g) (h : g < l.length) : ∃ c, atI l g = some c := by
  have hj : g.toNat < l.length := by omega
  refine ⟨l[g.toNat], ?_⟩
  unfold atI
  rw [ixN_of h0 h]
  exact List.getElem?_eq_getElem hj
theorem same_none {H H1 : Hp} {p : Addr} (s : Same H H1) (h : H1 p = none) : H p = none := by
  cases e : H p with
  | none => rfl
  | some o => rw [s _ _ e] at h; cases h
theorem nl_comp {a : Addr} {us : List Str} {cap : St} {te : TE} {Fin : List V → Hp → Prop} {H : Hp} (hq : H a = some (.lst (us.map V.str))) (hl : tot us ≤ 900000) (hs : ∀ (l : Str) (Q : VK), l.length + ("
" : Str).length ≤ sizeLine → Q (.str (l ++ ("
" : Str))) H → te (some (.str l) :: cap) H Q) (hd : Fin ((us.map fun l => l ++ ("
" : Str)).map V.str) H) : ∃ W : Nat → Nat → List V → Hp → Prop, (∃ m, W 0 m [] H) ∧ CompW (Itl K a) cap tAll te Fin W := by
  have lw : (us.map V.str).length = us.length := List.length_map _
  have l9 := tot_len us
  have big : (1000002 : Nat) < sizeLine := by decide
  refine comp_list0 (xs := us.map V.str) (fun i ys H' => H' = H ∧ ys = ((us.take i).map fun l => l ++ ("
" : Str)).map V.str) ⟨rfl, rfl⟩ (by omega) (fun i ys H' _ h => ?_) (fun i x ys H' hx h => ?_) (fun ys H' h => ?_)
  · obtain ⟨rfl, rfl⟩ := h
    exact ⟨SqL.of hq, by rw [List.length_map, List.length_map, List.length_take]; exact Nat.min_le_left _ _⟩
  · obtain ⟨rfl, rfl⟩ := h
    obtain ⟨l, rfl, hu⟩ := get_str hx
    have tm := tot_mem (List.mem_of_getElem? hu)
    refine hs l _ (by rw [len_n]; omega) ⟨rfl, ?_⟩
    rw [List.take_add_one, hu]
    simp
  · obtain ⟨rfl, rfl⟩ := h
    rw [lw, List.take_length]
    exact hd
/-! ### _law_words_bent -/
def sp_wbent : Sp := fun vs H Q _ => ∃ r, ∃ l : Str, vs = [.ref r, .str l] ∧ RowAt H r ∧ l.length ≤ 100000 ∧ ∀ (y : Str) H', y.length ≤ 3 * l.length + 5010 → Keep r H H' → RowAt H' r → Q (.str y) H'
theorem ok_words_bent (F : Fun K "_law_words_bent" "_law_words_bent" s_law_words_bent f fd) (T : Bl mg) (D_law_take : Dfn P w K mg base 1 "_law_take" ["row", "many"] sp_take) (D_law_odd_word : Dfn P w K mg base 2 "_law_odd_word" ["row"] sp_oddw) : FnOk P w K mg base CX0 3 f fd ["row", "line"] sp_wbent := by
  refine F.ok sc_law_words_bent (fun vs H Q E h => ?_) (fun cdv A outer s H vs Q E hr h => ?_)
  · obtain ⟨r, l, rfl, _⟩ := h
    rfl
  obtain ⟨r, l, rfl, hR, hl9, q⟩ := h
  refine ⟨_, (PSsW.h (wss_cons (ws_set (i := 2) sc_law_words_bent.nd rfl (Or.inl rfl) (.mk (pe_bm PySem.F.plainAttrs_str PySem.F.slot_str_split PySem.F.type_str_split mt_split (pv 1) (pa_cons pe_str pa_nil)))) (wss_cons (ws_set (i := 3) sc_law_words_bent.nd rfl (Or.inl rfl) (.mk (pe_def D_law_take hr (by omega) rfl (pa_cons (pv 0) (pa_cons (pe_callB call_len (by rfl) T.len (by kernel_rfl) (pa_cons (pv 2) pa_nil)) pa_nil))))) (wss_cons (ws_set (i := 4) sc_law_words_bent.nd rfl (Or.inl rfl) (.mk (pe_def D_law_take hr (by omega) rfl (pa_cons (pv 0) (pa_cons pe_int pa_nil))))) (wss_cons (ws_if (pt_cmpR op_eq (pv 4) pe_int (nomark _)) (wss_one (.mk (ps_expr (pe_bm PySem.F.plainAttrs_list PySem.F.slot_list_insert PySem.F.type_list_insert mt_insert (pv 2) (pa_cons (pv 3) (pa_cons (pe_def D_law_odd_word hr (by omega) rfl (pa_cons (pv 0) pa_nil)) pa_nil)))))) (wss_one (ws_if (pt_cmpR op_eq (pv 4) pe_int (nomark _)) (wss_one (.mk (ps_expr (pe_bm PySem.F.plainAttrs_list PySem.F.slot_list_pop PySem.F.type_list_pop mt_popAt (pv 2) (pa_cons (pv 3) pa_nil))))) (wss_one (ws_if (pt_cmpR op_eq (pv 4) pe_int (nomark _)) (wss_one (.mk (ps_asg (pe_def D_law_odd_word hr (by omega) rfl (pa_cons (pv 0) pa_nil)) (pg_sub (pv 2) (pv 3) set_list)))) (wss_cons (ws_set (i := 5) sc_law_words_bent.nd rfl (Or.inl rfl) (.mk (pe_ix ix_list (pv 2) (pv 3) (fun _ _ => rfl)))) (wss_cons (ws_set (i := 6) sc_law_words_bent.nd rfl (Or.inl rfl) (.mk (pe_def D_law_take hr (by omega) rfl (pa_cons (pv 0) (pa_cons (pe_op op_add (pe_callB call_len (by rfl) T.len (by kernel_rfl) (pa_cons (pv 5) pa_nil)) pe_int) pa_nil))))) (wss_cons (ws_set (i := 7) sc_law_words_bent.nd rfl (Or.inl rfl) (.mk pe_str)) (wss_cons (ws_set (i := 7) sc_law_words_bent.nd rfl (Or.inl rfl) (.mk (pe_op op_add_str (pv 7) pe_str))) (wss_cons (ws_set (i := 8) sc_law_words_bent.nd rfl (Or.inl rfl) (we_ix ix_list (we_lst (wa_pre (wa_cons (pe_ix ix_str (pv 7) (pe_def D_law_take hr (by omega) rfl (pa_cons (pv 0) (pa_cons pe_int pa_nil))) (fun _ _ => rfl)) wa_nil))) (pe_def D_law_take hr (by omega) rfl (pa_cons (pv 0) (pa_cons pe_int pa_nil))) (fun _ _ => rfl))) (wss_cons (ws_set (i := 9) sc_law_words_bent.nd rfl (Or.inl rfl) (.mk (pe_slice sl_str (pv 5) (po_some (pe_op op_add (pv 6) (pe_def D_law_take hr (by omega) rfl (pa_cons (pv 0) (pa_cons pe_int pa_nil))))) po_none))) (wss_one (.mk (ps_asg (pe_op op_add_str (pe_op op_add_str (pe_slice sl_str (pv 5) po_none (po_some (pv 6))) (pv 8)) (pv 9)) (pg_sub (pv 2) (pv 3) set_list))))))))))))))) (wss_one (ws_ret (.mk (pe_bm PySem.F.plainAttrs_str PySem.F.slot_str_join PySem.F.type_str_join mt_join pe_str (pa_cons (pv 2) pa_nil)))))))))), ?_⟩
  have c32 : (" " : Str) = ⟨#[32]⟩ := by decide
  have big : (1000002 : Nat) < sizeLine := by decide
  refine ⟨_, rfl, rfl, l, 32, rfl, congrArg (fun z => [V.str z]) c32, by omega, fun pw hw => ?_⟩
  generalize e1 : upd _ pw _ = H1
  have b1 : Bt H H1 r pw (Txt.split l ⟨#[32]⟩) := ⟨(upd_sm hw e1).keep r, hR.same (upd_sm hw e1), hw, hR.ne hw, upd_get e1⟩
  have tl := tot_split l 32
  have ne := split_ne l 32
  generalize Txt.split l ⟨#[32]⟩ = ws at b1 tl ne
  have lw : (ws.map V.str).length = ws.length := List.length_map _
  have l1 : 1 ≤ ws.length := Nat.pos_of_ne_zero fun e => ne (List.length_eq_zero_iff.mp e)
  have l9 := tot_len ws
  have wsum : ∀ us : List Str, tot us ≤ 3 * l.length + 5010 → (us.map (·.length)).sum + us.length * (" " : Str).length ≤ 16777216 := fun us h => by
    have := sum_tot us
    rw [len_s]
    omega
  have wout : ∀ {us : List Str} {H' : Hp}, Bt H H' r pw us → tot us ≤ 3 * l.length + 5010 → Q (.str (Txt.join (" " : Str) us)) H' := fun {us H'} b h => by
    rw [c32]
    exact q _ H' (Nat.le_trans (join_tot 32 us) h) b.kp b.rw
  refine ⟨_, rfl, _, rfl, _, _, rfl, .inl ⟨_, SqL.of b1.hp, rfl⟩, r, _, rfl, b1.rw, by rw [lw]; omega, by rw [lw]; omega, fun g H2 g0 g1 k2 R2 => ?_⟩
  have b2 := b1.keep k2 R2
  obtain ⟨old, eo, eo2, lo⟩ := b2.ix g0 g1
  have hix := ixN_of g0 g1
  refine ⟨_, rfl, r, 4, rfl, b2.rw, by decide, by decide, fun kd H3 _ _ k3 R3 => ?_⟩
  have b3 := b2.keep k3 R3
  refine ⟨_, rfl, rfl, _, rfl, ite2 (fun _ => ?_) (fun _ => ?_)⟩
  · refine ⟨_, rfl, .inl ⟨rfl, _, SqL.of b3.hp⟩, _, rfl, _, rfl, r, rfl, b3.rw, fun y H4 yl k4 R4 => ?_⟩
    have b4 := b3.keep k4 R4
    refine ⟨pw, _, g, .str y, rfl, rfl, b4.hp, g0, by omega, by omega, ?_⟩
    have b5 := b4.put (ls' := ws.take g.toNat ++ y :: ws.drop g.toNat) (xs := (ws.map V.str).take g.toNat ++ .str y :: (ws.map V.str).drop g.toNat) (by rw [List.map_append, List.map_cons, List.map_take, List.map_drop])
    have t5 := tot_ins ws y g.toNat
    exact ⟨rfl, _, rfl, (" " : Str), pw, _, rfl, rfl, SqL.of b5.hp, wsum _ (by omega), wout b5 (by omega)⟩
  refine ⟨_, rfl, rfl, _, rfl, ite2 (fun _ => ?_) (fun _ => ?_)⟩
  · have hs := ixN_seq hix
    refine ⟨_, rfl, .inl ⟨rfl, _, SqL.of b3.hp⟩, _, rfl, pw, _, g, g.toNat, .str old, rfl, rfl, b3.hp, by omega, by omega, hs.1, eo2, ?_⟩
    have b5 := b3.put (map_erase ws g.toNat)
    have t5 := tot_erase ws g.toNat
    exact ⟨rfl, _, rfl, (" " : Str), pw, _, rfl, rfl, SqL.of b5.hp, wsum _ (by omega), wout b5 (by omega)⟩
  refine ⟨_, rfl, rfl, _, rfl, ite2 (fun _ => ?_) (fun _ => ?_)⟩
  · refine ⟨_, rfl, r, rfl, b3.rw, fun y H4 yl k4 R4 => ?_⟩
    have b4 := b3.keep k4 R4
    refine ⟨_, rfl, _, rfl, pw, _, g, g.toNat, rfl, rfl, b4.hp, hix, ?_⟩
    have b5 := b4.put (ls' := ws.set g.toNat y) (xs := (ws.map V.str).set g.toNat (.str y)) List.map_set.symm
    have t5 := tot_set ws g.toNat y
    exact ⟨rfl, _, rfl, (" " : Str), pw, _, rfl, rfl, SqL.of b5.hp, wsum _ (by omega), wout b5 (by omega)⟩
  refine ⟨_, rfl, _, rfl, pw, _, g, .str old, rfl, rfl, SqL.of b3.hp, eo, ?_⟩
  refine ⟨_, rfl, _, rfl, _, _, rfl, ⟨by omega, rfl⟩, _, _, rfl, rfl, r, _, rfl, b3.rw, by omega, by omega, fun sp H4 s0 s1 k4 R4 => ?_⟩
  have b4 := b3.keep k4 R4
  refine ⟨_, rfl, _, _, rfl, rfl, line1000 (by decide +kernel), ?_⟩
  refine ⟨_, rfl, _, rfl, r, 94, rfl, b4.rw, by decide, by decide, fun gs H5 a0 a1 k5 R5 => ?_⟩
  have b5 := b4.keep k5 R5
  obtain ⟨c, ec⟩ := at_some (l := codes ((" !\"#$&'()*+,-./0123456789:;<=>?@ABCDEFGHIJKLMNOPQRSTUVWXYZ[\\]^_`" : Str) ++ ("abcdefghijklmnopqrstuvwxyz{|}~" : Str))) a0 a1
  refine ⟨_, gs, c, rfl, rfl, line1000 (by decide +kernel), ec, line1000 (by show 9 ≤ 1000; decide), fun p6 h6 => ?_⟩
  generalize e6 : upd _ p6 _ = H6
  have u6 := upd_sm h6 e6
  have q6 := upd_get e6
  have b6 := b5.same u6
  refine ⟨_, rfl, r, 9, rfl, b6.rw, by decide, by decide, fun g9 H7 c0 c1 k7 R7 => ?_⟩
  have b7 := b6.keep k7 R7
  have q7 := k7 _ _ q6 (b5.rw.ne h6)
  have c1' : ((⟨#[c]⟩ : Str)).length ≤ 1 := Nat.le_refl 1
  obtain ⟨sg, es, lsg⟩ := AllS.pick (B := 1) q7 (by repeat (first | exact AllS.nil | exact AllS.mono (b := 1) (by omega) (allS_of (by decide +kernel)) | refine AllS.app ?_ ?_ | refine AllS.cons (by assumption) ?_ | refine AllS.cons (Nat.le_trans (m := 1) (by decide) (by omega)) ?_ )) (by rfl) c0 c1
  refine ⟨p6, _, g9, .str sg, rfl, rfl, SqL.of q7, es, ?_⟩
  refine ⟨_, rfl, _, rfl, _, rfl, r, 2, rfl, b7.rw, by decide, by decide, fun g2 H8 d0 d1 k8 R8 => ?_⟩
  have b8 := b7.keep k8 R8
  refine ⟨_, _, rfl, rfl, _, rfl, old, rfl, by omega, ?_⟩
  have cl1 := cutS_len old none (some sp)
  have cl2 := cutS_len old (some (sp + g2)) none
  have cl3 : (cutS old none (some sp) ++ sg).length ≤ old.length + 1 := by rw [app_len]; omega
  have cl4 : (cutS old none (some sp) ++ sg ++ cutS old (some (sp + g2)) none).length ≤ 2 * old.length + 1 := by rw [app_len]; omega
  refine ⟨_, rfl, _, rfl, _, rfl, old, rfl, by omega, _, rfl, _, _, rfl, rfl, by omega, _, rfl, _, _, rfl, rfl, by omega, _, rfl, _, rfl, pw, _, g, g.toNat, rfl, rfl, b8.hp, hix, ?_⟩
  have b9 := b8.put (ls' := ws.set g.toNat (cutS old none (some sp) ++ sg ++ cutS old (some (sp + g2)) none)) (xs := (ws.map V.str).set g.toNat (.str (cutS old none (some sp) ++ sg ++ cutS old (some (sp + g2)) none))) List.map_set.symm
  have t9 := tot_set ws g.toNat (cutS old none (some sp) ++ sg ++ cutS old (some (sp + g2)) none)
  exact ⟨rfl, _, rfl, (" " : Str), pw, _, rfl, rfl, SqL.of b9.hp, wsum _ (by omega), wout b9 (by omega)⟩
/-! ### _law_bent -/
def sp_bent : Sp := fun vs H Q _ => ∃ r, ∃ z : Str, vs = [.ref r, .str z] ∧ RowAt H r ∧ z.length ≤ 100000 ∧ ∀ (y : Str) H', y.length ≤ 6 * z.length + 10000 → Keep r H H' → RowAt H' r → Q (.str y) H'
theorem ok_bent (F : Fun K "_law_bent" "_law_bent" s_law_bent f fd) (T : Bl mg) (D_law_take : Dfn P w K mg base 1 "_law_take" ["row", "many"] sp_take) (D_law_odd_line : Dfn P w K mg base 2 "_law_odd_line" ["row", "lines"] sp_oddl) (D_law_words_bent : Dfn P w K mg base 3 "_law_words_bent" ["row", "line"] sp_wbent) : FnOk P w K mg base CX0 4 f fd ["row", "text"] sp_bent := by
  refine F.ok sc_law_bent (fun vs H Q E h => ?_) (fun cdv A outer s H vs Q E hr h => ?_)
  · obtain ⟨r, z, rfl, _⟩ := h
    rfl
  obtain ⟨r, z, rfl, hR, hz9, q⟩ := h
  refine ⟨_, (pss_cons (ps_set (i := 2) sc_law_bent.nd rfl (Or.inl rfl) (pe_slice sl_list (pe_bm PySem.F.plainAttrs_str PySem.F.slot_str_split PySem.F.type_str_split mt_split (pv 1) (pa_cons pe_str pa_nil)) po_none (po_some (pe_un un_neg pe_int))))
      (pss_cons (ps_if (pt_cmpR (op_eqE hr.units) (pv 2) (pe_lst pa_nil) (nomark _)) (pss_one (ps_ret (pe_op op_add_str (pv 1) pe_str))) pss_nil)
      (pss_cons (ps_set (i := 3) sc_law_bent.nd rfl (Or.inl rfl) (pe_def D_law_take hr (by omega) rfl (pa_cons (pv 0) (pa_cons (pe_callB call_len (by rfl) T.len (by kernel_rfl) (pa_cons (pv 2) pa_nil)) pa_nil))))
      (pss_cons (ps_set (i := 4) sc_law_bent.nd rfl (Or.inl rfl) (pe_def D_law_take hr (by omega) rfl (pa_cons (pv 0) (pa_cons (pe_callB call_len (by rfl) T.len (by kernel_rfl) (pa_cons (pv 2) pa_nil)) pa_nil))))
      (pss_cons (ps_set (i := 5) sc_law_bent.nd rfl (Or.inl rfl) (pe_def D_law_take hr (by omega) rfl (pa_cons (pv 0) (pa_cons pe_int pa_nil))))
      (pss_cons (ps_if (pt_cmpR op_eq (pv 5) pe_int (nomark _)) (pss_one (ps_expr (pe_bm PySem.F.plainAttrs_list PySem.F.slot_list_pop PySem.F.type_list_pop mt_popAt (pv 2) (pa_cons (pv 3) pa_nil)))) (pss_one (ps_if (pt_cmpR op_eq (pv 5) pe_int (nomark _)) (pss_one (ps_expr (pe_bm PySem.F.plainAttrs_list PySem.F.slot_list_insert PySem.F.type_list_insert mt_insert (pv 2) (pa_cons (pv 4) (pa_cons (pe_ix ix_list (pv 2) (pv 3) (fun _ _ => rfl)) pa_nil))))) (pss_one (ps_if (pt_cmpR op_eq (pv 5) pe_int (nomark _)) (pss_cons (ps_set (i := 6) sc_law_bent.nd rfl (Or.inl rfl) (pe_ix ix_list (pv 2) (pv 3) (fun _ _ => rfl)))
      (pss_cons (ps_asg (pe_ix ix_list (pv 2) (pv 4) (fun _ _ => rfl)) (pg_sub (pv 2) (pv 3) set_list))
      (pss_one (ps_asg (pv 6) (pg_sub (pv 2) (pv 4) set_list))))) (pss_one (ps_if (pt_cmpR op_eq (pv 5) pe_int (nomark _)) (pss_one (ps_expr (pe_bm PySem.F.plainAttrs_list PySem.F.slot_list_append PySem.F.type_list_append mt_append (pv 2) (pa_cons (pe_bm PySem.F.plainAttrs_list PySem.F.slot_list_pop PySem.F.type_list_pop mt_popAt (pv 2) (pa_cons (pv 3) pa_nil)) pa_nil)))) (pss_one (ps_if (pt_cmpR op_eq (pv 5) pe_int (nomark _)) (pss_one (ps_expr (pe_bm PySem.F.plainAttrs_list PySem.F.slot_list_insert PySem.F.type_list_insert mt_insert (pv 2) (pa_cons (pv 3) (pa_cons (pe_def D_law_odd_line hr (by omega) rfl (pa_cons (pv 0) (pa_cons (pv 2) pa_nil))) pa_nil))))) (pss_one (ps_if (pt_cmpR op_lt (pv 5) pe_int (nomark _)) (pss_one (ps_asg (pe_def D_law_words_bent hr (by omega) rfl (pa_cons (pv 0) (pa_cons (pe_ix ix_list (pv 2) (pv 3) (fun _ _ => rfl)) pa_nil))) (pg_sub (pv 2) (pv 3) set_list))) (PSsW.h (wss_cons (ws_set (i := 7) sc_law_bent.nd rfl (Or.inl rfl) (we_ix ix_list (we_lst (wa_pre wa_nil)) (pe_def D_law_take hr (by omega) rfl (pa_cons (pv 0) (pa_cons pe_int pa_nil))) (fun _ _ => rfl))) (.mk (pss_one (ps_ret (pe_op op_add_str (pe_bm PySem.F.plainAttrs_str PySem.F.slot_str_join PySem.F.type_str_join mt_join pe_str (pa_cons (pv 2) pa_nil)) (pv 7))))))))))))))))))
      (pss_one (ps_ret (pe_bm PySem.F.plainAttrs_str PySem.F.slot_str_join PySem.F.type_str_join mt_join pe_str (pa_cons (pe_lcomp rfl (caps := []) (blk_ok (sc := defScope s_law_bent) (N := ["row", "text", "lines", "at", "to", "kind", "held", "tail"]) rfl rfl rfl (by decide +kernel)) (pi_list (pv 2)) (fun _ _ _ _ _ => pifs_nil) (fun _ _ _ _ _ => (pe_op op_add_str (pv 0) pe_str))) pa_nil)))))))))), ?_⟩
  have c10 : ("
" : Str) = ⟨#[10]⟩ := by decide
  have e00 : ("" : Str) = Str.empty := by decide
  have big : (1000002 : Nat) < sizeLine := by decide
  have l0 : (0 : Nat) ≤ sizeLine := Nat.zero_le _
  refine ⟨_, rfl, rfl, z, 10, rfl, congrArg (fun z => [V.str z]) c10, by omega, fun pw hw => ?_⟩
  obtain ⟨ls, la, els⟩ : ∃ ls la, Txt.split z ⟨#[10]⟩ = ls ++ [la] := ⟨_, _, (List.dropLast_concat_getLast (split_ne z 10)).symm⟩
  have tz := tot_split z 10
  rw [els, tot_app] at tz
  have tz : tot ls ≤ z.length := by
    have : tot [la] = la.length + 1 + 0 := rfl
    omega
  rw [els]
  generalize e1 : upd _ pw _ = H1
  have u1 := upd_sm hw e1
  have q1 := upd_get e1
  refine ⟨1, rfl, -1, rfl, pw, _, rfl, SqL.of q1, fun pl hl => ?_⟩
  have ec : cutV ((ls ++ [la]).map V.str) none (some (-1)) = ls.map V.str := by rw [List.map_append]; exact cutV_last _ _
  rw [ec]
  generalize e2 : upd _ pl _ = H2
  have u2 := u1.trans (upd_sm hl e2)
  have b2 : Bt H H2 r pl ls := ⟨u2.keep r, hR.same u2, same_none u1 hl, (hR.same u1).ne hl, upd_get e2⟩
  have lw : (ls.map V.str).length = ls.length := List.length_map _
  have l9 := tot_len ls
  have fout : ∀ {us : List Str} {H' : Hp}, Bt H H' r pl us → tot us ≤ 6 * z.length + 10000 → Q (.str (Txt.join ("" : Str) (us.map fun l => l ++ ("
" : Str)))) H' := fun {us H'} b h => by
    rw [e00]
    exact q _ H' (by rw [join_nl]; exact h) b.kp b.rw
  have fsum : ∀ us : List Str, tot us ≤ 6 * z.length + 10000 → ((us.map fun l => l ++ ("
" : Str)).map (·.length)).sum + (us.map fun l => l ++ ("
" : Str)).length * ("" : Str).length ≤ 16777216 := fun us h => by
    have : ("" : Str).length = 0 := by decide
    rw [sum_nl, this]
    omega
  refine ⟨_, rfl, l0, fun p3 h3 => ?_⟩
  generalize e3 : upd _ p3 _ = H3
  have b3 := b2.same (upd_sm h3 e3)
  refine ⟨pl, p3, _, rfl, rfl, SqL.of b3.hp, SqL.of (upd_get e3), _, rfl, ite2 (fun _ => ?_) (fun hne => ?_)⟩
  · have l9' : ("bridge 1
" : Str).length = 9 := by decide
    exact ⟨_, rfl, _, _, rfl, rfl, by omega, q _ H3 (by rw [app_len]; omega) b3.kp b3.rw⟩
  have l1 : 1 ≤ ls.length := Nat.pos_of_ne_zero fun e => hne (decide_eq_true (by rw [lw]; exact e))
  refine ⟨_, rfl, _, rfl, _, _, rfl, .inl ⟨_, SqL.of b3.hp, rfl⟩, r, _, rfl, b3.rw, by omega, by omega, fun g H4 g0 g1 k4 R4 => ?_⟩
  have b4 := b3.keep k4 R4
  refine ⟨_, rfl, _, rfl, _, _, rfl, .inl ⟨_, SqL.of b4.hp, rfl⟩, r, _, rfl, b4.rw, by omega, by omega, fun t H5 t0 t1 k5 R5 => ?_⟩
  have b5 := b4.keep k5 R5
  refine ⟨_, rfl, r, 9, rfl, b5.rw, by decide, by decide, fun kd H6 _ _ k6 R6 => ?_⟩
  have b6 := b5.keep k6 R6
  obtain ⟨ya, ea, ea2, la1⟩ := b6.ix g0 g1
  obtain ⟨yt, et, et2, lt1⟩ := b6.ix t0 t1
  obtain ⟨y0, _, ey0, l01⟩ := b6.ix (g := 0) (by decide) (by omega)
  have hixg := ixN_of g0 g1
  have hixt := ixN_of t0 t1
  have hs := ixN_seq hixg
  refine ⟨_, rfl, rfl, _, rfl, ite2 (fun _ => ?_) (fun _ => ?_)⟩
  · refine ⟨_, rfl, .inl ⟨rfl, _, SqL.of b6.hp⟩, _, rfl, pl, _, g, g.toNat, .str ya, rfl, rfl, b6.hp, by omega, by omega, hs.1, ea2, ?_⟩
    have b7 := b6.put (map_erase ls g.toNat)
    have t7 := tot_erase ls g.toNat
    exact ⟨rfl, _, rfl, pl, rfl, ⟨_, SqL.of b7.hp⟩, nl_comp b7.hp (by omega) (fun l Q h q => ⟨_, rfl, l, _, rfl, rfl, h, q⟩) (fun p hp => ⟨("" : Str), p, _, rfl, rfl, SqL.of upd_same, fsum _ (by omega), fout (b7.same (same_new hp _)) (by omega)⟩)⟩
  refine ⟨_, rfl, rfl, _, rfl, ite2 (fun _ => ?_) (fun _ => ?_)⟩
  · refine ⟨_, rfl, .inl ⟨rfl, _, SqL.of b6.hp⟩, _, rfl, _, rfl, _, rfl, pl, _, g, .str ya, rfl, rfl, SqL.of b6.hp, ea, pl, _, t, .str ya, rfl, rfl, b6.hp, t0, by omega, by omega, ?_⟩
    have b7 := b6.put (ls' := ls.take t.toNat ++ ya :: ls.drop t.toNat) (xs := (ls.map V.str).take t.toNat ++ .str ya :: (ls.map V.str).drop t.toNat) (by rw [List.map_append, List.map_cons, List.map_take, List.map_drop])
    have t7 := tot_ins ls ya t.toNat
    exact ⟨rfl, _, rfl, pl, rfl, ⟨_, SqL.of b7.hp⟩, nl_comp b7.hp (by omega) (fun l Q h q => ⟨_, rfl, l, _, rfl, rfl, h, q⟩) (fun p hp => ⟨("" : Str), p, _, rfl, rfl, SqL.of upd_same, fsum _ (by omega), fout (b7.same (same_new hp _)) (by omega)⟩)⟩
  refine ⟨_, rfl, rfl, _, rfl, ite2 (fun _ => ?_) (fun _ => ?_)⟩
  · refine ⟨_, rfl, _, rfl, pl, _, g, .str ya, rfl, rfl, SqL.of b6.hp, ea, ?_⟩
    refine ⟨_, rfl, _, rfl, pl, _, t, .str yt, rfl, rfl, SqL.of b6.hp, et, _, rfl, _, rfl, pl, _, g, g.toNat, rfl, rfl, b6.hp, hixg, ?_⟩
    have b7 := b6.put (ls' := ls.set g.toNat yt) (xs := (ls.map V.str).set g.toNat (.str yt)) List.map_set.symm
    have t7 := tot_set ls g.toNat yt
    refine ⟨_, rfl, _, rfl, _, rfl, pl, _, t, t.toNat, rfl, rfl, b7.hp, ixN_of t0 (by rw [List.length_map, List.length_set]; omega), ?_⟩
    have b8 := b7.put (ls' := (ls.set g.toNat yt).set t.toNat ya) (xs := ((ls.set g.toNat yt).map V.str).set t.toNat (.str ya)) List.map_set.symm
    have t8 := tot_set (ls.set g.toNat yt) t.toNat ya
    exact ⟨rfl, _, rfl, pl, rfl, ⟨_, SqL.of b8.hp⟩, nl_comp b8.hp (by omega) (fun l Q h q => ⟨_, rfl, l, _, rfl, rfl, h, q⟩) (fun p hp => ⟨("" : Str), p, _, rfl, rfl, SqL.of upd_same, fsum _ (by omega), fout (b8.same (same_new hp _)) (by omega)⟩)⟩
  refine ⟨_, rfl, rfl, _, rfl, ite2 (fun _ => ?_) (fun _ => ?_)⟩
  · have b7 := b6.put (map_erase ls g.toNat)
    have t7 := tot_erase ls g.toNat
    have l7 := tot_len (ls.eraseIdx g.toNat)
    refine ⟨_, rfl, .inl ⟨rfl, _, SqL.of b6.hp⟩, _, rfl, .inl ⟨rfl, _, SqL.of b6.hp⟩, _, rfl, pl, _, g, g.toNat, .str ya, rfl, rfl, b6.hp, by omega, by omega, hs.1, ea2, pl, _, .str ya, rfl, rfl, b7.hp, by rw [List.length_map]; omega, ?_⟩
    have b8 := b7.put (ls' := ls.eraseIdx g.toNat ++ [ya]) (xs := (ls.eraseIdx g.toNat).map V.str ++ [.str ya]) (by rw [List.map_append]; rfl)
    have t8 := tot_app (ls.eraseIdx g.toNat) [ya]
    have t9 : tot [ya] = ya.length + 1 + 0 := rfl
    exact ⟨rfl, _, rfl, pl, rfl, ⟨_, SqL.of b8.hp⟩, nl_comp b8.hp (by omega) (fun l Q h q => ⟨_, rfl, l, _, rfl, rfl, h, q⟩) (fun p hp => ⟨("" : Str), p, _, rfl, rfl, SqL.of upd_same, fsum _ (by omega), fout (b8.same (same_new hp _)) (by omega)⟩)⟩
  refine ⟨_, rfl, rfl, _, rfl, ite2 (fun _ => ?_) (fun _ => ?_)⟩
  · refine ⟨_, rfl, .inl ⟨rfl, _, SqL.of b6.hp⟩, _, rfl, _, rfl, _, rfl, r, pl, _, y0, rfl, b6.rw, b6.ne, b6.hp, ey0, by omega, fun y H7 yl k7 R7 => ?_⟩
    have b7 := b6.keep k7 R7
    refine ⟨pl, _, g, .str y, rfl, rfl, b7.hp, g0, by omega, by omega, ?_⟩
    have b8 := b7.put (ls' := ls.take g.toNat ++ y :: ls.drop g.toNat) (xs := (ls.map V.str).take g.toNat ++ .str y :: (ls.map V.str).drop g.toNat) (by rw [List.map_append, List.map_cons, List.map_take, List.map_drop])
    have t8 := tot_ins ls y g.toNat
    exact ⟨rfl, _, rfl, pl, rfl, ⟨_, SqL.of b8.hp⟩, nl_comp b8.hp (by omega) (fun l Q h q => ⟨_, rfl, l, _, rfl, rfl, h, q⟩) (fun p hp => ⟨("" : Str), p, _, rfl, rfl, SqL.of upd_same, fsum _ (by omega), fout (b8.same (same_new hp _)) (by omega)⟩)⟩
  refine ⟨_, rfl, _, _, rfl, rfl, _, rfl, ite2 (fun _ => ?_) (fun _ => ?_)⟩
  · refine ⟨_, rfl, _, rfl, _, rfl, pl, _, g, .str ya, rfl, rfl, SqL.of b6.hp, ea, r, ya, rfl, b6.rw, by omega, fun y H7 yl k7 R7 => ?_⟩
    have b7 := b6.keep k7 R7
    refine ⟨_, rfl, _, rfl, pl, _, g, g.toNat, rfl, rfl, b7.hp, hixg, ?_⟩
    have b8 := b7.put (ls' := ls.set g.toNat y) (xs := (ls.map V.str).set g.toNat (.str y)) List.map_set.symm
    have t8 := tot_set ls g.toNat y
    exact ⟨rfl, _, rfl, pl, rfl, ⟨_, SqL.of b8.hp⟩, nl_comp b8.hp (by omega) (fun l Q h q => ⟨_, rfl, l, _, rfl, rfl, h, q⟩) (fun p hp => ⟨("" : Str), p, _, rfl, rfl, SqL.of upd_same, fsum _ (by omega), fout (b8.same (same_new hp _)) (by omega)⟩)⟩
  refine ⟨line1000 (by show 7 ≤ 1000; decide), fun p7 h7 => ?_⟩
  generalize e7 : upd _ p7 _ = H7
  have q7 := upd_get e7
  have n7 := b6.rw.ne h7
  have b7 := b6.same (upd_sm h7 e7)
  refine ⟨_, rfl, r, 7, rfl, b7.rw, by decide, by decide, fun g7 H8 a0 a1 k8 R8 => ?_⟩
  have b8 := b7.keep k8 R8
  have q8 := k8 _ _ q7 n7
  obtain ⟨tl, etl, ltl⟩ := AllS.pick (B := 20) q8 (by repeat (first | exact AllS.nil | exact AllS.mono (b := 20) (by omega) (allS_of (by decide +kernel)) | refine AllS.app ?_ ?_ | refine AllS.cons (by assumption) ?_ | refine AllS.cons (Nat.le_trans (m := 20) (by decide) (by omega)) ?_ )) (by rfl) a0 a1
  refine ⟨p7, _, g7, .str tl, rfl, rfl, SqL.of q8, etl, ?_⟩
  have jt := join_tot 10 ls
  rw [← c10] at jt
  have st := sum_tot ls
  refine ⟨rfl, _, rfl, ("
" : Str), pl, ls, rfl, rfl, SqL.of b8.hp, by rw [len_n]; omega, _, rfl, _, _, rfl, rfl, by omega, q _ H8 (by rw [app_len]; omega) b8.kp b8.rw⟩
end
end My

set_option Elab.async false
set_option linter.all false
set_option maxRecDepth 100000
set_option maxHeartbeats 4000000

namespace My
open PySem L2
section
variable {P : Program} {w : World} {K : PySem.W.Frag} {mg : Str → Option Value} {base : Heap} {f : Addr} {fd : FuncData}
/-! ### data of nets: plain, of small depth -/
theorem plainDs_ints : ∀ ns : List Int, plainDs (ns.map PyData.int) = true
  | [] => rfl
  | n :: ns => by show (true && plainDs (ns.map PyData.int)) = true; rw [plainDs_ints ns]; rfl
theorem plainDs_ties : ∀ ts : List Tie, plainDs (ts.map tieD) = true
  | [] => rfl
  | t :: ts => by
    show (plainD (tieD t) && plainDs (ts.map tieD)) = true
    rw [plainDs_ties ts]
    rfl
theorem depth_ints : ∀ ns : List Int, PyData.depthAll (ns.map PyData.int) = 0
  | [] => rfl
  | n :: ns => by show max 0 (PyData.depthAll (ns.map PyData.int)) = 0; rw [depth_ints ns]; rfl
theorem depth_ties : ∀ ts : List Tie, PyData.depthAll (ts.map tieD) ≤ 1
  | [] => Nat.zero_le _
  | t :: ts => by
    show max 1 (PyData.depthAll (ts.map tieD)) ≤ 1
    exact Nat.max_le.mpr ⟨Nat.le_refl _, depth_ties ts⟩
theorem dueD_plain {ns : List Int} {ts : List Tie} (h1 : ns.length ≤ 1000) (h2 : ts.length ≤ 1000) : plainD (dueD ns ts) = true := by
  show (((plainDs ((sortI ns).map .int) && decide (((sortI ns).map PyData.int).length ≤ 1000)) && ((plainDs ((ts.map loT).map tieD) && decide (((ts.map loT).map tieD).length ≤ 1000)) && true)) && decide (2 ≤ 1000)) = true
  rw [plainDs_ints, plainDs_ties, List.length_map, List.length_map, List.length_map, sortI_length, decide_eq_true h1, decide_eq_true h2]
  rfl
theorem dueD_depth (ns : List Int) (ts : List Tie) : (dueD ns ts).depth ≤ 3 := by
  show max (PyData.depthAll ((sortI ns).map .int) + 1) (max (PyData.depthAll ((ts.map loT).map tieD) + 1) 0) + 1 ≤ 3
  have := depth_ints (sortI ns)
  have := depth_ties (ts.map loT)
  omega
theorem cut_ints (ns : List Int) (lo hi : Option Int) : cutV (ns.map V.int) lo hi = ((ns.drop (HT.sIx ns.length 0 lo)).take (HT.sIx ns.length ns.length hi - HT.sIx ns.length 0 lo)).map V.int := by
  unfold cutV
  rw [List.length_map, List.map_take, List.map_drop]
/-! ### a text is the text of one net -/
theorem bW_inj {n m : Int} (a0 : 0 ≤ n) (a1 : n ≤ 1000) (b0 : 0 ≤ m) (b1 : m ≤ 1000) (e : bW n = bW m) : n = m := by
  have e := congrArg (fun z => Txt.split z ⟨#[32]⟩) e
  simp only [split_bW (fig_ok a0 a1), split_bW (fig_ok b0 b1)] at e
  exact dg_inj a0 a1 b0 b1 (List.cons.inj (List.cons.inj e).2).1
def TRg (t : Tie) : Prop := (0 ≤ t.1 ∧ t.1 ≤ 1000) ∧ (0 ≤ t.2.1 ∧ t.2.1 ≤ 1000) ∧ (0 ≤ t.2.2 ∧ t.2.2 ≤ 1000)
theorem TRg.fig {t : Tie} (h : TRg t) : TFig t := ⟨fig_ok h.1.1 h.1.2, fig_ok h.2.1.1 h.2.1.2, fig_ok h.2.2.1 h.2.2.2⟩
theorem tW_inj {t u : Tie} (h : TRg t) (g : TRg u) (e : tW t = tW u) : t = u := by
  have e := congrArg (fun z => Txt.split z ⟨#[32]⟩) e
  simp only [split_tW h.fig, split_tW g.fig] at e
  have q1 := (List.cons.inj e).2
  have q2 := (List.cons.inj q1).2
  have q3 := (List.cons.inj q2).2
  exact Prod.ext (dg_inj h.1.1 h.1.2 g.1.1 g.1.2 (List.cons.inj q1).1) (Prod.ext (dg_inj h.2.1.1 h.2.1.2 g.2.1.1 g.2.1.2 (List.cons.inj q2).1) (dg_inj h.2.2.1 h.2.2.2 g.2.2.1 g.2.2.2 (List.cons.inj q3).1))
theorem tWs_inj : ∀ {ts us : List Tie}, (∀ t ∈ ts, TRg t) → (∀ t ∈ us, TRg t) → ts.map tW = us.map tW → ts = us
  | [], [], _, _, _ => rfl
  | [], u :: us, _, _, e => by cases e
  | t :: ts, [], _, _, e => by cases e
  | t :: ts, u :: us, h, g, e => by
    obtain ⟨e1, e2⟩ := List.cons.inj e
    rw [tW_inj (h t (List.mem_cons_self ..)) (g u (List.mem_cons_self ..)) e1, tWs_inj (fun t ht => h t (List.mem_cons_of_mem _ ht)) (fun t ht => g t (List.mem_cons_of_mem _ ht)) e2]
theorem lns_inj : ∀ {bs cs : List Int} {ts us : List Tie}, (∀ n ∈ bs, 0 ≤ n ∧ n ≤ 1000) → (∀ n ∈ cs, 0 ≤ n ∧ n ≤ 1000) → (∀ t ∈ ts, TRg t) → (∀ t ∈ us, TRg t) → lns bs ts = lns cs us → bs = cs ∧ ts = us
  | [], [], ts, us, _, _, h, g, e => ⟨rfl, tWs_inj h g e⟩
  | [], m :: cs, ts, us, _, b, h, g, e => by
    have e : ts.map tW = bW m :: (cs.map bW ++ us.map tW) := e
    cases ts with
    | nil => cases e
    | cons t ts =>
      have bm := b m (List.mem_cons_self ..)
      exact absurd (List.cons.inj e).1.symm (bt_ne (fig_ok bm.1 bm.2) (h t (List.mem_cons_self ..)).fig)
  | n :: bs, [], ts, us, a, _, h, g, e => by
    have e : bW n :: (bs.map bW ++ ts.map tW) = us.map tW := e
    cases us with
    | nil => cases e
    | cons t us =>
      have bm := a n (List.mem_cons_self ..)
      exact absurd (List.cons.inj e).1 (bt_ne (fig_ok bm.1 bm.2) (g t (List.mem_cons_self ..)).fig)
  | n :: bs, m :: cs, ts, us, a, b, h, g, e => by
    have e : bW n :: lns bs ts = bW m :: lns cs us := e
    obtain ⟨e1, e2⟩ := List.cons.inj e
    have an := a n (List.mem_cons_self ..)
    have bm := b m (List.mem_cons_self ..)
    obtain ⟨e3, e4⟩ := lns_inj (fun n hn => a n (List.mem_cons_of_mem _ hn)) (fun n hn => b n (List.mem_cons_of_mem _ hn)) h g e2
    rw [bW_inj an.1 an.2 bm.1 bm.2 e1, e3, e4]
    exact ⟨rfl, rfl⟩
theorem txt_inj {bs cs : List Int} {ts us : List Tie} (N : NetOk bs ts) (M : NetOk cs us) (e : txt bs ts = txt cs us) : bs = cs ∧ ts = us := by
  have e := congrArg (fun z => Txt.split z ⟨#[10]⟩) e
  simp only [split_txt N, split_txt M] at e
  have e := (List.append_inj' e rfl).1
  exact lns_inj (fun n hn => by have := N.br.rng n hn; omega) (fun n hn => by have := M.br.rng n hn; omega) (fun t ht => tnum N ht) (fun t ht => tnum M ht) e
theorem net_plain {bs : List Int} {ts : List Tie} (h : NetOk bs ts) : plainD (netD bs ts) = true ∧ (netD bs ts).depth < 4 := by
  have ed : dueD bs ts = netD bs ts := by unfold dueD netD; rw [h.so, h.lo]
  rw [← ed]
  have := dueD_depth bs ts
  exact ⟨dueD_plain (by have := h.br.ten; omega) (by have := h.ti.few; omega), by omega⟩
/-! ### _law_right -/
structure Ecl (K : PySem.W.Frag) (mg : Str → Option Value) (NN SE a1 a2 a3 a4 a5 a6 : Addr) : Prop where
  mSE : mg "ShutError" = some (.ref SE)
  mNN : Cst mg "NoNet" (.ref NN)
  NC : Cst mg "NoCommand" (.ref a1)
  ND : Cst mg "NoDeed" (.ref a2)
  NF : Cst mg "NoFrame" (.ref a3)
  NL : Cst mg "NoLetter" (.ref a4)
  NI : Cst mg "NoLine" (.ref a5)
  NO : Cst mg "NoOrder" (.ref a6)
  VE : mg "ValueError" = none
  Z : XCls K NN
  ex : PySem.W.exmOne K (.ref NN) (.ref SE) = some true
  k6 : PySem.W.kitAny K (.ref NN) ([a1, a2, a3, a4, a5, a6].map Value.ref) = some false
  kN : PySem.W.kitOne K (.ref NN) (.ref NN) = some true
  kV : PySem.W.kitOne K (.ref NN) (.type "ValueError") = some true
def sp_right : Sp := fun vs H Q _ => ∃ z : Str, vs = [.str z] ∧ z.length ≤ 900000 ∧ ∀ H', Same H H' → Q (.bl true) H'
theorem ok_right {NN SE a1 a2 a3 a4 a5 a6 : Addr} (F : Fun K "_law_right" "_law_right" s_law_right f fd) (T : Bl mg) (X5 : Ecl K mg NN SE a1 a2 a3 a4 a5 a6) (D_law_read : Dfn P w K mg base 2 "_law_read" ["text"] (sp_lread K)) (D_read_net : Dfn1 P w K mg base 5 "read_net" ["text"] (sp_read K NN)) (D_law_same : Dfn P w K mg base 4 "_law_same" ["found", "due"] (sp_same K 4)) : FnOk P w K mg base CX0 6 f fd ["text"] sp_right := by
  refine F.ok sc_law_right (fun vs H Q E h => ?_) (fun cdv A outer s H vs Q E hr h => ?_)
  · obtain ⟨z, rfl, _⟩ := h
    rfl
  obtain ⟨z, rfl, hz9, q⟩ := h
  have M_ShutError := X5.mSE
  refine ⟨_, (pss_cons (ps_set (i := 1) sc_law_right.nd rfl (Or.inl rfl) (pe_def D_law_read hr (by omega) rfl (pa_cons (pv 0) pa_nil)))
      (pss_cons (ps_set (i := 2) sc_law_right.nd rfl (Or.inl rfl) pe_non)
      (pss_cons (ps_set (i := 3) sc_law_right.nd rfl (Or.inl rfl) pe_non)
      (pss_cons (ps_try (i := 4) rfl sc_law_right.nd rfl rfl (pb_set (i := 2) sc_law_right.nd rfl (Or.inl rfl) (pc_def1 D_read_net hr (by omega) rfl (pa_cons (pv 0) pa_nil))) rfl M_ShutError (fun _ => (pss_one (ps_set (i := 3) sc_law_right.nd rfl (Or.inl rfl) (pv 4)))))
      (pss_cons (ps_if (pt_cmpR op_notN (pv 1) pe_non (nomark _)) (pss_one (ps_ret (pe_and (pe_cmpR op_isN (pv 3) pe_non (nomark _)) (pe_one (pe_def D_law_same hr (by omega) rfl (pa_cons (pv 2) (pa_cons (pv 1) pa_nil))))))) pss_nil)
      (pss_cons (ps_if (pt_val (pe_callB call_isiXs (by rfl) T.isinstance (by kernel_rfl) (pa_cons (pv 3) (pa_cons (pe_tup (pa_cons (pe_const rfl X5.NC) (pa_cons (pe_const rfl X5.ND) (pa_cons (pe_const rfl X5.NF) (pa_cons (pe_const rfl X5.NL) (pa_cons (pe_const rfl X5.NI) (pa_cons (pe_const rfl X5.NO) pa_nil))))))) pa_nil)))) (pss_one (ps_ret pe_bl)) pss_nil)
      (pss_one (ps_ret (pe_and (pe_callB call_isiX (by rfl) T.isinstance (by kernel_rfl) (pa_cons (pv 3) (pa_cons (pe_const rfl X5.mNN) pa_nil))) (pe_one (pe_callB call_isiXT (by rfl) T.isinstance (by kernel_rfl) (pa_cons (pv 3) (pa_cons (pe_ty (T := "ValueError") rfl X5.VE (by kernel_rfl)) pa_nil))))))))))))), ?_⟩
  by_cases hT : IsTxt z
  · refine ⟨_, rfl, z, rfl, hz9, fun bs ts N ez dv H1 s1 d1 => ?_, fun nt => absurd hT nt⟩
    refine ⟨_, rfl, z, rfl, hz9, fun bs2 ts2 N2 e2 gv H2 s2 d2 => ?_, fun nt => absurd hT nt⟩
    obtain ⟨rfl, rfl⟩ := txt_inj N N2 (ez.symm.trans e2)
    obtain ⟨pl, dp⟩ := net_plain N
    obtain ⟨da, _, _, _, rfl, _⟩ := inv_netD d1
    refine ⟨_, rfl, rfl, _, rfl, ifT rfl ?_⟩
    refine ⟨_, rfl, rfl, _, rfl, ifT rfl ?_⟩
    exact ⟨_, rfl, _, rfl, gv, .ref da, _, rfl, d2, d1.same s2, pl, dp, fun H3 s3 => q _ (s1.trans (s2.trans s3))⟩
  · refine ⟨_, rfl, z, rfl, hz9, fun bs ts N ez => absurd ⟨bs, ts, N, ez⟩ hT, fun _ H1 s1 => ?_⟩
    refine ⟨_, rfl, z, rfl, hz9, fun bs ts N ez => absurd ⟨bs, ts, N, ez⟩ hT, fun _ H2 s2 => ⟨X5.ex, fun a ha => ?_⟩⟩
    generalize e3 : upd _ a _ = H3
    have u3 := upd_sm ha e3
    have q3 := upd_get e3
    refine ⟨_, rfl, ?_⟩
    refine ⟨_, rfl, rfl, _, rfl, ifF rfl ?_⟩
    refine ⟨_, rfl, line1000 (by show 6 ≤ 1000; decide), fun p hp => ?_⟩
    generalize e4 : upd _ p _ = H4
    have u4 := upd_sm hp e4
    have q4 := upd_get e4
    refine ⟨a, NN, p, [a1, a2, a3, a4, a5, a6], false, rfl, u4 _ _ q3, X5.Z, q4, X5.k6, false, rfl, ifF rfl ?_⟩
    refine ⟨_, rfl, a, NN, NN, true, rfl, u4 _ _ q3, X5.Z, X5.kN, true, rfl, ifT rfl ?_⟩
    exact ⟨_, rfl, a, NN, "ValueError", true, rfl, u4 _ _ q3, X5.Z, X5.kV, q _ (s1.trans (s2.trans (u3.trans u4)))⟩
end
end My

set_option Elab.async false
set_option linter.all false
set_option maxRecDepth 100000
set_option maxHeartbeats 4000000

namespace My
open PySem L2
section
variable {P : Program} {w : World} {K : PySem.W.Frag} {mg : Str → Option Value} {base : Heap} {f : Addr} {fd : FuncData}
/-! ### the law -/
theorem sum_leB {B : Nat} : ∀ ys : List Str, (∀ y ∈ ys, y.length ≤ B) → (ys.map (·.length)).sum ≤ B * ys.length
  | [], _ => Nat.zero_le _
  | y :: r, h => by
    have := sum_leB r fun y hy => h y (List.mem_cons_of_mem _ hy)
    have := h y (List.mem_cons_self ..)
    simp only [List.map_cons, List.sum_cons, List.length_cons, Nat.mul_add]
    omega
theorem join0_len (ys : List Str) : (Txt.join Str.empty ys).length = (ys.map (·.length)).sum := by
  rw [← codes_len, join0_codes]
  induction ys with
  | nil => rfl
  | cons y r ih => simp only [List.map_cons, List.flatten_cons, List.length_append, List.sum_cons, codes_len, ih]
theorem AllS.all {B : Nat} {H : Hp} {p : Addr} {xs : List V} (q : H p = some (.lst xs)) (a : AllS B xs) : ∃ L, H p = some (.lst L) ∧ AllS B L := ⟨xs, q, a⟩
def sp_law (K : PySem.W.Frag) : Sp := fun vs H Q _ => ∃ (a : Addr) (ns : List Int), vs = [.ref a] ∧ SqL K H a (ns.map V.int) ∧ ns.length ≤ 63 ∧ ∀ H', Q (.bl true) H'
theorem ok_law (F : Fun K "law" "law" s_law f fd) (T : Bl mg) (D_law_stream : Dfn P w K mg base 1 "_law_stream" ["cell"] sp_stream)
    (D_law_bridges : Dfn P w K mg base 2 "_law_bridges" ["row"] sp_bridges) (D_law_ties : Dfn P w K mg base 3 "_law_ties" ["row", "bridges"] (sp_ties K))
    (D_law_due : Dfn P w K mg base 1 "_law_due" ["bridges", "ties"] (sp_due K)) (D_law_written : Dfn P w K mg base 1 "_law_written" ["net"] (sp_text K))
    (D_law_bent : Dfn P w K mg base 4 "_law_bent" ["row", "text"] sp_bent) (D_law_right : Dfn P w K mg base 6 "_law_right" ["text"] sp_right) : FnOk P w K mg base CX0 7 f fd ["script"] (sp_law K) := by
  refine F.ok sc_law (fun vs H Q E h => ?_) (fun cdv A outer s H vs Q E hr h => ?_)
  · obtain ⟨a, ns, rfl, _⟩ := h
    rfl
  obtain ⟨a, sc, rfl, hS, h63, fin⟩ := h
  refine ⟨_, (pss_cons (ps_for PassesOwn.never rfl (pi_list (pe_op op_cat (pe_lst (pa_cons pe_int pa_nil)) (pe_slice sl_list (pv 0) po_none (po_some pe_int)))) (pg_name (i := 1) sc_law.nd rfl (Or.inl rfl)) (pss_cons (ps_set (i := 2) sc_law.nd rfl (Or.inl rfl) (pe_def D_law_stream hr (by omega) rfl (pa_cons (pv 1) pa_nil)))
      (pss_cons (ps_set (i := 3) sc_law.nd rfl (Or.inl rfl) (pe_def D_law_bridges hr (by omega) rfl (pa_cons (pv 2) pa_nil)))
      (pss_cons (ps_set (i := 4) sc_law.nd rfl (Or.inl rfl) (pe_def D_law_written hr (by omega) rfl (pa_cons (pe_def D_law_due hr (by omega) rfl (pa_cons (pv 3) (pa_cons (pe_def D_law_ties hr (by omega) rfl (pa_cons (pv 2) (pa_cons (pv 3) pa_nil))) pa_nil))) pa_nil)))
      (pss_cons (ps_set (i := 5) sc_law.nd rfl (Or.inl rfl) (pe_def D_law_bent hr (by omega) rfl (pa_cons (pv 2) (pa_cons (pv 4) pa_nil))))
      (pss_one (ps_if (PW.pt (pw_or (pt_not (pt_val (pe_def D_law_right hr (by omega) rfl (pa_cons (pv 4) pa_nil)))) (pw_or (pt_not (pt_val (pe_def D_law_right hr (by omega) rfl (pa_cons (pv 5) pa_nil)))) (pw_or1 (pt_not (pt_val (pe_def D_law_right hr (by omega) rfl (pa_cons (pe_def D_law_bent hr (by omega) rfl (pa_cons (pv 2) (pa_cons (pv 5) pa_nil))) pa_nil)))))))) (pss_one (ps_ret pe_bl)) pss_nil)))))))
      (pss_cons (ps_set (i := 6) sc_law.nd rfl (Or.inl rfl) (pe_bm PySem.F.plainAttrs_str PySem.F.slot_str_join PySem.F.type_str_join mt_join pe_str (pa_cons (pe_lcomp rfl (caps := []) (blk_ok (sc := defScope s_law) (N := ["script", "cell", "row", "bridges", "text", "once", "many", "some"]) rfl rfl rfl (by decide +kernel)) (pi_range1 rfl T.range (pa_cons pe_int pa_nil)) (fun _ _ _ _ _ => pifs_nil) (fun _ _ _ _ _ => (pe_op op_add_str (pe_op op_add_str pe_str (pe_callTy call_str_int (by rfl) T.str (by kernel_rfl) (pa_cons (pv 0) pa_nil))) pe_str))) pa_nil)))
      (pss_cons (ps_set (i := 7) sc_law.nd rfl (Or.inl rfl) (pe_lst (@pa_pre _ _ _ (pa_cons (pv 6) (pa_cons (pe_slice sl_str (pv 6) po_none (po_some (pe_un un_neg pe_int))) (pa_cons (pe_op op_add_str pe_str (pe_op op_mul_str pe_str pe_int)) pa_nil))))))
      (pss_cons (ps_set (i := 7) sc_law.nd rfl (Or.inl rfl) (pe_op op_cat (pv 7) (pe_lst (pa_cons (pe_op op_add_str (pe_op op_add_str pe_str (pe_op op_mul_str pe_str pe_int)) pe_str) (pa_cons (pe_op op_add_str (pe_op op_add_str pe_str (pe_op op_mul_str pe_str pe_int)) pe_str) pa_nil)))))
      (pss_cons (ps_set (i := 7) sc_law.nd rfl (Or.inl rfl) (pe_op op_cat (pv 7) (pe_lst (@pa_pre _ _ _ pa_nil))))
      (pss_cons (ps_for PassesOwn.never rfl (pi_list (pe_op op_cat (pv 7) (pe_lst (pa_cons (pe_op op_add_str pe_str (pe_op op_mul_str pe_str pe_int)) (pa_cons pe_str (pa_cons pe_str pa_nil)))))) (pg_name (i := 4) sc_law.nd rfl (Or.inl rfl)) (pss_one (ps_if (pt_not (pt_val (pe_def D_law_right hr (by omega) rfl (pa_cons (pv 4) pa_nil)))) (pss_one (ps_ret pe_bl)) pss_nil)))
      (pss_one (ps_ret pe_bl)))))))), ?_⟩
  have big : (1000002 : Nat) < sizeLine := by decide
  refine ⟨line1000 (by show 1 ≤ 1000; decide), fun p0 hp0 => ?_⟩
  have s0 := same_new hp0 (.lst [.int 0])
  refine ⟨_, rfl, 40, rfl, a, _, rfl, s0.seq hS, fun q1 hq1 => ?_⟩
  have s1 := s0.trans (same_new hq1 (.lst (cutV (sc.map V.int) none (some 40))))
  have hcl := cutV_length (sc.map V.int) none (some 40)
  rw [List.length_map] at hcl
  refine ⟨p0, q1, _, _, rfl, rfl, same_new hq1 _ _ _ upd_same, upd_same, line1000 (by show 1 + (cutV (sc.map V.int) none (some 40)).length ≤ 1000; omega), fun z hz => ?_⟩
  obtain ⟨zs, ez⟩ : ∃ zs : List Int, ([.int 0] ++ cutV (sc.map V.int) none (some 40) : List V) = zs.map V.int := by
    rw [cut_ints]
    exact ⟨0 :: _, rfl⟩
  rw [ez]
  refine ⟨z, rfl, ⟨_, SqL.of upd_same⟩, for_list (K := K) (a := z) (xs := zs.map V.int) (fun i σ H' => ∃ v1 v2 v3 v4 v5, σ = [some (.ref a), v1, v2, v3, v4, v5, none, none] ∧ H' z = some (.lst (zs.map V.int)))
    ⟨none, none, none, none, none, rfl, upd_same⟩ (fun i σ H' _ h => ?_) ?_ ?_⟩
  · obtain ⟨_, _, _, _, _, _, e⟩ := h
    exact SqL.of e
  · rintro i y σ H0 hi ⟨v1, v2, v3, v4, v5, rfl, e0⟩
    obtain ⟨c, rfl, _⟩ := get_ints hi
    refine ⟨_, rfl, c, rfl, fun r H1 r0 s1 R1 => ?_⟩
    have zr : z ≠ r := ne_of_none e0 r0
    refine ⟨_, rfl, r, rfl, R1, fun b ns H2 k2 R2 b0 e2 B => ?_⟩
    have br : b ≠ r := R1.ne b0
    refine ⟨_, rfl, _, rfl, _, rfl, r, b, ns, rfl, R2, br, SqL.of e2, B, fun t ts xs H3 k3 R3 t0 e3 d3 O => ?_⟩
    have e23 := k3 _ _ e2 br
    refine ⟨b, t, ns, ts, xs, rfl, SqL.of e23, SqL.of e3, d3, B.ten, O.few, fun dv H4 s4 n4 => ?_⟩
    have NO := netok_due B O
    refine ⟨dv, sortI ns, ts.map loT, rfl, n4, NO, fun H5 s5 => ?_⟩
    have tl := txt_len NO
    have R5 := (R3.same s4).same s5
    have z5 := s5 _ _ (s4 _ _ (k3 _ _ (k2 _ _ (s1 _ _ e0) zr) zr))
    refine ⟨_, rfl, _, rfl, r, _, rfl, R5, by omega, fun y1 H6 l1 k6 R6 => ?_⟩
    have z6 := k6 _ _ z5 zr
    refine ⟨_, rfl, _, rfl, by omega, fun H7 s7 => ⟨true, rfl, ifF rfl ?_⟩⟩
    refine ⟨_, rfl, _, rfl, by omega, fun H8 s8 => ⟨true, rfl, ifF rfl ?_⟩⟩
    have z8 := s8 _ _ (s7 _ _ z6)
    have R8 := (R6.same s7).same s8
    refine ⟨_, rfl, _, rfl, r, y1, rfl, R8, by omega, fun y2 H9 l2 k9 R9 => ?_⟩
    have z9 := k9 _ _ z8 zr
    refine ⟨_, rfl, by omega, fun H10 s10 => ⟨true, rfl, ifF rfl ?_⟩⟩
    exact ⟨_, _, _, _, _, rfl, s10 _ _ z9⟩
  · rintro σ H0 ⟨v1, v2, v3, v4, v5, rfl, e0⟩
    have e00 : ("" : Str) = Str.empty := by decide
    refine ⟨rfl, 11, rfl, by decide, by decide, comp_range0 (n := 11) (fun i ys H' => H' = H0 ∧ ∃ us : List Str, ys = us.map V.str ∧ us.length = i ∧ ∀ u ∈ us, u.length ≤ 21) ⟨rfl, [], rfl, rfl, fun _ h => by cases h⟩ (by omega) (fun i ys H' _ h => ?_) (fun i ys H' hi h => ?_) (fun ys H' h => ?_)⟩
    · obtain ⟨_, us, rfl, ul, _⟩ := h
      rw [List.length_map, ul]
      exact Nat.le_refl _
    · obtain ⟨rfl, us, rfl, ul, hu⟩ := h
      have f := fig_ok (n := 0 + (i : Int)) (by omega) (by omega)
      have d4 := dg_len f
      have w1 : (("bridge " : Str) ++ dg (0 + (i : Int))).length ≤ 11 := by rw [app_len, len_b]; omega
      refine ⟨_, rfl, 0 + (i : Int), rfl, log_ok (by omega) (by omega), _, dg (0 + (i : Int)), rfl, rfl, line1000 (by rw [len_b]; omega), _, _, rfl, rfl, line1000 (by rw [len_n]; omega), rfl, us ++ [("bridge " : Str) ++ dg (0 + (i : Int)) ++ ("\n" : Str)], by rw [List.map_append]; rfl, by rw [List.length_append, ul]; rfl, fun u hu' => ?_⟩
      rcases List.mem_append.mp hu' with h | h
      · exact hu u h
      · rw [List.mem_singleton.mp h, app_len, len_n]; omega
    obtain ⟨rfl, us, rfl, ul, hu⟩ := h
    intro p1 h1
    generalize e1 : upd _ p1 _ = H1
    have q1 := upd_get e1
    have sb := sum_leB us hu
    rw [ul] at sb
    refine ⟨("" : Str), p1, us, rfl, rfl, SqL.of q1, by rw [show ("" : Str).length = 0 by decide]; omega, ?_⟩
    have ml : (Txt.join ("" : Str) us).length ≤ 231 := by rw [e00, join0_len]; exact sb
    generalize Txt.join ("" : Str) us = many at ml
    have cl := cutS_len many none (some (-10))
    have ct : ("tie 1 2 3\n" : Str).length = 10 := by decide
    have c1 : ("1" : Str).length = 1 := by decide
    have c9 : ("9" : Str).length = 1 := by decide
    have cb2 : ("bridge 1\nbridge 2\n" : Str).length = 18 := by decide
    have cb3 : ("bridge 1\nbridge 2\ntie 1 2 " : Str).length = 26 := by decide
    refine ⟨_, rfl, _, rfl, 10, rfl, -10, rfl, many, rfl, by omega, _, 17, rfl, rfl, by decide, by decide, by rw [ct]; decide, by rw [ct]; decide, fun z1 l1 => ?_⟩
    have l1 : z1.length = 170 := by rw [l1, ct]; decide
    refine ⟨_, _, rfl, rfl, by rw [cb2]; omega, line1000 (by show 7 ≤ 1000; decide), fun p2 h2 => ?_⟩
    generalize e2 : upd _ p2 _ = H2
    have q2 := upd_get e2
    refine ⟨_, rfl, _, 5000, rfl, rfl, by decide, by decide, by rw [c1]; decide, by rw [c1]; decide, fun z2 l2 => ?_⟩
    have l2 : z2.length = 5000 := by rw [l2, c1]; decide
    have i2 : (("bridge " : Str) ++ z2).length = 5007 := by rw [app_len, len_b]; omega
    refine ⟨_, _, rfl, rfl, by rw [len_b]; omega, _, _, rfl, rfl, by rw [len_n]; omega, _, 5000, rfl, rfl, by decide, by decide, by rw [c9]; decide, by rw [c9]; decide, fun z3 l3 => ?_⟩
    have l3 : z3.length = 5000 := by rw [l3, c9]; decide
    have i3 : (("bridge 1\nbridge 2\ntie 1 2 " : Str) ++ z3).length = 5026 := by rw [app_len, cb3]; omega
    refine ⟨_, _, rfl, rfl, by rw [cb3]; omega, _, _, rfl, rfl, by rw [len_n]; omega, line1000 (by show 2 ≤ 1000; decide), fun p3 h3 => ?_⟩
    generalize e3 : upd _ p3 _ = H3
    have u3 := upd_sm h3 e3
    have q3 := upd_get e3
    refine ⟨p2, p3, _, _, rfl, rfl, u3 _ _ q2, q3, line1000 (by show 7 + 2 ≤ 1000; decide), fun p4 h4 => ?_⟩
    generalize e4 : upd _ p4 _ = H4
    have q4 := upd_get e4
    refine ⟨_, rfl, line1000 (by show 3 ≤ 1000; decide), fun p5 h5 => ?_⟩
    generalize e5 : upd _ p5 _ = H5
    have u5 := upd_sm h5 e5
    have q5 := upd_get e5
    refine ⟨p4, p5, _, _, rfl, rfl, u5 _ _ q4, q5, line1000 (by show 9 + 3 ≤ 1000; decide), fun p6 h6 => ?_⟩
    generalize e6 : upd _ p6 _ = H6
    have q6 := upd_get e6
    refine ⟨_, rfl, _, 16, rfl, rfl, by decide, by decide, by rw [ct]; decide, by rw [ct]; decide, fun z4 l4 => ?_⟩
    have l4 : z4.length = 160 := by rw [l4, ct]; decide
    refine ⟨_, _, rfl, rfl, by rw [cb2]; omega, line1000 (by show 3 ≤ 1000; decide), fun p7 h7 => ?_⟩
    generalize e7 : upd _ p7 _ = H7
    have u7 := upd_sm h7 e7
    have q7 := upd_get e7
    refine ⟨p6, p7, _, _, rfl, rfl, u7 _ _ q6, q7, line1000 (by show 12 + 3 ≤ 1000; decide), fun p8 h8 => ?_⟩
    generalize e8 : upd _ p8 _ = H8
    have q8 := upd_get e8
    have j1 : many.length ≤ 10000 := by omega
    have j2 : (cutS many none (some (-10))).length ≤ 10000 := by omega
    have j3 : (("bridge 1\nbridge 2\n" : Str) ++ z1).length ≤ 10000 := by rw [app_len, cb2]; omega
    have j4 : (("bridge " : Str) ++ z2 ++ ("\n" : Str)).length ≤ 10000 := by rw [app_len, len_n]; omega
    have j5 : (("bridge 1\nbridge 2\ntie 1 2 " : Str) ++ z3 ++ ("\n" : Str)).length ≤ 10000 := by rw [app_len, len_n]; omega
    have j6 : (("bridge 1\nbridge 2\n" : Str) ++ z4).length ≤ 10000 := by rw [app_len, cb2]; omega
    obtain ⟨L, eL, aL⟩ := AllS.all (B := 10000) q8 (by repeat (first | exact AllS.nil | exact AllS.mono (b := 40) (by omega) (allS_of (by decide +kernel)) | refine AllS.app ?_ ?_ | refine AllS.cons (by assumption) ?_ | refine AllS.cons (Nat.le_trans (m := 40) (by decide) (by omega)) ?_ ))
    refine ⟨p8, rfl, ⟨_, SqL.of eL⟩, for_list (K := K) (a := p8) (xs := L) (fun i σ H' => ∃ v4 v7, σ = [some (.ref a), v1, v2, v3, v4, v5, some (.str many), v7] ∧ H' p8 = some (.lst L)) ⟨_, _, rfl, eL⟩ (fun i σ H' _ h => ?_) ?_ ?_⟩
    · obtain ⟨_, _, _, e⟩ := h
      exact SqL.of e
    · rintro i x σ H9 hx ⟨v4, v7, rfl, e9⟩
      obtain ⟨y, rfl, hy⟩ := aL x (List.mem_of_getElem? hx)
      exact ⟨_, rfl, y, rfl, by omega, fun H10 s10 => ⟨true, rfl, ifF rfl ⟨_, _, rfl, s10 _ _ e9⟩⟩⟩
    · rintro σ H9 ⟨v4, v7, rfl, e9⟩
      exact fin _
end
end My

set_option Elab.async false
set_option linter.all false
set_option maxRecDepth 100000
set_option maxHeartbeats 4000000

namespace My
open PySem L2
section
variable {P : Program} {w : World} {K : PySem.W.Frag} {mg : Str → Option Value} {base : Heap} {f : Addr} {fd : FuncData}
theorem own_mk {h : Heap} {x : Str} {C : Addr} {bmB : List Value} {id : String} (X : K.In h) (hm : mg x = some (.ref C)) (q : PySem.W.excIn K C bmB id = true) : PyProof.Rows.OwnCls x C bmB id mg h := by
  constructor
  · exact hm
  have z := q
  unfold PySem.W.excIn at z
  split at z
  next dd cd sl ho =>
    split at z
    next C1 bm k0 k1 k2 k3 n k5 em es =>
      rw [Bool.and_eq_true, Bool.and_eq_true, Bool.and_eq_true, Bool.and_eq_true, Bool.and_eq_true] at z
      obtain ⟨⟨⟨⟨⟨z1, z2⟩, z3⟩, z4⟩, z5⟩, z6⟩ := z
      have z1 := eq_of_beq z1
      have z2 := eq_of_beq z2
      have z6 := eq_of_beq z6
      subst z1 z2
      have z3b : cd.hasDel = false := by
        cases e : cd.hasDel with
        | false => rfl
        | true => rw [e] at z3; cases z3
      have es' : sl = #[k0, k1, k2, k3, some (.builtin n), k5] := Array.toList_inj.mp es
      have nN := PySem.W.nsMap_none_of_in X z5 z6
      have nI := Heap.Ns.of_isNs (PySem.W.isNs_of_in X z5)
      have tI := PySem.W.tail_of_in X z4
      cases cd
      dsimp only at em z3b nN nI
      subst em z3b es'
      exact ⟨bm, _, _, _, _, _, _, _, _, _, dd, k0, k1, k2, k3, k5, _, X _ _ ho, nI, nN, tI⟩
    next => cases z
  next => cases z
end
theorem all_mk {l : PySem.W.OpenLaw} {w : World} {K : PySem.W.Frag} {h : Heap} {mg : Str → Option Value} {fa f0 f1 f2 f3 f4 f5 f6 f7 f8 f9 f10 f11 f12 f13 f14 f15 f16 f17 f18 f19 f20 f21 f22 f23 f24 f25 NN SE y1 y2 y3 y4 y5 y6 : Addr} (X : K.In h) (G : h.Ns mainGlobals mg) (hfa : mg "law" = some (.ref fa))
    {od0 an0 od1 an1 od2 an2 od3 an3 od4 an4 od5 an5 od6 an6 od7 an7 od8 an8 od9 an9 od10 an10 od11 an11 od12 an12 od13 an13 od14 an14 od15 an15 od16 an16 od17 an17 od18 an18 od19 an19 od20 an20 od21 an21 od22 an22 od23 an23 od24 an24 od25 an25 : Option Addr} {sl0 sl1 sl2 sl3 sl4 sl5 sl6 sl7 sl8 sl9 sl10 sl11 sl12 sl13 sl14 sl15 sl16 sl17 sl18 sl19 sl20 sl21 sl22 sl23 sl24 sl25 : Array (Option Value)} {oc0 kV0 dc0 pm0 cd0 ct0 oc1 kV1 dc1 pm1 cd1 ct1 oc2 kV2 dc2 pm2 cd2 ct2 oc3 kV3 dc3 pm3 cd3 ct3 oc4 kV4 dc4 pm4 cd4 ct4 oc5 kV5 dc5 pm5 cd5 ct5 oc6 kV6 dc6 pm6 cd6 ct6 oc7 kV7 dc7 pm7 cd7 ct7 oc8 kV8 dc8 pm8 cd8 ct8 oc9 kV9 dc9 pm9 cd9 ct9 oc10 kV10 dc10 pm10 cd10 ct10 oc11 kV11 dc11 pm11 cd11 ct11 oc12 kV12 dc12 pm12 cd12 ct12 oc13 kV13 dc13 pm13 cd13 ct13 oc14 kV14 dc14 pm14 cd14 ct14 oc15 kV15 dc15 pm15 cd15 ct15 oc16 kV16 dc16 pm16 cd16 ct16 oc17 kV17 dc17 pm17 cd17 ct17 oc18 kV18 dc18 pm18 cd18 ct18 oc19 kV19 dc19 pm19 cd19 ct19 oc20 kV20 dc20 pm20 cd20 ct20 oc21 kV21 dc21 pm21 cd21 ct21 oc22 kV22 dc22 pm22 cd22 ct22 oc23 kV23 dc23 pm23 cd23 ct23 oc24 kV24 dc24 pm24 cd24 ct24 oc25 kV25 dc25 pm25 cd25 ct25 : Value} {tk0 tk1 tk2 tk3 tk4 tk5 : Tok}
    (a0 : PySem.W.nsIn K mainGlobals "is_whole" = some (some (.ref f0))) (l0 : K.lookup f0 = some ⟨oc0, od0, .func (PySem.W.fnOf "is_whole" "is_whole" (defArgs s_is_whole) (defBody s_is_whole) (defScope s_is_whole) .none kV0 dc0 pm0 an0 cd0 ct0), sl0⟩) (c0 : PySem.W.codeIn K cd0 "is_whole" = true) (k0 : PySem.W.keepIn K (.ref f0) = true)
    (a1 : PySem.W.nsIn K mainGlobals "is_whole_between" = some (some (.ref f1))) (l1 : K.lookup f1 = some ⟨oc1, od1, .func (PySem.W.fnOf "is_whole_between" "is_whole_between" (defArgs s_is_whole_between) (defBody s_is_whole_between) (defScope s_is_whole_between) .none kV1 dc1 pm1 an1 cd1 ct1), sl1⟩) (c1 : PySem.W.codeIn K cd1 "is_whole_between" = true) (k1 : PySem.W.keepIn K (.ref f1) = true)
    (a2 : PySem.W.nsIn K mainGlobals "is_numeral" = some (some (.ref f2))) (l2 : K.lookup f2 = some ⟨oc2, od2, .func (PySem.W.fnOf "is_numeral" "is_numeral" (defArgs s_is_numeral) (defBody s_is_numeral) (defScope s_is_numeral) .none kV2 dc2 pm2 an2 cd2 ct2), sl2⟩) (c2 : PySem.W.codeIn K cd2 "is_numeral" = true) (k2 : PySem.W.keepIn K (.ref f2) = true)
    (a3 : PySem.W.nsIn K mainGlobals "make_net" = some (some (.ref f3))) (l3 : K.lookup f3 = some ⟨oc3, od3, .func (PySem.W.fnOf "make_net" "make_net" (defArgs s_make_net) (defBody s_make_net) (defScope s_make_net) .none kV3 dc3 pm3 an3 cd3 ct3), sl3⟩) (c3 : PySem.W.codeIn K cd3 "make_net" = true) (k3 : PySem.W.keepIn K (.ref f3) = true)
    (a4 : PySem.W.nsIn K mainGlobals "are_bridges" = some (some (.ref f4))) (l4 : K.lookup f4 = some ⟨oc4, od4, .func (PySem.W.fnOf "are_bridges" "are_bridges" (defArgs s_are_bridges) (defBody s_are_bridges) (defScope s_are_bridges) .none kV4 dc4 pm4 an4 cd4 ct4), sl4⟩) (c4 : PySem.W.codeIn K cd4 "are_bridges" = true) (k4 : PySem.W.keepIn K (.ref f4) = true)
    (a5 : PySem.W.nsIn K mainGlobals "is_tie" = some (some (.ref f5))) (l5 : K.lookup f5 = some ⟨oc5, od5, .func (PySem.W.fnOf "is_tie" "is_tie" (defArgs s_is_tie) (defBody s_is_tie) (defScope s_is_tie) .none kV5 dc5 pm5 an5 cd5 ct5), sl5⟩) (c5 : PySem.W.codeIn K cd5 "is_tie" = true) (k5 : PySem.W.keepIn K (.ref f5) = true)
    (a6 : PySem.W.nsIn K mainGlobals "lesser_end_first" = some (some (.ref f6))) (l6 : K.lookup f6 = some ⟨oc6, od6, .func (PySem.W.fnOf "lesser_end_first" "lesser_end_first" (defArgs s_lesser_end_first) (defBody s_lesser_end_first) (defScope s_lesser_end_first) .none kV6 dc6 pm6 an6 cd6 ct6), sl6⟩) (c6 : PySem.W.codeIn K cd6 "lesser_end_first" = true) (k6 : PySem.W.keepIn K (.ref f6) = true)
    (a7 : PySem.W.nsIn K mainGlobals "show_net" = some (some (.ref f7))) (l7 : K.lookup f7 = some ⟨oc7, od7, .func (PySem.W.fnOf "show_net" "show_net" (defArgs s_show_net) (defBody s_show_net) (defScope s_show_net) .none kV7 dc7 pm7 an7 cd7 ct7), sl7⟩) (c7 : PySem.W.codeIn K cd7 "show_net" = true) (k7 : PySem.W.keepIn K (.ref f7) = true)
    (a8 : PySem.W.nsIn K mainGlobals "read_net" = some (some (.ref f8))) (l8 : K.lookup f8 = some ⟨oc8, od8, .func (PySem.W.fnOf "read_net" "read_net" (defArgs s_read_net) (defBody s_read_net) (defScope s_read_net) .none kV8 dc8 pm8 an8 cd8 ct8), sl8⟩) (c8 : PySem.W.codeIn K cd8 "read_net" = true) (k8 : PySem.W.keepIn K (.ref f8) = true)
    (a9 : PySem.W.nsIn K mainGlobals "read_numbers" = some (some (.ref f9))) (l9 : K.lookup f9 = some ⟨oc9, od9, .func (PySem.W.fnOf "read_numbers" "read_numbers" (defArgs s_read_numbers) (defBody s_read_numbers) (defScope s_read_numbers) .none kV9 dc9 pm9 an9 cd9 ct9), sl9⟩) (c9 : PySem.W.codeIn K cd9 "read_numbers" = true) (k9 : PySem.W.keepIn K (.ref f9) = true)
    (a10 : PySem.W.nsIn K mainGlobals "_law_stream" = some (some (.ref f10))) (l10 : K.lookup f10 = some ⟨oc10, od10, .func (PySem.W.fnOf "_law_stream" "_law_stream" (defArgs s_law_stream) (defBody s_law_stream) (defScope s_law_stream) .none kV10 dc10 pm10 an10 cd10 ct10), sl10⟩) (c10 : PySem.W.codeIn K cd10 "_law_stream" = true) (k10 : PySem.W.keepIn K (.ref f10) = true)
    (a11 : PySem.W.nsIn K mainGlobals "_law_take" = some (some (.ref f11))) (l11 : K.lookup f11 = some ⟨oc11, od11, .func (PySem.W.fnOf "_law_take" "_law_take" (defArgs s_law_take) (defBody s_law_take) (defScope s_law_take) .none kV11 dc11 pm11 an11 cd11 ct11), sl11⟩) (c11 : PySem.W.codeIn K cd11 "_law_take" = true) (k11 : PySem.W.keepIn K (.ref f11) = true)
    (a12 : PySem.W.nsIn K mainGlobals "_law_bridges" = some (some (.ref f12))) (l12 : K.lookup f12 = some ⟨oc12, od12, .func (PySem.W.fnOf "_law_bridges" "_law_bridges" (defArgs s_law_bridges) (defBody s_law_bridges) (defScope s_law_bridges) .none kV12 dc12 pm12 an12 cd12 ct12), sl12⟩) (c12 : PySem.W.codeIn K cd12 "_law_bridges" = true) (k12 : PySem.W.keepIn K (.ref f12) = true)
    (a13 : PySem.W.nsIn K mainGlobals "_law_cost" = some (some (.ref f13))) (l13 : K.lookup f13 = some ⟨oc13, od13, .func (PySem.W.fnOf "_law_cost" "_law_cost" (defArgs s_law_cost) (defBody s_law_cost) (defScope s_law_cost) .none kV13 dc13 pm13 an13 cd13 ct13), sl13⟩) (c13 : PySem.W.codeIn K cd13 "_law_cost" = true) (k13 : PySem.W.keepIn K (.ref f13) = true)
    (a14 : PySem.W.nsIn K mainGlobals "_law_ties" = some (some (.ref f14))) (l14 : K.lookup f14 = some ⟨oc14, od14, .func (PySem.W.fnOf "_law_ties" "_law_ties" (defArgs s_law_ties) (defBody s_law_ties) (defScope s_law_ties) .none kV14 dc14 pm14 an14 cd14 ct14), sl14⟩) (c14 : PySem.W.codeIn K cd14 "_law_ties" = true) (k14 : PySem.W.keepIn K (.ref f14) = true)
    (a15 : PySem.W.nsIn K mainGlobals "_law_due" = some (some (.ref f15))) (l15 : K.lookup f15 = some ⟨oc15, od15, .func (PySem.W.fnOf "_law_due" "_law_due" (defArgs s_law_due) (defBody s_law_due) (defScope s_law_due) .none kV15 dc15 pm15 an15 cd15 ct15), sl15⟩) (c15 : PySem.W.codeIn K cd15 "_law_due" = true) (k15 : PySem.W.keepIn K (.ref f15) = true)
    (a16 : PySem.W.nsIn K mainGlobals "_law_same" = some (some (.ref f16))) (l16 : K.lookup f16 = some ⟨oc16, od16, .func (PySem.W.fnOf "_law_same" "_law_same" (defArgs s_law_same) (defBody s_law_same) (defScope s_law_same) .none kV16 dc16 pm16 an16 cd16 ct16), sl16⟩) (c16 : PySem.W.codeIn K cd16 "_law_same" = true) (k16 : PySem.W.keepIn K (.ref f16) = true)
    (a17 : PySem.W.nsIn K mainGlobals "_law_written" = some (some (.ref f17))) (l17 : K.lookup f17 = some ⟨oc17, od17, .func (PySem.W.fnOf "_law_written" "_law_written" (defArgs s_law_written) (defBody s_law_written) (defScope s_law_written) .none kV17 dc17 pm17 an17 cd17 ct17), sl17⟩) (c17 : PySem.W.codeIn K cd17 "_law_written" = true) (k17 : PySem.W.keepIn K (.ref f17) = true)
    (a18 : PySem.W.nsIn K mainGlobals "_law_odd_line" = some (some (.ref f18))) (l18 : K.lookup f18 = some ⟨oc18, od18, .func (PySem.W.fnOf "_law_odd_line" "_law_odd_line" (defArgs s_law_odd_line) (defBody s_law_odd_line) (defScope s_law_odd_line) .none kV18 dc18 pm18 an18 cd18 ct18), sl18⟩) (c18 : PySem.W.codeIn K cd18 "_law_odd_line" = true) (k18 : PySem.W.keepIn K (.ref f18) = true)
    (a19 : PySem.W.nsIn K mainGlobals "_law_odd_word" = some (some (.ref f19))) (l19 : K.lookup f19 = some ⟨oc19, od19, .func (PySem.W.fnOf "_law_odd_word" "_law_odd_word" (defArgs s_law_odd_word) (defBody s_law_odd_word) (defScope s_law_odd_word) .none kV19 dc19 pm19 an19 cd19 ct19), sl19⟩) (c19 : PySem.W.codeIn K cd19 "_law_odd_word" = true) (k19 : PySem.W.keepIn K (.ref f19) = true)
    (a20 : PySem.W.nsIn K mainGlobals "_law_words_bent" = some (some (.ref f20))) (l20 : K.lookup f20 = some ⟨oc20, od20, .func (PySem.W.fnOf "_law_words_bent" "_law_words_bent" (defArgs s_law_words_bent) (defBody s_law_words_bent) (defScope s_law_words_bent) .none kV20 dc20 pm20 an20 cd20 ct20), sl20⟩) (c20 : PySem.W.codeIn K cd20 "_law_words_bent" = true) (k20 : PySem.W.keepIn K (.ref f20) = true)
    (a21 : PySem.W.nsIn K mainGlobals "_law_bent" = some (some (.ref f21))) (l21 : K.lookup f21 = some ⟨oc21, od21, .func (PySem.W.fnOf "_law_bent" "_law_bent" (defArgs s_law_bent) (defBody s_law_bent) (defScope s_law_bent) .none kV21 dc21 pm21 an21 cd21 ct21), sl21⟩) (c21 : PySem.W.codeIn K cd21 "_law_bent" = true) (k21 : PySem.W.keepIn K (.ref f21) = true)
    (a22 : PySem.W.nsIn K mainGlobals "_law_number" = some (some (.ref f22))) (l22 : K.lookup f22 = some ⟨oc22, od22, .func (PySem.W.fnOf "_law_number" "_law_number" (defArgs s_law_number) (defBody s_law_number) (defScope s_law_number) .none kV22 dc22 pm22 an22 cd22 ct22), sl22⟩) (c22 : PySem.W.codeIn K cd22 "_law_number" = true) (k22 : PySem.W.keepIn K (.ref f22) = true)
    (a23 : PySem.W.nsIn K mainGlobals "_law_read" = some (some (.ref f23))) (l23 : K.lookup f23 = some ⟨oc23, od23, .func (PySem.W.fnOf "_law_read" "_law_read" (defArgs s_law_read) (defBody s_law_read) (defScope s_law_read) .none kV23 dc23 pm23 an23 cd23 ct23), sl23⟩) (c23 : PySem.W.codeIn K cd23 "_law_read" = true) (k23 : PySem.W.keepIn K (.ref f23) = true)
    (a24 : PySem.W.nsIn K mainGlobals "_law_right" = some (some (.ref f24))) (l24 : K.lookup f24 = some ⟨oc24, od24, .func (PySem.W.fnOf "_law_right" "_law_right" (defArgs s_law_right) (defBody s_law_right) (defScope s_law_right) .none kV24 dc24 pm24 an24 cd24 ct24), sl24⟩) (c24 : PySem.W.codeIn K cd24 "_law_right" = true) (k24 : PySem.W.keepIn K (.ref f24) = true)
    (a25 : PySem.W.nsIn K mainGlobals "law" = some (some (.ref f25))) (l25 : K.lookup f25 = some ⟨oc25, od25, .func (PySem.W.fnOf "law" "law" (defArgs s_law) (defBody s_law) (defScope s_law) .none kV25 dc25 pm25 an25 cd25 ct25), sl25⟩) (c25 : PySem.W.codeIn K cd25 "law" = true) (k25 : PySem.W.keepIn K (.ref f25) = true)
    (g0 : PySem.W.nsIn K mainGlobals "FIGURES" = some (some (.str "0123456789" tk0)))
    (g1 : PySem.W.nsIn K mainGlobals "MOST_BRIDGES" = some (some (.int 10 tk1)))
    (g2 : PySem.W.nsIn K mainGlobals "MOST_TIES" = some (some (.int 16 tk2)))
    (g3 : PySem.W.nsIn K mainGlobals "GREATEST_NUMBER" = some (some (.int 999 tk3)))
    (g4 : PySem.W.nsIn K mainGlobals "GREATEST_COST" = some (some (.int 1000 tk4)))
    (g5 : PySem.W.nsIn K mainGlobals "MOST_FIGURES" = some (some (.int 4 tk5)))
    (z0 : PySem.W.nsIn K mainGlobals "len" = some none)
    (z1 : PySem.W.nsIn K mainGlobals "isinstance" = some none)
    (z2 : PySem.W.nsIn K mainGlobals "int" = some none)
    (z3 : PySem.W.nsIn K mainGlobals "bool" = some none)
    (z4 : PySem.W.nsIn K mainGlobals "list" = some none)
    (z5 : PySem.W.nsIn K mainGlobals "tuple" = some none)
    (z6 : PySem.W.nsIn K mainGlobals "set" = some none)
    (z7 : PySem.W.nsIn K mainGlobals "all" = some none)
    (z8 : PySem.W.nsIn K mainGlobals "sorted" = some none)
    (z9 : PySem.W.nsIn K mainGlobals "min" = some none)
    (z10 : PySem.W.nsIn K mainGlobals "max" = some none)
    (z11 : PySem.W.nsIn K mainGlobals "range" = some none)
    (z12 : PySem.W.nsIn K mainGlobals "enumerate" = some none)
    (z13 : PySem.W.nsIn K mainGlobals "sum" = some none)
    (z14 : PySem.W.nsIn K mainGlobals "str" = some none)
    (z15 : PySem.W.nsIn K mainGlobals "dict" = some none)
    (n0 : PySem.W.nsIn K mainGlobals "NoNet" = some (some (.ref NN)))
    (n1 : PySem.W.nsIn K mainGlobals "ShutError" = some (some (.ref SE)))
    (n2 : PySem.W.nsIn K mainGlobals "NoCommand" = some (some (.ref y1)))
    (n3 : PySem.W.nsIn K mainGlobals "NoDeed" = some (some (.ref y2)))
    (n4 : PySem.W.nsIn K mainGlobals "NoFrame" = some (some (.ref y3)))
    (n5 : PySem.W.nsIn K mainGlobals "NoLetter" = some (some (.ref y4)))
    (n6 : PySem.W.nsIn K mainGlobals "NoLine" = some (some (.ref y5)))
    (n7 : PySem.W.nsIn K mainGlobals "NoOrder" = some (some (.ref y6)))
    (n8 : PySem.W.nsIn K mainGlobals "ValueError" = some none)
    (x0 : PySem.W.excIn K NN [.type "ValueError", .type "Exception", .type "BaseException", .type "object"] "ValueError.__new__" = true)
    (x1 : PySem.W.findIn K (.ref NN) "__getattribute__" = some (some (.builtin "BaseException.__getattribute__")))
    (x2 : PySem.W.findIn K (.ref NN) "__getattr__" = some none)
    (x3 : PySem.W.findIn K (.ref NN) "__class__" = some (some (.builtin "object.__class__")))
    (x4 : PySem.W.mroIn K NN (.type "object") = some true)
    (x5 : PySem.W.mroIn K NN (.type "BaseException") = some true)
    (x6 : (PySem.W.clsIn K NN).isSome = true)
    (x7 : PySem.W.exmOne K (.ref NN) (.ref SE) = some true)
    (x8 : PySem.W.kitAny K (.ref NN) ([y1, y2, y3, y4, y5, y6].map Value.ref) = some false)
    (x9 : PySem.W.kitOne K (.ref NN) (.ref NN) = some true)
    (x10 : PySem.W.kitOne K (.ref NN) (.type "ValueError") = some true) :
    ∃ fd : FuncData, (∀ (s : Shared) (v : Value), BindsTo s fd ⟨[v], []⟩ [("script", v)]) ∧ ∀ base : Heap, K.In base → base.Ns mainGlobals mg → FnOk l.prog w K mg base CX0 7 fa fd ["script"] (sp_law K) := by
  have e := hfa.symm.trans (PySem.W.mg_of X G a25)
  cases e
  have T : Bl mg := ⟨PySem.W.mg_none_of X G z0, PySem.W.mg_none_of X G z1, PySem.W.mg_none_of X G z2, PySem.W.mg_none_of X G z3, PySem.W.mg_none_of X G z4, PySem.W.mg_none_of X G z5, PySem.W.mg_none_of X G z6, PySem.W.mg_none_of X G z7, PySem.W.mg_none_of X G z8, PySem.W.mg_none_of X G z9, PySem.W.mg_none_of X G z10, PySem.W.mg_none_of X G z11, PySem.W.mg_none_of X G z12, PySem.W.mg_none_of X G z13, PySem.W.mg_none_of X G z14, PySem.W.mg_none_of X G z15⟩
  have C : Cn mg := ⟨⟨_, PySem.W.mg_of X G g0, _, rfl⟩, ⟨_, PySem.W.mg_of X G g1, _, rfl⟩, ⟨_, PySem.W.mg_of X G g2, _, rfl⟩, ⟨_, PySem.W.mg_of X G g3, _, rfl⟩, ⟨_, PySem.W.mg_of X G g4, _, rfl⟩, ⟨_, PySem.W.mg_of X G g5, _, rfl⟩⟩
  have F_is_whole := fun_mk (st := s_is_whole) l0 c0 k0
  have B_is_whole := F_is_whole.binds (ps := ["thing"]) fun _ _ _ _ _ _ us hl => match us, hl with | [_], _ => rfl
  have M_is_whole := PySem.W.mg_of X G a0
  have F_is_whole_between := fun_mk (st := s_is_whole_between) l1 c1 k1
  have B_is_whole_between := F_is_whole_between.binds (ps := ["thing", "least", "greatest"]) fun _ _ _ _ _ _ us hl => match us, hl with | [_, _, _], _ => rfl
  have M_is_whole_between := PySem.W.mg_of X G a1
  have F_is_numeral := fun_mk (st := s_is_numeral) l2 c2 k2
  have B_is_numeral := F_is_numeral.binds (ps := ["word", "most_figures"]) fun _ _ _ _ _ _ us hl => match us, hl with | [_, _], _ => rfl
  have M_is_numeral := PySem.W.mg_of X G a2
  have F_make_net := fun_mk (st := s_make_net) l3 c3 k3
  have B_make_net := F_make_net.binds (ps := ["bridges", "ties"]) fun _ _ _ _ _ _ us hl => match us, hl with | [_, _], _ => rfl
  have M_make_net := PySem.W.mg_of X G a3
  have F_are_bridges := fun_mk (st := s_are_bridges) l4 c4 k4
  have B_are_bridges := F_are_bridges.binds (ps := ["things"]) fun _ _ _ _ _ _ us hl => match us, hl with | [_], _ => rfl
  have M_are_bridges := PySem.W.mg_of X G a4
  have F_is_tie := fun_mk (st := s_is_tie) l5 c5 k5
  have B_is_tie := F_is_tie.binds (ps := ["thing", "bridges"]) fun _ _ _ _ _ _ us hl => match us, hl with | [_, _], _ => rfl
  have M_is_tie := PySem.W.mg_of X G a5
  have F_lesser_end_first := fun_mk (st := s_lesser_end_first) l6 c6 k6
  have B_lesser_end_first := F_lesser_end_first.binds (ps := ["tie"]) fun _ _ _ _ _ _ us hl => match us, hl with | [_], _ => rfl
  have M_lesser_end_first := PySem.W.mg_of X G a6
  have F_show_net := fun_mk (st := s_show_net) l7 c7 k7
  have B_show_net := F_show_net.binds (ps := ["net"]) fun _ _ _ _ _ _ us hl => match us, hl with | [_], _ => rfl
  have M_show_net := PySem.W.mg_of X G a7
  have F_read_net := fun_mk (st := s_read_net) l8 c8 k8
  have B_read_net := F_read_net.binds (ps := ["text"]) fun _ _ _ _ _ _ us hl => match us, hl with | [_], _ => rfl
  have M_read_net := PySem.W.mg_of X G a8
  have F_read_numbers := fun_mk (st := s_read_numbers) l9 c9 k9
  have B_read_numbers := F_read_numbers.binds (ps := ["words"]) fun _ _ _ _ _ _ us hl => match us, hl with | [_], _ => rfl
  have M_read_numbers := PySem.W.mg_of X G a9
  have F_law_stream := fun_mk (st := s_law_stream) l10 c10 k10
  have B_law_stream := F_law_stream.binds (ps := ["cell"]) fun _ _ _ _ _ _ us hl => match us, hl with | [_], _ => rfl
  have M_law_stream := PySem.W.mg_of X G a10
  have F_law_take := fun_mk (st := s_law_take) l11 c11 k11
  have B_law_take := F_law_take.binds (ps := ["row", "many"]) fun _ _ _ _ _ _ us hl => match us, hl with | [_, _], _ => rfl
  have M_law_take := PySem.W.mg_of X G a11
  have F_law_bridges := fun_mk (st := s_law_bridges) l12 c12 k12
  have B_law_bridges := F_law_bridges.binds (ps := ["row"]) fun _ _ _ _ _ _ us hl => match us, hl with | [_], _ => rfl
  have M_law_bridges := PySem.W.mg_of X G a12
  have F_law_cost := fun_mk (st := s_law_cost) l13 c13 k13
  have B_law_cost := F_law_cost.binds (ps := ["row"]) fun _ _ _ _ _ _ us hl => match us, hl with | [_], _ => rfl
  have M_law_cost := PySem.W.mg_of X G a13
  have F_law_ties := fun_mk (st := s_law_ties) l14 c14 k14
  have B_law_ties := F_law_ties.binds (ps := ["row", "bridges"]) fun _ _ _ _ _ _ us hl => match us, hl with | [_, _], _ => rfl
  have M_law_ties := PySem.W.mg_of X G a14
  have F_law_due := fun_mk (st := s_law_due) l15 c15 k15
  have B_law_due := F_law_due.binds (ps := ["bridges", "ties"]) fun _ _ _ _ _ _ us hl => match us, hl with | [_, _], _ => rfl
  have M_law_due := PySem.W.mg_of X G a15
  have F_law_same := fun_mk (st := s_law_same) l16 c16 k16
  have B_law_same := F_law_same.binds (ps := ["found", "due"]) fun _ _ _ _ _ _ us hl => match us, hl with | [_, _], _ => rfl
  have M_law_same := PySem.W.mg_of X G a16
  have F_law_written := fun_mk (st := s_law_written) l17 c17 k17
  have B_law_written := F_law_written.binds (ps := ["net"]) fun _ _ _ _ _ _ us hl => match us, hl with | [_], _ => rfl
  have M_law_written := PySem.W.mg_of X G a17
  have F_law_odd_line := fun_mk (st := s_law_odd_line) l18 c18 k18
  have B_law_odd_line := F_law_odd_line.binds (ps := ["row", "lines"]) fun _ _ _ _ _ _ us hl => match us, hl with | [_, _], _ => rfl
  have M_law_odd_line := PySem.W.mg_of X G a18
  have F_law_odd_word := fun_mk (st := s_law_odd_word) l19 c19 k19
  have B_law_odd_word := F_law_odd_word.binds (ps := ["row"]) fun _ _ _ _ _ _ us hl => match us, hl with | [_], _ => rfl
  have M_law_odd_word := PySem.W.mg_of X G a19
  have F_law_words_bent := fun_mk (st := s_law_words_bent) l20 c20 k20
  have B_law_words_bent := F_law_words_bent.binds (ps := ["row", "line"]) fun _ _ _ _ _ _ us hl => match us, hl with | [_, _], _ => rfl
  have M_law_words_bent := PySem.W.mg_of X G a20
  have F_law_bent := fun_mk (st := s_law_bent) l21 c21 k21
  have B_law_bent := F_law_bent.binds (ps := ["row", "text"]) fun _ _ _ _ _ _ us hl => match us, hl with | [_, _], _ => rfl
  have M_law_bent := PySem.W.mg_of X G a21
  have F_law_number := fun_mk (st := s_law_number) l22 c22 k22
  have B_law_number := F_law_number.binds (ps := ["word", "least", "most"]) fun _ _ _ _ _ _ us hl => match us, hl with | [_, _, _], _ => rfl
  have M_law_number := PySem.W.mg_of X G a22
  have F_law_read := fun_mk (st := s_law_read) l23 c23 k23
  have B_law_read := F_law_read.binds (ps := ["text"]) fun _ _ _ _ _ _ us hl => match us, hl with | [_], _ => rfl
  have M_law_read := PySem.W.mg_of X G a23
  have F_law_right := fun_mk (st := s_law_right) l24 c24 k24
  have B_law_right := F_law_right.binds (ps := ["text"]) fun _ _ _ _ _ _ us hl => match us, hl with | [_], _ => rfl
  have M_law_right := PySem.W.mg_of X G a24
  have F_law := fun_mk (st := s_law) l25 c25 k25
  refine ⟨PySem.W.fnOf "law" "law" (defArgs s_law) (defBody s_law) (defScope s_law) .none kV25 dc25 pm25 an25 cd25 ct25, fun s v => .of_eq rfl, fun base Xb _ => ?_⟩
  have O : NoNetCls mg base NN := own_mk Xb (PySem.W.mg_of X G n0) x0
  have X5 : Ecl K mg NN SE y1 y2 y3 y4 y5 y6 := ⟨PySem.W.mg_of X G n1, ⟨_, PySem.W.mg_of X G n0, rfl⟩, ⟨_, PySem.W.mg_of X G n2, rfl⟩, ⟨_, PySem.W.mg_of X G n3, rfl⟩, ⟨_, PySem.W.mg_of X G n4, rfl⟩, ⟨_, PySem.W.mg_of X G n5, rfl⟩, ⟨_, PySem.W.mg_of X G n6, rfl⟩, ⟨_, PySem.W.mg_of X G n7, rfl⟩, PySem.W.mg_none_of X G n8, ⟨x1, x2, x3, x4, x5, x6⟩, x7, x8, x9, x10⟩
  have D_is_whole : Dfn l.prog w K mg base 1 "is_whole" ["thing"] sp_is_whole := ⟨_, _, ok_is_whole F_is_whole T, M_is_whole, F_is_whole.kp, B_is_whole⟩
  have D_between : Dfn l.prog w K mg base 2 "is_whole_between" ["thing", "least", "greatest"] sp_between := ⟨_, _, ok_is_whole_between F_is_whole_between D_is_whole, M_is_whole_between, F_is_whole_between.kp, B_is_whole_between⟩
  have D_are : Dfn l.prog w K mg base 3 "are_bridges" ["things"] (sp_are_bridges K) := ⟨_, _, ok_are_bridges F_are_bridges T C D_between, M_are_bridges, F_are_bridges.kp, B_are_bridges⟩
  have D_tie : Dfn l.prog w K mg base 3 "is_tie" ["thing", "bridges"] (sp_is_tie K) := ⟨_, _, ok_is_tie F_is_tie T C D_is_whole D_between, M_is_tie, F_is_tie.kp, B_is_tie⟩
  have D_les : Dfn l.prog w K mg base 1 "lesser_end_first" ["tie"] (sp_lesser K) := ⟨_, _, ok_lesser_end_first F_lesser_end_first T, M_lesser_end_first, F_lesser_end_first.kp, B_lesser_end_first⟩
  have D_make : Dfn1 l.prog w K mg base 4 "make_net" ["bridges", "ties"] (sp_make1 K NN) := ⟨_, _, ok_make1 F_make_net T C O D_are D_tie D_les, M_make_net, F_make_net.kp, B_make_net⟩
  have D_numeral : Dfn l.prog w K mg base 1 "is_numeral" ["word", "most_figures"] sp_numeral := ⟨_, _, ok_is_numeral F_is_numeral T C, M_is_numeral, F_is_numeral.kp, B_is_numeral⟩
  have D_numbers : Dfn1 l.prog w K mg base 2 "read_numbers" ["words"] (sp_numbers K NN) := ⟨_, _, ok_read_numbers F_read_numbers T C O D_numeral, M_read_numbers, F_read_numbers.kp, B_read_numbers⟩
  have D_show : Dfn l.prog w K mg base 1 "show_net" ["net"] (sp_text K) := ⟨_, _, ok_show_net F_show_net T, M_show_net, F_show_net.kp, B_show_net⟩
  have D_read : Dfn1 l.prog w K mg base 5 "read_net" ["text"] (sp_read K NN) := ⟨_, _, ok_read_net F_read_net T O D_numbers D_make D_show, M_read_net, F_read_net.kp, B_read_net⟩
  have D_stream : Dfn l.prog w K mg base 1 "_law_stream" ["cell"] sp_stream := ⟨_, _, ok_stream F_law_stream T, M_law_stream, F_law_stream.kp, B_law_stream⟩
  have D_take : Dfn l.prog w K mg base 1 "_law_take" ["row", "many"] sp_take := ⟨_, _, ok_take F_law_take, M_law_take, F_law_take.kp, B_law_take⟩
  have D_br : Dfn l.prog w K mg base 2 "_law_bridges" ["row"] sp_bridges := ⟨_, _, ok_bridges F_law_bridges T D_take, M_law_bridges, F_law_bridges.kp, B_law_bridges⟩
  have D_cost : Dfn l.prog w K mg base 2 "_law_cost" ["row"] sp_cost := ⟨_, _, ok_cost F_law_cost D_take, M_law_cost, F_law_cost.kp, B_law_cost⟩
  have D_ties : Dfn l.prog w K mg base 3 "_law_ties" ["row", "bridges"] (sp_ties K) := ⟨_, _, ok_ties F_law_ties T D_take D_cost, M_law_ties, F_law_ties.kp, B_law_ties⟩
  have D_due : Dfn l.prog w K mg base 1 "_law_due" ["bridges", "ties"] (sp_due K) := ⟨_, _, ok_due F_law_due T, M_law_due, F_law_due.kp, B_law_due⟩
  have D_same : Dfn l.prog w K mg base 4 "_law_same" ["found", "due"] (sp_same K 4) := ⟨_, _, ok_same F_law_same T M_law_same F_law_same.kp B_law_same 4, M_law_same, F_law_same.kp, B_law_same⟩
  have D_written : Dfn l.prog w K mg base 1 "_law_written" ["net"] (sp_text K) := ⟨_, _, ok_written F_law_written T, M_law_written, F_law_written.kp, B_law_written⟩
  have D_number : Dfn l.prog w K mg base 1 "_law_number" ["word", "least", "most"] sp_number := ⟨_, _, ok_number F_law_number T, M_law_number, F_law_number.kp, B_law_number⟩
  have D_lread : Dfn l.prog w K mg base 2 "_law_read" ["text"] (sp_lread K) := ⟨_, _, ok_law_read F_law_read T D_number, M_law_read, F_law_read.kp, B_law_read⟩
  have D_oddw : Dfn l.prog w K mg base 2 "_law_odd_word" ["row"] sp_oddw := ⟨_, _, ok_odd_word F_law_odd_word T D_take, M_law_odd_word, F_law_odd_word.kp, B_law_odd_word⟩
  have D_oddl : Dfn l.prog w K mg base 2 "_law_odd_line" ["row", "lines"] sp_oddl := ⟨_, _, ok_odd_line F_law_odd_line T D_take, M_law_odd_line, F_law_odd_line.kp, B_law_odd_line⟩
  have D_wbent : Dfn l.prog w K mg base 3 "_law_words_bent" ["row", "line"] sp_wbent := ⟨_, _, ok_words_bent F_law_words_bent T D_take D_oddw, M_law_words_bent, F_law_words_bent.kp, B_law_words_bent⟩
  have D_bent : Dfn l.prog w K mg base 4 "_law_bent" ["row", "text"] sp_bent := ⟨_, _, ok_bent F_law_bent T D_take D_oddl D_wbent, M_law_bent, F_law_bent.kp, B_law_bent⟩
  have D_right : Dfn l.prog w K mg base 6 "_law_right" ["text"] sp_right := ⟨_, _, ok_right F_law_right T X5 D_lread D_read D_same, M_law_right, F_law_right.kp, B_law_right⟩
  exact ok_law F_law T D_stream D_br D_ties D_due D_written D_bent D_right
open PySem.W
def tabF : List (Str × Stmt) := [("is_whole", s_is_whole), ("is_whole_between", s_is_whole_between), ("is_numeral", s_is_numeral), ("make_net", s_make_net), ("are_bridges", s_are_bridges), ("is_tie", s_is_tie), ("lesser_end_first", s_lesser_end_first), ("show_net", s_show_net), ("read_net", s_read_net), ("read_numbers", s_read_numbers), ("_law_stream", s_law_stream), ("_law_take", s_law_take), ("_law_bridges", s_law_bridges), ("_law_cost", s_law_cost), ("_law_ties", s_law_ties), ("_law_due", s_law_due), ("_law_same", s_law_same), ("_law_written", s_law_written), ("_law_odd_line", s_law_odd_line), ("_law_odd_word", s_law_odd_word), ("_law_words_bent", s_law_words_bent), ("_law_bent", s_law_bent), ("_law_number", s_law_number), ("_law_read", s_law_read), ("_law_right", s_law_right), ("law", s_law)]
def litSee (K : Frag) (nm : Str) (v : Int ⊕ Str) : Bool := match nsIn K mainGlobals nm, v with
  | some (some (.int i _)), .inl j => i == j
  | some (some (.str s _)), .inr u => decide (s = u)
  | _, _ => false
theorem lit_int {K : Frag} {nm : Str} {i : Int} (h : litSee K nm (.inl i) = true) : ∃ tk, nsIn K mainGlobals nm = some (some (.int i tk)) := by
  unfold litSee at h
  split at h
  · rename_i e1 e2; cases e2; cases eq_of_beq h; exact ⟨_, e1⟩
  · rename_i e1 e2; cases e2
  · cases h
theorem lit_str {K : Frag} {nm : Str} {i : Str} (h : litSee K nm (.inr i) = true) : ∃ tk, nsIn K mainGlobals nm = some (some (.str i tk)) := by
  unfold litSee at h
  split at h
  · rename_i e1 e2; cases e2
  · rename_i e1 e2; cases e2; cases of_decide_eq_true h; exact ⟨_, e1⟩
  · cases h
def litsF : List (Str × (Int ⊕ Str)) := [("FIGURES", .inr "0123456789"), ("MOST_BRIDGES", .inl 10), ("MOST_TIES", .inl 16), ("GREATEST_NUMBER", .inl 999), ("GREATEST_COST", .inl 1000), ("MOST_FIGURES", .inl 4)]
def noF : List Str := ["len", "isinstance", "int", "bool", "list", "tuple", "set", "all", "sorted", "min", "max", "range", "enumerate", "sum", "str", "dict", "ValueError"]
def addrOf : Option (Option Value) → Option Addr
  | some (some (.ref a)) => some a
  | _ => none
theorem addrOf_i {v : Option (Option Value)} {a : Addr} (h : addrOf v = some a) : v = some (some (.ref a)) := by
  unfold addrOf at h
  split at h
  · cases h; rfl
  · cases h
def excSee (K : Frag) := match addrOf (nsIn K mainGlobals "NoNet") with
  | some NN => match addrOf (nsIn K mainGlobals "ShutError") with
    | some SE => match (["NoCommand", "NoDeed", "NoFrame", "NoLetter", "NoLine", "NoOrder"] : List Str).mapM (fun n => addrOf (nsIn K mainGlobals n)) with
      | some ys => some (excIn K NN [.type "ValueError", .type "Exception", .type "BaseException", .type "object"] "ValueError.__new__", findIn K (.ref NN) "__getattribute__", findIn K (.ref NN) "__getattr__", findIn K (.ref NN) "__class__", mroIn K NN (.type "object"), mroIn K NN (.type "BaseException"), (clsIn K NN).isSome, exmOne K (.ref NN) (.ref SE), kitAny K (.ref NN) (ys.map Value.ref), kitOne K (.ref NN) (.ref NN), kitOne K (.ref NN) (.type "ValueError"))
      | none => none
    | none => none
  | none => none
def excDue : Option (Bool × Option (Option Value) × Option (Option Value) × Option (Option Value) × Option Bool × Option Bool × Bool × Option Bool × Option Bool × Option Bool × Option Bool) := some (true, some (some (.builtin "BaseException.__getattribute__")), some none, some (some (.builtin "object.__class__")), some true, some true, true, some true, some false, some true, some true)
abbrev viewF (K : Frag) := (tabF.map (fun p => Hd.fnSee K p.1), litsF.all (fun p => litSee K p.1 p.2) && noF.all (Hd.noSee K), excSee K)
abbrev dueF := (tabF.map (fun p => Hd.fnDue p.1 p.2), true, excDue)
def hookF : Hook where
  α := List (Option (FuncData × Bool × Bool)) × Bool × Option (Bool × Option (Option Value) × Option (Option Value) × Option (Option Value) × Option Bool × Option Bool × Bool × Option Bool × Option Bool × Option Bool × Option Bool)
  obs := fun s => viewF (Hd.fragOf s.heap)
  val := fun _ => dueF
  says := fun _ h => ∃ g : Heap, viewF (Hd.fragOf g) = dueF ∧ ∀ b o, g.get? b = some o → h.get? b = some o
  of := fun _ s e => ⟨s.heap, e, fun _ _ x => x⟩
  keeps := fun _ _ _ ⟨g, e, k⟩ k2 => ⟨g, e, fun b o x => k2 b o (k b o x)⟩
theorem fn_ex {K : Frag} {nm : Str} {st : Stmt} (e : Hd.fnSee K nm = Hd.fnDue nm st) : ∃ (f : Addr) (oc : Value) (od : Option Addr) (kV doc pm : Value) (an : Option Addr) (cdv ct : Value) (osl : Array (Option Value)), nsIn K mainGlobals nm = some (some (.ref f)) ∧ K.lookup f = some ⟨oc, od, .func (fnOf nm nm (defArgs st) (defBody st) (defScope st) .none kV doc pm an cdv ct), osl⟩ ∧ codeIn K cdv nm = true ∧ keepIn K (.ref f) = true := by
  obtain ⟨fa, fd, F, m⟩ := Hd.fun_of e
  obtain ⟨oc, od, kV, doc, pm, an, cdv, ct, osl, rfl, l, c⟩ := F.ex
  exact ⟨fa, oc, od, kV, doc, pm, an, cdv, ct, osl, m, l, c, F.kp⟩
theorem no_i {K : Frag} {nm : Str} (h : Hd.noSee K nm = true) : nsIn K mainGlobals nm = some none := by
  unfold Hd.noSee at h
  split at h
  · assumption
  · cases h
abbrev pr : Program := PySem.Challenge.rw_shutways_k05_texts_of_no_net.row.prog
abbrev vw : Program := PySem.W.view pr [1, 2, 3, 4, 5, 6, 7, 8, 10, 11, 12, 13, 15, 16, 17, 18, 19, 20, 21, 22, 24, 25, 26, 27, 29, 30, 31, 32, 33, 34, 35, 36, 37, 38, 39, 40, 41, 42, 43, 44]
abbrev xt (s : Shared) : Bool := xlAt vw [] s && recOk (RowW.records PySem.Challenge.rw_shutways_k05_texts_of_no_net.row.toRowW) s
set_option maxRecDepth 1000000 in
set_option maxHeartbeats 0 in
theorem said : PySem.Challenge.rw_shutways_k05_texts_of_no_net.wellSaid = true := by
  rw [Fast.te9446332074065402090]; kernel_rfl
set_option maxRecDepth 1000000 in
set_option maxHeartbeats 0 in
theorem left : LeftO pr vw [] xt hookF.obs hookF.val 12000 := Hd.left_of (by kernel_rfl) rfl (fun s => by kernel_rfl) fun w os => by kernel_rfl
theorem walk {d : DefRec} {q : Program} {loose : List Str} {XP : (Str → Option Value) → Heap → Prop} (hdf : d.params.defaults = []) (hdn : d.name = Str.ofString "law") : WalkO q loose XP hookF.says PySem.Challenge.rw_shutways_k05_texts_of_no_net.row.toRowW d [] (fun f vs => PySem.call f vs) := by
  refine Hd.walk_ex (n := 63) (k := 7) (x := "script") (CX := fun _ => CX0) rfl (by decide) hdf ⟨rfl, by decide, by decide⟩ (fun w mg fa h Y G hmg => ?_) fun _ _ _ _ _ z => z
  obtain ⟨g, e, kp⟩ := Y
  have X : (Hd.fragOf g).In h := fun a o z => kp a o (Hd.fragOf_get z)
  generalize Hd.fragOf g = K at e X
  have e1 : tabF.map (fun p => Hd.fnSee K p.1) = tabF.map (fun p => Hd.fnDue p.1 p.2) := congrArg Prod.fst e
  have e2 : (litsF.all (fun p => litSee K p.1 p.2) && noF.all (Hd.noSee K)) = true := congrArg (fun x => x.2.1) e
  have e3 : excSee K = excDue := congrArg (fun x => x.2.2) e
  clear e
  rw [Bool.and_eq_true, List.all_eq_true, List.all_eq_true] at e2
  obtain ⟨e2, e4⟩ := e2
  have hF : ∀ p ∈ tabF, Hd.fnSee K p.1 = Hd.fnDue p.1 p.2 := List.map_inj_left.mp e1
  obtain ⟨f0, _, _, _, _, _, _, _, _, _, a0, l0, c0, k0⟩ := fn_ex (hF ("is_whole", s_is_whole) (List.mem_of_getElem? (i := 0) rfl))
  obtain ⟨f1, _, _, _, _, _, _, _, _, _, a1, l1, c1, k1⟩ := fn_ex (hF ("is_whole_between", s_is_whole_between) (List.mem_of_getElem? (i := 1) rfl))
  obtain ⟨f2, _, _, _, _, _, _, _, _, _, a2, l2, c2, k2⟩ := fn_ex (hF ("is_numeral", s_is_numeral) (List.mem_of_getElem? (i := 2) rfl))
  obtain ⟨f3, _, _, _, _, _, _, _, _, _, a3, l3, c3, k3⟩ := fn_ex (hF ("make_net", s_make_net) (List.mem_of_getElem? (i := 3) rfl))
  obtain ⟨f4, _, _, _, _, _, _, _, _, _, a4, l4, c4, k4⟩ := fn_ex (hF ("are_bridges", s_are_bridges) (List.mem_of_getElem? (i := 4) rfl))
  obtain ⟨f5, _, _, _, _, _, _, _, _, _, a5, l5, c5, k5⟩ := fn_ex (hF ("is_tie", s_is_tie) (List.mem_of_getElem? (i := 5) rfl))
  obtain ⟨f6, _, _, _, _, _, _, _, _, _, a6, l6, c6, k6⟩ := fn_ex (hF ("lesser_end_first", s_lesser_end_first) (List.mem_of_getElem? (i := 6) rfl))
  obtain ⟨f7, _, _, _, _, _, _, _, _, _, a7, l7, c7, k7⟩ := fn_ex (hF ("show_net", s_show_net) (List.mem_of_getElem? (i := 7) rfl))
  obtain ⟨f8, _, _, _, _, _, _, _, _, _, a8, l8, c8, k8⟩ := fn_ex (hF ("read_net", s_read_net) (List.mem_of_getElem? (i := 8) rfl))
  obtain ⟨f9, _, _, _, _, _, _, _, _, _, a9, l9, c9, k9⟩ := fn_ex (hF ("read_numbers", s_read_numbers) (List.mem_of_getElem? (i := 9) rfl))
  obtain ⟨f10, _, _, _, _, _, _, _, _, _, a10, l10, c10, k10⟩ := fn_ex (hF ("_law_stream", s_law_stream) (List.mem_of_getElem? (i := 10) rfl))
  obtain ⟨f11, _, _, _, _, _, _, _, _, _, a11, l11, c11, k11⟩ := fn_ex (hF ("_law_take", s_law_take) (List.mem_of_getElem? (i := 11) rfl))
  obtain ⟨f12, _, _, _, _, _, _, _, _, _, a12, l12, c12, k12⟩ := fn_ex (hF ("_law_bridges", s_law_bridges) (List.mem_of_getElem? (i := 12) rfl))
  obtain ⟨f13, _, _, _, _, _, _, _, _, _, a13, l13, c13, k13⟩ := fn_ex (hF ("_law_cost", s_law_cost) (List.mem_of_getElem? (i := 13) rfl))
  obtain ⟨f14, _, _, _, _, _, _, _, _, _, a14, l14, c14, k14⟩ := fn_ex (hF ("_law_ties", s_law_ties) (List.mem_of_getElem? (i := 14) rfl))
  obtain ⟨f15, _, _, _, _, _, _, _, _, _, a15, l15, c15, k15⟩ := fn_ex (hF ("_law_due", s_law_due) (List.mem_of_getElem? (i := 15) rfl))
  obtain ⟨f16, _, _, _, _, _, _, _, _, _, a16, l16, c16, k16⟩ := fn_ex (hF ("_law_same", s_law_same) (List.mem_of_getElem? (i := 16) rfl))
  obtain ⟨f17, _, _, _, _, _, _, _, _, _, a17, l17, c17, k17⟩ := fn_ex (hF ("_law_written", s_law_written) (List.mem_of_getElem? (i := 17) rfl))
  obtain ⟨f18, _, _, _, _, _, _, _, _, _, a18, l18, c18, k18⟩ := fn_ex (hF ("_law_odd_line", s_law_odd_line) (List.mem_of_getElem? (i := 18) rfl))
  obtain ⟨f19, _, _, _, _, _, _, _, _, _, a19, l19, c19, k19⟩ := fn_ex (hF ("_law_odd_word", s_law_odd_word) (List.mem_of_getElem? (i := 19) rfl))
  obtain ⟨f20, _, _, _, _, _, _, _, _, _, a20, l20, c20, k20⟩ := fn_ex (hF ("_law_words_bent", s_law_words_bent) (List.mem_of_getElem? (i := 20) rfl))
  obtain ⟨f21, _, _, _, _, _, _, _, _, _, a21, l21, c21, k21⟩ := fn_ex (hF ("_law_bent", s_law_bent) (List.mem_of_getElem? (i := 21) rfl))
  obtain ⟨f22, _, _, _, _, _, _, _, _, _, a22, l22, c22, k22⟩ := fn_ex (hF ("_law_number", s_law_number) (List.mem_of_getElem? (i := 22) rfl))
  obtain ⟨f23, _, _, _, _, _, _, _, _, _, a23, l23, c23, k23⟩ := fn_ex (hF ("_law_read", s_law_read) (List.mem_of_getElem? (i := 23) rfl))
  obtain ⟨f24, _, _, _, _, _, _, _, _, _, a24, l24, c24, k24⟩ := fn_ex (hF ("_law_right", s_law_right) (List.mem_of_getElem? (i := 24) rfl))
  obtain ⟨f25, _, _, _, _, _, _, _, _, _, a25, l25, c25, k25⟩ := fn_ex (hF ("law", s_law) (List.mem_of_getElem? (i := 25) rfl))
  obtain ⟨_, g0⟩ := lit_str (e2 ("FIGURES", .inr "0123456789") (List.mem_of_getElem? (i := 0) rfl))
  obtain ⟨_, g1⟩ := lit_int (e2 ("MOST_BRIDGES", .inl 10) (List.mem_of_getElem? (i := 1) rfl))
  obtain ⟨_, g2⟩ := lit_int (e2 ("MOST_TIES", .inl 16) (List.mem_of_getElem? (i := 2) rfl))
  obtain ⟨_, g3⟩ := lit_int (e2 ("GREATEST_NUMBER", .inl 999) (List.mem_of_getElem? (i := 3) rfl))
  obtain ⟨_, g4⟩ := lit_int (e2 ("GREATEST_COST", .inl 1000) (List.mem_of_getElem? (i := 4) rfl))
  obtain ⟨_, g5⟩ := lit_int (e2 ("MOST_FIGURES", .inl 4) (List.mem_of_getElem? (i := 5) rfl))
  have z0 := no_i (e4 "len" (List.mem_of_getElem? (i := 0) rfl))
  have z1 := no_i (e4 "isinstance" (List.mem_of_getElem? (i := 1) rfl))
  have z2 := no_i (e4 "int" (List.mem_of_getElem? (i := 2) rfl))
  have z3 := no_i (e4 "bool" (List.mem_of_getElem? (i := 3) rfl))
  have z4 := no_i (e4 "list" (List.mem_of_getElem? (i := 4) rfl))
  have z5 := no_i (e4 "tuple" (List.mem_of_getElem? (i := 5) rfl))
  have z6 := no_i (e4 "set" (List.mem_of_getElem? (i := 6) rfl))
  have z7 := no_i (e4 "all" (List.mem_of_getElem? (i := 7) rfl))
  have z8 := no_i (e4 "sorted" (List.mem_of_getElem? (i := 8) rfl))
  have z9 := no_i (e4 "min" (List.mem_of_getElem? (i := 9) rfl))
  have z10 := no_i (e4 "max" (List.mem_of_getElem? (i := 10) rfl))
  have z11 := no_i (e4 "range" (List.mem_of_getElem? (i := 11) rfl))
  have z12 := no_i (e4 "enumerate" (List.mem_of_getElem? (i := 12) rfl))
  have z13 := no_i (e4 "sum" (List.mem_of_getElem? (i := 13) rfl))
  have z14 := no_i (e4 "str" (List.mem_of_getElem? (i := 14) rfl))
  have z15 := no_i (e4 "dict" (List.mem_of_getElem? (i := 15) rfl))
  have n8 := no_i (e4 "ValueError" (List.mem_of_getElem? (i := 16) rfl))
  unfold excSee at e3
  split at e3
  · rename_i NN hNN
    split at e3
    · rename_i SE hSE
      split at e3
      · rename_i ys hys
        simp only [List.mapM_cons, List.mapM_nil, Option.bind_eq_bind, Option.bind_eq_some_iff, Option.pure_def, Option.some.injEq] at hys
        obtain ⟨y1, h1, _, ⟨y2, h2, _, ⟨y3, h3, _, ⟨y4, h4, _, ⟨y5, h5, _, ⟨y6, h6, _, rfl, rfl⟩, rfl⟩, rfl⟩, rfl⟩, rfl⟩, rfl⟩ := hys
        simp only [excDue, Option.some.injEq, Prod.mk.injEq] at e3
        obtain ⟨x0, x1, x2, x3, x4, x5, x6, x7, x8, x9, x10⟩ := e3
        have hmg2 : mg "law" = some (.ref fa) := hdn ▸ hmg
        exact ⟨K, sp_law K, X, all_mk X G hmg2 a0 l0 c0 k0 a1 l1 c1 k1 a2 l2 c2 k2 a3 l3 c3 k3 a4 l4 c4 k4 a5 l5 c5 k5 a6 l6 c6 k6 a7 l7 c7 k7 a8 l8 c8 k8 a9 l9 c9 k9 a10 l10 c10 k10 a11 l11 c11 k11 a12 l12 c12 k12 a13 l13 c13 k13 a14 l14 c14 k14 a15 l15 c15 k15 a16 l16 c16 k16 a17 l17 c17 k17 a18 l18 c18 k18 a19 l19 c19 k19 a20 l20 c20 k20 a21 l21 c21 k21 a22 l22 c22 k22 a23 l23 c23 k23 a24 l24 c24 k24 a25 l25 c25 k25 g0 g1 g2 g3 g4 g5 z0 z1 z2 z3 z4 z5 z6 z7 z8 z9 z10 z11 z12 z13 z14 z15 (addrOf_i hNN) (addrOf_i hSE) (addrOf_i h1) (addrOf_i h2) (addrOf_i h3) (addrOf_i h4) (addrOf_i h5) (addrOf_i h6) n8 x0 x1 x2 x3 x4 x5 x6 x7 x8 x9 x10, fun H a ns hl _ hS => ⟨a, ns, rfl, hS, hl, fun _ => rfl⟩⟩
      · cases e3
    · cases e3
  · cases e3
end My
open PySem PySem.W PyProof.Rows
set_option maxRecDepth 1000000 in
set_option maxHeartbeats 0 in
theorem PySem.Challenge.cw_shutways_k05_texts_of_no_net_holds : PySem.Challenge.rw_shutways_k05_texts_of_no_net.Holds := by
  refine holds_law My.said fun said => ?_
  refine holds_open (q := My.vw) (loose := []) (Xt := My.xt) (XP := XL My.vw []) (YP := My.hookF.says) My.left (Hook.of _) (Hook.keeps _) (fun s e => xl_of s (Bool.and_eq_true_iff.mp e).1) XL.keeps (by rfl) (by rfl) (by rfl) (fun s e => recFacts_of (Bool.and_eq_true_iff.mp e).2) (by rfl) said (by decide +kernel) ⟨rfl, rfl, rfl, rfl, rfl, by decide +kernel⟩ ?hw ?hc
  case hw => w_on; w_witness2
  case hc => exact My.walk rfl rfl
