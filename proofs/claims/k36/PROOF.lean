import PyProof.Rows.All
import Wide.All
import OpenK.AllK
import Wide.FinOn
import Lean
import PyProof.EqAt
import PyProof.EqKinds
import PyProof.TupleCall
import KE.BitLaws
import KE.IntBitsLaws
import KE.KIntText
import PySem.Challenge.RW_overwise_k36_signed_candidates
set_option Elab.async false
set_option linter.all false
set_option maxRecDepth 100000
/-! THE HAND LAYER, for ints, bools, texts, own classes, LISTS and tuples (index, slices, in, append, pop ..), calls, loops. Paste it whole ahead of your own text; what your proof does not reach may be deleted. -/
namespace L2
open PySem PySem.Spec PyProof.Rows

/-- a key: an int or a str -/
abbrev Key := Sum Int Str
def keyIs : Key → Value → Bool
  | .inl k, v => Value.isInt k v
  | .inr x, v => Value.isStrOf x v
def keyH (w : World) : Key → Int
  | .inl k => hashInt k
  | .inr x => hashStr w x
theorem keyIs_shape : ∀ {k : Key} {v : Value}, keyIs k v = true → (∃ i t, k = Sum.inl i ∧ v = Value.int i t) ∨ (∃ x t, k = Sum.inr x ∧ v = Value.str x t)
  | .inl i, v, h => by
    obtain ⟨t, e⟩ := Value.isInt_shape (k := i) (v := v) h
    exact .inl ⟨i, t, rfl, e⟩
  | .inr x, v, h => by
    obtain ⟨t, e⟩ := Value.isStrOf_shape (x := x) (v := v) h
    exact .inr ⟨x, t, rfl, e⟩
theorem keyIs_int (i : Int) (t : Tok) : keyIs (.inl i) (.int i t) = true := by simp [keyIs, Value.isInt]
theorem keyIs_str (x : Str) (t : Tok) : keyIs (.inr x) (.str x t) = true := by simp [keyIs, Value.isStrOf]
theorem key_ll (a b : Int) : decide ((Sum.inl a : Key) = Sum.inl b) = (a == b) := by
  by_cases e : a = b
  · subst e; simp
  · have h : ¬ (Sum.inl a : Key) = Sum.inl b := fun q => e (Sum.inl.inj q)
    rw [decide_eq_false h]
    exact (beq_eq_false_iff_ne.mpr e).symm
theorem key_rr (a b : Str) : decide ((Sum.inr a : Key) = Sum.inr b) = decide (a = b) := by
  by_cases e : a = b
  · subst e; simp
  · have h : ¬ (Sum.inr a : Key) = Sum.inr b := fun q => e (Sum.inr.inj q)
    rw [decide_eq_false h, decide_eq_false e]
theorem key_lr (a : Int) (b : Str) : decide ((Sum.inl a : Key) = Sum.inr b) = false := decide_eq_false (fun q => nomatch q)
theorem key_rl (a : Str) (b : Int) : decide ((Sum.inr a : Key) = Sum.inl b) = false := decide_eq_false (fun q => nomatch q)

def mixKind (prog : Program) (w : World) : PySem.KeyKind prog w Key where
  is := keyIs
  hash := keyH w
  inj := fun v a b ha hb => by
    rcases keyIs_shape ha with ⟨i, t, rfl, rfl⟩ | ⟨x, t, rfl, rfl⟩
    · rcases keyIs_shape hb with ⟨j, u, rfl, e⟩ | ⟨y, u, rfl, e⟩
      · injection e with e1 _; rw [e1]
      · exact nomatch e
    · rcases keyIs_shape hb with ⟨j, u, rfl, e⟩ | ⟨y, u, rfl, e⟩
      · exact nomatch e
      · injection e with e1 _; rw [e1]
  byValue := fun k v h => by
    rcases keyIs_shape h with ⟨i, t, rfl, rfl⟩ | ⟨x, t, rfl, rfl⟩ <;> rfl
  pyHash := fun hv h => by
    rcases keyIs_shape hv with ⟨i, t, rfl, rfl⟩ | ⟨x, t, rfl, rfl⟩
    · exact wpAny_pyHash_int h
    · exact wpAny_pyHash_str h
  eqBool := fun hu hv h => by
    rcases keyIs_shape hu with ⟨i, t, rfl, rfl⟩ | ⟨x, t, rfl, rfl⟩
    · rcases keyIs_shape hv with ⟨j, u, rfl, rfl⟩ | ⟨y, u, rfl, rfl⟩
      · rw [key_ll] at h; exact wpAny_eqBool_int h
      · rw [key_lr] at h; exact SeqAt.EqAt.int_str i t y u _ _ _ _ h
    · rcases keyIs_shape hv with ⟨j, u, rfl, rfl⟩ | ⟨y, u, rfl, rfl⟩
      · rw [key_rl] at h; exact SeqAt.EqAt.str_int x t j u _ _ _ _ h
      · rw [key_rr] at h; exact wpAny_eqBool_str h
  «strs» := fun k x t v h => by
    rcases keyIs_shape h with ⟨i, u, rfl, e⟩ | ⟨y, u, rfl, e⟩
    · exact nomatch e
    · injection e with e1 _
      subst e1
      cases v <;> rfl

theorem mixKind_int (prog : Program) (w : World) (i : Int) (t : Tok) : (mixKind prog w).is (.inl i) (.int i t) = true := keyIs_int i t
theorem mixKind_str (prog : Program) (w : World) (x : Str) (t : Tok) : (mixKind prog w).is (.inr x) (.str x t) = true := keyIs_str x t
end L2

namespace L2
open PySem PySem.Spec PyProof.Rows

/-- a value, without the heap -/
inductive V where
  | non | bl (b : Bool) | int (i : Int) | str (x : Str) | byt (b : Array UInt8) | flt (b : UInt64) | ref (a : Addr) | ty (n : String)
  deriving DecidableEq

def RelV : V → Value → Prop
  | .non, u => u = Value.none
  | .bl b, u => u = Value.bool b
  | .int i, u => ∃ t, u = Value.int i t
  | .str x, u => ∃ t, u = Value.str x t
  | .byt b, u => ∃ t, u = Value.bytes b t
  | .flt b, u => ∃ t, u = Value.float b t
  | .ref a, u => u = Value.ref a
  | .ty n, u => u = Value.type n

abbrev Vals : List V → List Value → Prop := Paired RelV
theorem Vals.length {xs : List V} {us : List Value} (r : Vals xs us) : xs.length = us.length := Paired.length r
theorem Vals.get : ∀ {xs : List V} {us : List Value} {i : Nat} {x : V}, Vals xs us → xs[i]? = some x → ∃ u, us[i]? = some u ∧ RelV x u
  | _, _, _, _, .nil, e => by simp at e
  | _, _, 0, _, .cons r _, e => by simp at e; subst e; exact ⟨_, rfl, r⟩
  | _, _, i + 1, x, .cons _ t, e => by
    obtain ⟨u, h1, h2⟩ := Vals.get (i := i) (x := x) t (by simpa using e)
    exact ⟨u, by simpa using h1, h2⟩
theorem Vals.set {x : V} {u : Value} (r : RelV x u) : ∀ {xs : List V} {us : List Value} (i : Nat), Vals xs us → Vals (xs.set i x) (us.set i u)
  | _, _, _, .nil => .nil
  | _, _, 0, .cons _ t => .cons r t
  | _, _, i + 1, .cons q t => .cons q (Vals.set r i t)
theorem Vals.append : ∀ {xs ys : List V} {us ws : List Value}, Vals xs us → Vals ys ws → Vals (xs ++ ys) (us ++ ws)
  | _, _, _, _, .nil, s => s
  | _, _, _, _, .cons r t, s => .cons r (Vals.append t s)
theorem Vals.take : ∀ {xs : List V} {us : List Value} (n : Nat), Vals xs us → Vals (xs.take n) (us.take n)
  | _, _, 0, _ => .nil
  | _, _, _ + 1, .nil => .nil
  | _, _, n + 1, .cons r t => .cons r (Vals.take n t)
theorem Vals.drop : ∀ {xs : List V} {us : List Value} (n : Nat), Vals xs us → Vals (xs.drop n) (us.drop n)
  | _, _, 0, r => r
  | _, _, _ + 1, .nil => .nil
  | _, _, n + 1, .cons _ t => Vals.drop n t
theorem Vals.none_of : ∀ {xs : List V} {us : List Value} {i : Nat}, Vals xs us → xs[i]? = none → us[i]? = none := fun {xs us i} r e => by
  have h1 := r.length
  have h2 : xs.length ≤ i := List.getElem?_eq_none_iff.mp e
  exact List.getElem?_eq_none_iff.mpr (by omega)

def RelO : Option V → Option Value → Prop
  | some v, some u => RelV v u
  | none, none => True
  | _, _ => False
def KV {κ : Type} : List (κ × V) → List (κ × Value) → Prop := Paired fun (p : κ × V) (q : κ × Value) => p.1 = q.1 ∧ RelV p.2 q.2

/-- a key of a dict (00_mix): an int or a text -/
def kV : Key → V
  | .inl i => .int i
  | .inr x => .str x

/-- what stands at a tracked address -/
inductive HO where
  /-- a list -/
  | lst (xs : List V)
  /-- a tuple (never changes) -/
  | tup (xs : List V)
  /-- a dict whose keys are ints and texts; one whose keys are tuples of ints and texts (the empty one is both) -/
  | dK (kvs : List (Key × V)) | dT (kvs : List (List Key × V))
  /-- a set of ints: its members, its size -/
  | set (S : Int → Bool) (n : Nat)
  /-- an instance of the class at C, its dict at dx, its attributes -/
  | ins (C dx : Addr) (fs : List (Str × V))
  /-- the dict of the instance at x -/
  | own (x : Addr)
  /-- the dict of an exception -/
  | xd (fs : List (Str × V))
  /-- a bound method, f of x -/
  | met (f x : Addr)
  /-- a range object lo, lo + 1, .. below hi -/
  | rng (lo hi : Int)
  /-- a thing that is known to the object (the script; a dict while a loop walks it): read, never written while it is so -/
  | frz (o : Obj) (u : HO)
  /-- a code object's table -/
  | tbl (ps : Array Value)
  /-- any other thing, by what is true of its one object (a def of one's own: SetO a S n := HO.ext fun h => ..) -/
  | ext (φ : Heap → Prop)

abbrev Hp := Addr → Option HO
def upd (H : Hp) (a : Addr) (o : HO) : Hp := fun b => if b = a then some o else H b
theorem upd_same {H : Hp} {a : Addr} {o : HO} : upd H a o a = some o := by unfold upd; rw [if_pos rfl]
theorem upd_ne {H : Hp} {a b : Addr} {o : HO} (h : b ≠ a) : upd H a o b = H b := by unfold upd; rw [if_neg h]
theorem upd_upd {H : Hp} {a : Addr} {o u : HO} : upd (upd H a o) a u = upd H a u := by
  funext b; unfold upd; split <;> rfl
/-- two objects of different content stand apart -/
theorem ne_of {H : Hp} {a b : Addr} {o u : HO} (h : H a = some o) (h' : H b = some u) (d : o ≠ u) : a ≠ b := by
  intro e; subst e; rw [h] at h'; exact d (Option.some.inj h')
theorem ne_of_none {H : Hp} {a b : Addr} {o : HO} (h : H a = some o) (h' : H b = none) : a ≠ b := by
  intro e; subst e; rw [h] at h'; cases h'

section
variable (P : Program) (w : World)
def ObjOk (H : Hp) (h : Heap) (a : Addr) : HO → Prop
  | .lst xs => xs.length ≤ sizeLine ∧ ∃ (its : List Value) (n : Nat), Vals xs its ∧ h.get? a = some { cls := .type "list", data := .seq its.toArray n }
  | .tup xs => xs.length ≤ sizeLine ∧ ∃ its : List Value, Vals xs its ∧ IsTup h a its.toArray
  | .dK kvs => kvs.length ≤ sizeLine ∧ (a == sysModules) = false ∧ ∃ vs, KV kvs vs ∧ h.DictOf (mixKind P w) a vs
  | .dT kvs => kvs.length ≤ sizeLine ∧ (a == sysModules) = false ∧ ∃ xs : List (List Key × Addr × Value),
      Paired (fun (p : List Key × V) (q : List Key × Addr × Value) => p.1 = q.1 ∧ H q.2.1 = some (.tup (p.1.map kV)) ∧ RelV p.2 q.2.2) kvs xs ∧
      ∃ o es ep, h.get? a = some o ∧ o.ExactDict ∧ o.data = .dict es ep ∧ es.toList = xs.map (entryOfKey (tupleKind (mixKind P w))) ∧ (xs.map (·.1)).Nodup
  | .set S n => h.SetOf (intKind P w) a S n
  | .ins C dx fs => H dx = some (.own a) ∧ fs.length ≤ 1000 ∧ dx ≠ a ∧ h.get? a = some (PySem.W.instObj C dx) ∧
      ∃ mA, h.Ns1 dx mA ∧ (∀ f, RelO (fs.lookup f) (mA f)) ∧ PySem.Within mA (fs.map (·.1))
  | .own _ => ∃ o, h.get? a = some o
  | .xd fs => ∃ mA, h.Ns1 a mA ∧ ∀ f, RelO (fs.lookup f) (mA f)
  | .rng lo hi => ∃ t u v, h.get? a = some { cls := .type "range", data := .fields #[.int lo t, .int hi u, .int 1 v] }
  | .frz o u => h.get? a = some o ∧ ObjOk H h a u
  | .tbl ps => h.get? a = some { cls := .none, data := .fields ps }
  | .met f x => h.get? a = some (PySem.W.methodObj (.ref f) (.ref x))
  | .ext φ => φ h ∧ (∃ o, h.get? a = some o) ∧ ∀ h1 h2 : Heap, φ h1 → (∀ o, h1.get? a = some o → h2.get? a = some o) → φ h2
/-- the abstract heap is held -/
def HOk (H : Hp) (h : Heap) : Prop := ∀ a o, H a = some o → ObjOk P w H h a o
end

section
variable {P : Program} {w : World} {H H' : Hp} {h h' : Heap} {a : Addr} {o : HO}
theorem ObjOk.lt (x : ObjOk P w H h a o) : a < h.objs.size := by
  cases o with
  | lst xs => obtain ⟨_, _, _, _, e⟩ := x; exact Heap.lt_size e
  | tup xs => obtain ⟨_, _, _, p⟩ := x; exact p.lt
  | dK kvs => obtain ⟨_, _, _, _, o, _, _, e, _⟩ := x; exact Heap.lt_size e
  | dT kvs => obtain ⟨_, _, _, _, o, _, _, e, _⟩ := x; exact Heap.lt_size e
  | set S n => obtain ⟨o, _, _, _, e, _⟩ := x; exact Heap.lt_size e
  | ins C dx fs => obtain ⟨_, _, _, e, _⟩ := x; exact Heap.lt_size e
  | own y => obtain ⟨_, e⟩ := x; exact Heap.lt_size e
  | xd fs => obtain ⟨_, ⟨_, _, _, e, _⟩, _⟩ := x; exact Heap.lt_size e
  | rng lo hi => obtain ⟨_, _, _, e⟩ := x; exact Heap.lt_size e
  | frz ob u => obtain ⟨e, _⟩ := x; exact Heap.lt_size e
  | tbl ps => exact Heap.lt_size (show h.get? a = some _ from x)
  | met f y => exact Heap.lt_size (show h.get? a = some _ from x)
  | ext φ => obtain ⟨_, ⟨_, e⟩, _⟩ := x; exact Heap.lt_size e
theorem Paired.mapP {α β : Type} {F G : α → β → Prop} : ∀ {l₁ : List α} {l₂ : List β}, Paired F l₁ l₂ → (∀ a b, F a b → G a b) → Paired G l₁ l₂
  | _, _, .nil, _ => .nil
  | _, _, .cons r t, f => .cons (f _ _ r) (Paired.mapP t f)
/-- what an object's description leans on: its own object, its own dict, the tuples -/
theorem ObjOk.stay (x : ObjOk P w H h a o) (k : ∀ b u, (b = a ∨ H b = some (.own a)) → h.get? b = some u → h'.get? b = some u)
    (ho : ∀ b, H b = some (.own a) → H' b = some (.own a)) (ht : ∀ b xs, H b = some (.tup xs) → H' b = some (.tup xs)) : ObjOk P w H' h' a o := by
  induction o with
  | lst xs => obtain ⟨z, its, n, r, e⟩ := x; exact ⟨z, its, n, r, k _ _ (.inl rfl) e⟩
  | tup xs => obtain ⟨z, its, r, ob, e, c⟩ := x; exact ⟨z, its, r, ob, k _ _ (.inl rfl) e, c⟩
  | dK kvs => obtain ⟨z, y, vs, r, ob, es, ep, e, c⟩ := x; exact ⟨z, y, vs, r, ob, es, ep, k _ _ (.inl rfl) e, c⟩
  | dT kvs =>
    obtain ⟨z, y, xs, r, ob, es, ep, e, c⟩ := x
    exact ⟨z, y, xs, Paired.mapP r fun p q z => ⟨z.1, ht _ _ z.2.1, z.2.2⟩, ob, es, ep, k _ _ (.inl rfl) e, c⟩
  | set S n => obtain ⟨ob, es, ep, t, e, c⟩ := x; exact ⟨ob, es, ep, t, k _ _ (.inl rfl) e, c⟩
  | ins C dx fs =>
    obtain ⟨d, z, ne, e, mA, ⟨od, es, ep, e2, c⟩, r⟩ := x
    exact ⟨ho _ d, z, ne, k _ _ (.inl rfl) e, mA, ⟨od, es, ep, k _ _ (.inr d) e2, c⟩, r⟩
  | own y => obtain ⟨ob, e⟩ := x; exact ⟨ob, k _ _ (.inl rfl) e⟩
  | xd fs => obtain ⟨mA, ⟨od, es, ep, e, c⟩, r⟩ := x; exact ⟨mA, ⟨od, es, ep, k _ _ (.inl rfl) e, c⟩, r⟩
  | rng lo hi => obtain ⟨t, u, v, e⟩ := x; exact ⟨t, u, v, k _ _ (.inl rfl) e⟩
  | frz ob u ih => obtain ⟨e, q⟩ := x; exact ⟨k _ _ (.inl rfl) e, ih q⟩
  | tbl ps =>
    have e : h.get? a = some { cls := .none, data := .fields ps } := x
    show h'.get? a = some { cls := .none, data := .fields ps }
    exact k a _ (.inl rfl) e
  | met f y =>
    have e : h.get? a = some (PySem.W.methodObj (.ref f) (.ref y)) := x
    show h'.get? a = some (PySem.W.methodObj (.ref f) (.ref y))
    exact k a _ (.inl rfl) e
  | ext φ => obtain ⟨p, ⟨o, e⟩, st⟩ := x; exact ⟨st _ _ p fun o q => k _ _ (.inl rfl) q, ⟨o, k _ _ (.inl rfl) e⟩, st⟩
theorem HOk.lt (x : HOk P w H h) (e : H a = some o) : a < h.objs.size := (x a o e).lt
theorem HOk.fresh (x : HOk P w H h) (e : h.objs.size ≤ a) : H a = none := by
  cases q : H a with
  | none => rfl
  | some u => exact absurd (Nat.lt_of_lt_of_le (x.lt q) e) (Nat.lt_irrefl _)
/-- every object of the heap is kept -/
theorem HOk.kept (x : HOk P w H h) (k : ∀ b u, h.get? b = some u → h'.get? b = some u) : HOk P w H h' := fun a o e =>
  (x a o e).stay (fun b u _ q => k b u q) (fun _ q => q) fun _ _ q => q
/-- a new object is laid and tracked -/
theorem HOk.laid (x : HOk P w H h) (k : ∀ b u, h.get? b = some u → h'.get? b = some u) (hp : h.objs.size ≤ a) (new : ObjOk P w (upd H a o) h' a o) : HOk P w (upd H a o) h' := fun b u e => by
  have hn := x.fresh hp
  by_cases hb : b = a
  · subst hb; rw [upd_same] at e; cases e; exact new
  · rw [upd_ne hb] at e
    exact (x b u e).stay (fun c v _ q => k c v q) (fun c q => by rw [upd_ne (ne_of_none q hn)]; exact q) fun c xs q => by rw [upd_ne (ne_of_none q hn)]; exact q
end

/-- what may be read as u: it is u, or a known u -/
def Rd (H : Hp) (a : Addr) (u : HO) : Prop := H a = some u ∨ ∃ o, H a = some (.frz o u)
theorem Rd.of {H : Hp} {a : Addr} {u : HO} (h : H a = some u) : Rd H a u := .inl h
theorem Rd.ok {P : Program} {w : World} {H : Hp} {h : Heap} {a : Addr} {u : HO} (r : Rd H a u) (x : HOk P w H h) : ObjOk P w H h a u := by
  rcases r with r | ⟨o, r⟩
  · exact x a u r
  · obtain ⟨_, q⟩ := x a _ r
    exact q
/-- what may be written -/
def Mut : Option HO → Prop
  | some (.lst _) => True
  | some (.dK _) => True
  | some (.dT _) => True
  | some (.set _ _) => True
  | some (.ins _ _ _) => True
  | some (.ext _) => True
  | _ => False
section
variable {P : Program} {w : World} {H : Hp} {h h' : Heap} {x e : Addr} {o' : HO}
/-- the object at e is changed: x itself, or the dict of the instance x -/
theorem HOk.write (ok : HOk P w H h) (mu : Mut (H x)) (he : e = x ∨ H e = some (.own x)) (k : ∀ b u, b ≠ e → h.get? b = some u → h'.get? b = some u) (heo : ∃ u, h'.get? e = some u)
    (new : ObjOk P w (upd H x o') h' x o') : HOk P w (upd H x o') h' := fun b u q => by
  have nown : ∀ c y, H c = some (.own y) → c ≠ x := fun c y r z => by subst z; rw [r] at mu; exact mu
  have ntup : ∀ c xs, H c = some (.tup xs) → c ≠ x := fun c xs r z => by subst z; rw [r] at mu; exact mu
  by_cases hb : b = x
  · subst hb; rw [upd_same] at q; cases q; exact new
  · rw [upd_ne hb] at q
    by_cases hbe : b = e
    · have q' : H b = some (.own x) := by
        rcases he with z | z
        · exact absurd (hbe.trans z) hb
        · rw [hbe]; exact z
      rw [q] at q'; cases q'
      obtain ⟨v, hv⟩ := heo
      exact ⟨v, by rw [hbe]; exact hv⟩
    · refine (ok b u q).stay (fun c v hc r => k c v ?_ r) (fun c r => by rw [upd_ne (nown c b r)]; exact r) fun c xs r => by rw [upd_ne (ntup c xs r)]; exact r
      rcases hc with rfl | hc
      · exact hbe
      · rintro rfl
        rcases he with z | z
        · exact nown c b hc z
        · rw [hc] at z; cases z; exact hb rfl
end

/-! ### kept unless tracked; of the frames at fs (the callers') the slots may change (an exception that passes writes there); of the records at ex (iterators) nothing is said -/
structure Un (fs ex : List Addr) (H H' : Hp) (h h' : Heap) : Prop where
  keep : ∀ b o, h.get? b = some o → H b = none → b ∉ fs → b ∉ ex → h'.get? b = some o
  slot : ∀ b o, h.get? b = some o → H b = none → b ∈ fs → b ∉ ex → ∃ sl, h'.get? b = some { o with slots := sl }
  free : ∀ b o, h.get? b = some o → H b = none → b ∉ ex → H' b = none
  there : ∀ b o, h.get? b = some o → b ∉ ex → ∃ o', h'.get? b = some o'
  tups : ∀ b xs, H b = some (.tup xs) → H' b = some (.tup xs)
  frzs : ∀ b o u, H b = some (.frz o u) → H' b = some (.frz o u)
  tbls : ∀ b ps, H b = some (.tbl ps) → ∃ more, H' b = some (.tbl (ps ++ more))
section
variable {fs fs' ex ex' : List Addr} {H H1 H2 : Hp} {h h1 h2 h' : Heap} {a x e : Addr} {o : HO}
theorem Un.any (u : Un fs ex H H1 h h1) {b : Addr} {ob : Obj} (q : h.get? b = some ob) (n : H b = none) (hx : b ∉ ex) : ∃ sl, h1.get? b = some { ob with slots := sl } := by
  by_cases hb : b ∈ fs
  · exact u.slot b ob q n hb hx
  · exact ⟨ob.slots, u.keep b ob q n hb hx⟩
theorem Un.trans (a : Un fs ex H H1 h h1) (b : Un fs ex H1 H2 h1 h2) : Un fs ex H H2 h h2 where
  keep := fun c ob q n hc hx => b.keep c ob (a.keep c ob q n hc hx) (a.free c ob q n hx) hc hx
  slot := fun c ob q n hc hx => by
    obtain ⟨sl, e1⟩ := a.slot c ob q n hc hx
    obtain ⟨sl', e2⟩ := b.slot c _ e1 (a.free c ob q n hx) hc hx
    exact ⟨sl', e2⟩
  free := fun c ob q n hx => by
    obtain ⟨o', e1⟩ := a.there c ob q hx
    exact b.free c o' e1 (a.free c ob q n hx) hx
  there := fun c ob q hx => by
    obtain ⟨o', e1⟩ := a.there c ob q hx
    exact b.there c o' e1 hx
  tups := fun c xs q => b.tups c xs (a.tups c xs q)
  frzs := fun c ob xs q => b.frzs c ob xs (a.frzs c ob xs q)
  tbls := fun c ps q => by
    obtain ⟨m1, e1⟩ := a.tbls c ps q
    obtain ⟨m2, e2⟩ := b.tbls c _ e1
    exact ⟨m1 ++ m2, by rw [e2, Array.append_assoc]⟩
theorem Un.kept (k : ∀ b u, h.get? b = some u → h'.get? b = some u) : Un fs ex H H h h' :=
  ⟨fun b ob q _ _ _ => k b ob q, fun b ob q _ _ _ => ⟨ob.slots, k b ob q⟩, fun _ _ _ n _ => n, fun b ob q _ => ⟨ob, k b ob q⟩, fun _ _ q => q, fun _ _ _ q => q, fun _ ps q => ⟨#[], by rw [q]; simp⟩⟩
theorem Un.refl : Un fs ex H H h h := Un.kept fun _ _ q => q
theorem Un.laid (k : ∀ b u, h.get? b = some u → h'.get? b = some u) (hp : h.objs.size ≤ a) (hn : H a = none) : Un fs ex H (upd H a o) h h' where
  keep := fun b u q _ _ _ => k b u q
  slot := fun b u q _ _ _ => ⟨u.slots, k b u q⟩
  free := fun b u q n _ => by rw [upd_ne (Nat.ne_of_lt (Nat.lt_of_lt_of_le (Heap.lt_size q) hp))]; exact n
  there := fun b u q _ => ⟨u, k b u q⟩
  tups := fun b xs q => by rw [upd_ne (ne_of_none q hn)]; exact q
  frzs := fun b u xs q => by rw [upd_ne (ne_of_none q hn)]; exact q
  tbls := fun b ps q => ⟨#[], by rw [upd_ne (ne_of_none q hn), q]; simp⟩
theorem Un.write (mu : Mut (H x)) (he : e = x ∨ H e = some (.own x)) (k : ∀ b u, b ≠ e → h.get? b = some u → h'.get? b = some u) (heo : ∃ u, h'.get? e = some u) : Un fs ex H (upd H x o) h h' := by
  have hx : ∀ b, H b = none → b ≠ x := fun b n z => by subst z; rw [n] at mu; exact mu
  have hb : ∀ b, H b = none → b ≠ e := fun b n z => by
    subst z
    rcases he with r | r
    · exact hx b n r
    · rw [n] at r; cases r
  have hm : ∀ b u, H b = some u → ¬ Mut (some u) → b ≠ x := fun b u q nm z => by subst z; rw [q] at mu; exact nm mu
  refine ⟨fun b u q n _ _ => k b u (hb b n) q, fun b u q n _ _ => ⟨u.slots, k b u (hb b n) q⟩, fun b u q n _ => by rw [upd_ne (hx b n)]; exact n, fun b u q _ => ?_,
    fun b xs q => by rw [upd_ne (hm b _ q fun z => z)]; exact q, fun b u xs q => by rw [upd_ne (hm b _ q fun z => z)]; exact q, fun b ps q => ⟨#[], by rw [upd_ne (hm b _ q fun z => z), q]; simp⟩⟩
  by_cases hbe : b = e
  · subst hbe; exact heo
  · exact ⟨u, k b u hbe q⟩
theorem Un.mono (u : Un fs ex H H1 h h1) (hs : ∀ b ∈ fs, b ∈ fs') (hx : ∀ b ∈ ex, b ∈ ex') : Un fs' ex' H H1 h h1 :=
  ⟨fun b ob q n hb he => u.keep b ob q n (fun z => hb (hs b z)) fun z => he (hx b z), fun _ _ q n _ he => u.any q n fun z => he (hx _ z), fun b ob q n he => u.free b ob q n fun z => he (hx b z), fun b ob q he => u.there b ob q fun z => he (hx b z), u.tups, u.frzs, u.tbls⟩
end

/-! ### the heap without what is tracked -/
def trk (h : Heap) (H : Hp) : List Addr := (List.range h.objs.size).filter fun a => (H a).isSome
def hidT (h : Heap) (H : Hp) : Heap := PySem.W.hideAll h (trk h H)
theorem hidT_size (h : Heap) (H : Hp) : (hidT h H).objs.size = h.objs.size := PySem.W.hideAll_size _ _
theorem hidT_get {h : Heap} {H : Hp} {b : Addr} {o : Obj} (e : h.get? b = some o) (n : H b = none) : (hidT h H).get? b = some o :=
  PySem.W.hideAll_get _ e fun hm => by
    have q : (H b).isSome = true := (List.mem_filter.mp hm).2
    rw [n] at q; simp at q
theorem of_hidT {h : Heap} {H : Hp} {b : Addr} {o : Obj} (e : (hidT h H).get? b = some o) : h.get? b = some o ∧ H b = none := by
  have e' : h.get? b = some o := PySem.W.of_hideAll (trk h H) e
  refine ⟨e', ?_⟩
  cases q : H b with
  | none => rfl
  | some x =>
    have hm : b ∈ trk h H := List.mem_filter.mpr ⟨List.mem_range.mpr (Heap.lt_size e'), by simp [q]⟩
    have z : (hidT h H).get? b = none := PySem.W.hideAll_none (trk h H) hm
    rw [z] at e; cases e

/-! ### OpenK's ledger, filled with every new object but one -/
def allNews (g h : Heap) (L : Addr) : List (Addr × Obj) := (List.range h.objs.size).filterMap fun a => if a = L ∨ (g.get? a).isSome = true then none else (h.get? a).map fun o => (a, o)
def rest (g h : Heap) (L d : Addr) : List (Addr × Obj) := (allNews g h L).filter fun p => decide (p.1 ≠ d)
end L2

namespace L2
open PySem PySem.Spec PyProof.Rows

/-- the module's facts, over the base: the heap at the law's entry without what is tracked there -/
structure Mod (K : PySem.W.Frag) (mg : Str → Option Value) (base : Heap) : Prop where
  kin : K.In base
  glob : base.Ns mainGlobals mg
  blt : ∃ mb, base.Ns builtinsNs mb ∧ ∀ x : Str, x ≠ "__name__" → mb x = bootBuiltins x
  nolimit : base.NoLimit

/-- the context: a def's body (or a comprehension's block) running. base: fixed through the whole law; s₀, H₀: the entry; outer: the frames whose slots others may change (a def's callers); stack: all frames that run;
   ex: iterators that were made ahead of the entry and are walked here (a comprehension's); fn: the names whose cells were made at the entry (a def: all; a comprehension's block: its own); calm: not within an except suite; pn: pins that every state bears; xe: what is wanted of an exception that leaves the code -/
structure Cx where
  prog : Program
  w : World
  K : PySem.W.Frag
  mg : Str → Option Value
  base : Heap
  A : Around
  N : List Str
  s₀ : Shared
  H₀ : Hp
  env : Env
  outer : List Env
  stack : List Env
  ex : List Addr
  fn : Str → Bool
  calm : Bool
  pn : List (Addr × Obj)
  xe : Value → Shared → Prop
/-- the callers' frames -/
def frs (l : List Env) : List Addr := l.filterMap (·.frame)
abbrev Cx.fs (X : Cx) : List Addr := frs X.outer

def Vis (sc : Scope) (x : Str) : Prop := sc.names.lookup x = some .local ∨ sc.names.lookup x = some .cell ∨ sc.names.lookup x = some .free
def Loc (sc : Scope) (x : Str) : Prop := sc.names.lookup x = some .local ∨ sc.names.lookup x = some .cell
def Look (env : Env) (h : Heap) (m : Str → Option Value) (x : Str) (u : Value) : Prop :=
  (env.kindOf x = some .local ∧ m x = some u) ∨ ((env.kindOf x = some .cell ∨ env.kindOf x = some .free) ∧ ∃ c, env.cells.lookup x = some c ∧ h.IsCell c (some u))

structure Cx.Ok (X : Cx) : Prop where
  mod : Mod X.K X.mg X.base
  kind : X.env.scope.kind = .function
  glob : X.env.globals = mainGlobals
  blt : X.env.builtins = builtinsNs
  above : X.s₀.heap.objs.size ≤ X.env.locals
  inj : ∀ x y c, X.env.cells.lookup x = some c → X.env.cells.lookup y = some c → x = y
  has : ∀ x, (X.env.kindOf x = some .cell ∨ X.env.kindOf x = some .free) → ∃ c, X.env.cells.lookup x = some c
  cab : ∀ x c, X.fn x = true → X.env.cells.lookup x = some c → X.s₀.heap.objs.size ≤ c
  hd : X.calm = true → X.A.handled = none
  frames : X.A.frames = some X.stack
  stk : X.stack = X.outer ∨ (X.stack = X.env :: X.outer ∧ X.env.frame = some X.env.locals)
  exf : ∀ b ∈ X.ex, b ≠ X.env.locals ∧ ∀ x c, X.env.cells.lookup x = some c → c ≠ b
  bs : ∀ b o, X.base.get? b = some o → X.s₀.heap.get? b = some o ∧ X.H₀ b = none
  bsz : X.base.objs.size ≤ X.s₀.heap.objs.size
  noex : ∀ b o, X.base.get? b = some o → b ∉ X.ex
  exfs : ∀ b ∈ X.ex, b ∉ X.fs
  funs : X.s₀.heap.FunFrames X.base X.outer
  frf : ∀ b ∈ X.fs, X.H₀ b = none

structure Inv (X : Cx) (pins : List (Addr × Obj)) (σ : List (Option V)) (H : Hp) (s : Shared) : Prop where
  ok : X.Ok
  os : s.os = X.s₀.os
  bare : AllBare s.gens
  base : Un X.fs X.ex X.H₀ H X.s₀.heap s.heap
  loc : ∃ m, s.heap.Ns X.env.locals m ∧ ∀ (i : Nat) (x : Str) (v : V), X.N[i]? = some x → σ[i]? = some (some v) → Vis X.env.scope x → ∃ u, RelV v u ∧ Look X.env s.heap m x u
  cell : ∀ x c, X.env.cells.lookup x = some c → ∃ v, s.heap.IsCell c v
  free : H X.env.locals = none
  freeC : ∀ x c, X.env.cells.lookup x = some c → H c = none
  pin : ∀ p ∈ X.pn ++ pins, s.heap.get? p.1 = some p.2 ∧ H p.1 = none ∧ p.1 ≠ X.env.locals ∧ p.1 ∉ X.fs ∧ ∀ v, p.2.data ≠ .cell v
  hok : HOk X.prog X.w H s.heap
  len : σ.length = X.N.length

section
variable {X : Cx} {pins : List (Addr × Obj)} {σ : List (Option V)} {H H' : Hp} {s : Shared} {h' : Heap}

theorem Cx.Ok.nofr (ok : X.Ok) {b : Addr} {o : Obj} (e : X.base.get? b = some o) : b ∉ X.fs := fun hb => by
  have := (ok.funs.mem hb).1
  rw [e] at this; cases this
theorem Inv.bs (I : Inv X pins σ H s) : ∀ b o, X.base.get? b = some o → s.heap.get? b = some o ∧ H b = none := fun b o e =>
  ⟨I.base.keep b o (I.ok.bs b o e).1 (I.ok.bs b o e).2 (I.ok.nofr e) (I.ok.noex b o e), I.base.free b o (I.ok.bs b o e).1 (I.ok.bs b o e).2 (I.ok.noex b o e)⟩
theorem Inv.bk (I : Inv X pins σ H s) : ∀ b o, X.base.get? b = some o → s.heap.get? b = some o := fun b o e => (I.bs b o e).1
theorem Inv.mod (I : Inv X pins σ H s) : Mod X.K X.mg X.base := I.ok.mod
theorem Inv.kIn (I : Inv X pins σ H s) : X.K.In s.heap := I.ok.mod.kin.keeps I.bk
theorem Inv.nolimit (I : Inv X pins σ H s) : s.heap.NoLimit := I.ok.mod.nolimit.keeps I.bk
/-- the frame over the base: for OpenK's rules (K.In X.base is I.mod.kin) -/
theorem Inv.fr (I : Inv X pins σ H s) : ∃ m, Fr X.base X.env.locals s.heap m :=
  let ⟨m, hn, _⟩ := I.loc
  ⟨m, hn, I.bk, Nat.le_trans I.ok.bsz I.ok.above⟩
theorem Inv.lt (I : Inv X pins σ H s) : X.env.locals < s.heap.objs.size := let ⟨_, hn, _⟩ := I.loc; hn.lt
theorem Inv.sz (I : Inv X pins σ H s) : X.s₀.heap.objs.size ≤ s.heap.objs.size := Nat.le_trans I.ok.above (Nat.le_of_lt I.lt)
theorem Inv.nofs (I : Inv X pins σ H s) {a : Addr} (h : s.heap.objs.size ≤ a) : a ∉ X.fs := fun hb => by
  obtain ⟨_, o, ho, _⟩ := I.ok.funs.mem hb
  exact absurd (Nat.lt_of_lt_of_le (Heap.lt_size ho) (Nat.le_trans I.sz h)) (Nat.lt_irrefl _)
theorem Inv.cne (I : Inv X pins σ H s) : ∀ x c, X.env.cells.lookup x = some c → c ≠ X.env.locals := fun x c e z => by
  obtain ⟨v, o, ho, hd⟩ := I.cell x c e
  obtain ⟨m, ⟨o', es, ep, ho', hd', _⟩, _⟩ := I.loc
  rw [z, ho'] at ho; cases ho; rw [hd'] at hd; cases hd
theorem Inv.funs (I : Inv X pins σ H s) : s.heap.FunFrames X.base X.outer := by
  have all : ∀ (l : List Env), (∀ b ∈ frs l, b ∈ X.fs) → X.s₀.heap.FunFrames X.base l → s.heap.FunFrames X.base l := by
    intro l
    induction l with
    | nil => intro _ _; trivial
    | cons env r ih =>
      intro hs hl
      obtain ⟨hk, ⟨L, o, hf, hn, ho, hd⟩, hr⟩ := hl
      have hL : L ∈ X.fs := hs L (by unfold frs; rw [List.filterMap_cons, hf]; exact List.mem_cons_self)
      obtain ⟨sl, e⟩ := I.base.slot L o ho (I.ok.frf L hL) hL fun z => I.ok.exfs L z hL
      exact ⟨hk, ⟨L, _, hf, hn, e, hd⟩, ih (fun b hb => hs b (by unfold frs; rw [List.filterMap_cons, hf]; exact List.mem_cons_of_mem _ hb)) hr⟩
  exact all X.outer (fun _ hb => hb) I.ok.funs

/-- the frames that run, for a call -/
theorem Inv.stack (I : Inv X pins σ H s) : s.heap.FunFrames X.base X.stack := by
  rcases I.ok.stk with e | ⟨e, hf⟩
  · rw [e]; exact I.funs
  · rw [e]
    obtain ⟨m, hn, _⟩ := I.loc
    refine .cons (by rw [I.ok.kind]; decide) hf hn ?_ I.funs
    exact Heap.get?_none_of_le (Nat.le_trans I.ok.bsz I.ok.above)
theorem Inv.stkSub (I : Inv X pins σ H s) : ∀ b ∈ frs X.stack, b ∈ X.env.locals :: X.fs := fun b hb => by
  rcases I.ok.stk with e | ⟨e, hf⟩
  · rw [e] at hb; exact List.mem_cons_of_mem _ hb
  · rw [e] at hb
    unfold frs at hb
    rw [List.filterMap_cons, hf] at hb
    exact hb
theorem Inv.stkFree (I : Inv X pins σ H s) : ∀ b ∈ frs X.stack, H b = none := fun b hb => by
  rcases List.mem_cons.mp (I.stkSub b hb) with e | hb
  · rw [e]; exact I.free
  · obtain ⟨_, o, ho, _⟩ := I.ok.funs.mem hb
    exact I.base.free b o ho (I.ok.frf b hb) fun z => I.ok.exfs b z hb

/-- THE STEP: the untracked objects but the frame and the records at ch are kept (the callers' frames up to slots), the frame's map is kept, the new abstract heap is held -/
theorem Inv.step {g' : Array GenState} {t' : Nat} {d' : Drawn} {ch : List Addr} (I : Inv X pins σ H s)
    (hch : ∀ b ∈ ch, (b ∈ X.ex ∨ X.s₀.heap.objs.size ≤ b) ∧ b ≠ X.env.locals ∧ (∀ x c, X.env.cells.lookup x = some c → c ≠ b) ∧ ∀ p ∈ X.pn ++ pins, p.1 ≠ b)
    (keep : ∀ b o, b ≠ X.env.locals → b ∉ X.fs → b ∉ ch → s.heap.get? b = some o → H b = none → h'.get? b = some o)
    (slot : ∀ b o, b ≠ X.env.locals → b ∈ X.fs → b ∉ ch → s.heap.get? b = some o → H b = none → ∃ sl, h'.get? b = some { o with slots := sl }) (free : ∀ b o, b ∉ ch → s.heap.get? b = some o → H b = none → H' b = none)
    (there : ∀ b o, b ∉ ch → s.heap.get? b = some o → ∃ o', h'.get? b = some o')
    (tups : ∀ b xs, H b = some (.tup xs) → H' b = some (.tup xs)) (frzs : ∀ b o u, H b = some (.frz o u) → H' b = some (.frz o u)) (tbls : ∀ b ps, H b = some (.tbl ps) → ∃ more, H' b = some (.tbl (ps ++ more)))
    (ns : ∀ m, s.heap.Ns X.env.locals m → h'.Ns X.env.locals m) (hok : HOk X.prog X.w H' h') (hg : AllBare g') :
    Inv X pins σ H' { s with heap := h', gens := g', drawn := d', toks := t' } := by
  have neL : ∀ b o, X.s₀.heap.get? b = some o → b ≠ X.env.locals := fun b o e => Nat.ne_of_lt (Nat.lt_of_lt_of_le (Heap.lt_size e) I.ok.above)
  have neC : ∀ b o, X.s₀.heap.get? b = some o → b ∉ X.ex → b ∉ ch := fun b o e hx hb => by
    rcases (hch b hb).1 with z | z
    · exact hx z
    · exact absurd (Nat.lt_of_lt_of_le (Heap.lt_size e) z) (Nat.lt_irrefl _)
  have cellK : ∀ x c, X.env.cells.lookup x = some c → ∀ v, s.heap.IsCell c v → h'.IsCell c v := fun x c e v ⟨o, ho, hd⟩ => by
    have nch : c ∉ ch := fun z => (hch c z).2.2.1 x c e rfl
    by_cases hc : c ∈ X.fs
    · obtain ⟨sl, q⟩ := slot c o (I.cne x c e) hc nch ho (I.freeC x c e)
      exact ⟨_, q, hd⟩
    · exact ⟨o, keep c o (I.cne x c e) hc nch ho (I.freeC x c e), hd⟩
  refine ⟨I.ok, I.os, hg, ⟨fun b o e n hb hx => ?_, fun b o e n hb hx => ?_, fun b o e n hx => ?_, fun b o e hx => ?_, fun b xs e => tups b xs (I.base.tups b xs e), fun b o xs e => frzs b o xs (I.base.frzs b o xs e), fun b ps e => ?_⟩, ?_, fun x c e => ?_, ?_, fun x c e => ?_, fun p hp => ?_, hok, I.len⟩
  · exact keep b o (neL b o e) hb (neC b o e hx) (I.base.keep b o e n hb hx) (I.base.free b o e n hx)
  · obtain ⟨sl, e1⟩ := I.base.slot b o e n hb hx
    obtain ⟨sl', e2⟩ := slot b _ (neL b o e) hb (neC b o e hx) e1 (I.base.free b o e n hx)
    exact ⟨sl', e2⟩
  · obtain ⟨o', e1⟩ := I.base.there b o e hx
    exact free b o' (neC b o e hx) e1 (I.base.free b o e n hx)
  · obtain ⟨o', e1⟩ := I.base.there b o e hx
    exact there b o' (neC b o e hx) e1
  · obtain ⟨m1, e1⟩ := I.base.tbls b ps e
    obtain ⟨m2, e2⟩ := tbls b _ e1
    exact ⟨m1 ++ m2, by rw [e2, Array.append_assoc]⟩
  · obtain ⟨m, hn, hl⟩ := I.loc
    refine ⟨m, ns m hn, fun i x v e1 e2 e3 => ?_⟩
    obtain ⟨u, r, l⟩ := hl i x v e1 e2 e3
    refine ⟨u, r, ?_⟩
    rcases l with l | ⟨k, c, e, z⟩
    · exact .inl l
    · exact .inr ⟨k, c, e, cellK x c e _ z⟩
  · obtain ⟨v, z⟩ := I.cell x c e
    exact ⟨v, cellK x c e v z⟩
  · obtain ⟨m, ⟨o, _, _, ho, _⟩, _⟩ := I.loc
    exact free _ o (fun z => (hch _ z).2.1 rfl) ho I.free
  · obtain ⟨v, o, ho, hd⟩ := I.cell x c e
    exact free c o (fun z => (hch c z).2.2.1 x c e rfl) ho (I.freeC x c e)
  · obtain ⟨e, n, ne, nf, d⟩ := I.pin p hp
    have nch : p.1 ∉ ch := fun z => (hch p.1 z).2.2.2 p hp rfl
    exact ⟨keep p.1 p.2 ne nf nch e n, free p.1 p.2 nch e n, ne, nf, d⟩
/-- .. where the frame's own object is kept too -/
theorem Inv.un {t' : Nat} (I : Inv X pins σ H s) (u : Un X.fs [] H H' s.heap h') (hok : HOk X.prog X.w H' h') : Inv X pins σ H' { s with heap := h', toks := t' } := by
  obtain ⟨m, ⟨o, es, ep, ho, r⟩, _⟩ := id I.loc
  obtain ⟨sl, hL⟩ := u.any ho I.free (by simp)
  exact I.step (g' := s.gens) (d' := s.drawn) (ch := []) (fun _ z => nomatch z) (fun b o _ hb _ e n => u.keep b o e n hb (by simp)) (fun b o _ hb _ e n => u.slot b o e n hb (by simp)) (fun b o _ e n => u.free b o e n (by simp)) (fun b o _ e => u.there b o e (by simp)) u.tups u.frzs u.tbls (fun m' hm => by
    obtain ⟨o', es', ep', ho', r'⟩ := hm
    rw [ho] at ho'; cases ho'
    exact ⟨_, es', ep', hL, r'⟩) hok I.bare
/-- behind a call (or a comprehension's block): the slots of this frame may have changed too, the records at ch may have turned -/
theorem Inv.call {g' : Array GenState} {t' : Nat} {d' : Drawn} {ch : List Addr} (I : Inv X pins σ H s) (u : Un (frs X.stack) ch H H' s.heap h') (hok : HOk X.prog X.w H' h') (hg : AllBare g')
    (hch : ∀ b ∈ ch, (b ∈ X.ex ∨ X.s₀.heap.objs.size ≤ b) ∧ b ≠ X.env.locals ∧ (∀ x c, X.env.cells.lookup x = some c → c ≠ b) ∧ ∀ p ∈ X.pn ++ pins, p.1 ≠ b) :
    Inv X pins σ H' { s with heap := h', gens := g', drawn := d', toks := t' } := by
  obtain ⟨m, ⟨o, es, ep, ho, r⟩, _⟩ := id I.loc
  obtain ⟨sl, hL⟩ := u.any ho I.free fun z => (hch _ z).2.1 rfl
  exact I.step (ch := ch) hch (fun b o hL hb hc e n => u.keep b o e n (fun z => (List.mem_cons.mp (I.stkSub b z)).elim hL hb) hc) (fun b o _ _ hc e n => u.any e n hc) (fun b o hc e n => u.free b o e n hc) (fun b o hc e => u.there b o e hc) u.tups u.frzs u.tbls (fun m' hm => by
    obtain ⟨o', es', ep', ho', r'⟩ := hm
    rw [ho] at ho'; cases ho'
    exact ⟨_, es', ep', hL, r'⟩) hok hg
/-- an untracked record of ours (an iterator) has turned -/
theorem Inv.turned {t' : Nat} {it : Addr} (I : Inv X pins σ H s) (k : ∀ b o, b ≠ it → s.heap.get? b = some o → h'.get? b = some o) (hn : H it = none) (hL : it ≠ X.env.locals)
    (h1 : it ∈ X.ex ∨ X.s₀.heap.objs.size ≤ it) (h2 : ∀ x c, X.env.cells.lookup x = some c → c ≠ it) (h3 : ∀ p ∈ X.pn ++ pins, p.1 ≠ it) : Inv X pins σ H { s with heap := h', toks := t' } := by
  have nit : ∀ b u, H b = some u → b ≠ it := fun b u e z => by rw [z, hn] at e; cases e
  refine I.step (g' := s.gens) (d' := s.drawn) (ch := [it]) (fun b hb => ?_) (fun b o _ _ hc e _ => k b o (fun z => hc (by simp [z])) e) (fun b o _ _ hc e _ => ⟨o.slots, k b o (fun z => hc (by simp [z])) e⟩) (fun _ _ _ _ n => n)
    (fun b o hc e => ⟨o, k b o (fun z => hc (by simp [z])) e⟩) (fun _ _ e => e) (fun _ _ _ e => e) (fun b ps e => ⟨#[], by rw [e]; simp⟩) (fun m hm => ?_) (fun b u e => ?_) I.bare
  · have e : b = it := by simpa using hb
    subst e
    exact ⟨h1, hL, h2, h3⟩
  · obtain ⟨o, es, ep, ho, r⟩ := hm
    exact ⟨o, es, ep, k _ o (Ne.symm hL) ho, r⟩
  · refine (I.hok b u e).stay (fun c v hc q => k c v ?_ q) (fun _ q => q) fun _ _ q => q
    rcases hc with z | z
    · rw [z]; exact nit b u e
    · exact nit c _ z
theorem Inv.tok (I : Inv X pins σ H s) (t : Nat) : Inv X pins σ H { s with toks := t } := I.un (h' := s.heap) (t' := t) Un.refl I.hok
/-- all objects kept -/
theorem Inv.kept {t' : Nat} (I : Inv X pins σ H s) (k : ∀ b u, s.heap.get? b = some u → h'.get? b = some u) : Inv X pins σ H { s with heap := h', toks := t' } := I.un (Un.kept k) (I.hok.kept k)
/-- a new object laid and tracked -/
theorem Inv.laid {a : Addr} {o : HO} {t' : Nat} (I : Inv X pins σ H s) (k : ∀ b u, s.heap.get? b = some u → h'.get? b = some u) (hp : s.heap.objs.size ≤ a) (new : ObjOk X.prog X.w (upd H a o) h' a o) :
    Inv X pins σ (upd H a o) { s with heap := h', toks := t' } := I.un (Un.laid k hp (I.hok.fresh hp)) (I.hok.laid k hp new)
/-- an object written -/
theorem Inv.write {x e : Addr} {o : HO} {t' : Nat} (I : Inv X pins σ H s) (mu : Mut (H x)) (he : e = x ∨ H e = some (.own x)) (k : ∀ b u, b ≠ e → s.heap.get? b = some u → h'.get? b = some u) (heo : ∃ u, h'.get? e = some u)
    (new : ObjOk X.prog X.w (upd H x o) h' x o) : Inv X pins σ (upd H x o) { s with heap := h', toks := t' } := I.un (Un.write mu he k heo) (I.hok.write mu he k heo new)
theorem Inv.pins_of {pins' : List (Addr × Obj)} (I : Inv X pins σ H s) (h : ∀ p ∈ pins', s.heap.get? p.1 = some p.2 ∧ H p.1 = none ∧ p.1 ≠ X.env.locals ∧ p.1 ∉ X.fs ∧ ∀ v, p.2.data ≠ .cell v) : Inv X pins' σ H s :=
  ⟨I.ok, I.os, I.bare, I.base, I.loc, I.cell, I.free, I.freeC, fun p hp => (List.mem_append.mp hp).elim (fun z => I.pin p (List.mem_append_left _ z)) (h p), I.hok, I.len⟩

theorem nodup_ix {N : List Str} (hN : N.Nodup) {i j : Nat} {x : Str} (a : N[i]? = some x) (b : N[j]? = some x) : i = j := by
  obtain ⟨h1, e1⟩ := List.getElem?_eq_some_iff.mp a
  obtain ⟨h2, e2⟩ := List.getElem?_eq_some_iff.mp b
  exact (List.getElem_inj hN).mp (e1.trans e2.symm)

/-- a name is stored; what changed -/
theorem store_ok2 {M : Model} {A : Around} {E : Value → Shared → Prop} {i : Nat} {x : Str} {v : V} {u : Value} {Q : Unit → Shared → Prop} (I : Inv X pins σ H s) (hN : X.N.Nodup) (hi : X.N[i]? = some x) (hx : Loc X.env.scope x) (r : RelV v u)
    (h : ∀ s', Inv X pins (σ.set i (some v)) H s' → (∃ a, Heap.SameBut a s.heap s'.heap ∧ (a = X.env.locals ∨ X.env.cells.lookup x = some a)) → Q () s') (hf : X.fn x = true ∨ X.env.scope.names.lookup x = some .local := by first | exact .inl rfl | exact .inr rfl | assumption) : wpAny M A (storeName X.env x u) Q E s := by
  obtain ⟨m, hn, hl⟩ := id I.loc
  have hcls : (X.env.scope.kind == .class || (X.env.scope.kind == .module && X.env.locals != X.env.globals)) = false := by rw [I.ok.kind]; rfl
  have hiσ : i < σ.length := by rw [I.len]; exact (List.getElem?_eq_some_iff.mp hi).1
  have cne := I.cne
  have tracked : ∀ {a : Addr} {h' : Heap}, (∃ o, s.heap.get? a = some o ∧ H a = none) → Heap.SameBut a s.heap h' → HOk X.prog X.w H h' := fun {a h'} ha hs b ob e => by
    obtain ⟨_, _, hfree⟩ := ha
    refine (I.hok b ob e).stay (fun c w' hc q => (hs.2 c ?_).trans q) (fun _ q => q) fun _ _ q => q
    rintro rfl
    rcases hc with rfl | hc
    · rw [hfree] at e; cases e
    · rw [hfree] at hc; cases hc
  rcases hx with hk | hk
  · refine wpAny_storeName_local hk hn (fun h' hn' hs => ?_) hcls
    obtain ⟨oL, _, _, hoL, _⟩ := id hn
    refine h _ ⟨I.ok, I.os, I.bare, ⟨fun b o e n hb hx => ?_, fun b o e n hb hx => ?_, I.base.free, fun b o e hx => ?_, I.base.tups, I.base.frzs, I.base.tbls⟩, ⟨_, hn', fun j y v' e1 e2 e3 => ?_⟩, fun y c e => ?_, I.free, I.freeC, fun p hp => ?_, tracked ⟨oL, hoL, I.free⟩ hs, by simpa using I.len⟩ ⟨_, hs, .inl rfl⟩
    · exact (hs.2 b (Nat.ne_of_lt (Nat.lt_of_lt_of_le (Heap.lt_size e) I.ok.above))).trans (I.base.keep b o e n hb hx)
    · obtain ⟨sl, e1⟩ := I.base.slot b o e n hb hx
      exact ⟨sl, (hs.2 b (Nat.ne_of_lt (Nat.lt_of_lt_of_le (Heap.lt_size e) I.ok.above))).trans e1⟩
    · obtain ⟨o', e1⟩ := I.base.there b o e hx
      exact ⟨o', (hs.2 b (Nat.ne_of_lt (Nat.lt_of_lt_of_le (Heap.lt_size e) I.ok.above))).trans e1⟩
    · by_cases hj : j = i
      · subst hj
        rw [hi] at e1; cases e1
        rw [List.getElem?_set_self hiσ] at e2
        cases e2
        exact ⟨u, r, .inl ⟨hk, by simp⟩⟩
      · rw [List.getElem?_set_ne (Ne.symm hj)] at e2
        obtain ⟨u', r', q⟩ := hl j y v' e1 e2 e3
        refine ⟨u', r', ?_⟩
        rcases q with ⟨k, e⟩ | ⟨k, c, e, z⟩
        · refine .inl ⟨k, ?_⟩
          have : y ≠ x := fun e => hj (nodup_ix hN e1 (e ▸ hi))
          simp [this, e]
        · exact .inr ⟨k, c, e, z.sameBut hs (cne y c e)⟩
    · obtain ⟨w', z⟩ := I.cell y c e
      exact ⟨w', z.sameBut hs (cne y c e)⟩
    · obtain ⟨e, n, ne, nf, d⟩ := I.pin p hp
      exact ⟨(hs.2 p.1 ne).trans e, n, ne, nf, d⟩
  · have hfn : X.fn x = true := by
      rcases hf with z | z
      · exact z
      · rw [z] at hk; cases hk
    obtain ⟨c, hc⟩ := I.ok.has x (.inl hk)
    obtain ⟨w', z⟩ := I.cell x c hc
    refine wpAny_storeName_cell I.ok.kind hk hc z (fun h' hc' hs => ?_)
    obtain ⟨oc, hoc, hocd⟩ := id z
    refine h { s with heap := h' } ⟨I.ok, I.os, I.bare, ⟨fun b o e n hb hx => ?_, fun b o e n hb hx => ?_, I.base.free, fun b o e hx => ?_, I.base.tups, I.base.frzs, I.base.tbls⟩, ⟨m, hn.sameBut hs (Ne.symm (cne x c hc)), fun j y v' e1 e2 e3 => ?_⟩, fun y c' e => ?_, I.free, I.freeC, fun p hp => ?_, tracked ⟨oc, hoc, I.freeC x c hc⟩ hs, by simpa using I.len⟩ ⟨c, hs, .inr hc⟩
    · exact (hs.2 b (Nat.ne_of_lt (Nat.lt_of_lt_of_le (Heap.lt_size e) (I.ok.cab x c hfn hc)))).trans (I.base.keep b o e n hb hx)
    · obtain ⟨sl, e1⟩ := I.base.slot b o e n hb hx
      exact ⟨sl, (hs.2 b (Nat.ne_of_lt (Nat.lt_of_lt_of_le (Heap.lt_size e) (I.ok.cab x c hfn hc)))).trans e1⟩
    · obtain ⟨o', e1⟩ := I.base.there b o e hx
      exact ⟨o', (hs.2 b (Nat.ne_of_lt (Nat.lt_of_lt_of_le (Heap.lt_size e) (I.ok.cab x c hfn hc)))).trans e1⟩
    · by_cases hj : j = i
      · subst hj
        rw [hi] at e1; cases e1
        rw [List.getElem?_set_self hiσ] at e2
        cases e2
        exact ⟨u, r, .inr ⟨.inl hk, c, hc, hc'⟩⟩
      · rw [List.getElem?_set_ne (Ne.symm hj)] at e2
        obtain ⟨u', r', q⟩ := hl j y v' e1 e2 e3
        refine ⟨u', r', ?_⟩
        rcases q with q | ⟨k, c', e, z'⟩
        · exact .inl q
        · refine .inr ⟨k, c', e, z'.sameBut hs ?_⟩
          rintro rfl
          exact hj (nodup_ix hN e1 (I.ok.inj _ _ _ e hc ▸ hi))
    · by_cases hcc : c' = c
      · subst hcc; exact ⟨_, hc'⟩
      · obtain ⟨w2, z2⟩ := I.cell y c' e
        exact ⟨w2, z2.sameBut hs hcc⟩
    · obtain ⟨e, n, ne, nf, d⟩ := I.pin p hp
      refine ⟨(hs.2 p.1 ?_).trans e, n, ne, nf, d⟩
      intro q
      rw [q, hoc] at e
      have q' : oc = p.2 := Option.some.inj e
      exact d w' (by rw [← q']; exact hocd)
theorem store_ok {M : Model} {A : Around} {E : Value → Shared → Prop} {i : Nat} {x : Str} {v : V} {u : Value} {Q : Unit → Shared → Prop} (I : Inv X pins σ H s) (hN : X.N.Nodup) (hi : X.N[i]? = some x) (hx : Loc X.env.scope x) (r : RelV v u)
    (h : ∀ s', Inv X pins (σ.set i (some v)) H s' → Q () s') (hf : X.fn x = true ∨ X.env.scope.names.lookup x = some .local := by first | exact .inl rfl | exact .inr rfl | assumption) : wpAny M A (storeName X.env x u) Q E s :=
  store_ok2 I hN hi hx r (fun s' I' _ => h s' I') hf
/-- behind a call or a block, the state as it is -/
theorem Inv.call' {s' : Shared} {ch : List Addr} (I : Inv X pins σ H s) (ho : s'.os = s.os) (u : Un (frs X.stack) ch H H' s.heap s'.heap) (hok : HOk X.prog X.w H' s'.heap) (hg : AllBare s'.gens)
    (hch : ∀ b ∈ ch, (b ∈ X.ex ∨ X.s₀.heap.objs.size ≤ b) ∧ b ≠ X.env.locals ∧ (∀ x c, X.env.cells.lookup x = some c → c ≠ b) ∧ ∀ p ∈ X.pn ++ pins, p.1 ≠ b) : Inv X pins σ H' s' := by
  obtain ⟨h', g', d', t', o'⟩ := s'
  have e : o' = s.os := ho
  subst e
  exact I.call (g' := g') (t' := t') (d' := d') u hok hg hch
end

/-! ### the judgements -/
/-- an exception: its class, its own dict's address (where it has one), the abstract heap behind it -/
abbrev XK := Value → Option Addr → Hp → Prop
abbrev St := List (Option V)
abbrev VK := V → Hp → Prop
/-- an expression's reading; a test's; an argument list's -/
abbrev TE := St → Hp → VK → Prop
abbrev TT := St → Hp → (Bool → Hp → Prop) → Prop
abbrev TA := St → Hp → (List V → Hp → Prop) → Prop
/-- what is wanted behind a statement -/
structure Ends where
  nx : St → Hp → Prop
  rt : VK
  bk : St → Hp → Prop := fun _ _ => False
  ct : St → Hp → Prop := fun _ _ => False
abbrev TS := Ends → St → Hp → Prop

def EP (X : Cx) (pins : List (Addr × Obj)) (σ : St) (Q : VK) (u : Value) (s' : Shared) : Prop := ∃ v H', Inv X pins σ H' s' ∧ RelV v u ∧ Q v H'
def TP (X : Cx) (pins : List (Addr × Obj)) (σ : St) (Q : Bool → Hp → Prop) (b : Bool) (s' : Shared) : Prop := ∃ H', Inv X pins σ H' s' ∧ Q b H'
def AP (X : Cx) (pins : List (Addr × Obj)) (σ : St) (Q : List V → Hp → Prop) (us : List Value) (s' : Shared) : Prop := ∃ vs H', Inv X pins σ H' s' ∧ Vals vs us ∧ Q vs H'
def SP (X : Cx) (pins : List (Addr × Obj)) (D : Ends) (f : Flow) (s' : Shared) : Prop :=
  match f with
  | .next => ∃ σ' H', Inv X pins σ' H' s' ∧ D.nx σ' H'
  | .brk => ∃ σ' H', Inv X pins σ' H' s' ∧ D.bk σ' H'
  | .cont => ∃ σ' H', Inv X pins σ' H' s' ∧ D.ct σ' H'
  | .ret u => ∃ v σ' H', Inv X pins σ' H' s' ∧ RelV v u ∧ D.rt v H'

def PE (X : Cx) (e : Expr) (t : TE) : Prop :=
  ∀ (pins : List (Addr × Obj)) (s : Shared) (σ : St) (H : Hp) (Q : VK), Inv X pins σ H s → t σ H Q → wpAny (model X.prog X.w) X.A (eval e X.env) (EP X pins σ Q) X.xe s
def PT (X : Cx) (e : Expr) (t : TT) : Prop :=
  ∀ (pins : List (Addr × Obj)) (s : Shared) (σ : St) (H : Hp) (Q : Bool → Hp → Prop), Inv X pins σ H s → t σ H Q → wpAny (model X.prog X.w) X.A (isTrue e X.env (eval e X.env)) (TP X pins σ Q) X.xe s
/-- a test whatever its 'whole' is (and, or) -/
def PW (X : Cx) (e : Expr) (t : TT) : Prop :=
  ∀ (whole : Sem Value) (pins : List (Addr × Obj)) (s : Shared) (σ : St) (H : Hp) (Q : Bool → Hp → Prop), Inv X pins σ H s → t σ H Q → wpAny (model X.prog X.w) X.A (isTrue e X.env whole) (TP X pins σ Q) X.xe s
theorem PW.pt {X : Cx} {e : Expr} {t : TT} (h : PW X e t) : PT X e t := h _
/-- an argument list (no star), from the left -/
def PA (X : Cx) (es : List Expr) (t : TA) : Prop :=
  ∀ (pos : Pos) (pins : List (Addr × Obj)) (s : Shared) (σ : St) (H : Hp) (Q : List V → Hp → Prop), Inv X pins σ H s → t σ H Q → wpAny (model X.prog X.w) X.A (spliced (backTo pos (starEach es X.env))) (AP X pins σ Q) X.xe s
def PS (X : Cx) (st : Stmt) (t : TS) : Prop :=
  ∀ (pins : List (Addr × Obj)) (s : Shared) (σ : St) (H : Hp) (D : Ends), Inv X pins σ H s → t D σ H → wpAny (model X.prog X.w) X.A (exec st X.env) (SP X pins D) X.xe s
def PSs (X : Cx) (st : List Stmt) (t : TS) : Prop :=
  ∀ (pins : List (Addr × Obj)) (s : Shared) (σ : St) (H : Hp) (D : Ends), Inv X pins σ H s → t D σ H → wpAny (model X.prog X.w) X.A (execs st X.env) (SP X pins D) X.xe s
/-- weaken the end -/
theorem thn {α : Type} {t : Sem α} {Q Q' : α → Shared → Prop} {M : Model} {A : Around} {E : Value → Shared → Prop} {s : Shared} (h : wpAny M A t Q E s) (hQ : ∀ a s, Q a s → Q' a s) : wpAny M A t Q' E s := wpAny_mono h hQ fun _ _ x => x
end L2

namespace L2
open PySem PySem.Spec PyProof.Rows
section
variable {X : Cx}

/-! ### names and constants -/
def tVar (i : Nat) : TE := fun σ H Q => ∃ v, σ[i]? = some (some v) ∧ Q v H
def tC (v : V) : TE := fun _ H Q => Q v H
theorem pe_var {i : Nat} {x : Str} {pos : Pos} (hN : X.N[i]? = some x) (hv : Vis X.env.scope x) (hd : (x == ("__debug__" : Str)) = false := by decide) (hcd : (x == ("__classdict__" : Str)) = false := by decide) : PE X (.Name x pos) (tVar i) := by
  intro pins s σ H Q I h
  obtain ⟨v, e, h⟩ := h
  obtain ⟨m, hn, hl⟩ := I.loc
  obtain ⟨u, r, l⟩ := hl i x v hN e hv
  have fin : EP X pins σ Q u s := ⟨v, H, I, r, h⟩
  rcases l with ⟨hk, hm⟩ | ⟨hk, c, hc, hcell⟩
  · exact wpAny_Name (wpAny_loadName_local I.ok.kind hk hn hm fin) hd
  · rcases hk with hk | hk
    · exact wpAny_Name (wpAny_loadName_cell I.ok.kind hk hc hcell fin) hd
    · exact wpAny_Name (wpAny_loadName_free I.ok.kind hk hc hcell fin hcd) hd
theorem pe_int {i j pos} : PE X (.Constant (.int i) j pos) (tC (.int i)) := fun _ _ _ H _ I h => wpAny_Constant_int ⟨.int i, H, I.tok _, ⟨_, rfl⟩, h⟩
theorem pe_bl {b j pos} : PE X (.Constant (.bool b) j pos) (tC (.bl b)) := fun _ _ _ H _ I h => Constant_bool ⟨.bl b, H, I, rfl, h⟩
theorem pe_non {j pos} : PE X (.Constant .none j pos) (tC .non) := fun _ _ _ H _ I h => Constant_none ⟨.non, H, I, rfl, h⟩
theorem pe_str {x j pos} : PE X (.Constant (.str x) j pos) (tC (.str x)) := fun _ _ _ H _ I h => Calls.Constant_str ⟨.str x, H, I.tok _, ⟨_, rfl⟩, h⟩

/-- a global name of the def -/
def Gl (X : Cx) (x : Str) : Prop := X.env.kindOf x = some .globalImplicit
theorem ld_glob {E : Value → Shared → Prop} {pins : List (Addr × Obj)} {s : Shared} {σ : St} {H : Hp} {x : Str} {u : Value} {pos : Pos} {Q : Value → Shared → Prop} (I : Inv X pins σ H s) (hg : Gl X x) (hm : X.mg x = some u) (h : Q u s)
    (hd : (x == ("__debug__" : Str)) = false := by decide) : wpAny (model X.prog X.w) X.A (eval (.Name x pos) X.env) Q E s :=
  Calls.Name_function_global I.ok.kind hg (Calls.loadGlobal_global (by rw [I.ok.glob]; exact I.mod.glob.keeps I.bk) hm h) hd
theorem ld_blt {E : Value → Shared → Prop} {pins : List (Addr × Obj)} {s : Shared} {σ : St} {H : Hp} {x : Str} {u : Value} {pos : Pos} {Q : Value → Shared → Prop} (I : Inv X pins σ H s) (hg : Gl X x) (hm : X.mg x = none) (hv : bootBuiltins x = some u) (h : Q u s)
    (hn : x ≠ "__name__" := by decide) (hd : (x == ("__debug__" : Str)) = false := by decide) : wpAny (model X.prog X.w) X.A (eval (.Name x pos) X.env) Q E s := by
  obtain ⟨mb, h1, h2⟩ := I.mod.blt
  exact Calls.Name_function_global I.ok.kind hg (Calls.loadGlobal_builtin (by rw [I.ok.glob]; exact I.mod.glob.keeps I.bk) hm (by rw [I.ok.blt]; exact h1.keeps I.bk) ((h2 x hn).trans hv) h) hd
/-- a module's constant, a class, a function, as a value -/
theorem pe_glob {x : Str} {v : V} {u : Value} {pos : Pos} (hg : Gl X x) (hm : X.mg x = some u) (r : RelV v u) (hd : (x == ("__debug__" : Str)) = false := by decide) : PE X (.Name x pos) (tC v) :=
  fun _ _ _ H _ I h => ld_glob I hg hm ⟨v, H, I, r, h⟩ hd
theorem pe_bltn {x : Str} {v : V} {u : Value} {pos : Pos} (hg : Gl X x) (hm : X.mg x = none) (hv : bootBuiltins x = some u) (r : RelV v u) (hn : x ≠ "__name__" := by decide) (hd : (x == ("__debug__" : Str)) = false := by decide) : PE X (.Name x pos) (tC v) :=
  fun _ _ _ H _ I h => ld_blt I hg hm hv ⟨v, H, I, r, h⟩ hn hd

/-! ### arithmetic -/
/-- two ints -/
def t2I (ta tb : TE) (k : Int → Int → Hp → Prop) : St → Hp → Prop := fun σ H => ta σ H fun x H1 => tb σ H1 fun y H2 => ∃ i j, x = .int i ∧ y = .int j ∧ k i j H2
def tAdd (ta tb : TE) : TE := fun σ H Q => t2I ta tb (fun i j H2 => Q (.int (i + j)) H2) σ H
def tSub (ta tb : TE) : TE := fun σ H Q => t2I ta tb (fun i j H2 => Q (.int (i - j)) H2) σ H
/-- the left factor below 2^64 -/
def tMul (ta tb : TE) : TE := fun σ H Q => t2I ta tb (fun i j H2 => (-(2 ^ 64) < i ∧ i < 2 ^ 64) ∧ Q (.int (i * j)) H2) σ H
variable {a b : Expr} {ta tb : TE} {pos : Pos}
/-! ### comparisons -/
def PC (X : Cx) (op : CmpOp) (a b : Expr) (t : TE) : Prop :=
  ∀ (pins : List (Addr × Obj)) (s : Shared) (σ : St) (H : Hp) (Q : VK), Inv X pins σ H s → t σ H Q →
    wpAny (model X.prog X.w) X.A (eval a X.env) (fun v s₁ => wpAny (model X.prog X.w) X.A (eval b X.env) (fun u s₂ => wpAny (model X.prog X.w) X.A (compareOp op v u) (EP X pins σ Q) X.xe s₂) X.xe s₁) X.xe s
def tCmp (p : Int → Int → Bool) (ta tb : TE) : TE := fun σ H Q => t2I ta tb (fun i j H2 => Q (.bl (p i j)) H2) σ H
abbrev tLt : TE → TE → TE := tCmp fun i j => decide (i < j)
abbrev tLe : TE → TE → TE := tCmp fun i j => decide (i ≤ j)
abbrev tGt : TE → TE → TE := tCmp fun i j => decide (j < i)
abbrev tGe : TE → TE → TE := tCmp fun i j => decide (j ≤ i)
abbrev tEqI : TE → TE → TE := tCmp fun i j => decide (i = j)
abbrev tNeI : TE → TE → TE := tCmp fun i j => !decide (i = j)
/-- is None -/
def tIsN (ta : TE) : TE := fun σ H Q => ta σ H fun x H1 => Q (.bl (decide (x = .non))) H1
def tNotN (ta : TE) : TE := fun σ H Q => ta σ H fun x H1 => Q (.bl (!decide (x = .non))) H1
/-- a comparison as a value, as a test -/
def tB (t : TE) : TT := fun σ H Q => t σ H fun x H1 => ∃ c, x = .bl c ∧ Q c H1
/-- an expression whose value is a bool, as a test -/
theorem pt_val {e : Expr} {t : TE} (h : PE X e t) (he : ∀ whole, isTrue e X.env whole = (do let v ← whole; standAt e.pos; holding [v] (truthy v)) := by intro _; rfl) : PT X e (tB t) := by
  intro pins s σ H Q I hw
  refine isTrue_plain (thn (h pins s σ H _ I hw) fun v s1 ⟨x, H1, I1, r1, q1⟩ => ?_) (he _)
  obtain ⟨d, rfl, q⟩ := q1
  cases r1
  exact wpAny_truthy_bool ⟨H1, I1, q⟩

/-! ### and, or, not -/
variable {tA tB' : TT} {rest : List Expr}
def tAnd (t u : TT) : TT := fun σ H Q => t σ H fun c H1 => if c = true then u σ H1 Q else Q false H1
def tOr (t u : TT) : TT := fun σ H Q => t σ H fun c H1 => if c = true then Q true H1 else u σ H1 Q
def tNot (t : TT) : TT := fun σ H Q => t σ H fun c H1 => Q (!c) H1
theorem pw_and1 (ha : PT X a tA) : PW X (.BoolOp .And [a] pos) tA := by
  intro wh pins s σ H Q I h
  refine isTrue_and (thn (ha pins s σ H Q I h) fun c s1 e => ?_)
  cases c with
  | true => exact isTrue_and_nil e
  | false => exact e
theorem pw_or1 (ha : PT X a tA) : PW X (.BoolOp .Or [a] pos) tA := by
  intro wh pins s σ H Q I h
  refine isTrue_or (thn (ha pins s σ H Q I h) fun c s1 e => ?_)
  cases c with
  | false => exact isTrue_or_nil e
  | true => exact e
theorem pw_and (ha : PT X a tA) (hb : PW X (.BoolOp .And (b :: rest) pos) tB') : PW X (.BoolOp .And (a :: b :: rest) pos) (tAnd tA tB') := by
  intro wh pins s σ H Q I h
  refine isTrue_and (thn (ha pins s σ H _ I h) fun c s1 ⟨H1, I1, q1⟩ => ?_)
  cases c with
  | true => exact hb wh pins s1 σ H1 Q I1 q1
  | false => exact ⟨H1, I1, q1⟩
theorem pw_or (ha : PT X a tA) (hb : PW X (.BoolOp .Or (b :: rest) pos) tB') : PW X (.BoolOp .Or (a :: b :: rest) pos) (tOr tA tB') := by
  intro wh pins s σ H Q I h
  refine isTrue_or (thn (ha pins s σ H _ I h) fun c s1 ⟨H1, I1, q1⟩ => ?_)
  cases c with
  | true => exact ⟨H1, I1, q1⟩
  | false => exact hb wh pins s1 σ H1 Q I1 q1
theorem pt_not (ha : PT X a tA) : PT X (.UnaryOp .Not a pos) (tNot tA) := by
  intro pins s σ H Q I h
  exact isTrue_not (ha pins s σ H (fun c H1 => Q (!c) H1) I h)
/-- .. as values (bools) -/
def tAndV (ta tb : TE) : TE := fun σ H Q => ta σ H fun x H1 => ∃ c, x = .bl c ∧ if c = true then tb σ H1 Q else Q (.bl false) H1
def tOrV (ta tb : TE) : TE := fun σ H Q => ta σ H fun x H1 => ∃ c, x = .bl c ∧ if c = true then Q (.bl true) H1 else tb σ H1 Q
def tNotV (ta : TE) : TE := fun σ H Q => ta σ H fun x H1 => ∃ c, x = .bl c ∧ Q (.bl (!c)) H1
theorem pe_one {op} {t : TE} (h : PE X a t) : PE X (.BoolOp op [a] pos) t := fun pins s σ H Q I hw => BoolOp_one (h pins s σ H Q I hw)
theorem pe_and (ha : PE X a ta) (hb : PE X (.BoolOp .And (b :: rest) pos) tb) : PE X (.BoolOp .And (a :: b :: rest) pos) (tAndV ta tb) := by
  intro pins s σ H Q I h
  refine BoolOp_and (thn (ha pins s σ H _ I h) fun v s1 ⟨x, H1, I1, r1, q1⟩ => ?_)
  obtain ⟨c, rfl, q1⟩ := q1
  cases r1
  refine wpAny_truthy_bool ?_
  cases c with
  | true => exact hb pins s1 σ H1 Q I1 q1
  | false => exact ⟨.bl false, H1, I1, rfl, q1⟩
theorem pe_not (ha : PE X a ta) : PE X (.UnaryOp .Not a pos) (tNotV ta) := by
  intro pins s σ H Q I h
  refine UnaryOp_ (thn (ha pins s σ H _ I h) fun v s1 ⟨x, H1, I1, r1, q1⟩ => ?_)
  obtain ⟨c, rfl, q1⟩ := q1
  cases r1
  exact not_of (wpAny_truthy_bool ⟨.bl (!c), H1, I1, rfl, q1⟩)
/-- a if t else b -/
def tIf (t : TT) (ta tb : TE) : TE := fun σ H Q => t σ H fun c H1 => if c = true then ta σ H1 Q else tb σ H1 Q
theorem pe_ifExp {c : Expr} (hc : PT X c tA) (ha : PE X a ta) (hb : PE X b tb) : PE X (.IfExp c a b pos) (tIf tA ta tb) := by
  intro pins s σ H Q I h
  refine wpAny_IfExp (thn (hc pins s σ H _ I h) fun d s1 ⟨H1, I1, q1⟩ => ?_)
  cases d with
  | true => exact ha pins s1 σ H1 Q I1 q1
  | false => exact hb pins s1 σ H1 Q I1 q1
end
end L2

namespace L2
open PySem PySem.Spec PyProof.Rows

/-! ### a list, a tuple that is read: tracked, frozen, or an object of the module -/
def SqL (K : PySem.W.Frag) (H : Hp) (a : Addr) (xs : List V) : Prop :=
  Rd H a (.lst xs) ∨
    ∃ (o : Obj) (its : Array Value) (n : Nat), K.lookup a = some o ∧ o.cls = .type "list" ∧ o.dict = none ∧ o.data = .seq its n ∧ its.size ≤ sizeLine ∧ Vals xs its.toList
def SqT (K : PySem.W.Frag) (H : Hp) (a : Addr) (xs : List V) : Prop :=
  Rd H a (.tup xs) ∨
    ∃ (o : Obj) (its : Array Value) (n : Nat), K.lookup a = some o ∧ o.cls = .type "tuple" ∧ o.data = .seq its n ∧ its.size ≤ sizeLine ∧ Vals xs its.toList
def absV : Value → Option V
  | .none => some .non
  | .bool b => some (.bl b)
  | .int i _ => some (.int i)
  | .str x _ => some (.str x)
  | .bytes b _ => some (.byt b)
  | .float b _ => some (.flt b)
  | .ref a => some (.ref a)
  | .type n => some (.ty n)
  | _ => none
theorem RelV.abs {x : V} {u : Value} (r : RelV x u) : absV u = some x := by
  cases x with
  | non => cases r; rfl
  | bl _ => cases r; rfl
  | int _ => obtain ⟨t, rfl⟩ := r; rfl
  | str _ => obtain ⟨t, rfl⟩ := r; rfl
  | byt _ => obtain ⟨t, rfl⟩ := r; rfl
  | flt _ => obtain ⟨t, rfl⟩ := r; rfl
  | ref _ => cases r; rfl
  | ty _ => cases r; rfl
theorem RelV.inj {x y : V} {u : Value} (r : RelV x u) (q : RelV y u) : x = y := Option.some.inj (r.abs.symm.trans q.abs)
theorem Vals.inj : ∀ {xs ys : List V} {us : List Value}, Vals xs us → Vals ys us → xs = ys
  | _, _, _, .nil, .nil => rfl
  | _, _, _, .cons r t, .cons r' t' => by rw [r.inj r', Vals.inj t t']
section
variable {X : Cx} {pins : List (Addr × Obj)} {σ : St} {H : Hp} {s : Shared} {a : Addr} {xs ys : List V}
theorem SqL.of {K : PySem.W.Frag} (h : H a = some (.lst xs)) : SqL K H a xs := .inl (.inl h)
theorem SqT.of {K : PySem.W.Frag} (h : H a = some (.tup xs)) : SqT K H a xs := .inl (.inl h)
theorem Inv.list (I : Inv X pins σ H s) (h : SqL X.K H a xs) : ∃ its : List Value, Vals xs its ∧ PlainL s.heap a its.toArray ∧ xs.length ≤ sizeLine := by
  rcases h with h | ⟨o, its, n, hk, hc, hd, hs, hz, r⟩
  · obtain ⟨z, its, n, r, e⟩ := h.ok I.hok
    exact ⟨its, r, ⟨_, n, e, rfl, rfl, rfl⟩, z⟩
  · refine ⟨its.toList, r, ⟨o, n, I.kIn a o hk, hc, hd, by simpa using hs⟩, ?_⟩
    have e := r.length
    simp only [Array.length_toList] at e
    omega
theorem Inv.tuple (I : Inv X pins σ H s) (h : SqT X.K H a xs) : ∃ its : List Value, Vals xs its ∧ IsTup s.heap a its.toArray ∧ xs.length ≤ sizeLine := by
  rcases h with h | ⟨o, its, n, hk, hc, hs, hz, r⟩
  · obtain ⟨z, its, r, p⟩ := h.ok I.hok
    exact ⟨its, r, p, z⟩
  · refine ⟨its.toList, r, ⟨o, I.kIn a o hk, hc, n, by simpa using hs⟩, ?_⟩
    have e := r.length
    simp only [Array.length_toList] at e
    omega
theorem Inv.list_inj (I : Inv X pins σ H s) (h : SqL X.K H a xs) (h' : SqL X.K H a ys) : xs = ys := by
  obtain ⟨its, r, ⟨o, n, e, _, _, d⟩, _⟩ := I.list h
  obtain ⟨its', r', ⟨o', n', e', _, _, d'⟩, _⟩ := I.list h'
  rw [e] at e'; cases e'
  rw [d] at d'
  injection d' with d1 _
  have : its = its' := by simpa using congrArg Array.toList d1
  subst this
  exact r.inj r'
theorem Inv.tuple_inj (I : Inv X pins σ H s) (h : SqT X.K H a xs) (h' : SqT X.K H a ys) : xs = ys := by
  obtain ⟨its, r, ⟨o, e, _, n, d⟩, _⟩ := I.tuple h
  obtain ⟨its', r', ⟨o', e', _, n', d'⟩, _⟩ := I.tuple h'
  rw [e] at e'; cases e'
  rw [d] at d'
  injection d' with d1 _
  have : its = its' := by simpa using congrArg Array.toList d1
  subst this
  exact r.inj r'
end

/-! ### another wish about exceptions -/
abbrev Cx.wish (X : Cx) (E : Value → Shared → Prop) : Cx := { X with xe := E }
/-- no exception leaves -/
abbrev Cx.nox (X : Cx) : Cx := X.wish fun _ _ => False
theorem Cx.Ok.wish {X : Cx} (ok : X.Ok) (E : Value → Shared → Prop) : (X.wish E).Ok :=
  ⟨ok.mod, ok.kind, ok.glob, ok.blt, ok.above, ok.inj, ok.has, ok.cab, ok.hd, ok.frames, ok.stk, ok.exf, ok.bs, ok.bsz, ok.noex, ok.exfs, ok.funs, ok.frf⟩
theorem Cx.Ok.unwish {X : Cx} {E : Value → Shared → Prop} (ok : (X.wish E).Ok) : X.Ok :=
  ⟨ok.mod, ok.kind, ok.glob, ok.blt, ok.above, ok.inj, ok.has, ok.cab, ok.hd, ok.frames, ok.stk, ok.exf, ok.bs, ok.bsz, ok.noex, ok.exfs, ok.funs, ok.frf⟩
section
variable {X : Cx} {pins : List (Addr × Obj)} {σ : St} {H : Hp} {s : Shared} {E : Value → Shared → Prop}
theorem Inv.wish (I : Inv X pins σ H s) (E : Value → Shared → Prop) : Inv (X.wish E) pins σ H s := ⟨I.ok.wish E, I.os, I.bare, I.base, I.loc, I.cell, I.free, I.freeC, I.pin, I.hok, I.len⟩
theorem Inv.unwish (I : Inv (X.wish E) pins σ H s) : Inv X pins σ H s := ⟨I.ok.unwish, I.os, I.bare, I.base, I.loc, I.cell, I.free, I.freeC, I.pin, I.hok, I.len⟩
theorem SP.unwish {D : Ends} {f : Flow} {s' : Shared} (h : SP (X.wish E) pins D f s') : SP X pins D f s' := by
  cases f with
  | next => obtain ⟨σ', H', I, q⟩ := h; exact ⟨σ', H', I.unwish, q⟩
  | brk => obtain ⟨σ', H', I, q⟩ := h; exact ⟨σ', H', I.unwish, q⟩
  | cont => obtain ⟨σ', H', I, q⟩ := h; exact ⟨σ', H', I.unwish, q⟩
  | ret u => obtain ⟨v, σ', H', I, r, q⟩ := h; exact ⟨v, σ', H', I.unwish, r, q⟩
theorem PE.nox {e : Expr} {t : TE} (h : PE X.nox e t) : PE X e t := fun pins s σ H Q I hw =>
  wpAny_mono (h pins s σ H Q (I.wish _) hw) (fun _ _ ⟨v, H', I', r, q⟩ => ⟨v, H', I'.unwish, r, q⟩) fun _ _ z => False.elim z
theorem PT.nox {e : Expr} {t : TT} (h : PT X.nox e t) : PT X e t := fun pins s σ H Q I hw =>
  wpAny_mono (h pins s σ H Q (I.wish _) hw) (fun _ _ ⟨H', I', q⟩ => ⟨H', I'.unwish, q⟩) fun _ _ z => False.elim z
theorem PSs.nox {st : List Stmt} {t : TS} (h : PSs X.nox st t) : PSs X st t := fun pins s σ H D I hw =>
  wpAny_mono (h pins s σ H D (I.wish _) hw) (fun _ _ q => q.unwish) fun _ _ z => False.elim z
end

/-! ### blocks and small statements -/
section
variable {X : Cx} {st : Stmt} {rest : List Stmt} {t u : TS} {e : Expr} {te : TE} {pos : Pos}
def tNext : TS := fun D σ H => D.nx σ H
def tSeq (t u : TS) : TS := fun D σ H => t { D with nx := u D } σ H
theorem pss_nil : PSs X [] tNext := fun _ _ σ H _ I h => wpAny_execs_nil ⟨σ, H, I, h⟩
theorem pss_cons (h1 : PS X st t) (h2 : PSs X rest u) : PSs X (st :: rest) (tSeq t u) := by
  intro pins s σ H D I h
  refine wpAny_execs_cons (thn (h1 pins s σ H { D with nx := u D } I h) fun f s1 q => ?_)
  cases f with
  | next =>
    obtain ⟨σ', H', I', q⟩ := q
    exact h2 pins s1 σ' H' D I' q
  | ret v => exact q
  | brk => exact q
  | cont => exact q
theorem pss_one (h1 : PS X st t) : PSs X [st] t := by
  intro pins s σ H D I h
  refine wpAny_execs_cons (thn (h1 pins s σ H D I h) fun f s1 q => ?_)
  cases f with
  | next => exact wpAny_execs_nil q
  | ret v => exact q
  | brk => exact q
  | cont => exact q
def tBreak : TS := fun D σ H => D.bk σ H
def tCont : TS := fun D σ H => D.ct σ H
/-- in a def's body nothing is shown -/
theorem Inv.quiet {pins : List (Addr × Obj)} {σ : St} {H : Hp} {s : Shared} (I : Inv X pins σ H s) : interactive X.env = false := by simp [interactive, I.ok.kind]
/-- an expression whose value is dropped -/
def tDrop (te : TE) : TS := fun D σ H => te σ H fun _ H1 => D.nx σ H1
theorem ps_expr (he : PE X e te) (hs : swapsWith e none pos.line X.env = pure false := by rfl) : PS X (.Expr e pos) (tDrop te) := by
  intro pins s σ H D I h
  exact wpAny_Expr_any (thn (he pins s σ H _ I h) fun v s1 ⟨x, H1, I1, r1, q1⟩ => ⟨σ, H1, I1, q1⟩) I.quiet hs
def tRet (te : TE) : TS := fun D σ H => te σ H D.rt
theorem ps_ret (he : PE X e te) : PS X (.Return (some e) pos) (tRet te) := by
  intro pins s σ H D I h
  exact wpAny_Return_some (thn (he pins s σ H _ I h) fun v s1 ⟨x, H1, I1, r1, q1⟩ => ⟨x, σ, H1, I1, r1, q1⟩)
def tRetN : TS := fun D _ H => D.rt .non H
def tIfS (c : TT) (t u : TS) : TS := fun D σ H => c σ H fun b H1 => if b = true then t D σ H1 else u D σ H1
theorem ps_if {c : Expr} {a b : List Stmt} {tc : TT} (hc : PT X c tc) (ha : PSs X a t) (hb : PSs X b u) : PS X (.If c a b pos) (tIfS tc t u) := by
  intro pins s σ H D I h
  refine wpAny_If (thn (hc pins s σ H _ I h) fun d s1 ⟨H1, I1, q1⟩ => ?_)
  cases d with
  | true => exact ha pins s1 σ H1 D I1 q1
  | false => exact hb pins s1 σ H1 D I1 q1
/-- code that the proof never comes to -/
def tNever : TS := fun _ _ _ => False
theorem ps_never : PS X st tNever := fun _ _ _ _ _ _ h => h.elim
end

/-! ### targets -/
abbrev TG := V → St → Hp → (St → Hp → Prop) → Prop
abbrev TGs := List V → St → Hp → (St → Hp → Prop) → Prop
def PG (X : Cx) (target : Expr) (t : TG) : Prop :=
  ∀ (pins : List (Addr × Obj)) (s : Shared) (σ : St) (H : Hp) (v : V) (u : Value) (Q : St → Hp → Prop), Inv X pins σ H s → RelV v u → t v σ H Q →
    wpAny (model X.prog X.w) X.A (assign target X.env u) (fun _ s' => ∃ σ' H', Inv X pins σ' H' s' ∧ Q σ' H') X.xe s
/-- several targets, one after another -/
def PGs (X : Cx) (ts : List Expr) (t : TGs) : Prop :=
  ∀ (pins : List (Addr × Obj)) (s : Shared) (σ : St) (H : Hp) (vs : List V) (us : List Value) (Q : St → Hp → Prop), Inv X pins σ H s → Vals vs us → t vs σ H Q →
    wpAny (model X.prog X.w) X.A (assignInOrder ((assignEach ts X.env).map (·.2)) us) (fun _ s' => ∃ σ' H', Inv X pins σ' H' s' ∧ Q σ' H') X.xe s
/-- o[i] = v, by values -/
abbrev TSet := V → V → V → Hp → (Hp → Prop) → Prop
def PSet (X : Cx) (t : TSet) : Prop :=
  ∀ (pins : List (Addr × Obj)) (s : Shared) (σ : St) (H : Hp) (o i v : V) (ov iv u : Value) (Q : Hp → Prop), Inv X pins σ H s → RelV o ov → RelV i iv → RelV v u → t o i v H Q →
    wpAny (model X.prog X.w) X.A (setItem ov iv u) (fun _ s' => ∃ H', Inv X pins σ H' s' ∧ Q H') X.xe s
/-- a op= b, by values -/
abbrev TIp := V → V → Hp → VK → Prop
def PIp (X : Cx) (op : Operator) (t : TIp) : Prop :=
  ∀ (pins : List (Addr × Obj)) (s : Shared) (σ : St) (H : Hp) (x y : V) (v u : Value) (Q : VK), Inv X pins σ H s → RelV x v → RelV y u → t x y H Q →
    wpAny (model X.prog X.w) X.A (inplaceOp op v u) (EP X pins σ Q) X.xe s
section
variable {X : Cx} {pos : Pos}
def gName (i : Nat) : TG := fun v σ H Q => Q (σ.set i (some v)) H
theorem pg_name {i : Nat} {x : Str} (hN : X.N.Nodup) (hi : X.N[i]? = some x) (hx : Loc X.env.scope x) (hf : X.fn x = true ∨ X.env.scope.names.lookup x = some .local := by first | exact .inl rfl | exact .inr rfl | assumption) : PG X (.Name x pos) (gName i) := by
  intro pins s σ H v u Q I r h
  exact wpAny_assign_Name (store_ok I hN hi hx r (fun s' I' => ⟨_, H, I', h⟩) hf)
def gNil : TGs := fun vs σ H Q => vs = [] ∧ Q σ H
def gCons (t : TG) (u : TGs) : TGs := fun vs σ H Q => ∃ v r, vs = v :: r ∧ t v σ H fun σ' H' => u r σ' H' Q
theorem pgs_nil : PGs X [] gNil := by
  intro pins s σ H vs us Q I r h
  obtain ⟨e, h⟩ := h
  subst e
  cases r
  exact assignInOrder_nil ⟨σ, H, I, h⟩
theorem pgs_cons {e : Expr} {es : List Expr} {t : TG} {u : TGs} (h1 : PG X e t) (h2 : PGs X es u)
    (hs : (assignEach (e :: es) X.env).map (·.2) = assign e X.env :: (assignEach es X.env).map (·.2) := by rfl) : PGs X (e :: es) (gCons t u) := by
  intro pins s σ H vs us Q I r h
  obtain ⟨v, vr, e1, h⟩ := h
  subst e1
  cases r with
  | cons r rr =>
    rw [hs]
    refine assignInOrder_cons (thn (h1 pins s σ H _ _ _ I r h) fun _ s1 ⟨σ1, H1, I1, q1⟩ => ?_)
    exact h2 pins s1 σ1 H1 _ _ Q I1 rr q1
/-- (a, b, ..) = a tuple of that length -/
def gTup (K : PySem.W.Frag) (n : Nat) (t : TGs) : TG := fun v σ H Q => ∃ a xs, v = .ref a ∧ SqT K H a xs ∧ xs.length = n ∧ t xs σ H Q
theorem pg_tup {es : List Expr} {k : Nat} {t : TGs} {n : Nat} (hc : X.calm = true) (h : PGs X es t)
    (hn : (assignEach es X.env).length = n := by rfl) (hst : (assignEach es X.env).findIdx? (·.1) = none := by rfl) : PG X (.Tuple es k pos) (gTup X.K n t) := by
  intro pins s σ H v u Q I r hw
  obtain ⟨a, xs, e1, hq, hl, hw⟩ := hw
  subst e1
  cases r
  obtain ⟨its, rv, ht, hz⟩ := I.tuple hq
  refine assign_Tuple_tuple (I.ok.hd hc) ht (by simp [hn, ← hl, rv.length]) hst fun h' hx => ?_
  have I1 : Inv X pins σ H { s with heap := h' } := I.kept (t' := s.toks) fun b o e => hx b o (Nat.ne_of_lt (Heap.lt_size e)) e
  exact h pins _ σ H xs _ Q I1 (by simpa using rv) hw
/-- o[i] = .. -/
def gSub (to ti : TE) (t : TSet) : TG := fun v σ H Q => to σ H fun o H1 => ti σ H1 fun i H2 => t o i v H2 fun H3 => Q σ H3
theorem pg_sub {o i : Expr} {to ti : TE} {t : TSet} (ho : PE X o to) (hi : PE X i ti) (hs : PSet X t)
    (ha : ∀ v, assign (.Subscript o i pos) X.env v = (do
      let ov ← holding [v] (eval o X.env)
      let iv ← holding [v, ov] (eval i X.env)
      standAt pos
      holding [v, ov, iv] (setItem ov iv v)
      release [v, ov, iv] []) := by intro _; rfl) : PG X (.Subscript o i pos) (gSub to ti t) := by
  intro pins s σ H v u Q I r h
  rw [ha]
  refine wpAny_bind (wpAny_holding (thn (ho pins s σ H _ I h) fun ov s1 ⟨x, H1, I1, r1, q1⟩ => ?_))
  refine wpAny_bind (wpAny_holding (thn (hi pins s1 σ H1 _ I1 q1) fun iv s2 ⟨y, H2, I2, r2, q2⟩ => ?_))
  refine wpAny_bind (wpAny_standAt (wpAny_bind (wpAny_holding (thn (hs pins s2 σ H2 x y v ov iv u _ I2 r1 r2 r q2) fun _ s3 ⟨H3, I3, q3⟩ => ?_))))
  exact wpAny_release ⟨σ, H3, I3, q3⟩
/-- target = value -/
def tAsg (te : TE) (g : TG) : TS := fun D σ H => te σ H fun x H1 => g x σ H1 D.nx
theorem ps_asg {tg e : Expr} {te : TE} {g : TG} (he : PE X e te) (hg : PG X tg g) (hs : swapsWithSole [tg] e pos.line X.env = pure false := by rfl) (hw : swappedStores [tg] e X.env = pure none := by rfl)
    (h1 : (assignEach [tg] X.env).map (·.2) = [assign tg X.env] := by rfl) : PS X (.Assign [tg] e pos) (tAsg te g) := by
  intro pins s σ H D I h
  refine wpAny_Assign_stores (thn (he pins s σ H _ I h) fun v s1 ⟨x, H1, I1, r1, q1⟩ => ?_) hs hw
  rw [h1]
  exact thn (hg pins s1 σ H1 x v _ I1 r1 q1) fun _ s2 q => q
/-- name = value -/
theorem ps_set {i : Nat} {x : Str} {e : Expr} {te : TE} {pos' : Pos} (hN : X.N.Nodup) (hi : X.N[i]? = some x) (hx : Loc X.env.scope x) (he : PE X e te) (hs : swapsWith e (some (.Name x pos')) pos.line X.env = pure false := by rfl) (hf : X.fn x = true ∨ X.env.scope.names.lookup x = some .local := by first | exact .inl rfl | exact .inr rfl | assumption) :
    PS X (.Assign [.Name x pos'] e pos) (tAsg te (gName i)) := by
  intro pins s σ H D I h
  refine wpAny_Assign_Name (thn (he pins s σ H _ I h) fun v s1 ⟨y, H1, I1, r1, q1⟩ => ?_) hs
  exact store_ok I1 hN hi hx r1 (fun s2 I2 => ⟨_, H1, I2, q1⟩) hf
/-- a, b = x, y with plain local names: stored from the right; the pair itself is not tracked (the opening rows as in PyProof/Rows/TupAssign.lean:23) -/
def tPar (i j : Nat) (ta : TA) : TS := fun D σ H => ta σ H fun vs H1 => ∃ v w, vs = [v, w] ∧ D.nx ((σ.set i (some v)).set j (some w)) H1
/-- name op= e -/
def tAug (i : Nat) (te : TE) (ti : TIp) : TS := fun D σ H => ∃ x, σ[i]? = some (some x) ∧ te σ H fun y H1 => ti x y H1 fun z H2 => D.nx (σ.set i (some z)) H2
/-- o[i] op= e -/
def tAugS (to ti te : TE) (tget : V → V → Hp → VK → Prop) (tip : TIp) (tset : TSet) : TS := fun D σ H => to σ H fun o H1 => ti σ H1 fun i H2 => tget o i H2 fun x H3 => te σ H3 fun y H4 => tip x y H4 fun z H5 => tset o i z H5 fun H6 => D.nx σ H6
/-- o[i], by values -/
def PGet (X : Cx) (t : V → V → Hp → VK → Prop) : Prop :=
  ∀ (pins : List (Addr × Obj)) (s : Shared) (σ : St) (H : Hp) (o i : V) (ov iv : Value) (Q : VK), Inv X pins σ H s → RelV o ov → RelV i iv → t o i H Q →
    wpAny (model X.prog X.w) X.A (getItem ov iv) (EP X pins σ Q) X.xe s
/-- ints -/
def ipI (f : Int → Int → Int) : TIp := fun x y H Q => ∃ i j, x = .int i ∧ y = .int j ∧ Q (.int (f i j)) H
end

/-! ### while -/
section
variable {X : Cx} {pos : Pos}
/-- the invariant W with its measure -/
def tWhile (c : TT) (tb : TS) : TS := fun D σ H => ∃ W : Nat → St → Hp → Prop, (∃ m, W m σ H) ∧ ∀ m σ H, W m σ H →
  c σ H fun b H1 => if b = true then ∃ N : St → Hp → Prop, (∀ σ' H', N σ' H' → ∃ m', m' < m ∧ W m' σ' H') ∧ tb { D with nx := N, ct := N, bk := D.nx } σ H1 else D.nx σ H1
theorem ps_while {c : Expr} {body : List Stmt} {tc : TT} {tb : TS} (hp : PassesOwn (model X.prog X.w) X.A X.env X.xe) (hc : PT X c tc) (hb : PSs X body tb) : PS X (.While c body [] pos) (tWhile tc tb) := by
  intro pins s σ H D I h
  obtain ⟨W, ⟨m0, w0⟩, turn⟩ := h
  refine wpAny_While (codeAny_whileLoop (fun n s' => ∃ σ' H', Inv X pins σ' H' s' ∧ W n σ' H') ?_ m0 ⟨σ, H, I, w0⟩)
  rintro n s1 ⟨σ1, H1, I1, w1⟩
  refine wpAny_passesOwn hp (thn (hc pins s1 σ1 H1 _ I1 (turn n σ1 H1 w1)) fun b s2 ⟨H2, I2, q2⟩ => ?_)
  cases b with
  | true =>
    obtain ⟨N, hN, q2⟩ := q2
    rw [if_pos rfl]
    refine wpAny_passesOwn hp (thn (hb pins s2 σ1 H2 _ I2 q2) fun f s3 q3 => ?_)
    cases f with
    | next =>
      obtain ⟨σ3, H3, I3, n3⟩ := q3
      obtain ⟨m', hm, w3⟩ := hN σ3 H3 n3
      exact ⟨m', hm, σ3, H3, I3, w3⟩
    | cont =>
      obtain ⟨σ3, H3, I3, n3⟩ := q3
      obtain ⟨m', hm, w3⟩ := hN σ3 H3 n3
      exact ⟨m', hm, σ3, H3, I3, w3⟩
    | brk => exact q3
    | ret v => exact q3
  | false =>
    rw [if_neg Bool.false_ne_true]
    exact wpAny_execs_nil ⟨σ1, H2, I2, q2⟩
end

/-! ### what a loop or a comprehension walks -/
/-- at turn i: it yields x (the heap may grow), or it stops -/
structure It where
  go : Nat → Hp → Prop
  yld : Nat → Hp → V → Hp → Prop
  stop : Nat → Hp → Prop
/-- the iterator's own objects may turn: they are not the frame's, not pinned, younger than the entry (or a comprehension's own) -/
def FpOk (X : Cx) (pins : List (Addr × Obj)) (H : Hp) (b : Addr) : Prop :=
  H b = none ∧ b ≠ X.env.locals ∧ b ∉ X.fs ∧ (b ∈ X.ex ∨ X.s₀.heap.objs.size ≤ b) ∧ (∀ x c, X.env.cells.lookup x = some c → c ≠ b) ∧ ∀ p ∈ X.pn ++ pins, p.1 ≠ b
theorem Inv.fpOk {X : Cx} {pins : List (Addr × Obj)} {σ : St} {H H' : Hp} {s : Shared} {b : Addr} (I : Inv X pins σ H s) (hb : s.heap.objs.size ≤ b) (hn : H' b = none) : FpOk X pins H' b := by
  refine ⟨hn, Nat.ne_of_gt (Nat.lt_of_lt_of_le I.lt hb), I.nofs hb, .inr (Nat.le_trans I.sz hb), fun x c e z => ?_, fun p hp z => ?_⟩
  · obtain ⟨v, q⟩ := I.cell x c e
    exact absurd (Nat.lt_of_lt_of_le q.lt (by rw [z]; exact hb)) (Nat.lt_irrefl _)
  · exact absurd (Nat.lt_of_lt_of_le (Heap.lt_size (I.pin p hp).1) (by rw [z]; exact hb)) (Nat.lt_irrefl _)
structure Turn (P : Program) (w : World) (K : PySem.W.Frag) (tg : Expr) (J : It) (fp : List Addr) (it : Addr) (tn : Nat → Heap → Prop) : Prop where
  mem : it ∈ fp
  obj : ∀ i h, tn i h → ∀ b ∈ fp, ∃ o, h.get? b = some o ∧ ∀ v, o.data ≠ .cell v
  keep : ∀ i h h', tn i h → (∀ b ∈ fp, ∀ o, h.get? b = some o → h'.get? b = some o) → tn i h'
  item : ∀ (X : Cx), X.prog = P → X.w = w → X.K = K → X.calm = true → ∀ (i : Nat) (pins : List (Addr × Obj)) (s : Shared) (σ : St) (H : Hp) (E : Value → Shared → Prop), Inv X pins σ H s → (∀ b ∈ fp, FpOk X pins H b) → tn i s.heap → J.go i H →
    wpAny (model P w) X.A (pyNext (.ref it)) (fun r s1 => ∃ u, r = some u ∧
      wpAny (model P w) X.A (letOwnedTupleGo tg (.ref it) u) (fun _ s2 => ∃ x H', Inv X pins σ H' s2 ∧ RelV x u ∧ J.yld i H x H' ∧ tn (i + 1) s2.heap ∧ ∀ b ∈ fp, H' b = none) E s1) E s
  done : ∀ (X : Cx), X.prog = P → X.w = w → X.K = K → X.calm = true → ∀ (i : Nat) (pins : List (Addr × Obj)) (s : Shared) (σ : St) (H : Hp) (E : Value → Shared → Prop), Inv X pins σ H s → (∀ b ∈ fp, FpOk X pins H b) → tn i s.heap → J.stop i H →
    wpAny (model P w) X.A (pyNext (.ref it)) (fun r s1 => r = none ∧ Inv X pins σ H s1) E s
  self : ∀ (A : Around) (i : Nat) (s : Shared) (Q : Value → Shared → Prop) (E : Value → Shared → Prop), tn i s.heap → Q (.ref it) s → wpAny (model P w) A (pyIter (.ref it)) Q E s
abbrev TI := St → Hp → (It → Hp → Prop) → Prop
/-- an iterator has come -/
def PIE (X : Cx) (pins : List (Addr × Obj)) (σ : St) (tg : Expr) (R : It → Hp → Prop) (itv : Value) (s2 : Shared) : Prop :=
  ∃ (it : Addr) (fp : List Addr) (tn : Nat → Heap → Prop) (J : It) (H' : Hp), itv = .ref it ∧ Inv X pins σ H' s2 ∧ Turn X.prog X.w X.K tg J fp it tn ∧ tn 0 s2.heap ∧ (∀ b ∈ fp, FpOk X pins H' b) ∧ R J H'
def PI (X : Cx) (tg iter : Expr) (wi : TI) : Prop :=
  ∀ (pins : List (Addr × Obj)) (s : Shared) (σ : St) (H : Hp) (R : It → Hp → Prop), Inv X pins σ H s → wi σ H R →
    wpAny (model X.prog X.w) X.A (eval iter X.env) (fun v s1 => wpAny (model X.prog X.w) X.A (pyIter v) (PIE X pins σ tg R) X.xe s1) X.xe s

/-- the step ahead of the store is nothing for an iterator that keeps no tuple -/
theorem go_of {M : Model} {A : Around} {E : Value → Shared → Prop} {s : Shared} {tg : Expr} {it : Addr} {u : Value} {o : Obj} {n : String} {vs : Array Value} {Q : Unit → Shared → Prop} (ho : s.heap.get? it = some o) (hc : o.cls = .type n) (hd : o.data = .fields vs)
    (hn : ["enumerate", "zip", "dict_itemiterator", "dict_reverseitemiterator", "odict_iterator", "itertools.zip_longest", "itertools.pairwise"].contains n = false) (hQ : Q () s) : wpAny M A (letOwnedTupleGo tg (.ref it) u) Q E s := by
  unfold letOwnedTupleGo
  cases tg <;> first
    | exact wpAny_pure hQ
    | (cases u <;> first
        | exact wpAny_pure hQ
        | (refine wpAny_bind (wpAny_load ho ?_)
           rw [hc, hd]
           show wpAny M A (if (["enumerate", "zip", "dict_itemiterator", "dict_reverseitemiterator", "odict_iterator", "itertools.zip_longest", "itertools.pairwise"].contains n && vs[0]? == some (rawInt _)) = true then _ else _) Q E s
           rw [if_neg (by intro h; rw [hn, Bool.false_and] at h; cases h)]
           exact wpAny_pure hQ))

/-- the list at a, as it stands at each turn (a loop may append to it) -/
def Itl (K : PySem.W.Frag) (a : Addr) : It :=
  ⟨fun i H => ∃ xs x, SqL K H a xs ∧ xs[i]? = some x, fun i H x H' => H' = H ∧ ∀ xs, SqL K H a xs → xs[i]? = some x, fun i H => ∃ xs, SqL K H a xs ∧ xs.length ≤ i⟩
def Itt (K : PySem.W.Frag) (a : Addr) : It :=
  ⟨fun i H => ∃ xs x, SqT K H a xs ∧ xs[i]? = some x, fun i H x H' => H' = H ∧ ∀ xs, SqT K H a xs → xs[i]? = some x, fun i H => ∃ xs, SqT K H a xs ∧ xs.length ≤ i⟩
/-- lo, lo + 1, .. (n of them) -/
def Itr (lo : Int) (n : Nat) : It := ⟨fun i _ => i < n, fun i H x H' => H' = H ∧ x = .int (lo + i), fun i _ => n ≤ i⟩
theorem turn_list {P : Program} {w : World} {K : PySem.W.Frag} {tg : Expr} (a it : Addr) : Turn P w K tg (Itl K a) [it] it (fun i h => h.IsListIter it a i) where
  mem := by simp
  obj := fun i h st b hb => by
    have e : b = it := by simpa using hb
    subst e
    obtain ⟨o, e, c, d⟩ := st
    exact ⟨o, e, fun v z => by rw [d] at z; cases z⟩
  keep := fun i h h' st k => st.at fun o e => k it (by simp) o e
  item := by
    intro X hP hw hK hc i pins s σ H E I hf st hg
    subst hP hw hK
    obtain ⟨xs, x, hq, hx⟩ := hg
    obtain ⟨its, rv, p, hz⟩ := I.list hq
    obtain ⟨u, hu, ru⟩ := rv.get hx
    obtain ⟨f0, f1, f2, f3, f4, f5⟩ := hf it (by simp)
    refine wpAny_pyNext_list_item st p.isList (x := u) (by simpa using hu) fun h' st' sb => ?_
    have I1 : Inv X pins σ H { s with heap := h' } := I.turned (t' := s.toks) (fun b o hb e => (sb.2 b hb).trans e) f0 f1 f3 f4 f5
    obtain ⟨o, e, c, d⟩ := id st'
    exact ⟨u, rfl, go_of (s := { s with heap := h' }) e c d (by decide) ⟨x, H, I1, ru, ⟨rfl, fun ys hy => by rw [I.list_inj hy hq]; exact hx⟩, st', fun b hb => (hf b hb).1⟩⟩
  done := by
    intro X hP hw hK hc i pins s σ H E I hf st hg
    subst hP hw hK
    obtain ⟨xs, hq, hx⟩ := hg
    obtain ⟨its, rv, p, hz⟩ := I.list hq
    obtain ⟨f0, f1, f2, f3, f4, f5⟩ := hf it (by simp)
    have hl := rv.length
    exact wpAny_pyNext_list_end (I.ok.hd hc) st p.isList (by simp; omega) fun h' eb => ⟨rfl, I.turned (t' := s.toks) (fun b o hb e => eb b o hb e) f0 f1 f3 f4 f5⟩
  self := fun _ _ _ _ _ st h => wpAny_pyIter_listiter st h
theorem turn_tuple {P : Program} {w : World} {K : PySem.W.Frag} {tg : Expr} (a it : Addr) : Turn P w K tg (Itt K a) [it] it (fun i h => h.IsTupleIter it a i) where
  mem := by simp
  obj := fun i h st b hb => by
    have e : b = it := by simpa using hb
    subst e
    obtain ⟨o, e, c, d⟩ := st
    exact ⟨o, e, fun v z => by rw [d] at z; cases z⟩
  keep := fun i h h' st k => st.at fun o e => k it (by simp) o e
  item := by
    intro X hP hw hK hc i pins s σ H E I hf st hg
    subst hP hw hK
    obtain ⟨xs, x, hq, hx⟩ := hg
    obtain ⟨its, rv, p, hz⟩ := I.tuple hq
    obtain ⟨u, hu, ru⟩ := rv.get hx
    obtain ⟨f0, f1, f2, f3, f4, f5⟩ := hf it (by simp)
    refine wpAny_pyNext_tuple_item st (show s.heap.IsTuple a its.toArray from p) (x := u) (by simpa using hu) fun h' st' sb => ?_
    have I1 : Inv X pins σ H { s with heap := h' } := I.turned (t' := s.toks) (fun b o hb e => (sb.2 b hb).trans e) f0 f1 f3 f4 f5
    obtain ⟨o, e, c, d⟩ := id st'
    exact ⟨u, rfl, go_of (s := { s with heap := h' }) e c d (by decide) ⟨x, H, I1, ru, ⟨rfl, fun ys hy => by rw [I.tuple_inj hy hq]; exact hx⟩, st', fun b hb => (hf b hb).1⟩⟩
  done := by
    intro X hP hw hK hc i pins s σ H E I hf st hg
    subst hP hw hK
    obtain ⟨xs, hq, hx⟩ := hg
    obtain ⟨its, rv, p, hz⟩ := I.tuple hq
    obtain ⟨f0, f1, f2, f3, f4, f5⟩ := hf it (by simp)
    have hl := rv.length
    exact wpAny_pyNext_tuple_end (I.ok.hd hc) st (show s.heap.IsTuple a its.toArray from p) (by simp; omega) fun h' eb => ⟨rfl, I.turned (t' := s.toks) (fun b o hb e => eb b o hb e) f0 f1 f3 f4 f5⟩
  self := fun _ _ _ _ _ st h => wpAny_pyIter_tupleiter st h
theorem turn_range {P : Program} {w : World} {K : PySem.W.Frag} {tg : Expr} (it : Addr) (lo : Int) (n : Nat) : Turn P w K tg (Itr lo n) [it] it (fun i h => IsRangeIter h it (lo + (i : Nat) * 1) ((n : Int) - (i : Nat)) 1) where
  mem := by simp
  obj := fun i h st b hb => by
    have e : b = it := by simpa using hb
    subst e
    exact ⟨_, st, fun v z => by
      have z' : Data.fields _ = Data.cell v := z
      cases z'⟩
  keep := fun i h h' st k => k it (by simp) _ st
  item := by
    intro X hP hw hK hc i pins s σ H E I hf st hg
    subst hP hw hK
    obtain ⟨f0, f1, f2, f3, f4, f5⟩ := hf it (by simp)
    have W := Walks.range (prog := X.prog) (w := X.w) (I.ok.hd hc) it lo 1 n
    refine W.item i s _ _ hg st fun v h' tk hv st' kk => ?_
    obtain ⟨t, rfl⟩ := hv
    have I1 : Inv X pins σ H { s with heap := h', toks := tk } := I.turned (fun b o hb e => kk b o (by simpa using hb) e) f0 f1 f3 f4 f5
    refine ⟨_, rfl, go_of (s := { s with heap := h', toks := tk }) (n := "range_iterator") st' rfl rfl (by decide) ⟨.int (lo + i), H, I1, ⟨t, ?_⟩, ⟨rfl, rfl⟩, st', fun b hb => (hf b hb).1⟩⟩
    rw [Int.mul_one]
  done := by
    intro X hP hw hK hc i pins s σ H E I hf st hg
    subst hP hw hK
    obtain ⟨f0, f1, f2, f3, f4, f5⟩ := hf it (by simp)
    exact wpAny_pyNext_range_end (I.ok.hd hc) st (by have : n ≤ i := hg; omega) fun h' eb => ⟨rfl, I.turned (t' := s.toks) (fun b o hb e => eb b o hb e) f0 f1 f3 f4 f5⟩
  self := fun _ _ _ _ _ st h => wpAny_pyIter_rangeiter st h
end L2

namespace L2
open PySem PySem.Spec PyProof.Rows
section
variable {X : Cx} {tg : Expr}
def iList (K : PySem.W.Frag) (tl : TE) : TI := fun σ H R => tl σ H fun x H1 => ∃ a, x = .ref a ∧ (∃ xs, SqL K H1 a xs) ∧ R (Itl K a) H1
def iTup (K : PySem.W.Frag) (tl : TE) : TI := fun σ H R => tl σ H fun x H1 => ∃ a, x = .ref a ∧ (∃ xs, SqT K H1 a xs) ∧ R (Itt K a) H1
theorem pi_list {l : Expr} {tl : TE} (hl : PE X l tl) : PI X tg l (iList X.K tl) := by
  intro pins s σ H R I h
  refine thn (hl pins s σ H _ I h) fun v s1 ⟨x, H1, I1, r1, q1⟩ => ?_
  obtain ⟨a, e, ⟨xs, hq⟩, q⟩ := q1
  subst e
  cases r1
  obtain ⟨its, rv, p, hz⟩ := I1.list hq
  refine wpAny_pyIter_list p.isList ?_
  refine ⟨s1.heap.objs.size, [s1.heap.objs.size], _, _, H1, rfl, I1.kept (t' := s1.toks) fun b o e => Heap.get?_push_of_some _ e, turn_list a _, ⟨_, Heap.get?_push_size _ rfl, rfl, rfl⟩, fun b hb => ?_, q⟩
  have e : b = s1.heap.objs.size := by simpa using hb
  subst e
  exact I1.fpOk (Nat.le_refl _) (I1.hok.fresh (Nat.le_refl _))
theorem pi_tup {l : Expr} {tl : TE} (hl : PE X l tl) : PI X tg l (iTup X.K tl) := by
  intro pins s σ H R I h
  refine thn (hl pins s σ H _ I h) fun v s1 ⟨x, H1, I1, r1, q1⟩ => ?_
  obtain ⟨a, e, ⟨xs, hq⟩, q⟩ := q1
  subst e
  cases r1
  obtain ⟨its, rv, p, hz⟩ := I1.tuple hq
  refine wpAny_pyIter_tuple (show s1.heap.IsTuple a its.toArray from p) ?_
  refine ⟨s1.heap.objs.size, [s1.heap.objs.size], _, _, H1, rfl, I1.kept (t' := s1.toks) fun b o e => Heap.get?_push_of_some _ e, turn_tuple a _, ⟨_, Heap.get?_push_size _ rfl, rfl, rfl⟩, fun b hb => ?_, q⟩
  have e : b = s1.heap.objs.size := by simpa using hb
  subst e
  exact I1.fpOk (Nat.le_refl _) (I1.hok.fresh (Nat.le_refl _))
/-- a range object just made, walked -/
theorem range_it {pins : List (Addr × Obj)} {σ : St} {H : Hp} {s : Shared} {R : It → Hp → Prop} {E : Value → Shared → Prop} {lo hi : Int} {t u v : Tok} {tk : Nat} (I : Inv X pins σ H s) (h1 : -(2 ^ 62) ≤ lo) (h2 : lo < 2 ^ 62) (h3 : -(2 ^ 62) ≤ hi) (h4 : hi < 2 ^ 62)
    (q : R (Itr lo (hi - lo).toNat) H) : wpAny (model X.prog X.w) X.A (pyIter (.ref s.heap.objs.size)) (PIE X pins σ tg R) E { s with heap := s.heap.push { cls := .type "range", data := .fields #[.int lo t, .int hi u, .int 1 v] }, toks := tk } := by
  refine wpAny_pyIter_range (IsRange.new ..) (small_one h1 h2 h3 h4) ?_
  have I1 : Inv X pins σ H { s with heap := s.heap.push { cls := .type "range", data := .fields #[.int lo t, .int hi u, .int 1 v] }, toks := tk } := I.kept fun b o e => Heap.get?_push_of_some _ e
  refine ⟨(s.heap.push { cls := .type "range", data := .fields #[.int lo t, .int hi u, .int 1 v] }).objs.size, [(s.heap.push { cls := .type "range", data := .fields #[.int lo t, .int hi u, .int 1 v] }).objs.size], _, _, H, rfl,
    I1.kept (t' := tk) fun b o e => Heap.get?_push_of_some _ e, turn_range _ lo (hi - lo).toNat, ?_, fun b hb => ?_, q⟩
  · have e1 : lo + ((0 : Nat) : Int) * 1 = lo := by simp
    have e2 : (((hi - lo).toNat : Nat) : Int) - ((0 : Nat) : Int) = Builtin.Range.rangeSize lo hi 1 := by rw [rangeSize_one]; split <;> omega
    show IsRangeIter _ _ (lo + ((0 : Nat) : Int) * 1) ((((hi - lo).toNat : Nat) : Int) - ((0 : Nat) : Int)) 1
    rw [e1, e2]
    exact Heap.get?_push_size _ rfl
  · have e : b = (s.heap.push { cls := .type "range", data := .fields #[.int lo t, .int hi u, .int 1 v] }).objs.size := by simpa using hb
    subst e
    exact I1.fpOk (Nat.le_refl _) (I1.hok.fresh (Nat.le_refl _))
def iRng1 (ta : TA) : TI := fun σ H R => ta σ H fun vs H1 => ∃ j : Int, vs = [.int j] ∧ -(2 ^ 62) ≤ j ∧ j < 2 ^ 62 ∧ R (Itr 0 j.toNat) H1
def iRng2 (ta : TA) : TI := fun σ H R => ta σ H fun vs H1 => ∃ i j : Int, vs = [.int i, .int j] ∧ (-(2 ^ 62) ≤ i ∧ i < 2 ^ 62 ∧ -(2 ^ 62) ≤ j ∧ j < 2 ^ 62) ∧ R (Itr i (j - i).toNat) H1
theorem pi_range1 {a : Expr} {ta : TA} {p pos : Pos} (hg : Gl X "range") (hm : X.mg "range" = none) (ha : PA X [a] ta) (hs : starEach [a] X.env = [(false, eval a X.env)] := by rfl) : PI X tg (.Call (.Name "range" p) [a] [] pos) (iRng1 ta) := by
  intro pins s σ H R I h
  refine Call_ (ld_blt I hg hm boot_range (PyProof.Rows.callWith_type1 (thn (ha pos pins s σ H _ I h) fun us s1 ⟨vs, H1, I1, r1, q1⟩ => ?_) hs rfl))
  obtain ⟨j, e, q1, q2, q⟩ := q1
  subst e
  cases r1 with
  | cons r rr =>
    cases rr
    obtain ⟨t, rfl⟩ := r
    exact call_range_1 (range_it I1 (by omega) (by omega) q1 q2 (by simpa using q))
/-! ### for -/
/-- W: the invariant by the turn and a measure; N: what the body is to reach -/
def tFor (wi : TI) (g : TG) (tb : TS) : TS := fun D σ H => wi σ H fun J H1 => ∃ W : Nat → Nat → St → Hp → Prop, (∃ m, W 0 m σ H1) ∧ ∀ i m σ H, W i m σ H →
  (J.stop i H ∧ D.nx σ H) ∨ (J.go i H ∧ ∃ N : St → Hp → Prop, (∀ σ' H', N σ' H' → ∃ m', m' < m ∧ W (i + 1) m' σ' H') ∧ ∀ x H', J.yld i H x H' → g x σ H' fun σ2 H2 => tb { D with nx := N, ct := N, bk := D.nx } σ2 H2)
/-- the records at fp as they stand -/
def pinsAt (fp : List Addr) (h : Heap) : List (Addr × Obj) := fp.filterMap fun b => (h.get? b).map fun o => (b, o)
theorem mem_pinsAt {fp : List Addr} {h : Heap} {b : Addr} {o : Obj} (hb : b ∈ fp) (e : h.get? b = some o) : (b, o) ∈ pinsAt fp h := List.mem_filterMap.mpr ⟨b, hb, by rw [e]; rfl⟩
theorem of_pinsAt {fp : List Addr} {h : Heap} {p : Addr × Obj} (hp : p ∈ pinsAt fp h) : p.1 ∈ fp ∧ h.get? p.1 = some p.2 := by
  obtain ⟨b, hb, e⟩ := List.mem_filterMap.mp hp
  cases q : h.get? b with
  | none => rw [q] at e; cases e
  | some o =>
    rw [q] at e
    have e' : (b, o) = p := Option.some.inj e
    subst e'
    exact ⟨hb, q⟩
theorem Inv.pinned {pins : List (Addr × Obj)} {σ : St} {H : Hp} {s : Shared} {fp : List Addr} (I : Inv X pins σ H s) (hf : ∀ b ∈ fp, FpOk X pins H b) (ho : ∀ b ∈ fp, ∃ o, s.heap.get? b = some o ∧ ∀ v, o.data ≠ .cell v) : Inv X (pins ++ pinsAt fp s.heap) σ H s :=
  I.pins_of fun p hp => (List.mem_append.mp hp).elim (fun z => I.pin p (List.mem_append_right _ z)) fun z => by
    obtain ⟨hb, e⟩ := of_pinsAt z
    obtain ⟨f0, f1, f2, _⟩ := hf p.1 hb
    obtain ⟨o, e', d⟩ := ho p.1 hb
    rw [e] at e'; cases e'
    exact ⟨e, f0, f1, f2, d⟩
theorem Inv.unpinned {pins pl : List (Addr × Obj)} {σ : St} {H : Hp} {s : Shared} (I : Inv X (pins ++ pl) σ H s) : Inv X pins σ H s := I.pins_of fun p hp => I.pin p (List.mem_append_right _ (List.mem_append_left _ hp))
theorem ps_for {iter : Expr} {body : List Stmt} {wi : TI} {g : TG} {tb : TS} {pos : Pos} (hp : PassesOwn (model X.prog X.w) X.A X.env X.xe) (hc : X.calm = true) (hi : PI X tg iter wi) (hg : PG X tg g) (hb : PSs X body tb)
    (hs : ∀ x, foldedSetIterable iter X.env x = pure x := by intro _; rfl) : PS X (.For tg iter body [] pos) (tFor wi g tb) := by
  intro pins s σ H D I h
  refine wpAny_For (thn (hi pins s σ H _ I h) fun v s1 h1 => thn h1 fun itv s2 h2 => ?_) hs
  obtain ⟨it, fp, tn, J, H2, e, I2, T, st2, f2, W, ⟨m0, w0⟩, turn⟩ := h2
  subst e
  -- what stays true of the iterator's objects through the loop
  have stat : ∀ {H' : Hp}, (∀ b ∈ fp, H' b = none) → ∀ b ∈ fp, FpOk X pins H' b := fun hn b hb => ⟨hn b hb, (f2 b hb).2⟩
  refine codeAny_forLoop_any (fun n s' => ∃ i σ' H', Inv X pins σ' H' s' ∧ tn i s'.heap ∧ (∀ b ∈ fp, H' b = none) ∧ W i n σ' H') ?_ m0 ⟨0, σ, H2, I2, st2, fun b hb => (f2 b hb).1, w0⟩
  rintro n s3 ⟨i, σ3, H3, I3, st3, fr3, w3⟩
  rcases turn i n σ3 H3 w3 with ⟨stop, qn⟩ | ⟨go, N, hN, step⟩
  · refine wpAny_passesOwn hp (thn (T.done X rfl rfl rfl hc i pins s3 σ3 H3 X.xe I3 (stat fr3) st3 stop) fun r s4 ⟨hr, I4⟩ => ?_)
    subst hr
    exact wpAny_execs_nil ⟨σ3, H3, I4, qn⟩
  · refine wpAny_passesOwn hp (thn (T.item X rfl rfl rfl hc i pins s3 σ3 H3 X.xe I3 (stat fr3) st3 go) fun r s4 ⟨u, hr, h4⟩ => ?_)
    subst hr
    refine wpAny_passesOwn hp (thn h4 fun _ s5 ⟨x, H5, I5, r5, y5, st5, fr5⟩ => ?_)
    have I5' := I5.pinned (stat fr5) (T.obj _ _ st5)
    refine wpAny_passesOwn hp (thn (hg _ s5 σ3 H5 x u _ I5' r5 (step x H5 y5)) fun _ s6 ⟨σ6, H6, I6, q6⟩ => ?_)
    refine wpAny_passesOwn hp (thn (hb _ s6 σ6 H6 _ I6 q6) fun f s7 q7 => ?_)
    have again : ∀ {σ7 : St} {H7 : Hp}, Inv X (pins ++ pinsAt fp s5.heap) σ7 H7 s7 → N σ7 H7 → ∃ m, m < n ∧ ∃ i σ' H', Inv X pins σ' H' s7 ∧ tn i s7.heap ∧ (∀ b ∈ fp, H' b = none) ∧ W i m σ' H' := fun {σ7 H7} I7 n7 => by
      obtain ⟨m', hm, w7⟩ := hN σ7 H7 n7
      refine ⟨m', hm, i + 1, σ7, H7, I7.unpinned, T.keep _ _ _ st5 fun b hb o e => (I7.pin (b, o) (List.mem_append_right _ (List.mem_append_right _ (mem_pinsAt hb e)))).1, fun b hb => ?_, w7⟩
      obtain ⟨o, e, d⟩ := T.obj _ _ st5 b hb
      exact (I7.pin (b, o) (List.mem_append_right _ (List.mem_append_right _ (mem_pinsAt hb e)))).2.1
    cases f with
    | next => obtain ⟨σ7, H7, I7, n7⟩ := q7; exact again I7 n7
    | cont => obtain ⟨σ7, H7, I7, n7⟩ := q7; exact again I7 n7
    | brk => obtain ⟨σ7, H7, I7, q7⟩ := q7; exact ⟨σ7, H7, I7.unpinned, q7⟩
    | ret v => obtain ⟨x7, σ7, H7, I7, r7, q7⟩ := q7; exact ⟨x7, σ7, H7, I7.unpinned, r7, q7⟩
end

/-! ### the forms one uses -/
/-- over a list that the body leaves as it is -/
theorem for_list {K : PySem.W.Frag} {a : Addr} {xs : List V} {g : TG} {tb : TS} {D : Ends} {σ : St} {H : Hp} (Pv : Nat → St → Hp → Prop) (h0 : Pv 0 σ H) (hl : ∀ i σ H, i ≤ xs.length → Pv i σ H → SqL K H a xs)
    (hs : ∀ i x σ H, xs[i]? = some x → Pv i σ H → g x σ H fun σ2 H2 => tb { D with nx := Pv (i + 1), ct := Pv (i + 1), bk := D.nx } σ2 H2) (hd : ∀ σ H, Pv xs.length σ H → D.nx σ H) :
    ∃ W : Nat → Nat → St → Hp → Prop, (∃ m, W 0 m σ H) ∧ ∀ i m σ H, W i m σ H →
      ((Itl K a).stop i H ∧ D.nx σ H) ∨ ((Itl K a).go i H ∧ ∃ N : St → Hp → Prop, (∀ σ' H', N σ' H' → ∃ m', m' < m ∧ W (i + 1) m' σ' H') ∧ ∀ x H', (Itl K a).yld i H x H' → g x σ H' fun σ2 H2 => tb { D with nx := N, ct := N, bk := D.nx } σ2 H2) := by
  refine ⟨fun i m σ H => m = xs.length - i ∧ i ≤ xs.length ∧ Pv i σ H, ⟨xs.length, by simp, Nat.zero_le _, h0⟩, ?_⟩
  rintro i m σ H ⟨rfl, hi, p⟩
  have q := hl i σ H hi p
  by_cases hlt : i < xs.length
  · refine .inr ⟨⟨xs, xs[i], q, by simp [hlt]⟩, Pv (i + 1), fun σ' H' p' => ⟨xs.length - (i + 1), by omega, rfl, hlt, p'⟩, fun x H' y => ?_⟩
    obtain ⟨e, y⟩ := y
    subst e
    exact hs i x σ _ (y xs q) p
  · have e : i = xs.length := by omega
    subst e
    exact .inl ⟨⟨xs, q, Nat.le_refl _⟩, hd σ H p⟩
theorem for_tup {K : PySem.W.Frag} {a : Addr} {xs : List V} {g : TG} {tb : TS} {D : Ends} {σ : St} {H : Hp} (Pv : Nat → St → Hp → Prop) (h0 : Pv 0 σ H) (hl : ∀ i σ H, i ≤ xs.length → Pv i σ H → SqT K H a xs)
    (hs : ∀ i x σ H, xs[i]? = some x → Pv i σ H → g x σ H fun σ2 H2 => tb { D with nx := Pv (i + 1), ct := Pv (i + 1), bk := D.nx } σ2 H2) (hd : ∀ σ H, Pv xs.length σ H → D.nx σ H) :
    ∃ W : Nat → Nat → St → Hp → Prop, (∃ m, W 0 m σ H) ∧ ∀ i m σ H, W i m σ H →
      ((Itt K a).stop i H ∧ D.nx σ H) ∨ ((Itt K a).go i H ∧ ∃ N : St → Hp → Prop, (∀ σ' H', N σ' H' → ∃ m', m' < m ∧ W (i + 1) m' σ' H') ∧ ∀ x H', (Itt K a).yld i H x H' → g x σ H' fun σ2 H2 => tb { D with nx := N, ct := N, bk := D.nx } σ2 H2) := by
  refine ⟨fun i m σ H => m = xs.length - i ∧ i ≤ xs.length ∧ Pv i σ H, ⟨xs.length, by simp, Nat.zero_le _, h0⟩, ?_⟩
  rintro i m σ H ⟨rfl, hi, p⟩
  have q := hl i σ H hi p
  by_cases hlt : i < xs.length
  · refine .inr ⟨⟨xs, xs[i], q, by simp [hlt]⟩, Pv (i + 1), fun σ' H' p' => ⟨xs.length - (i + 1), by omega, rfl, hlt, p'⟩, fun x H' y => ?_⟩
    obtain ⟨e, y⟩ := y
    subst e
    exact hs i x σ _ (y xs q) p
  · have e : i = xs.length := by omega
    subst e
    exact .inl ⟨⟨xs, q, Nat.le_refl _⟩, hd σ H p⟩
theorem for_range {lo : Int} {n : Nat} {g : TG} {tb : TS} {D : Ends} {σ : St} {H : Hp} (Pv : Nat → St → Hp → Prop) (h0 : Pv 0 σ H)
    (hs : ∀ i σ H, i < n → Pv i σ H → g (.int (lo + i)) σ H fun σ2 H2 => tb { D with nx := Pv (i + 1), ct := Pv (i + 1), bk := D.nx } σ2 H2) (hd : ∀ σ H, Pv n σ H → D.nx σ H) :
    ∃ W : Nat → Nat → St → Hp → Prop, (∃ m, W 0 m σ H) ∧ ∀ i m σ H, W i m σ H →
      ((Itr lo n).stop i H ∧ D.nx σ H) ∨ ((Itr lo n).go i H ∧ ∃ N : St → Hp → Prop, (∀ σ' H', N σ' H' → ∃ m', m' < m ∧ W (i + 1) m' σ' H') ∧ ∀ x H', (Itr lo n).yld i H x H' → g x σ H' fun σ2 H2 => tb { D with nx := N, ct := N, bk := D.nx } σ2 H2) := by
  refine ⟨fun i m σ H => m = n - i ∧ i ≤ n ∧ Pv i σ H, ⟨n, by simp, Nat.zero_le _, h0⟩, ?_⟩
  rintro i m σ H ⟨rfl, hi, p⟩
  by_cases hlt : i < n
  · refine .inr ⟨hlt, Pv (i + 1), fun σ' H' p' => ⟨n - (i + 1), by omega, rfl, hlt, p'⟩, fun x H' y => ?_⟩
    obtain ⟨e, y⟩ := y
    subst e y
    exact hs i σ _ hlt p
  · have e : i = n := by omega
    subst e
    exact .inl ⟨Nat.le_refl _, hd σ H p⟩
/-- while, by a word and a measure of the state -/
theorem while_by {c : TT} {tb : TS} {D : Ends} {σ : St} {H : Hp} (Pv : St → Hp → Prop) (μ : St → Hp → Nat) (h0 : Pv σ H)
    (hs : ∀ σ H, Pv σ H → c σ H fun b H1 => if b = true then tb { D with nx := fun σ' H' => Pv σ' H' ∧ μ σ' H' < μ σ H, ct := fun σ' H' => Pv σ' H' ∧ μ σ' H' < μ σ H, bk := D.nx } σ H1 else D.nx σ H1)
    (mono : ∀ σ H Q Q', (∀ b H1, Q b H1 → Q' b H1) → c σ H Q → c σ H Q') : tWhile c tb D σ H := by
  refine ⟨fun m σ H => m = μ σ H ∧ Pv σ H, ⟨_, rfl, h0⟩, ?_⟩
  rintro m σ H ⟨rfl, p⟩
  refine mono σ H _ _ (fun b H1 q => ?_) (hs σ H p)
  cases b with
  | true => exact ⟨_, fun σ' H' ⟨p', l⟩ => ⟨_, l, rfl, p'⟩, q⟩
  | false => exact q
end L2

namespace L2
open PySem PySem.Spec PyProof.Rows

abbrev R2 := V → V → Hp → VK → Prop
/-- a two-place operation on values: f is binaryOp op, inplaceOp op or compareOp op -/
def OpR (X : Cx) (f : Value → Value → Sem Value) (r : R2) : Prop :=
  ∀ (pins : List (Addr × Obj)) (s : Shared) (σ : St) (H : Hp) (x y : V) (v u : Value) (Q : VK), Inv X pins σ H s → RelV x v → RelV y u → r x y H Q →
    wpAny (model X.prog X.w) X.A (f v u) (EP X pins σ Q) X.xe s
/-- a one-place operation -/
def UnR (X : Cx) (f : Value → Sem Value) (r : V → Hp → VK → Prop) : Prop :=
  ∀ (pins : List (Addr × Obj)) (s : Shared) (σ : St) (H : Hp) (x : V) (v : Value) (Q : VK), Inv X pins σ H s → RelV x v → r x H Q →
    wpAny (model X.prog X.w) X.A (f v) (EP X pins σ Q) X.xe s
/-- a call of a value that is known (a builtin, a type) with values -/
def CallR (X : Cx) (f : Value) (r : List V → Hp → VK → Prop) : Prop :=
  ∀ (pins : List (Addr × Obj)) (s : Shared) (σ : St) (H : Hp) (xs : List V) (us : List Value) (Q : VK), Inv X pins σ H s → Vals xs us → r xs H Q →
    wpAny (model X.prog X.w) X.A (call f us) (EP X pins σ Q) X.xe s
/-- a value's truth -/
def TruR (X : Cx) (r : V → Hp → (Bool → Hp → Prop) → Prop) : Prop :=
  ∀ (pins : List (Addr × Obj)) (s : Shared) (σ : St) (H : Hp) (x : V) (v : Value) (Q : Bool → Hp → Prop), Inv X pins σ H s → RelV x v → r x H Q →
    wpAny (model X.prog X.w) X.A (truthy v) (TP X pins σ Q) X.xe s

def tOp (r : R2) (ta tb : TE) : TE := fun σ H Q => ta σ H fun x H1 => tb σ H1 fun y H2 => r x y H2 Q
def tUn (r : V → Hp → VK → Prop) (ta : TE) : TE := fun σ H Q => ta σ H fun x H1 => r x H1 Q
/-- ints in, under C, and a value out -/
def rI (C : Int → Int → Prop) (g : Int → Int → V) : R2 := fun x y H Q => ∃ i j, x = .int i ∧ y = .int j ∧ C i j ∧ Q (g i j) H
def rI0 (g : Int → Int → V) : R2 := fun x y H Q => ∃ i j, x = .int i ∧ y = .int j ∧ Q (g i j) H
def rU (g : Int → V) : V → Hp → VK → Prop := fun x H Q => ∃ i, x = .int i ∧ Q (g i) H

section
variable {X : Cx} {a b c : Expr} {ta tb tc : TE} {pos : Pos}

theorem binT (ha : PE X a ta) (hb : PE X b tb) {pins : List (Addr × Obj)} {s : Shared} {σ : St} {H : Hp} {R : V → V → Hp → Prop} (I : Inv X pins σ H s)
    (h : ta σ H fun x H1 => tb σ H1 fun y H2 => R x y H2) {Q : Value → Shared → Prop} {f : Value → Value → Sem Value}
    (hf : ∀ v u s2 x y H2, Inv X pins σ H2 s2 → RelV x v → RelV y u → R x y H2 → wpAny (model X.prog X.w) X.A (f v u) Q X.xe s2) :
    wpAny (model X.prog X.w) X.A (eval a X.env) (fun v s₁ => wpAny (model X.prog X.w) X.A (eval b X.env) (fun u s₂ => wpAny (model X.prog X.w) X.A (f v u) Q X.xe s₂) X.xe s₁) X.xe s := by
  refine thn (ha pins s σ H _ I h) fun v s1 ⟨x, H1, I1, r1, q1⟩ => ?_
  refine thn (hb pins s1 σ H1 _ I1 q1) fun u s2 ⟨y, H2, I2, r2, q2⟩ => ?_
  exact hf v u s2 x y H2 I2 r1 r2 q2

theorem pe_op {op : Operator} {r : R2} (ho : OpR X (binaryOp op) r) (ha : PE X a ta) (hb : PE X b tb) : PE X (.BinOp a op b pos) (tOp r ta tb) := by
  intro pins s σ H Q I h
  exact wpAny_BinOp (binT ha hb I h fun v u s2 x y H2 I2 rx ry q => ho pins s2 σ H2 x y v u Q I2 rx ry q)
theorem pe_un {op : UnaryOp} {r : V → Hp → VK → Prop} (ho : UnR X (unaryOp op) r) (ha : PE X a ta) : PE X (.UnaryOp op a pos) (tUn r ta) := by
  intro pins s σ H Q I h
  exact UnaryOp_ (thn (ha pins s σ H _ I h) fun v s1 ⟨x, H1, I1, r1, q1⟩ => ho pins s1 σ H1 x v Q I1 r1 q1)
/-! ### ints -/
theorem opI {f : Value → Value → Sem Value} {C : Int → Int → Prop} {g : Int → Int → Int}
    (rule : ∀ (i j : Int) (t u : Tok) (s : Shared) (Q : Value → Shared → Prop) (E : Value → Shared → Prop), C i j → Q (.int (g i j) s.toks) { s with toks := s.toks + 1 } → wpAny (model X.prog X.w) X.A (f (.int i t) (.int j u)) Q E s) :
    OpR X f (rI C fun i j => .int (g i j)) := by
  intro pins s σ H x y v u Q I rx ry h
  obtain ⟨i, j, rfl, rfl, hc, q⟩ := h
  obtain ⟨t, rfl⟩ := rx
  obtain ⟨t', rfl⟩ := ry
  exact rule i j t t' s _ _ hc ⟨.int (g i j), H, I.tok _, ⟨_, rfl⟩, q⟩
theorem opI0 {f : Value → Value → Sem Value} {g : Int → Int → Int}
    (rule : ∀ (i j : Int) (t u : Tok) (s : Shared) (Q : Value → Shared → Prop) (E : Value → Shared → Prop), Q (.int (g i j) s.toks) { s with toks := s.toks + 1 } → wpAny (model X.prog X.w) X.A (f (.int i t) (.int j u)) Q E s) :
    OpR X f (rI0 fun i j => .int (g i j)) := by
  intro pins s σ H x y v u Q I rx ry h
  obtain ⟨i, j, rfl, rfl, q⟩ := h
  obtain ⟨t, rfl⟩ := rx
  obtain ⟨t', rfl⟩ := ry
  exact rule i j t t' s _ _ ⟨.int (g i j), H, I.tok _, ⟨_, rfl⟩, q⟩
theorem opB0 {f : Value → Value → Sem Value} {g : Int → Int → Bool}
    (rule : ∀ (i j : Int) (t u : Tok) (s : Shared) (Q : Value → Shared → Prop) (E : Value → Shared → Prop), Q (.bool (g i j)) s → wpAny (model X.prog X.w) X.A (f (.int i t) (.int j u)) Q E s) :
    OpR X f (rI0 fun i j => .bl (g i j)) := by
  intro pins s σ H x y v u Q I rx ry h
  obtain ⟨i, j, rfl, rfl, q⟩ := h
  obtain ⟨t, rfl⟩ := rx
  obtain ⟨t', rfl⟩ := ry
  exact rule i j t t' s _ _ ⟨.bl (g i j), H, I, rfl, q⟩

def CDiv (i j : Int) : Prop := 0 < j ∧ j < 1073741824
def CDivN (i j : Int) : Prop := j ≠ 0 ∧ j.natAbs < 1073741824
def CPow (i j : Int) : Prop := 0 ≤ j ∧ j ≤ 1000000 ∧ i.natAbs < 2 ^ 64
def CMul (i j : Int) : Prop := (-(2 ^ 64) < i ∧ i < 2 ^ 64) ∨ (-(2 ^ 64) < j ∧ j < 2 ^ 64)
theorem CMul.ok {i j : Int} (h : CMul i j) : IntMulOk i j := by
  rcases h with ⟨h1, h2⟩ | ⟨h1, h2⟩
  · exact .of_left (intBits_le_64 h1 h2)
  · exact .of_right (intBits_le_64 h1 h2)
theorem two_pow_nn (k : Nat) : (0 : Int) ≤ 2 ^ k := by
  rw [two_pow_cast]
  exact Int.natCast_nonneg _

theorem op_add : OpR X (binaryOp .Add) (rI0 fun i j => .int (i + j)) := opI0 fun _ _ _ _ _ _ _ q => add_int q
theorem op_sub : OpR X (binaryOp .Sub) (rI0 fun i j => .int (i - j)) := opI0 fun _ _ _ _ _ _ _ q => sub_int q
theorem op_mul : OpR X (binaryOp .Mult) (rI CMul fun i j => .int (i * j)) := opI fun _ _ _ _ _ _ _ hc q => mul_int q hc.ok
/-- // by a positive divisor -/
theorem op_fdiv : OpR X (binaryOp .FloorDiv) (rI CDiv fun i j => .int (i / j)) := opI fun i j _ _ _ _ _ hc q => by
  have h1 : (0 : Int) < j := hc.1
  have h2 : j < 1073741824 := hc.2
  exact floordiv_int (by omega) (by rw [Int.fdiv_eq_ediv_of_nonneg i (by omega)]; exact q) (.inl (PyProof.noPylong_small (by omega)))
/-- % by a positive divisor of any size -/
theorem op_mod : OpR X (binaryOp .Mod) (rI (fun _ j => 0 < j) fun i j => .int (i % j)) := opI fun i j _ _ _ _ _ hc q => by
  have h1 : (0 : Int) < j := hc
  exact mod_int' (by omega) (by rw [Int.fmod_eq_emod_of_nonneg i (by omega)]; exact q)
theorem op_pow : OpR X (binaryOp .Pow) (rI CPow fun i j => .int (i ^ j.toNat)) := opI fun _ _ _ _ _ _ _ hc q => pow_int_small hc.1 hc.2.1 hc.2.2 q
theorem op_shl : OpR X (binaryOp .LShift) (rI CPow fun i j => .int (i * 2 ^ j.toNat)) := opI fun _ _ _ _ _ _ _ hc q => lshift_int_small hc.1 hc.2.1 hc.2.2 q
theorem op_shr : OpR X (binaryOp .RShift) (rI (fun _ j => 0 ≤ j) fun i j => .int (i / 2 ^ j.toNat)) := opI fun i j _ _ _ _ _ hc q =>
  rshift_int hc (by rw [Int.fdiv_eq_ediv_of_nonneg i (two_pow_nn _)]; exact q)
theorem unI {f : Value → Sem Value} {g : Int → Int}
    (rule : ∀ (i : Int) (t : Tok) (s : Shared) (Q : Value → Shared → Prop) (E : Value → Shared → Prop), Q (.int (g i) s.toks) { s with toks := s.toks + 1 } → wpAny (model X.prog X.w) X.A (f (.int i t)) Q E s) :
    UnR X f (rU fun i => .int (g i)) := by
  intro pins s σ H x v Q I rx h
  obtain ⟨i, rfl, q⟩ := h
  obtain ⟨t, rfl⟩ := rx
  exact rule i t s _ _ ⟨.int (g i), H, I.tok _, ⟨_, rfl⟩, q⟩
theorem un_neg : UnR X (unaryOp .USub) (rU fun i => .int (-i)) := unI fun _ _ _ _ _ q => neg_int q
/-! ### bools among ints: n += (a < b) -/
end

/-! ### comparisons -/
/-- the scalars that == tells apart as data does -/
def scal : V → V → Bool
  | .non, .non => true | .non, .int _ => true | .int _, .non => true | .non, .bl _ => true | .bl _, .non => true | .non, .str _ => true | .str _, .non => true
  | .int _, .int _ => true | .bl _, .bl _ => true | .str _, .str _ => true | .byt _, .byt _ => true
  | .int _, .str _ => true | .str _, .int _ => true | .bl _, .str _ => true | .str _, .bl _ => true
  | _, _ => false
def rEq : R2 := fun x y H Q => scal x y = true ∧ Q (.bl (decide (x = y))) H
def rNe : R2 := fun x y H Q => scal x y = true ∧ Q (.bl (!decide (x = y))) H

theorem dec_int {i j : Int} : decide (V.int i = V.int j) = (i == j) := by
  rw [Bool.eq_iff_iff]
  simp
theorem dec_bl {i j : Bool} : decide (V.bl i = V.bl j) = (i == j) := by
  rw [Bool.eq_iff_iff]
  simp
theorem dec_str {i j : Str} : decide (V.str i = V.str j) = (i == j) := by
  rw [Bool.eq_iff_iff]
  simp
theorem dec_byt {i j : Array UInt8} : decide (V.byt i = V.byt j) = (i.toList == j.toList) := by
  rw [Bool.eq_iff_iff]
  cases i
  cases j
  simp

section
variable {X : Cx} {a b c : Expr} {ta tb tc : TE} {pos : Pos}
theorem fin_bl {pins : List (Addr × Obj)} {σ : St} {H : Hp} {s : Shared} {Q : VK} {k k' : Bool} (I : Inv X pins σ H s) (q : Q (.bl k) H) (e : k = k') : EP X pins σ Q (.bool k') s := by
  subst e
  exact ⟨.bl k, H, I, rfl, q⟩
theorem op_eq : OpR X (compareOp .Eq) rEq := by
  intro pins s σ H x y v u Q I rx ry h
  obtain ⟨hs, q⟩ := h
  cases x with
  | non =>
    cases rx
    cases y with
    | non => cases ry; exact PySem.EqNone.eq_none_none (fin_bl I q (by simp))
    | bl j => cases ry; exact PySem.EqNone.eq_none_bool (fin_bl I q (by simp))
    | int j => obtain ⟨t', rfl⟩ := ry; exact PySem.EqNone.eq_none_int (fin_bl I q (by simp))
    | str j => obtain ⟨t', rfl⟩ := ry; exact PySem.EqNone.eq_none_str (fin_bl I q (by simp))
    | _ => exact absurd (show false = true from hs) Bool.false_ne_true
  | bl i =>
    cases rx
    cases y with
    | non => cases ry; exact PySem.EqNone.eq_bool_none (fin_bl I q (by simp))
    | bl j => cases ry; exact eq_bool (fin_bl I q dec_bl)
    | str j => obtain ⟨t', rfl⟩ := ry; exact PySem.EqMixed.eq_bool_str (fin_bl I q (by simp))
    | _ => exact absurd (show false = true from hs) Bool.false_ne_true
  | int i =>
    obtain ⟨t, rfl⟩ := rx
    cases y with
    | non => cases ry; exact PySem.EqNone.eq_int_none (fin_bl I q (by simp))
    | int j => obtain ⟨t', rfl⟩ := ry; exact eq_int (fin_bl I q dec_int)
    | str j => obtain ⟨t', rfl⟩ := ry; exact PySem.EqMixed.eq_int_str (fin_bl I q (by simp))
    | _ => exact absurd (show false = true from hs) Bool.false_ne_true
  | str i =>
    obtain ⟨t, rfl⟩ := rx
    cases y with
    | non => cases ry; exact PySem.EqNone.eq_str_none (fin_bl I q (by simp))
    | bl j => cases ry; exact PySem.EqMixed.eq_str_bool (fin_bl I q (by simp))
    | int j => obtain ⟨t', rfl⟩ := ry; exact PySem.EqMixed.eq_str_int (fin_bl I q (by simp))
    | str j => obtain ⟨t', rfl⟩ := ry; exact eq_str (fin_bl I q dec_str)
    | _ => exact absurd (show false = true from hs) Bool.false_ne_true
  | byt i =>
    obtain ⟨t, rfl⟩ := rx
    cases y with
    | byt j => obtain ⟨t', rfl⟩ := ry; exact PySem.W.eq_bytes (fin_bl I q dec_byt)
    | _ => exact absurd (show false = true from hs) Bool.false_ne_true
  | _ => cases y <;> exact absurd (show false = true from hs) Bool.false_ne_true
theorem op_ne : OpR X (compareOp .NotEq) rNe := by
  intro pins s σ H x y v u Q I rx ry h
  obtain ⟨hs, q⟩ := h
  cases x with
  | non =>
    cases rx
    cases y with
    | non => cases ry; exact PySem.EqNone.ne_none_none (fin_bl I q (by simp))
    | bl j => cases ry; exact PySem.EqNone.ne_none_bool (fin_bl I q (by simp))
    | int j => obtain ⟨t', rfl⟩ := ry; exact PySem.EqNone.ne_none_int (fin_bl I q (by simp))
    | str j => obtain ⟨t', rfl⟩ := ry; exact PySem.EqNone.ne_none_str (fin_bl I q (by simp))
    | _ => exact absurd (show false = true from hs) Bool.false_ne_true
  | bl i =>
    cases rx
    cases y with
    | non => cases ry; exact PySem.EqNone.ne_bool_none (fin_bl I q (by simp))
    | bl j => cases ry; exact ne_bool (fin_bl I q (congrArg not dec_bl))
    | str j => obtain ⟨t', rfl⟩ := ry; exact PySem.EqMixed.ne_bool_str (fin_bl I q (by simp))
    | _ => exact absurd (show false = true from hs) Bool.false_ne_true
  | int i =>
    obtain ⟨t, rfl⟩ := rx
    cases y with
    | non => cases ry; exact PySem.EqNone.ne_int_none (fin_bl I q (by simp))
    | int j => obtain ⟨t', rfl⟩ := ry; exact ne_int (fin_bl I q (congrArg not dec_int))
    | str j => obtain ⟨t', rfl⟩ := ry; exact PySem.EqMixed.ne_int_str (fin_bl I q (by simp))
    | _ => exact absurd (show false = true from hs) Bool.false_ne_true
  | str i =>
    obtain ⟨t, rfl⟩ := rx
    cases y with
    | non => cases ry; exact PySem.EqNone.ne_str_none (fin_bl I q (by simp))
    | bl j => cases ry; exact PySem.EqMixed.ne_str_bool (fin_bl I q (by simp))
    | int j => obtain ⟨t', rfl⟩ := ry; exact PySem.EqMixed.ne_str_int (fin_bl I q (by simp))
    | str j => obtain ⟨t', rfl⟩ := ry; exact ne_str (fin_bl I q (congrArg not dec_str))
    | _ => exact absurd (show false = true from hs) Bool.false_ne_true
  | byt i =>
    obtain ⟨t, rfl⟩ := rx
    cases y with
    | byt j => obtain ⟨t', rfl⟩ := ry; exact PySem.W.ne_bytes (fin_bl I q (congrArg not dec_byt))
    | _ => exact absurd (show false = true from hs) Bool.false_ne_true
  | _ => cases y <;> exact absurd (show false = true from hs) Bool.false_ne_true

theorem op_lt : OpR X (compareOp .Lt) (rI0 fun i j => .bl (decide (i < j))) := opB0 fun _ _ _ _ _ _ _ q => lt_int q
theorem op_le : OpR X (compareOp .LtE) (rI0 fun i j => .bl (decide (i ≤ j))) := opB0 fun _ _ _ _ _ _ _ q => le_int q
theorem op_gt : OpR X (compareOp .Gt) (rI0 fun i j => .bl (decide (j < i))) := opB0 fun _ _ _ _ _ _ _ q => gt_int q
theorem op_ge : OpR X (compareOp .GtE) (rI0 fun i j => .bl (decide (j ≤ i))) := opB0 fun _ _ _ _ _ _ _ q => ge_int q
/-- is, is not of two objects that are tracked lists or instances -/
def isObj : HO → Bool
  | .lst _ => true
  | .ins _ _ _ => true
  | _ => false
theorem obj_there {pins : List (Addr × Obj)} {s : Shared} {σ : St} {H : Hp} {a : Addr} {o : HO} (I : Inv X pins σ H s) (h : H a = some o) (p : isObj o = true) : ∃ ob, s.heap.get? a = some ob ∧ ob.cls ≠ .type "tuple" := by
  cases o with
  | lst xs =>
    obtain ⟨_, its, n, _, e⟩ : xs.length ≤ sizeLine ∧ ∃ (its : List Value) (n : Nat), Vals xs its ∧ s.heap.get? a = some { cls := .type "list", data := .seq its.toArray n } := I.hok a _ h
    exact ⟨_, e, (by show Value.type "list" ≠ .type "tuple"; decide +kernel)⟩
  | ins C dx fs =>
    have x := I.hok a _ h
    obtain ⟨_, _, _, e, _⟩ := x
    exact ⟨_, e, (by show Value.ref C ≠ .type "tuple"; exact fun z => by cases z)⟩
  | _ => exact absurd (show false = true from p) Bool.false_ne_true
/-- two rules for one operation: by cases -/
theorem OpR.or {f : Value → Value → Sem Value} {r r' : R2} (h : OpR X f r) (h' : OpR X f r') : OpR X f (fun x y H Q => r x y H Q ∨ r' x y H Q) := by
  intro pins s σ H x y v u Q I rx ry q
  rcases q with q | q
  · exact h pins s σ H x y v u Q I rx ry q
  · exact h' pins s σ H x y v u Q I rx ry q

theorem nomark (b : Expr) {op : CmpOp} (h : op ≠ .In := by decide) (h2 : op ≠ .NotIn := by decide) : behindInMarks op b = false := by
  have e1 : (op == CmpOp.In) = false := by cases op <;> first | rfl | exact absurd rfl h
  have e2 : (op == CmpOp.NotIn) = false := by cases op <;> first | rfl | exact absurd rfl h2
  cases b <;> simp [behindInMarks, e1, e2]
/-- a comparison as a value; hm: nomark b, or (for in, not in) by with_unfolding_all rfl -/
theorem pe_cmpR {op : CmpOp} {r : R2} (ho : OpR X (compareOp op) r) (ha : PE X a ta) (hb : PE X b tb) (hm : behindInMarks op b = false) : PE X (.Compare a [op] [b] pos) (tOp r ta tb) := by
  intro pins s σ H Q I h
  exact wpAny_Compare1 (binT ha hb I h fun v u s2 x y H2 I2 rx ry q => ho pins s2 σ H2 x y v u Q I2 rx ry q) hm
/-- a reading of a value as a test -/
def tTest (t : TE) : TT := fun σ H Q => t σ H fun x H' => ∃ k, x = .bl k ∧ Q k H'
theorem pt_cmpR {op : CmpOp} {r : R2} (ho : OpR X (compareOp op) r) (ha : PE X a ta) (hb : PE X b tb) (hm : behindInMarks op b = false) : PT X (.Compare a [op] [b] pos) (tTest (tOp r ta tb)) := by
  intro pins s σ H Q I h
  refine wpAny_isTrue_Compare1 (thn (ha pins s σ H _ I h) fun v s1 ⟨x, H1, I1, r1, q1⟩ => thn (hb pins s1 σ H1 _ I1 q1) fun u s2 ⟨y, H2, I2, r2, q2⟩ =>
    thn (ho pins s2 σ H2 x y v u _ I2 r1 r2 q2) fun c s3 ⟨z, H3, I3, r3, k, e, q3⟩ => ?_) hm
  subst e
  cases r3
  exact wpAny_truthy_bool ⟨H3, I3, q3⟩
/-- a op1 b op2 c -/
def tChain (r r' : R2) (ta tb tc : TE) : TE := fun σ H Q => ta σ H fun x H1 => tb σ H1 fun y H2 => r x y H2 fun z H3 => ∃ k, z = .bl k ∧
  (if k = true then tc σ H3 fun w' H4 => r' y w' H4 Q else Q (.bl false) H3)
theorem pe_chain {op op' : CmpOp} {r r' : R2} (ho : OpR X (compareOp op) r) (ho' : OpR X (compareOp op') r') (ha : PE X a ta) (hb : PE X b tb) (hc : PE X c tc)
    (hm : lastMarks [op, op'] [b, c] = false := by with_unfolding_all rfl) : PE X (.Compare a [op, op'] [b, c] pos) (tChain r r' ta tb tc) := by
  intro pins s σ H Q I h
  refine Compare_chain (thn (ha pins s σ H _ I h) fun v s1 ⟨x, H1, I1, r1, q1⟩ => chain_link (thn (hb pins s1 σ H1 _ I1 q1) fun u s2 ⟨y, H2, I2, r2, q2⟩ =>
    thn (ho pins s2 σ H2 x y v u _ I2 r1 r2 q2) fun d s3 ⟨z, H3, I3, r3, k, e, q3⟩ => ?_)) hm
  subst e
  cases r3
  refine wpAny_truthy_bool ?_
  cases k with
  | false => exact ite_ff ⟨.bl false, H3, I3, rfl, q3⟩
  | true => exact ite_tt (chain_last (thn (hc pins s3 σ H3 _ I3 q3) fun w' s4 ⟨z', H4, I4, r4, q4⟩ => ho' pins s4 σ H4 y z' u w' Q I4 r2 r4 q4))
theorem pt_chain {op op' : CmpOp} {r r' : R2} (ho : OpR X (compareOp op) r) (ho' : OpR X (compareOp op') r') (ha : PE X a ta) (hb : PE X b tb) (hc : PE X c tc)
    (hm : lastMarks [op, op'] [b, c] = false := by with_unfolding_all rfl) : PT X (.Compare a [op, op'] [b, c] pos) (tTest (tChain r r' ta tb tc)) := by
  intro pins s σ H Q I h
  refine isTrue_chain (thn (ha pins s σ H _ I h) fun v s1 ⟨x, H1, I1, r1, q1⟩ => test_link (thn (hb pins s1 σ H1 _ I1 q1) fun u s2 ⟨y, H2, I2, r2, q2⟩ =>
    thn (ho pins s2 σ H2 x y v u _ I2 r1 r2 q2) fun d s3 ⟨z, H3, I3, r3, k, e, q3⟩ => ?_)) hm
  subst e
  cases r3
  refine wpAny_truthy_bool ?_
  cases k with
  | false =>
    obtain ⟨k', e', q'⟩ := q3
    cases e'
    exact ite_ff ⟨H3, I3, q'⟩
  | true =>
    refine ite_tt (test_last (thn (hc pins s3 σ H3 _ I3 q3) fun w' s4 ⟨z', H4, I4, r4, q4⟩ => thn (ho' pins s4 σ H4 y z' u w' _ I4 r2 r4 q4) fun d' s5 ⟨z2, H5, I5, r5, k2, e2, q5⟩ => ?_))
    subst e2
    cases r5
    exact wpAny_truthy_bool ⟨H5, I5, q5⟩

/-! ### truth -/
/-- a value's truth by the abstract heap -/
def TruV (K : PySem.W.Frag) (x : V) (H : Hp) (k : Bool) : Prop :=
  match x with
  | .non => k = false
  | .bl b => k = b
  | .int i => k = (i != 0)
  | .str y => y.length ≤ sizeLine ∧ k = ((y.length : Int) != 0)
  | .byt y => y.size ≤ sizeLine ∧ k = ((y.size : Int) != 0)
  | .ref p => (∃ xs, SqL K H p xs ∧ k = !xs.isEmpty) ∨ (∃ xs, SqT K H p xs ∧ k = !xs.isEmpty) ∨ ∃ kvs, H p = some (.dK kvs) ∧ k = !kvs.isEmpty
  | _ => False
theorem line63 : (sizeLine : Nat) < 2 ^ 63 := by rw [sizeLine_eq]; decide
/-! ### strs and bytes -/
def PlainIxT (b : Expr) : Prop := ∀ o i, subscripted b false o i = operate [o, i] (getItem o i)
/-! ### scalar builtins, by CallR -/
theorem vals1 {x : V} {us : List Value} (r : Vals [x] us) : ∃ u, us = [u] ∧ RelV x u := by
  cases r with
  | cons r1 r2 => cases r2; exact ⟨_, rfl, r1⟩
theorem vals2 {x y : V} {us : List Value} (r : Vals [x, y] us) : ∃ u w', us = [u, w'] ∧ RelV x u ∧ RelV y w' := by
  cases r with
  | cons r1 r2 =>
    cases r2 with
    | cons r3 r4 => cases r4; exact ⟨_, _, rfl, r1, r3⟩
theorem call_abs : CallR X (.builtin "abs") (fun xs H Q => ∃ i, xs = [.int i] ∧ Q (.int (if i < 0 then -i else i)) H) := by
  intro pins s σ H xs us Q I r h
  obtain ⟨i, rfl, q⟩ := h
  obtain ⟨u, rfl, t, rfl⟩ := vals1 r
  exact call_abs_int fun u tk => ⟨.int (if i < 0 then -i else i), H, I.tok _, ⟨_, rfl⟩, q⟩
theorem call_max2 (hc : X.calm = true) : CallR X (.builtin "max") (fun xs H Q => ∃ i j, xs = [.int i, .int j] ∧ Q (.int (if j > i then j else i)) H) := by
  intro pins s σ H xs us Q I r h
  obtain ⟨i, j, rfl, q⟩ := h
  obtain ⟨u, w', rfl, ⟨t, rfl⟩, ⟨t', rfl⟩⟩ := vals2 r
  refine max_two_ints (I.ok.hd hc) fun h' tk k => ⟨_, H, I.kept k, ?_, q⟩
  by_cases hj : j > i
  · rw [if_pos hj, if_pos hj]; exact ⟨_, rfl⟩
  · rw [if_neg hj, if_neg hj]; exact ⟨_, rfl⟩
theorem call_min2 (hc : X.calm = true) : CallR X (.builtin "min") (fun xs H Q => ∃ i j, xs = [.int i, .int j] ∧ Q (.int (if j < i then j else i)) H) := by
  intro pins s σ H xs us Q I r h
  obtain ⟨i, j, rfl, q⟩ := h
  obtain ⟨u, w', rfl, ⟨t, rfl⟩, ⟨t', rfl⟩⟩ := vals2 r
  refine min_two_ints (I.ok.hd hc) fun h' tk k => ⟨_, H, I.kept k, ?_, q⟩
  by_cases hj : j < i
  · rw [if_pos hj, if_pos hj]; exact ⟨_, rfl⟩
  · rw [if_neg hj, if_neg hj]; exact ⟨_, rfl⟩
theorem call_int1 : CallR X (.type "int") (fun xs H Q => (∃ i, xs = [.int i] ∧ Q (.int i) H) ∨ ∃ k, xs = [.bl k] ∧ Q (.int (if k then 1 else 0)) H) := by
  intro pins s σ H xs us Q I r h
  rcases h with ⟨i, rfl, q⟩ | ⟨k, rfl, q⟩
  · obtain ⟨u, rfl, t, rfl⟩ := vals1 r
    exact call_int_int ⟨.int i, H, I, ⟨_, rfl⟩, q⟩
  · obtain ⟨u, rfl, r1⟩ := vals1 r
    cases r1
    exact call_int_bool ⟨.int (if k then 1 else 0), H, I.tok _, ⟨_, rfl⟩, q⟩
theorem call_str_int : CallR X (.type "str") (fun xs H Q => ∃ i, xs = [.int i] ∧ i.natAbs.log2 < 1920 ∧ Q (.str (toString i)) H) := by
  intro pins s σ H xs us Q I r h
  obtain ⟨i, rfl, hz, q⟩ := h
  obtain ⟨u, rfl, t, rfl⟩ := vals1 r
  exact PySem.P.str_of_int hz ⟨.str _, H, I.tok _, ⟨_, rfl⟩, q⟩
/-- len of a str, a bytes, a list, a tuple -/
def LenV (K : PySem.W.Frag) (x : V) (H : Hp) (n : Nat) : Prop :=
  match x with
  | .str y => y.length ≤ sizeLine ∧ n = y.length
  | .byt y => y.size ≤ sizeLine ∧ n = y.size
  | .ref p => (∃ xs, SqL K H p xs ∧ n = xs.length) ∨ ∃ xs, SqT K H p xs ∧ n = xs.length
  | _ => False
end
end L2

namespace L2
open PySem PySem.Spec PyProof.Rows

/-! ### an instance, its attributes a map -/
structure ObjM (h : Heap) (x dx C : Addr) (mA : Str → Option Value) : Prop where
  obj : h.get? x = some (PySem.W.instObj C dx)
  ns : h.Ns1 dx mA
  ne : dx ≠ x

theorem lookIn_ns {h : Heap} {dx : Addr} {mA : Str → Option Value} (n : h.Ns1 dx mA) : ∃ od, h.get? dx = some od ∧ ∀ name, PySem.W.lookIn name od = some (mA name) := by
  obtain ⟨o, es, ep, ho, hd, hk, _, hm⟩ := n
  refine ⟨o, ho, fun name => ?_⟩
  have e := hm name
  unfold nsFind findBy at e
  rw [← Array.find?_toList] at e
  unfold PySem.W.lookIn
  rw [hd]
  dsimp only
  split
  · rename_i y q
    rw [q] at e
    exact congrArg some e
  · rename_i q
    rw [q] at e
    have a : es.toList.any (·.refKey) = false := by
      rw [List.any_eq_false]
      intro y hy
      obtain ⟨z, t, hkey⟩ := hk y (Array.mem_toList_iff.mp hy)
      simp [DictEntry.refKey, hkey]
    have a' : ¬ es.toList.any (·.refKey) = true := by rw [a]; exact Bool.false_ne_true
    rw [if_neg a']
    exact congrArg some e

theorem ObjM.look {h : Heap} {x dx C : Addr} {mA : Str → Option Value} (I : ObjM h x dx C mA) : ∃ od, PySem.W.InstAt h x (PySem.W.instObj C dx) C (some od) ∧ ∀ name, PySem.W.lookIn name od = some (mA name) :=
  let ⟨od, ho, hl⟩ := lookIn_ns I.ns
  ⟨od, ⟨I.obj, rfl, rfl, ho⟩, hl⟩

section
variable {prog : Program} {w : World} {A : Around} {E : Value → Shared → Prop} {s : Shared} {K : PySem.W.Frag} {x dx C f : Addr} {mA : Str → Option Value} {name : Str} {v : Value}

theorem get_map {expr : Bool} {Q : Value → Shared → Prop} (X : K.In s.heap) (I : ObjM s.heap x dx C mA) (hg : PySem.W.plainGet K C name = true) (hh : PySem.W.hasDictIn K C = true)
    (ha : PySem.W.findIn K (.ref C) name = some none) (hv : mA name = some v) (hv' : PySem.W.handedIn v = true) (h : Q v { s with toks := s.toks + 1 }) :
    wpAny (model prog w) A (getAttr (.ref x) name expr) Q E s := by
  obtain ⟨od, J, hl⟩ := I.look
  exact PySem.W.get_value X J (PySem.W.plainGet_of hg).1 (PySem.W.findObj_own hh ha rfl (by rw [hl, hv])) hv' h

theorem get_meth {pl : Sem Bool} {Q : Value × List Value → Shared → Prop} (X : K.In s.heap) (I : ObjM s.heap x dx C mA) (hg : PySem.W.plainGet K C name = true)
    (hf : PySem.W.findIn K (.ref C) name = some (some (.ref f))) (ht : PySem.W.isFn K (.ref f) = true) (hv : mA name = none) (h : Q (.ref f, [.ref x]) s) :
    wpAny (model prog w) A (getMethod (.ref x) name pl) Q E s := by
  obtain ⟨od, J, hl⟩ := I.look
  exact PySem.W.method_fn X J (PySem.W.plainGet_of hg).1 (PySem.W.plainGet_of hg).2 hf (beq_iff_eq.mp ht) (by show (PySem.W.lookIn name od).map (·.isSome) = some false; rw [hl, hv]; rfl) h

theorem set_map {ns : List Str} {Q : Unit → Shared → Prop} (X : K.In s.heap) (I : ObjM s.heap x dx C mA)
    (hs : PySem.W.findIn K (.ref C) "__setattr__" = some (some (.builtin "object.__setattr__"))) (hp : PySem.W.plainOver K C = true) (ht : PySem.W.takerIn K C name = some none) (hh : PySem.W.hasDictIn K C = true)
    (hw : PySem.Within mA ns) (hsz : ns.length ≤ sizeLine)
    (h : ∀ h', ObjM h' x dx C (fun y => if y = name then some v else mA y) → Heap.SameBut dx s.heap h' → Q () { s with heap := h', toks := s.toks + 2 }) :
    wpAny (model prog w) A (setAttr (.ref x) name v) Q E s := by
  obtain ⟨od, J, hl⟩ := I.look
  refine PySem.W.set_plain X J hs (PySem.W.osa_open (s := { s with toks := s.toks + 1 }) (r := none) X J hp ht fun b => ?_)
  obtain ⟨cd, hc, hd'⟩ := PySem.W.any_some hh
  have hx : s.heap.get? x = some ⟨.ref C, some dx, .plain, #[]⟩ := I.obj
  refine wpAny_bind (wpAny_pure (wpAny_bind (wpAny_bind (wpAny_loadPart hx (wpAny_bind (PySem.W.Looks.here (s := { s with toks := s.toks + 1 }) (PySem.W.looks_clsIn X hc) ?_))))))
  rw [hd']
  refine wpAny_pure (a := some dx) (wpAny_bind (wpAny_pure (wpAny_bind ?_)))
  refine wpAny_nsSet1 (s := { s with toks := s.toks + 1 }) I.ns fun h' hn2 hs2 => ?_
  obtain ⟨oD, esD, epD, hoD, hdD, hcD⟩ := hn2.count (PySem.Within.cons name v hw)
  refine wpAny_bind (wpAny_lookBehind hoD (by rw [hdD]; exact pastItsLine_dict (Nat.le_trans hcD (by rw [List.length_cons]; omega))) ?_)
  exact wpAny_pure (h _ ⟨(hs2.2 _ (Ne.symm I.ne)).trans I.obj, hn2, I.ne⟩ hs2)

/-- C(..): the dict at the heap's end, the instance behind it; then its __init__ -/
theorem make_map {R : Result → Shared → Prop} {vs : List Value} {kw : List (Str × Value)} (X : K.In s.heap) (hm : PySem.W.makesIn K C = true)
    (hi : PySem.W.findIn K (.ref C) "__init__" = some (some (.ref f))) (hf : PySem.W.typeIn K (.ref f) = some (.type "function"))
    (h : codeAny (model prog w) (A.under (.builtin "type.__call__" ⟨.ref C :: vs, kw⟩)) (.call (.ref f) ⟨.ref (s.heap.objs.size + 1) :: vs, kw⟩) (PySem.W.InitBack (s.heap.objs.size + 1) R)
      { s with heap := (s.heap.push PySem.W.emptyDict).push (PySem.W.instObj C s.heap.objs.size) }) :
    codeAny (model prog w) A (.call (.ref C) ⟨vs, kw⟩) R s := by
  obtain ⟨hh, g, d, t, os⟩ := s
  exact PySem.W.make_core (PySem.W.makes_of X hm) (PySem.W.looks_findIn X hi) (fun self => PySem.W.bind_fn X self hf) (.inl rfl) h
end

/-! ### the attributes as a list of pairs -/
def putF (f : Str) (v : V) : List (Str × V) → List (Str × V)
  | [] => [(f, v)]
  | (g, x) :: r => if g = f then (g, v) :: r else (g, x) :: putF f v r
theorem lookup_putF (f g : Str) (v : V) : ∀ fs : List (Str × V), (putF f v fs).lookup g = if g = f then some v else fs.lookup g
  | [] => by
    show List.lookup g [(f, v)] = _
    by_cases h : g = f
    · have hb : (g == f) = true := beq_iff_eq.mpr h
      simp only [List.lookup, hb, if_pos h]
    · have hb : (g == f) = false := beq_eq_false_iff_ne.mpr h
      simp only [List.lookup, hb, if_neg h]
  | (k, x) :: r => by
    have ih := lookup_putF f g v r
    rw [show putF f v ((k, x) :: r) = (if k = f then (k, v) :: r else (k, x) :: putF f v r) from rfl]
    by_cases hk : k = f
    · rw [if_pos hk]
      by_cases h : g = k
      · have hb : (g == k) = true := beq_iff_eq.mpr h
        simp only [List.lookup, hb, if_pos (h.trans hk)]
      · have hb : (g == k) = false := beq_eq_false_iff_ne.mpr h
        simp only [List.lookup, hb, if_neg (fun e : g = f => h (e.trans hk.symm))]
    · rw [if_neg hk]
      by_cases h : g = k
      · have hb : (g == k) = true := beq_iff_eq.mpr h
        simp only [List.lookup, hb, if_neg (fun e : g = f => hk (h.symm.trans e))]
      · have hb : (g == k) = false := beq_eq_false_iff_ne.mpr h
        simp only [List.lookup, hb]
        exact ih
theorem keys_putF (f : Str) (v : V) : ∀ fs : List (Str × V), f ∈ (putF f v fs).map (·.1) ∧ ∀ g, g ∈ fs.map (·.1) → g ∈ (putF f v fs).map (·.1)
  | [] => ⟨by simp [putF], fun g h => by simp at h⟩
  | (k, x) :: r => by
    obtain ⟨i1, i2⟩ := keys_putF f v r
    rw [show putF f v ((k, x) :: r) = (if k = f then (k, v) :: r else (k, x) :: putF f v r) from rfl]
    by_cases hk : k = f
    · rw [if_pos hk]
      subst hk
      exact ⟨by simp, fun g h => by simpa using h⟩
    · rw [if_neg hk]
      refine ⟨?_, fun g h => ?_⟩
      · rw [List.map_cons]
        exact List.mem_cons_of_mem _ i1
      · rw [List.map_cons] at h ⊢
        rcases List.mem_cons.mp h with e | e
        · exact List.mem_cons.mpr (.inl e)
        · exact List.mem_cons_of_mem _ (i2 g e)
theorem length_putF (f : Str) (v : V) : ∀ fs : List (Str × V), (putF f v fs).length ≤ fs.length + 1
  | [] => by simp [putF]
  | (k, x) :: r => by
    have ih := length_putF f v r
    rw [show putF f v ((k, x) :: r) = (if k = f then (k, v) :: r else (k, x) :: putF f v r) from rfl]
    by_cases hk : k = f
    · rw [if_pos hk, List.length_cons, List.length_cons]; omega
    · rw [if_neg hk, List.length_cons, List.length_cons]; omega

theorem RelO.some_of {v : V} {o : Option Value} (r : RelO (some v) o) : ∃ u, o = some u ∧ RelV v u := by
  cases o with
  | none => exact (show False from r).elim
  | some u => exact ⟨u, rfl, r⟩
theorem RelO.none_of {o : Option Value} (r : RelO none o) : o = none := by
  cases o with
  | none => rfl
  | some u => exact (show False from r).elim
theorem handed_of {v : V} {u : Value} (r : RelV v u) : PySem.W.handedIn u = true := by
  cases v with
  | non => cases (show u = Value.none from r); rfl
  | bl b => cases (show u = Value.bool b from r); rfl
  | int i => obtain ⟨t, e⟩ := (show ∃ t, u = Value.int i t from r); cases e; rfl
  | str x => obtain ⟨t, e⟩ := (show ∃ t, u = Value.str x t from r); cases e; rfl
  | byt b => obtain ⟨t, e⟩ := (show ∃ t, u = Value.bytes b t from r); cases e; rfl
  | flt b => obtain ⟨t, e⟩ := (show ∃ t, u = Value.float b t from r); cases e; rfl
  | ref a => cases (show u = Value.ref a from r); rfl
  | ty n => cases (show u = Value.type n from r); rfl

section
variable {P : Program} {w : World} {H H' : Hp} {h h' : Heap} {a C dx : Addr} {fs fs' : List (Str × V)}
theorem ins_get (hok : HOk P w H h) (e : H a = some (.ins C dx fs)) : ∃ mA, ObjM h a dx C mA ∧ (∀ f, RelO (fs.lookup f) (mA f)) ∧ PySem.Within mA (fs.map (·.1)) ∧ fs.length ≤ 1000 ∧ H dx = some (.own a) := by
  obtain ⟨d, z, ne, ob, mA, n, r, q⟩ := (show ObjOk P w H h a (.ins C dx fs) from hok a _ e)
  exact ⟨mA, ⟨ob, n, ne⟩, r, q, z, d⟩
end

/-! ### what of the text a class must have -/
structure Cls (K : PySem.W.Frag) (C : Addr) : Prop where
  pg : PySem.W.plainGet K C Str.empty = true
  hd : PySem.W.hasDictIn K C = true
  po : PySem.W.plainOver K C = true
  sa : PySem.W.findIn K (.ref C) "__setattr__" = some (some (.builtin "object.__setattr__"))
theorem Cls.get {K : PySem.W.Frag} {C : Addr} (c : Cls K C) (f : Str) : PySem.W.plainGet K C f = true := c.pg
/-- no class of it has the name -/
def NoAttr (K : PySem.W.Frag) (C : Addr) (f : Str) : Prop := PySem.W.findIn K (.ref C) f = some none
theorem NoAttr.taker {K : PySem.W.Frag} {C : Addr} {f : Str} (n : NoAttr K C f) : PySem.W.takerIn K C f = some none := by
  unfold PySem.W.takerIn
  rw [show PySem.W.findIn K (.ref C) f = some none from n]
  rfl
/-- a constant of the class -/
structure Con (K : PySem.W.Frag) (C : Addr) (f : Str) (v : V) (u : Value) : Prop where
  at_ : PySem.W.findIn K (.ref C) f = some (some u)
  rel : RelV v u
  get : PySem.W.specialIn K u "__get__" = some none
  cp : PySem.W.copiedNames.contains f = false
/-- a method: a plain def of the class or of one above it -/
structure Meth (K : PySem.W.Frag) (C : Addr) (m : Str) (f : Addr) : Prop where
  at_ : PySem.W.findIn K (.ref C) m = some (some (.ref f))
  fn : PySem.W.isFn K (.ref f) = true
  kp : PySem.W.keepIn K (.ref f) = true

section
variable {X : Cx} {pins : List (Addr × Obj)} {σ : St} {H : Hp} {s : Shared} {a C dx : Addr} {fs : List (Str × V)} {f : Str} {v : V} {A : Around} {E : Value → Shared → Prop}

theorem getattr_ok {b : Bool} {Q : Value → Shared → Prop} (I : Inv X pins σ H s) (e : H a = some (.ins C dx fs)) (c : Cls X.K C) (n : NoAttr X.K C f) (l : fs.lookup f = some v)
    (h : ∀ u s', Inv X pins σ H s' → RelV v u → Q u s') : wpAny (model X.prog X.w) A (getAttr (.ref a) f b) Q E s := by
  obtain ⟨mA, O, r, _, _, _⟩ := ins_get I.hok e
  obtain ⟨u, hu, ru⟩ := RelO.some_of (v := v) (o := mA f) (by rw [← l]; exact r f)
  exact get_map I.kIn O (c.get f) c.hd n hu (handed_of ru) (h u _ (I.tok _) ru)

theorem getmeth_ok {m : Str} {g : Addr} {pl : Sem Bool} {Q : Value × List Value → Shared → Prop} (I : Inv X pins σ H s) (e : H a = some (.ins C dx fs)) (c : Cls X.K C) (k : Meth X.K C m g) (l : fs.lookup m = none)
    (h : Q (.ref g, [.ref a]) s) : wpAny (model X.prog X.w) A (getMethod (.ref a) m pl) Q E s := by
  obtain ⟨mA, O, r, _, _, _⟩ := ins_get I.hok e
  have hn : mA m = none := RelO.none_of (by rw [← l]; exact r m)
  exact get_meth I.kIn O (c.get m) k.at_ k.fn hn h

theorem setattr_ok {y : V} {u : Value} {Q : Unit → Shared → Prop} (I : Inv X pins σ H s) (e : H a = some (.ins C dx fs)) (c : Cls X.K C) (n : NoAttr X.K C f) (hl : fs.length < 1000) (ry : RelV y u)
    (h : ∀ s', Inv X pins σ (upd H a (.ins C dx (putF f y fs))) s' → Q () s') : wpAny (model X.prog X.w) A (setAttr (.ref a) f u) Q E s := by
  obtain ⟨mA, O, r, wi, _, ho⟩ := ins_get I.hok e
  have hz : (fs.map (·.1)).length ≤ sizeLine := by rw [List.length_map, sizeLine_eq]; omega
  refine set_map I.kIn O c.sa c.po n.taker c.hd wi hz fun h' O' sb => h _ ?_
  have hd : ∃ o, h'.get? dx = some o := let ⟨o, _, _, e', _⟩ := O'.ns; ⟨o, e'⟩
  refine I.write (x := a) (e := dx) (by rw [e]; exact True.intro) (.inr ho) (fun b q hb z => (sb.2 b hb).trans z) hd ?_
  refine ⟨by rw [upd_ne O.ne]; exact ho, ?_, O.ne, O'.obj, _, O'.ns, fun g => ?_, fun g hg => ?_⟩
  · have := length_putF f y fs; omega
  · show RelO ((putF f y fs).lookup g) (if g = f then some u else mA g)
    rw [lookup_putF]
    by_cases q : g = f
    · rw [if_pos q, if_pos q]; exact ry
    · rw [if_neg q, if_neg q]; exact r g
  · by_cases q : g = f
    · rw [q]; exact (keys_putF f y fs).1
    · refine (keys_putF f y fs).2 g (wi g fun z => hg ?_)
      show (if g = f then some u else mA g) = none
      rw [if_neg q]; exact z

/-- a new instance, tracked, without attributes -/
theorem Inv.made (I : Inv X pins σ H s) : Inv X pins σ (upd (upd H s.heap.objs.size (.own (s.heap.objs.size + 1))) (s.heap.objs.size + 1) (.ins C s.heap.objs.size []))
    { s with heap := (s.heap.push PySem.W.emptyDict).push (PySem.W.instObj C s.heap.objs.size) } := by
  have e1 : (s.heap.push PySem.W.emptyDict).get? s.heap.objs.size = some PySem.W.emptyDict := Heap.get?_push_size s.heap rfl
  have e2 : ((s.heap.push PySem.W.emptyDict).push (PySem.W.instObj C s.heap.objs.size)).get? (s.heap.objs.size + 1) = some (PySem.W.instObj C s.heap.objs.size) := by
    have := Heap.get?_push_size (s.heap.push PySem.W.emptyDict) (o := PySem.W.instObj C s.heap.objs.size) rfl
    rwa [Heap.size_push] at this
  have e3 : (s.heap.push PySem.W.emptyDict).Ns s.heap.objs.size (fun _ => none) := ⟨PySem.W.emptyDict, #[], _, e1, rfl, (fun e he => absurd he (by simp)), fun _ => rfl⟩
  have I1 := I.laid (a := s.heap.objs.size) (o := .own (s.heap.objs.size + 1)) (h' := s.heap.push PySem.W.emptyDict) (t' := s.toks) (fun b u q => Heap.get?_push_of_some _ q) (Nat.le_refl _) ⟨_, e1⟩
  refine I1.laid (a := s.heap.objs.size + 1) (o := .ins C s.heap.objs.size []) (t' := s.toks) (fun b u q => Heap.get?_push_of_some _ q) (Nat.le_of_eq (Heap.size_push _ _)) ?_
  have ne : s.heap.objs.size ≠ s.heap.objs.size + 1 := Nat.ne_of_lt (Nat.lt_succ_self _)
  refine ⟨by rw [upd_ne ne, upd_same], Nat.zero_le _, ne, e2, fun _ => none, (Heap.Ns1.of_empty e3).at fun o q => Heap.get?_push_of_some _ q, fun _ => True.intro, fun y hy => absurd rfl hy⟩

/-- e.f where nothing but the object is asked: through attributeBase (super) and the last hold -/
theorem attr_of {prog : Program} {w : World} {env : Env} {e : Expr} {f : Str} {pos : Pos} {s : Shared} {Q : Value → Shared → Prop} (hb : attributeBase e f env (eval e env) = eval e env)
    (h : wpAny (model prog w) A (eval e env) (fun o s₁ => wpAny (model prog w) A (getAttr o f true) Q E s₁) E s) : wpAny (model prog w) A (eval (.Attribute e f pos) env) Q E s :=
  Attribute_any_ h (by rw [arm_eval_Attribute, hb])
end

/-! ### readings and rules -/
/-- e.f, an attribute of the instance -/
def tFld (K : PySem.W.Frag) (ta : TE) (f : Str) : TE := fun σ H Q => ta σ H fun x H1 => ∃ a C dx fs v, x = .ref a ∧ H1 a = some (.ins C dx fs) ∧ Cls K C ∧ NoAttr K C f ∧ fs.lookup f = some v ∧ Q v H1
/-- e.f, a constant of the class -/
def tCon (K : PySem.W.Frag) (ta : TE) (f : Str) : TE := fun σ H Q => ta σ H fun x H1 => ∃ a C dx fs v u, x = .ref a ∧ H1 a = some (.ins C dx fs) ∧ Cls K C ∧ Con K C f v u ∧ fs.lookup f = none ∧ Q v H1
/-- e.f = value -/
def sFld (K : PySem.W.Frag) (ta tv : TE) (f : Str) : TS := fun D σ H => tv σ H fun y H1 => ta σ H1 fun x H2 => ∃ a C dx fs, x = .ref a ∧ H2 a = some (.ins C dx fs) ∧ Cls K C ∧ NoAttr K C f ∧ fs.length < 1000 ∧
  D.nx σ (upd H2 a (.ins C dx (putF f y fs)))
/-- an augmented operator on two values -/
def InOp (X : Cx) (op : Operator) (rd : V → V → Hp → VK → Prop) : Prop :=
  ∀ (pins : List (Addr × Obj)) (s : Shared) (σ : St) (H : Hp) (x y : V) (u v : Value) (Q : VK), Inv X pins σ H s → RelV x u → RelV y v → rd x y H Q → wpAny (model X.prog X.w) X.A (inplaceOp op u v) (EP X pins σ Q) X.xe s
/-- e.f op= value -/
def sFldAug (K : PySem.W.Frag) (ta tv : TE) (rd : V → V → Hp → VK → Prop) (f : Str) : TS := fun D σ H => ta σ H fun x H1 => ∃ a C dx fs v, x = .ref a ∧ H1 a = some (.ins C dx fs) ∧ Cls K C ∧ NoAttr K C f ∧ fs.lookup f = some v ∧
  tv σ H1 fun y H2 => rd v y H2 fun z H3 => ∃ dx' fs', H3 a = some (.ins C dx' fs') ∧ fs'.length < 1000 ∧ D.nx σ (upd H3 a (.ins C dx' (putF f z fs')))

section
variable {X : Cx} {o e value : Expr} {f : Str} {pos pos' tpos : Pos} {ta tv : TE}
theorem pe_fld (he : PE X e ta) (hb : attributeBase e f X.env (eval e X.env) = eval e X.env) : PE X (.Attribute e f pos) (tFld X.K ta f) := by
  intro pins s σ H Q I h
  refine attr_of hb (thn (he pins s σ H _ I h) fun u s1 ⟨x, H1, I1, rx, a, C, dx, fs, v, ex, ea, c, n, l, q⟩ => ?_)
  subst ex
  obtain rfl : u = Value.ref a := rx
  exact getattr_ok I1 ea c n l fun u' s2 I2 ru => ⟨v, H1, I2, ru, q⟩
theorem ps_fld (ha : PE X o ta) (hv : PE X value tv) (hs : swapsWith value (some (.Attribute o f pos')) pos.line X.env = pure false) : PS X (.Assign [.Attribute o f pos'] value pos) (sFld X.K ta tv f) := by
  intro pins s σ H D I h
  refine plainObj_wpAny_Assign_Attribute (thn (hv pins s σ H _ I h) fun u s1 ⟨y, H1, I1, ry, q⟩ => thn (ha pins s1 σ H1 _ I1 q) fun ov s2 ⟨x, H2, I2, rx, a, C, dx, fs, ex, ea, c, n, l, q2⟩ => ?_) hs
  subst ex
  obtain rfl : ov = Value.ref a := rx
  exact setattr_ok I2 ea c n l ry fun s3 I3 => ⟨σ, _, I3, q2⟩
def rAdd : V → V → Hp → VK → Prop := fun x y H Q => ∃ i j, x = .int i ∧ y = .int j ∧ Q (.int (i + j)) H
def rSub : V → V → Hp → VK → Prop := fun x y H Q => ∃ i j, x = .int i ∧ y = .int j ∧ Q (.int (i - j)) H
end

/-! ### isinstance -/
section
variable {X : Cx} {pins : List (Addr × Obj)} {σ : St} {H : Hp} {s : Shared} {A : Around} {E : Value → Shared → Prop} {Q : Value → Shared → Prop} {c : Value} {b : Bool}
/-- the type of a value, as the fragment's deciders take it; for an instance its class -/
inductive TyOf (K : PySem.W.Frag) (H : Hp) : V → Value → Prop where
  | non : TyOf K H .non (.type "NoneType")
  | bl (x : Bool) : TyOf K H (.bl x) (.type "bool")
  | int (i : Int) : TyOf K H (.int i) (.type "int")
  | str (x : Str) : TyOf K H (.str x) (.type "str")
  | flt (x : UInt64) : TyOf K H (.flt x) (.type "float")
  | lst {a : Addr} {xs : List V} (e : H a = some (.lst xs)) : TyOf K H (.ref a) (.type "list")
  | frz {a : Addr} {o : Obj} {xs : List V} (e : H a = some (.frz o (.lst xs))) : TyOf K H (.ref a) (.type "list")
  | tup {a : Addr} {xs : List V} (e : H a = some (.tup xs)) : TyOf K H (.ref a) (.type "tuple")
  | dK {a : Addr} {kvs : List (Key × V)} (e : H a = some (.dK kvs)) : TyOf K H (.ref a) (.type "dict")
  | dT {a : Addr} {kvs : List (List Key × V)} (e : H a = some (.dT kvs)) : TyOf K H (.ref a) (.type "dict")
  | ins {a C dx : Addr} {fs : List (Str × V)} (e : H a = some (.ins C dx fs)) (cl : Cls K C) (ha : PySem.W.findIn K (.ref C) "__class__" = some (some (.builtin "object.__class__")))
      (hn : PySem.W.specialIn K (.builtin "object.__class__") "__get__" = some (some (.builtin "getset_descriptor.__get__"))) (htk : PySem.W.takesIn K (.builtin "object.__class__") = some true)
      (hm : PySem.W.mroIn K C (.type "object") = some true) : TyOf K H (.ref a) (.ref C)
/-- isinstance(x, c) for one class c, a built-in or an own one: kitOne's answer -/
theorem isinst_ok {x : V} {u t : Value} (I : Inv X pins σ H s) (rx : RelV x u) (ty : TyOf X.K H x t) (e : PySem.W.kitOne X.K t c = some b) (h : ∀ tk, Q (.bool b) { s with toks := tk }) :
    wpAny (model X.prog X.w) A (call (.builtin "isinstance") [u, c]) Q E s := by
  cases ty with
  | non => cases (show u = Value.none from rx); exact PySem.W.kia_one PySem.W.kitx_none I.kIn True.intro e (fun z => nomatch z) h
  | bl y => cases (show u = Value.bool y from rx); exact PySem.W.kia_one PySem.W.kitx_bool I.kIn True.intro e (fun z => nomatch z) h
  | int i => obtain ⟨t, q⟩ := (show ∃ t, u = Value.int i t from rx); cases q; exact PySem.W.kia_one PySem.W.kitx_int I.kIn True.intro e (fun z => nomatch z) h
  | str y => obtain ⟨t, q⟩ := (show ∃ t, u = Value.str y t from rx); cases q; exact PySem.W.kia_one PySem.W.kitx_str I.kIn True.intro e (fun z => nomatch z) h
  | flt y => obtain ⟨t, q⟩ := (show ∃ t, u = Value.float y t from rx); cases q; exact PySem.W.kia_one PySem.W.kitx_float I.kIn True.intro e (fun z => nomatch z) h
  | @lst a xs ea =>
    cases (show u = Value.ref a from rx)
    obtain ⟨_, _, n, _, h1⟩ := (show ObjOk X.prog X.w H s.heap a (.lst xs) from I.hok a _ ea)
    exact PySem.W.kia_one PySem.W.kitx_list I.kIn ⟨_, h1, rfl⟩ e (fun z => nomatch z) h
  | @frz a ob xs ea =>
    cases (show u = Value.ref a from rx)
    obtain ⟨_, _, _, n, _, h1⟩ := (show ObjOk X.prog X.w H s.heap a (.frz ob (.lst xs)) from I.hok a _ ea)
    exact PySem.W.kia_one PySem.W.kitx_list I.kIn ⟨_, h1, rfl⟩ e (fun z => nomatch z) h
  | @tup a xs ea =>
    cases (show u = Value.ref a from rx)
    obtain ⟨_, _, _, p⟩ := (show ObjOk X.prog X.w H s.heap a (.tup xs) from I.hok a _ ea)
    obtain ⟨o, h1, h2, _⟩ := p
    exact PySem.W.kia_one PySem.W.kitx_tuple I.kIn ⟨o, h1, h2⟩ e (fun z => nomatch z) h
  | @dK a kvs ea =>
    cases (show u = Value.ref a from rx)
    obtain ⟨_, _, vs, _, p⟩ := (show ObjOk X.prog X.w H s.heap a (.dK kvs) from I.hok a _ ea)
    obtain ⟨o, es, ep, h1, h2, _⟩ := p
    exact PySem.W.kia_one PySem.W.kitx_dict I.kIn ⟨o, h1, h2.1⟩ e (fun z => nomatch z) h
  | @dT a kvs ea =>
    cases (show u = Value.ref a from rx)
    obtain ⟨_, _, xs, _, o, es, ep, h1, h2, _⟩ := (show ObjOk X.prog X.w H s.heap a (.dT kvs) from I.hok a _ ea)
    exact PySem.W.kia_one PySem.W.kitx_dict I.kIn ⟨o, h1, h2.1⟩ e (fun z => nomatch z) h
  | @ins a C dx fs ea cl ha hn htk hm =>
    cases (show u = Value.ref a from rx)
    obtain ⟨mA, O, _⟩ := ins_get I.hok ea
    obtain ⟨od, J, _⟩ := O.look
    exact PySem.W.kia_one (PySem.W.kitx_own (cl.get _) cl.hd ha hn htk hm) I.kIn J e (fun z => nomatch z) h
end
end L2

namespace L2
open PySem PySem.Spec PyProof.Rows

/-! ### room -/
structure Room (k : Nat) (A : Around) : Prop where
  hd : A.handled = none
  dp : A.depth + 3 * k + 5 < recursionLimit
  un : A.units + 16 * k + 200 < cLine
  gd : A.guards = some []
theorem Room.mono {j k : Nat} {A : Around} (r : Room k A) (h : j ≤ k) : Room j A := ⟨r.hd, by have := r.dp; omega, by have := r.un; omega, r.gd⟩
theorem Room.deeper {k : Nat} {A : Around} (r : Room (k + 1) A) (env : Env) : Room k (A.deeper env) :=
  ⟨r.hd, by have := r.dp; show A.depth + 1 + 3 * k + 5 < _; omega, by have := r.un; show A.units + 3 + 16 * k + 200 < _; omega, r.gd⟩
theorem Room.in1 {k : Nat} {A : Around} (r : Room (k + 1) A) : Room k A.in1 :=
  ⟨r.hd, by have := r.dp; show A.depth + 3 * k + 5 < _; omega, by have := r.un; show A.units + 1 + 16 * k + 200 < _; omega, r.gd⟩
theorem make_depth {A : Around} {C : Addr} {us : List Value} {kw : List (Str × Value)} : (A.under (.builtin "type.__call__" ⟨.ref C :: us, kw⟩)).depth = A.depth + 1 := by
  first | rfl | simp [Around.under, Code.weight, Code.isCreation, Code.isGuard, Code.isCaller, Code.frames, Code.isFrame, guardIds]
theorem make_units {A : Around} {C : Addr} {us : List Value} {kw : List (Str × Value)} : (A.under (.builtin "type.__call__" ⟨.ref C :: us, kw⟩)).units = A.units + 1 := by
  first | rfl | simp [Around.under, Code.cUnits, Code.frames, Code.isFrame]
theorem Room.make {k : Nat} {A : Around} (r : Room (k + 1) A) (C : Addr) (us : List Value) (kw : List (Str × Value)) : Room k (A.under (.builtin "type.__call__" ⟨.ref C :: us, kw⟩)) :=
  ⟨r.hd, by have := r.dp; rw [make_depth]; omega, by have := r.un; rw [make_units]; omega, r.gd⟩
theorem Room.depth {k : Nat} {A : Around} (r : Room k A) : A.depth < recursionLimit := by have := r.dp; omega
theorem Room.units {k : Nat} {A : Around} (r : Room k A) : A.units + 64 < cLine := by have := r.un; omega
/-! ### argument lists and displays -/
def tNil : TA := fun _ H Q => Q [] H
def tCons (ta : TE) (tr : TA) : TA := fun σ H Q => ta σ H fun x H1 => tr σ H1 fun xs H2 => Q (x :: xs) H2
section
variable {X : Cx} {e : Expr} {es : List Expr} {te : TE} {t : TA} {pos : Pos}
theorem pa_nil : PA X [] tNil := fun _ _ _ _ H Q I h => Calls.spliced_nil ⟨[], H, I, .nil, h⟩
theorem pa_cons (ha : PE X e te) (hr : PA X es t) (hs : starEach (e :: es) X.env = (false, eval e X.env) :: starEach es X.env := by rfl) : PA X (e :: es) (tCons te t) := by
  intro pos pins s σ H Q I h
  rw [hs]
  show wpAny _ _ (spliced ((false, eval e X.env) :: backTo pos (starEach es X.env))) _ _ s
  refine Calls.spliced_cons (thn (ha pins s σ H _ I h) fun u s1 ⟨x, H1, I1, r1, q1⟩ => ?_)
  exact thn (hr pos pins s1 σ H1 _ I1 q1) fun us s2 ⟨xs, H2, I2, r2, q2⟩ => ⟨x :: xs, H2, I2, .cons r1 r2, q2⟩

/-- a tuple, a list of written items -/
def tTup (t : TA) : TE := fun σ H Q => t σ H fun xs H1 => xs.length ≤ sizeLine ∧ ∀ p, H1 p = none → Q (.ref p) (upd H1 p (.tup xs))
def tLst (t : TA) : TE := fun σ H Q => t σ H fun xs H1 => xs.length ≤ sizeLine ∧ ∀ p, H1 p = none → Q (.ref p) (upd H1 p (.lst xs))
theorem pe_tup {x1} (h : PA X es t) : PE X (.Tuple es x1 pos) (tTup t) := by
  intro pins s σ H Q I hq
  refine wpAny_Tuple_spliced (thn (h pos pins s σ H _ I hq) fun us s1 ⟨xs, H1, I1, r, z, q⟩ => ⟨by rw [← r.length]; exact z, ?_⟩)
  have hf : H1 s1.heap.objs.size = none := I1.hok.fresh (Nat.le_refl _)
  refine ⟨.ref s1.heap.objs.size, upd H1 s1.heap.objs.size (.tup xs), I1.laid (t' := s1.toks) (fun b u e => Heap.get?_push_of_some _ e) (Nat.le_refl _) ?_, rfl, q _ hf⟩
  exact ⟨z, us, r, ⟨_, Heap.get?_push_size _ rfl, rfl, _, rfl⟩⟩
theorem pe_lst (h : PA X es t) : PE X (.List es pos) (tLst t) := by
  intro pins s σ H Q I hq
  refine wpAny_List_spliced (thn (h pos pins s σ H _ I hq) fun us s1 ⟨xs, H1, I1, r, z, q⟩ => ⟨by rw [← r.length]; exact z, ?_⟩)
  have hf : H1 s1.heap.objs.size = none := I1.hok.fresh (Nat.le_refl _)
  refine ⟨.ref s1.heap.objs.size, upd H1 s1.heap.objs.size (.lst xs), I1.laid (t' := s1.toks) (fun b u e => Heap.get?_push_of_some _ e) (Nat.le_refl _) ?_, rfl, q _ hf⟩
  exact ⟨z, us, 0, r, Heap.get?_push_size _ rfl⟩
end

/-! ### what a def promises -/
/-- a def's promise: the bound arguments in the parameters' order, the heap, the wanted end, the wanted exception -/
abbrev Sp := List V → Hp → VK → XK → Prop
/-- how an exception lies behind a call (file 08 gives it): the callers' frames, abstract heap and state ahead of the call, the wish, the exception, the state -/
abbrev CXT := List Env → Hp → Shared → XK → Value → Shared → Prop

/-- the state at a call -/
structure Env0 (P : Program) (w : World) (K : PySem.W.Frag) (mg : Str → Option Value) (base : Heap) (A : Around) (outer : List Env) (s : Shared) (H : Hp) : Prop where
  frames : A.frames = some outer
  mod : Mod K mg base
  bs : ∀ b o, base.get? b = some o → s.heap.get? b = some o ∧ H b = none
  bsz : base.objs.size ≤ s.heap.objs.size
  funs : s.heap.FunFrames base outer
  frf : ∀ b ∈ frs outer, H b = none
  hok : HOk P w H s.heap
  bare : AllBare s.gens
/-- a call's end -/
def CE (outer : List Env) (P : Program) (w : World) (H : Hp) (s : Shared) (Q : VK) (u : Value) (s' : Shared) : Prop :=
  ∃ v H', s'.os = s.os ∧ AllBare s'.gens ∧ Un (frs outer) [] H H' s.heap s'.heap ∧ HOk P w H' s'.heap ∧ RelV v u ∧ Q v H'
def CR (CX : CXT) (outer : List Env) (P : Program) (w : World) (H : Hp) (s : Shared) (Q : VK) (E : XK) (r : Result) (s' : Shared) : Prop :=
  match r with
  | .ok (.ret u) => CE outer P w H s Q u s'
  | .ok _ => False
  | .error e => CX outer H s E e s'
structure FnOk (P : Program) (w : World) (K : PySem.W.Frag) (mg : Str → Option Value) (base : Heap) (CX : CXT) (k : Nat) (f : Addr) (fd : FuncData) (ps : List Str) (sp : Sp) : Prop where
  len : ∀ vs H Q E, sp vs H Q E → vs.length = ps.length
  run : ∀ (A : Around) (outer : List Env) (s : Shared) (H : Hp) (args : Args) (us : List Value) (vs : List V) (Q : VK) (E : XK), Room k A → Env0 P w K mg base A outer s H → BindsTo s fd args (ps.zip us) → Vals vs us → sp vs H Q E →
    codeAny (model P w) A (.call (.ref f) args) (CR CX outer P w H s Q E) s
theorem FnOk.mono {P : Program} {w : World} {K : PySem.W.Frag} {mg : Str → Option Value} {base : Heap} {CX : CXT} {j k : Nat} {f : Addr} {fd : FuncData} {ps : List Str} {sp : Sp} (F : FnOk P w K mg base CX j f fd ps sp) (h : j ≤ k) :
    FnOk P w K mg base CX k f fd ps sp := ⟨F.len, fun A outer s H args us vs Q E hr => F.run A outer s H args us vs Q E (hr.mono h)⟩
/-- a weaker promise -/
theorem FnOk.imp {P : Program} {w : World} {K : PySem.W.Frag} {mg : Str → Option Value} {base : Heap} {CX : CXT} {k : Nat} {f : Addr} {fd : FuncData} {ps : List Str} {sp sp' : Sp} (F : FnOk P w K mg base CX k f fd ps sp)
    (h : ∀ vs H Q E, sp' vs H Q E → sp vs H Q E) : FnOk P w K mg base CX k f fd ps sp' :=
  ⟨fun vs H Q E q => F.len vs H Q E (h _ _ _ _ q), fun A outer s H args us vs Q E hr he hb hv hs => F.run A outer s H args us vs Q E hr he hb hv (h _ _ _ _ hs)⟩

theorem Env0.make {P : Program} {w : World} {K : PySem.W.Frag} {mg : Str → Option Value} {base : Heap} {A : Around} {outer : List Env} {s : Shared} {H : Hp} (e : Env0 P w K mg base A outer s H) (C : Addr) (us : List Value) (kw : List (Str × Value)) :
    Env0 P w K mg base (A.under (.builtin "type.__call__" ⟨.ref C :: us, kw⟩)) outer s H := ⟨by first | exact e.frames | (simpa [Around.under, Code.envs, Code.isFrame, pushEnvs] using e.frames), e.mod, e.bs, e.bsz, e.funs, e.frf, e.hok, e.bare⟩
theorem Env0.in1 {P : Program} {w : World} {K : PySem.W.Frag} {mg : Str → Option Value} {base : Heap} {A : Around} {outer : List Env} {s : Shared} {H : Hp} (e : Env0 P w K mg base A outer s H) :
    Env0 P w K mg base A.in1 outer s H := ⟨e.frames, e.mod, e.bs, e.bsz, e.funs, e.frf, e.hok, e.bare⟩

section
variable {X : Cx} {pins : List (Addr × Obj)} {σ : St} {H : Hp} {s s' : Shared}
/-- from a body: what a callee wants -/
theorem Inv.env0 (I : Inv X pins σ H s) : Env0 X.prog X.w X.K X.mg X.base X.A X.stack s H :=
  ⟨I.ok.frames, I.ok.mod, I.bs, Nat.le_trans I.ok.bsz I.sz, I.stack, I.stkFree, I.hok, I.bare⟩
/-- behind a call -/
theorem Inv.after {Q : VK} {u : Value} (I : Inv X pins σ H s) (h : CE X.stack X.prog X.w H s Q u s') : EP X pins σ Q u s' := by
  obtain ⟨v, H', os, bare, un, hok, r, q⟩ := h
  obtain ⟨hh, g, d, t, os'⟩ := s'
  obtain rfl : os' = s.os := os
  exact ⟨v, H', I.call (h' := hh) (g' := g) (d' := d) (t' := t) (ch := []) un hok bare (fun b z => absurd z (by simp)), r, q⟩
end

/-! ### calls -/
/-- f(..): the written arguments, then the defaults dvs; E: what is wanted of an exception -/
def tCall (sp : Sp) (dvs : List V) (E : XK) (t : TA) : TE := fun σ H Q => t σ H fun vs H1 => sp (vs ++ dvs) H1 Q E
/-- o.m(..) of an instance of the class at C -/
def tMeth (C : Addr) (m : Str) (sp : Sp) (dvs : List V) (E : XK) (ta : TE) (t : TA) : TE := fun σ H Q => ta σ H fun x H1 => ∃ a dx fs, x = .ref a ∧ H1 a = some (.ins C dx fs) ∧ fs.lookup m = none ∧
  t σ H1 fun vs H2 => sp (x :: (vs ++ dvs)) H2 Q E
/-- C(..): a new instance and its dict, then __init__ -/
def tMake (C : Addr) (sp : Sp) (dvs : List V) (E : XK) (t : TA) : TE := fun σ H Q => t σ H fun vs H1 => ∀ x dx, H1 x = none → H1 dx = none → dx ≠ x →
  sp (.ref x :: (vs ++ dvs)) (upd (upd H1 dx (.own x)) x (.ins C dx [])) (fun v H2 => v = .non ∧ Q (.ref x) H2) E

/-- how the parameters are bound: us the positional arguments, kw the keywords' values by name, ds the defaults that fill up -/
def Binds (K : PySem.W.Frag) (fd : FuncData) (ps : List Str) (ds : List Value) : Prop :=
  ∀ (s : Shared) (us : List Value), K.In s.heap → (us ++ ds).length = ps.length → BindsTo s fd ⟨us, []⟩ (ps.zip (us ++ ds))
/-- every parameter is given -/
theorem Binds.all {K : PySem.W.Frag} {fd : FuncData} {ps : List Str} (h : ∀ us : List Value, us.length = ps.length → bindArgs fd ⟨us, []⟩ = pure (ps.zip us)) : Binds K fd ps [] := fun s us _ hl => by
  rw [List.append_nil] at hl ⊢
  exact .of_eq (h us hl)

/-- an exception of a callee reaches what this body wants of exceptions -/
def Passes (CX : CXT) (X : Cx) (E : XK) : Prop := ∀ (pins : List (Addr × Obj)) (σ : St) (H : Hp) (s : Shared) (e : Value) (s' : Shared), Inv X pins σ H s → CX X.stack H s E e s' → X.xe e s'

section
variable {X : Cx} {CX : CXT} {k : Nat} {f C : Addr} {fd : FuncData} {ps : List Str} {sp : Sp} {dvs : List V} {ds : List Value} {E : XK} {x m : Str} {p pos apos : Pos} {e o : Expr} {es : List Expr} {ta : TE} {t : TA}

/-- the callee runs -/
theorem run_fn {pins : List (Addr × Obj)} {σ : St} {H : Hp} {s : Shared} {Q : VK} {us : List Value} {vs : List V} (F : FnOk X.prog X.w X.K X.mg X.base CX k f fd ps sp) (hr : Room k X.A) (hb : Binds X.K fd ps ds) (hd : Vals dvs ds) (hx : Passes CX X E)
    (I : Inv X pins σ H s) (r : Vals vs us) (h : sp (vs ++ dvs) H Q E) : wpAny (model X.prog X.w) X.A (call (.ref f) us) (EP X pins σ Q) X.xe s := by
  have r2 : Vals (vs ++ dvs) (us ++ ds) := r.append hd
  have hl : (us ++ ds).length = ps.length := by rw [← r2.length]; exact F.len _ _ _ _ h
  refine wpAny_call (codeAny_mono (F.run X.A X.stack s H ⟨us, []⟩ (us ++ ds) (vs ++ dvs) Q E hr I.env0 (hb s us I.kIn hl) r2 h) fun r s' hq => ?_)
  cases r with
  | error e => exact hx pins σ H s e s' I hq
  | ok fl =>
    cases fl with
    | ret u => exact I.after hq
    | next => exact False.elim hq
    | brk => exact False.elim hq
    | cont => exact False.elim hq

theorem pe_call (F : FnOk X.prog X.w X.K X.mg X.base CX k f fd ps sp) (hr : Room k X.A) (hg : Gl X x) (hm : X.mg x = some (.ref f)) (hk : PySem.W.keepIn X.K (.ref f) = true) (hb : Binds X.K fd ps ds) (hd : Vals dvs ds) (hx : Passes CX X E)
    (ha : PA X (e :: es) t) (hdb : (x == ("__debug__" : Str)) = false := by decide) (he : starEach (e :: es) X.env = (false, eval e X.env) :: starEach es X.env := by rfl) (hpl : (backTo pos (starEach es X.env)).any (·.1) = false := by rfl) :
    PE X (.Call (.Name x p) (e :: es) [] pos) (tCall sp dvs E t) := by
  intro pins s σ H Q I h
  refine wpAny_Call_Name_kw (ld_glob I hg hm ?_ hdb)
  refine PySem.W.callWith_K (h₀ := X.base) I.ok.mod.kin hk (thn (ha pos pins s σ H _ I h) fun us s1 ⟨vs, H1, I1, r, q⟩ => ⟨I1.kIn, ?_⟩) he hpl
  exact run_fn F hr hb hd hx I1 r q
theorem pe_call0 (F : FnOk X.prog X.w X.K X.mg X.base CX k f fd ps sp) (hr : Room k X.A) (hg : Gl X x) (hm : X.mg x = some (.ref f)) (hk : PySem.W.keepIn X.K (.ref f) = true) (hb : Binds X.K fd ps ds) (hd : Vals dvs ds) (hx : Passes CX X E)
    (hdb : (x == ("__debug__" : Str)) = false := by decide) : PE X (.Call (.Name x p) [] [] pos) (tCall sp dvs E tNil) := by
  intro pins s σ H Q I h
  refine wpAny_Call_Name_kw (ld_glob I hg hm ?_ hdb)
  exact PySem.W.callWith_K0 I.kIn hk (run_fn (us := []) F hr hb hd hx I .nil h)

/-- what a class must have to be made -/
structure Mk (K : PySem.W.Frag) (C f : Addr) : Prop where
  makes : PySem.W.makesIn K C = true
  init : PySem.W.findIn K (.ref C) "__init__" = some (some (.ref f))
  fn : PySem.W.isFn K (.ref f) = true
  kp : PySem.W.keepIn K (.ref C) = true

theorem run_make {pins : List (Addr × Obj)} {σ : St} {H : Hp} {s : Shared} {Q : VK} {us : List Value} {vs : List V} (M : Mk X.K C f) (F : FnOk X.prog X.w X.K X.mg X.base CX k f fd ps sp) (hr : Room (k + 1) X.A) (hb : Binds X.K fd ps ds) (hd : Vals dvs ds)
    (hx : Passes CX X E) (I : Inv X pins σ H s) (r : Vals vs us)
    (h : ∀ x dx, H x = none → H dx = none → dx ≠ x → sp (.ref x :: (vs ++ dvs)) (upd (upd H dx (.own x)) x (.ins C dx [])) (fun v H2 => v = .non ∧ Q (.ref x) H2) E) :
    wpAny (model X.prog X.w) X.A (call (.ref C) us) (EP X pins σ Q) X.xe s := by
  have hq := h (s.heap.objs.size + 1) s.heap.objs.size (I.hok.fresh (Nat.le_succ _)) (I.hok.fresh (Nat.le_refl _)) (Nat.ne_of_lt (Nat.lt_succ_self _))
  have I2 := Inv.made (C := C) I
  have r2 : Vals (V.ref (s.heap.objs.size + 1) :: (vs ++ dvs)) (Value.ref (s.heap.objs.size + 1) :: (us ++ ds)) := .cons rfl (r.append hd)
  have hl : (Value.ref (s.heap.objs.size + 1) :: us ++ ds).length = ps.length := by
    have e := r2.length
    rw [F.len _ _ _ _ hq] at e
    exact e.symm
  refine wpAny_call (make_map (f := f) I.kIn M.makes M.init (beq_iff_eq.mp M.fn) (codeAny_mono (F.run _ X.stack _ _ ⟨Value.ref (s.heap.objs.size + 1) :: us, []⟩ (Value.ref (s.heap.objs.size + 1) :: (us ++ ds)) _ _ E (hr.make C us [])
    (I2.env0.make C us []) (hb _ (Value.ref (s.heap.objs.size + 1) :: us) I2.kIn hl) r2 hq) fun r s' hq' => ?_))
  cases r with
  | error e => exact hx pins σ _ _ e s' I2 hq'
  | ok fl =>
    cases fl with
    | ret u =>
      obtain ⟨v, H', I3, rv, ev, q3⟩ := I2.after hq'
      subst ev
      exact ⟨rv, ⟨V.ref (s.heap.objs.size + 1), H', I3, rfl, q3⟩⟩
    | next => exact False.elim hq'
    | brk => exact False.elim hq'
    | cont => exact False.elim hq'
theorem pe_make (M : Mk X.K C f) (F : FnOk X.prog X.w X.K X.mg X.base CX k f fd ps sp) (hr : Room (k + 1) X.A) (hg : Gl X x) (hm : X.mg x = some (.ref C)) (hb : Binds X.K fd ps ds) (hd : Vals dvs ds) (hx : Passes CX X E)
    (ha : PA X (e :: es) t) (hdb : (x == ("__debug__" : Str)) = false := by decide) (he : starEach (e :: es) X.env = (false, eval e X.env) :: starEach es X.env := by rfl) (hpl : (backTo pos (starEach es X.env)).any (·.1) = false := by rfl) :
    PE X (.Call (.Name x p) (e :: es) [] pos) (tMake C sp dvs E t) := by
  intro pins s σ H Q I h
  refine wpAny_Call_Name_kw (ld_glob I hg hm ?_ hdb)
  refine PySem.W.callWith_K (h₀ := X.base) I.ok.mod.kin M.kp (thn (ha pos pins s σ H _ I h) fun us s1 ⟨vs, H1, I1, r, q⟩ => ⟨I1.kIn, ?_⟩) he hpl
  exact run_make M F hr hb hd hx I1 r q
end

/-! ### keywords -/
/-- the values of the keywords, from the left -/
def PK (X : Cx) (kws : List Keyword) (t : TA) : Prop :=
  ∀ (pos : Pos) (pins : List (Addr × Obj)) (s : Shared) (σ : St) (H : Hp) (Q : List V → Hp → Prop), Inv X pins σ H s → t σ H Q → wpAny (model X.prog X.w) X.A (evalAll ((backToKw pos (keywordEach kws X.env)).map (·.2))) (AP X pins σ Q) X.xe s
section
variable {X : Cx} {CX : CXT} {k : Nat} {f C : Addr} {fd : FuncData} {ps ks : List Str} {sp : Sp} {E : XK} {x m : Str} {p pos apos kpos : Pos} {e o : Expr} {es : List Expr} {kws : List Keyword} {te ta : TE} {t tk : TA} {nm : Option Str}
/-- how a call with keywords binds: g puts the positional values us and the keywords' values ws (names ks) in the parameters' order, defaults among them -/
structure KBinds (K : PySem.W.Frag) (fd : FuncData) (ps ks : List Str) (g : List Value → List Value → List Value) (gV : List V → List V → List V) : Prop where
  to : ∀ (s : Shared) (us ws : List Value), K.In s.heap → (g us ws).length = ps.length → BindsTo s fd ⟨us, ks.zip ws⟩ (ps.zip (g us ws))
  rel : ∀ {vs : List V} {us : List Value} {zs : List V} {ws : List Value}, Vals vs us → Vals zs ws → Vals (gV vs zs) (g us ws)
def tCallK (sp : Sp) (gV : List V → List V → List V) (E : XK) (t tk : TA) : TE := fun σ H Q => t σ H fun vs H1 => tk σ H1 fun zs H2 => sp (gV vs zs) H2 Q E
variable {g : List Value → List Value → List Value} {gV : List V → List V → List V}
end

/-! ### a def's body keeps its promise -/
/-- names: the parameters first -/
structure FnScope (N P : List Str) (sc : Scope) : Prop where
  kind : sc.kind = .function
  co : sc.isCoroutine = false
  gen : sc.isGenerator = false
  nd : N.Nodup
  pre : N.take P.length = P
  par : ∀ x ∈ P, sc.names.lookup x = some .local ∨ sc.names.lookup x = some .cell
  nofree : ∀ y ∈ sc.names, y.2 ≠ .free

theorem bindL_out {kindOf : Str → Option NameKind} {x : Str} : ∀ {binds : List (Str × Value)} {m : Str → Option Value}, (∀ v, (x, v) ∉ binds) → bindL kindOf binds m x = m x
  | [], _, _ => rfl
  | (n, v) :: r, m, h => by
    unfold bindL
    rw [bindL_out fun w hw => h w (List.mem_cons_of_mem _ hw)]
    split
    · have : x ≠ n := by rintro rfl; exact h v List.mem_cons_self
      simp [this]
    · rfl
theorem bindC_out {kindOf : Str → Option NameKind} {x : Str} : ∀ {binds : List (Str × Value)} {m : Str → Option Value}, (∀ v, (x, v) ∉ binds) → bindC kindOf binds m x = m x
  | [], _, _ => rfl
  | (n, v) :: r, m, h => by
    unfold bindC
    rw [bindC_out fun w hw => h w (List.mem_cons_of_mem _ hw)]
    split
    · rfl
    · have : x ≠ n := by rintro rfl; exact h v List.mem_cons_self
      simp [this]
theorem bindL_get {kindOf : Str → Option NameKind} {x : Str} {v : Value} : ∀ {P : List Str} {vs : List Value} {i : Nat} {m : Str → Option Value}, P.Nodup → P[i]? = some x → vs[i]? = some v → kindOf x = some .local →
    bindL kindOf (P.zip vs) m x = some v
  | [], _, _, _, _, h, _, _ => by simp at h
  | _ :: _, [], _, _, _, _, h, _ => by simp at h
  | p :: P, w :: vs, 0, m, nd, h1, h2, hk => by
    simp at h1 h2; subst h1; subst h2
    show bindL kindOf ((p, w) :: P.zip vs) m p = _
    unfold bindL
    rw [bindL_out fun v hv => (List.nodup_cons.mp nd).1 (List.of_mem_zip hv).1, if_pos hk]
    simp
  | p :: P, w :: vs, i + 1, m, nd, h1, h2, hk => by
    show bindL kindOf ((p, w) :: P.zip vs) m x = _
    unfold bindL
    exact bindL_get (i := i) (List.nodup_cons.mp nd).2 (by simpa using h1) (by simpa using h2) hk
theorem bindC_get {kindOf : Str → Option NameKind} {x : Str} {v : Value} : ∀ {P : List Str} {vs : List Value} {i : Nat} {m : Str → Option Value}, P.Nodup → P[i]? = some x → vs[i]? = some v → kindOf x ≠ some .local →
    bindC kindOf (P.zip vs) m x = some v
  | [], _, _, _, _, h, _, _ => by simp at h
  | _ :: _, [], _, _, _, _, h, _ => by simp at h
  | p :: P, w :: vs, 0, m, nd, h1, h2, hk => by
    simp at h1 h2; subst h1; subst h2
    show bindC kindOf ((p, w) :: P.zip vs) m p = _
    unfold bindC
    rw [bindC_out fun v hv => (List.nodup_cons.mp nd).1 (List.of_mem_zip hv).1, if_neg hk]
    simp
  | p :: P, w :: vs, i + 1, m, nd, h1, h2, hk => by
    show bindC kindOf ((p, w) :: P.zip vs) m x = _
    unfold bindC
    exact bindC_get (i := i) (List.nodup_cons.mp nd).2 (by simpa using h1) (by simpa using h2) hk

/-- the names' values at the entry -/
def start (N : List Str) (vs : List V) : St := vs.map some ++ List.replicate (N.length - vs.length) none

/-- the context of a def's body, at its entry; an exception leaves the frame, then lies as CX says -/
def cxOf (CX : CXT) (P : Program) (w : World) (K : PySem.W.Frag) (mg : Str → Option Value) (base : Heap) (N : List Str) (qual : Str) (scope : Scope) (f : Addr) (cd : Value) (A : Around) (outer : List Env) (s : Shared) (H : Hp) (E : XK) : Cx where
  prog := P
  w := w
  K := K
  mg := mg
  base := base
  A := A.deeper (envOfC qual scope s.heap.objs.size f cd)
  N := N
  s₀ := s
  H₀ := H
  env := envOfC qual scope s.heap.objs.size f cd
  outer := outer
  stack := envOfC qual scope s.heap.objs.size f cd :: outer
  ex := []
  calm := true
  fn := fun _ => true
  pn := []
  xe := fun e s' => wpAny (model P w) (A.deeper (envOfC qual scope s.heap.objs.size f cd)) (leaving (envOfC qual scope s.heap.objs.size f cd) e) (fun _ s'' => CX outer H s E e s'') (fun e' s'' => CX outer H s E e' s'') s'

theorem cell_has {sc : Scope} {n : Nat} {x : Str} (h : sc.names.lookup x = some .cell) : ∃ c, (cellsFrom n sc.names []).lookup x = some c := by
  have q := PySem.W.cellsFrom_some sc.names n [] (.inl h)
  exact Option.isSome_iff_exists.mp q

theorem inv_start {CX : CXT} {P : Program} {w : World} {K : PySem.W.Frag} {mg : Str → Option Value} {base : Heap} {N ps : List Str} {qual : Str} {scope : Scope} {f : Addr} {cd : Value} {A : Around} {outer : List Env} {s s1 : Shared} {H : Hp} {E : XK} {us : List Value} {vs : List V}
    (S : FnScope N ps scope) (hd : A.handled = none) (e0 : Env0 P w K mg base A outer s H) (hl : vs.length = ps.length) (r : Vals vs us)
    (x : InCallC s s.heap.objs.size (bindL (envOfC qual scope s.heap.objs.size f cd).kindOf (ps.zip us) fun _ => none) (cellsFrom (s.heap.objs.size + 1) scope.names []) (bindC (envOfC qual scope s.heap.objs.size f cd).kindOf (ps.zip us) fun _ => none) s1) :
    Inv (cxOf CX P w K mg base N qual scope f cd A outer s H E) [] (start N vs) H s1 := by
  have hpl : ps.length ≤ N.length := by have := congrArg List.length S.pre; rw [List.length_take] at this; omega
  obtain ⟨h1, tk, rfl, hk⟩ := x.done
  have noA : ∀ b : Addr, b ∉ (cxOf CX P w K mg base N qual scope f cd A outer s H E).ex := fun b z => absurd (show b ∈ ([] : List Addr) from z) (by simp)
  refine ⟨⟨e0.mod, S.kind, rfl, rfl, Nat.le_refl _, fun y z c h1 h2 => ?_, fun y hy => ?_, fun y c _ h => ?_, fun _ => hd, Around.frames_deeper e0.frames, .inr ⟨rfl, rfl⟩, fun b z => absurd z (noA b), e0.bs, e0.bsz, fun b _ _ => noA b, fun b z => absurd z (noA b), e0.funs, e0.frf⟩,
    rfl, e0.bare, Un.kept hk, ⟨_, x.toInCall.ns, fun i y v h1 h2 h3 => ?_⟩, fun y c h => ⟨_, x.cell y c h⟩, e0.hok.fresh (Nat.le_refl _), fun y c h => ?_, fun p hp => absurd (show p ∈ ([] : List (Addr × Obj)) from hp) (by simp), e0.hok.kept hk, ?_⟩
  · exact name_of_addr x.apart (PySem.mem_of_lookup h1) (PySem.mem_of_lookup h2)
  · have hy : scope.names.lookup y = some .cell ∨ scope.names.lookup y = some .free := hy
    rcases hy with hy | hy
    · exact cell_has hy
    · exact absurd rfl (S.nofree _ (PySem.mem_of_lookup hy))
  · exact Nat.le_of_lt (x.above y c (PySem.mem_of_lookup h))
  · have hi : i < vs.length := by
      unfold start at h2
      by_cases hi : i < vs.length
      · exact hi
      · rw [List.getElem?_append_right (by simpa using hi)] at h2
        rw [List.getElem?_replicate] at h2
        split at h2 <;> cases h2
    have ha : vs[i]? = some v := by
      unfold start at h2
      rw [List.getElem?_append_left (by simpa using hi), List.getElem?_map] at h2
      cases e : vs[i]? with
      | none => rw [e] at h2; cases h2
      | some a => rw [e] at h2; cases h2; rfl
    obtain ⟨u, hu, rv⟩ := r.get ha
    have hp : ps[i]? = some y := by
      rw [← S.pre, List.getElem?_take_of_lt (by omega)]; exact h1
    have ndP : ps.Nodup := by rw [← S.pre]; exact S.nd.sublist (List.take_sublist _ _)
    refine ⟨u, rv, ?_⟩
    rcases S.par y (List.mem_of_getElem? hp) with k | k
    · exact .inl ⟨k, bindL_get ndP hp hu k⟩
    · obtain ⟨c, e⟩ := cell_has (n := s.heap.objs.size + 1) k
      refine .inr ⟨.inl k, c, e, ?_⟩
      have q := x.cell y c e
      rw [bindC_get ndP hp hu (by show scope.names.lookup y ≠ _; rw [k]; decide)] at q
      exact q
  · exact e0.hok.fresh (Nat.le_of_lt (x.above y c (PySem.mem_of_lookup h)))
  · unfold start
    show _ = N.length
    rw [List.length_append, List.length_map, List.length_replicate]
    omega

/-- THE RULE: a def (or a method) of the text, by its body. The body's reading t is chosen for each entry; it is run at the parameters' values -/
theorem fn_of {CX : CXT} {P : Program} {w : World} {K : PySem.W.Frag} {mg : Str → Option Value} {base : Heap} {k : Nat} {f : Addr} {name qual : Str} {params : Arguments} {body : List Stmt} {scope : Scope} {dV kV doc pm cdv ct oc : Value} {an od : Option Addr}
    {osl : Array (Option Value)} {N ps : List Str} {sp : Sp} (lk : K.lookup f = some ⟨oc, od, .func (PySem.W.fnOf name qual params body scope dV kV doc pm an cdv ct), osl⟩) (hcd : PySem.W.codeIn K cdv qual = true) (S : FnScope N ps scope)
    (len : ∀ vs H Q E, sp vs H Q E → vs.length = ps.length)
    (hbody : ∀ (A : Around) (outer : List Env) (s : Shared) (H : Hp) (vs : List V) (Q : VK) (E : XK), Room k (A.deeper (envOfC qual scope s.heap.objs.size f cdv)) → sp vs H Q E →
      ∃ t, PSs (cxOf CX P w K mg base N qual scope f cdv A outer s H E) body t ∧ t { nx := fun _ H' => Q .non H', rt := Q } (start N vs) H) :
    FnOk P w K mg base CX (k + 1) f (PySem.W.fnOf name qual params body scope dV kV doc pm an cdv ct) ps sp := by
  refine ⟨len, fun A outer s H args us vs Q E hr e0 hb r hsp => ?_⟩
  have hl := len _ _ _ _ hsp
  have KX : K.In s.heap := e0.mod.kin.keeps fun b o e => (e0.bs b o e).1
  have lim : s.heap.NoLimit := e0.mod.nolimit.keeps fun b o e => (e0.bs b o e).1
  have hkind : ∀ y ∈ ps.zip us, scope.names.lookup y.1 = some .local ∨ (scope.names.lookup y.1 = some .cell ∧ ((cellsFrom (s.heap.objs.size + 1) scope.names []).lookup y.1).isSome = true) := fun ⟨n, v⟩ hy => by
    rcases S.par n (List.of_mem_zip hy).1 with q | q
    · exact .inl q
    · exact .inr ⟨q, PySem.W.cellsFrom_some _ _ _ (.inl q)⟩
  refine codeAny_call_function hr.depth (KX _ _ lk) rfl S.co S.gen rfl (PySem.W.codeRec_of KX hcd) (hb _ _ _ _ ?_)
  refine wpAny_newFunctionEnv_cells S.kind hkind fun env he s1 x => ?_
  subst he
  refine ⟨lim.keeps x.toInCall.keep, codeAny_func ?_⟩
  obtain ⟨t, ht, hq⟩ := hbody A outer s H vs Q E (hr.deeper _) hsp
  have I : Inv (cxOf CX P w K mg base N qual scope f cdv A outer s H E) [] (start N vs) H s1 := inv_start S hr.hd e0 hl r x
  refine wpAny_mono (ht [] s1 (start N vs) H _ I hq) (fun fl s' hs => ?_) fun e s' hs => hs
  have fin : ∀ {σ' : St} {H' : Hp} {v : V} {u : Value}, Inv (cxOf CX P w K mg base N qual scope f cdv A outer s H E) [] σ' H' s' → RelV v u → Q v H' → CE outer P w H s Q u s' :=
    fun {σ' H' v u} J rv q => ⟨v, H', J.os, J.bare, J.base, J.hok, rv, q⟩
  cases fl with
  | ret u =>
    obtain ⟨v, σ', H', J, rv, q⟩ := hs
    exact fin J rv q
  | next =>
    obtain ⟨σ', H', J, q⟩ := hs
    exact fin (v := V.non) (u := Value.none) J rfl q
  | brk =>
    obtain ⟨_, _, _, q⟩ := hs
    exact False.elim q
  | cont =>
    obtain ⟨_, _, _, q⟩ := hs
    exact False.elim q
end L2

namespace L2
open PySem PySem.Spec PyProof.Rows
section
variable {X : Cx} {x : Str} {p pos : Pos} {e : Expr} {es : List Expr} {t : TA} {id T : String} {r : List V → Hp → VK → Prop}

def tCB (r : List V → Hp → VK → Prop) (t : TA) : TE := fun σ H Q => t σ H fun vs H1 => r vs H1 Q
/-- f(e, ..), f a built-in function -/
theorem pe_callB (hc : CallR X (.builtin id) r) (hg : Gl X x) (hm : X.mg x = none) (hv : bootBuiltins x = some (.builtin id)) (ha : PA X (e :: es) t) (hn : x ≠ "__name__" := by decide) (hdb : (x == ("__debug__" : Str)) = false := by decide)
    (he : starEach (e :: es) X.env = (false, eval e X.env) :: starEach es X.env := by rfl) (hpl : (backTo pos (starEach es X.env)).any (·.1) = false := by rfl) : PE X (.Call (.Name x p) (e :: es) [] pos) (tCB r t) := by
  intro pins s σ H Q I h
  refine wpAny_Call_Name_kw (ld_blt I hg hm hv ?_ hn hdb)
  exact PyProof.Rows.callWith_builtin1 (thn (ha pos pins s σ H _ I h) fun us s1 ⟨vs, H1, I1, r1, q1⟩ => hc pins s1 σ H1 vs us Q I1 r1 q1) he hpl
/-- T(e, ..), T a built-in type -/
theorem pe_callTy (hc : CallR X (.type T) r) (hg : Gl X x) (hm : X.mg x = none) (hv : bootBuiltins x = some (.type T)) (ha : PA X (e :: es) t) (hn : x ≠ "__name__" := by decide) (hdb : (x == ("__debug__" : Str)) = false := by decide)
    (he : starEach (e :: es) X.env = (false, eval e X.env) :: starEach es X.env := by rfl) (hpl : (backTo pos (starEach es X.env)).any (·.1) = false := by rfl) : PE X (.Call (.Name x p) (e :: es) [] pos) (tCB r t) := by
  intro pins s σ H Q I h
  refine wpAny_Call_Name_kw (ld_blt I hg hm hv ?_ hn hdb)
  exact PyProof.Rows.callWith_type1 (thn (ha pos pins s σ H _ I h) fun us s1 ⟨vs, H1, I1, r1, q1⟩ => hc pins s1 σ H1 vs us Q I1 r1 q1) he hpl
end
end L2

namespace HT
open PySem PyProof.Rows

/-- t < u of tuples of ints -/
def lexLt : List Int → List Int → Bool
  | [], [] => false
  | [], _ :: _ => true
  | _ :: _, [] => false
  | x :: xs, y :: ys => if x = y then lexLt xs ys else decide (x < y)
section
open PySem.SeqAt
open PySem.AutoSeq1 (wpAny_loadPart')
open PySem.MeetsSeq PySem.MeetsSeq2 PySem.MeetsSeq3

end

section
variable {prog : Program} {w : World} {A : Around} {E : Value → Shared → Prop} {s : Shared}

/-! ### t[a:b], not the whole -/
/-- a slice's bound as a place among n (d where it is left out) -/
def sIx (n d : Nat) : Option Int → Nat
  | none => d
  | some v => if v < 0 then (v + (n : Int)).toNat else min v.toNat n
end
end HT

namespace L2
open PySem PySem.Spec PyProof.Rows

/-! ### the parts of a slice -/
abbrev TO := St → Hp → (Option Int → Hp → Prop) → Prop
/-- a slice's part (left out, or an int) -/
def PO (X : Cx) (e : Option Expr) (t : TO) : Prop :=
  ∀ (pins : List (Addr × Obj)) (s : Shared) (σ : St) (H : Hp) (Q : Option Int → Hp → Prop), Inv X pins σ H s → t σ H Q →
    wpAny (model X.prog X.w) X.A (evalPart e X.env) (fun u s' => ∃ o H', Inv X pins σ H' s' ∧ IsPart u o ∧ Q o H') X.xe s
def tNoPart : TO := fun _ H Q => Q none H
def tPart (t : TE) : TO := fun σ H Q => t σ H fun x H1 => ∃ i, x = .int i ∧ Q (some i) H1

section
variable {X : Cx} {e : Expr} {te : TE} {lo hi : Option Expr} {tl th : TO} {pos p2 : Pos}

/-- what a slice of a value is, by values: the slice object stands at sl -/
def SlR (X : Cx) (r : V → Option Int → Option Int → Hp → VK → Prop) : Prop :=
  ∀ (pins : List (Addr × Obj)) (s : Shared) (σ : St) (H : Hp) (x : V) (v vl vu : Value) (lo hi : Option Int) (sl : Addr) (Q : VK), Inv X pins σ H s → RelV x v → s.heap.IsSliceOf sl vl vu .none → IsPart vl lo → IsPart vu hi → r x lo hi H Q →
    ∃ T id, typeLookup (.type T) "__getitem__" = pure (some (.builtin id)) ∧ s.TypeIs v T ∧ wpAny (model X.prog X.w) X.A (getItem v (.ref sl)) (EP X pins σ Q) X.xe s
theorem SlR.or {r r' : V → Option Int → Option Int → Hp → VK → Prop} (h : SlR X r) (h' : SlR X r') : SlR X (fun x lo hi H Q => r x lo hi H Q ∨ r' x lo hi H Q) := by
  intro pins s σ H x v vl vu lo hi sl Q I rx hs pl pu q
  rcases q with q | q
  · exact h pins s σ H x v vl vu lo hi sl Q I rx hs pl pu q
  · exact h' pins s σ H x v vl vu lo hi sl Q I rx hs pl pu q
def tSl (r : V → Option Int → Option Int → Hp → VK → Prop) (te : TE) (tl th : TO) : TE := fun σ H Q => te σ H fun x H1 => tl σ H1 fun l H2 => th σ H2 fun u H3 => r x l u H3 Q
/-- the items of xs[lo:hi] -/
def cutV (xs : List V) (lo hi : Option Int) : List V := (xs.drop (HT.sIx xs.length 0 lo)).take (HT.sIx xs.length xs.length hi - HT.sIx xs.length 0 lo)
/-- t[lo:hi], not the whole of it (the whole would be t itself) -/
def rSlT (K : PySem.W.Frag) : V → Option Int → Option Int → Hp → VK → Prop := fun x lo hi H Q => ∃ a xs, x = .ref a ∧ SqT K H a xs ∧
  ¬ (HT.sIx xs.length 0 lo = 0 ∧ HT.sIx xs.length xs.length hi = xs.length) ∧ ∀ p, H p = none → Q (.ref p) (upd H p (.tup (cutV xs lo hi)))
/-! ### t < u, t + u -/
def rLtT (K : PySem.W.Frag) : R2 := fun x y H Q => ∃ a b ns ms, x = .ref a ∧ y = .ref b ∧ SqT K H a (ns.map V.int) ∧ SqT K H b (ms.map V.int) ∧ Q (.bl (HT.lexLt ns ms)) H
/-- t + u, t not empty: u empty gives t itself -/
def rCatT (K : PySem.W.Frag) : R2 := fun x y H Q => ∃ a b xs ys, x = .ref a ∧ y = .ref b ∧ SqT K H a xs ∧ SqT K H b ys ∧ xs ≠ [] ∧ xs.length + ys.length ≤ sizeLine ∧
  (ys = [] → Q (.ref a) H) ∧ (ys ≠ [] → ∀ p, H p = none → Q (.ref p) (upd H p (.tup (xs ++ ys))))
end
end L2

namespace L2
open PySem PySem.Spec PyProof.Rows

/-! ### places -/
/-- the place that an index of any sign means -/
def ixN (n : Nat) (i : Int) : Option Nat := if 0 ≤ i then (if i < n then some i.toNat else none) else if -(n : Int) ≤ i then some (i + n).toNat else none
def atI {α : Type} (xs : List α) (i : Int) : Option α := (ixN xs.length i).bind fun j => xs[j]?
theorem ixN_seq {n : Nat} {i : Int} {j : Nat} (h : ixN n i = some j) : seqIndex? i n = some j ∧ j < n ∧ -(n : Int) ≤ i ∧ i < n := by
  unfold ixN at h
  by_cases h0 : 0 ≤ i
  · rw [if_pos h0] at h
    by_cases h1 : i < n
    · rw [if_pos h1] at h
      have e : i.toNat = j := Option.some.inj h
      exact ⟨by rw [seqIndex_of h0 h1, e], by omega, by omega, h1⟩
    · rw [if_neg h1] at h; cases h
  · rw [if_neg h0] at h
    by_cases h1 : -(n : Int) ≤ i
    · rw [if_pos h1] at h
      have e : (i + n).toNat = j := Option.some.inj h
      exact ⟨by rw [seqIndex_neg (by omega) h1, e], by omega, h1, by omega⟩
    · rw [if_neg h1] at h; cases h
theorem atI_get {α : Type} {xs : List α} {i : Int} {v : α} (h : atI xs i = some v) : ∃ j, seqIndex? i xs.length = some j ∧ xs[j]? = some v ∧ j < xs.length ∧ -(xs.length : Int) ≤ i ∧ i < xs.length := by
  unfold atI at h
  cases e : ixN xs.length i with
  | none => rw [e] at h; cases h
  | some j =>
    rw [e] at h
    obtain ⟨h1, h2, h3, h4⟩ := ixN_seq e
    exact ⟨j, h1, h, h2, h3, h4⟩
theorem atI_nat {α : Type} {xs : List α} {j : Nat} {v : α} (h : xs[j]? = some v) : atI xs (j : Int) = some v := by
  have hj : j < xs.length := (List.getElem?_eq_some_iff.mp h).1
  have e : ixN xs.length (j : Int) = some j := by
    unfold ixN
    rw [if_pos (by omega), if_pos (by omega)]; simp
  unfold atI; rw [e]; exact h
/-! ### what may be subscripted -/
/-- what stands as an index of a plain subscript -/
def PlainIx (b : Expr) : Prop := ∀ o i, subscripted b false o i = operate [o, i] (getItem o i)
/-- a subscript by values -/
def IxR (X : Cx) (r : R2) : Prop :=
  ∀ (value slice : Expr) (pins : List (Addr × Obj)) (s : Shared) (σ : St) (H : Hp) (x y : V) (v u : Value) (Q : VK), Inv X pins σ H s → RelV x v → RelV y u → r x y H Q →
    subscripted slice false v u = operate [v, u] (getItem v u) → wpAny (model X.prog X.w) X.A (subscriptTail value slice v u) (EP X pins σ Q) X.xe s
/-- a call of a builtin's method by values: the receiver, the arguments -/
def MtR (X : Cx) (id : String) (r : V → List V → Hp → VK → Prop) : Prop :=
  ∀ (pins : List (Addr × Obj)) (s : Shared) (σ : St) (H : Hp) (x : V) (xs : List V) (v : Value) (us : List Value) (Q : VK), Inv X pins σ H s → RelV x v → Vals xs us → r x xs H Q →
    wpAny (model X.prog X.w) X.A (call (.builtin id) (v :: us)) (EP X pins σ Q) X.xe s
section
variable {X : Cx} {a b : Expr} {ta tb : TE} {pos : Pos}
theorem IxR.or {r r' : R2} (h : IxR X r) (h' : IxR X r') : IxR X (fun x y H Q => r x y H Q ∨ r' x y H Q) := by
  intro value slice pins s σ H x y v u Q I rx ry q hs
  rcases q with q | q
  · exact h value slice pins s σ H x y v u Q I rx ry q hs
  · exact h' value slice pins s σ H x y v u Q I rx ry q hs
theorem MtR.or {id : String} {r r' : V → List V → Hp → VK → Prop} (h : MtR X id r) (h' : MtR X id r') : MtR X id (fun x xs H Q => r x xs H Q ∨ r' x xs H Q) := by
  intro pins s σ H x xs v us Q I rx rs q
  rcases q with q | q
  · exact h pins s σ H x xs v us Q I rx rs q
  · exact h' pins s σ H x xs v us Q I rx rs q
/-- a[b] -/
theorem pe_ix {r : R2} (hr : IxR X r) (ha : PE X a ta) (hb : PE X b tb) (hs : PlainIx b) : PE X (.Subscript a b pos) (tOp r ta tb) := by
  intro pins s σ H Q I h
  exact Subscript_ (binT ha hb I h fun v u s2 x y H2 I2 rx ry q => hr a b pins s2 σ H2 x y v u Q I2 rx ry q (hs _ _))

def rIxL (K : PySem.W.Frag) : R2 := fun x y H Q => ∃ p xs i v, x = .ref p ∧ y = .int i ∧ SqL K H p xs ∧ atI xs i = some v ∧ Q v H
def rIxT (K : PySem.W.Frag) : R2 := fun x y H Q => ∃ p xs i v, x = .ref p ∧ y = .int i ∧ SqT K H p xs ∧ atI xs i = some v ∧ Q v H
def rIxS : R2 := fun x y H Q => ∃ z i c, x = .str z ∧ y = .int i ∧ z.length ≤ sizeLine ∧ atI z.cps.toList i = some c ∧ Q (.str ⟨#[c]⟩) H
theorem ix_list : IxR X (rIxL X.K) := by
  intro value slice pins s σ H x y v u Q I rx ry h hs
  obtain ⟨p, xs, i, z, rfl, rfl, hq, he, q⟩ := h
  cases rx
  obtain ⟨t, rfl⟩ := ry
  obtain ⟨its, r, pl, hz⟩ := I.list hq
  obtain ⟨j, h1, h2, h3, h4, h5⟩ := atI_get he
  obtain ⟨w, ew, rw'⟩ := r.get h2
  have hl := r.length
  have hn := line63
  have fin : EP X pins σ Q w s := ⟨z, H, I, rw', q⟩
  by_cases h0 : 0 ≤ i
  · have hj : i.toNat = j := by
      rw [seqIndex_of h0 h5] at h1
      exact Option.some.inj h1
    exact item_listR pl.isList h0 (by omega) (by rw [hj]; simpa using ew) fin hs
  · have hj : (i + (its.toArray.size : Int)).toNat = j := by
      rw [seqIndex_neg (by omega) h4] at h1
      rw [List.size_toArray, ← hl]
      exact Option.some.inj h1
    exact subscriptTail_builtinR (x := w) pl.isList.typeIs slot_list_getitem.lookup
      (wpAny_getItem_list_neg (Q := fun r s' => r = w ∧ EP X pins σ Q r s') pl.isList (by omega) (by rw [List.size_toArray] <;> omega) (by omega) (by rw [hj]; simpa using ew) ⟨rfl, fin⟩) hs
theorem ix_tup : IxR X (rIxT X.K) := by
  intro value slice pins s σ H x y v u Q I rx ry h hs
  obtain ⟨p, xs, i, z, rfl, rfl, hq, he, q⟩ := h
  cases rx
  obtain ⟨t, rfl⟩ := ry
  obtain ⟨its, r, pl, hz⟩ := I.tuple hq
  obtain ⟨j, h1, h2, h3, h4, h5⟩ := atI_get he
  obtain ⟨w, ew, rw'⟩ := r.get h2
  have hl := r.length
  have hn := line63
  have fin : EP X pins σ Q w s := ⟨z, H, I, rw', q⟩
  exact subscriptTail_builtinR (x := w) pl.typeIs slot_tuple_getitem.lookup
    (getItem_tuple (j := j) (Q := fun r s' => r = w ∧ EP X pins σ Q r s') pl (by omega) (by omega) (by rw [List.size_toArray, ← hl]; exact h1) (by simpa using ew) ⟨rfl, fin⟩) hs
/-- list, tuple or str -/
def rIx (K : PySem.W.Frag) : R2 := fun x y H Q => rIxL K x y H Q ∨ rIxT K x y H Q ∨ rIxS x y H Q
/-! ### xs[i] = v, any sign -/
/-- the list's object behind a store -/
theorem mapSeq_set (its : List Value) (n j : Nat) (u : Value) : Obj.mapSeq (·.setIfInBounds j u) { cls := .type "list", data := .seq its.toArray n } = { cls := .type "list", data := .seq (its.set j u).toArray n } := by
  simp [Obj.mapSeq]
theorem Inv.lst {pins : List (Addr × Obj)} {σ : St} {H : Hp} {s : Shared} {p : Addr} {xs : List V} (I : Inv X pins σ H s) (h : H p = some (.lst xs)) :
    ∃ (its : List Value) (n : Nat), Vals xs its ∧ s.heap.get? p = some { cls := .type "list", data := .seq its.toArray n } ∧ xs.length ≤ sizeLine := by
  obtain ⟨z, its, n, r, e⟩ := I.hok p _ h
  exact ⟨its, n, r, e, z⟩
/-- the list at p is written by an update of its object -/
theorem Inv.lstUpd {pins : List (Addr × Obj)} {σ : St} {H : Hp} {s : Shared} {p : Addr} {xs ys : List V} {its its' : List Value} {n n' : Nat} {f : Obj → Obj} (I : Inv X pins σ H s) (h : H p = some (.lst xs))
    (ho : s.heap.get? p = some { cls := .type "list", data := .seq its.toArray n }) (hf : f { cls := .type "list", data := .seq its.toArray n } = { cls := .type "list", data := .seq its'.toArray n' }) (r : Vals ys its') (hz : ys.length ≤ sizeLine) (t : Nat) :
    Inv X pins σ (upd H p (.lst ys)) { s with heap := s.heap.update p f, toks := t } := by
  have e : (s.heap.update p f).get? p = some { cls := .type "list", data := .seq its'.toArray n' } := by
    rw [Heap.get?_update_self f ho (by rw [hf] <;> rfl), hf]
  refine I.write (x := p) (e := p) (by rw [h]; trivial) (.inl rfl) (fun b u hb q => (Heap.get?_update_other _ _ (Ne.symm hb)).trans q) ⟨_, e⟩ ?_
  exact ⟨hz, its', n', r, e⟩
def rSetL : V → V → V → Hp → (Hp → Prop) → Prop := fun o i v H Q => ∃ p xs k j, o = .ref p ∧ i = .int k ∧ H p = some (.lst xs) ∧ ixN xs.length k = some j ∧ Q (upd H p (.lst (xs.set j v)))
theorem set_list : PSet X rSetL := by
  intro pins s σ H o i v ov iv u Q I ro ri rv h
  obtain ⟨p, xs, k, j, rfl, rfl, hp, hj, q⟩ := h
  cases ro
  obtain ⟨t, rfl⟩ := ri
  obtain ⟨its, n, r, ho, hz⟩ := I.lst hp
  obtain ⟨h1, h2, h3, h4⟩ := ixN_seq hj
  have hl := r.length
  have hn := line63
  have I' : Inv X pins σ (upd H p (.lst (xs.set j v))) { s with heap := s.heap.update p (Obj.mapSeq (·.setIfInBounds j u)) } :=
    I.lstUpd hp ho (mapSeq_set its n j u) (r.set rv j) (by rw [List.length_set]; exact hz) s.toks
  by_cases h0 : 0 ≤ k
  · have hk : k.toNat = j := by
      rw [seqIndex_of h0 h4] at h1
      exact Option.some.inj h1
    exact PySem.W.ki_setAt ho h0 (by omega) (by rw [List.size_toArray, ← hl]; exact h4) (by rw [hk]; exact ⟨_, I', q⟩)
  · have hk : (k + (its.toArray.size : Int)).toNat = j := by
      rw [seqIndex_neg (by omega) h3] at h1
      rw [List.size_toArray, ← hl]
      exact Option.some.inj h1
    exact PySem.W.ki_setBack ho (by omega) (by rw [List.size_toArray, ← hl]; exact h3) (by omega) (by rw [hk]; exact ⟨_, I', q⟩)

/-! ### slices -/
/-- xs[lo:hi] of a list: a new list -/
def rSlL (K : PySem.W.Frag) : V → Option Int → Option Int → Hp → VK → Prop := fun x lo hi H Q => ∃ a xs, x = .ref a ∧ SqL K H a xs ∧ ∀ p, H p = none → Q (.ref p) (upd H p (.lst (cutV xs lo hi)))
/-! ### in, not in: flat items -/
def flatV : V → Bool
  | .non => true
  | .bl _ => true
  | .int _ => true
  | .str _ => true
  | _ => false
/-- == of flat values -/
def eqV : V → V → Bool
  | .non, .non => true
  | .bl a, .bl b => a == b
  | .bl a, .int b => (if a then 1 else 0) == b
  | .int a, .bl b => a == (if b then 1 else 0)
  | .int a, .int b => a == b
  | .str a, .str b => a == b
  | _, _ => false
theorem eqAt_V {A : Around} {s : Shared} {y x : V} {u v : Value} (ry : RelV y u) (rx : RelV x v) (fy : flatV y = true) (fx : flatV x = true) : SeqAt.EqAt A s u v (eqV y x) := by
  cases y with
  | non =>
    cases ry
    cases x with
    | non => cases rx; exact SeqAt.EqAt.same _
    | bl b => cases rx; exact SeqAt.EqAt.none_bool b
    | int b => obtain ⟨t, rfl⟩ := rx; exact SeqAt.EqAt.none_int b t
    | str b => obtain ⟨t, rfl⟩ := rx; exact SeqAt.EqAt.none_str b t
    | _ => exact absurd (show false = true from fx) Bool.false_ne_true
  | bl a =>
    cases ry
    cases x with
    | non => cases rx; exact SeqAt.EqAt.bool_none a
    | bl b => cases rx; exact SeqAt.EqAt.bool_bool a b
    | int b => obtain ⟨t, rfl⟩ := rx; exact SeqAt.EqAt.bool_int a b t
    | str b => obtain ⟨t, rfl⟩ := rx; exact SeqAt.EqAt.bool_str a b t
    | _ => exact absurd (show false = true from fx) Bool.false_ne_true
  | int a =>
    obtain ⟨t', rfl⟩ := ry
    cases x with
    | non => cases rx; exact SeqAt.EqAt.int_none a t'
    | bl b => cases rx; exact SeqAt.EqAt.int_bool a t' b
    | int b => obtain ⟨t, rfl⟩ := rx; exact SeqAt.EqAt.int_int a t' b t
    | str b => obtain ⟨t, rfl⟩ := rx; exact SeqAt.EqAt.int_str a t' b t
    | _ => exact absurd (show false = true from fx) Bool.false_ne_true
  | str a =>
    obtain ⟨t', rfl⟩ := ry
    cases x with
    | non => cases rx; exact SeqAt.EqAt.str_none a t'
    | bl b => cases rx; exact SeqAt.EqAt.str_bool a t' b
    | int b => obtain ⟨t, rfl⟩ := rx; exact SeqAt.EqAt.str_int a t' b t
    | str b => obtain ⟨t, rfl⟩ := rx; exact SeqAt.EqAt.str_str a t' b t
    | _ => exact absurd (show false = true from fx) Bool.false_ne_true
  | _ => exact absurd (show false = true from fy) Bool.false_ne_true
/-- the items' answers, read off the values (a value's own answer does not lean on its token) -/
def eqU (x : V) (u : Value) : Bool := match u with
  | .none => eqV .non x
  | .bool b => eqV (.bl b) x
  | .int i _ => eqV (.int i) x
  | .str z _ => eqV (.str z) x
  | _ => false
theorem eqU_of {x y : V} {u : Value} (r : RelV y u) (f : flatV y = true) : eqU x u = eqV y x := by
  cases y with
  | non => cases r; rfl
  | bl b => cases r; rfl
  | int i => obtain ⟨t, rfl⟩ := r; rfl
  | str z => obtain ⟨t, rfl⟩ := r; rfl
  | _ => exact absurd (show false = true from f) Bool.false_ne_true
theorem any_eqU {x : V} : ∀ {xs : List V} {us : List Value}, Vals xs us → xs.all flatV = true → us.any (eqU x) = xs.any fun y => eqV y x
  | _, _, .nil, _ => rfl
  | y :: xs, u :: us, .cons r t, f => by
    rw [List.all_cons, Bool.and_eq_true] at f
    rw [List.any_cons, List.any_cons, eqU_of r f.1, any_eqU t f.2]
theorem mem_eqAt {A : Around} {s : Shared} {x : V} {v : Value} (rx : RelV x v) (fx : flatV x = true) : ∀ {xs : List V} {us : List Value}, Vals xs us → xs.all flatV = true → ∀ u ∈ us, SeqAt.EqAt A s u v (eqU x u)
  | _, _, .nil, _ => fun u hu => by cases hu
  | y :: xs, u :: us, .cons r t, f => fun u' hu => by
    rw [List.all_cons, Bool.and_eq_true] at f
    rcases List.mem_cons.mp hu with rfl | hu
    · rw [eqU_of r f.1]; exact eqAt_V r rx f.1 fx
    · exact mem_eqAt rx fx t f.2 u' hu
def inV (x : V) (xs : List V) : Bool := xs.any fun y => eqV y x
/-- x in a list or tuple of flat items -/
def rIn (K : PySem.W.Frag) (neg : Bool) : R2 := fun x y H Q => ∃ p xs, y = .ref p ∧ (SqL K H p xs ∨ SqT K H p xs) ∧ flatV x = true ∧ xs.all flatV = true ∧ Q (.bl (if neg then !inV x xs else inV x xs)) H
theorem op_in_seq : OpR X (compareOp .In) (rIn X.K false) := by
  intro pins s σ H x y v u Q I rx ry h
  obtain ⟨p, xs, rfl, hq, fx, fs, q⟩ := h
  cases ry
  rcases hq with hq | hq
  · obtain ⟨its, r, pl, hz⟩ := I.list hq
    refine SeqAt.in_listAt (eqU x) pl.isList (fun w hw => mem_eqAt rx fx r fs w (by simpa using hw)) ⟨.bl _, H, I, rfl, ?_⟩
    rw [show its.toArray.any (eqU x) = its.any (eqU x) by simp, any_eqU r fs]
    exact q
  · obtain ⟨its, r, pl, hz⟩ := I.tuple hq
    refine SeqAt.in_tupleAt (eqU x) pl (fun w hw => mem_eqAt rx fx r fs w (by simpa using hw)) ⟨.bl _, H, I, rfl, ?_⟩
    rw [show its.toArray.any (eqU x) = its.any (eqU x) by simp, any_eqU r fs]
    exact q
theorem op_notIn_seq : OpR X (compareOp .NotIn) (rIn X.K true) := by
  intro pins s σ H x y v u Q I rx ry h
  obtain ⟨p, xs, rfl, hq, fx, fs, q⟩ := h
  cases ry
  rcases hq with hq | hq
  · obtain ⟨its, r, pl, hz⟩ := I.list hq
    refine SeqAt.notIn_listAt (eqU x) pl.isList (fun w hw => mem_eqAt rx fx r fs w (by simpa using hw)) ⟨.bl _, H, I, rfl, ?_⟩
    rw [show its.toArray.any (eqU x) = its.any (eqU x) by simp, any_eqU r fs]
    exact q
  · obtain ⟨its, r, pl, hz⟩ := I.tuple hq
    refine SeqAt.notIn_tupleAt (eqU x) pl (fun w hw => mem_eqAt rx fx r fs w (by simpa using hw)) ⟨.bl _, H, I, rfl, ?_⟩
    rw [show its.toArray.any (eqU x) = its.any (eqU x) by simp, any_eqU r fs]
    exact q
/-! ### len, list(x), tuple(x) of any list or tuple that is read -/
theorem call_len_seq : CallR X (.builtin "len") (fun xs H Q => ∃ p ys, xs = [.ref p] ∧ (SqL X.K H p ys ∨ SqT X.K H p ys) ∧ Q (.int ys.length) H) := by
  intro pins s σ H xs us Q I r h
  obtain ⟨p, ys, rfl, hq, q⟩ := h
  obtain ⟨u, rfl, rx⟩ := vals1 r
  cases rx
  have hn := line63
  rcases hq with hq | hq
  · obtain ⟨its, r', pl, hz⟩ := I.list hq
    have hlen := r'.length
    exact Calls.call_len_list pl.isList (by simp only [List.size_toArray] <;> omega) ⟨.int ys.length, H, I.tok _, ⟨s.toks + 1, by rw [List.size_toArray, hlen]⟩, q⟩
  · obtain ⟨its, r', pl, hz⟩ := I.tuple hq
    have hlen := r'.length
    exact len_tuple pl (by simp only [List.size_toArray] <;> omega) ⟨.int ys.length, H, I.tok _, ⟨s.toks + 1, by rw [List.size_toArray, hlen]⟩, q⟩
theorem CallR.or {f : Value} {r r' : List V → Hp → VK → Prop} (h : CallR X f r) (h' : CallR X f r') : CallR X f (fun xs H Q => r xs H Q ∨ r' xs H Q) := by
  intro pins s σ H xs us Q I rs q
  rcases q with q | q
  · exact h pins s σ H xs us Q I rs q
  · exact h' pins s σ H xs us Q I rs q
theorem call_list_of : CallR X (.type "list") (fun xs H Q => ∃ p ys, xs = [.ref p] ∧ (SqL X.K H p ys ∨ SqT X.K H p ys) ∧ ∀ l, H l = none → Q (.ref l) (upd H l (.lst ys))) := by
  intro pins s σ H xs us Q I r h
  obtain ⟨p, ys, rfl, hq, q⟩ := h
  obtain ⟨u, rfl, rx⟩ := vals1 r
  cases rx
  have fin : ∀ (its : List Value), Vals ys its → ys.length ≤ sizeLine → ∀ (h' : Heap) (c' : Nat), (∀ b o', s.heap.get? b = some o' → h'.get? b = some o') →
      h'.get? s.heap.objs.size = some { cls := .type "list", dict := none, data := .seq its.toArray c', slots := #[] } → EP X pins σ Q (.ref s.heap.objs.size) { s with heap := h' } := fun its r' hz h' c' kp e =>
    ⟨.ref s.heap.objs.size, _, I.laid (t' := s.toks) kp (Nat.le_refl _) (show ObjOk X.prog X.w _ h' _ (.lst ys) from ⟨hz, its, c', r', e⟩), rfl, q _ (I.hok.fresh (Nat.le_refl _))⟩
  rcases hq with hq | hq
  · obtain ⟨its, r', pl, hz⟩ := I.list hq
    have hlen := r'.length
    obtain ⟨o, ho, hc, n, hd⟩ := pl.isList
    exact call_list_seq p (.inl rfl) ho hc hd (fun h' c' kp e => fin its r' hz h' c' kp e) (by simp only [List.size_toArray] <;> omega)
  · obtain ⟨its, r', pl, hz⟩ := I.tuple hq
    have hlen := r'.length
    obtain ⟨o, ho, hc, n, hd⟩ := pl
    exact call_list_seq p (.inr rfl) ho hc hd (fun h' c' kp e => fin its r' hz h' c' kp e) (by simp only [List.size_toArray] <;> omega)
/-! ### the call of a builtin's method: o.m(..) -/
/-- the value is of that builtin type -/
def tyV (K : PySem.W.Frag) (T : String) (x : V) (H : Hp) : Prop := match x with
  | .str _ => T = "str"
  | .int _ => T = "int"
  | .ref p => (T = "list" ∧ ∃ xs, SqL K H p xs) ∨ (T = "tuple" ∧ ∃ o, K.lookup p = some o ∧ o.cls = .type "tuple" ∧ o.dict = none) ∨
      (T = "dict" ∧ ((∃ kvs, H p = some (.dK kvs)) ∨ ∃ kvs, H p = some (.dT kvs))) ∨ (T = "set" ∧ ∃ S n, H p = some (.set S n))
  | _ => False
theorem tyV_is {pins : List (Addr × Obj)} {σ : St} {H : Hp} {s : Shared} {T : String} {x : V} {v : Value} (I : Inv X pins σ H s) (r : RelV x v) (ty : tyV X.K T x H) :
    s.TypeIs v T ∧ ∀ a, v = .ref a → ∃ ob, s.heap.get? a = some ob ∧ ob.dict = none := by
  cases x with
  | str z =>
    obtain ⟨t, rfl⟩ := r
    cases (show T = "str" from ty)
    exact ⟨typeIs_str s z t, fun _ e => nomatch e⟩
  | int i =>
    obtain ⟨t, rfl⟩ := r
    cases (show T = "int" from ty)
    exact ⟨typeIs_int s i t, fun _ e => nomatch e⟩
  | ref p =>
    cases r
    rcases ty with ⟨rfl, xs, hq⟩ | ⟨rfl, o, hk, hc, hd⟩ | ⟨rfl, hk⟩ | ⟨rfl, S, n, hk⟩
    · obtain ⟨its, _, pl, _⟩ := I.list hq
      refine ⟨pl.isList.typeIs, fun a e => ?_⟩
      cases e
      obtain ⟨o, n, e, c, hd, _⟩ := pl
      exact ⟨o, e, hd⟩
    · refine ⟨⟨o, I.kIn p o hk, hc⟩, fun a e => ?_⟩
      cases e
      exact ⟨o, I.kIn _ o hk, hd⟩
    · have z : ∃ o, s.heap.get? p = some o ∧ o.ExactDict := by
        rcases hk with ⟨kvs, hk⟩ | ⟨kvs, hk⟩
        · obtain ⟨_, _, _, _, o, _, _, e, ex, _⟩ := I.hok p _ hk
          exact ⟨o, e, ex⟩
        · obtain ⟨_, _, _, _, o, _, _, e, ex, _⟩ := I.hok p _ hk
          exact ⟨o, e, ex⟩
      obtain ⟨o, e, ex⟩ := z
      refine ⟨⟨o, e, ex.1⟩, fun a e2 => ?_⟩
      cases e2
      exact ⟨o, e, ex.2.1⟩
    · obtain ⟨o, _, _, _, e, ex, _⟩ := I.hok p _ hk
      refine ⟨⟨o, e, ex.1⟩, fun a e2 => ?_⟩
      cases e2
      exact ⟨o, e, ex.2.1⟩
  | _ => exact False.elim ty
def tBM0 (K : PySem.W.Frag) (T : String) (r : V → List V → Hp → VK → Prop) (to : TE) : TE := fun σ H Q => to σ H fun x H1 => tyV K T x H1 ∧ r x [] H1 Q
def tBM (K : PySem.W.Frag) (T : String) (r : V → List V → Hp → VK → Prop) (to : TE) (t : TA) : TE := fun σ H Q => to σ H fun x H1 => tyV K T x H1 ∧ t σ H1 fun xs H2 => r x xs H2 Q
variable {o e : Expr} {es : List Expr} {to : TE} {t : TA} {name : Str} {apos cpos : Pos} {T id : String} {r : V → List V → Hp → VK → Prop}
theorem pe_bm0 (pa : PlainAttrs T) (slot : Slot T name id) (hty : typeOf (.builtin id) = pure (.type "method_descriptor")) (hm : MtR X id r) (ho : PE X o to)
    (hbase : attributeBase o name X.env (eval o X.env) = eval o X.env := by rfl) (hline : (apos.endLine == cpos.line) = true := by rfl) : PE X (.Call (.Attribute o name apos) [] [] cpos) (tBM0 X.K T r to) := by
  intro pins s σ H Q I h
  refine wpAny_Call_method0_late hbase hline (thn (ho pins s σ H _ I h) fun v s1 ⟨x, H1, I1, r1, ty, q1⟩ => ?_)
  obtain ⟨h1, h2⟩ := tyV_is I1 r1 ty
  exact ⟨T, id, pa, slot, hty, h1, h2, Calls.callWith_builtin rfl (PySem.evalArgs_none (hm pins s1 σ H1 x [] v [] Q I1 r1 .nil q1))⟩
theorem pe_bm (pa : PlainAttrs T) (slot : Slot T name id) (hty : typeOf (.builtin id) = pure (.type "method_descriptor")) (hm : MtR X id r) (ho : PE X o to) (ha : PA X (e :: es) t)
    (hbase : attributeBase o name X.env (eval o X.env) = eval o X.env := by rfl)
    (hfew : ((backTo cpos (starEach (e :: es) X.env)).all (fun x => !x.1) && (backToKw cpos (keywordEach [] X.env)).all (fun x => x.1.isSome)
      && decide ((e :: es).length + ([] : List Keyword).length + (if ([] : List Keyword).isEmpty then 0 else 1) < 30)) = true := by rfl)
    (hline : (apos.endLine == cpos.line) = true := by rfl) (hs : starEach (e :: es) X.env = (false, eval e X.env) :: starEach es X.env := by rfl) (hplain : (backTo cpos (starEach es X.env)).any (·.1) = false := by rfl) :
    PE X (.Call (.Attribute o name apos) (e :: es) [] cpos) (tBM X.K T r to t) := by
  intro pins s σ H Q I h
  refine wpAny_Call_method_late hbase hfew hline rfl (thn (ho pins s σ H _ I h) fun v s1 ⟨x, H1, I1, r1, ty, q1⟩ => ?_)
  obtain ⟨h1, h2⟩ := tyV_is I1 r1 ty
  refine ⟨T, id, pa, slot, hty, h1, h2, ?_⟩
  have hA := ha cpos pins s1 σ H1 _ I1 q1
  rw [hs] at hA ⊢
  refine Calls.callWith_builtin (by show (false || (backTo cpos (starEach es X.env)).any (·.1)) = false; rw [hplain] <;> rfl) (Calls.evalArgs_plain ?_)
  exact thn hA fun us s2 ⟨vs, H2, I2, r2, q2⟩ => hm pins s2 σ H2 x vs v us Q I2 r1 r2 q2
/- xs.append(e), list.index on a module's tuple .. are MtR facts of 06m -/
end
end L2

namespace L2
open PySem PySem.Spec PyProof.Rows

def MtM (X : Cx) (id : String) (r : V → List V → Hp → VK → Prop) : Prop :=
  ∀ (pins : List (Addr × Obj)) (s : Shared) (σ : St) (H : Hp) (x : V) (xs : List V) (v : Value) (us : List Value) (Q : VK), Inv X pins σ H s → RelV x v → Vals xs us → r x xs H Q →
    wpAny (model X.prog X.w) X.A (call (.builtin id) (v :: us)) (EP X pins σ Q) X.xe s

/-! ### lists of values -/
theorem Vals.one : ∀ {x : V} {us : List Value}, Vals [x] us → ∃ u, us = [u] ∧ RelV x u
  | _, _, .cons r .nil => ⟨_, rfl, r⟩
theorem Vals.two : ∀ {x y : V} {us : List Value}, Vals [x, y] us → ∃ u v, us = [u, v] ∧ RelV x u ∧ RelV y v
  | _, _, _, .cons r (.cons q .nil) => ⟨_, _, rfl, r, q⟩
theorem Vals.zero : ∀ {us : List Value}, Vals [] us → us = []
  | _, .nil => rfl
theorem Vals.dropLast {xs : List V} {us : List Value} (h : Vals xs us) : Vals xs.dropLast us.dropLast := by
  induction h with
  | nil => exact .nil
  | cons r t ih =>
    cases t with
    | nil => exact .nil
    | cons q t' => exact .cons r ih
theorem Vals.eraseIdx : ∀ {xs : List V} {us : List Value} (i : Nat), Vals xs us → Vals (xs.eraseIdx i) (us.eraseIdx i)
  | _, _, _, .nil => .nil
  | _, _, 0, .cons _ t => t
  | _, _, i + 1, .cons r t => .cons r (Vals.eraseIdx i t)
theorem Vals.reverse {xs : List V} {us : List Value} (h : Vals xs us) : Vals xs.reverse us.reverse := by
  induction h with
  | nil => exact .nil
  | cons r t ih => rw [List.reverse_cons, List.reverse_cons]; exact Vals.append ih (.cons r .nil)
theorem len_erase {α : Type} : ∀ (l : List α) (i : Nat), (l.eraseIdx i).length ≤ l.length
  | [], _ => Nat.le_refl _
  | _ :: _, 0 => Nat.le_succ _
  | _ :: r, i + 1 => Nat.succ_le_succ (len_erase r i)
section
variable {X : Cx} {pins : List (Addr × Obj)} {σ : St} {H : Hp} {s : Shared} {l b : Addr} {xs ys zs : List V}

/-! ### the two steps: a tracked list is rewritten, a new list is laid -/
theorem Inv.lset {its its' : List Value} {n : Nat} {f : Array Value → Array Value} {t' : Nat} (I : Inv X pins σ H s) (hH : H l = some (.lst xs))
    (e : s.heap.get? l = some { cls := .type "list", data := .seq its.toArray n }) (hf : f its.toArray = its'.toArray) (hv : Vals ys its') (hz : ys.length ≤ sizeLine) :
    Inv X pins σ (upd H l (.lst ys)) { s with heap := s.heap.update l (Obj.mapSeq f), toks := t' } := by
  have q := PySem.IsL.update e f
  rw [hf] at q
  refine I.write (x := l) (e := l) (by rw [hH]; exact trivial) (.inl rfl) (fun b' u hb hu => (Heap.get?_update_other s.heap (Obj.mapSeq f) (Ne.symm hb)).trans hu) ⟨_, q⟩ ?_
  exact ⟨hz, its', _, hv, q⟩
theorem Inv.lnew {its : List Value} {t' : Nat} (I : Inv X pins σ H s) (hv : Vals ys its) (hz : ys.length ≤ sizeLine) :
    Inv X pins σ (upd H s.heap.objs.size (.lst ys)) { s with heap := s.heap.push { cls := .type "list", data := .seq its.toArray }, toks := t' } :=
  I.laid (fun _ _ q => Heap.get?_push_of_some _ q) (Nat.le_refl _) ⟨hz, its, 0, hv, Heap.get?_push_size _ rfl⟩
theorem Inv.fresh (I : Inv X pins σ H s) : H s.heap.objs.size = none := I.hok.fresh (Nat.le_refl _)
theorem Inv.lstM (I : Inv X pins σ H s) (hH : H l = some (.lst xs)) : xs.length ≤ sizeLine ∧ ∃ (its : List Value) (n : Nat), Vals xs its ∧ xs.length = its.length ∧ s.heap.get? l = some { cls := .type "list", data := .seq its.toArray n } := by
  obtain ⟨z, its, n, r, e⟩ := I.hok l _ hH
  exact ⟨z, its, n, r, r.length, e⟩

theorem notLongL {n : Nat} (h : n ≤ sizeLine) : Builtin.List.listTooLong n = false := by
  unfold Builtin.List.listTooLong
  exact decide_eq_false (by omega)
end

section
variable {X : Cx}

/-! ### methods -/
def rAppend : V → List V → Hp → VK → Prop := fun x vs H Q => ∃ l xs y, x = .ref l ∧ vs = [y] ∧ H l = some (.lst xs) ∧ xs.length < sizeLine ∧ Q .non (upd H l (.lst (xs ++ [y])))
theorem mt_append : MtM X "list.append" rAppend := by
  intro pins s σ H x vs v us Q I rx rv h
  obtain ⟨l, xs, y, rfl, rfl, hH, hz, q⟩ := h
  cases rx
  obtain ⟨u, rfl, ru⟩ := rv.one
  obtain ⟨z, its, n, r, hl, e⟩ := I.lstM hH
  refine call_meets F.slot_list_append ⟨_, e, rfl⟩ F.entry_list_append (F.args_list_append_2 _ _) (PySem.list_append l its.toArray n u (by rw [List.size_toArray]; omega)) ⟨e, ?_⟩
  refine ⟨.non, _, I.lset (its' := its ++ [u]) hH e (by simp) (r.append (.cons ru .nil)) ?_, rfl, q⟩
  rw [List.length_append, List.length_singleton]
  omega

def rExtend : V → List V → Hp → VK → Prop := fun x vs H Q => ∃ l b xs zs, x = .ref l ∧ vs = [.ref b] ∧ H l = some (.lst xs) ∧ H b = some (.lst zs) ∧ xs.length + zs.length ≤ sizeLine ∧ Q .non (upd H l (.lst (xs ++ zs)))
theorem mt_extend : MtM X "list.extend" rExtend := by
  intro pins s σ H x vs v us Q I rx rv h
  obtain ⟨l, b, xs, zs, rfl, rfl, hH, hB, hz, q⟩ := h
  cases rx
  obtain ⟨u, rfl, ru⟩ := rv.one
  cases ru
  obtain ⟨z, its, n, r, hl, e⟩ := I.lstM hH
  obtain ⟨z2, its2, n2, r2, hl2, e2⟩ := I.lstM hB
  have hsz : its.toArray.size + its2.toArray.size ≤ sizeLine := by rw [List.size_toArray, List.size_toArray]; omega
  have hlong : ¬ (!its.toArray.isEmpty && Builtin.List.listTooLong (its.toArray.size + its2.toArray.size)) = true := by
    rw [notLongL hsz, Bool.and_false]
    exact Bool.false_ne_true
  refine call_meets F.slot_list_extend ⟨_, e, rfl⟩ F.entry_list_extend (F.args_list_extend_2 _ _)
    (AutoSeq1.list_extend_list_list_0 l its.toArray n b its2.toArray n2 hlong (by rw [List.size_toArray]; omega) (by omega)) ⟨e, e2, ?_⟩
  refine ⟨.non, _, I.lset (its' := its ++ its2) hH e (by simp) (r.append r2) ?_, rfl, q⟩
  rw [List.length_append]
  omega

def rPop : V → List V → Hp → VK → Prop := fun x vs H Q => ∃ l xs y, x = .ref l ∧ vs = [] ∧ H l = some (.lst xs) ∧ xs[xs.length - 1]? = some y ∧ Q y (upd H l (.lst xs.dropLast))
def rPopAt : V → List V → Hp → VK → Prop := fun x vs H Q => ∃ l xs i k y, x = .ref l ∧ vs = [.int i] ∧ H l = some (.lst xs) ∧ -(2 ^ 63) ≤ i ∧ i < 2 ^ 63 ∧ seqIndex? i xs.length = some k ∧ xs[k]? = some y ∧ Q y (upd H l (.lst (xs.eraseIdx k)))
theorem mt_popAt : MtM X "list.pop" rPopAt := by
  intro pins s σ H x vs v us Q I rx rv h
  obtain ⟨l, xs, i, k, y, rfl, rfl, hH, h1, h2, hk, hy, q⟩ := h
  cases rx
  obtain ⟨u, rfl, ru⟩ := rv.one
  obtain ⟨t, rfl⟩ := ru
  obtain ⟨z, its, n, r, hl, e⟩ := I.lstM hH
  obtain ⟨w, hw, rw'⟩ := r.get hy
  refine call_meets F.slot_list_pop ⟨_, e, rfl⟩ F.entry_list_pop (F.args_list_pop_2 _ _)
    (MeetsSeq.list_pop_at l its.toArray n i t k w (fitsIndex_both h1 h2) (by rw [List.size_toArray, ← hl]; exact hk) (by rw [← Array.getElem?_toList]; exact hw) (by rw [List.size_toArray]; omega)) ⟨e, ?_⟩
  refine ⟨y, _, I.lset (its' := its.eraseIdx k) hH e ?_ (r.eraseIdx k) ?_, rw', q⟩
  · show its.toArray.eraseIdxIfInBounds k = (its.eraseIdx k).toArray
    rw [List.eraseIdxIfInBounds_toArray]
  · have := len_erase xs k
    omega

def rReverse : V → List V → Hp → VK → Prop := fun x vs H Q => ∃ l xs, x = .ref l ∧ vs = [] ∧ H l = some (.lst xs) ∧ Q .non (upd H l (.lst xs.reverse))
def rClear : V → List V → Hp → VK → Prop := fun x vs H Q => ∃ l xs, x = .ref l ∧ vs = [] ∧ H l = some (.lst xs) ∧ Q .non (upd H l (.lst []))
/-! ### list + list, list += list, list * int -/
def rCat : R2 := fun x y H Q => ∃ l b xs zs, x = .ref l ∧ y = .ref b ∧ H l = some (.lst xs) ∧ H b = some (.lst zs) ∧ xs.length + zs.length ≤ sizeLine ∧ ∀ p, H p = none → Q (.ref p) (upd H p (.lst (xs ++ zs)))
/-- a list times an int (a negative one is nothing) -/
def rRep : R2 := fun x y H Q => ∃ l k xs, x = .ref l ∧ y = .int k ∧ H l = some (.lst xs) ∧ -(2 ^ 63) ≤ k ∧ k < 2 ^ 63 ∧ xs.length * k.toNat ≤ sizeLine ∧
  ∀ p, H p = none → Q (.ref p) (upd H p (.lst (List.replicate k.toNat xs).flatten))
/-! ### del xs[i] -/
end

/-! ### xs[a:b] = ys -/
section
variable {prog : Program} {w : World} {A : Around} {E : Value → Shared → Prop} {s : Shared}
set_option maxRecDepth 100000 in
end

section
variable {X : Cx}
end
end L2

namespace Att
open PySem PySem.W PySem.Calls PyProof.Rows

/-! ### the script -/
theorem ints_of_wellAll {P : Params} {h : Heap} : ∀ (ns : List Int) (vs : List Value), WellAll P h vs (ns.map WData.int) → IntsAre vs ns := by
  intro ns
  induction ns with
  | nil =>
    intro vs w
    rw [List.map_nil] at w
    cases w
    exact .nil
  | cons n ns ih =>
    intro vs w
    rw [List.map_cons] at w
    cases w with
    | cons a b =>
      cases a
      exact .cons _ _ (ih _ b)

theorem script_of {l : OpenLaw} {n : Nat} (hn : l.most = some n) {P : Params} {h : Heap} {args : List WData} {vals : List Value}
    (hpre : l.row.toRowW.claim.pre args = true) (hwl : WellAll P h vals args) :
    ∃ a vs ns, vals = [Value.ref a] ∧ args = [WData.list (ns.map WData.int)] ∧ h.get? a = some { cls := .type "list", data := .seq vs.toArray } ∧ IntsAre vs ns ∧ ns.length ≤ n := by
  have hsh : WShape.hasAll [] args [.list .int] = true := (pre_splitW hpre).1
  have hc : l.pre.holds [] { args := args } = true := (pre_splitW hpre).2
  obtain ⟨d, r, rfl, h1, h2⟩ := hasAllW_cons hsh
  obtain rfl := hasAllW_nil h2
  obtain ⟨xs, rfl, h3⟩ := hasW_list h1
  obtain ⟨ns, rfl⟩ := items_int h3
  have hlen : ns.length ≤ n := by
    unfold OpenLaw.pre at hc
    have h4 : (WTm.not (.lt (.lit (.int (n : Int))) (.len (.arg 0)))).holds [] { args := [.list (ns.map .int)] } = true := by
      have h4 := (holds_andW hc).1
      rw [hn] at h4
      exact h4
    have h5 := condW_of h4 (w_not (w_lt w_lit (w_len_list (w_arg rfl))))
    rw [List.length_map] at h5
    refine Nat.le_of_not_lt fun q => ?_
    have q' : (n : Int) < ((ns.length : Nat) : Int) := by omega
    first
      | (rw [decide_eq_true q'] at h5; exact absurd h5 (by decide))
      | (simp at h5; omega)
  cases hwl with
  | cons w1 w2 =>
    cases w2
    cases w1 with
    | list ho hall => exact ⟨_, _, ns, rfl, rfl, ho, ints_of_wellAll ns _ hall, hlen⟩

theorem post_true (l : OpenLaw) (args : List WData) : l.row.toRowW.claim.post args (.bool true) args = true :=
  postW_of (r := l.row.toRowW) (X := (true == true))
    (show WShape.has [] (.bool true) .bool = true by first | rfl | decide | simp [WShape.has, WShape.arms, WShape.armsAll])
    (show (WTm.eq .res (.lit (.bool true))).value [] { args := args, res := some (.bool true), after := args } = some (.bool (true == true)) from w_eq_bool (w_res rfl) w_lit) rfl

/-! ### the attachment: holds_open's last premise (the goal 'hc' behind k_head) from a wpAny of the law's body -/
/-- the same from a codeAny of the CALL (for a layer whose function contracts speak of calls) -/
theorem attach_call {l : OpenLaw} {n : Nat} {q : Program} {loose : List Str} {XP : (Str → Option Value) → Heap → Prop} {YP : World → Heap → Prop} {d : DefRec}
    (hn : l.most = some n) (hdf : d.params.defaults = [])
    (call : ∀ (w : World) (s₀ s₁ : Shared) (mg mb : Str → Option Value) (fa : Addr) (o : Obj) (pm cd doc : Value) (a : Addr) (vs : List Value) (ns : List Int),
      Ground q loose [] XP w s₀ mg mb s₁.heap → YP w s₁.heap →
      s₁.heap.get? fa = some o → o.data = .func (docDef d.name d.params d.body d.scope pm cd doc) → s₁.heap.CodeRec cd d.name → mg d.name = some (.ref fa) →
      s₁.heap.get? a = some { cls := .type "list", data := .seq vs.toArray } → IntsAre vs ns → ns.length ≤ n → s₁.gens = #[] →
      codeAny (model l.prog w) callerA (.call (.ref fa) ⟨[.ref a], []⟩) (fun r s' => r = .ok (.ret (.bool true)) ∧ OldK s₁.heap s'.heap ∧ s'.os = s₁.os ∧ AllBare s'.gens) s₁) :
    WalkO q loose XP YP l.row.toRowW d [] (fun f vs => PySem.call f vs) := by
  intro w s₀ s₁ mg mb G Y fa o pm cd doc dV kV ho hd hcd hD hmg hg args vals as hpre hlay hrd hwl hlo
  obtain rfl : dV = .none := Dflts.none hD hdf
  obtain rfl : kV = .none := Dflts.noKw hD
  obtain ⟨a, vs, ns, rfl, rfl, hobj, hints, hlen⟩ := script_of hn hpre hwl
  refine enter_call (codeAny_mono (call w s₀ s₁ mg mb fa o pm cd doc a vs ns G Y ho (fd_plain hd) hcd hmg hobj hints hlen hg) fun r s' hq => ?_)
  obtain ⟨rfl, h2, h3, h4⟩ := hq
  exact ⟨.inl ⟨.bool true, .bool true, [], rfl, fun _ => rfl, .bool true, post_true l _, fun _ => ⟨List.Pairwise.nil, fun _ hm => (nomatch hm)⟩⟩, h2, h3, h4⟩

/-! ### rules over ANY heap (no ledger) from facts about the written part K: the library's own take a ledger (News) for what they write -/
section
variable {prog : Program} {w : World} {A : Around} {E : Value → Shared → Prop} {s : Shared} {K : Frag}

/-! the whole heap as the ledger: makes every rule that writes through a ledger a rule over any heap -/
def noObjs (h : Heap) : Heap := { h with objs := #[] }
theorem noObjs_get (h : Heap) (b : Addr) : (noObjs h).get? b = none := by
  cases e : (noObjs h).get? b with
  | none => rfl
  | some o => exact absurd (Heap.lt_size e) (Nat.not_lt_zero _)
def ledger (h : Heap) (L d : Addr) : List (Addr × Obj) := (List.range h.objs.size).filterMap fun a => if a = L ∨ a = d then none else (h.get? a).map fun o => (a, o)
theorem mem_ledger {h : Heap} {L d a : Addr} {o : Obj} : (a, o) ∈ ledger h L d ↔ a ≠ L ∧ a ≠ d ∧ h.get? a = some o := by
  unfold ledger
  rw [List.mem_filterMap]
  constructor
  · rintro ⟨b, _, e⟩
    split at e
    · cases e
    · rename_i hb
      obtain ⟨o', ho, e'⟩ := Option.map_eq_some_iff.mp e
      cases e'
      exact ⟨fun q => hb (.inl q), fun q => hb (.inr q), ho⟩
  · rintro ⟨n1, n2, ho⟩
    refine ⟨a, List.mem_range.mpr (Heap.lt_size ho), ?_⟩
    rw [if_neg (show ¬ (a = L ∨ a = d) from fun q => q.elim n1 n2), ho] <;> rfl
theorem news_ledger {h : Heap} {L d : Addr} {od : Obj} (hne : d ≠ L) (ho : h.get? d = some od) : News (noObjs h) L h ([] ++ (d, od) :: ledger h L d) := by
  rintro ⟨a, o⟩ hp
  rcases List.mem_cons.mp hp with e | hp
  · cases e
    exact ⟨ho, hne, noObjs_get _ _⟩
  · obtain ⟨n1, n2, e⟩ := mem_ledger.mp hp
    exact ⟨e, n1, noObjs_get _ _⟩
theorem fr_all {h : Heap} {L : Addr} {m : Str → Option Value} (n : h.Ns L m) : Fr (noObjs h) L h m :=
  ⟨n, fun b o e => (by rw [noObjs_get] at e; cases e), Nat.zero_le _⟩
end
end Att

namespace L2
open PySem PySem.Spec PyProof.Rows

theorem vals_ints : ∀ {vs : List Value} {ns : List Int}, IntsAre vs ns → Vals (ns.map V.int) vs
  | _, _, .nil => .nil
  | _, _, .cons n t h => .cons ⟨t, rfl⟩ (vals_ints h)

/-- nothing is tracked but the script, known to the object (or it is an object of the module) -/
def Only (H : Hp) : Prop := ∀ b, H b = none ∨ ∃ o xs, H b = some (.frz o (.lst xs))

/-- THE HEAD: the law's promise, at the heap behind the top. F, the promise of the law's def, may use that base is part of the heap (so K.In base, base.Ns mainGlobals mg stand in Mod) -/
theorem law_call {P : Program} {w : World} {K : PySem.W.Frag} {mg mb : Str → Option Value} {CX : CXT} {k : Nat} {fa a : Addr} {fd : FuncData} {x : Str} {sp : Sp} {s₁ : Shared} {vs : List Value} {ns : List Int}
    (KX : K.In s₁.heap) (hns : s₁.heap.Ns mainGlobals mg) (hb : s₁.heap.Ns builtinsNs mb) (hbb : ∀ x : Str, x ≠ "__name__" → mb x = bootBuiltins x) (hlim : s₁.heap.NoLimit) (hg : s₁.gens = #[])
    (ha : s₁.heap.get? a = some { cls := .type "list", data := .seq vs.toArray }) (hi : IntsAre vs ns) (hl : ns.length ≤ sizeLine) (hr : Room k callerA)
    (F : ∀ base : Heap, K.In base → base.Ns mainGlobals mg → FnOk P w K mg base CX k fa fd [x] sp) (hbind : ∀ (s : Shared) (u : Value), BindsTo s fd ⟨[u], []⟩ [(x, u)])
    (hsp : ∀ H : Hp, Only H → SqL K H a (ns.map V.int) → sp [.ref a] H (fun v _ => v = .bl true) fun _ _ _ => False)
    (hCX : ∀ H e s', CX [] H s₁ (fun _ _ _ => False) e s' → False) :
    codeAny (model P w) callerA (.call (.ref fa) ⟨[.ref a], []⟩) (fun r s' => r = .ok (.ret (.bool true)) ∧ OldK s₁.heap s'.heap ∧ s'.os = s₁.os ∧ AllBare s'.gens) s₁ := by
  have rv := vals_ints hi
  have lenV := hi.length
  -- from an abstract heap in which nothing but the script may be tracked
  have core : ∀ H : Hp, Only H → SqL K H a (ns.map V.int) → HOk P w H s₁.heap → (∀ b, H b ≠ none → b = a) → (H a ≠ none → K.lookup a = none) →
      codeAny (model P w) callerA (.call (.ref fa) ⟨[.ref a], []⟩) (fun r s' => r = .ok (.ret (.bool true)) ∧ OldK s₁.heap s'.heap ∧ s'.os = s₁.os ∧ AllBare s'.gens) s₁ := by
    intro H hO hS hok hA hK
    have base_of : ∀ {b : Addr} {o : Obj}, s₁.heap.get? b = some o → H b = none → (hidT s₁.heap H).get? b = some o := fun e n => hidT_get e n
    have noA : ∀ {b : Addr} {o : Obj} {es : Array DictEntry} {ep : Nat}, s₁.heap.get? b = some o → o.data = .dict es ep → H b = none := fun {b o es ep} e d => by
      cases q : H b with
      | none => rfl
      | some u =>
        have e' : b = a := hA b (by rw [q]; simp)
        subst e'
        rw [ha] at e; cases e
        have d' : Data.seq vs.toArray _ = Data.dict es ep := d
        cases d'
    have nsK : ∀ {b : Addr} {m : Str → Option Value}, s₁.heap.Ns b m → (hidT s₁.heap H).Ns b m := fun {b m} ⟨o, es, ep, e, d, r⟩ => ⟨o, es, ep, base_of e (noA e d), d, r⟩
    have hKb : K.In (hidT s₁.heap H) := fun b o e => base_of (KX b o e) (by
      cases q : H b with
      | none => rfl
      | some u =>
        have e' : b = a := hA b (by rw [q]; simp)
        subst e'
        rw [hK (by rw [q]; simp)] at e; cases e)
    have hM : Mod K mg (hidT s₁.heap H) := ⟨hKb, nsK hns, ⟨mb, nsK hb, hbb⟩, let ⟨mc, h1, h2⟩ := hlim; ⟨mc, nsK h1, h2⟩⟩
    have e0 : Env0 P w K mg (hidT s₁.heap H) callerA [] s₁ H := ⟨rfl, hM, fun b o e => of_hidT e, Nat.le_of_eq (hidT_size _ _), trivial, fun b hb => absurd (show b ∈ ([] : List Addr) from hb) (by simp), hok, .of_eq hg⟩
    refine codeAny_mono ((F _ hKb (nsK hns)).run callerA [] s₁ H ⟨[.ref a], []⟩ [.ref a] [.ref a] _ _ hr e0 (hbind s₁ (.ref a)) (.cons rfl .nil) (hsp H hO hS)) fun r s' h => ?_
    cases r with
    | error e => exact (hCX H e s' h).elim
    | ok fl =>
      cases fl with
      | next => exact False.elim h
      | brk => exact False.elim h
      | cont => exact False.elim h
      | ret u =>
        obtain ⟨v, H', os, bare, un, hok', r', q⟩ := h
        have q' : v = .bl true := q
        subst q'
        obtain rfl : u = Value.bool true := r'
        refine ⟨rfl, OldK.of_keep fun b o e => ?_, os, bare⟩
        cases q : H b with
        | none => exact un.keep b o e q (by intro z; exact absurd (show b ∈ ([] : List Addr) from z) (by simp)) (by simp)
        | some u =>
          rcases hO b with z | ⟨ob, xs, z⟩
          · rw [q] at z; cases z
          · have z2 := un.frzs b ob _ z
            obtain ⟨e1, _⟩ := hok b _ z
            obtain ⟨e2, _⟩ := hok' b _ z2
            rw [e] at e1; cases e1
            exact e2
  cases hk : K.lookup a with
  | some o =>
    -- the script is one of the module's own objects
    have e := KX a o hk
    rw [ha] at e
    cases e
    refine core (fun _ => none) (fun _ => .inl rfl) (.inr ⟨_, vs.toArray, _, hk, rfl, rfl, rfl, by rw [List.size_toArray, lenV]; exact hl, by simpa using rv⟩) (fun b u z => by have z' : (none : Option HO) = some u := z; cases z') (fun b z => absurd rfl z) fun z => absurd rfl z
  | none =>
    refine core (fun b => if b = a then some (.frz { cls := .type "list", data := .seq vs.toArray } (.lst (ns.map V.int))) else none) (fun b => ?_) (.inl (.inr ⟨{ cls := .type "list", data := .seq vs.toArray }, if_pos rfl⟩)) (fun b u z => ?_) (fun b z => ?_) fun _ => hk
    · by_cases hb : b = a
      · exact .inr ⟨_, _, if_pos hb⟩
      · exact .inl (if_neg hb)
    · by_cases hb : b = a
      · have z' := (if_pos hb).symm.trans z
        cases z'
        subst hb
        exact ⟨ha, by rw [List.length_map]; exact hl, vs, _, rv, ha⟩
      · have z' := (if_neg hb).symm.trans z
        cases z'
    · by_cases hb : b = a
      · exact hb
      · exact absurd (if_neg hb) z
end L2

namespace L2
open PySem PySem.Spec PyProof.Rows

abbrev KOf {K : PySem.W.Frag} {h : Heap} (_ : K.In h) : PySem.W.Frag := K

/-- the goal that k_head leaves (case hc), from the law's promise. F gives the function object fd (K's own) once, then the promise over every base -/
theorem walk_of {l : PySem.W.OpenLaw} {n k : Nat} {q : Program} {loose : List Str} {XP : (Str → Option Value) → Heap → Prop} {YP : World → Heap → Prop} {d : DefRec} {K : Params → PySem.W.Frag} {CX : World → CXT} {sp : World → Sp} {x : Str}
    (hn : l.most = some n) (hn2 : n ≤ sizeLine) (hdf : d.params.defaults = []) (hr : Room k callerA)
    (hY : ∀ (w : World) (h : Heap), YP w h → (K w.params).In h)
    (F : ∀ (w : World) (mg : Str → Option Value) (fa : Addr) (h : Heap), (K w.params).In h → h.Ns mainGlobals mg → mg d.name = some (.ref fa) →
      ∃ fd : FuncData, (∀ (s : Shared) (u : Value), BindsTo s fd ⟨[u], []⟩ [(x, u)]) ∧
        ∀ base : Heap, (K w.params).In base → base.Ns mainGlobals mg → FnOk l.prog w (K w.params) mg base (CX w) k fa fd [x] (sp w))
    (hsp : ∀ (w : World) (H : Hp) (a : Addr) (ns : List Int), ns.length ≤ n → Only H → SqL (K w.params) H a (ns.map V.int) → sp w [.ref a] H (fun v _ => v = .bl true) fun _ _ _ => False)
    (hCX : ∀ (w : World) (H : Hp) (s : Shared) (e : Value) (s' : Shared), CX w [] H s (fun _ _ _ => False) e s' → False) :
    PySem.W.WalkO q loose XP YP l.row.toRowW d [] (fun f vs => PySem.call f vs) := by
  refine Att.attach_call hn hdf fun w s₀ s₁ mg mb fa o pm cd doc a vs ns G Y ho hd hcd hmg hobj hints hlen hg => ?_
  have KX := hY w _ Y
  obtain ⟨fd, hb, hF⟩ := F w mg fa _ KX G.T.g hmg
  exact law_call KX G.T.g G.T.b G.T.builtins G.T.nolimit hg hobj hints (Nat.le_trans hlen hn2) hr hF hb (fun H hO hS => hsp w H a ns hlen hO hS) fun H e s' => hCX w H s₁ e s'
end L2



/-! SHORT WORDS over the layer: a def of the text, its body, what a loop and a test want. -/
namespace L2
open PySem PySem.Spec PyProof.Rows

/-! ### the text by places -/
/-- the j-th statement of a class's body -/
def inClass (s : Stmt) (j : Nat) : Stmt := match s with
  | .ClassDef _ _ _ body _ _ _ _ _ _ _ => body.getD j (.Pass ⟨0, 0, 0, 0⟩)
  | _ => .Pass ⟨0, 0, 0, 0⟩
def defArgs (s : Stmt) : Arguments := match s with
  | .FunctionDef _ a _ _ _ _ _ _ _ _ => a
  | _ => { posonlyargs := [], args := [], vararg := none, kwonlyargs := [], kw_defaults := [], kwarg := none, defaults := [] }
def defBody (s : Stmt) : List Stmt := match s with
  | .FunctionDef _ _ b _ _ _ _ _ _ _ => b
  | _ => []
def defScope (s : Stmt) : Scope := match s with
  | .FunctionDef _ _ _ _ _ _ sc _ _ _ => sc
  | _ => { kind := .function, names := [], isGenerator := false, isCoroutine := false }

/-! ### no exception leaves a def -/
abbrev CX0 : CXT := fun _ _ _ _ _ _ => False
abbrev E0 : XK := fun _ _ _ => False
theorem pass0 {X : Cx} : Passes CX0 X E0 := fun _ _ _ _ _ _ _ h => h.elim

/-! ### a def (or method) of the text as it stands behind the top -/
structure Fun (K : PySem.W.Frag) (x qual : Str) (st : Stmt) (f : Addr) (fd : FuncData) : Prop where
  ex : ∃ (oc : Value) (od : Option Addr) (kV doc pm : Value) (an : Option Addr) (cdv ct : Value) (osl : Array (Option Value)),
    fd = PySem.W.fnOf x qual (defArgs st) (defBody st) (defScope st) .none kV doc pm an cdv ct ∧ K.lookup f = some ⟨oc, od, .func fd, osl⟩ ∧ PySem.W.codeIn K cdv qual = true
  kp : PySem.W.keepIn K (.ref f) = true
section
variable {P : Program} {w : World} {K : PySem.W.Frag} {mg : Str → Option Value} {base : Heap}
/-- THE RULE for a def: its body as a term of rules, and the reading of that term -/
theorem Fun.ok {x qual : Str} {st : Stmt} {f : Addr} {fd : FuncData} {N ps : List Str} {k : Nat} {sp : Sp} (F : Fun K x qual st f fd) (S : FnScope N ps (defScope st)) (len : ∀ vs H Q E, sp vs H Q E → vs.length = ps.length)
    (hbody : ∀ (cdv : Value) (A : Around) (outer : List Env) (s : Shared) (H : Hp) (vs : List V) (Q : VK) (E : XK), Room k (A.deeper (envOfC qual (defScope st) s.heap.objs.size f cdv)) → sp vs H Q E →
      ∃ t, PSs (cxOf CX0 P w K mg base N qual (defScope st) f cdv A outer s H E).nox (defBody st) t ∧ t { nx := fun _ H' => Q .non H', rt := Q } (start N vs) H) : FnOk P w K mg base CX0 (k + 1) f fd ps sp := by
  obtain ⟨oc, od, kV, doc, pm, an, cdv, ct, osl, rfl, lk, hcd⟩ := F.ex
  refine fn_of lk hcd S len fun A outer s H vs Q E hr hsp => ?_
  obtain ⟨t, h, q⟩ := hbody cdv A outer s H vs Q E hr hsp
  exact ⟨t, h.nox, q⟩
/-- how its arguments bind (no defaults): h is «fun _ _ _ _ _ _ us hl => match us, hl with | [_, _], _ => rfl», one _ a parameter -/
theorem Fun.binds {x qual : Str} {st : Stmt} {f : Addr} {fd : FuncData} {ps : List Str} (F : Fun K x qual st f fd)
    (h : ∀ (kV doc pm : Value) (an : Option Addr) (cdv ct : Value) (us : List Value), us.length = ps.length → bindArgs (PySem.W.fnOf x qual (defArgs st) (defBody st) (defScope st) .none kV doc pm an cdv ct) ⟨us, []⟩ = pure (ps.zip us)) : Binds K fd ps [] := by
  obtain ⟨oc, od, kV, doc, pm, an, cdv, ct, osl, rfl, lk, hcd⟩ := F.ex
  exact .all (h kV doc pm an cdv ct)
theorem fun_mk {x qual : Str} {st : Stmt} {f : Addr} {oc : Value} {od an : Option Addr} {osl : Array (Option Value)} {kV doc pm cdv ct : Value} (l : K.lookup f = some ⟨oc, od, .func (PySem.W.fnOf x qual (defArgs st) (defBody st) (defScope st) .none kV doc pm an cdv ct), osl⟩)
    (c : PySem.W.codeIn K cdv qual = true) (k : PySem.W.keepIn K (.ref f) = true) : Fun K x qual st f (PySem.W.fnOf x qual (defArgs st) (defBody st) (defScope st) .none kV doc pm an cdv ct) := ⟨⟨oc, od, kV, doc, pm, an, cdv, ct, osl, rfl, l, c⟩, k⟩
end
theorem hu_of {A : Around} {k : Nat} (hr : Room k A) : A.units + 1 < cLine := Nat.lt_of_le_of_lt (Nat.add_le_add_left (by decide : 1 ≤ 64) _) hr.units
/-! ### expressions in short: the name that stands in the i-th slot -/
section
variable {X : Cx}
theorem pv (i : Nat) {x : Str} {pos : Pos} (hN : X.N[i]? = some x := by rfl) (hv : Vis X.env.scope x := by first | exact Or.inl rfl | exact Or.inr (Or.inl rfl) | exact Or.inr (Or.inr rfl)) (hd : (x == ("__debug__" : Str)) = false := by decide)
    (hcd : (x == ("__classdict__" : Str)) = false := by decide) : PE X (.Name x pos) (tVar i) := pe_var hN hv hd hcd
end

/-! ### tests -/
theorem iteF {A B : Prop} (h : B) : if false = true then A else B := by
  rw [if_neg Bool.false_ne_true]
  exact h
theorem iteT {A B : Prop} (h : A) : if true = true then A else B := by
  rw [if_pos rfl]
  exact h
theorem ite2 {c A B : Prop} [Decidable c] (h1 : c → A) (h2 : ¬ c → B) : if c then A else B := by
  by_cases h : c
  · rw [if_pos h]
    exact h1 h
  · rw [if_neg h]
    exact h2 h
theorem iteNS {c A B : Prop} [Decidable c] (hc : c) (h : B) : if (!decide c) = true then A else B := by
  rw [decide_eq_true hc]
  exact iteF h

/-! ### heaps -/
/-- all that was tracked is as it was -/
def Same (H H' : Hp) : Prop := ∀ b o, H b = some o → H' b = some o
theorem Same.refl (H : Hp) : Same H H := fun _ _ h => h
theorem Same.trans {H H1 H2 : Hp} (a : Same H H1) (b : Same H1 H2) : Same H H2 := fun c o h => b c o (a c o h)
theorem Same.free {H H' : Hp} (e : Same H H') {l : Addr} (h : H' l = Option.none) : H l = Option.none := by
  cases q : H l with
  | none => rfl
  | some o =>
    rw [e l o q] at h
    cases h
theorem Same.seq {K : PySem.W.Frag} {H H' : Hp} {a : Addr} {xs : List V} (e : Same H H') (h : SqL K H a xs) : SqL K H' a xs := by
  rcases h with (h | ⟨o, h⟩) | h
  · exact .inl (.inl (e _ _ h))
  · exact .inl (.inr ⟨o, e _ _ h⟩)
  · exact .inr h

end L2

set_option maxHeartbeats 4000000
/-! ## Own words over the layer -/
namespace Ow
open PySem PySem.Spec PyProof.Rows L2
/-- a def of the text that keeps its promise, by its name -/
structure Has (P : Program) (w : World) (K : PySem.W.Frag) (mg : Str → Option Value) (base : Heap) (k : Nat) (x : Str) (ps : List Str) (sp : Sp) : Prop where
  ex : ∃ (f : Addr) (fd : FuncData), FnOk P w K mg base CX0 k f fd ps sp ∧ Binds K fd ps [] ∧ PySem.W.keepIn K (.ref f) = true ∧ mg x = some (.ref f)
section
variable {X : Cx} {k : Nat} {x : Str} {ps : List Str} {sp : Sp} {p pos : Pos} {e : Expr} {es : List Expr} {t : TA}
theorem pe_fn (h : Has X.prog X.w X.K X.mg X.base k x ps sp) (hr : Room k X.A) (hg : Gl X x) (ha : PA X (e :: es) t) (hdb : (x == ("__debug__" : Str)) = false := by decide)
    (he : starEach (e :: es) X.env = (false, eval e X.env) :: starEach es X.env := by rfl) (hpl : (backTo pos (starEach es X.env)).any (·.1) = false := by rfl) :
    PE X (.Call (.Name x p) (e :: es) [] pos) (tCall sp [] E0 t) := by
  obtain ⟨f, fd, F, b, kp, m⟩ := h.ex
  exact pe_call F hr hg m kp b .nil pass0 ha hdb he hpl
theorem pe_fn0 (h : Has X.prog X.w X.K X.mg X.base k x ps sp) (hr : Room k X.A) (hg : Gl X x) (hdb : (x == ("__debug__" : Str)) = false := by decide) :
    PE X (.Call (.Name x p) [] [] pos) (tCall sp [] E0 tNil) := by
  obtain ⟨f, fd, F, b, kp, m⟩ := h.ex
  exact pe_call0 F hr hg m kp b .nil pass0 hdb
/-- a built-in type as a value -/
theorem pe_ty {T : String} (hg : Gl X x) (hm : X.mg x = none) (hv : bootBuiltins x = some (.type T)) (hn : x ≠ "__name__" := by decide) (hd : (x == ("__debug__" : Str)) = false := by decide) : PE X (.Name x pos) (tC (.ty T)) := pe_bltn (v := .ty T) hg hm hv rfl hn hd
/-- a class of the text as a value -/
theorem pe_cls {C : Addr} (hg : Gl X x) (hm : X.mg x = some (.ref C)) (hd : (x == ("__debug__" : Str)) = false := by decide) : PE X (.Name x pos) (tC (.ref C)) := pe_glob (v := .ref C) hg hm rfl hd
/-- a class as isinstance takes it -/
def clsV : V → Option Value
  | .ty n => some (.type n)
  | .ref C => some (.ref C)
  | _ => none
theorem clsV_rel {c : V} {u cv : Value} (r : RelV c u) (h : clsV c = some cv) : u = cv := by
  cases c with
  | ty n => cases h; exact r
  | ref C => cases h; exact r
  | _ => cases h
theorem call_isinst : CallR X (.builtin "isinstance") (fun xs H Q => ∃ x c t cv b, xs = [x, c] ∧ clsV c = some cv ∧ TyOf X.K H x t ∧ PySem.W.kitOne X.K t cv = some b ∧ Q (.bl b) H) := by
  intro pins s σ H xs us Q I r h
  obtain ⟨x, c, t, cv, b, rfl, hc, ty, e, q⟩ := h
  obtain ⟨u, u', rfl, rx, rc⟩ := vals2 r
  cases clsV_rel rc hc
  exact isinst_ok I rx ty e fun tk => ⟨.bl b, H, I.tok _, rfl, q⟩
/-- // by a positive divisor below 2 ^ 8000 -/
theorem op_fdivB : OpR X (binaryOp .FloorDiv) (rI (fun _ j => 0 < j ∧ j.natAbs.log2 < 9000) fun i j => .int (i / j)) := opI fun i j _ _ _ _ _ hc q => by
  have h1 : (0 : Int) < j := hc.1
  exact floordiv_int (by omega) (by rw [Int.fdiv_eq_ediv_of_nonneg i (by omega)]; exact q) (.inl (PyProof.noPylong_of_log2 hc.2))
/-- products and shifts of great numbers -/
theorem op_mulB : OpR X (binaryOp .Mult) (rI (fun i j => Builtin.Int.intBits i ≤ 100000 ∧ Builtin.Int.intBits j ≤ 100000) fun i j => .int (i * j)) := opI fun _ _ _ _ _ _ _ hc q =>
  mul_int q (IntMulOk.of_bits (Nat.le_trans hc.1 (by decide)) (Nat.le_trans hc.2 (by decide)))
end
theorem kit_int_int (K : PySem.W.Frag) : PySem.W.kitOne K (.type "int") (.type "int") = some true := rfl
theorem kit_int_bool (K : PySem.W.Frag) : PySem.W.kitOne K (.type "int") (.type "bool") = some false := by with_unfolding_all rfl
theorem kit_bl_int (K : PySem.W.Frag) : PySem.W.kitOne K (.type "bool") (.type "int") = some true := by with_unfolding_all rfl
theorem kit_bl_bl (K : PySem.W.Frag) : PySem.W.kitOne K (.type "bool") (.type "bool") = some true := rfl
/-! ### tests -/
theorem iteD {c A B : Prop} [Decidable c] (hc : c) (h : A) : if decide c = true then A else B := by
  rw [if_pos (decide_eq_true hc)]
  exact h
theorem iteDN {c A B : Prop} [Decidable c] (hc : ¬ c) (h : B) : if decide c = true then A else B := by
  rw [if_neg (by rw [decide_eq_false hc]; decide)]
  exact h
/-- a test that two values are alike, and they are not -/
theorem iteN {c A B : Prop} [Decidable c] (hc : ¬ c) (h : A) : if (!decide c) = true then A else B := by
  rw [decide_eq_false hc]
  exact iteT h
/-! ### powers -/
theorem p1_pos (n : Nat) : (0 : Int) < 1 * 2 ^ n := by
  rw [Int.one_mul]
  exact Int.pow_pos (by decide)
theorem p_pos (n : Nat) : (0 : Int) < 2 ^ n := Int.pow_pos (by decide)
theorem p_mono {m n : Nat} (h : m ≤ n) : (2 : Int) ^ m ≤ 2 ^ n := by
  have e : n = m + (n - m) := by omega
  rw [e, Int.pow_add]
  have h1 := p_pos m
  have h2 : (1 : Int) ≤ 2 ^ (n - m) := p_pos (n - m)
  have h3 := Int.mul_le_mul_of_nonneg_left h2 (Int.le_of_lt h1)
  rw [Int.mul_one] at h3
  exact h3
/-! ### heaps: all but the thing at p is as it was -/
def SameX (p : Addr) (H H' : Hp) : Prop := ∀ b o, b ≠ p → H b = some o → H' b = some o
theorem SameX.refl (p : Addr) (H : Hp) : SameX p H H := fun _ _ _ h => h
theorem SameX.trans {p : Addr} {H H1 H2 : Hp} (a : SameX p H H1) (b : SameX p H1 H2) : SameX p H H2 := fun c o n h => b c o n (a c o n h)
theorem SameX.of {p : Addr} {H H' : Hp} (a : Same H H') : SameX p H H' := fun c o _ h => a c o h
theorem SameX.upd {p : Addr} {H : Hp} {o : HO} : SameX p H (upd H p o) := fun c u n h => by rw [upd_ne n]; exact h
theorem same_new {H : Hp} {p : Addr} (h : H p = none) (o : HO) : Same H (L2.upd H p o) := fun b u q => by rw [upd_ne (ne_of_none q h)]; exact q
/-- a new thing at p, changed or not: what stood before stands -/
theorem SameX.fresh {p : Addr} {H H1 : Hp} (h : H p = none) (a : SameX p H H1) : Same H H1 := fun b o q => a b o (ne_of_none q h) q
/-- three ints in a list: a box of draws -/
def Box (H : Hp) (p : Addr) : Prop := ∃ r s c : Int, H p = some (.lst [.int r, .int s, .int c])
theorem Box.same {H H' : Hp} {p : Addr} (b : Box H p) (s : Same H H') : Box H' p := by
  obtain ⟨r, s', c, h⟩ := b
  exact ⟨r, s', c, s _ _ h⟩
theorem getI (ns : List Int) (k : Nat) (h : k < ns.length) : atI (ns.map V.int) (k : Int) = some (.int ns[k]) := atI_nat (by rw [List.getElem?_map, List.getElem?_eq_getElem h] <;> rfl)
end Ow
/-! ## Own words for classes -/
namespace Ow
open PySem PySem.Spec PyProof.Rows L2
/-- a method of a class that keeps its promise -/
structure MHas (P : Program) (w : World) (K : PySem.W.Frag) (mg : Str → Option Value) (base : Heap) (k : Nat) (C : Addr) (m : Str) (ps : List Str) (sp : Sp) : Prop where
  cl : Cls K C
  ex : ∃ (f : Addr) (fd : FuncData), Meth K C m f ∧ FnOk P w K mg base CX0 k f fd ps sp ∧ Binds K fd ps []
/-- o.m(..), whatever the class of o is -/
def tMethP (X : Cx) (k : Nat) (m : Str) (ta : TE) (t : TA) : TE := fun σ H Q => ta σ H fun x H1 => ∃ (a C dx : Addr) (fs : List (Str × V)) (ps : List Str) (sp : Sp), x = .ref a ∧ H1 a = some (.ins C dx fs) ∧ fs.lookup m = none ∧
  MHas X.prog X.w X.K X.mg X.base k C m ps sp ∧ t σ H1 fun vs H2 => sp (x :: (vs ++ [])) H2 Q E0
/-- what a class without __init__ must have to be made -/
structure Mk0 (K : PySem.W.Frag) (C : Addr) : Prop where
  makes : PySem.W.makesIn K C = true
  init : PySem.W.findIn K (.ref C) "__init__" = some (some (.builtin "object.__init__"))
  kp : PySem.W.keepIn K (.ref C) = true
def tMk0 (C : Addr) : TE := fun _ H Q => ∀ x dx, H x = none → H dx = none → dx ≠ x → Q (.ref x) (upd (upd H dx (.own x)) x (.ins C dx []))
section
variable {X : Cx} {k : Nat} {x m : Str} {C : Addr} {p pos apos : Pos} {o e : Expr} {es : List Expr} {ta : TE} {t : TA}
theorem pe_methP0 {pl : Sem Bool} (he : PE X o ta) (hr : Room k X.A)
    (ht : eval (.Call (.Attribute o m apos) [] [] pos) X.env = (do
      let ov ← eval o X.env
      standAt apos.atName
      let (f, first) ← holding [ov] (getMethod ov m pl)
      callWith pos f first (backTo pos (starEach [] X.env)) (backToKw pos (keywordEach [] X.env))) := by rfl) :
    PE X (.Call (.Attribute o m apos) [] [] pos) (tMethP X k m ta tNil) := by
  intro pins s σ H Q I h
  refine PySem.W.methodCall_KW (pl := pl) (thn (he pins s σ H _ I h) fun u s1 ⟨x, H1, I1, rx, a, C, dx, fs, ps, sp, ex, ea, l, M, q⟩ => ?_) ht
  subst ex
  obtain rfl : u = Value.ref a := rx
  obtain ⟨f, fd, hm, F, hb⟩ := M.ex
  refine getmeth_ok I1 ea M.cl hm l ?_
  exact PySem.W.callWith_K0 (first := [.ref a]) I1.kIn hm.kp (run_fn (us := [.ref a]) (vs := [.ref a]) F hr hb .nil pass0 I1 (.cons rfl .nil) q)
/-- (a, b, ..) = a list of that length -/
def gTupL (K : PySem.W.Frag) (n : Nat) (t : TGs) : TG := fun v σ H Q => ∃ a xs, v = .ref a ∧ SqL K H a xs ∧ xs.length = n ∧ t xs σ H Q
end
end Ow
/-! ## A list comprehension: one clause over a name, no test -/
namespace Ow
open PySem PySem.Spec PyProof.Rows L2
/-- the block of a comprehension that runs within X; N: its own name first, then those that it sees -/
def cxComp (X : Cx) (N : List Str) (scope : Scope) (cl : List (Str × Addr)) (C : Addr) (s2 : Shared) (H2 : Hp) (fp : List Addr) : Cx where
  prog := X.prog
  w := X.w
  K := X.K
  mg := X.mg
  base := X.base
  A := X.A
  N := N
  s₀ := s2
  H₀ := H2
  env := compEnvC scope cl C X.env
  outer := X.stack
  stack := X.stack
  ex := fp
  calm := true
  fn := fun _ => false
  pn := []
  xe := fun _ _ => False
/-- what a comprehension asks: W, the word by the turn, a measure and the heap; D: the list that grows; cap: the values that the block sees -/
def tComp (wi : TI) (te : TE) (cap : L2.St → L2.St) : TE := fun σ H Q => wi σ H fun J H1 => ∀ D, H1 D = none → ∃ W : Nat → Nat → Hp → Prop, (∃ m, W 0 m (upd H1 D (.lst []))) ∧ ∀ i m H, W i m H →
  (J.stop i H ∧ Q (.ref D) H) ∨ (J.go i H ∧ ∀ x H', J.yld i H x H' → te (some x :: cap σ) H' fun y H2 => ∃ ys, H2 D = some (.lst ys) ∧ ys.length < sizeLine ∧ ∃ m', m' < m ∧ W (i + 1) m' (upd H2 D (.lst (ys ++ [y]))))
section
variable {X : Cx} {elt iter : Expr} {x : Str} {px pos : Pos} {scope : Scope} {wi : TI} {te : TE} {N : List Str} {cl : List (Str × Addr)} {cap : L2.St → L2.St}
theorem pe_comp (hc : X.calm = true) (hclos : closureFor scope X.env = pure cl) (hsub : ∀ n c, cl.lookup n = some c → X.env.cells.lookup n = some c)
    (hcell : ∀ y ∈ scope.names, y.2 ≠ .cell) (hkind : scope.kind = .function) (hnames : ∀ y ∈ scope.names, y.2 = .local → scope.names.lookup y.1 = some .local) (hx : scope.names.lookup x = some .local)
    (hhas : ∀ y, (Env.kindOf (compEnvC scope cl 0 X.env) y = some .cell ∨ Env.kindOf (compEnvC scope cl 0 X.env) y = some .free) → ∃ c, cl.lookup y = some c)
    (hN : (x :: N).Nodup) (hcapl : ∀ σ, (cap σ).length = N.length)
    (hcap : ∀ (σ : L2.St) (i : Nat) (y : Str) (v : V), σ.length = X.N.length → N[i]? = some y → (cap σ)[i]? = some (some v) → (Env.kindOf (compEnvC scope cl 0 X.env) y = some .cell ∨ Env.kindOf (compEnvC scope cl 0 X.env) y = some .free) ∧ X.env.kindOf y = some .cell ∧ ∃ j : Nat, X.N[j]? = some y ∧ σ[j]? = some (some v))
    (hi : PI X (.Name x px) iter wi) (he : ∀ C s2 H2 fp, PE (cxComp X (x :: N) scope cl C s2 H2 fp) elt te)
    (hs : ∀ z, foldedSetIterable iter X.env z = pure z := by intro _; rfl) :
    PE X (.ListComp elt [⟨.Name x px, iter, [], 0⟩] scope pos) (tComp wi te cap) := by
  intro pins s σ H Q I h
  rw [eval_ListComp]
  refine wpAny_comprehension_free (use := none) rfl hs hclos hkind hnames (thn (hi pins s σ H _ I h) fun xv s1 h1 => thn h1 fun itv s2 h2 => ?_)
  obtain ⟨it, fp, tn, J, H2, e, I2, T, st2, f2, hW⟩ := h2
  subst e
  have hD : H2 s2.heap.objs.size = none := I2.hok.fresh (Nat.le_refl _)
  obtain ⟨W, ⟨m0, w0⟩, turn⟩ := hW s2.heap.objs.size hD
  refine wpAny_newObj_type (wpAny_newFunctionEnv hcell (by intro y hy; simp at hy) (fun h4 hns4 hsb4 => ?_) hkind) (by show 0 ≤ sizeLine; decide)
  dsimp only at hns4 hsb4 ⊢
  generalize hH3 : s2.heap.push { cls := .type "list", dict := none, data := .seq ([] : List Value).toArray } = H3 at hns4 hsb4 ⊢
  have hCz : H3.objs.size = s2.heap.objs.size + 1 := by rw [← hH3, Heap.size_push]
  have old3 : ∀ b o, s2.heap.get? b = some o → H3.get? b = some o := fun b o e => hH3 ▸ Heap.get?_push_of_some _ e
  have eD3 : H3.get? s2.heap.objs.size = some { cls := .type "list", dict := none, data := .seq ([] : List Value).toArray } := hH3 ▸ Heap.get?_push_size _ rfl
  have old4 : ∀ b o, H3.get? b = some o → h4.get? b = some o := fun b o e => hsb4.extBut b o (Nat.ne_of_lt (Heap.lt_size e)) (Heap.get?_push_of_some _ e)
  have old : ∀ b o, s2.heap.get? b = some o → h4.get? b = some o := fun b o e => old4 b o (old3 b o e)
  have szC : s2.heap.objs.size < H3.objs.size := by rw [hCz]; exact Nat.lt_succ_self _
  have fpC : ∀ b ∈ fp, b ≠ H3.objs.size := fun b hb => by
    obtain ⟨o, ho, _⟩ := T.obj 0 _ st2 b hb
    exact Nat.ne_of_lt (Nat.lt_trans (Heap.lt_size ho) szC)
  -- the block's context
  have ok' : (cxComp X (x :: N) scope cl H3.objs.size s2 H2 fp).Ok := by
    refine ⟨I2.ok.mod, hkind, I2.ok.glob, I2.ok.blt, (Nat.le_of_lt szC), fun a b c e1 e2 => I2.ok.inj a b c (hsub a c e1) (hsub b c e2), fun y hy => hhas y hy, fun y c z _ => absurd (show false = true from z) (by decide),
      fun _ => I2.ok.hd hc, I2.ok.frames, .inl rfl, fun b hb => ⟨fpC b hb, fun y c e => (f2 b hb).2.2.2.2.1 y c (hsub y c e)⟩, I2.bs, Nat.le_trans I2.ok.bsz I2.sz, fun b o e hb => ?_, fun b hb z => ?_, I2.stack, I2.stkFree⟩
    · rcases (f2 b hb).2.2.2.1 with q | q
      · exact I2.ok.noex b o e q
      · exact absurd (Nat.lt_of_lt_of_le (Heap.lt_size e) (Nat.le_trans I2.ok.bsz q)) (Nat.lt_irrefl _)
    · rcases List.mem_cons.mp (I2.stkSub b z) with q | q
      · exact (f2 b hb).2.1 q
      · exact (f2 b hb).2.2.1 q
  have okD : ObjOk X.prog X.w (upd H2 s2.heap.objs.size (.lst [])) h4 s2.heap.objs.size (.lst []) := ⟨Nat.zero_le _, [], 0, .nil, old4 _ _ eD3⟩
  have I4 : Inv (cxComp X (x :: N) scope cl H3.objs.size s2 H2 fp) [] (none :: cap σ) (upd H2 s2.heap.objs.size (.lst [])) { s2 with heap := h4, toks := s2.toks + ([] : List (Str × Value)).length } := by
    refine ⟨ok', rfl, I2.bare, Un.laid old (Nat.le_refl _) hD, ⟨_, hns4, fun i y v e1 e2 _ => ?_⟩, fun y c e => ?_, ?_, fun y c e => ?_, fun p hp => absurd hp (by show p ∉ ([] ++ [] : List (Addr × Obj)); simp), I2.hok.laid old (Nat.le_refl _) okD, ?_⟩
    · cases i with
      | zero => simp at e2
      | succ i =>
        obtain ⟨k1, k2, j, e3, e4⟩ := hcap σ i y v I2.len (show N[i]? = some y from e1) (show (cap σ)[i]? = some (some v) from e2)
        obtain ⟨m, _, hl⟩ := I2.loc
        obtain ⟨u, ru, lk⟩ := hl j y v e3 e4 (.inr (.inl k2))
        refine ⟨u, ru, .inr ⟨k1, ?_⟩⟩
        rcases lk with ⟨z, _⟩ | ⟨_, c, e5, hcl⟩
        · rw [k2] at z; cases z
        · obtain ⟨c', e6⟩ := hhas y k1
          have : c' = c := by
            have := hsub y c' e6
            rw [e5] at this
            exact (Option.some.inj this).symm
          subst this
          obtain ⟨oc, ho, hd⟩ := hcl
          exact ⟨c', e6, oc, old _ _ ho, hd⟩
    · obtain ⟨v, oc, ho, hd⟩ := I2.cell y c (hsub y c e)
      exact ⟨v, oc, old _ _ ho, hd⟩
    · show upd H2 s2.heap.objs.size (.lst []) H3.objs.size = none
      rw [upd_ne (Nat.ne_of_gt szC)]
      exact I2.hok.fresh (Nat.le_of_lt szC)
    · have h1 := I2.freeC y c (hsub y c e)
      obtain ⟨v, oc, ho, _⟩ := I2.cell y c (hsub y c e)
      rw [upd_ne (Nat.ne_of_lt (Heap.lt_size ho))]
      exact h1
    · show (none :: cap σ).length = (x :: N).length
      simp [hcapl]
  have stat : ∀ {H' : Hp}, (∀ b ∈ fp, H' b = none) → ∀ b ∈ fp, FpOk (cxComp X (x :: N) scope cl H3.objs.size s2 H2 fp) [] H' b := fun {H'} hn b hb =>
    ⟨hn b hb, (ok'.exf b hb).1, ok'.exfs b hb, .inl hb, (ok'.exf b hb).2, fun p hp => absurd hp (by show p ∉ ([] ++ [] : List (Addr × Obj)); simp)⟩
  have loop : codeAny (model X.prog X.w) X.A (.compLoop (.ListComp elt [⟨.Name x px, iter, [], 0⟩] scope pos) 0 (.ref it) (.ref s2.heap.objs.size) (compEnvC scope cl H3.objs.size X.env))
      (compPost (model X.prog X.w) X.A X.xe none (EP X pins σ Q) (.ref s2.heap.objs.size) H3.objs.size) { s2 with heap := h4, toks := s2.toks + ([] : List (Str × Value)).length } := by
    refine codeAny_compLoop_list (fun n s' => ∃ (i : Nat) (z0 : Option V) (H' : Hp), Inv (cxComp X (x :: N) scope cl H3.objs.size s2 H2 fp) [] (z0 :: cap σ) H' s' ∧ tn i s'.heap ∧ (∀ b ∈ fp, H' b = none) ∧ W i n H') ?_ m0
      ⟨0, none, _, I4, T.keep 0 _ _ st2 (fun b _ o e => old b o e), fun b hb => ?_, w0⟩
    · rintro n s5 ⟨i, z0, H5, I5, st5, fr5, w5⟩
      rcases turn i n H5 w5 with ⟨stop, qn⟩ | ⟨go, step⟩
      · refine wpAny_mono (T.done (cxComp X (x :: N) scope cl H3.objs.size s2 H2 fp) rfl rfl rfl rfl i [] s5 _ H5 _ I5 (stat fr5) st5 stop) (fun r s6 ⟨hr, I6⟩ => ?_) fun _ _ z => z
        subst hr
        obtain ⟨m, hn6, _⟩ := id I6.loc
        refine ⟨m, hn6, fun h' sb => ⟨.ref s2.heap.objs.size, H5, ?_, rfl, qn⟩⟩
        have kp : ∀ b o, b ≠ H3.objs.size → s6.heap.get? b = some o → h'.get? b = some o := fun b o hb e => sb.extBut b o hb e
        have nC : ∀ b o, s2.heap.get? b = some o → b ≠ H3.objs.size := fun b o e => Nat.ne_of_lt (Nat.lt_trans (Heap.lt_size e) szC)
        have fC : H5 H3.objs.size = none := I6.free
        refine I2.call' (ch := fp) (s' := { s6 with heap := h' }) I6.os ?_ ?_ I6.bare fun b hb => ⟨(f2 b hb).2.2.2.1, (f2 b hb).2.1, (f2 b hb).2.2.2.2.1, (f2 b hb).2.2.2.2.2⟩
        · have U : Un (frs X.stack) fp H2 H5 s2.heap s6.heap := I6.base
          exact ⟨fun b o e n1 n2 n3 => kp b o (nC b o e) (U.keep b o e n1 n2 n3), fun b o e n1 n2 n3 => by
              obtain ⟨sl, q⟩ := U.slot b o e n1 n2 n3
              exact ⟨sl, kp b _ (nC b o e) q⟩, U.free, fun b o e n3 => by
              obtain ⟨o', q⟩ := U.there b o e n3
              exact ⟨o', kp b _ (nC b o e) q⟩, U.tups, U.frzs, U.tbls⟩
        · intro b u e
          refine (I6.hok b u e).stay (fun c v hc q => kp c v (fun z => ?_) q) (fun _ q => q) fun _ _ q => q
          rcases hc with y | y
          · rw [← y, z, fC] at e
            cases e
          · rw [z, fC] at y
            cases y
      · refine wpAny_mono (T.item (cxComp X (x :: N) scope cl H3.objs.size s2 H2 fp) rfl rfl rfl rfl i [] s5 _ H5 _ I5 (stat fr5) st5 go) (fun r s6 ⟨u, hr, h6⟩ => ?_) fun _ _ z => z
        subst hr
        have key : (letOwnedTupleGo (.Name x px) (.ref it) u >>= fun _ => assign (.Name x px) (compEnvC scope cl H3.objs.size X.env) u) = assign (.Name x px) (compEnvC scope cl H3.objs.size X.env) u := by first | rfl | exact pure_bind _ _
        dsimp only
        rw [← key]
        refine wpAny_bind (wpAny_mono h6 (fun _ s7 ⟨v, H7, I7, r7, y7, st7, fr7⟩ => ?_) fun _ _ z => z)
        have I7' := I7.pinned (stat fr7) (T.obj _ _ st7)
        refine wpAny_assign_Name (store_ok (i := 0) I7' hN rfl (.inl (lookup_relabel_local hx)) r7 (fun s8 I8 => ?_) (.inr (lookup_relabel_local hx)))
        refine wpAny_mono (he H3.objs.size s2 H2 fp _ s8 (some v :: cap σ) H7 _ I8 (step v H7 y7)) (fun w9 s9 ⟨y, H9, I9, r9, ys, hys, hlt, m', hm, w9'⟩ => ?_) fun _ _ z => z.elim
        refine wpAny_mono (mt_append (X := cxComp X (x :: N) scope cl H3.objs.size s2 H2 fp) _ s9 _ H9 (.ref s2.heap.objs.size) [y] _ [w9] (fun _ Hn => Hn = upd H9 s2.heap.objs.size (.lst (ys ++ [y]))) I9 rfl (.cons r9 .nil) ⟨_, ys, y, rfl, rfl, hys, hlt, rfl⟩) (fun _ s10 ⟨_, H10, I10, _, e10⟩ => ?_) fun _ _ z => z.elim
        subst e10
        refine ⟨m', hm, i + 1, some v, _, I10.unpinned, T.keep _ _ _ st7 fun b hb o e => (I10.pin (b, o) (List.mem_append_right _ (List.mem_append_right _ (mem_pinsAt hb e)))).1, fun b hb => ?_, w9'⟩
        obtain ⟨o, e, d⟩ := T.obj _ _ st7 b hb
        exact (I10.pin (b, o) (List.mem_append_right _ (List.mem_append_right _ (mem_pinsAt hb e)))).2.1
    · obtain ⟨o, ho, _⟩ := T.obj 0 _ st2 b hb
      rw [upd_ne (Nat.ne_of_lt (Heap.lt_size ho))]
      exact (f2 b hb).1
  exact codeAny_compStart_list loop (T.self X.A 0 _ _ _ (T.keep 0 _ _ st2 (fun b _ o e => old b o e)) loop)
/-- the same where the block sees nothing but its own name -/
theorem pe_comp0 (hc : X.calm = true) (hclos : closureFor scope X.env = pure []) (hno : ∀ p ∈ scope.names, p.2 ≠ .cell ∧ p.2 ≠ .free) (hkind : scope.kind = .function)
    (hnames : ∀ y ∈ scope.names, y.2 = .local → scope.names.lookup y.1 = some .local) (hx : scope.names.lookup x = some .local)
    (hi : PI X (.Name x px) iter wi) (he : ∀ C s2 H2 fp, PE (cxComp X [x] scope [] C s2 H2 fp) elt te)
    (hs : ∀ z, foldedSetIterable iter X.env z = pure z := by intro _; rfl) :
    PE X (.ListComp elt [⟨.Name x px, iter, [], 0⟩] scope pos) (tComp wi te fun _ => []) := by
  refine pe_comp (N := []) (cl := []) hc hclos (fun _ _ e => nomatch e) (fun y hy => (hno y hy).1) hkind hnames hx (fun y hy => ?_) (by simp) (fun _ => rfl) (fun _ i y v _ e _ => by simp at e) hi he hs
  exfalso
  have sub : ∀ (l : List (Str × NameKind)), (∀ p ∈ l, p.2 ≠ .cell ∧ p.2 ≠ .free) → ∀ p ∈ (l.map fun (n, k) => if (k == NameKind.free && X.env.scope.kind == ScopeKind.function && X.env.kindOf n == some NameKind.cell) then (n, NameKind.cell) else (n, k)), p.2 ≠ .cell ∧ p.2 ≠ .free := by
    intro l hl p hp
    obtain ⟨q, hq, e⟩ := List.mem_map.mp hp
    have h1 := hl q hq
    obtain ⟨n, k⟩ := q
    have hf : (k == NameKind.free) = false := by
      cases k <;> first | rfl | exact absurd rfl h1.2
    rw [← e]
    dsimp only
    rw [hf, Bool.false_and, Bool.false_and, if_neg (by decide)]
    exact h1
  have mem : ∀ k, Env.kindOf (compEnvC scope [] 0 X.env) y = some k → k ≠ .cell ∧ k ≠ .free := fun k e => sub scope.names hno (y, k) (PySem.mem_of_lookup e)
  rcases hy with z | z
  · exact (mem _ z).1 rfl
  · exact (mem _ z).2 rfl
/-- over a list that the block leaves as it is -/
theorem comp_list {K : PySem.W.Frag} {a D : Addr} {xs : List V} {te' : TE} {tl : L2.St} {G : Hp → Prop} {H1 : Hp} (Pv : Nat → Hp → Prop) (h0 : Pv 0 (upd H1 D (.lst []))) (hl : ∀ i H, i ≤ xs.length → Pv i H → SqL K H a xs)
    (hs : ∀ i x H, xs[i]? = some x → Pv i H → te' (some x :: tl) H fun y H2 => ∃ ys, H2 D = some (.lst ys) ∧ ys.length < sizeLine ∧ ∃ m', m' < xs.length - i ∧ (m' = xs.length - (i + 1) ∧ i + 1 ≤ xs.length ∧ Pv (i + 1) (upd H2 D (.lst (ys ++ [y])))))
    (hd : ∀ H, Pv xs.length H → G H) :
    ∃ W : Nat → Nat → Hp → Prop, (∃ m, W 0 m (upd H1 D (.lst []))) ∧ ∀ i m H, W i m H →
      ((Itl K a).stop i H ∧ G H) ∨ ((Itl K a).go i H ∧ ∀ x H', (Itl K a).yld i H x H' → te' (some x :: tl) H' fun y H2 => ∃ ys, H2 D = some (.lst ys) ∧ ys.length < sizeLine ∧ ∃ m', m' < m ∧ W (i + 1) m' (upd H2 D (.lst (ys ++ [y])))) := by
  refine ⟨fun i m H => m = xs.length - i ∧ i ≤ xs.length ∧ Pv i H, ⟨xs.length, by simp, Nat.zero_le _, h0⟩, ?_⟩
  rintro i m H ⟨rfl, hi, p⟩
  have q := hl i H hi p
  by_cases hlt : i < xs.length
  · refine .inr ⟨⟨xs, xs[i], q, by simp [hlt]⟩, fun x H' y => ?_⟩
    obtain ⟨e, y⟩ := y
    subst e
    exact hs i x _ (y xs q) p
  · have e : i = xs.length := by omega
    subst e
    exact .inl ⟨⟨xs, q, Nat.le_refl _⟩, hd H p⟩
end
/-- two statements, with a word J between them: both ways of the first come to J -/
def tJoin (t u : TS) : TS := fun D σ H => ∃ J : L2.St → Hp → Prop, t { D with nx := J } σ H ∧ ∀ σ' H', J σ' H' → u D σ' H'
theorem pss_join {X : Cx} {st : Stmt} {rest : List Stmt} {t u : TS} (h1 : PS X st t) (h2 : PSs X rest u) : PSs X (st :: rest) (tJoin t u) := by
  intro pins s σ H D I h
  obtain ⟨J, h, hJ⟩ := h
  refine wpAny_execs_cons (thn (h1 pins s σ H { D with nx := J } I h) fun f s1 q => ?_)
  cases f with
  | next =>
    obtain ⟨σ', H', I', q⟩ := q
    exact h2 pins s1 σ' H' D I' (hJ _ _ q)
  | ret v => exact q
  | brk => exact q
  | cont => exact q
end Ow
/-! ## Tuples and lists of flat values, compared -/
namespace Ow
open PySem PySem.Spec PyProof.Rows L2
def eqVs (xs ys : List V) : Bool := (List.range (min xs.length ys.length)).all (fun j => eqV (xs.getD j .non) (ys.getD j .non)) && xs.length == ys.length
section
variable {X : Cx}
theorem vals_at {xs : List V} {us : List Value} (r : Vals xs us) {j : Nat} (h1 : j < us.length) : RelV (xs.getD j .non) us[j] := by
  have hl := r.length
  have hj : j < xs.length := by omega
  obtain ⟨u, hu, ru⟩ := r.get (i := j) (x := xs[j]) (List.getElem?_eq_getElem hj)
  rw [List.getElem?_eq_getElem h1] at hu
  rw [List.getD_eq_getElem?_getD, List.getElem?_eq_getElem hj]
  cases hu
  exact ru
/-- == of two tuples of flat values -/
def rEqT (K : PySem.W.Frag) : R2 := fun x y H Q => ∃ p q xs ys, x = .ref p ∧ y = .ref q ∧ SqT K H p xs ∧ SqT K H q ys ∧ xs.all flatV = true ∧ ys.all flatV = true ∧ Q (.bl (eqVs xs ys)) H
/-- != of two tuples of flat values -/
def rNeT (K : PySem.W.Frag) : R2 := fun x y H Q => ∃ p q xs ys, x = .ref p ∧ y = .ref q ∧ SqT K H p xs ∧ SqT K H q ys ∧ xs.all flatV = true ∧ ys.all flatV = true ∧ Q (.bl (!eqVs xs ys)) H
/-- a list beside the empty list -/
def rEq0 (K : PySem.W.Frag) (neg : Bool) : R2 := fun x y H Q => ∃ p q xs, x = .ref p ∧ y = .ref q ∧ SqL K H p xs ∧ SqL K H q [] ∧ Q (.bl (if neg then !xs.isEmpty else xs.isEmpty)) H
theorem op_ne0 (hu : X.A.units < cLine) : OpR X (compareOp .NotEq) (rEq0 X.K true) := by
  intro pins s σ H x y v u Q I rx ry h
  obtain ⟨p, q, xs, rfl, rfl, hp, hq, k⟩ := h
  cases rx
  cases ry
  obtain ⟨its, r, pl, hz⟩ := I.list hp
  obtain ⟨its2, r2, pl2, hz2⟩ := I.list hq
  cases r2
  have hl := r.length
  cases xs with
  | nil =>
    cases r
    exact SeqAt.RcNeAt.lists (e := fun _ => true) pl.isList pl2.isList rfl hu (fun j h1 _ => absurd h1 (by simp)) X.prog X.w X.xe _ ⟨.bl _, H, I, rfl, k⟩
  | cons z zs =>
    refine SeqAt.RcNeAt.lists_lengths pl.isList pl2.isList ?_ hu X.prog X.w X.xe _ ⟨.bl _, H, I, rfl, k⟩
    rw [List.length_cons] at hl
    simp only [List.size_toArray, ← hl]
    rfl
/-- xs[::-1]: a new list -/
def tRev (K : PySem.W.Frag) (te : TE) : TE := fun σ H Q => te σ H fun x H1 => ∃ a xs, x = .ref a ∧ SqL K H1 a xs ∧ ∀ p, H1 p = none → Q (.ref p) (upd H1 p (.lst xs.reverse))
theorem pe_rev {e : Expr} {te : TE} {j : Nat} {p1 p2 p3 pos : Pos} (he : PE X e te) : PE X (.Subscript e (.Slice none none (some (.UnaryOp .USub (.Constant (.int 1) j p1) p3)) p2) pos) (tRev X.K te) := by
  intro pins s σ H Q I h
  refine Subscript_ (thn (he pins s σ H _ I h) fun v s1 ⟨x, H1, I1, r1, a, xs, ex, hx, q⟩ => ?_)
  subst ex
  cases r1
  refine wpAny_Slice ?_
  rw [evalPart_none]
  refine wpAny_pure (wpAny_pure ?_)
  rw [evalPart_some]
  refine thn ((pe_un un_neg pe_int : PE X (.UnaryOp .USub (.Constant (.int 1) j p1) p3) _) pins s1 σ H1 (fun z Hz => z = .int (-1) ∧ Hz = H1) I1 ⟨_, rfl, rfl, rfl⟩) fun vk s2 ⟨z, H2, I2, rz, ez, eH⟩ => ?_
  subst ez eH
  obtain ⟨tk, rfl⟩ := rz
  obtain ⟨its, r, ht, hz⟩ := I2.list hx
  have hlen := r.length
  have I4 : Inv X pins σ H2 { s2 with heap := s2.heap.push { cls := .type "slice", data := .fields #[.none, .none, .int (-1) tk] } } := I2.kept (t' := s2.toks) fun b ob q => Heap.get?_push_of_some _ q
  obtain ⟨its', r', ht', hz'⟩ := I4.list hx
  show wpAny (model X.prog X.w) X.A (subscriptTail e (.Slice none none (some (.UnaryOp .USub (.Constant (.int 1) j p1) p3)) p2) (.ref a) (.ref s2.heap.objs.size)) (EP X pins σ Q) X.xe { s2 with heap := s2.heap.push { cls := .type "slice", data := .fields #[.none, .none, .int (-1) tk] } }
  have hlen' := r'.length
  refine tail_any (ops := [.ref a, .ref s2.heap.objs.size]) ht'.isList.typeIs slot_list_getitem.lookup (wpAny_getItem_list_slice ht'.isList (Heap.IsSliceOf.new ..) .none .none (.int (-1) tk) (by decide) ?_ (by rw [List.size_toArray] <;> omega)) (by with_unfolding_all rfl)
  rw [PySem.W.krv_pick]
  refine ⟨.ref (s2.heap.push { cls := .type "slice", data := .fields #[.none, .none, .int (-1) tk] }).objs.size, _, I4.laid (t' := s2.toks) (o := .lst xs.reverse) (fun b ob q => Heap.get?_push_of_some _ q) (Nat.le_refl _) ?_, rfl, q _ (I4.hok.fresh (Nat.le_refl _))⟩
  refine ⟨by rw [List.length_reverse]; exact hz, its'.reverse, 0, L2.Vals.reverse r', ?_⟩
  exact Heap.get?_push_size _ rfl
/-- a function read off a class of the text: C.m -/
structure ClsFn (K : PySem.W.Frag) (C : Addr) (m : Str) (f : Addr) : Prop where
  reads : PySem.W.readsIn K C (.type "type") = true
  ga : PySem.W.specialIn K (.ref C) "__getattribute__" = some (some (.builtin "type.__getattribute__"))
  fnd : PySem.W.findCls K (.ref C) (.type "type") m = some (.val (.ref f))
  hd : PySem.W.handedIn (.ref f) = true
  kp : PySem.W.keepIn K (.ref f) = true
end
end Ow
/-! ## Lists put together, ranges downwards, things within things compared -/
namespace Ow
open PySem PySem.Spec PyProof.Rows L2
section
variable {X : Cx}
def rAddL (K : PySem.W.Frag) : R2 := fun x y H Q => ∃ a b xs ys, x = .ref a ∧ y = .ref b ∧ SqL K H a xs ∧ SqL K H b ys ∧ xs.length + ys.length ≤ sizeLine ∧ ∀ p, H p = none → Q (.ref p) (upd H p (.lst (xs ++ ys)))
theorem op_addL : OpR X (binaryOp .Add) (rAddL X.K) := by
  intro pins s σ H x y v u Q I rx ry h
  obtain ⟨a, b, xs, ys, rfl, rfl, ha, hb, hz, q⟩ := h
  cases rx
  cases ry
  obtain ⟨its, r, pl, _⟩ := I.list ha
  obtain ⟨its2, r2, pl2, _⟩ := I.list hb
  have hl := r.length
  have hl2 := r2.length
  obtain ⟨⟨cls, dd, data, sl⟩, ho, hc, n, hd⟩ := id pl.isList
  obtain ⟨⟨cls2, dd2, data2, sl2⟩, ho2, hc2, n2, hd2⟩ := id pl2.isList
  simp only at hc hd hc2 hd2
  subst hc hd hc2 hd2
  have e : its.toArray ++ its2.toArray = (its ++ its2).toArray := by simp
  refine concat_meets ⟨_, ho, rfl⟩ ⟨_, ho2, rfl⟩ noFill_list_add seq_list_add PySem.F.slot_list_add PySem.F.entry_list_add (PySem.F.args_list_add_2 _ _) (list_addW a b its.toArray its2.toArray n n2 dd dd2 sl sl2 (by simp; omega)) ⟨ho, ho2, ?_⟩
  rw [e]
  exact ⟨.ref s.heap.objs.size, _, I.lnew (t' := s.toks) (r.append r2) (by rw [List.length_append]; exact hz), rfl, q _ I.fresh⟩
/-- lo, lo - 1, .. (n of them) -/
def Itd (lo : Int) (n : Nat) : It := ⟨fun i _ => i < n, fun i H x H' => H' = H ∧ x = .int (lo - i), fun i _ => n ≤ i⟩
variable {tg : Expr}
def iDown (ta : TA) : TI := fun σ H R => ta σ H fun vs H1 => ∃ i : Int, vs = [.int i, .int (-1), .int (-1)] ∧ -1 ≤ i ∧ i < 2 ^ 62 ∧ R (Itd i (i + 1).toNat) H1
/-! ### deep equality: of flat things, tuples and lists -/
inductive EqD (K : PySem.W.Frag) (H : Hp) : Nat → V → V → Bool → Prop where
  | flat {d : Nat} {x y : V} (fx : flatV x = true) (fy : flatV y = true) : EqD K H d x y (eqV x y)
  | tup {d : Nat} {p q : Addr} {xs ys : List V} {e : Nat → Bool} (hn : p ≠ q) (hx : SqT K H p xs) (hy : SqT K H q ys) (he : ∀ j, j < xs.length → j < ys.length → EqD K H d (xs.getD j .non) (ys.getD j .non) (e j)) :
      EqD K H (d + 1) (.ref p) (.ref q) ((List.range (min xs.length ys.length)).all e && xs.length == ys.length)
  | lst {d : Nat} {p q : Addr} {xs ys : List V} {e : Nat → Bool} (hn : p ≠ q) (hx : SqL K H p xs) (hy : SqL K H q ys) (hl : xs.length = ys.length) (he : ∀ j, j < xs.length → EqD K H d (xs.getD j .non) (ys.getD j .non) (e j)) :
      EqD K H (d + 1) (.ref p) (.ref q) ((List.range xs.length).all e)
  | same {d : Nat} {p : Addr} : EqD K H d (.ref p) (.ref p) true
theorem EqD.at {pins : List (Addr × Obj)} {σ : L2.St} {H : Hp} {s : Shared} (I : Inv X pins σ H s) : ∀ {d : Nat} {x y : V} {b : Bool} {u v : Value} {A : Around}, EqD X.K H d x y b → RelV x u → RelV y v → A.units + d < cLine → SeqAt.EqAt A s u v b := by
  intro d x y b u v A h
  induction h generalizing u v A with
  | flat fx fy => intro rx ry _; exact eqAt_V rx ry fx fy
  | same => intro rx ry _; cases rx; cases ry; exact SeqAt.EqAt.same _
  | @tup d p q xs ys e hn hx hy he ih =>
    intro rx ry hu
    cases rx
    cases ry
    obtain ⟨its, r, pl, _⟩ := I.tuple hx
    obtain ⟨its2, r2, pl2, _⟩ := I.tuple hy
    have hl := r.length
    have hl2 := r2.length
    have := SeqAt.EqAt.of_refs hn (SeqAt.RcAt.tuples (A := A) (e := e) pl pl2 (by omega) (fun j h1 h2 => by
      have h1' : j < its.length := by simpa using h1
      have h2' : j < its2.length := by simpa using h2
      have z := ih j (by omega) (by omega) (vals_at r h1') (vals_at r2 h2') (A := A.in1) (by show A.units + 1 + d < _; omega)
      simpa using z))
    simp only [List.size_toArray, ← hl, ← hl2] at this
    exact this
  | @lst d p q xs ys e hn hx hy hle he ih =>
    intro rx ry hu
    cases rx
    cases ry
    obtain ⟨its, r, pl, _⟩ := I.list hx
    obtain ⟨its2, r2, pl2, _⟩ := I.list hy
    have hl := r.length
    have hl2 := r2.length
    have := SeqAt.EqAt.of_refs hn (SeqAt.RcAt.lists (A := A) (e := e) pl.isList pl2.isList (by simp only [List.size_toArray]; omega) (by omega) (fun j h1 h2 => by
      have h1' : j < its.length := by simpa using h1
      have h2' : j < its2.length := by simpa using h2
      have z := ih j (by omega) (vals_at r h1') (vals_at r2 h2') (A := A.in1) (by show A.units + 1 + d < _; omega)
      simpa using z))
    simp only [List.size_toArray, ← hl] at this
    exact this
/-- == and != of lists of such things -/
def rEqLD (K : PySem.W.Frag) (d : Nat) (neg : Bool) : R2 := fun x y H Q => ∃ p q xs ys e, x = .ref p ∧ y = .ref q ∧ SqL K H p xs ∧ SqL K H q ys ∧ xs.length = ys.length ∧ (∀ j, j < xs.length → EqD K H d (xs.getD j .non) (ys.getD j .non) (e j)) ∧ Q (.bl (if neg = true then !(List.range xs.length).all e else (List.range xs.length).all e)) H
theorem op_eqLD {d : Nat} (hu : X.A.units + d + 1 < cLine) : OpR X (compareOp .Eq) (rEqLD X.K d false) := by
  intro pins s σ H x y v u Q I rx ry h
  obtain ⟨p, q, xs, ys, e, rfl, rfl, hp, hq, hle, he, k⟩ := h
  cases rx
  cases ry
  obtain ⟨its, r, pl, _⟩ := I.list hp
  obtain ⟨its2, r2, pl2, _⟩ := I.list hq
  have hl := r.length
  have hl2 := r2.length
  refine SeqAt.eq_listAt (e := e) pl.isList pl2.isList (by simp only [List.size_toArray]; omega) (by omega) (fun j h1 h2 => ?_) ⟨.bl _, H, I, rfl, ?_⟩
  · have h1' : j < its.length := by simpa using h1
    have h2' : j < its2.length := by simpa using h2
    have z := (he j (by omega)).at I (vals_at r h1') (vals_at r2 h2') (A := X.A.in1) (by show X.A.units + 1 + d < _; omega)
    simpa using z
  · simp only [List.size_toArray, ← hl]
    exact k
theorem op_neLD {d : Nat} (hu : X.A.units + d + 1 < cLine) : OpR X (compareOp .NotEq) (rEqLD X.K d true) := by
  intro pins s σ H x y v u Q I rx ry h
  obtain ⟨p, q, xs, ys, e, rfl, rfl, hp, hq, hle, he, k⟩ := h
  cases rx
  cases ry
  obtain ⟨its, r, pl, _⟩ := I.list hp
  obtain ⟨its2, r2, pl2, _⟩ := I.list hq
  have hl := r.length
  have hl2 := r2.length
  refine SeqAt.RcNeAt.lists (e := e) pl.isList pl2.isList (by simp only [List.size_toArray]; omega) (by omega) (fun j h1 h2 => ?_) X.prog X.w X.xe _ ⟨.bl _, H, I, rfl, ?_⟩
  · have h1' : j < its.length := by simpa using h1
    have h2' : j < its2.length := by simpa using h2
    have z := (he j (by omega)).at I (vals_at r h1') (vals_at r2 h2') (A := X.A.in1) (by show X.A.units + 1 + d < _; omega)
    simpa using z
  · simp only [List.size_toArray, ← hl]
    exact k
/-! ### list(range(n)) -/
def upTo (j : Int) : List V := (List.range j.toNat).map fun k : Nat => V.int (k : Int)
def tRange1 (ta : TA) : TE := fun σ H Q => ta σ H fun vs H1 => ∃ j : Int, vs = [.int j] ∧ ∀ p, H1 p = none → Q (.ref p) (upd H1 p (.rng 0 j))
end
end Ow
/-! ## A list walked from its end; all of a list of truths -/
namespace Ow
open PySem PySem.Spec PyProof.Rows L2
def Itv (K : PySem.W.Frag) (a : Addr) (n : Nat) : It :=
  ⟨fun i H => i < n ∧ ∃ xs x, SqL K H a xs ∧ xs[n - 1 - i]? = some x, fun i H x H' => H' = H ∧ ∀ xs, SqL K H a xs → xs[n - 1 - i]? = some x, fun i _ => i = n⟩
section
variable {X : Cx} {tg : Expr}
def iRev (K : PySem.W.Frag) (ta : TA) : TI := fun σ H R => ta σ H fun vs H1 => ∃ a xs, vs = [.ref a] ∧ SqL K H1 a xs ∧ R (Itv K a xs.length) H1
/-! ### a comprehension whose block sees names of the def -/
variable {elt iter : Expr} {x : Str} {px pos : Pos} {scope : Scope} {wi : TI} {te : TE} {cl : List (Str × Addr)}
theorem pe_compC (js : List Nat) (ns : List Str) (hc : X.calm = true) (hclos : closureFor scope X.env = pure cl) (hcls : cl.map (·.1) = ns) (hsub : ∀ p ∈ cl, X.env.cells.lookup p.1 = some p.2)
    (hno : ∀ p ∈ scope.names, p.2 ≠ .cell ∧ (p.2 = .free → p.1 ∈ ns)) (hkind : scope.kind = .function) (hnames : ∀ y ∈ scope.names, y.2 = .local → scope.names.lookup y.1 = some .local) (hx : scope.names.lookup x = some .local)
    (hN : (x :: ns).Nodup) (hkd : ∀ y ∈ ns, (Env.kindOf (compEnvC scope cl 0 X.env) y = some .cell ∨ Env.kindOf (compEnvC scope cl 0 X.env) y = some .free) ∧ X.env.kindOf y = some .cell)
    (hjl : js.length = ns.length) (hj : js.map (fun j => X.N[j]?) = ns.map some)
    (hi : PI X (.Name x px) iter wi) (he : ∀ C s2 H2 fp, PE (cxComp X (x :: ns) scope cl C s2 H2 fp) elt te)
    (hs : ∀ z, foldedSetIterable iter X.env z = pure z := by intro _; rfl) :
    PE X (.ListComp elt [⟨.Name x px, iter, [], 0⟩] scope pos) (tComp wi te fun σ => js.map fun j => (σ[j]?).getD none) := by
  refine pe_comp (N := ns) (cl := cl) hc hclos (fun n c e => hsub (n, c) (PySem.mem_of_lookup e)) (fun y hy => (hno y hy).1) hkind hnames hx (fun y hy => ?_) hN (fun σ => by rw [List.length_map]; exact hjl) (fun σ i y v _ e1 e2 => ?_) hi he hs
  · have sub : ∀ (l : List (Str × NameKind)), (∀ p ∈ l, p.2 ≠ .cell ∧ (p.2 = .free → p.1 ∈ ns)) → ∀ p ∈ (l.map fun (n, k) => if (k == NameKind.free && X.env.scope.kind == ScopeKind.function && X.env.kindOf n == some NameKind.cell) then (n, NameKind.cell) else (n, k)), (p.2 = .cell ∨ p.2 = .free) → p.1 ∈ ns := by
      intro l hl p hp hk
      obtain ⟨q, hq, e⟩ := List.mem_map.mp hp
      have h1 := hl q hq
      obtain ⟨n, k⟩ := q
      dsimp only at e
      by_cases hf : k = .free
      · have h2 := h1.2 hf
        split at e
        · rw [← e]; exact h2
        · rw [← e]; exact h2
      · have hf' : (k == NameKind.free) = false := by
          cases k <;> first | rfl | exact absurd rfl hf
        rw [hf', Bool.false_and, Bool.false_and, if_neg (by decide)] at e
        rw [← e] at hk
        rcases hk with z | z
        · exact absurd z h1.1
        · exact absurd z hf
    have hy' : y ∈ ns := by
      rcases hy with z | z
      · exact sub scope.names hno (y, .cell) (PySem.mem_of_lookup z) (.inl rfl)
      · exact sub scope.names hno (y, .free) (PySem.mem_of_lookup z) (.inr rfl)
    rw [← hcls] at hy'
    have key : ∀ l : List (Str × Addr), y ∈ l.map (·.1) → ∃ c, l.lookup y = some c := by
      intro l
      induction l with
      | nil => intro h; simp at h
      | cons p r ih =>
        intro h
        by_cases e : y = p.1
        · exact ⟨p.2, by obtain ⟨p1, p2⟩ := p; dsimp only at e; subst e; simp [List.lookup]⟩
        · have h' : y ∈ r.map (·.1) := by
            rw [List.map_cons] at h
            exact (List.mem_cons.mp h).resolve_left e
          obtain ⟨c, hc'⟩ := ih h'
          refine ⟨c, ?_⟩
          obtain ⟨p1, p2⟩ := p
          have : (y == p1) = false := by simpa using e
          rw [List.lookup_cons, this]
          exact hc'
    exact key cl hy'
  · have hm : y ∈ ns := List.mem_of_getElem? e1
    refine ⟨(hkd y hm).1, (hkd y hm).2, ?_⟩
    rw [List.getElem?_map] at e2
    cases hji : js[i]? with
    | none => rw [hji] at e2; cases e2
    | some j =>
      rw [hji] at e2
      have e3 : (σ[j]?).getD none = some v := by
        have := Option.some.inj e2
        exact this
      have e4 := congrArg (fun l => l[i]?) hj
      rw [List.getElem?_map, List.getElem?_map, hji, e1] at e4
      have e5 : X.N[j]? = some y := by
        have := Option.some.inj e4
        exact this
      refine ⟨j, e5, ?_⟩
      cases hσ : σ[j]? with
      | none => rw [hσ] at e3; cases e3
      | some o =>
        rw [hσ] at e3
        have e6 : o = some v := e3
        rw [e6]
/-! ### classes with an __init__, and a base's __init__ called by name -/
structure CHas (P : Program) (w : World) (K : PySem.W.Frag) (mg : Str → Option Value) (base : Heap) (k : Nat) (C : Addr) (x : Str) (ps : List Str) (sp : Sp) : Prop where
  ex : ∃ (f : Addr) (fd : FuncData), Mk K C f ∧ FnOk P w K mg base CX0 k f fd ps sp ∧ Binds K fd ps [] ∧ mg x = some (.ref C)
theorem pe_mkP {k : Nat} {C : Addr} {y : Str} {ps : List Str} {sp : Sp} {p : Pos} {e : Expr} {es : List Expr} {t : TA} (h : CHas X.prog X.w X.K X.mg X.base k C y ps sp) (hr : Room (k + 1) X.A) (hg : Gl X y) (ha : PA X (e :: es) t) (hdb : (y == ("__debug__" : Str)) = false := by decide)
    (he : starEach (e :: es) X.env = (false, eval e X.env) :: starEach es X.env := by rfl) (hpl : (backTo pos (starEach es X.env)).any (·.1) = false := by rfl) :
    PE X (.Call (.Name y p) (e :: es) [] pos) (tMake C sp [] E0 t) := by
  obtain ⟨f, fd, M, F, b, m⟩ := h.ex
  exact pe_make M F hr hg m b .nil pass0 ha hdb he hpl
structure BHas (P : Program) (w : World) (K : PySem.W.Frag) (mg : Str → Option Value) (base : Heap) (k : Nat) (x m : Str) (ps : List Str) (sp : Sp) : Prop where
  ex : ∃ (C f : Addr) (fd : FuncData), ClsFn K C m f ∧ FnOk P w K mg base CX0 k f fd ps sp ∧ Binds K fd ps [] ∧ mg x = some (.ref C)
end
end Ow
/-! ## is, of truths; a name put to a comprehension that sees names of the def -/
namespace Ow
open PySem PySem.Spec PyProof.Rows L2
section
variable {X : Cx}
variable {elt iter : Expr} {x : Str} {px pos : Pos} {scope : Scope} {wi : TI} {te : TE} {cl : List (Str × Addr)}
end
end Ow
/-! ## exceptions of own classes: raised by a def, caught by its caller -/
namespace Ow
open PySem PySem.Spec PyProof.Rows L2
/-- the ground beneath a flying exception: the module's base, all that is tracked, and what was there ahead of the call, the frames aside -/
structure Gnd (P : Program) (w : World) (base : Heap) (fs : List Addr) (H H' : Hp) (h B : Heap) : Prop where
  st : base.StaysIn B
  keep : ∀ b o, h.get? b = some o → H b = none → b ∉ fs → B.get? b = some o
  free : ∀ b o, h.get? b = some o → H b = none → H' b = none
  there : ∀ b o, h.get? b = some o → b ∉ fs → ∃ o', B.get? b = some o'
  tups : ∀ b xs, H b = some (.tup xs) → H' b = some (.tup xs)
  frzs : ∀ b o u, H b = some (.frz o u) → H' b = some (.frz o u)
  tbls : ∀ b ps, H b = some (.tbl ps) → ∃ more, H' b = some (.tbl (ps ++ more))
  hok : HOk P w H' B
def Slots (fs : List Addr) (h h' : Heap) : Prop := ∀ b ∈ fs, ∀ o, h.get? b = some o → ∃ sl, h'.get? b = some { o with slots := sl }
/-- an exception in flight over the frames of the callers -/
def CX1 (P : Program) (w : World) (base : Heap) : CXT := fun outer H s E e s' =>
  ∃ (a : Addr) (cls a0 : Value) (B : Heap) (H' : Hp), e = .ref a ∧ s'.os = s.os ∧ AllBare s'.gens ∧ Gnd P w base (frs outer) H H' s.heap B ∧ Slots (frs outer) s.heap s'.heap ∧ Heap.FlyingW B outer a cls a0 s'.heap ∧ H' a = none ∧ E cls none H'
section
variable {P : Program} {w : World} {base h h1 h2 B : Heap} {fs : List Addr} {H H' : Hp} {l : List Env}
theorem Gnd.un (G : Gnd P w base fs H H' h B) (sb : B.StaysIn h1) (sl : Slots fs h h1) : Un fs [] H H' h h1 where
  keep := fun b o q n hb _ => sb _ _ (G.keep b o q n hb)
  slot := fun b o q _ hb _ => sl b hb o q
  free := fun b o q n _ => G.free b o q n
  there := fun b o q _ => by
    by_cases hb : b ∈ fs
    · obtain ⟨s, e⟩ := sl b hb o q
      exact ⟨_, e⟩
    · obtain ⟨o', e⟩ := G.there b o q hb
      exact ⟨o', sb _ _ e⟩
  tups := G.tups
  frzs := G.frzs
  tbls := G.tbls
theorem Slots.on (x : Slots (frs l) h h1) (hl : h1.FunFrames B l) (u : h1.UpToSlots h2) : Slots (frs l) h h2 := fun b hb o q => by
  obtain ⟨sl, e⟩ := x b hb o q
  obtain ⟨_, o1, e1, d1⟩ := hl.mem hb
  rw [e] at e1
  cases e1
  obtain ⟨s2, e2⟩ := u b _ e d1
  exact ⟨s2, e2⟩
theorem obj_there {a : Addr} {o : HO} (x : ObjOk P w H h a o) : ∃ ob, h.get? a = some ob := by
  induction o with
  | lst xs => obtain ⟨_, _, _, _, e⟩ := x; exact ⟨_, e⟩
  | tup xs => obtain ⟨_, _, _, o, e, _⟩ := x; exact ⟨_, e⟩
  | dK kvs => obtain ⟨_, _, _, _, o, _, _, e, _⟩ := x; exact ⟨_, e⟩
  | dT kvs => obtain ⟨_, _, _, _, o, _, _, e, _⟩ := x; exact ⟨_, e⟩
  | set S n => obtain ⟨o, _, _, _, e, _⟩ := x; exact ⟨_, e⟩
  | ins C dx fs => obtain ⟨_, _, _, e, _⟩ := x; exact ⟨_, e⟩
  | own y => exact x
  | xd fs => obtain ⟨_, ⟨_, _, _, e, _⟩, _⟩ := x; exact ⟨_, e⟩
  | met f y => exact ⟨_, x⟩
  | rng lo hi => obtain ⟨_, _, _, e⟩ := x; exact ⟨_, e⟩
  | frz ob u ih => exact ⟨_, x.1⟩
  | tbl ps => exact ⟨_, x⟩
  | ext φ => exact x.2.1
end
abbrev VE : List Value := [.type "ValueError", .type "Exception", .type "BaseException", .type "object"]
section
variable {P : Program} {w : World} {K : PySem.W.Frag} {mg : Str → Option Value} {base : Heap} {N : List Str} {qual : Str} {scope : Scope} {f : Addr} {cdv : Value} {A : Around} {outer : List Env} {s₀ : Shared} {H₀ : Hp} {E : XK}
/-- a def that may raise -/
theorem Fun.okX {x qual : Str} {st : Stmt} {f : Addr} {fd : FuncData} {N ps : List Str} {k : Nat} {sp : Sp} (F : Fun K x qual st f fd) (S : FnScope N ps (defScope st)) (len : ∀ vs H Q E, sp vs H Q E → vs.length = ps.length)
    (hbody : ∀ (cdv : Value) (A : Around) (outer : List Env) (s : Shared) (H : Hp) (vs : List V) (Q : VK) (E : XK), Room k (A.deeper (envOfC qual (defScope st) s.heap.objs.size f cdv)) → sp vs H Q E →
      ∃ t, PSs (cxOf (CX1 P w base) P w K mg base N qual (defScope st) f cdv A outer s H E) (defBody st) t ∧ t { nx := fun _ H' => Q .non H', rt := Q } (start N vs) H) : FnOk P w K mg base (CX1 P w base) (k + 1) f fd ps sp := by
  obtain ⟨oc, od, kV, doc, pm, an, cdv, ct, osl, e1, lk, hcd⟩ := F.ex
  subst e1
  exact fn_of lk hcd S len fun A outer s H vs Q E hr hsp => hbody cdv A outer s H vs Q E hr hsp
end
structure HasX (P : Program) (w : World) (K : PySem.W.Frag) (mg : Str → Option Value) (base : Heap) (k : Nat) (x : Str) (ps : List Str) (sp : Sp) : Prop where
  ex : ∃ (f : Addr) (fd : FuncData), FnOk P w K mg base (CX1 P w base) k f fd ps sp ∧ Binds K fd ps [] ∧ PySem.W.keepIn K (.ref f) = true ∧ mg x = some (.ref f)
/-- the caller's context within the suite that has caught the exception at a -/
def caught (X : Cx) (a : Addr) (oe : Obj) : Cx := { X with A := X.A.mark (some (.ref a)), calm := false, pn := (a, oe) :: X.pn }
section
variable {X : Cx} {pins : List (Addr × Obj)} {σ : L2.St} {H : Hp} {s : Shared} {a : Addr} {oe : Obj}
theorem caught_inv (I : Inv X pins σ H s) (e : s.heap.get? a = some oe) (n : H a = none) (hl : a ≠ X.env.locals) (hf : a ∉ X.fs) (hd : ∀ v, oe.data ≠ .cell v) : Inv (caught X a oe) pins σ H s :=
  ⟨⟨I.ok.mod, I.ok.kind, I.ok.glob, I.ok.blt, I.ok.above, I.ok.inj, I.ok.has, I.ok.cab, (fun z => nomatch z), I.ok.frames, I.ok.stk, I.ok.exf, I.ok.bs, I.ok.bsz, I.ok.noex, I.ok.exfs, I.ok.funs, I.ok.frf⟩,
    I.os, I.bare, I.base, I.loc, I.cell, I.free, I.freeC, fun p hp => by
      rcases List.mem_cons.mp (show p ∈ (a, oe) :: (X.pn ++ pins) from hp) with rfl | hp
      · exact ⟨e, n, hl, hf, hd⟩
      · exact I.pin p hp, I.hok, I.len⟩
/-- behind the suite the names of the frame are forgotten -/
theorem suite_end {h' : Heap} {m' : Str → Option Value} {t' : Nat} (I : Inv (caught X a oe) pins σ H s) (okX : X.Ok) (hn : h'.Ns X.env.locals m') (hs : Heap.SameBut X.env.locals s.heap h') :
    Inv X pins (List.replicate X.N.length none) H { s with heap := h', toks := t' } := by
  have neL : ∀ b o, X.s₀.heap.get? b = some o → b ≠ X.env.locals := fun b o e => Nat.ne_of_lt (Nat.lt_of_lt_of_le (Heap.lt_size e) okX.above)
  refine ⟨okX, I.os, I.bare, ⟨fun b o e n hb hx => ?_, fun b o e n hb hx => ?_, I.base.free, fun b o e hx => ?_, I.base.tups, I.base.frzs, I.base.tbls⟩, ⟨m', hn, fun i x v e1 e2 e3 => ?_⟩, fun x c e => ?_, I.free, I.freeC, fun p hp => ?_, fun b ob e => ?_, List.length_replicate ..⟩
  · exact (hs.2 b (neL b o e)).trans (I.base.keep b o e n hb hx)
  · obtain ⟨sl, e1⟩ := I.base.slot b o e n hb hx
    exact ⟨sl, (hs.2 b (neL b o e)).trans e1⟩
  · obtain ⟨o', e1⟩ := I.base.there b o e hx
    exact ⟨o', (hs.2 b (neL b o e)).trans e1⟩
  · rw [List.getElem?_replicate] at e2
    split at e2 <;> cases e2
  · obtain ⟨v, z⟩ := I.cell x c e
    exact ⟨v, z.sameBut hs (I.cne x c e)⟩
  · obtain ⟨e, n, ne, nf, d⟩ := I.pin p (List.mem_cons_of_mem _ hp)
    exact ⟨(hs.2 p.1 ne).trans e, n, ne, nf, d⟩
  · refine (I.hok b ob e).stay (fun c w' hc z => (hs.2 c ?_).trans z) (fun _ z => z) fun _ _ z => z
    have fr : H X.env.locals = none := I.free
    rintro rfl
    rcases hc with rfl | hc
    · rw [fr] at e; cases e
    · rw [fr] at hc; cases hc
end
/-- y = f(..) under a try that catches a class by its name and ends with a return -/
def tTry (K : PySem.W.Frag) (C₁ : Addr) (i j : Nat) (sp : Sp) (ta : TA) (tb : Addr → Obj → TS) : TS := fun D σ H => ta σ H fun vs H1 => sp (vs ++ []) H1 (fun v H2 => D.nx (σ.set i (some v)) H2)
  (fun cls _ H2 => PySem.W.exmOne K cls (.ref C₁) = some true ∧ ∀ (a : Addr) (oe : Obj), oe.cls = cls → H2 a = none → tb a oe { nx := fun _ _ => False, rt := D.rt } (σ.set j (some (.ref a))) H2)
section
variable {X : Cx} {k i j : Nat} {f y n c : Str} {ps : List Str} {sp : Sp} {e : Expr} {es : List Expr} {ta : TA} {C₁ : Addr} {b₀ : Stmt} {suite : List Stmt} {tb : Addr → Obj → TS} {py p pos apos np hpos tpos : Pos}
end
/-! ### isinstance of a caught exception -/
structure ExF (K : PySem.W.Frag) (C : Addr) : Prop where
  ga : PySem.W.findIn K (.ref C) "__getattribute__" = some (some (.builtin "BaseException.__getattribute__"))
  gn : PySem.W.findIn K (.ref C) "__getattr__" = some none
  gc : PySem.W.findIn K (.ref C) "__class__" = some (some (.builtin "object.__class__"))
  mo : PySem.W.mroIn K C (.type "object") = some true
  mb : PySem.W.mroIn K C (.type "BaseException") = some true
section
variable {prog : Program} {w : World} {A : Around} {E : Value → Shared → Prop} {h : Heap} {g : Array GenState} {d : Drawn} {t : Nat} {os : OsState} {K : PySem.W.Frag} {a C : Addr} {o : Obj}
theorem exc_check {M : Model} {nv : Value} {Q : Unit → Shared → Prop} (X : K.In h) (f : ExF K C) (hx : h.get? a = some o) (hc : o.cls = .ref C) (hq : Q () ⟨h, g, d, t, os⟩) :
    wpAny M A (checkBuiltinCall "BaseException.__getattribute__" ⟨[.ref a, nv], []⟩) Q E ⟨h, g, d, t, os⟩ := by
  have k1 : builtinKind "BaseException.__getattribute__" = some .slot := by decide +kernel
  have k2 : splitId "BaseException.__getattribute__" = some ("BaseException", "__getattribute__") := by decide +kernel
  have L1 := PySem.W.looks_mroIn (M := M) X f.mb
  have k3 := F.args_bexc_ga (.ref a) nv
  simp only [checkBuiltinCall, k1, k2]
  refine wpAny_bind ?_
  unfold isInstance
  repeat (first | (with_reducible refine wpAny_loadPart_at hx ?_; rw [hc]) | with_reducible refine L1.at ?_ | wp_step)
  exact hq
end
/-- an own class as the second of isinstance and of except -/
theorem kitc_of {K : PySem.W.Frag} {C D : Addr} {b : Bool} (h1 : PySem.W.isClsIn K D = true) (h2 : PySem.W.typeIn K (.ref D) = some (.type "type")) (h3 : PySem.W.mroIn K C (.ref D) = some b) : PySem.W.kitCls K (.ref C) (.ref D) = some b := by
  unfold PySem.W.kitCls
  have e : ((PySem.W.clsIn K D).isSome && PySem.W.typeIn K (.ref D) == some (.type "type")) = true := by
    rw [h2]
    have h1' : (PySem.W.clsIn K D).isSome = true := h1
    rw [h1', Bool.true_and]
    exact beq_self_eq_true _
  show (if ((PySem.W.clsIn K D).isSome && PySem.W.typeIn K (.ref D) == some (.type "type")) = true then PySem.W.subIn K (.ref C) (.ref D) else none) = _
  rw [if_pos e]
  exact h3
theorem exm_of {K : PySem.W.Frag} {C D : Addr} (h1 : PySem.W.isClsIn K D = true) (h2 : PySem.W.typeIn K (.ref D) = some (.type "type")) (h3 : PySem.W.mroIn K C (.ref D) = some true) (h4 : PySem.W.mroIn K D (.type "BaseException") = some true) : PySem.W.exmOne K (.ref C) (.ref D) = some true := by
  unfold PySem.W.exmOne
  have e : PySem.W.subIn K (.ref D) (.type "BaseException") = some true := h4
  rw [e, if_pos (by rw [beq_self_eq_true])]
  exact kitc_of h1 h2 h3
theorem kit_apart {K : PySem.W.Frag} {C D : Addr} (h1 : PySem.W.isClsIn K D = true) (h2 : PySem.W.typeIn K (.ref D) = some (.type "type")) (h3 : PySem.W.mroIn K C (.ref D) = some false) (h4 : PySem.W.mroIn K D (.ref D) = some true) : PySem.W.kitOne K (.ref C) (.ref D) = some false := by
  unfold PySem.W.kitOne
  split
  · next q =>
    have e : C = D := Value.ref.inj (beq_iff_eq.mp q)
    subst e
    rw [h3] at h4
    cases h4
  · exact kitc_of h1 h2 h3
end Ow
/-! ## exceptions that pass a def on their way, and a try over several rows -/
namespace Ow
open PySem PySem.Spec PyProof.Rows L2
section
variable {P : Program} {w : World} {K : PySem.W.Frag} {mg : Str → Option Value} {base : Heap} {N : List Str} {qual : Str} {scope : Scope} {f : Addr} {cdv : Value} {A : Around} {outer : List Env} {s₀ : Shared} {H₀ : Hp} {E : XK}
end
/-- the context of a try's rows: an exception that leaves them lies as CX1 says, over a state of this frame -/
def pinned (X : Cx) (pins : List (Addr × Obj)) : Cx := { X with pn := X.pn ++ pins }
def tryCx (X : Cx) (pins : List (Addr × Obj)) (E : L2.St → XK) : Cx := (pinned X pins).wish fun e s' => ∃ (pins' : List (Addr × Obj)) (σ' : L2.St) (H : Hp) (s : Shared), Inv (pinned X pins) pins' σ' H s ∧ CX1 X.prog X.w X.base X.stack H s (E σ') e s'
section
variable {X : Cx} {pins pins' : List (Addr × Obj)} {σ : L2.St} {H : Hp} {s : Shared} {E : L2.St → XK}
theorem to_pinned (I : Inv X pins σ H s) : Inv (pinned X pins) [] σ H s :=
  ⟨⟨I.ok.mod, I.ok.kind, I.ok.glob, I.ok.blt, I.ok.above, I.ok.inj, I.ok.has, I.ok.cab, I.ok.hd, I.ok.frames, I.ok.stk, I.ok.exf, I.ok.bs, I.ok.bsz, I.ok.noex, I.ok.exfs, I.ok.funs, I.ok.frf⟩,
    I.os, I.bare, I.base, I.loc, I.cell, I.free, I.freeC, fun p hp => I.pin p (by
      rw [List.append_nil] at hp
      exact hp), I.hok, I.len⟩
theorem of_pinned (okX : X.Ok) (I : Inv (pinned X pins) pins' σ H s) : Inv X pins σ H s :=
  ⟨okX, I.os, I.bare, I.base, I.loc, I.cell, I.free, I.freeC, fun p hp => I.pin p (List.mem_append_left _ hp), I.hok, I.len⟩
def tCallT (sp : Sp) (E : L2.St → XK) (t : TA) : TE := fun σ H Q => t σ H fun vs H1 => sp (vs ++ []) H1 Q (E σ)
end
def wishT (K : PySem.W.Frag) (C₁ : Addr) (j : Nat) (ts : Addr → Obj → TS) (D : Ends) : L2.St → XK := fun σ' cls _ H2 => PySem.W.exmOne K cls (.ref C₁) = some true ∧ ∀ (a : Addr) (oe : Obj), oe.cls = cls → H2 a = none → ts a oe { nx := fun _ _ => False, rt := D.rt } (σ'.set j (some (.ref a))) H2
def tTryG (K : PySem.W.Frag) (C₁ : Addr) (j : Nat) (tb : (L2.St → XK) → TS) (ts : Addr → Obj → TS) : TS := fun D σ H => tb (wishT K C₁ j ts D) D σ H
/-- == and != of lists of ints, of any lengths -/
def rEqLI (K : PySem.W.Frag) (neg : Bool) : R2 := fun x y H Q => ∃ (p q : Addr) (as bs : List Int), x = .ref p ∧ y = .ref q ∧ SqL K H p (as.map V.int) ∧ SqL K H q (bs.map V.int) ∧ Q (.bl (if neg = true then !decide (as = bs) else decide (as = bs))) H
end Ow
/-! ## a try whose except suite goes on behind; methods of ints and lists -/
namespace Ow
open PySem PySem.Spec PyProof.Rows L2
theorem PS.nox {X : Cx} {st : Stmt} {t : TS} (h : PS X.nox st t) : PS X st t := fun pins s σ H D I hw =>
  wpAny_mono (h pins s σ H D (I.wish _) hw) (fun _ _ q => q.unwish) fun _ _ z => False.elim z
section
variable {X : Cx} {pins : List (Addr × Obj)} {σ : L2.St} {H : Hp} {s : Shared} {a : Addr} {oe : Obj} {j : Nat} {n : Str}
/-- behind the suite the name of the exception is forgotten, the others stay -/
theorem suite_endK {h' : Heap} {m : Str → Option Value} {v' : Option Value} {t' : Nat} (I : Inv (caught X a oe) pins σ H s) (okX : X.Ok) (hN : X.N.Nodup) (hj : X.N[j]? = some n)
    (hl : ∀ (i : Nat) (x : Str) (v : V), X.N[i]? = some x → σ[i]? = some (some v) → Vis X.env.scope x → ∃ u, RelV v u ∧ Look X.env s.heap m x u)
    (hn : h'.Ns X.env.locals (fun x => if x = n then v' else m x)) (hs : Heap.SameBut X.env.locals s.heap h') :
    Inv X pins (σ.set j none) H { s with heap := h', toks := t' } := by
  have neL : ∀ b o, X.s₀.heap.get? b = some o → b ≠ X.env.locals := fun b o e => Nat.ne_of_lt (Nat.lt_of_lt_of_le (Heap.lt_size e) okX.above)
  refine ⟨okX, I.os, I.bare, ⟨fun b o e n hb hx => ?_, fun b o e n hb hx => ?_, I.base.free, fun b o e hx => ?_, I.base.tups, I.base.frzs, I.base.tbls⟩, ⟨_, hn, fun i x v e1 e2 e3 => ?_⟩, fun x c e => ?_, I.free, I.freeC, fun p hp => ?_, fun b ob e => ?_, by rw [List.length_set]; exact I.len⟩
  · exact (hs.2 b (neL b o e)).trans (I.base.keep b o e n hb hx)
  · obtain ⟨sl, e1⟩ := I.base.slot b o e n hb hx
    exact ⟨sl, (hs.2 b (neL b o e)).trans e1⟩
  · obtain ⟨o', e1⟩ := I.base.there b o e hx
    exact ⟨o', (hs.2 b (neL b o e)).trans e1⟩
  · by_cases hij : i = j
    · subst hij
      have hi : i < σ.length := by have z : σ.length = X.N.length := I.len; rw [z]; exact (List.getElem?_eq_some_iff.mp hj).1
      rw [List.getElem?_set_self hi] at e2
      cases e2
    · rw [List.getElem?_set_ne (Ne.symm hij)] at e2
      obtain ⟨u', r', q⟩ := hl i x v e1 e2 e3
      refine ⟨u', r', ?_⟩
      rcases q with ⟨k, e⟩ | ⟨k, c, e, z⟩
      · refine .inl ⟨k, ?_⟩
        have : x ≠ n := fun e => hij (nodup_ix hN e1 (e ▸ hj))
        simp [this, e]
      · exact .inr ⟨k, c, e, z.sameBut hs (I.cne x c e)⟩
  · obtain ⟨v, z⟩ := I.cell x c e
    exact ⟨v, z.sameBut hs (I.cne x c e)⟩
  · obtain ⟨e, n, ne, nf, d⟩ := I.pin p (List.mem_cons_of_mem _ hp)
    exact ⟨(hs.2 p.1 ne).trans e, n, ne, nf, d⟩
  · refine (I.hok b ob e).stay (fun c w' hc z => (hs.2 c ?_).trans z) (fun _ z => z) fun _ _ z => z
    have fr : H X.env.locals = none := I.free
    rintro rfl
    rcases hc with rfl | hc
    · rw [fr] at e; cases e
    · rw [fr] at hc; cases hc
end
def endsK (j : Nat) (D : Ends) : Ends := { nx := fun σ H => D.nx (σ.set j none) H, rt := D.rt }
section
variable {X : Cx} {j : Nat} {n c : Str} {C₁ : Addr} {b₀ : Stmt} {suite : List Stmt} {tb : Addr → Obj → TS} {np hpos : Pos}
end
def wishK (K : PySem.W.Frag) (C₁ : Addr) (j : Nat) (ts : Addr → Obj → TS) (D : Ends) : L2.St → XK := fun σ' cls _ H2 => PySem.W.exmOne K cls (.ref C₁) = some true ∧ ∀ (a : Addr) (oe : Obj), oe.cls = cls → H2 a = none → ts a oe (endsK j D) (σ'.set j (some (.ref a))) H2
def tTryK (K : PySem.W.Frag) (C₁ : Addr) (j : Nat) (tb : (L2.St → XK) → TS) (ts : Addr → Obj → TS) : TS := fun D σ H => tb (wishK K C₁ j ts D) D σ H
/-- i.bit_length() -/
def rBits : V → List V → Hp → VK → Prop := fun x vs H Q => ∃ i : Int, x = .int i ∧ vs = [] ∧ Q (.int ((Builtin.Int.intBits i : Nat) : Int)) H
theorem mt_bits {X : Cx} : MtR X "int.bit_length" rBits := by
  intro pins s σ H x vs v us Q I rx rv h
  obtain ⟨i, rfl, rfl, q⟩ := h
  obtain ⟨t, rfl⟩ := rx
  cases rv.zero
  exact call_int_bit_length ⟨.int _, H, I.tok _, ⟨_, rfl⟩, q⟩
theorem ty_int {K : PySem.W.Frag} {i : Int} {H : Hp} : tyV K "int" (.int i) H := rfl
/-- xs.insert(0, y) -/
def rIns0 : V → List V → Hp → VK → Prop := fun x vs H Q => ∃ l xs y, x = .ref l ∧ vs = [.int 0, y] ∧ H l = some (.lst xs) ∧ xs.length < sizeLine ∧ Q .non (upd H l (.lst (y :: xs)))
end Ow
/-! ## exceptions that bear a field of their own: made by their class's __init__, raised, in flight, caught, read -/
namespace Ow
open PySem PySem.Spec PyProof.Rows L2
/-- the exception's own dict -/
def OwnD (h : Heap) (e : Addr) (d : Option Addr) : Prop := ∃ o, h.get? e = some o ∧ o.dict = d
theorem mapF_dict (f : Array Value → Array Value) (o : Obj) : (Obj.mapFields f o).dict = o.dict := by
  obtain ⟨c, d, dt, sl⟩ := o
  cases dt <;> rfl
section
variable {M : Model} {A : Around} {E : Value → Shared → Prop} {s : Shared} {bs : Heap} {en : Env} {out : List Env} {L e : Addr}
theorem entry_own {oe : Obj} {vs : Array Value} {hd0 a0 : Value} {nx : Bool} {Q : Unit → Shared → Prop} (fr : A.frames = some (en :: out)) (ff : s.heap.FunFrames bs (en :: out)) (fl : en.frame = some L)
    (ge : s.heap.get? e = some oe) (st : bs.StaysIn s.heap) (ne : bs.get? e = none) (dt : oe.data = .fields vs) (z1 : 1 < vs.size) (z0 : vs[0]? = some a0)
    (k : ∀ h', Heap.NotedW bs (en :: out) e oe.cls a0 (rawInt L) s.heap h' → OwnD h' e oe.dict → Q () { s with heap := h' }) :
    wpAny M A (do let a ← frameOf en; let pl ← entryPlaceOf L nx; let b ← EntryCells.newEntry hd0 a .none (rawInt L) .none pl; setField (.ref e) 1 b) Q E s := by
  have nf : e ∉ (en :: out).filterMap (·.frame) := fun hm => by
    obtain ⟨_, o, g1, g2⟩ := ff.mem hm
    rw [ge] at g1
    cases g1
    exact g2 _ dt
  refine wpAny_bind (wpAny_frameOf_fun fr ff fl fun h1 so => wpAny_bind (wpAny_entryPlaceOf fun pl hpl => ?_))
  unfold EntryCells.newEntry newFields
  refine wpAny_bind (wpAny_newObj_type ?_ (hpl.sizeOk5 _ _ _ _ _))
  generalize hT : (([hd0, Value.ref L, Value.none, rawInt L, Value.none] ++ (if pl.isEmpty then List.replicate 6 Value.none else pl)).toArray : Array Value) = ts
  have t3 : ts[3]? = some (rawInt L) := by
    rw [← hT]
    rfl
  have g1 : h1.get? e = some oe := (so.2.1 e nf).trans ge
  have g2 : (h1.push { cls := .type "traceback", dict := none, data := .fields ts }).get? e = some oe := Heap.get?_push_of_some _ g1
  have neT : h1.objs.size ≠ e := Nat.ne_of_gt (Heap.lt_size g1)
  have st1 : bs.StaysIn h1 := fun b o hb => (so.2.1 b fun hm => by rw [(ff.mem hm).1] at hb; cases hb).trans (st b o hb)
  refine wpAny_setField g2 dt z1 (k _ ?_ ?_)
  · have g3 := Heap.get?_update_self (Obj.mapFields (·.setIfInBounds 1 (Value.ref h1.objs.size))) g2 (Obj.isFreed_of_fields (Obj.data_mapFields dt _))
    have kp : ∀ b o, b ≠ e → h1.get? b = some o → ((h1.push { cls := .type "traceback", dict := none, data := .fields ts }).update e (Obj.mapFields (·.setIfInBounds 1 (Value.ref h1.objs.size)))).get? b = some o := fun b o hb q => by
      rw [Heap.get?_update_other _ _ (Ne.symm hb)]
      exact Heap.get?_push_of_some _ q
    have nr : ∀ b o, s.heap.get? b = some o → (∀ us, o.data ≠ .fields us) → b ≠ e := fun b o q hn z => by
      subst z
      rw [ge] at q
      cases q
      exact hn _ dt
    refine ⟨fun b o hb => kp b o (fun z => by rw [z, ne] at hb; cases hb) (st1 b o hb), ff.of_keeps fun b o q hn => ?_, ⟨_, _, h1.objs.size, ⟨.type "traceback", none, .fields ts, #[]⟩, ts, g3, ⟨Obj.cls_mapFields _ _, ?_⟩, Obj.data_mapFields dt _, ?_, st1.fresh, neT, ?_, rfl, t3⟩, fun b o q hn => ?_⟩
    · obtain ⟨sl, e1⟩ := so.2.2 b o q
      exact ⟨_, kp b _ (nr b o q hn) e1, rfl⟩
    · rw [Array.getElem?_setIfInBounds_ne (by decide)]
      exact z0
    · rw [Array.getElem?_setIfInBounds_self_of_lt z1]
    · exact (Heap.get?_update_other _ _ (Ne.symm neT)).trans (Heap.get?_push_size h1 rfl)
    · obtain ⟨sl, e1⟩ := so.2.2 b o q
      exact ⟨sl, kp b _ (nr b o q hn) e1⟩
  · exact ⟨_, Heap.get?_update_self _ g2 (Obj.isFreed_of_fields (Obj.data_mapFields dt _)), mapF_dict _ _⟩
/-- a frame is noted in an exception that flies -/
theorem note_own {cls a0 : Value} {d : Option Addr} {Q : Unit → Shared → Prop} (fr : A.frames = some (en :: out)) (fl : en.frame = some L) (F : Heap.FlyingW bs (en :: out) e cls a0 s.heap) (D : OwnD s.heap e d)
    (k : ∀ h', Heap.HeldW bs (en :: out) e cls a0 L h' → OwnD h' e d → s.heap.UpToSlots h' → Q () { s with heap := h' }) : wpAny M A (noteFrame (.ref e) en) Q E s := by
  obtain ⟨st, ne, ff, oe, vs, T, oT, ts, ge, ⟨rfl, z0⟩, dt, z1, nT, neT, gT, dT, t3⟩ := F
  obtain ⟨o1, g1, rfl⟩ := D
  cases ge.symm.trans g1
  unfold noteFrame
  simp only [fl]
  refine wpAny_bind (wpAny_field ge dt z1 ?_)
  rw [if_pos (show (Value.ref T != Value.none) = true from rfl)]
  refine wpAny_bind (wpAny_field gT dT t3 ?_)
  rw [if_neg (show ¬ ((Value.none == rawInt L) = true) from fun z => by cases z)]
  refine wpAny_bind (wpAny_setField gT dT (Array.getElem?_eq_some_iff.mp t3).1 ?_)
  have ot : ∀ b, b ≠ T → (s.heap.update T (Obj.mapFields (·.setIfInBounds 3 Value.none))).get? b = s.heap.get? b := fun b hb => Heap.get?_update_other _ _ (Ne.symm hb)
  have nr : ∀ b o, s.heap.get? b = some o → (∀ us, o.data ≠ .fields us) → b ≠ T := fun b o q hn z => by
    subst z
    rw [gT] at q
    cases q
    exact hn _ dT
  refine entry_own (s := { s with heap := s.heap.update T (Obj.mapFields (·.setIfInBounds 3 Value.none)) }) fr (ff.of_keeps fun b o q hn => ⟨o, (ot b (nr b o q hn)).trans q, rfl⟩) fl ((ot e (Ne.symm neT)).trans ge) (fun b o q => (ot b fun z => by subst z; rw [nT] at q; cases q).trans (st b o q)) ne dt
    (Array.getElem?_eq_some_iff.mp z1).1 z0 fun h' ⟨x1, x2, x3, x4⟩ D' => k h' ⟨x1, ne, x2, x3⟩ D' fun b o q hn => x4 b o ((ot b (nr b o q hn)).trans q) hn
theorem flight_own {l : List Env} {cls a0 fv : Value} {d : Option Addr} {Q : Unit → Shared → Prop} (st : bs.StaysIn s.heap) (ne : bs.get? e = none) (ff : s.heap.FunFrames bs l) (tr : s.heap.TracedAtW bs e cls a0 fv) (D : OwnD s.heap e d)
    (k : ∀ h', Heap.FlyingW bs l e cls a0 h' → OwnD h' e d → s.heap.UpToSlots h' → Q () { s with heap := h' }) : wpAny M A (setFlight (.ref e) none) Q E s := by
  obtain ⟨oe, vs, T, oT, ts, ge, hc, dt, z1, nT, neT, gT, dT, t3⟩ := tr
  have ot : ∀ b, b ≠ T → (s.heap.update T (Obj.mapFields (·.setIfInBounds 3 ((none : Option Addr).elim Value.none fun f => rawInt f)))).get? b = s.heap.get? b := fun b hb => Heap.get?_update_other _ _ (Ne.symm hb)
  have nr : ∀ b o, s.heap.get? b = some o → (∀ us, o.data ≠ .fields us) → b ≠ T := fun b o q hn z => by
    subst z
    rw [gT] at q
    cases q
    exact hn _ dT
  have z3 := (Array.getElem?_eq_some_iff.mp t3).1
  unfold setFlight
  refine wpAny_bind (wpAny_field ge dt z1 ?_)
  rw [if_pos (show (Value.ref T != Value.none) = true from rfl)]
  refine wpAny_setField gT dT z3 (k _ ⟨fun b o q => (ot b fun z => by subst z; rw [nT] at q; cases q).trans (st b o q), ne, ff.of_keeps fun b o q hn => ⟨o, (ot b (nr b o q hn)).trans q, rfl⟩,
    oe, vs, T, _, _, (ot e (Ne.symm neT)).trans ge, hc, dt, z1, nT, neT, Heap.get?_update_self _ gT (Obj.isFreed_of_fields (Obj.data_mapFields dT _)), Obj.data_mapFields dT _, Array.getElem?_setIfInBounds_self_of_lt z3⟩ ?_ fun b o q hn => ⟨o.slots, (ot b (nr b o q hn)).trans q⟩)
  obtain ⟨o1, g1, hd⟩ := D
  exact ⟨o1, (ot e (Ne.symm neT)).trans g1, hd⟩
/-- the exception leaves one more frame -/
theorem leave_own {cls a0 : Value} {d : Option Addr} {Q : Unit → Shared → Prop} (fr : A.frames = some (en :: out)) (fl : en.frame = some L) (F : Heap.FlyingW bs (en :: out) e cls a0 s.heap) (D : OwnD s.heap e d)
    (k : ∀ h', Heap.FlyingW bs out e cls a0 h' → OwnD h' e d → s.heap.UpToSlots h' → Q () { s with heap := h' }) : wpAny M A (leaving en (.ref e)) Q E s := by
  unfold leaving
  refine wpAny_bind (note_own fr fl F D fun h1 ⟨x1, x2, x3, x4⟩ D1 u1 => flight_own (s := { s with heap := h1 }) x1 x2 x3 x4 D1 fun h2 ⟨y1, y2, y3, y4⟩ D2 u2 => ?_)
  obtain ⟨_, _, y3'⟩ := y3
  exact k h2 ⟨y1, y2, y3', y4⟩ D2 (u1.trans u2)
/-- the exception leaves the frame that raised it -/
theorem leave_first {oe : Obj} {vs : Array Value} {a0 : Value} {Q : Unit → Shared → Prop} (fr : A.frames = some (en :: out)) (ff : s.heap.FunFrames bs (en :: out)) (fl : en.frame = some L)
    (ge : s.heap.get? e = some oe) (st : bs.StaysIn s.heap) (ne : bs.get? e = none) (dt : oe.data = .fields vs) (z1 : vs[1]? = some .none) (z0 : vs[0]? = some a0)
    (k : ∀ h', Heap.FlyingW bs out e oe.cls a0 h' → OwnD h' e oe.dict → s.heap.UpToSlots h' → Q () { s with heap := h' }) : wpAny M A (leaving en (.ref e)) Q E s := by
  unfold leaving noteFrame
  simp only [fl]
  refine wpAny_bind (wpAny_bind (wpAny_field ge dt z1 ?_))
  rw [if_neg (by decide)]
  refine entry_own fr ff fl ge st ne dt (Array.getElem?_eq_some_iff.mp z1).1 z0 fun h1 ⟨x1, x2, x3, x4⟩ D1 => flight_own (s := { s with heap := h1 }) x1 ne x2 x3 D1 fun h2 ⟨y1, y2, y3, y4⟩ D2 u2 => ?_
  obtain ⟨_, _, y3'⟩ := y3
  exact k h2 ⟨y1, y2, y3', y4⟩ D2 (Heap.UpToSlots.trans x4 u2)
end
end Ow
namespace Ow
open PySem PySem.Spec PyProof.Rows L2
theorem refuse_tail {h : Heap} {l : List Value} (self : Value) (T : OwnTail h VE l) : refuseLoop self "__setattr__" l = pure () := by
  induction T with
  | base => exact PySem.F.store_ValueError.passes self
  | own _ _ _ _ ih => rw [refuseLoop_ref]; exact ih
section
variable {prog : Program} {w : World} {A : Around} {E : Value → Shared → Prop} {s : Shared} {K : PySem.W.Frag} {x C N : Addr} {fs : Array Value} {sl : Array (Option Value)} {name : Str} {v : Value}
variable {nm qn : Str} {bs bm : List Value} {sn : List Str} {sub : List Value} {ab : Bool} {col : Option Bool} {dd : Option Addr} {k0 k1 k2 k3 k5 : Option Value} {nid : String}
/-- an attribute is laid down in an exception that has none yet -/
theorem set_exc {Q : Unit → Shared → Prop} (X : K.In s.heap) (hx : s.heap.get? x = some ⟨.ref C, none, .fields fs, sl⟩) (hC : s.heap.get? C = some (excClassObj nm qn C N bs bm true sn sub ab col dd k0 k1 k2 k3 k5 nid)) (T : OwnTail s.heap VE bm)
    (sa : PySem.W.findIn K (.ref C) "__setattr__" = some (some (.builtin "object.__setattr__"))) (na : PySem.W.findIn K (.ref C) name = some none) (mo : PySem.W.mroIn K C (.type "object") = some true)
    (k : ∀ h' t', h'.get? x = some ⟨.ref C, some s.heap.objs.size, .fields fs, sl⟩ → h'.Ns1 s.heap.objs.size (fun y => if y = name then some v else none) → (∀ b o, b ≠ x → s.heap.get? b = some o → h'.get? b = some o) → Q () { s with heap := h', toks := t' }) :
    wpAny (model prog w) A (setAttr (.ref x) name v) Q E s := by
  have I : PySem.W.InstAt s.heap x ⟨.ref C, none, .fields fs, sl⟩ C none := ⟨hx, rfl, rfl, True.intro⟩
  have SF := PySem.F.store_object
  have su : PySem.W.Looks (model prog w) s.heap (isInstance (.ref x) (.type "object")) true := I.type.andThen (PySem.W.looks_mroIn X mo)
  refine PySem.W.set_plain X I sa (codeAny_call_builtin SF.slot.plain SF.entry (@PySem.W.check_slot (model prog w) _ _ { s with toks := s.toks + 1 } "object.__setattr__" "object" "__setattr__" (.ref x) [.str name s.toks, v] [] _ SF.kind SF.split su (SF.args (.ref x) (.str name s.toks) v) ?_))
  rw [PySem.W.osa_eq, refuse_eq]
  refine wpAny_bind (wpAny_bind (PySem.W.Looks.here (s := { s with toks := s.toks + 1 }) I.type (wpAny_bind (wpAny_mroOf_exc hC ?_))))
  rw [refuseLoop_ref, refuse_tail _ T]
  refine wpAny_pure (wpAny_bind (PySem.W.Looks.here (s := { s with toks := s.toks + 1 }) I.type (wpAny_bind (PySem.W.Looks.here (s := { s with toks := s.toks + 1 }) (PySem.W.looks_findIn X na) (wpAny_bind (wpAny_pure ?_))))))
  show wpAny _ _ (Builtin.ObjectAttr.storeInOwnDict (.ref x) (.ref C) (.str name s.toks) name v false) _ _ _
  have L1 : PySem.W.Looks (model prog w) s.heap (classData C) _ := (PySem.W.Looks.ld (part := none) hC).andThen .now
  have xs : x ≠ s.heap.objs.size := Nat.ne_of_lt (Heap.lt_size hx)
  have hx1 : (s.heap.push { cls := .type "dict", data := .dict #[] }).get? x = some ⟨.ref C, none, .fields fs, sl⟩ := Heap.get?_push_of_some _ hx
  have up : ∀ f : Obj → Obj, f ⟨.ref C, none, .fields fs, sl⟩ = ⟨.ref C, some s.heap.objs.size, .fields fs, sl⟩ → ((s.heap.push { cls := .type "dict", data := .dict #[] }).update x f).get? x = some ⟨.ref C, some s.heap.objs.size, .fields fs, sl⟩ := fun f ef => by
    rw [Heap.get?_update_self f hx1 (by rw [ef]; rfl), ef]
  refine wpAny_bind (wpAny_pure (wpAny_bind (wpAny_bind (wpAny_loadPart hx (wpAny_bind (PySem.W.Looks.here (s := { s with toks := s.toks + 1 }) L1 ?_))))))
  refine wpAny_bind (wpAny_alloc' (wpAny_bind (wpAny_update' hx1 (wpAny_pure ?_))))
  have gd : ((s.heap.push { cls := .type "dict", data := .dict #[] }).update x fun o => { o with dict := some s.heap.objs.size }).get? s.heap.objs.size = some { cls := .type "dict", data := .dict #[] } :=
    (Heap.get?_update_other _ _ xs).trans (Heap.get?_push_size _ rfl)
  have nd : ((s.heap.push { cls := .type "dict", data := .dict #[] }).update x fun o => { o with dict := some s.heap.objs.size }).Ns s.heap.objs.size (fun _ => none) := ⟨_, #[], _, gd, rfl, fun e he => absurd he (by simp), fun _ => rfl⟩
  refine wpAny_bind (wpAny_pure (wpAny_bind (wpAny_nsSet1 (Heap.Ns1.of_empty nd) fun h' n2 sb => ?_)))
  obtain ⟨oD, eD, pD, gD, dD, cD⟩ := n2.count (PySem.Within.cons name v PySem.Within.nil)
  refine wpAny_bind (wpAny_lookBehind gD (by rw [dD]; exact pastItsLine_dict (Nat.le_trans cD (by rw [List.length_cons, List.length_nil, sizeLine_eq]; omega))) ?_)
  refine wpAny_pure (k h' _ ?_ ?_ fun b o hb q => ?_)
  · exact (sb.2 x xs).trans (up _ rfl)
  · exact n2
  · exact (sb.2 b (Nat.ne_of_lt (Heap.lt_size q))).trans ((Heap.get?_update_other _ _ (Ne.symm hb)).trans (Heap.get?_push_of_some _ q))
end
end Ow
namespace Ow
open PySem PySem.Spec PyProof.Rows L2
/-- the fields of an exception that was just made -/
abbrev exF (t : Addr) : Array Value := #[.ref t, .none, .none, .none, .bool false, .none]
abbrev exT (v : Value) : Obj := { cls := .type "tuple", data := .seq [v].toArray }
section
variable {prog : Program} {w : World} {A : Around} {E : Value → Shared → Prop} {h : Heap} {g : Array GenState} {d : Drawn} {t : Nat} {os : OsState} {C N fI : Addr} {v : Value} {oI : Obj} {mN : Str → Option Value}
variable {nm qn : Str} {bs bm : List Value} {hdc : Bool} {sn : List Str} {sub : List Value} {ab : Bool} {col : Option Bool} {dd : Option Addr} {k0 k1 k2 k3 k5 : Option Value}
/-- C(v): the tuple of its arguments at the heap's end, the exception behind it; then its own __init__ -/
theorem made_exc {Q : Fin → Shared → Prop} (T : OwnTail h VE bm) (hC : h.get? C = some (excClassObj nm qn C N bs bm hdc sn sub ab col dd k0 k1 k2 k3 k5 "ValueError.__new__")) (hn : h.Ns N mN) (hi : mN "__init__" = some (.ref fI))
    (gf : h.get? fI = some oI) (cf : oI.cls = .type "function")
    (k : wpAny (model prog w) A (call (.ref fI) [.ref (h.objs.size + 1), v]) (fun r s' => r = .none ∧ Q (.done (.ret (.ref (h.objs.size + 1)))) s') E ⟨(h.push (exT v)).push { cls := .ref C, data := .fields (exF h.objs.size) }, g, d, t, os⟩) :
    wpAny (model prog w) A (Builtin.«type.__call__» ⟨[.ref C, v], []⟩) Q E ⟨h, g, d, t, os⟩ := by
  have F := PySem.F.excBase_ValueError
  have st : ∀ b o, h.get? b = some o → ((h.push (exT v)).push { cls := .ref C, data := .fields (exF h.objs.size) }).get? b = some o := fun b o e => Heap.get?_push_of_some _ (Heap.get?_push_of_some _ e)
  have ge : ((h.push (exT v)).push { cls := .ref C, data := .fields (exF h.objs.size) }).get? (h.objs.size + 1) = some { cls := .ref C, data := .fields (exF h.objs.size) } := by
    have z := Heap.get?_push_size (h.push (exT v)) (o := { cls := .ref C, data := .fields (exF h.objs.size) }) rfl
    rwa [Heap.size_push] at z
  have cc : (Value.ref C :: bm).contains (.ref C) = true := by rw [List.contains_cons, beq_self_eq_true, Bool.true_or]
  repeat (first | with_reducible refine wpAny_loadPart_at hC ?_ | with_reducible refine wpAny_madeBy_exc hC ?_ | wp_step)
  refine codeAny_call_builtin_code (Code.quiet_builtin _ F.quiet) (wpAny_check_new_subT F T hC (codeAny_exc_new_subT F T hC (rest := [v]) ?_))
  show wpAny _ _ _ _ _ _
  unfold isInstance
  repeat (first | with_reducible refine wpAny_loadPart_at ge ?_ | (with_reducible refine wpAny_isSubtype_exc (st _ _ hC) ?_; rw [cc]) | wp_step)
  show wpAny _ _ (typeLookup (.ref C) _) _ _ _
  refine wpAny_typeLookup_tail (st _ _ hC) (hn.keeps st) (T.keeps st) F.mroIs F.init.lookup ?_
  rw [hi]
  refine wpAny_holding (wpAny_bind ?_)
  unfold bindSpecial
  refine wpAny_bind (wpAny_typeOf (T := "function") ⟨_, st _ _ gf, cf⟩ ?_)
  rw [if_pos (by decide)]
  refine wpAny_pure (wpAny_bind (wpAny_mono k (fun r s' q => ?_) fun _ _ z => z))
  obtain ⟨rfl, q⟩ := q
  wp_walk
  exact q
theorem call_exc {Q : Value → Shared → Prop} (T : OwnTail h VE bm) (hC : h.get? C = some (excClassObj nm qn C N bs bm hdc sn sub ab col dd k0 k1 k2 k3 k5 "ValueError.__new__")) (hn : h.Ns N mN) (hi : mN "__init__" = some (.ref fI))
    (gf : h.get? fI = some oI) (cf : oI.cls = .type "function")
    (k : wpAny (model prog w) (A.under (.builtin "type.__call__" ⟨[.ref C, v], []⟩)) (call (.ref fI) [.ref (h.objs.size + 1), v]) (fun r s' => r = .none ∧ Q (.ref (h.objs.size + 1)) s') E ⟨(h.push (exT v)).push { cls := .ref C, data := .fields (exF h.objs.size) }, g, d, t, os⟩) :
    wpAny (model prog w) A (call (.ref C) [v]) Q E ⟨h, g, d, t, os⟩ := by
  have f1 := tc_lookup
  have f2 := tc_bind (.ref C)
  have tT : (⟨h, g, d, t, os⟩ : Shared).TypeIs (.ref C) "type" := ⟨_, hC, rfl⟩
  refine wpAny_call (codeAny_of_tree ?_)
  show wpAny _ _ (callAny (.ref C) _) _ _ _
  repeat (any_goals (first | assumption | with_reducible refine wpAny_loadPart_at hC ?_ | wp_step))
  exact ⟨rfl, codeAny_call_builtin_at (Code.quiet_builtin _ (by decide +kernel)) entry_typeCall (wpAny_check_type_call_sub hC (made_exc T hC hn hi gf cf k))⟩
end
/-- raise x, x an instance of an own exception class -/
theorem raise_inst {M : Model} {A : Around} {E : Value → Shared → Prop} {s : Shared} {env : Env} {C N : Addr} {nm qn : Str} {bs bm : List Value} {hdc : Bool} {sn : List Str} {sub : List Value} {ab : Bool} {col : Option Bool} {dd : Option Addr} {k0 k1 k2 k3 k5 : Option Value} {nid : String}
    {x : Sem Value} {Q : Flow → Shared → Prop} (hb : bm.contains (.type "BaseException") = true) (hh : A.handled = none)
    (k : wpAny M A x (fun v s1 => ∃ (e t : Addr) (od : Option Addr), v = .ref e ∧ s1.heap.get? C = some (excClassObj nm qn C N bs bm hdc sn sub ab col dd k0 k1 k2 k3 k5 nid) ∧ s1.heap.get? e = some ⟨.ref C, od, .fields (exF t), #[]⟩ ∧ E (.ref e) s1) E s) :
    wpAny M A (raiseStmt env (some x) none) Q E s := by
  have cb : (Value.ref C :: bm).contains (.type "BaseException") = true := by rw [List.contains_cons, hb, Bool.or_true]
  unfold raiseStmt
  refine wpAny_bind (wpAny_mono k (fun v s1 q => ?_) fun _ _ z => z)
  obtain ⟨e, t, od, rfl, gC, ge, q⟩ := q
  obtain ⟨hp, g, d, tk, os⟩ := s1
  repeat (first | with_reducible refine wpAny_loadPart_at ge ?_ | with_reducible refine wpAny_loadPart_at gC ?_ | (with_reducible refine wpAny_isSubtype_exc gC ?_; rw [cb]) | wp_step)
  exact wpAny_raiseNew_none hh q
end Ow
namespace Ow
open PySem PySem.Spec PyProof.Rows L2
/-- an exception class of the program with an __init__ of its own, two rows beneath ValueError -/
def excFn (K : PySem.W.Frag) (C f : Addr) : Bool :=
  match K.lookup C with
  | some ⟨.type "type", _, .cls c, q⟩ =>
    (match c.mro, q.toList with
    | .ref D :: tl, [_, _, _, _, some (.builtin n), _] => D == C && (n == "ValueError.__new__" && (!c.hasDel && (c.hasDict && (PySem.W.tailIn K VE tl && (PySem.W.nsOkIn K c.ns && PySem.W.nsIn K c.ns "__init__" == some (some (.ref f)))))))
    | _, _ => false)
  | _ => false
theorem ns_some {K : PySem.W.Frag} {h : Heap} {N : Addr} {m : Str → Option Value} {n : Str} {v : Value} (X : K.In h) (G : h.Ns N m) (e : PySem.W.nsIn K N n = some (some v)) : m n = some v := by
  obtain ⟨o, es, ep, go, hd, _, hf⟩ := G
  unfold PySem.W.nsIn at e
  split at e
  · next q =>
    have z := X _ _ q
    rw [go] at z
    cases z
    cases hd
    split at e
    · next he =>
      cases e
      rw [← hf]
      unfold nsFind findBy
      rw [← Array.find?_toList, he]
      rfl
    · split at e <;> cases e
  · cases e
theorem exc_fn {K : PySem.W.Frag} {h : Heap} {C f : Addr} (X : K.In h) (q : excFn K C f = true) :
    ∃ bm N nm qn bs sn sub ab col dd k0 k1 k2 k3 k5 mN, h.get? C = some (excClassObj nm qn C N bs bm true sn sub ab col dd k0 k1 k2 k3 k5 "ValueError.__new__") ∧ h.Ns N mN ∧ mN "__init__" = some (.ref f) ∧ OwnTail h VE bm := by
  unfold excFn at q
  split at q
  · next d0 c0 s0 e0 =>
    split at q
    · next D m1 y0 y1 y2 y3 n1 y5 em es =>
      simp only [beq_iff_eq, Bool.not_eq_true', Bool.and_eq_true] at q
      obtain ⟨eC, en, ed, eh, et, eo, ei⟩ := q
      subst eC en
      obtain ⟨a1, a2, a3, a4, a5, a6, a7, a8, a9, a10, a11⟩ := c0
      dsimp only at em ed eo ei eh
      subst em ed eh
      obtain ⟨l0⟩ := s0
      have es' : l0 = [y0, y1, y2, y3, some (Value.builtin "ValueError.__new__"), y5] := es
      subst es'
      have G : h.Ns a4 _ := .of_isNs (PySem.W.isNs_of_in X eo)
      exact ⟨m1, a4, a1, a5, a2, a7, a8, a9, a10, d0, y0, y1, y2, y3, y5, _, X _ _ e0, G, ns_some X G ei, PySem.W.tail_of_in X et⟩
    · cases q
  · cases q
/-- the exception at e while its class's __init__ runs and until it is raised -/
def xO (e C t : Addr) (od : Option Addr) : HO := .ext fun h => h.get? e = some ⟨.ref C, od, .fields (exF t), #[]⟩
def drop (H : Hp) (e : Addr) : Hp := fun b => if b = e then none else H b
theorem drop_ne {H : Hp} {e b : Addr} (h : b ≠ e) : drop H e b = H b := if_neg h
theorem drop_same {H : Hp} {e : Addr} : drop H e e = none := if_pos rfl
theorem xO_ok {P : Program} {w : World} {H : Hp} {h : Heap} {e C t : Addr} {od : Option Addr} (g : h.get? e = some ⟨.ref C, od, .fields (exF t), #[]⟩) : ObjOk P w H h e (xO e C t od) := ⟨g, ⟨_, g⟩, fun _ _ a b => b _ a⟩
/-- an exception in flight over the frames of the callers, with its own dict -/
def CX2 (P : Program) (w : World) (base : Heap) : CXT := fun outer H s E e s' =>
  ∃ (a : Addr) (cls a0 : Value) (B : Heap) (H' : Hp) (dd : Option Addr), e = .ref a ∧ s'.os = s.os ∧ AllBare s'.gens ∧ Gnd P w base (frs outer) H H' s.heap B ∧ Slots (frs outer) s.heap s'.heap ∧ Heap.FlyingW B outer a cls a0 s'.heap ∧ H' a = none ∧ OwnD s'.heap a dd ∧ E cls dd H'
section
variable {P : Program} {w : World} {K : PySem.W.Frag} {mg : Str → Option Value} {base : Heap} {N : List Str} {qual : Str} {scope : Scope} {f : Addr} {cdv : Value} {A : Around} {outer : List Env} {s₀ : Shared} {H₀ : Hp} {E : XK}
theorem leaves_own {pins : List (Addr × Obj)} {σ : L2.St} {H : Hp} {s : Shared} {e C t : Addr} {od : Option Addr} (I : Inv (cxOf (CX2 P w base) P w K mg base N qual scope f cdv A outer s₀ H₀ E) pins σ H s)
    (he : H e = some (xO e C t od)) (hn : s₀.heap.get? e = none) (q : E (.ref C) od (drop H e)) : (cxOf (CX2 P w base) P w K mg base N qual scope f cdv A outer s₀ H₀ E).xe (.ref e) s := by
  have ge : s.heap.get? e = some ⟨.ref C, od, .fields (exF t), #[]⟩ := (I.hok e _ he).1
  have hst := I.stack
  have nof : ∀ b o, s₀.heap.get? b = some o → b ∉ frs outer → b ∉ e :: frs (envOfC qual scope s₀.heap.objs.size f cdv :: outer) := fun b o e1 nb hm => by
    rcases List.mem_cons.mp hm with z | hm
    · rw [z, hn] at e1
      cases e1
    rcases List.mem_cons.mp (I.stkSub b hm) with z | z
    · exact Nat.lt_irrefl _ (Nat.lt_of_lt_of_le (z ▸ Heap.lt_size e1) I.ok.above)
    · exact nb z
  have nx : ∀ b : Addr, b ∉ ([] : List Addr) := fun b z => nomatch z
  have ne : ∀ b u, H b = some u → (∀ φ, u ≠ .ext φ) → b ≠ e := fun b u e1 hk z => by
    rw [z, he] at e1
    cases e1
    exact hk _ rfl
  have dr : ∀ b u, H b = some u → (∀ φ, u ≠ .ext φ) → drop H e b = some u := fun b u e1 hk => by rw [drop_ne (ne b u e1 hk)]; exact e1
  refine leave_first (bs := PySem.W.hideAll s.heap (e :: frs (envOfC qual scope s₀.heap.objs.size f cdv :: outer))) (a0 := .ref t) I.ok.frames
    (PySem.W.funFrames_hide hst fun e1 he1 b hb => List.mem_cons_of_mem _ (List.mem_filterMap.mpr ⟨e1, he1, hb⟩)) rfl ge (fun b o e1 => PySem.W.of_hideAll _ e1) (PySem.W.hideAll_none _ (List.mem_cons_self ..)) rfl rfl rfl fun h2 fl D up => ?_
  refine ⟨e, _, .ref t, _, drop H e, od, rfl, I.os, I.bare, ⟨fun b o e1 => PySem.W.hideAll_get _ (I.bk b o e1) fun hm => ?_, fun b o e1 n nb => PySem.W.hideAll_get _ (I.base.keep b o e1 n nb (nx b)) (nof b o e1 nb), fun b o e1 n => ?_,
    fun b o e1 nb => ?_, fun b xs z => dr b _ (I.base.tups b xs z) (fun _ z => nomatch z), fun b o u z => dr b _ (I.base.frzs b o u z) (fun _ z => nomatch z), fun b ps z => ?_, fun b u e1 => ?_⟩, fun b hb o e1 => ?_, fl, drop_same, D, q⟩
  · rcases List.mem_cons.mp hm with z | hm
    · have z2 := (I.bs b o e1).2
      rw [z, he] at z2
      cases z2
    · have z := (hst.mem hm).1
      exact nomatch (show (some o : Option Obj) = none from e1.symm.trans z)
  · by_cases hb : b = e
    · rw [hb, drop_same]
    · rw [drop_ne hb]
      exact I.base.free b o e1 n (nx b)
  · obtain ⟨o', e2⟩ := I.base.there b o e1 (nx b)
    exact ⟨o', PySem.W.hideAll_get _ e2 (nof b o e1 nb)⟩
  · obtain ⟨more, z2⟩ := I.base.tbls b ps z
    exact ⟨more, dr b _ z2 (fun _ z => nomatch z)⟩
  · have hb : b ≠ e := fun z => by
      rw [z, drop_same] at e1
      cases e1
    rw [drop_ne hb] at e1
    refine (I.hok b u e1).stay (fun c v hc e2 => PySem.W.hideAll_get _ e2 fun hm => ?_) (fun c z => dr c _ z (fun _ z => nomatch z)) fun c xs z => dr c _ z (fun _ z => nomatch z)
    rcases List.mem_cons.mp hm with z | hm
    · rcases hc with hc | hc
      · exact hb (hc.symm.trans z)
      · rw [z, he] at hc
        cases hc
    · have z := I.stkFree c hm
      rcases hc with rfl | hc
      · rw [e1] at z; cases z
      · rw [hc] at z; cases z
  · obtain ⟨sl, e2⟩ := I.base.slot b o e1 (I.ok.frf b hb) hb (nx b)
    obtain ⟨_, o1, e3, d⟩ := I.funs.mem hb
    rw [e2] at e3
    cases e3
    obtain ⟨s2, e4⟩ := up b _ e2 d
    exact ⟨s2, e4⟩
end
end Ow
namespace Ow
open PySem PySem.Spec PyProof.Rows L2
structure XCls (K : PySem.W.Frag) (C fI : Addr) (f : Str) : Prop where
  ef : excFn K C fI = true
  sa : PySem.W.findIn K (.ref C) "__setattr__" = some (some (.builtin "object.__setattr__"))
  mo : PySem.W.mroIn K C (.type "object") = some true
  na : PySem.W.findIn K (.ref C) f = some none
  fn : PySem.W.typeIn K (.ref fI) = some (.type "function")
  kp : PySem.W.keepIn K (.ref C) = true
def sXset (K : PySem.W.Frag) (ta tv : TE) (f : Str) : TS := fun D σ H => tv σ H fun y H1 => ta σ H1 fun x H2 => ∃ e C t fI, x = .ref e ∧ H2 e = some (xO e C t none) ∧ XCls K C fI f ∧ ∀ d, H2 d = none → d ≠ e → D.nx σ (upd (upd H2 d (.xd [(f, y)])) e (xO e C t (some d)))
section
variable {X : Cx} {f : Str} {o value : Expr} {ta tv : TE} {pos pos' : Pos}
theorem ps_xset (ha : PE X o ta) (hv : PE X value tv) (hs : swapsWith value (some (.Attribute o f pos')) pos.line X.env = pure false) : PS X (.Assign [.Attribute o f pos'] value pos) (sXset X.K ta tv f) := by
  intro pins s σ H D I h
  refine plainObj_wpAny_Assign_Attribute (thn (hv pins s σ H _ I h) fun u s1 ⟨y, H1, I1, ry, q⟩ => thn (ha pins s1 σ H1 _ I1 q) fun ov s2 ⟨x, H2, I2, rx, e, C, t, fI, ex, he, c, q2⟩ => ?_) hs
  subst ex
  obtain rfl : ov = Value.ref e := rx
  have ge : s2.heap.get? e = some ⟨.ref C, none, .fields (exF t), #[]⟩ := (I2.hok e _ he).1
  obtain ⟨bm, N, nm, qn, bs, sn, sub, ab, col, dd, k0, k1, k2, k3, k5, mN, gC, _, _, T⟩ := exc_fn I2.kIn c.ef
  refine set_exc I2.kIn ge gC T c.sa c.na c.mo fun h' t' g1 n1 kp => ?_
  have hd : H2 s2.heap.objs.size = none := I2.hok.fresh (Nat.le_refl _)
  have dne : s2.heap.objs.size ≠ e := fun z => by rw [z, he] at hd; cases hd
  obtain ⟨od, es, ep, gd, hda, rest⟩ := n1
  have gd1 : (s2.heap.push od).get? s2.heap.objs.size = some od := Heap.get?_push_size _ (by
    obtain ⟨c1, c2, c3, c4⟩ := od
    cases (show c3 = .dict es ep from hda)
    rfl)
  have I3 := I2.laid (a := s2.heap.objs.size) (o := .xd [(f, y)]) (h' := s2.heap.push od) (t' := s2.toks) (fun b u q => Heap.get?_push_of_some _ q) (Nat.le_refl _) ⟨_, ⟨od, es, ep, gd1, hda, rest⟩, fun g => by
    by_cases hg : g = f
    · subst hg
      rw [if_pos rfl, List.lookup_cons_self]
      exact ry
    · rw [if_neg hg, List.lookup_cons, beq_eq_false_iff_ne.mpr hg]
      exact True.intro⟩
  have I4 := I3.write (x := e) (e := e) (o := xO e C t (some s2.heap.objs.size)) (h' := h') (t' := t') (by rw [upd_ne (Ne.symm dne), he]; exact True.intro) (.inl rfl) (fun b v hb z => by
    by_cases hz : b = s2.heap.objs.size
    · subst hz
      have z1 := gd1.symm.trans z
      cases z1
      exact gd
    · rw [Heap.get?_push_ne _ _ _ hz] at z
      exact kp b v hb z) ⟨_, g1⟩ (xO_ok g1)
  exact ⟨σ, _, I4, q2 _ hd dne⟩
end
end Ow
namespace Ow
open PySem PySem.Spec PyProof.Rows L2
/-- what an __init__ that lays one field down promises -/
def spXI (f : Str) (C : Addr) : Sp := fun vs H Q _ => ∃ (e t : Addr) (v : V), vs = [.ref e, v] ∧ H e = some (xO e C t none) ∧ ∀ d, H d = none → d ≠ e → Q .non (upd (upd H d (.xd [(f, v)])) e (xO e C t (some d)))
structure XHas (P : Program) (w : World) (K : PySem.W.Frag) (mg : Str → Option Value) (base : Heap) (k : Nat) (x : Str) (C : Addr) (f : Str) : Prop where
  ex : ∃ (fI : Addr) (fd : FuncData) (p1 p2 : Str), FnOk P w K mg base CX0 k fI fd [p1, p2] (spXI f C) ∧ Binds K fd [p1, p2] [] ∧ XCls K C fI f ∧ mg x = some (.ref C)
section
variable {P : Program} {w : World} {K : PySem.W.Frag} {mg : Str → Option Value} {base : Heap} {N : List Str} {qual : Str} {scope : Scope} {fa : Addr} {cdv : Value} {A : Around} {outer : List Env} {s₀ : Shared} {H₀ : Hp} {E : XK}
def tRaise1 (C : Addr) (f : Str) (E : XK) (ta : TA) : TS := fun _ σ H => ta σ H fun vs H1 => ∃ v, vs = [v] ∧ ∀ d, H1 d = none → E (.ref C) (some d) (upd H1 d (.xd [(f, v)]))
/-- raise C(v), C with an own __init__ that lays one field down -/
theorem ps_raise1 {k : Nat} {x f : Str} {C : Addr} {np cpos pos : Pos} {e1 : Expr} {ta : TA} (h : XHas P w K mg base k x C f) (hr : Room (k + 1) (cxOf (CX2 P w base) P w K mg base N qual scope fa cdv A outer s₀ H₀ E).A) (hg : Gl (cxOf (CX2 P w base) P w K mg base N qual scope fa cdv A outer s₀ H₀ E) x)
    (ha : PA (cxOf (CX2 P w base) P w K mg base N qual scope fa cdv A outer s₀ H₀ E) [e1] ta) (hdb : (x == ("__debug__" : Str)) = false := by decide)
    (hst : starEach [e1] (cxOf (CX2 P w base) P w K mg base N qual scope fa cdv A outer s₀ H₀ E).env = (false, eval e1 (cxOf (CX2 P w base) P w K mg base N qual scope fa cdv A outer s₀ H₀ E).env) :: starEach [] (cxOf (CX2 P w base) P w K mg base N qual scope fa cdv A outer s₀ H₀ E).env := by rfl) :
    PS (cxOf (CX2 P w base) P w K mg base N qual scope fa cdv A outer s₀ H₀ E) (.Raise (some (.Call (.Name x np) [e1] [] cpos)) none pos) (tRaise1 C f E ta) := by
  intro pins s σ H D I ht
  obtain ⟨fI, fd, p1, p2, F, hb, c, hm⟩ := h.ex
  obtain ⟨bm, N', nm, qn, bs, sn, sub, ab, col, dd, k0, k1, k2, k3, k5, mN, gC, gN, gi, T⟩ := exc_fn I.ok.mod.kin c.ef
  rw [arm_exec_Raise]
  refine wpAny_bind (wpAny_standAt (raise_inst (C := C) (nm := nm) (qn := qn) (N := N') (bs := bs) (bm := bm) (hdc := true) (sn := sn) (sub := sub) (ab := ab) (col := col) (dd := dd) (k0 := k0) (k1 := k1) (k2 := k2) (k3 := k3) (k5 := k5) (nid := "ValueError.__new__")
    (T.hasType PySem.F.excBase_ValueError.hasBase) (I.ok.hd rfl) (wpAny_bind (wpAny_mono (Q := fun v s1 => ∃ (e t : Addr) (od : Option Addr), v = .ref e ∧ s1.heap.get? C = some (excClassObj nm qn C N' bs bm true sn sub ab col dd k0 k1 k2 k3 k5 "ValueError.__new__") ∧ s1.heap.get? e = some ⟨.ref C, od, .fields (exF t), #[]⟩ ∧ (cxOf (CX2 P w base) P w K mg base N qual scope fa cdv A outer s₀ H₀ E).xe (.ref e) s1) ?_ (fun v s3 h3 => wpAny_bind (wpAny_standAt (wpAny_pure h3))) fun _ _ z => z))))
  refine wpAny_Call_Name_kw (ld_glob I hg hm ?_ hdb)
  refine PySem.W.callWith_K (h₀ := base) I.ok.mod.kin c.kp (thn (ha cpos pins s σ H _ I ht) fun us s1 ⟨vs, H1, I1, r1, v, ev, q1⟩ => ⟨I1.kIn, ?_⟩) hst rfl
  subst ev
  obtain ⟨u, rfl, ru⟩ := r1.one
  have st1 := I1.bk
  have gf : ∃ oI, s1.heap.get? fI = some oI ∧ oI.cls = .type "function" := by
    obtain ⟨oI, e1, e2⟩ := Option.map_eq_some_iff.mp c.fn
    exact ⟨oI, I1.kIn _ _ e1, e2⟩
  obtain ⟨oI, gf, cf⟩ := gf
  obtain ⟨hh, g, dr, tk, os⟩ := s1
  have ge : ((hh.push (exT u)).push { cls := .ref C, data := .fields (exF hh.objs.size) }).get? (hh.objs.size + 1) = some { cls := .ref C, data := .fields (exF hh.objs.size) } := by
    have z := Heap.get?_push_size (hh.push (exT u)) (o := { cls := .ref C, data := .fields (exF hh.objs.size) }) rfl
    rwa [Heap.size_push] at z
  have He : H1 (hh.objs.size + 1) = none := I1.hok.fresh (Nat.le_succ _)
  have I2 := I1.laid (a := hh.objs.size + 1) (o := xO (hh.objs.size + 1) C hh.objs.size none) (h' := (hh.push (exT u)).push { cls := .ref C, data := .fields (exF hh.objs.size) }) (t' := tk) (fun b o q => Heap.get?_push_of_some _ (Heap.get?_push_of_some _ q)) (Nat.le_succ _) (xO_ok ge)
  refine call_exc (T.keeps st1) (st1 _ _ gC) (gN.keeps st1) gi gf cf (wpAny_call (codeAny_mono (F.run _ (cxOf (CX2 P w base) P w K mg base N qual scope fa cdv A outer s₀ H₀ E).stack _ _ ⟨[.ref (hh.objs.size + 1), u], []⟩ [.ref (hh.objs.size + 1), u] [.ref (hh.objs.size + 1), v]
    (fun y H3 => y = .non ∧ ∃ d, upd H1 (hh.objs.size + 1) (xO (hh.objs.size + 1) C hh.objs.size none) d = none ∧ d ≠ hh.objs.size + 1 ∧ H3 = upd (upd (upd H1 (hh.objs.size + 1) (xO (hh.objs.size + 1) C hh.objs.size none)) d (.xd [(f, v)])) (hh.objs.size + 1) (xO (hh.objs.size + 1) C hh.objs.size (some d))) E0 (hr.make C [u] [])
    (I2.env0.make C [u] []) (hb _ _ I2.kIn rfl) (.cons rfl (.cons ru .nil)) ⟨_, _, v, rfl, upd_same .., fun d hd ne => ⟨rfl, d, hd, ne, rfl⟩⟩) fun r s' hq => ?_))
  cases r with
  | error e => exact False.elim hq
  | ok fl =>
    cases fl with
    | ret u' =>
      obtain ⟨y, H3, I3, ry, rfl, d, hd, ne, rfl⟩ := I2.after hq
      refine ⟨ry, hh.objs.size + 1, hh.objs.size, some d, rfl, I3.bk _ _ gC, (I3.hok _ _ (upd_same ..)).1, ?_⟩
      rw [upd_ne ne] at hd
      refine leaves_own I3 (upd_same ..) ?_ ?_
      · refine Heap.get?_none_of_le (Nat.le_trans I1.sz (Nat.le_succ _))
      · have e3 : drop (upd (upd (upd H1 (hh.objs.size + 1) (xO (hh.objs.size + 1) C hh.objs.size none)) d (.xd [(f, v)])) (hh.objs.size + 1) (xO (hh.objs.size + 1) C hh.objs.size (some d))) (hh.objs.size + 1) = upd H1 d (.xd [(f, v)]) := by
          funext b
          by_cases hb : b = hh.objs.size + 1
          · rw [hb, drop_same, upd_ne (Ne.symm ne), He]
          · rw [drop_ne hb, upd_ne hb]
            by_cases hbd : b = d
            · rw [hbd, upd_same, upd_same]
            · rw [upd_ne hbd, upd_ne hb, upd_ne hbd]
        rw [e3]
        exact q1 d hd
    | next => exact False.elim hq
    | brk => exact False.elim hq
    | cont => exact False.elim hq
end
end Ow
namespace Ow
open PySem PySem.Spec PyProof.Rows L2
section
variable {P : Program} {w : World} {K : PySem.W.Frag} {mg : Str → Option Value} {base : Heap} {N : List Str} {qual : Str} {scope : Scope} {f : Addr} {cdv : Value} {A : Around} {outer : List Env} {s₀ : Shared} {H₀ : Hp} {E : XK}
/-- a def that may raise, its exception's own dict known -/
theorem Fun.okY {x qual : Str} {st : Stmt} {f : Addr} {fd : FuncData} {N ps : List Str} {k : Nat} {sp : Sp} (F : Fun K x qual st f fd) (S : FnScope N ps (defScope st)) (len : ∀ vs H Q E, sp vs H Q E → vs.length = ps.length)
    (hbody : ∀ (cdv : Value) (A : Around) (outer : List Env) (s : Shared) (H : Hp) (vs : List V) (Q : VK) (E : XK), Room k (A.deeper (envOfC qual (defScope st) s.heap.objs.size f cdv)) → sp vs H Q E →
      ∃ t, PSs (cxOf (CX2 P w base) P w K mg base N qual (defScope st) f cdv A outer s H E) (defBody st) t ∧ t { nx := fun _ H' => Q .non H', rt := Q } (start N vs) H) : FnOk P w K mg base (CX2 P w base) (k + 1) f fd ps sp := by
  obtain ⟨oc, od, kV, doc, pm, an, cdv, ct, osl, e1, lk, hcd⟩ := F.ex
  subst e1
  exact fn_of lk hcd S len fun A outer s H vs Q E hr hsp => hbody cdv A outer s H vs Q E hr hsp
/-- the exception of a callee passes a def that may raise -/
theorem passY : Passes (CX2 P w base) (cxOf (CX2 P w base) P w K mg base N qual scope f cdv A outer s₀ H₀ E) E := by
  intro pins σ H s e s' I hq
  obtain ⟨a, cls, a0, B, H2, dd, rfl, hos, hba, G, sl, fl, ha0, D, hw⟩ := hq
  have nof : ∀ b o, s₀.heap.get? b = some o → b ∉ frs outer → b ∉ frs (envOfC qual scope s₀.heap.objs.size f cdv :: outer) := fun b o e1 nb hm => by
    rcases List.mem_cons.mp (I.stkSub b hm) with z | z
    · exact Nat.lt_irrefl _ (Nat.lt_of_lt_of_le (z ▸ Heap.lt_size e1) I.ok.above)
    · exact nb z
  have nx : ∀ b : Addr, b ∉ ([] : List Addr) := fun b z => nomatch z
  have sub : ∀ b ∈ frs outer, b ∈ frs (envOfC qual scope s₀.heap.objs.size f cdv :: outer) := fun b hb => by
    obtain ⟨en, he, hf⟩ := List.mem_filterMap.mp hb
    exact List.mem_filterMap.mpr ⟨en, List.mem_cons_of_mem _ he, hf⟩
  refine leave_own I.ok.frames rfl fl D fun h2 fl2 D2 up => ?_
  refine ⟨a, cls, a0, B, H2, dd, rfl, hos.trans I.os, hba, ⟨G.st, fun b o e1 n nb => G.keep b o (I.base.keep b o e1 n nb (nx b)) (I.base.free b o e1 n (nx b)) (nof b o e1 nb), fun b o e1 n => ?_, fun b o e1 nb => ?_,
    fun b xs z => G.tups b xs (I.base.tups b xs z), fun b o u z => G.frzs b o u (I.base.frzs b o u z), fun b ps z => ?_, G.hok⟩, fun b hb o e1 => ?_, fl2, ha0, D2, hw⟩
  · obtain ⟨o', e2⟩ := I.base.there b o e1 (nx b)
    exact G.free b o' e2 (I.base.free b o e1 n (nx b))
  · obtain ⟨o', e2⟩ := I.base.there b o e1 (nx b)
    exact G.there b o' e2 (nof b o e1 nb)
  · obtain ⟨m1, e1⟩ := I.base.tbls b ps z
    obtain ⟨m2, e2⟩ := G.tbls b _ e1
    exact ⟨m1 ++ m2, by rw [e2, Array.append_assoc]⟩
  · obtain ⟨l1, e2⟩ := I.base.slot b o e1 (I.ok.frf b hb) hb (nx b)
    obtain ⟨l2, e3⟩ := sl b (sub b hb) _ e2
    obtain ⟨_, o1, e4, d⟩ := fl.2.2.1.mem (sub b hb)
    rw [e3] at e4
    cases e4
    obtain ⟨l3, e5⟩ := up b _ e3 d
    exact ⟨l3, e5⟩
end
structure HasY (P : Program) (w : World) (K : PySem.W.Frag) (mg : Str → Option Value) (base : Heap) (k : Nat) (x : Str) (ps : List Str) (sp : Sp) : Prop where
  ex : ∃ (f : Addr) (fd : FuncData), FnOk P w K mg base (CX2 P w base) k f fd ps sp ∧ Binds K fd ps [] ∧ PySem.W.keepIn K (.ref f) = true ∧ mg x = some (.ref f)
section
variable {P : Program} {w : World} {K : PySem.W.Frag} {mg : Str → Option Value} {base : Heap} {N : List Str} {qual : Str} {scope : Scope} {f : Addr} {cdv : Value} {A : Around} {outer : List Env} {s₀ : Shared} {H₀ : Hp} {E : XK}
theorem pe_fnYX {k : Nat} {x : Str} {ps : List Str} {sp : Sp} {p pos : Pos} {e : Expr} {es : List Expr} {t : TA} (h : HasY P w K mg base k x ps sp) (hr : Room k (cxOf (CX2 P w base) P w K mg base N qual scope f cdv A outer s₀ H₀ E).A)
    (hg : Gl (cxOf (CX2 P w base) P w K mg base N qual scope f cdv A outer s₀ H₀ E) x) (ha : PA (cxOf (CX2 P w base) P w K mg base N qual scope f cdv A outer s₀ H₀ E) (e :: es) t) (hdb : (x == ("__debug__" : Str)) = false := by decide)
    (he : starEach (e :: es) (cxOf (CX2 P w base) P w K mg base N qual scope f cdv A outer s₀ H₀ E).env = (false, eval e (cxOf (CX2 P w base) P w K mg base N qual scope f cdv A outer s₀ H₀ E).env) :: starEach es (cxOf (CX2 P w base) P w K mg base N qual scope f cdv A outer s₀ H₀ E).env := by rfl)
    (hpl : (backTo pos (starEach es (cxOf (CX2 P w base) P w K mg base N qual scope f cdv A outer s₀ H₀ E).env)).any (·.1) = false := by rfl) :
    PE (cxOf (CX2 P w base) P w K mg base N qual scope f cdv A outer s₀ H₀ E) (.Call (.Name x p) (e :: es) [] pos) (tCall sp [] E t) := by
  obtain ⟨fa, fd, F, b, kp, m⟩ := h.ex
  exact pe_call F hr hg m kp b .nil passY ha hdb he hpl
end
theorem passYN {X : Cx} : Passes (CX2 X.prog X.w X.base) X E0 := fun _ _ _ _ _ _ _ hq => by
  obtain ⟨_, _, _, _, _, _, _, _, _, _, _, _, _, _, hw⟩ := hq
  exact hw.elim
theorem pe_fnYN {X : Cx} {k : Nat} {x : Str} {ps : List Str} {sp : Sp} {p pos : Pos} {e : Expr} {es : List Expr} {t : TA} (h : HasY X.prog X.w X.K X.mg X.base k x ps sp) (hr : Room k X.A) (hg : Gl X x) (ha : PA X (e :: es) t) (hdb : (x == ("__debug__" : Str)) = false := by decide)
    (he : starEach (e :: es) X.env = (false, eval e X.env) :: starEach es X.env := by rfl) (hpl : (backTo pos (starEach es X.env)).any (·.1) = false := by rfl) : PE X (.Call (.Name x p) (e :: es) [] pos) (tCall sp [] E0 t) := by
  obtain ⟨fa, fd, F, b, kp, m⟩ := h.ex
  exact pe_call F hr hg m kp b .nil passYN ha hdb he hpl
/-- the rows of a try -/
def tryCy (X : Cx) (pins : List (Addr × Obj)) (E : L2.St → XK) : Cx := (pinned X pins).wish fun e s' => ∃ (pins' : List (Addr × Obj)) (σ' : L2.St) (H : Hp) (s : Shared), Inv (pinned X pins) pins' σ' H s ∧ CX2 X.prog X.w X.base X.stack H s (E σ') e s'
theorem pe_fnYT {X : Cx} {pins : List (Addr × Obj)} {E : L2.St → XK} {k : Nat} {x : Str} {ps : List Str} {sp : Sp} {p pos : Pos} {e : Expr} {es : List Expr} {t : TA} (h : HasY X.prog X.w X.K X.mg X.base k x ps sp) (hr : Room k X.A) (hg : Gl X x) (ha : PA (tryCy X pins E) (e :: es) t) (hdb : (x == ("__debug__" : Str)) = false := by decide)
    (he : starEach (e :: es) X.env = (false, eval e X.env) :: starEach es X.env := by rfl) (hpl : (backTo pos (starEach es X.env)).any (·.1) = false := by rfl) :
    PE (tryCy X pins E) (.Call (.Name x p) (e :: es) [] pos) (tCallT sp E t) := by
  intro pins2 s σ H Q I ht
  obtain ⟨fa, fd, F, hbi, hk, hm⟩ := h.ex
  refine wpAny_Call_Name_kw (ld_glob I hg hm ?_ hdb)
  refine PySem.W.callWith_K (h₀ := X.base) I.ok.mod.kin hk (thn (ha pos pins2 s σ H _ I ht) fun us s1 ⟨vs, H1, I1, r1, q1⟩ => ⟨I1.kIn, ?_⟩) he hpl
  have r2 : Vals (vs ++ []) us := by rw [List.append_nil]; exact r1
  have hl : us.length = ps.length := by rw [← r2.length]; exact F.len _ _ _ _ q1
  have bd := hbi s1 us I1.kIn (by rw [List.append_nil]; exact hl)
  rw [List.append_nil] at bd
  refine wpAny_call (codeAny_mono (F.run X.A X.stack s1 H1 ⟨us, []⟩ us (vs ++ []) _ _ hr I1.env0 bd r2 q1) fun r s' hq => ?_)
  cases r with
  | error ev => exact ⟨pins2, σ, H1, s1, I1.unwish, hq⟩
  | ok fl =>
    cases fl with
    | ret u => exact I1.after hq
    | next => exact False.elim hq
    | brk => exact False.elim hq
    | cont => exact False.elim hq
section
variable {X : Cx} {j : Nat} {n c : Str} {C₁ : Addr} {b₀ : Stmt} {suite : List Stmt} {tb : Addr → Obj → TS} {np hpos : Pos}
/-- from the flight to the suite, behind which it goes on -/
theorem landY {pins : List (Addr × Obj)} {σ : L2.St} {H1 : Hp} {s1 s' : Shared} {D : Ends} {E : XK} {ev : Value} (I : Inv X pins σ H1 s1) (hq : CX2 X.prog X.w X.base X.stack H1 s1 E ev s') (hst : X.stack = X.env :: X.outer) (hfr : X.env.frame = some X.env.locals)
    (hN : X.N.Nodup) (hgc : Gl X c) (hmc : X.mg c = some (.ref C₁)) (hj : X.N[j]? = some n) (hnl : X.env.scope.names.lookup n = some .local) (hb : ∀ (a : Addr) (oe : Obj), PSs (caught X a oe) (b₀ :: suite) (tb a oe)) (hno : X.xe = fun _ _ => False)
    (hE : ∀ cls dd H2, E cls dd H2 → PySem.W.exmOne X.K cls (.ref C₁) = some true ∧ ∀ (a : Addr) (oe : Obj), oe.cls = cls → oe.dict = dd → PySem.W.notCls oe = true → H2 a = none → tb a oe (endsK j D) (σ.set j (some (.ref a))) H2) (hdc : (c == ("__debug__" : Str)) = false) :
    wpAny (model X.prog X.w) X.A (noteFrame ev X.env) (fun _ s₂ => wpAny (model X.prog X.w) X.A (setFlight ev none) (fun _ s₃ => wpAny (model X.prog X.w) X.A (handleBy ev X.env [.ExceptHandler (some (.Name c np)) (some n) (b₀ :: suite) hpos]) (SP X pins D) X.xe s₃) X.xe s₂) X.xe s' := by
  obtain ⟨a, cls, a0, B, H2, dd, rfl, hos, hba, G, sl, fl, ha0, D0, hw⟩ := hq
  obtain ⟨hm, hsu⟩ := hE cls dd H2 hw
  have frm : X.A.frames = some (X.env :: X.outer) := hst ▸ I.ok.frames
  rw [hst] at fl
  have sl' : Slots (frs (X.env :: X.outer)) s1.heap s'.heap := hst ▸ sl
  refine note_own frm hfr fl D0 fun h4 hd4 D4 up4 => ?_
  refine flight_own hd4.1 hd4.2.1 hd4.2.2.1 hd4.2.2.2 D4 fun h5 fl5 D5 up5 => ?_
  have sl5 := (sl'.on fl.2.2.1 up4).on hd4.2.2.1 up5
  have inv : ∀ (hh : Heap) (sx : Shared), sx.heap = hh → sx.os = s1.os → AllBare sx.gens → B.StaysIn hh → Slots (frs (X.env :: X.outer)) s1.heap hh → Inv X pins σ H2 sx := fun hh sx e1 e2 e3 e4 e5 => by
    refine I.call' (ch := []) e2 ?_ ?_ e3 fun b z => nomatch z
    · rw [e1]; exact G.un e4 (hst ▸ e5)
    · rw [e1]; exact G.hok.kept e4
  have I5 : Inv X pins σ H2 { s' with heap := h5 } := inv h5 _ rfl hos hba fl5.1 sl5
  have noT : ∀ hh : Heap, Heap.FlyingW B (X.env :: X.outer) a cls a0 hh → a ≠ X.env.locals ∧ a ∉ X.fs := fun hh flx => by
    obtain ⟨oe, ws, e1, _, e2, _⟩ := flx.first
    have key : ∀ b ∈ frs (X.env :: X.outer), a ≠ b := fun b hb z => by
      obtain ⟨_, o, e3, d⟩ := flx.2.2.1.mem hb
      rw [← z, e1] at e3
      cases e3
      exact d _ e2
    have mL : X.env.locals ∈ frs (X.env :: X.outer) := List.mem_filterMap.mpr ⟨X.env, List.mem_cons_self .., hfr⟩
    refine ⟨key _ mL, fun z => key a ?_ rfl⟩
    obtain ⟨en, he, hf⟩ := List.mem_filterMap.mp z
    exact List.mem_filterMap.mpr ⟨en, List.mem_cons_of_mem _ he, hf⟩
  obtain ⟨o5, ob5, oc5⟩ := fl5.there
  obtain ⟨_, w5, ob5', _, od5, _⟩ := fl5.first
  have I5c : Inv (caught X a o5) pins σ H2 { s' with heap := h5 } := caught_inv I5 ob5 ha0 (noT h5 fl5).1 (noT h5 fl5).2 (fun v z => by
    rw [ob5] at ob5'
    cases ob5'
    rw [od5] at z
    cases z)
  refine wpAny_handleBy_cons (codeAny_handlers_test (ld_glob I5c hgc hmc ?_ hdc)) (by intro z; cases z)
  have LT : PySem.W.Looks (model X.prog X.w) h5 (typeOf (.ref a)) cls := oc5 ▸ (PySem.W.Looks.ld ob5).andThen .now
  refine (PySem.W.exm_one (K := X.K) I5.kIn LT hm).here ?_
  refine codeAny_handlers_suite_as ?_
  refine flight_own (s := { s' with heap := h5 }) fl5.1 fl5.2.1 fl5.2.2.1 fl5.2.2.2 D5 fun h6 fl6 D6 up6 => ?_
  have I6 : Inv X pins σ H2 { s' with heap := h6 } := inv h6 _ rfl hos hba fl6.1 (sl5.on fl5.2.2.1 up6)
  obtain ⟨o6, w6, ob6, oc6, od6, _⟩ := fl6.first
  have dd6 : o6.dict = dd := by
    obtain ⟨o7, e7, d7⟩ := D6
    rw [ob6] at e7
    cases e7
    exact d7
  have I6c : Inv (caught X a o6) pins σ H2 { s' with heap := h6 } := caught_inv I6 ob6 ha0 (noT h6 fl6).1 (noT h6 fl6).2 (fun v z => by rw [od6] at z; cases z)
  refine store_ok (X := caught X a o6) I6c hN hj (.inl hnl) (v := .ref a) rfl (fun s7 I7 => ?_) (.inr hnl)
  refine wpAny_mono (hb a o6 pins s7 _ H2 _ I7 (hsu a o6 oc6 dd6 (by unfold PySem.W.notCls; rw [od6]) ha0)) (fun fw s8 q8 => ?_) fun ex s8 q8 => ?_
  · cases fw with
    | ret u =>
      obtain ⟨v, σ8, H8, I8, r8, q8⟩ := q8
      obtain ⟨m8, n8, _⟩ := I8.loc
      refine wpAny_nameGoes (env := X.env) hnl n8 (by rw [I.ok.kind]; rfl) fun h9 m9 n9 sb => ?_
      exact ⟨v, _, H8, suite_end I8 I.ok n9 sb, r8, q8⟩
    | next =>
      obtain ⟨σ8, H8, I8, q8⟩ := q8
      obtain ⟨m8, n8, l8⟩ := I8.loc
      refine wpAny_nameGoes_keeps (env := X.env) hnl n8 (by rw [I.ok.kind]; rfl) fun h9 v9 n9 sb => ?_
      exact ⟨_, H8, suite_endK I8 I.ok hN hj l8 n9 sb, q8⟩
    | brk => obtain ⟨_, _, _, z⟩ := q8; exact False.elim z
    | cont => obtain ⟨_, _, _, z⟩ := q8; exact False.elim z
  · have z : X.xe ex s8 := q8
    rw [hno] at z
    exact False.elim z
end
def wishY (K : PySem.W.Frag) (C₁ : Addr) (j : Nat) (ts : Addr → Obj → TS) (D : Ends) : L2.St → XK := fun σ' cls dd H2 => PySem.W.exmOne K cls (.ref C₁) = some true ∧ ∀ (a : Addr) (oe : Obj), oe.cls = cls → oe.dict = dd → PySem.W.notCls oe = true → H2 a = none → ts a oe (endsK j D) (σ'.set j (some (.ref a))) H2
def tTryY (K : PySem.W.Frag) (C₁ : Addr) (j : Nat) (tb : (L2.St → XK) → TS) (ts : Addr → Obj → TS) : TS := fun D σ H => tb (wishY K C₁ j ts D) D σ H
/-- try: rows, one of which may raise; except C as n: rows -/
theorem ps_tryY {X : Cx} {j : Nat} {n c : Str} {C₁ : Addr} {b₀ : Stmt} {body suite : List Stmt} {tb : (L2.St → XK) → TS} {ts : Addr → Obj → TS} {np hpos tpos : Pos} (hbd : ∀ pins E, PSs (tryCy X pins E) body (tb E)) (hN : X.N.Nodup) (hgc : Gl X c) (hmc : X.mg c = some (.ref C₁))
    (hj : X.N[j]? = some n) (hnl : X.env.scope.names.lookup n = some .local) (hb : ∀ (a : Addr) (oe : Obj), PSs (caught X a oe) (b₀ :: suite) (ts a oe)) (hno : X.xe = fun _ _ => False := by rfl) (hst : X.stack = X.env :: X.outer := by rfl) (hfr : X.env.frame = some X.env.locals := by rfl)
    (hdc : (c == ("__debug__" : Str)) = false := by decide) : PS X (.Try body [.ExceptHandler (some (.Name c np)) (some n) (b₀ :: suite) hpos] [] [] tpos) (tTryY X.K C₁ j tb ts) := by
  intro pins s σ H D I ht
  refine wpAny_Try_except (wpAny_mono (hbd pins (wishY X.K C₁ j ts D) [] s σ H D ((to_pinned I).wish _) ht) (fun fl s1 q => ?_) fun ev s1 q => ?_)
  · cases fl with
    | next => obtain ⟨σ', H', I', q⟩ := q; exact wpAny_execs_nil ⟨σ', H', of_pinned I.ok I'.unwish, q⟩
    | brk => obtain ⟨σ', H', I', q⟩ := q; exact ⟨σ', H', of_pinned I.ok I'.unwish, q⟩
    | cont => obtain ⟨σ', H', I', q⟩ := q; exact ⟨σ', H', of_pinned I.ok I'.unwish, q⟩
    | ret u => obtain ⟨v, σ', H', I', r, q⟩ := q; exact ⟨v, σ', H', of_pinned I.ok I'.unwish, r, q⟩
  · obtain ⟨pins2, σ2, H2, s2, I2, hq⟩ := q
    exact landY (of_pinned I.ok I2) hq hst hfr hN hgc hmc hj hnl hb hno (fun cls dd H3 z => z) hdc
end Ow
namespace Ow
open PySem PySem.Spec PyProof.Rows L2
section
variable {prog : Program} {w : World} {A : Around} {E : Value → Shared → Prop} {h : Heap} {g : Array GenState} {d : Drawn} {t : Nat} {os : OsState} {K : PySem.W.Frag} {a C D : Addr} {o od : Obj} {name : Str} {v : Value}
theorem xat (hx : h.get? a = some o) (hc : o.cls = .ref C) (hd : o.dict = some D) (hn : PySem.W.notCls o = true) (gd : h.get? D = some od) : PySem.W.InstAt h a o C (some od) := ⟨hx, hc, hn, by rw [hd]; exact gd⟩
theorem getx_entry {tk : Tok} {Q : Fin → Shared → Prop} (X : K.In h) (I : PySem.W.InstAt h a o C (some od)) (hf : PySem.W.findObj K C (some od) name = some (.value v)) (hq : Q (.done (.ret v)) ⟨h, g, d, t, os⟩) :
    wpAny (model prog w) A (Builtin.«object.__getattribute__» ⟨[.ref a, .str name tk], []⟩) Q E ⟨h, g, d, t, os⟩ := by
  have L0 := I.type (M := model prog w)
  have L1 := PySem.W.looks_find (M := model prog w) X I hf
  refine wpAny_bind (wpAny_pure (wpAny_bind (wpAny_pure (wpAny_bind (L0.at (wpAny_bind (L1.at ?_)))))))
  exact wpAny_pure hq
theorem getx_by {tk : Tok} {fill ex : Bool} {Q : Value → Shared → Prop} (X : K.In h) (f : ExF K C) (I : PySem.W.InstAt h a o C (some od)) (hf : PySem.W.findObj K C (some od) name = some (.value v)) (hv : PySem.W.handedIn v = true) (hq : Q v ⟨h, g, d, t, os⟩) :
    wpAny (model prog w) A (getAttrBy (.ref a) (.str name tk) fill ex) Q E ⟨h, g, d, t, os⟩ := by
  have hx := I.at_
  have hc := I.cls
  have f3 := F.attr_ValueError.ga.bind (.ref a)
  have L1 := PySem.W.looks_findIn (M := model prog w) X f.ga
  have L2 := PySem.W.looks_findIn (M := model prog w) X f.gn
  have hx2 : (Value.builtin "BaseException.__getattribute__" == Value.builtin "object.__getattribute__") = false := by decide +kernel
  have hx1 : (onTheHeap (Value.ref C) && Value.builtin "BaseException.__getattribute__" == Value.builtin "object.__getattribute__") = false := by rw [hx2]; rfl
  have hx0 : (ex && onTheHeap (Value.builtin "BaseException.__getattribute__")) = false := by cases ex <;> rfl
  have hho := PySem.W.handedOut_of hv
  repeat (any_goals (first | assumption | (with_reducible refine wpAny_loadPart_at hx ?_; rw [hc]) | with_reducible refine L1.at ?_ | with_reducible refine L2.at ?_ | wp_step))
  refine codeAny_call_builtin F.attr_ValueError.ga.plain F.entry_bexc_ga (exc_check X f hx hc (getx_entry X I hf ?_))
  repeat (any_goals (first | assumption | wp_step))
theorem getx {ex : Bool} {Q : Value → Shared → Prop} (X : K.In h) (f : ExF K C) (I : PySem.W.InstAt h a o C (some od)) (hf : PySem.W.findObj K C (some od) name = some (.value v)) (hv : PySem.W.handedIn v = true) (hq : Q v ⟨h, g, d, t + 1, os⟩) :
    wpAny (model prog w) A (getAttr (.ref a) name ex) Q E ⟨h, g, d, t, os⟩ := by
  unfold getAttr
  exact wpAny_bind (wpAny_mkText (getx_by X f I hf hv hq))
end
/-- e.f of a caught exception: the field that its __init__ laid down -/
def tXf (K : PySem.W.Frag) (ta : TE) (a : Addr) (oe : Obj) (f : Str) : TE := fun σ H Q => ta σ H fun x H1 => ∃ C D fs v, x = .ref a ∧ oe.cls = .ref C ∧ oe.dict = some D ∧ PySem.W.notCls oe = true ∧ ExF K C ∧ PySem.W.hasDictIn K C = true ∧ NoAttr K C f ∧ H1 D = some (.xd fs) ∧ fs.lookup f = some v ∧ Q v H1
theorem pe_xf {X : Cx} {a : Addr} {oe : Obj} {f : Str} {e : Expr} {ta : TE} {pos : Pos} (hp : (a, oe) ∈ X.pn) (he : PE X e ta) (hb : attributeBase e f X.env (eval e X.env) = eval e X.env) : PE X (.Attribute e f pos) (tXf X.K ta a oe f) := by
  intro pins s σ H Q I h
  refine attr_of hb (thn (he pins s σ H _ I h) fun u s1 ⟨x, H1, I1, rx, C, D, fs, v, ex, hc, hd, hn, f1, f2, f3, hD, hl, q⟩ => ?_)
  subst ex
  obtain rfl : u = Value.ref a := rx
  have pa := I1.pin _ (List.mem_append_left _ hp)
  obtain ⟨mA, ns, r⟩ := I1.hok D _ hD
  obtain ⟨od, gd, hlk⟩ := lookIn_ns ns
  obtain ⟨v', hv, rv⟩ := RelO.some_of (v := v) (o := mA f) (by rw [← hl]; exact r f)
  obtain ⟨hh, g, d, t, os⟩ := s1
  exact getx I1.kIn f1 (xat pa.1 hc hd hn gd) (PySem.W.findObj_own f2 f3 rfl (by rw [hlk, hv])) (handed_of rv) ⟨v, H1, I1.tok _, rv, q⟩
end Ow
/-! ## sets of ints: set(list), walked in any order, sorted -/
namespace Ow
open PySem PySem.Spec PyProof.Rows L2
/-! ### a set's table: its places rise, where it is a plain one -/
def Rise (xs : Array Nat) : Prop := ∀ i j, i < j → j < xs.size → xs.getD i 0 < xs.getD j 0
def Good (t : SetTable) : Prop := t.plain = true → Rise t.place
end Ow
namespace Ow
open PySem PySem.Spec PyProof.Rows L2
def keyI (e : Int × Value) : Int := match e.2 with | .int k _ => k | _ => 0
def AllI (l : List (Int × Value)) : Prop := ∀ e ∈ l, ∃ k tk, e = (hashInt k, Value.int k tk)
/-- an object that is a set of ints, in the order of its places -/
def SetI (w : World) (o : Obj) (ks : List Int) : Prop := ∃ es ep t, o = ⟨.type "set", none, .set es ep t, #[]⟩ ∧ AllI es.toList ∧ es.toList.map keyI = ks ∧ ks.Nodup ∧ es.size < scanBound ∧ t.fits es.size = true ∧ (w.params.followText "set-order" = false → t.led = true) ∧ Good t
theorem AllI.push {l l' : List (Int × Value)} {k : Int} {tk : Tok} (h : AllI l) (p : List.Perm l' (l ++ [(hashInt k, Value.int k tk)])) : AllI l' := fun e he => by
  rcases List.mem_append.mp (p.mem_iff.mp he) with z | z
  · exact h e z
  · rw [List.mem_singleton] at z
    exact ⟨k, tk, z⟩
section
variable {prog : Program} {w : World} {A : Around} {E : Value → Shared → Prop} {s : Shared} {a : Addr} {o : Obj} {ks : List Int} {k : Int} {tk : Tok}
end
end Ow
namespace Ow
open PySem PySem.Spec PyProof.Rows L2
/-- the set at S holds just the first i values -/
def Upto (w : World) (val : Nat → Int) (i : Nat) (S : Addr) (h : Heap) : Prop := ∃ o ks, h.get? S = some o ∧ SetI w o ks ∧ ks.length ≤ i ∧ ∀ x, x ∈ ks ↔ ∃ j, j < i ∧ val j = x
section
variable {prog : Program} {w : World} {A : Around} {R : Result → Shared → Prop} {I : Addr} {fp wr : List Addr} {G : Array GenState → Array GenState → Prop} {n : Nat} {P : Nat → Value → Prop} {St : Nat → Shared → Prop}
end
section
variable {prog : Program} {w : World} {A : Around} {E : Value → Shared → Prop} {s : Shared}
end
end Ow
namespace Ow
open PySem PySem.Spec PyProof.Rows L2
/-- the iterator of a set -/
def itO (first : Value) (i : Nat) (S : Addr) (n ep : Nat) : Obj := ⟨.type "set_iterator", none, .fields #[first, .int i 0, .ref S, .int n 0, .int ep 0], #[]⟩
section
variable {prog : Program} {w : World} {A : Around} {E : Value → Shared → Prop} {s : Shared} {S I : Addr} {es : Array (Int × Value)} {ep : Nat} {t : SetTable}
end
end Ow
namespace Ow
open PySem PySem.Spec PyProof.Rows L2
section
variable {prog : Program} {w : World} {A : Around} {E : Value → Shared → Prop} {s : Shared} {S I : Addr} {es : Array (Int × Value)} {ep : Nat} {t : SetTable}
abbrev stO (es : Array (Int × Value)) (ep : Nat) (t : SetTable) : Obj := ⟨.type "set", none, .set es ep t, #[]⟩
end
end Ow
namespace Ow
open PySem PySem.Spec PyProof.Rows L2
/-- what a walk over a set yields: its elements, in some order -/
def Yields (es : Array (Int × Value)) (vs : List Value) : Prop := List.Perm vs (es.toList.map (·.2))
section
variable {prog : Program} {w : World} {A : Around} {E : Value → Shared → Prop} {s : Shared} {S : Addr} {es : Array (Int × Value)} {ep : Nat} {t : SetTable}
end
end Ow
namespace Ow
open PySem PySem.Spec PyProof.Rows L2
abbrev eL : Obj := { cls := .type "list", data := .seq ([] : List Value).toArray }
section
variable {prog : Program} {w : World} {A : Around} {E : Value → Shared → Prop} {s : Shared} {S : Addr} {es : Array (Int × Value)} {ep : Nat} {t : SetTable}
end
end Ow
namespace Ow
open PySem PySem.Spec PyProof.Rows L2
def intOf : Value → Int | .int k _ => k | _ => 0
section
variable {prog : Program} {w : World} {A : Around} {E : Value → Shared → Prop} {s : Shared} {S : Addr} {o : Obj} {ks : List Int}
end
/-! ### sets and sorted over the layer -/
/-- a set of ints: what is in it -/
def sI (w : World) (p : Addr) (ns : List Int) : HO := .ext fun h => ∃ o ks, h.get? p = some o ∧ SetI w o ks ∧ (∀ x, x ∈ ks ↔ x ∈ ns) ∧ ks.length ≤ ns.length
theorem vals_ints : ∀ {ns : List Int} {us : List Value}, Vals (ns.map V.int) us → IntsAre us ns
  | [], us, r => by cases r; exact .nil
  | n :: ns, us, r => by
    cases r with
    | cons h r =>
      obtain ⟨t, rfl⟩ := h
      exact .cons n t (vals_ints r)
theorem ints_vals {us : List Value} {ns : List Int} (h : IntsAre us ns) : Vals (ns.map V.int) us := by
  induction h with
  | nil => exact .nil
  | cons n t _ ih => exact .cons ⟨t, rfl⟩ ih
theorem strict {ns : List Int} (h : ns.Pairwise (· ≤ ·)) (nd : ns.Nodup) : ns.Pairwise (· < ·) := by
  refine (h.and nd).imp fun {a b} ⟨h1, h2⟩ => ?_
  exact Int.lt_iff_le_and_ne.mpr ⟨h1, h2⟩
/-- sorted(list of ints) -/
theorem call_sorted_list {X : Cx} : CallR X (.builtin "sorted") (fun xs H Q => ∃ (p : Addr) (ns : List Int), xs = [.ref p] ∧ SqL X.K H p (ns.map V.int) ∧ ns.length < 64 ∧ ∀ (q : Addr) (zs : List Int), H q = none → zs.Pairwise (· ≤ ·) → zs.Perm ns → Q (.ref q) (upd H q (.lst (zs.map V.int)))) := by
  intro pins s σ H xs us Q I r h
  obtain ⟨p, ns, rfl, hp, hn, k⟩ := h
  obtain ⟨u, rfl, ru⟩ := r.one
  cases (show u = Value.ref p from ru)
  obtain ⟨its, rv, pl, _⟩ := I.list hp
  have hi := vals_ints rv
  have le : its.length = ns.length := by have := rv.length; rw [List.length_map] at this; exact this.symm
  refine sorted_ints pl.isList hi (by omega) fun out zs iz pm pw => ?_
  obtain ⟨n, gq⟩ := sortedAll_at s.heap its out
  have lz : zs.length = ns.length := pm.length_eq
  have fr : H (s.heap.objs.size + 1) = none := I.hok.fresh (Nat.le_succ _)
  have I2 := I.laid (a := s.heap.objs.size + 1) (o := .lst (zs.map V.int)) (h' := sortedAll s.heap its out) (t' := s.toks) (fun b u q => sortedAll_old q) (Nat.le_succ _) ⟨by rw [List.length_map, sizeLine_eq]; omega, out.toList, n, ints_vals iz, gq⟩
  exact ⟨.ref _, _, I2, rfl, k _ zs fr pw pm⟩
end Ow
/-! common14: for a, b in zip(s, t) of two tuples. -/
namespace L2
open PySem PySem.Spec PyProof.Rows
section
variable {prog : Program} {w : World} {A : Around} {E : Value → Shared → Prop} {s : Shared}
/-- the five things that zip(l1, l2) lays -/
abbrev zT (h : Heap) (l1 l2 : Addr) : Heap :=
  ((((h.push { cls := .type "tuple_iterator", data := .fields #[.ref l1, .int 0 0] }).push { cls := .type "tuple_iterator", data := .fields #[.ref l2, .int 0 0] }).push { cls := .type "tuple", data := .seq #[.ref h.objs.size, .ref (h.objs.size + 1)] }).push { cls := .type "tuple", data := .seq #[.none, .none] }).push { cls := .type "zip", data := .fields #[.none, .bool false, .bool false, .ref (h.objs.size + 2), .ref (h.objs.size + 3)] }
end
section
variable {X : Cx}
def Itz (K : PySem.W.Frag) (a b : Addr) : It :=
  ⟨fun i H => ∃ xs ys x y, SqT K H a xs ∧ SqT K H b ys ∧ xs[i]? = some x ∧ ys[i]? = some y,
   fun i H v H' => ∀ xs ys x y, SqT K H a xs → SqT K H b ys → xs[i]? = some x → ys[i]? = some y → ∃ T, v = .ref T ∧ H T = none ∧ H' = upd H T (.tup [x, y]),
   fun i H => ∃ xs, SqT K H a xs ∧ xs.length ≤ i⟩
def iZip (K : PySem.W.Frag) (ta : TA) : TI := fun σ H R => ta σ H fun vs H1 => ∃ a b xs ys, vs = [.ref a, .ref b] ∧ SqT K H1 a xs ∧ SqT K H1 b ys ∧ R (Itz K a b) H1
end
end L2
namespace Ow
open PySem PySem.Spec PyProof.Rows L2
theorem Has.imp {P : Program} {w : World} {K : PySem.W.Frag} {mg : Str → Option Value} {base : Heap} {k : Nat} {x : Str} {ps : List Str} {sp sp' : Sp} (h : Has P w K mg base k x ps sp) (i : ∀ vs H Q E, sp' vs H Q E → sp vs H Q E) : Has P w K mg base k x ps sp' := by
  obtain ⟨f, fd, F, b, kp, m⟩ := h.ex
  exact ⟨f, fd, F.imp i, b, kp, m⟩
/-! ### an empty dict -/
theorem dk_none {P : Program} {w : World} {H : Hp} (h : Heap) (hb : sysModules < h.objs.size) : ObjOk P w H (h.push { cls := .type "dict", data := .dict #[] }) h.objs.size (.dK []) :=
  ⟨Nat.zero_le _, beq_eq_false_iff_ne.mpr (Ne.symm (Nat.ne_of_lt hb)), [], .nil, Heap.DictOf.new h⟩
theorem inv_big {X : Cx} {pins : List (Addr × Obj)} {σ : L2.St} {H : Hp} {s : Shared} (I : Inv X pins σ H s) : sysModules < s.heap.objs.size := by
  have h1 := I.ok.mod.glob.lt
  have h2 := Nat.le_trans I.ok.bsz I.sz
  exact Nat.lt_of_lt_of_le (Nat.lt_of_le_of_lt (by decide) h1) h2
def tDNew : TE := fun _ H Q => ∀ p, H p = none → Q (.ref p) (upd H p (.dK []))
theorem pe_dnewK {X : Cx} {pos : Pos} : PE X (.Dict [] [] pos) tDNew := fun pins s σ H Q I h =>
  wpAny_Dict_empty ⟨.ref s.heap.objs.size, _, I.laid (a := s.heap.objs.size) (o := .dK []) (t' := s.toks) (fun _ _ q => Heap.get?_push_of_some _ q) (Nat.le_refl _) (dk_none s.heap (inv_big I)), rfl, h _ (I.hok.fresh (Nat.le_refl _))⟩
/-! ### things of any kind -/
inductive Th (H : Hp) : V → Prop where
  | int (i : Int) : Th H (.int i)
  | bl (b : Bool) : Th H (.bl b)
  | str (x : Str) : Th H (.str x)
  | non : Th H .non
  | lst {a : Addr} {xs : List V} (h : H a = some (.lst xs)) : Th H (.ref a)
  | tup {a : Addr} {xs : List V} (h : H a = some (.tup xs)) : Th H (.ref a)
  | dct {a : Addr} {kvs : List (Key × V)} (h : H a = some (.dK kvs)) : Th H (.ref a)
theorem Th.same {H H' : Hp} {x : V} (t : Th H x) (s : Same H H') : Th H' x := by
  cases t with
  | int i => exact .int i
  | bl b => exact .bl b
  | str x => exact .str x
  | non => exact .non
  | lst h => exact .lst (s _ _ h)
  | tup h => exact .tup (s _ _ h)
  | dct h => exact .dct (s _ _ h)
theorem Th.updN {H : Hp} {x : V} {l : Addr} {o : HO} (t : Th H x) (n : x ≠ .ref l) : Th (upd H l o) x := by
  cases t with
  | int i => exact .int i
  | bl b => exact .bl b
  | str x => exact .str x
  | non => exact .non
  | lst h => exact .lst (by rw [upd_ne (fun z => n (by rw [z]))]; exact h)
  | tup h => exact .tup (by rw [upd_ne (fun z => n (by rw [z]))]; exact h)
  | dct h => exact .dct (by rw [upd_ne (fun z => n (by rw [z]))]; exact h)
theorem Th.exc {H H' : Hp} {x : V} {p : Addr} (t : Th H x) (s : SameX p H H') (hp : ∃ xs, H' p = some (.lst xs)) : Th H' x := by
  obtain ⟨ys, hp⟩ := hp
  cases t with
  | int i => exact .int i
  | bl b => exact .bl b
  | str x => exact .str x
  | non => exact .non
  | @lst a xs h =>
    by_cases e : a = p
    · rw [e]; exact .lst hp
    · exact .lst (s _ _ e h)
  | @tup a xs h =>
    by_cases e : a = p
    · rw [e]; exact .lst hp
    · exact .tup (s _ _ e h)
  | @dct a xs h =>
    by_cases e : a = p
    · rw [e]; exact .lst hp
    · exact .dct (s _ _ e h)
def isI : V → Bool
  | .int _ => true
  | _ => false
def btw (x : V) (lo hi : Int) : Bool := match x with
  | .int i => decide (lo ≤ i) && decide (i ≤ hi)
  | _ => false
theorem btw_not {x : V} {lo hi : Int} (h : isI x = false) : btw x lo hi = false := by
  cases x <;> first | rfl | cases h
theorem kit_str_int (K : PySem.W.Frag) : PySem.W.kitOne K (.type "str") (.type "int") = some false := by with_unfolding_all rfl
theorem kit_non_int (K : PySem.W.Frag) : PySem.W.kitOne K (.type "NoneType") (.type "int") = some false := by with_unfolding_all rfl
theorem kit_lst_int (K : PySem.W.Frag) : PySem.W.kitOne K (.type "list") (.type "int") = some false := by with_unfolding_all rfl
theorem kit_tup_int (K : PySem.W.Frag) : PySem.W.kitOne K (.type "tuple") (.type "int") = some false := by with_unfolding_all rfl
theorem kit_dct_int (K : PySem.W.Frag) : PySem.W.kitOne K (.type "dict") (.type "int") = some false := by with_unfolding_all rfl
def spWholeG : Sp := fun vs H Q _ => ∃ x : V, vs = [x] ∧ Th H x ∧ Q (.bl (isI x)) H
def spBtwG : Sp := fun vs H Q _ => ∃ (x : V) (lo hi : Int), vs = [x, .int lo, .int hi] ∧ Th H x ∧ Q (.bl (btw x lo hi)) H
def spWordG : Sp := fun vs H Q _ => ∃ (w : Int) (x : V), vs = [.int w, x] ∧ 4 ≤ w ∧ w ≤ 32 ∧ Th H x ∧ Q (.bl (btw x 0 (1 * 2 ^ w.toNat - 1))) H
/-- a list that grows, of things, beside a box -/
structure Tg (p l : Addr) (H0 H : Hp) (xs : List V) : Prop where
  at_ : H l = some (.lst xs)
  th : ∀ y ∈ xs, Th H y ∧ y ≠ .ref l
  sx : SameX p H0 H
  fr : H0 l = none
  np : l ≠ p
theorem Tg.push {p l : Addr} {H0 H : Hp} {xs : List V} (t : Tg p l H0 H xs) {y : V} (h : Th H y) (n : y ≠ .ref l) : Tg p l H0 (upd H l (.lst (xs ++ [y]))) (xs ++ [y]) :=
  ⟨upd_same, fun z hz => by
    rcases List.mem_append.mp hz with hz | hz
    · exact ⟨(t.th z hz).1.updN (t.th z hz).2, (t.th z hz).2⟩
    · rw [List.mem_singleton.mp hz]; exact ⟨h.updN n, n⟩, fun b o hb e => by rw [upd_ne (ne_of_none e t.fr)]; exact t.sx b o hb e, t.fr, t.np⟩
theorem Tg.exc {p l : Addr} {H0 H H' : Hp} {xs : List V} (t : Tg p l H0 H xs) (b : ∃ ys, H' p = some (.lst ys)) (x : SameX p H H') : Tg p l H0 H' xs :=
  ⟨x _ _ t.np t.at_, fun y hy => ⟨(t.th y hy).1.exc x b, (t.th y hy).2⟩, t.sx.trans x, t.fr, t.np⟩
theorem Tg.new {p l : Addr} {H0 H H' : Hp} {xs : List V} (t : Tg p l H0 H xs) (s : Same H H') : Tg p l H0 H' xs :=
  ⟨s _ _ t.at_, fun y hy => ⟨(t.th y hy).1.same s, (t.th y hy).2⟩, t.sx.trans (SameX.of s), t.fr, t.np⟩
end Ow
/-! ## A list comprehension with one test -/
namespace Ow
open PySem PySem.Spec PyProof.Rows L2
def tCompT (wi : TI) (tc : TT) (te : TE) (cap : L2.St → L2.St) : TE := fun σ H Q => wi σ H fun J H1 => ∀ D, H1 D = none → ∃ W : Nat → Nat → Hp → Prop, (∃ m, W 0 m (upd H1 D (.lst []))) ∧ ∀ i m H, W i m H →
  (J.stop i H ∧ Q (.ref D) H) ∨ (J.go i H ∧ ∀ x H', J.yld i H x H' → tc (some x :: cap σ) H' fun b HA => if b = true then te (some x :: cap σ) HA (fun y H2 => ∃ ys, H2 D = some (.lst ys) ∧ ys.length < sizeLine ∧ ∃ m', m' < m ∧ W (i + 1) m' (upd H2 D (.lst (ys ++ [y])))) else ∃ m', m' < m ∧ W (i + 1) m' HA)
section
variable {X : Cx} {elt iter cc : Expr} {x : Str} {px pos : Pos} {scope : Scope} {wi : TI} {tc : TT} {te : TE} {N : List Str} {cl : List (Str × Addr)} {cap : L2.St → L2.St}
theorem pe_compT (hc : X.calm = true) (hclos : closureFor scope X.env = pure cl) (hsub : ∀ n c, cl.lookup n = some c → X.env.cells.lookup n = some c)
    (hcell : ∀ y ∈ scope.names, y.2 ≠ .cell) (hkind : scope.kind = .function) (hnames : ∀ y ∈ scope.names, y.2 = .local → scope.names.lookup y.1 = some .local) (hx : scope.names.lookup x = some .local)
    (hhas : ∀ y, (Env.kindOf (compEnvC scope cl 0 X.env) y = some .cell ∨ Env.kindOf (compEnvC scope cl 0 X.env) y = some .free) → ∃ c, cl.lookup y = some c)
    (hN : (x :: N).Nodup) (hcapl : ∀ σ, (cap σ).length = N.length)
    (hcap : ∀ (σ : L2.St) (i : Nat) (y : Str) (v : V), σ.length = X.N.length → N[i]? = some y → (cap σ)[i]? = some (some v) → (Env.kindOf (compEnvC scope cl 0 X.env) y = some .cell ∨ Env.kindOf (compEnvC scope cl 0 X.env) y = some .free) ∧ X.env.kindOf y = some .cell ∧ ∃ j : Nat, X.N[j]? = some y ∧ σ[j]? = some (some v))
    (hi : PI X (.Name x px) iter wi) (ht : ∀ C s2 H2 fp, PT (cxComp X (x :: N) scope cl C s2 H2 fp) cc tc) (he : ∀ C s2 H2 fp, PE (cxComp X (x :: N) scope cl C s2 H2 fp) elt te)
    (hs : ∀ z, foldedSetIterable iter X.env z = pure z := by intro _; rfl) :
    PE X (.ListComp elt [⟨.Name x px, iter, [cc], 0⟩] scope pos) (tCompT wi tc te cap) := by
  intro pins s σ H Q I h
  rw [eval_ListComp]
  refine wpAny_comprehension_free (use := none) rfl hs hclos hkind hnames (thn (hi pins s σ H _ I h) fun xv s1 h1 => thn h1 fun itv s2 h2 => ?_)
  obtain ⟨it, fp, tn, J, H2, e, I2, T, st2, f2, hW⟩ := h2
  subst e
  have hD : H2 s2.heap.objs.size = none := I2.hok.fresh (Nat.le_refl _)
  obtain ⟨W, ⟨m0, w0⟩, turn⟩ := hW s2.heap.objs.size hD
  refine wpAny_newObj_type (wpAny_newFunctionEnv hcell (by intro y hy; simp at hy) (fun h4 hns4 hsb4 => ?_) hkind) (by show 0 ≤ sizeLine; decide)
  dsimp only at hns4 hsb4 ⊢
  generalize hH3 : s2.heap.push { cls := .type "list", dict := none, data := .seq ([] : List Value).toArray } = H3 at hns4 hsb4 ⊢
  have hCz : H3.objs.size = s2.heap.objs.size + 1 := by rw [← hH3, Heap.size_push]
  have old3 : ∀ b o, s2.heap.get? b = some o → H3.get? b = some o := fun b o e => hH3 ▸ Heap.get?_push_of_some _ e
  have eD3 : H3.get? s2.heap.objs.size = some { cls := .type "list", dict := none, data := .seq ([] : List Value).toArray } := hH3 ▸ Heap.get?_push_size _ rfl
  have old4 : ∀ b o, H3.get? b = some o → h4.get? b = some o := fun b o e => hsb4.extBut b o (Nat.ne_of_lt (Heap.lt_size e)) (Heap.get?_push_of_some _ e)
  have old : ∀ b o, s2.heap.get? b = some o → h4.get? b = some o := fun b o e => old4 b o (old3 b o e)
  have szC : s2.heap.objs.size < H3.objs.size := by rw [hCz]; exact Nat.lt_succ_self _
  have fpC : ∀ b ∈ fp, b ≠ H3.objs.size := fun b hb => by
    obtain ⟨o, ho, _⟩ := T.obj 0 _ st2 b hb
    exact Nat.ne_of_lt (Nat.lt_trans (Heap.lt_size ho) szC)
  -- the block's context
  have ok' : (cxComp X (x :: N) scope cl H3.objs.size s2 H2 fp).Ok := by
    refine ⟨I2.ok.mod, hkind, I2.ok.glob, I2.ok.blt, (Nat.le_of_lt szC), fun a b c e1 e2 => I2.ok.inj a b c (hsub a c e1) (hsub b c e2), fun y hy => hhas y hy, fun y c z _ => absurd (show false = true from z) (by decide),
      fun _ => I2.ok.hd hc, I2.ok.frames, .inl rfl, fun b hb => ⟨fpC b hb, fun y c e => (f2 b hb).2.2.2.2.1 y c (hsub y c e)⟩, I2.bs, Nat.le_trans I2.ok.bsz I2.sz, fun b o e hb => ?_, fun b hb z => ?_, I2.stack, I2.stkFree⟩
    · rcases (f2 b hb).2.2.2.1 with q | q
      · exact I2.ok.noex b o e q
      · exact absurd (Nat.lt_of_lt_of_le (Heap.lt_size e) (Nat.le_trans I2.ok.bsz q)) (Nat.lt_irrefl _)
    · rcases List.mem_cons.mp (I2.stkSub b z) with q | q
      · exact (f2 b hb).2.1 q
      · exact (f2 b hb).2.2.1 q
  have okD : ObjOk X.prog X.w (upd H2 s2.heap.objs.size (.lst [])) h4 s2.heap.objs.size (.lst []) := ⟨Nat.zero_le _, [], 0, .nil, old4 _ _ eD3⟩
  have I4 : Inv (cxComp X (x :: N) scope cl H3.objs.size s2 H2 fp) [] (none :: cap σ) (upd H2 s2.heap.objs.size (.lst [])) { s2 with heap := h4, toks := s2.toks + ([] : List (Str × Value)).length } := by
    refine ⟨ok', rfl, I2.bare, Un.laid old (Nat.le_refl _) hD, ⟨_, hns4, fun i y v e1 e2 _ => ?_⟩, fun y c e => ?_, ?_, fun y c e => ?_, fun p hp => absurd hp (by show p ∉ ([] ++ [] : List (Addr × Obj)); simp), I2.hok.laid old (Nat.le_refl _) okD, ?_⟩
    · cases i with
      | zero => simp at e2
      | succ i =>
        obtain ⟨k1, k2, j, e3, e4⟩ := hcap σ i y v I2.len (show N[i]? = some y from e1) (show (cap σ)[i]? = some (some v) from e2)
        obtain ⟨m, _, hl⟩ := I2.loc
        obtain ⟨u, ru, lk⟩ := hl j y v e3 e4 (.inr (.inl k2))
        refine ⟨u, ru, .inr ⟨k1, ?_⟩⟩
        rcases lk with ⟨z, _⟩ | ⟨_, c, e5, hcl⟩
        · rw [k2] at z; cases z
        · obtain ⟨c', e6⟩ := hhas y k1
          have : c' = c := by
            have := hsub y c' e6
            rw [e5] at this
            exact (Option.some.inj this).symm
          subst this
          obtain ⟨oc, ho, hd⟩ := hcl
          exact ⟨c', e6, oc, old _ _ ho, hd⟩
    · obtain ⟨v, oc, ho, hd⟩ := I2.cell y c (hsub y c e)
      exact ⟨v, oc, old _ _ ho, hd⟩
    · show upd H2 s2.heap.objs.size (.lst []) H3.objs.size = none
      rw [upd_ne (Nat.ne_of_gt szC)]
      exact I2.hok.fresh (Nat.le_of_lt szC)
    · have h1 := I2.freeC y c (hsub y c e)
      obtain ⟨v, oc, ho, _⟩ := I2.cell y c (hsub y c e)
      rw [upd_ne (Nat.ne_of_lt (Heap.lt_size ho))]
      exact h1
    · show (none :: cap σ).length = (x :: N).length
      simp [hcapl]
  have stat : ∀ {H' : Hp}, (∀ b ∈ fp, H' b = none) → ∀ b ∈ fp, FpOk (cxComp X (x :: N) scope cl H3.objs.size s2 H2 fp) [] H' b := fun {H'} hn b hb =>
    ⟨hn b hb, (ok'.exf b hb).1, ok'.exfs b hb, .inl hb, (ok'.exf b hb).2, fun p hp => absurd hp (by show p ∉ ([] ++ [] : List (Addr × Obj)); simp)⟩
  have loop : codeAny (model X.prog X.w) X.A (.compLoop (.ListComp elt [⟨.Name x px, iter, [cc], 0⟩] scope pos) 0 (.ref it) (.ref s2.heap.objs.size) (compEnvC scope cl H3.objs.size X.env))
      (compPost (model X.prog X.w) X.A X.xe none (EP X pins σ Q) (.ref s2.heap.objs.size) H3.objs.size) { s2 with heap := h4, toks := s2.toks + ([] : List (Str × Value)).length } := by
    refine codeAny_compLoop_tests (fun n s' => ∃ (i : Nat) (z0 : Option V) (H' : Hp), Inv (cxComp X (x :: N) scope cl H3.objs.size s2 H2 fp) [] (z0 :: cap σ) H' s' ∧ tn i s'.heap ∧ (∀ b ∈ fp, H' b = none) ∧ W i n H') ?_ m0
      ⟨0, none, _, I4, T.keep 0 _ _ st2 (fun b _ o e => old b o e), fun b hb => ?_, w0⟩
    · rintro n s5 ⟨i, z0, H5, I5, st5, fr5, w5⟩
      rcases turn i n H5 w5 with ⟨stop, qn⟩ | ⟨go, step⟩
      · refine wpAny_mono (T.done (cxComp X (x :: N) scope cl H3.objs.size s2 H2 fp) rfl rfl rfl rfl i [] s5 _ H5 _ I5 (stat fr5) st5 stop) (fun r s6 ⟨hr, I6⟩ => ?_) fun _ _ z => z
        subst hr
        obtain ⟨m, hn6, _⟩ := id I6.loc
        refine ⟨m, hn6, fun h' sb => ⟨.ref s2.heap.objs.size, H5, ?_, rfl, qn⟩⟩
        have kp : ∀ b o, b ≠ H3.objs.size → s6.heap.get? b = some o → h'.get? b = some o := fun b o hb e => sb.extBut b o hb e
        have nC : ∀ b o, s2.heap.get? b = some o → b ≠ H3.objs.size := fun b o e => Nat.ne_of_lt (Nat.lt_trans (Heap.lt_size e) szC)
        have fC : H5 H3.objs.size = none := I6.free
        refine I2.call' (ch := fp) (s' := { s6 with heap := h' }) I6.os ?_ ?_ I6.bare fun b hb => ⟨(f2 b hb).2.2.2.1, (f2 b hb).2.1, (f2 b hb).2.2.2.2.1, (f2 b hb).2.2.2.2.2⟩
        · have U : Un (frs X.stack) fp H2 H5 s2.heap s6.heap := I6.base
          exact ⟨fun b o e n1 n2 n3 => kp b o (nC b o e) (U.keep b o e n1 n2 n3), fun b o e n1 n2 n3 => by
              obtain ⟨sl, q⟩ := U.slot b o e n1 n2 n3
              exact ⟨sl, kp b _ (nC b o e) q⟩, U.free, fun b o e n3 => by
              obtain ⟨o', q⟩ := U.there b o e n3
              exact ⟨o', kp b _ (nC b o e) q⟩, U.tups, U.frzs, U.tbls⟩
        · intro b u e
          refine (I6.hok b u e).stay (fun c v hc q => kp c v (fun z => ?_) q) (fun _ q => q) fun _ _ q => q
          rcases hc with y | y
          · rw [← y, z, fC] at e
            cases e
          · rw [z, fC] at y
            cases y
      · refine wpAny_mono (T.item (cxComp X (x :: N) scope cl H3.objs.size s2 H2 fp) rfl rfl rfl rfl i [] s5 _ H5 _ I5 (stat fr5) st5 go) (fun r s6 ⟨u, hr, h6⟩ => ?_) fun _ _ z => z
        subst hr
        have key : (letOwnedTupleGo (.Name x px) (.ref it) u >>= fun _ => assign (.Name x px) (compEnvC scope cl H3.objs.size X.env) u) = assign (.Name x px) (compEnvC scope cl H3.objs.size X.env) u := by first | rfl | exact pure_bind _ _
        dsimp only
        rw [← key]
        refine wpAny_bind (wpAny_mono h6 (fun _ s7 ⟨v, H7, I7, r7, y7, st7, fr7⟩ => ?_) fun _ _ z => z)
        have I7' := I7.pinned (stat fr7) (T.obj _ _ st7)
        refine wpAny_assign_Name (store_ok (i := 0) I7' hN rfl (.inl (lookup_relabel_local hx)) r7 (fun s8 I8 => ?_) (.inr (lookup_relabel_local hx)))
        have behind : ∀ (m' : Nat) (H10 : Hp) (s10 : Shared), m' < n → Inv (cxComp X (x :: N) scope cl H3.objs.size s2 H2 fp) ([] ++ pinsAt fp s7.heap) (some v :: cap σ) H10 s10 → W (i + 1) m' H10 → ∃ m, m < n ∧ ∃ (i : Nat) (z0 : Option V) (H' : Hp), Inv (cxComp X (x :: N) scope cl H3.objs.size s2 H2 fp) [] (z0 :: cap σ) H' s10 ∧ tn i s10.heap ∧ (∀ b ∈ fp, H' b = none) ∧ W i m H' := by
          intro m' H10 s10 hm I10 w9'
          refine ⟨m', hm, i + 1, some v, _, I10.unpinned, T.keep _ _ _ st7 fun b hb o e => (I10.pin (b, o) (List.mem_append_right _ (List.mem_append_right _ (mem_pinsAt hb e)))).1, fun b hb => ?_, w9'⟩
          obtain ⟨o, e, d⟩ := T.obj _ _ st7 b hb
          exact (I10.pin (b, o) (List.mem_append_right _ (List.mem_append_right _ (mem_pinsAt hb e)))).2.1
        refine wpAny_tests_one (wpAny_mono (ht H3.objs.size s2 H2 fp _ s8 (some v :: cap σ) H7 _ I8 (step v H7 y7)) (fun ok sA ⟨HA, IA, hA⟩ => ?_) fun _ _ z => z.elim)
        cases ok with
        | false =>
          rw [if_neg (by decide)] at hA ⊢
          obtain ⟨m', hm, wA⟩ := hA
          exact behind m' HA sA hm IA wA
        | true =>
          rw [if_pos rfl] at hA ⊢
          refine wpAny_mono (he H3.objs.size s2 H2 fp _ sA (some v :: cap σ) HA _ IA hA) (fun w9 s9 ⟨y, H9, I9, r9, ys, hys, hlt, m', hm, w9'⟩ => ?_) fun _ _ z => z.elim
          refine wpAny_mono (mt_append (X := cxComp X (x :: N) scope cl H3.objs.size s2 H2 fp) _ s9 _ H9 (.ref s2.heap.objs.size) [y] _ [w9] (fun _ Hn => Hn = upd H9 s2.heap.objs.size (.lst (ys ++ [y]))) I9 rfl (.cons r9 .nil) ⟨_, ys, y, rfl, rfl, hys, hlt, rfl⟩) (fun _ s10 ⟨_, H10, I10, _, e10⟩ => ?_) fun _ _ z => z.elim
          subst e10
          exact behind m' _ s10 hm I10 w9'
    · obtain ⟨o, ho, _⟩ := T.obj 0 _ st2 b hb
      rw [upd_ne (Nat.ne_of_lt (Heap.lt_size ho))]
      exact (f2 b hb).1
  exact codeAny_compStart_list loop (T.self X.A 0 _ _ _ (T.keep 0 _ _ st2 (fun b _ o e => old b o e)) loop)
theorem pe_compCT (js : List Nat) (ns : List Str) (hc : X.calm = true) (hclos : closureFor scope X.env = pure cl) (hcls : cl.map (·.1) = ns) (hsub : ∀ p ∈ cl, X.env.cells.lookup p.1 = some p.2)
    (hno : ∀ p ∈ scope.names, p.2 ≠ .cell ∧ (p.2 = .free → p.1 ∈ ns)) (hkind : scope.kind = .function) (hnames : ∀ y ∈ scope.names, y.2 = .local → scope.names.lookup y.1 = some .local) (hx : scope.names.lookup x = some .local)
    (hN : (x :: ns).Nodup) (hkd : ∀ y ∈ ns, (Env.kindOf (compEnvC scope cl 0 X.env) y = some .cell ∨ Env.kindOf (compEnvC scope cl 0 X.env) y = some .free) ∧ X.env.kindOf y = some .cell)
    (hjl : js.length = ns.length) (hj : js.map (fun j => X.N[j]?) = ns.map some)
    (hi : PI X (.Name x px) iter wi) (ht : ∀ C s2 H2 fp, PT (cxComp X (x :: ns) scope cl C s2 H2 fp) cc tc) (he : ∀ C s2 H2 fp, PE (cxComp X (x :: ns) scope cl C s2 H2 fp) elt te)
    (hs : ∀ z, foldedSetIterable iter X.env z = pure z := by intro _; rfl) :
    PE X (.ListComp elt [⟨.Name x px, iter, [cc], 0⟩] scope pos) (tCompT wi tc te fun σ => js.map fun j => (σ[j]?).getD none) := by
  refine pe_compT (N := ns) (cl := cl) hc hclos (fun n c e => hsub (n, c) (PySem.mem_of_lookup e)) (fun y hy => (hno y hy).1) hkind hnames hx (fun y hy => ?_) hN (fun σ => by rw [List.length_map]; exact hjl) (fun σ i y v _ e1 e2 => ?_) hi ht he hs
  · have sub : ∀ (l : List (Str × NameKind)), (∀ p ∈ l, p.2 ≠ .cell ∧ (p.2 = .free → p.1 ∈ ns)) → ∀ p ∈ (l.map fun (n, k) => if (k == NameKind.free && X.env.scope.kind == ScopeKind.function && X.env.kindOf n == some NameKind.cell) then (n, NameKind.cell) else (n, k)), (p.2 = .cell ∨ p.2 = .free) → p.1 ∈ ns := by
      intro l hl p hp hk
      obtain ⟨q, hq, e⟩ := List.mem_map.mp hp
      have h1 := hl q hq
      obtain ⟨n, k⟩ := q
      dsimp only at e
      by_cases hf : k = .free
      · have h2 := h1.2 hf
        split at e
        · rw [← e]; exact h2
        · rw [← e]; exact h2
      · have hf' : (k == NameKind.free) = false := by
          cases k <;> first | rfl | exact absurd rfl hf
        rw [hf', Bool.false_and, Bool.false_and, if_neg (by decide)] at e
        rw [← e] at hk
        rcases hk with z | z
        · exact absurd z h1.1
        · exact absurd z hf
    have hy' : y ∈ ns := by
      rcases hy with z | z
      · exact sub scope.names hno (y, .cell) (PySem.mem_of_lookup z) (.inl rfl)
      · exact sub scope.names hno (y, .free) (PySem.mem_of_lookup z) (.inr rfl)
    rw [← hcls] at hy'
    have key : ∀ l : List (Str × Addr), y ∈ l.map (·.1) → ∃ c, l.lookup y = some c := by
      intro l
      induction l with
      | nil => intro h; simp at h
      | cons p r ih =>
        intro h
        by_cases e : y = p.1
        · exact ⟨p.2, by obtain ⟨p1, p2⟩ := p; dsimp only at e; subst e; simp [List.lookup]⟩
        · have h' : y ∈ r.map (·.1) := by
            rw [List.map_cons] at h
            exact (List.mem_cons.mp h).resolve_left e
          obtain ⟨c, hc'⟩ := ih h'
          refine ⟨c, ?_⟩
          obtain ⟨p1, p2⟩ := p
          have : (y == p1) = false := by simpa using e
          rw [List.lookup_cons, this]
          exact hc'
    exact key cl hy'
  · have hm : y ∈ ns := List.mem_of_getElem? e1
    refine ⟨(hkd y hm).1, (hkd y hm).2, ?_⟩
    rw [List.getElem?_map] at e2
    cases hji : js[i]? with
    | none => rw [hji] at e2; cases e2
    | some j =>
      rw [hji] at e2
      have e3 : (σ[j]?).getD none = some v := by
        have := Option.some.inj e2
        exact this
      have e4 := congrArg (fun l => l[i]?) hj
      rw [List.getElem?_map, List.getElem?_map, hji, e1] at e4
      have e5 : X.N[j]? = some y := by
        have := Option.some.inj e4
        exact this
      refine ⟨j, e5, ?_⟩
      cases hσ : σ[j]? with
      | none => rw [hσ] at e3; cases e3
      | some o =>
        rw [hσ] at e3
        have e6 : o = some v := e3
        rw [e6]
end
/-- one over a list -/
theorem compT_list {K : PySem.W.Frag} {a D : Addr} {xs : List V} {tc' : TT} {te' : TE} {tl : L2.St} {G : Hp → Prop} {H1 : Hp} (Pv : Nat → Hp → Prop) (h0 : Pv 0 (upd H1 D (.lst []))) (hl : ∀ i H, i ≤ xs.length → Pv i H → SqL K H a xs)
    (hs : ∀ i x H, xs[i]? = some x → Pv i H → tc' (some x :: tl) H fun b HA => if b = true then te' (some x :: tl) HA (fun y H2 => ∃ ys, H2 D = some (.lst ys) ∧ ys.length < sizeLine ∧ ∃ m', m' < xs.length - i ∧ (m' = xs.length - (i + 1) ∧ i + 1 ≤ xs.length ∧ Pv (i + 1) (upd H2 D (.lst (ys ++ [y]))))) else ∃ m', m' < xs.length - i ∧ (m' = xs.length - (i + 1) ∧ i + 1 ≤ xs.length ∧ Pv (i + 1) HA))
    (hd : ∀ H, Pv xs.length H → G H) :
    ∃ W : Nat → Nat → Hp → Prop, (∃ m, W 0 m (upd H1 D (.lst []))) ∧ ∀ i m H, W i m H →
      ((Itl K a).stop i H ∧ G H) ∨ ((Itl K a).go i H ∧ ∀ x H', (Itl K a).yld i H x H' → tc' (some x :: tl) H' fun b HA => if b = true then te' (some x :: tl) HA (fun y H2 => ∃ ys, H2 D = some (.lst ys) ∧ ys.length < sizeLine ∧ ∃ m', m' < m ∧ W (i + 1) m' (upd H2 D (.lst (ys ++ [y])))) else ∃ m', m' < m ∧ W (i + 1) m' HA) := by
  refine ⟨fun i m H => m = xs.length - i ∧ i ≤ xs.length ∧ Pv i H, ⟨xs.length, by simp, Nat.zero_le _, h0⟩, ?_⟩
  rintro i m H ⟨rfl, hi, p⟩
  have q := hl i H hi p
  by_cases hlt : i < xs.length
  · refine .inr ⟨⟨xs, xs[i], q, by simp [hlt]⟩, fun x H' y => ?_⟩
    obtain ⟨e, y⟩ := y
    subst e
    exact hs i x _ (y xs q) p
  · have e : i = xs.length := by omega
    subst e
    exact .inl ⟨⟨xs, q, Nat.le_refl _⟩, hd H p⟩
end Ow
/-! ### list(range(a, b)) -/
namespace Ow
open PySem PySem.Spec PyProof.Rows L2
section
variable {X : Cx}
def fromTo (a b : Int) : List V := (List.range (b - a).toNat).map fun k : Nat => V.int (a + (k : Int))
def tRange2 (ta : TA) : TE := fun σ H Q => ta σ H fun vs H1 => ∃ i j : Int, vs = [.int i, .int j] ∧ ∀ p, H1 p = none → Q (.ref p) (upd H1 p (.rng i j))
end
end Ow
/-! ### a method called within a comprehension's block; isinstance of an own class -/
namespace Ow
open PySem PySem.Spec PyProof.Rows L2
def tMethQ (P : Program) (w : World) (K : PySem.W.Frag) (mg : Str → Option Value) (base : Heap) (k : Nat) (m : Str) (ta : TE) (t : TA) : TE := fun σ H Q => ta σ H fun x H1 => ∃ (a C dx : Addr) (fs : List (Str × V)) (ps : List Str) (sp : Sp), x = .ref a ∧ H1 a = some (.ins C dx fs) ∧ fs.lookup m = none ∧
  MHas P w K mg base k C m ps sp ∧ t σ H1 fun vs H2 => sp (x :: (vs ++ [])) H2 Q E0
theorem kit_of {K : PySem.W.Frag} {C D : Addr} (h1 : PySem.W.isClsIn K D = true) (h2 : PySem.W.typeIn K (.ref D) = some (.type "type")) (h3 : PySem.W.mroIn K C (.ref D) = some true) : PySem.W.kitOne K (.ref C) (.ref D) = some true := by
  unfold PySem.W.kitOne
  split
  · rfl
  · unfold PySem.W.kitCls
    have e : ((PySem.W.clsIn K D).isSome && PySem.W.typeIn K (.ref D) == some (.type "type")) = true := by
      rw [h2]
      have h1' : (PySem.W.clsIn K D).isSome = true := h1
      rw [h1', Bool.true_and]
      exact beq_self_eq_true _
    show (if ((PySem.W.clsIn K D).isSome && PySem.W.typeIn K (.ref D) == some (.type "type")) = true then PySem.W.subIn K (.ref C) (.ref D) else none) = _
    rw [if_pos e]
    exact h3
end Ow
/-! common19: for a, b in zip(s, t) of two lists. -/
namespace L2
open PySem PySem.Spec PyProof.Rows
section
variable {X : Cx}
def ItzL (K : PySem.W.Frag) (a b : Addr) : It :=
  ⟨fun i H => ∃ xs ys x y, SqL K H a xs ∧ SqL K H b ys ∧ xs[i]? = some x ∧ ys[i]? = some y,
   fun i H v H' => ∀ xs ys x y, SqL K H a xs → SqL K H b ys → xs[i]? = some x → ys[i]? = some y → ∃ T, v = .ref T ∧ H T = none ∧ H' = upd H T (.tup [x, y]),
   fun i H => ∃ xs ys, SqL K H a xs ∧ SqL K H b ys ∧ xs.length ≤ i⟩
theorem turn_zipL {P : Program} {w : World} {K : PySem.W.Frag} {elts : List Expr} {x1} {tp : Pos} {z TI TO i1 i2 a b : Addr} (D : ZipApart z TI TO i1 i2 a b) :
    Turn P w K (.Tuple elts x1 tp) (ItzL K a b) [z, TO, i1, i2, TI] z (fun i h => IsZip h z TI TO .none ∧ IsPair h TI (.ref i1) (.ref i2) ∧ (∃ u v, IsPair h TO u v) ∧ h.IsListIter i1 a i ∧ h.IsListIter i2 b i) where
  mem := by simp
  obj := fun i h st c hc => by
    obtain ⟨q1, q2, ⟨u, v, q3⟩, ⟨o1, e1, _, d1⟩, ⟨o2, e2, _, d2⟩⟩ := st
    simp only [List.mem_cons, List.not_mem_nil, or_false] at hc
    rcases hc with rfl | rfl | rfl | rfl | rfl
    · exact ⟨_, q1, fun v z => by cases z⟩
    · exact ⟨_, q3, fun v z => by cases z⟩
    · exact ⟨_, e1, fun v z => by rw [d1] at z; cases z⟩
    · exact ⟨_, e2, fun v z => by rw [d2] at z; cases z⟩
    · exact ⟨_, q2, fun v z => by cases z⟩
  keep := fun i h h' st k => by
    obtain ⟨q1, q2, ⟨u, v, q3⟩, q4, q5⟩ := st
    exact ⟨k z (by simp) _ q1, k TI (by simp) _ q2, ⟨u, v, k TO (by simp) _ q3⟩, q4.at fun o e => k i1 (by simp) o e, q5.at fun o e => k i2 (by simp) o e⟩
  item := by
    intro X hP hw hK hc i pins s σ H E I hf st hg
    subst hP hw hK
    obtain ⟨xs, ys, x, y, ha, hb, hx, hy⟩ := hg
    obtain ⟨q1, q2, ⟨u, v, q3⟩, q4, q5⟩ := st
    obtain ⟨its, rv, p, _⟩ := I.list ha
    obtain ⟨jts, rw', p', _⟩ := I.list hb
    obtain ⟨ux, hux, rx⟩ := rv.get hx
    obtain ⟨uy, huy, ry⟩ := rw'.get hy
    refine wpAny_pyNext_zip_item D q1 q2 q3 q4 q5 (show s.heap.IsList a its.toArray from p.isList) (show s.heap.IsList b jts.toArray from p'.isList) (x := ux) (y := uy) (by simpa using hux) (by simpa using huy) fun h' z1 o1 v1 v2 pr sz all => ?_
    refine ⟨_, rfl, wpAny_letOwnedTupleGo_zip z1 fun h'' z2 sb => ?_⟩
    have nz : ∀ c o, c ≠ z → h'.get? c = some o → h''.get? c = some o := fun c o n e => sb.extBut c o n e
    have zl : z < s.heap.objs.size := Heap.lt_size q1
    have hT : H s.heap.objs.size = none := I.hok.fresh (Nat.le_refl _)
    have prT : IsPair h'' s.heap.objs.size ux uy := nz _ _ (Nat.ne_of_gt zl) pr
    have kept : ∀ c o, c ∉ [z, TO, i1, i2] → s.heap.get? c = some o → h''.get? c = some o := fun c o n e => by
      simp only [List.mem_cons, List.not_mem_nil, or_false, not_or] at n
      exact nz c o n.1 (all c o n.1 n.2.1 n.2.2.1 n.2.2.2 e)
    have sub : ∀ c ∈ [z, TO, i1, i2], c ∈ [z, TO, i1, i2, TI] := fun c h => by
      simp only [List.mem_cons, List.not_mem_nil, or_false] at h ⊢
      rcases h with h | h | h | h <;> simp [h]
    have trk : ∀ c u, H c = some u → c ∉ [z, TO, i1, i2] := fun c u e n => by
      have := (hf c (sub c n)).1
      rw [e] at this; cases this
    refine ⟨.ref s.heap.objs.size, upd H s.heap.objs.size (.tup [x, y]), ?_, rfl, fun xs' ys' x' y' ha' hb' hx' hy' => ?_, ⟨z2, nz _ _ D.TIz (all _ _ D.TIz D.TITO D.TIi1 D.TIi2 q2), ⟨_, _, nz _ _ D.TOz o1⟩, v1.at fun o e => nz _ o D.i1z e, v2.at fun o e => nz _ o D.i2z e⟩, fun c hc => ?_⟩
    · refine Inv.step (s := s) (h' := h'') (g' := s.gens) (d' := s.drawn) (t' := s.toks) (ch := [z, TO, i1, i2]) I (fun c n => let q := hf c (sub c n); ⟨q.2.2.2.1, q.2.1, q.2.2.2.2.1, q.2.2.2.2.2⟩) (fun c o _ _ n e _ => kept c o n e) (fun c o _ _ n e _ => ⟨o.slots, kept c o n e⟩)
        (fun c o _ e n => by rw [upd_ne (Nat.ne_of_lt (Heap.lt_size e))]; exact n) (fun c o n e => ⟨o, kept c o n e⟩) (fun c zs e => by rw [upd_ne (ne_of_none e hT)]; exact e) (fun c o u e => by rw [upd_ne (ne_of_none e hT)]; exact e) (fun c ps e => ⟨#[], by rw [upd_ne (ne_of_none e hT), e]; simp⟩) (fun m hm => ?_) (fun c u e => ?_) I.bare
      · obtain ⟨o, es, ep, ho, r⟩ := hm
        refine ⟨o, es, ep, kept _ o (fun n => ?_) ho, r⟩
        exact (hf _ (sub _ n)).2.1 rfl
      · by_cases q : c = s.heap.objs.size
        · subst q
          rw [upd_same] at e; cases e
          exact ⟨by show 2 ≤ sizeLine; decide, [ux, uy], .cons rx (.cons ry .nil), ⟨_, prT, rfl, _, rfl⟩⟩
        · rw [upd_ne q] at e
          refine (I.hok c u e).stay (fun c' v hc' e' => kept c' v ?_ e') (fun c' e' => by rw [upd_ne (ne_of_none e' hT)]; exact e') fun c' zs e' => by rw [upd_ne (ne_of_none e' hT)]; exact e'
          rcases hc' with z' | z'
          · rw [z']; exact trk c u e
          · exact trk c' _ z'
    · rw [I.list_inj ha' ha] at hx'
      rw [I.list_inj hb' hb] at hy'
      rw [hx] at hx'; rw [hy] at hy'
      cases hx'; cases hy'
      exact ⟨_, rfl, hT, rfl⟩
    · have q := hf c hc
      have hl : c ≠ s.heap.objs.size := by
        simp only [List.mem_cons, List.not_mem_nil, or_false] at hc
        obtain ⟨_, e4, _⟩ := q4
        obtain ⟨_, e5, _⟩ := q5
        rcases hc with rfl | rfl | rfl | rfl | rfl
        · exact Nat.ne_of_lt zl
        · exact Nat.ne_of_lt (Heap.lt_size q3)
        · exact Nat.ne_of_lt (Heap.lt_size e4)
        · exact Nat.ne_of_lt (Heap.lt_size e5)
        · exact Nat.ne_of_lt (Heap.lt_size q2)
      rw [upd_ne hl]
      exact q.1
  done := by
    intro X hP hw hK hc i pins s σ H E I hf st hg
    subst hP hw hK
    obtain ⟨xs, ys, ha, hb, hx⟩ := hg
    obtain ⟨q1, q2, ⟨u, v, q3⟩, q4, q5⟩ := st
    obtain ⟨its, rv, p, _⟩ := I.list ha
    obtain ⟨jts, rw', p', _⟩ := I.list hb
    have hl := rv.length
    have sub : ∀ c ∈ [z, TO, i1, i2], c ∈ [z, TO, i1, i2, TI] := fun c h => by
      simp only [List.mem_cons, List.not_mem_nil, or_false] at h ⊢
      rcases h with h | h | h | h <;> simp [h]
    refine wpAny_pyNext_zip_end (I.ok.hd hc) D q1 q2 q3 q4 q5 (show s.heap.IsList a its.toArray from p.isList) (show s.heap.IsList b jts.toArray from p'.isList) (.inl (by simp; omega)) fun h' all => ⟨rfl, ?_⟩
    have kept : ∀ c o, c ∉ [z, TO, i1, i2] → s.heap.get? c = some o → h'.get? c = some o := fun c o n e => by
      simp only [List.mem_cons, List.not_mem_nil, or_false, not_or] at n
      exact all c o n.1 n.2.1 n.2.2.1 n.2.2.2 e
    have trk : ∀ c u, H c = some u → c ∉ [z, TO, i1, i2] := fun c u e n => by
      have := (hf c (sub c n)).1
      rw [e] at this; cases this
    refine Inv.step (s := s) (h' := h') (g' := s.gens) (d' := s.drawn) (t' := s.toks) (ch := [z, TO, i1, i2]) I (fun c n => let q := hf c (sub c n); ⟨q.2.2.2.1, q.2.1, q.2.2.2.2.1, q.2.2.2.2.2⟩) (fun c o _ _ n e _ => kept c o n e) (fun c o _ _ n e _ => ⟨o.slots, kept c o n e⟩)
        (fun c o _ e n => n) (fun c o n e => ⟨o, kept c o n e⟩) (fun c zs e => e) (fun c o u e => e) (fun c ps e => ⟨#[], by rw [e]; simp⟩) (fun m hm => ?_) (fun c u e => ?_) I.bare
    · obtain ⟨o, es, ep, ho, r⟩ := hm
      exact ⟨o, es, ep, kept _ o (fun n => (hf _ (sub _ n)).2.1 rfl) ho, r⟩
    · refine (I.hok c u e).stay (fun c' v hc' e' => kept c' v ?_ e') (fun c' e' => e') fun c' zs e' => e'
      rcases hc' with z' | z'
      · rw [z']; exact trk c u e
      · exact trk c' _ z'
  self := fun _ _ _ _ _ st h => wpAny_pyIter_zip st.1 h
def iZipL (K : PySem.W.Frag) (ta : TA) : TI := fun σ H R => ta σ H fun vs H1 => ∃ a b xs ys, vs = [.ref a, .ref b] ∧ SqL K H1 a xs ∧ SqL K H1 b ys ∧ R (ItzL K a b) H1
theorem pi_zipL {e1 e2 : Expr} {ta : TA} {p pos : Pos} {elts : List Expr} {x1} {tp : Pos} (hg : Gl X "zip") (hm : X.mg "zip" = none) (ha : PA X [e1, e2] ta) (hs : starEach [e1, e2] X.env = (false, eval e1 X.env) :: starEach [e2] X.env := by rfl) (hpl : (backTo pos (starEach [e2] X.env)).any (·.1) = false := by rfl) :
    PI X (.Tuple elts x1 tp) (.Call (.Name "zip" p) [e1, e2] [] pos) (iZipL X.K ta) := by
  intro pins s σ H R I h
  refine Call_ (ld_blt I hg hm PyProof.Rows.boot_zip (PyProof.Rows.callWith_type1 (thn (ha pos pins s σ H _ I h) fun us s1 ⟨vs, H1, I1, r1, q1⟩ => ?_) hs hpl))
  obtain ⟨a, b, xs, ys, e, hqa, hqb, q⟩ := q1
  subst e
  cases r1 with
  | cons r rr =>
    cases rr with
    | cons r' rr' =>
      cases rr'
      cases r
      cases r'
      obtain ⟨its, rv, pl, _⟩ := I1.list hqa
      obtain ⟨jts, rw', pl', _⟩ := I1.list hqb
      refine call_zip_2 (show s1.heap.IsList a its.toArray from pl.isList) (show s1.heap.IsList b jts.toArray from pl'.isList) fun h' z1 z2 z3 z4 z5 _ z6 => ?_
      have I2 : Inv X pins σ H1 { s1 with heap := h' } := I1.kept (t' := s1.toks) z6
      have la : a < s1.heap.objs.size := by obtain ⟨o, e, _⟩ := pl.isList; exact Heap.lt_size e
      have lb : b < s1.heap.objs.size := by obtain ⟨o, e, _⟩ := pl'.isList; exact Heap.lt_size e
      refine wpAny_pyIter_zip z1 ?_
      refine ⟨s1.heap.objs.size + 4, [s1.heap.objs.size + 4, s1.heap.objs.size + 3, s1.heap.objs.size, s1.heap.objs.size + 1, s1.heap.objs.size + 2], _, _, H1, rfl, I2, turn_zipL (zipApart_new la lb), ⟨z1, z2, ⟨_, _, z3⟩, z4, z5⟩, fun c hc => ?_, q⟩
      have le : s1.heap.objs.size ≤ c := by
        simp only [List.mem_cons, List.not_mem_nil, or_false] at hc
        rcases hc with h | h | h | h | h <;> rw [h]
        · exact Nat.le_add_right _ _
        · exact Nat.le_add_right _ _
        · exact Nat.le_refl _
        · exact Nat.le_add_right _ _
        · exact Nat.le_add_right _ _
      exact I1.fpOk le (I1.hok.fresh le)
theorem for_zipL {K : PySem.W.Frag} {a b : Addr} {xs ys : List V} {g : TG} {tb : TS} {D : Ends} {σ : L2.St} {H : Hp} (Pv : Nat → L2.St → Hp → Prop) (h0 : Pv 0 σ H) (hl : ∀ i σ H, Pv i σ H → SqL K H a xs ∧ SqL K H b ys) (hle : xs.length = ys.length)
    (hs : ∀ i x y σ H, xs[i]? = some x → ys[i]? = some y → Pv i σ H → ∀ T, H T = none → g (.ref T) σ (upd H T (.tup [x, y])) fun σ2 H2 => tb { D with nx := Pv (i + 1), ct := Pv (i + 1), bk := D.nx } σ2 H2) (hd : ∀ σ H, Pv xs.length σ H → D.nx σ H) :
    ∃ W : Nat → Nat → L2.St → Hp → Prop, (∃ m, W 0 m σ H) ∧ ∀ i m σ H, W i m σ H →
      ((ItzL K a b).stop i H ∧ D.nx σ H) ∨ ((ItzL K a b).go i H ∧ ∃ N : L2.St → Hp → Prop, (∀ σ' H', N σ' H' → ∃ m', m' < m ∧ W (i + 1) m' σ' H') ∧ ∀ x H', (ItzL K a b).yld i H x H' → g x σ H' fun σ2 H2 => tb { D with nx := N, ct := N, bk := D.nx } σ2 H2) := by
  refine ⟨fun i m σ H => m = xs.length - i ∧ i ≤ xs.length ∧ Pv i σ H, ⟨xs.length, by simp, Nat.zero_le _, h0⟩, ?_⟩
  rintro i m σ H ⟨rfl, hi, p⟩
  obtain ⟨qa, qb⟩ := hl i σ H p
  by_cases hlt : i < xs.length
  · have ex : xs[i]? = some xs[i] := List.getElem?_eq_getElem hlt
    have ey : ys[i]? = some (ys[i]'(by omega)) := List.getElem?_eq_getElem (by omega)
    refine .inr ⟨⟨xs, ys, _, _, qa, qb, ex, ey⟩, Pv (i + 1), fun σ' H' p' => ⟨xs.length - (i + 1), by omega, rfl, hlt, p'⟩, fun x H' y => ?_⟩
    obtain ⟨T, rfl, hT, rfl⟩ := y xs ys _ _ qa qb ex ey
    exact hs i _ _ σ H ex ey p T hT
  · have e : i = xs.length := by omega
    subst e
    exact .inl ⟨⟨xs, ys, qa, qb, Nat.le_refl _⟩, hd σ H p⟩
end
end L2
/-! ## a name put to a comprehension with one test -/
namespace Ow
open PySem PySem.Spec PyProof.Rows L2
section
variable {X : Cx} {elt iter cc : Expr} {x : Str} {px pos : Pos} {scope : Scope} {wi : TI} {tc : TT} {te : TE} {N : List Str} {cl : List (Str × Addr)} {cap : L2.St → L2.St}
end
end Ow
/-! ## xs[i::k]: some of its items -/
namespace Ow
open PySem PySem.Spec PyProof.Rows L2
/-- the places of xs[i::k] -/
def stepIx (i k : Int) (n : Nat) : List Nat := sliceRange (sliceBounds (some i) none (some k) n).1 (sliceBounds (some i) none (some k) n).2.1 (sliceBounds (some i) none (some k) n).2.2
def stepV (xs : List V) (i k : Int) : List V := (stepIx i k xs.length).filterMap (xs[·]?)
def tStep (K : PySem.W.Frag) (te tl tk : TE) : TE := fun σ H Q => te σ H fun x H1 => tl σ H1 fun y H2 => tk σ H2 fun z H3 => ∃ a xs i k, x = .ref a ∧ y = .int i ∧ z = .int k ∧ 0 ≤ i ∧ 1 ≤ k ∧ SqL K H3 a xs ∧ ∀ p, H3 p = none → Q (.ref p) (upd H3 p (.lst (stepV xs i k)))
end Ow
/-! ## texts: slices, join, repeat, walked sign by sign, int(text); == of tuples, deep -/
namespace Ow
open PySem PySem.Spec PyProof.Rows L2
section
variable {X : Cx}
theorem ty_str {K : PySem.W.Frag} {x : Str} {H : Hp} : tyV K "str" (.str x) H := rfl
/-- sep.join(list of texts) -/
def rJoin (K : PySem.W.Frag) : V → List V → Hp → VK → Prop := fun x xs H Q => ∃ sep p ys, x = .str sep ∧ xs = [.ref p] ∧ SqL K H p (ys.map V.str) ∧ (ys.map (·.length)).sum + ys.length * sep.length ≤ 16777216 ∧ Q (.str (Txt.join sep ys)) H
end
/-- a text walked -/
def Its (z : Str) : It where
  go := fun i _ => i < z.cps.size
  yld := fun i H x H' => H' = H ∧ ∃ c, z.cps[i]? = some c ∧ x = .str ⟨#[c]⟩
  stop := fun i _ => z.cps.size ≤ i
def iStr (tl : TE) : TI := fun σ H R => tl σ H fun x H1 => ∃ z, x = .str z ∧ R (Its z) H1
/-- == of tuples, deep -/
def rEqTD (K : PySem.W.Frag) (d : Nat) (neg : Bool) : R2 := fun x y H Q => ∃ p q xs ys e, x = .ref p ∧ y = .ref q ∧ SqT K H p xs ∧ SqT K H q ys ∧ (∀ j, j < xs.length → j < ys.length → EqD K H d (xs.getD j .non) (ys.getD j .non) (e j)) ∧ Q (.bl (if neg = true then !((List.range (min xs.length ys.length)).all e && xs.length == ys.length) else ((List.range (min xs.length ys.length)).all e && xs.length == ys.length))) H
end Ow
/-! ## repr of things; == of a thing with itself, and with a text; list.index -/
namespace Ow
open PySem PySem.Spec PyProof.Rows L2
/-- what a thing is as data: flat things, lists and tuples of such -/
inductive RD (H : Hp) : V → PyData → Prop where
  | non : RD H .non .none
  | bl (b : Bool) : RD H (.bl b) (.bool b)
  | int (i : Int) : RD H (.int i) (.int i)
  | str (x : Str) : RD H (.str x) (.str x)
  | lst {a : Addr} {xs : List V} {ds : List PyData} (h : H a = some (.lst xs)) (hl : xs.length = ds.length) (hi : ∀ (i : Nat) x d, xs[i]? = some x → ds[i]? = some d → RD H x d) : RD H (.ref a) (.list ds)
  | tup {a : Addr} {xs : List V} {ds : List PyData} (h : H a = some (.tup xs)) (hl : xs.length = ds.length) (hi : ∀ (i : Nat) x d, xs[i]? = some x → ds[i]? = some d → RD H x d) : RD H (.ref a) (.tuple ds)
theorem RD.same {H H' : Hp} {x : V} {d : PyData} (r : RD H x d) (s : Same H H') : RD H' x d := by
  induction r with
  | non => exact .non
  | bl b => exact .bl b
  | int i => exact .int i
  | str x => exact .str x
  | lst h hl _ ih => exact .lst (s _ _ h) hl ih
  | tup h hl _ ih => exact .tup (s _ _ h) hl ih
theorem readsAll {h : Heap} : ∀ {xs : List V} {us : List Value} {ds : List PyData}, Vals xs us → xs.length = ds.length → (∀ (i : Nat) x d, xs[i]? = some x → ds[i]? = some d → ∀ u, RelV x u → ∃ as, Reads h u d as) → ∃ as, ReadsAll h us ds as
  | _, _, [], .nil, _, _ => ⟨_, .nil⟩
  | _, _, _ :: _, .nil, hl, _ => absurd hl (by simp)
  | _, _, [], .cons _ _, hl, _ => absurd hl (by simp)
  | _, _, d :: ds, .cons r rr, hl, hi => by
    obtain ⟨as, h1⟩ := hi 0 _ _ rfl rfl _ r
    obtain ⟨bs, h2⟩ := readsAll rr (by simpa using hl) fun i x d' e1 e2 => hi (i + 1) x d' (by simpa using e1) (by simpa using e2)
    exact ⟨_, .cons h1 h2⟩
theorem RD.reads {X : Cx} {pins : List (Addr × Obj)} {σ : L2.St} {H : Hp} {s : Shared} (I : Inv X pins σ H s) {x : V} {d : PyData} (r : RD H x d) : ∀ u, RelV x u → ∃ as, Reads s.heap u d as := by
  induction r with
  | non => intro u ru; cases ru; exact ⟨_, .none⟩
  | bl b => intro u ru; cases ru; exact ⟨_, .bool b⟩
  | int i => intro u ru; obtain ⟨t, rfl⟩ := ru; exact ⟨_, .int i t⟩
  | str x => intro u ru; obtain ⟨t, rfl⟩ := ru; exact ⟨_, .str x t⟩
  | @lst a xs ds h hl _ ih =>
    intro u ru
    cases (show u = Value.ref a from ru)
    obtain ⟨_, its, n, r, g⟩ := I.hok a _ h
    obtain ⟨as, q⟩ := readsAll r hl ih
    exact ⟨_, .list g rfl rfl q⟩
  | @tup a xs ds h hl _ ih =>
    intro u ru
    cases (show u = Value.ref a from ru)
    obtain ⟨_, its, r, o, g, c, n, e⟩ := I.hok a _ h
    obtain ⟨as, q⟩ := readsAll r hl ih
    exact ⟨_, .tuple g c e q⟩
/-- repr(x) -/
theorem call_repr {X : Cx} (hg : X.A.guards = some []) (hu : X.A.units + 64 < cLine) : CallR X (.builtin "repr") (fun xs H Q => ∃ x d, xs = [x] ∧ RD H x d ∧ d.showable = true ∧ d.hasDict = false ∧ d.depth ≤ 20 ∧ d.shown.length ≤ sizeLine ∧ Q (.str d.shown) H) := by
  intro pins s σ H xs us Q I r h
  obtain ⟨x, d, rfl, rd, sh, hd, dp, hz, q⟩ := h
  obtain ⟨u, rfl, ru⟩ := r.one
  have rr := rd.reads I u ru
  cases rd with
  | non => cases ru; exact P.repr_of_none ⟨.str _, H, I.tok _, ⟨_, rfl⟩, q⟩
  | bl b => cases ru; exact P.repr_of_bool ⟨.str _, H, I.tok _, ⟨_, rfl⟩, q⟩
  | int i => obtain ⟨t, rfl⟩ := ru; exact P.repr_of_int (by simpa [PyData.showable] using sh) ⟨.str _, H, I.tok _, ⟨_, rfl⟩, q⟩
  | str x => obtain ⟨t, rfl⟩ := ru; exact P.repr_of_str ⟨.str _, H, I.tok _, ⟨_, rfl⟩, q⟩ hz
  | @lst a xs ds h hl hi =>
    cases (show u = Value.ref a from ru)
    obtain ⟨as, q1⟩ := rr
    exact repr_of_reads' q1 sh (PyData.noDict_hsm hd) hg (by omega) (fun _ _ e => e) (fun h' u tk hk => ⟨.str _, H, I.kept (t' := tk) hk, ⟨_, rfl⟩, q⟩) hz
  | @tup a xs ds h hl hi =>
    cases (show u = Value.ref a from ru)
    obtain ⟨as, q1⟩ := rr
    exact repr_of_reads' q1 sh (PyData.noDict_hsm hd) hg (by omega) (fun _ _ e => e) (fun h' u tk hk => ⟨.str _, H, I.kept (t' := tk) hk, ⟨_, rfl⟩, q⟩) hz
end Ow
/-! ## == of any thing with a text and with itself; a dict's repr; dict display; list.index -/
namespace Ow
open PySem PySem.Spec PyProof.Rows L2
section
variable {prog : Program} {w : World} {K : Type} [DecidableEq K] {knd : KeyKind prog w K} {A : Around} {E : Value → Shared → Prop} {s : Shared}
end
section
variable {prog : Program} {w : World} {A : Around} {E : Value → Shared → Prop} {s : Shared}
end
section
variable {X : Cx}
theorem dk_at {pins : List (Addr × Obj)} {σ : L2.St} {H : Hp} {s : Shared} (I : Inv X pins σ H s) {a : Addr} {kvs : List (Key × V)} (e : H a = some (.dK kvs)) : kvs.length ≤ sizeLine ∧ (a == sysModules) = false ∧ ∃ vs, KV kvs vs ∧ s.heap.DictOf (mixKind X.prog X.w) a vs := I.hok a _ e
/-- == of any thing with a text -/
def rEqS : R2 := fun x y H Q => ∃ t, y = .str t ∧ Th H x ∧ Q (.bl (decide (x = .str t))) H
/-- == of a thing with itself -/
def Sm1 (H : Hp) (x : V) : Prop := ∀ a kvs, x = .ref a → H a = some (.dK kvs) → kvs.length ≤ 1
def rEqM : R2 := fun x y H Q => x = y ∧ Th H x ∧ Sm1 H x ∧ Q (.bl true) H
/-- repr of a dict with at most one pair, of flat things -/
def kD : Key → PyData
  | .inl i => .int i
  | .inr x => .str x
theorem keyReads {h : Heap} : ∀ (k : Key) (key : Value), (mixKind X.prog X.w).is k key = true → Reads h key (kD k) [] := by
  intro k key e
  rcases keyIs_shape e with ⟨i, t, rfl, rfl⟩ | ⟨x, t, rfl, rfl⟩
  · exact .int i t
  · exact .str x t
inductive FD : V → PyData → Prop where
  | non : FD .non .none
  | bl (b : Bool) : FD (.bl b) (.bool b)
  | int (i : Int) : FD (.int i) (.int i)
  | str (x : Str) : FD (.str x) (.str x)
theorem FD.reads {h : Heap} {x : V} {d : PyData} {u : Value} (f : FD x d) (r : RelV x u) : Reads h u d [] := by
  cases f with
  | non => cases r; exact .none
  | bl b => cases r; exact .bool b
  | int i => obtain ⟨t, rfl⟩ := r; exact .int i t
  | str i => obtain ⟨t, rfl⟩ := r; exact .str i t
inductive FDs : List (Key × V) → List (PyData × PyData) → Prop where
  | nil : FDs [] []
  | cons {k : Key} {v : V} {d : PyData} {kvs : List (Key × V)} {D : List (PyData × PyData)} : FD v d → FDs kvs D → FDs ((k, v) :: kvs) ((kD k, d) :: D)
theorem FDs.reads {h : Heap} {kvs : List (Key × V)} {D : List (PyData × PyData)} (f : FDs kvs D) : ∀ {vs : List (Key × Value)}, KV kvs vs → PyProof.V.PairsRead h kD vs D [] := by
  induction f with
  | nil => intro vs r; cases r; exact .nil
  | @cons k v d kvs D f _ ih =>
    intro vs r
    cases r with
    | @cons _ b _ bs h1 h2 =>
      obtain ⟨bk, bv⟩ := b
      obtain ⟨e1, e2⟩ := h1
      cases (show k = bk from e1)
      exact .cons (as := []) (bs := []) (f.reads e2) (ih h2)
theorem call_reprD (hg : X.A.guards = some []) (hu : X.A.units + 64 < cLine) : CallR X (.builtin "repr") (fun xs H Q => ∃ x d, xs = [x] ∧ (RD H x d ∧ d.hasDict = false ∨ ∃ a kvs D, x = .ref a ∧ H a = some (.dK kvs) ∧ FDs kvs D ∧ d = .dict D) ∧ d.showable = true ∧ d.depth ≤ 20 ∧ d.shown.length ≤ sizeLine ∧ Q (.str d.shown) H) := by
  intro pins s σ H xs us Q I r h
  obtain ⟨x, d, rfl, rd | ⟨a, kvs, D, rfl, e, f, rfl⟩, sh, dp, hz, q⟩ := h
  · exact call_repr hg hu pins s σ H [x] us Q I r ⟨x, d, rfl, rd.1, sh, rd.2, dp, hz, q⟩
  · obtain ⟨u, rfl, ru⟩ := r.one
    cases (show u = Value.ref a from ru)
    obtain ⟨_, hs, vs, r, dd⟩ := dk_at I e
    have rr := PyProof.V.reads_dictOf (enc := kD) keyReads dd (f.reads r)
    refine repr_of_reads' rr sh (fun _ hm => ?_) hg (by omega) (fun _ _ e => e) (fun h' u tk hk => ⟨.str _, H, I.kept (t' := tk) hk, ⟨_, rfl⟩, q⟩) hz
    cases List.mem_singleton.mp hm
    rw [beq_self_eq_true] at hs
    cases hs
/-- {k: v}, with a text as its key -/
def tDisp1 (tk tv : TE) : TE := fun σ H Q => ∀ p, H p = none → tk σ (upd H p (.dK [])) fun kx H1 => tv σ H1 fun y H2 => ∃ x, kx = .str x ∧ H2 p = some (.dK []) ∧ Q (.ref p) (upd H2 p (.dK [(.inr x, y)]))
/-- list.index of a text -/
def isT (t : Str) : Value → Bool
  | .str y _ => y == t
  | _ => false
end
theorem hu64 {A : Around} {k : Nat} (hr : Room k A) : A.units + 64 < cLine := by have := hr.un; omega
/-! the guide's rule for a list of arguments asks rfl to see that no item is starred; in a long display that takes minutes -/
def noStar : Expr → Bool
  | .Starred _ _ => false
  | _ => true
theorem star_cons {e : Expr} (h : noStar e = true) (rest : List Expr) (env : Env) : starEach (e :: rest) env = (false, eval e env) :: starEach rest env := by
  cases e <;> first | rfl | cases h
theorem pa_consN {X : Cx} {e : Expr} {es : List Expr} {te : TE} {t : TA} (ha : PE X e te) (hr : PA X es t) (hn : noStar e = true := by rfl) : PA X (e :: es) (tCons te t) := pa_cons ha hr (star_cons hn es X.env)
/-! a rule's goal unfolds into the run of the text; where that is long (a display of many things), the elaborator must not see through it -/
structure Sl (p : Prop) : Prop where
  out : p
section
variable {X : Cx}
theorem pss_joinS {rest : List Stmt} {st : Stmt} {t u : TS} (h1 : PS X st t) (h2 : Sl (PSs X rest u)) : PSs X (st :: rest) (tJoin t u) := pss_join h1 h2.out
theorem pss_consS {rest : List Stmt} {st : Stmt} {t u : TS} (h1 : Sl (PS X st t)) (h2 : PSs X rest u) : Sl (PSs X (st :: rest) (tSeq t u)) := ⟨pss_cons h1.out h2⟩
theorem ps_setS {i : Nat} {x : Str} {e : Expr} {te : TE} {pos pos' : Pos} (hN : X.N.Nodup) (hi : X.N[i]? = some x) (hx : Loc X.env.scope x) (he : Sl (PE X e te)) (hs : swapsWith e (some (.Name x pos')) pos.line X.env = pure false := by rfl) (hf : X.fn x = true ∨ X.env.scope.names.lookup x = some .local := by first | exact .inl rfl | exact .inr rfl | assumption) :
    Sl (PS X (.Assign [.Name x pos'] e pos) (tAsg te (gName i))) := ⟨ps_set hN hi hx he.out hs hf⟩
theorem pe_lstS {es : List Expr} {t : TA} {pos : Pos} (h : Sl (PA X es t)) : Sl (PE X (.List es pos) (tLst t)) := ⟨pe_lst h.out⟩
theorem pa_consS {e : Expr} {es : List Expr} {te : TE} {t : TA} (ha : PE X e te) (hr : Sl (PA X es t)) (hn : noStar e = true := by rfl) : Sl (PA X (e :: es) (tCons te t)) := ⟨pa_consN ha hr.out hn⟩
theorem pa_nilS : Sl (PA X [] tNil) := ⟨pa_nil⟩
end
end Ow
namespace L2
open PySem PySem.Spec PyProof.Rows

/-! ### lists of pairs as tables -/
section
variable {κ : Type} [DecidableEq κ]
def valV (kvs : List (κ × V)) (k : κ) : Option V := (kvs.find? fun kv => decide (kv.1 = k)).map (·.2)
/-- in its place, or at the end -/
def putK (kvs : List (κ × V)) (k : κ) (v : V) : List (κ × V) :=
  if (kvs.any fun kv => decide (kv.1 = k)) = true then kvs.map (fun kv => if kv.1 = k then (kv.1, v) else kv) else kvs ++ [(k, v)]
def dropK (kvs : List (κ × V)) (k : κ) : List (κ × V) := kvs.filter fun kv => decide (kv.1 ≠ k)

theorem valV_pos {p : κ × V} {r : List (κ × V)} {k : κ} (e : p.1 = k) : valV (p :: r) k = some p.2 := by simp [valV, List.find?_cons, e]
theorem valV_neg {p : κ × V} {r : List (κ × V)} {k : κ} (e : ¬ p.1 = k) : valV (p :: r) k = valV r k := by simp [valV, List.find?_cons, e]
theorem valV_any (k : κ) : ∀ kvs : List (κ × V), (kvs.any fun kv => decide (kv.1 = k)) = (valV kvs k).isSome
  | [] => rfl
  | p :: r => by
    rw [List.any_cons]
    by_cases e : p.1 = k
    · simp only [valV_pos e, decide_eq_true e, Bool.true_or, Option.isSome_some]
    · rw [valV_neg e, decide_eq_false e, Bool.false_or]; exact valV_any k r
theorem valV_map (k j : κ) (y : V) : ∀ kvs : List (κ × V), valV (kvs.map fun kv => if kv.1 = k then (kv.1, y) else kv) j = (valV kvs j).map fun x => if j = k then y else x
  | [] => rfl
  | p :: r => by
    have ih := valV_map k j y r
    rw [List.map_cons]
    by_cases h : p.1 = k
    · rw [if_pos h]
      by_cases e : p.1 = j
      · rw [valV_pos (p := (p.1, y)) e, valV_pos e, Option.map_some, if_pos (e.symm.trans h)]
      · rw [valV_neg (p := (p.1, y)) e, valV_neg e, ih]
    · rw [if_neg h]
      by_cases e : p.1 = j
      · rw [valV_pos (p := p) e, valV_pos e, Option.map_some, if_neg (fun z => h (e.trans z))]
      · rw [valV_neg (p := p) e, valV_neg e, ih]
theorem valV_snoc (k j : κ) (y : V) : ∀ kvs : List (κ × V), valV kvs k = none → valV (kvs ++ [(k, y)]) j = if j = k then some y else valV kvs j
  | [], _ => by
    by_cases e : k = j
    · rw [if_pos e.symm]; exact valV_pos (p := (k, y)) e
    · rw [if_neg (fun z => e z.symm)]; exact valV_neg (p := (k, y)) e
  | p :: r, hn => by
    rw [List.cons_append]
    have hk : ¬ p.1 = k := fun z => by rw [valV_pos z] at hn; cases hn
    rw [valV_neg hk] at hn
    have ih := valV_snoc k j y r hn
    by_cases e : p.1 = j
    · rw [valV_pos e, valV_pos e, if_neg (fun z => hk (e.trans z))]
    · rw [valV_neg e, valV_neg e, ih]
theorem valV_put (kvs : List (κ × V)) (k j : κ) (y : V) : valV (putK kvs k y) j = if j = k then some y else valV kvs j := by
  unfold putK
  by_cases a : (kvs.any fun kv => decide (kv.1 = k)) = true
  · rw [if_pos a, valV_map]
    rw [valV_any] at a
    by_cases e : j = k
    · obtain ⟨x, hx⟩ := Option.isSome_iff_exists.mp a
      rw [if_pos e, e, hx, Option.map_some, if_pos rfl]
    · rw [if_neg e]
      cases valV kvs j with
      | none => rfl
      | some x => rw [Option.map_some, if_neg e]
  · rw [if_neg a]
    refine valV_snoc k j y kvs ?_
    rw [valV_any] at a
    cases q : valV kvs k with
    | none => rfl
    | some x => rw [q] at a; exact (a rfl).elim
theorem length_putK (kvs : List (κ × V)) (k : κ) (v : V) : (putK kvs k v).length ≤ kvs.length + 1 := by
  unfold putK
  split
  · rw [List.length_map]; omega
  · rw [List.length_append, List.length_cons, List.length_nil]; omega
theorem RelO.isSome_eq {o : Option V} {u : Option Value} (r : RelO o u) : o.isSome = u.isSome := by
  cases o with
  | none => cases u with
    | none => rfl
    | some _ => exact (show False from r).elim
  | some _ => cases u with
    | none => exact (show False from r).elim
    | some _ => rfl
theorem RelO.getD {o : Option V} {u : Option Value} {d : V} {d' : Value} (r : RelO o u) (rd : RelV d d') : RelV (o.getD d) (u.getD d') := by
  cases o with
  | none => cases u with
    | none => exact rd
    | some _ => exact (show False from r).elim
  | some _ => cases u with
    | none => exact (show False from r).elim
    | some _ => exact r

/-- raw tables of the same keys -/
theorem KV.val {kvs : List (κ × V)} {vs : List (κ × Value)} (r : KV kvs vs) (k : κ) : RelO (valV kvs k) (valueAt vs k) := by
  unfold KV at r
  induction r with
  | nil => exact True.intro
  | @cons p q ps qs h t ih =>
    obtain ⟨h1, h2⟩ := h
    by_cases e : p.1 = k
    · have e' : q.1 = k := h1.symm.trans e
      have b : valueAt (q :: qs) k = some q.2 := by simp [valueAt, List.find?_cons, e']
      rw [valV_pos e, b]; exact h2
    · have e' : ¬ q.1 = k := fun z => e (h1.trans z)
      have b : valueAt (q :: qs) k = valueAt qs k := by simp [valueAt, List.find?_cons, e']
      rw [valV_neg e, b]; exact ih
theorem KV.any {kvs : List (κ × V)} {vs : List (κ × Value)} (r : KV kvs vs) (k : κ) : (kvs.any fun kv => decide (kv.1 = k)) = vs.any fun kv => decide (kv.1 = k) := by
  unfold KV at r
  induction r with
  | nil => rfl
  | cons h t ih => rw [List.any_cons, List.any_cons, ih, h.1]
theorem KV.repl {kvs : List (κ × V)} {vs : List (κ × Value)} (r : KV kvs vs) (k : κ) {y : V} {u : Value} (ry : RelV y u) :
    KV (kvs.map fun kv => if kv.1 = k then (kv.1, y) else kv) (vs.map fun kv => if kv.1 = k then (kv.1, u) else kv) := by
  unfold KV at r ⊢
  induction r with
  | nil => exact .nil
  | @cons p q ps qs h t ih =>
    rw [List.map_cons, List.map_cons]
    refine .cons ?_ ih
    obtain ⟨h1, h2⟩ := h
    by_cases e : p.1 = k
    · rw [if_pos e, if_pos (h1.symm.trans e)]; exact ⟨h1, ry⟩
    · rw [if_neg e, if_neg (fun z => e (h1.trans z))]; exact ⟨h1, h2⟩
theorem KV.put {kvs : List (κ × V)} {vs : List (κ × Value)} (r : KV kvs vs) (k : κ) {y : V} {u : Value} (ry : RelV y u) : KV (putK kvs k y) (stored vs k u) := by
  unfold putK stored
  rw [r.any k]
  by_cases e : (vs.any fun kv => decide (kv.1 = k)) = true
  · rw [if_pos e, if_pos e]; exact r.repl k ry
  · rw [if_neg e, if_neg e]; exact Paired.snoc r ⟨rfl, ry⟩
theorem KV.drop {kvs : List (κ × V)} {vs : List (κ × Value)} (r : KV kvs vs) (k : κ) : KV (dropK kvs k) (without vs k) := by
  unfold KV at r ⊢
  unfold dropK without
  induction r with
  | nil => exact .nil
  | @cons p q ps qs h t ih =>
    obtain ⟨h1, h2⟩ := h
    rw [List.filter_cons, List.filter_cons]
    by_cases e : p.1 = k
    · have a : ¬ decide (p.1 ≠ k) = true := by simp [e]
      have b : ¬ decide (q.1 ≠ k) = true := by simp [h1.symm.trans e]
      rw [if_neg a, if_neg b]; exact ih
    · have e' : ¬ q.1 = k := fun z => e (h1.trans z)
      have a : decide (p.1 ≠ k) = true := by simp [e]
      have b : decide (q.1 ≠ k) = true := by simp [e']
      rw [if_pos a, if_pos b]; exact .cons ⟨h1, h2⟩ ih
theorem KV.keys {kvs : List (κ × V)} {vs : List (κ × Value)} (r : KV kvs vs) : kvs.map (·.1) = vs.map (·.1) := by
  unfold KV at r
  induction r with
  | nil => rfl
  | cons h t ih => rw [List.map_cons, List.map_cons, ih, h.1]
theorem KV.length {kvs : List (κ × V)} {vs : List (κ × Value)} (r : KV kvs vs) : kvs.length = vs.length := Paired.length r
theorem dropK_le (kvs : List (κ × V)) (k : κ) : (dropK kvs k).length ≤ kvs.length := List.length_filter_le _ _
end


/-! ### a tracked dict, its keys ints and texts or tuples of these -/
theorem kV_is {P : Program} {w : World} {k : Key} {u : Value} (r : RelV (kV k) u) : (mixKind P w).is k u = true := by
  cases k with
  | inl i => obtain ⟨t, e⟩ := (show ∃ t, u = Value.int i t from r); subst e; exact mixKind_int P w i t
  | inr x => obtain ⟨t, e⟩ := (show ∃ t, u = Value.str x t from r); subst e; exact mixKind_str P w x t
theorem items_are {P : Program} {w : World} : ∀ {ks : List Key} {us : List Value}, Vals (ks.map kV) us → ItemsAre (mixKind P w) ks us
  | [], _, r => by rw [List.map_nil] at r; cases r; exact .nil
  | k :: ks, _, r => by
    rw [List.map_cons] at r
    cases r with
    | cons h t => exact .cons (kV_is h) (items_are t)

/-- raw entries of a dict with tuple keys -/
abbrev KT (H : Hp) : List (List Key × V) → List (List Key × Addr × Value) → Prop := Paired fun p q => p.1 = q.1 ∧ H q.2.1 = some (.tup (p.1.map kV)) ∧ RelV p.2 q.2.2
theorem KT.val {H : Hp} {kvs : List (List Key × V)} {xs : List (List Key × Addr × Value)} (r : KT H kvs xs) (k : List Key) : RelO (valV kvs k) ((atKey xs k).map (·.2)) := by
  induction r with
  | nil => exact True.intro
  | @cons p q ps qs h t ih =>
    obtain ⟨h1, _, h2⟩ := h
    by_cases e : p.1 = k
    · have e' : q.1 = k := h1.symm.trans e
      have b : atKey (q :: qs) k = some q.2 := by simp [atKey, List.find?_cons, e']
      rw [valV_pos e, b]; exact h2
    · have e' : ¬ q.1 = k := fun z => e (h1.trans z)
      have b : atKey (q :: qs) k = atKey qs k := by simp [atKey, List.find?_cons, e']
      rw [valV_neg e, b]; exact ih
theorem KT.repl {H : Hp} {kvs : List (List Key × V)} {xs : List (List Key × Addr × Value)} (r : KT H kvs xs) (k : List Key) {y : V} {u : Value} (ry : RelV y u) :
    KT H (kvs.map fun kv => if kv.1 = k then (kv.1, y) else kv) (xs.map (putAt k u)) := by
  induction r with
  | nil => exact .nil
  | @cons p q ps qs h t ih =>
    rw [List.map_cons, List.map_cons]
    refine .cons ?_ ih
    obtain ⟨h1, h2, h3⟩ := h
    unfold putAt
    by_cases e : p.1 = k
    · rw [if_pos e, if_pos (h1.symm.trans e)]; exact ⟨h1, h2, ry⟩
    · rw [if_neg e, if_neg (fun z => e (h1.trans z))]; exact ⟨h1, h2, h3⟩
theorem KT.put {H : Hp} {kvs : List (List Key × V)} {xs : List (List Key × Addr × Value)} (r : KT H kvs xs) (k : List Key) {b : Addr} {y : V} {u : Value} (hb : H b = some (.tup (k.map kV))) (ry : RelV y u) :
    KT H (putK kvs k y) (storedH xs k b u) := by
  have e : (kvs.any fun kv => decide (kv.1 = k)) = (atKey xs k).isSome := by
    rw [valV_any, (r.val k).isSome_eq, Option.isSome_map]
  unfold putK storedH
  rw [e]
  by_cases q : (atKey xs k).isSome = true
  · rw [if_pos q, if_pos q]; exact r.repl k ry
  · rw [if_neg q, if_neg q]; exact Paired.snoc r ⟨rfl, hb, ry⟩
theorem KT.keeps {H H' : Hp} {kvs : List (List Key × V)} {xs : List (List Key × Addr × Value)} (r : KT H kvs xs) (ht : ∀ b ys, H b = some (.tup ys) → H' b = some (.tup ys)) : KT H' kvs xs :=
  Paired.mapP r fun _ _ z => ⟨z.1, ht _ _ z.2.1, z.2.2⟩

section
variable {P : Program} {w : World} {H : Hp} {h : Heap} {a : Addr}
theorem rd_of {u : HO} (ok : HOk P w H h) (e : Rd H a u) : ObjOk P w H h a u := e.ok ok
theorem dk_rd {kvs : List (Key × V)} (ok : HOk P w H h) (e : Rd H a (.dK kvs)) : kvs.length ≤ sizeLine ∧ (a == sysModules) = false ∧ ∃ vs, KV kvs vs ∧ h.DictOf (mixKind P w) a vs :=
  show ObjOk P w H h a (.dK kvs) from rd_of ok e
theorem dk_of {kvs : List (Key × V)} (ok : HOk P w H h) (e : H a = some (.dK kvs)) : kvs.length ≤ sizeLine ∧ (a == sysModules) = false ∧ ∃ vs, KV kvs vs ∧ h.DictOf (mixKind P w) a vs := dk_rd ok (.inl e)
/-- a tracked tuple of ints and texts is a key -/
theorem key_of {ks : List Key} (ok : HOk P w H h) (e : H a = some (.tup (ks.map kV))) : (tupleKind (mixKind P w)).is h ks a := by
  obtain ⟨_, its, r, o, h1, h2, n, h3⟩ := (show ObjOk P w H h a (.tup (ks.map kV)) from ok a _ e)
  exact ⟨o, its.toArray, n, h1, h2, h3, by simpa using items_are r⟩
theorem dt_rd {kvs : List (List Key × V)} (ok : HOk P w H h) (e : Rd H a (.dT kvs)) : kvs.length ≤ sizeLine ∧ (a == sysModules) = false ∧
    ∃ xs, KT H kvs xs ∧ h.DictOfH (tupleKind (mixKind P w)) a xs := by
  obtain ⟨z, y, xs, r, o, es, ep, h1, h2, h3, h4, h5⟩ := (show ObjOk P w H h a (.dT kvs) from rd_of ok e)
  refine ⟨z, y, xs, r, o, es, ep, h1, h2, h3, h4, fun x hx => ?_, h5⟩
  have all : ∀ {l : List (List Key × V)} {m : List (List Key × Addr × Value)}, KT H l m → ∀ x ∈ m, (tupleKind (mixKind P w)).is h x.1 x.2.1 := by
    intro l m q
    induction q with
    | nil => intro x hx; exact nomatch hx
    | @cons p q ps qs hq t ih =>
      intro x hx
      rcases List.mem_cons.mp hx with e | hx
      · subst e
        exact key_of ok (by rw [← hq.1]; exact hq.2.1)
      · exact ih x hx
  exact all r x hx
theorem dt_of {kvs : List (List Key × V)} (ok : HOk P w H h) (e : H a = some (.dT kvs)) : kvs.length ≤ sizeLine ∧ (a == sysModules) = false ∧
    ∃ xs, KT H kvs xs ∧ h.DictOfH (tupleKind (mixKind P w)) a xs := dt_rd ok (.inl e)
end

/-- what the dict at a holds at the key y -/
def DGet (H : Hp) (a : Addr) (y : V) (r : Option V) : Prop :=
  (∃ kvs k, Rd H a (.dK kvs) ∧ y = kV k ∧ r = valV kvs k) ∨ ∃ kvs k b, Rd H a (.dT kvs) ∧ y = .ref b ∧ H b = some (.tup (k.map kV)) ∧ r = valV kvs k
/-- the heap behind a[y] = v -/
def DPut (H : Hp) (a : Addr) (y v : V) (H' : Hp) : Prop :=
  (∃ kvs k, H a = some (.dK kvs) ∧ y = kV k ∧ kvs.length < sizeLine ∧ H' = upd H a (.dK (putK kvs k v))) ∨
  ∃ kvs k b, H a = some (.dT kvs) ∧ y = .ref b ∧ H b = some (.tup (k.map kV)) ∧ kvs.length < sizeLine ∧ H' = upd H a (.dT (putK kvs k v))
theorem DGet.k {H : Hp} {a : Addr} {kvs : List (Key × V)} {k : Key} (e : H a = some (.dK kvs)) : DGet H a (kV k) (valV kvs k) := .inl ⟨kvs, k, .inl e, rfl, rfl⟩
theorem DGet.t {H : Hp} {a b : Addr} {kvs : List (List Key × V)} {k : List Key} (e : H a = some (.dT kvs)) (eb : H b = some (.tup (k.map kV))) : DGet H a (.ref b) (valV kvs k) := .inr ⟨kvs, k, b, .inl e, rfl, eb, rfl⟩
theorem DPut.k {H : Hp} {a : Addr} {kvs : List (Key × V)} {k : Key} {v : V} (e : H a = some (.dK kvs)) (hl : kvs.length < sizeLine) : DPut H a (kV k) v (upd H a (.dK (putK kvs k v))) := .inl ⟨kvs, k, e, rfl, hl, rfl⟩
theorem DPut.t {H : Hp} {a b : Addr} {kvs : List (List Key × V)} {k : List Key} {v : V} (e : H a = some (.dT kvs)) (eb : H b = some (.tup (k.map kV))) (hl : kvs.length < sizeLine) :
    DPut H a (.ref b) v (upd H a (.dT (putK kvs k v))) := .inr ⟨kvs, k, b, e, rfl, eb, hl, rfl⟩


section
variable {X : Cx} {pins : List (Addr × Obj)} {σ : St} {H : Hp} {s : Shared} {a : Addr} {y v : V} {u r : Value} {o : Option V} {A : Around} {E : Value → Shared → Prop}

theorem Inv.big (I : Inv X pins σ H s) : sysModules < s.heap.objs.size := by
  have h : mainGlobals < s.heap.objs.size := (I.mod.glob.keeps I.bk).lt
  exact Nat.lt_trans (by decide) h

/-- d[y], there -/
theorem d_getItem {Q : Value → Shared → Prop} (hu : A.units + 1 < cLine) (I : Inv X pins σ H s) (g : DGet H a y (some v)) (ry : RelV y u) (h : ∀ w' s', Inv X pins σ H s' → RelV v w' → Q w' s') :
    wpAny (model X.prog X.w) A (getItem (.ref a) u) Q E s := by
  rcases g with ⟨kvs, k, e, ey, l⟩ | ⟨kvs, k, b, e, ey, eb, l⟩
  · subst ey
    obtain ⟨z, hd, vs, rel, dd⟩ := dk_rd I.hok e
    obtain ⟨w', hw, rw'⟩ := RelO.some_of (v := v) (o := valueAt vs k) (by rw [l]; exact rel.val k)
    exact wpAny_getItem_of (kV_is ry) dd.mapOf hw (h w' _ (I.tok _) rw')
  · subst ey
    cases (show u = Value.ref b from ry)
    obtain ⟨z, hd, xs, rel, dd⟩ := dt_rd I.hok e
    obtain ⟨w', hw, rw'⟩ := RelO.some_of (v := v) (o := (atKey xs k).map (·.2)) (by rw [l]; exact rel.val k)
    obtain ⟨p, hp, hp2⟩ := Option.map_eq_some_iff.mp hw
    refine wpAny_getItem_heap (tupleKind_room_in1 hu) (key_of I.hok eb) dd hp ?_
    rw [hp2]
    exact h w' _ (I.tok _) rw'
/-- a dict's object is replaced -/
theorem d_write {h' : Heap} {t' : Nat} {ob : HO} (I : Inv X pins σ H s) (mu : Mut (H a)) (hs : Heap.SameBut a s.heap h') (he : ∃ q, h'.get? a = some q) (new : ObjOk X.prog X.w (upd H a ob) h' a ob) :
    Inv X pins σ (upd H a ob) { s with heap := h', toks := t' } :=
  I.write (x := a) (e := a) mu (.inl rfl) (fun b q hb z => (hs.2 b hb).trans z) he new
theorem dk_new {P : Program} {w : World} {H' : Hp} {h' : Heap} {kvs : List (Key × V)} {vs : List (Key × Value)} (z : kvs.length ≤ sizeLine) (hd : (a == sysModules) = false) (rel : KV kvs vs) (dd : h'.DictOf (mixKind P w) a vs) :
    ObjOk P w H' h' a (.dK kvs) := ⟨z, hd, vs, rel, dd⟩
/-- d[y] = v -/
theorem d_setItem {H' : Hp} {Q : Unit → Shared → Prop} (hu : A.units + 1 < cLine) (I : Inv X pins σ H s) (g : DPut H a y v H') (ry : RelV y u) (rv : RelV v r) (h : ∀ s', Inv X pins σ H' s' → Q () s') :
    wpAny (model X.prog X.w) A (setItem (.ref a) u r) Q E s := by
  rcases g with ⟨kvs, k, e, ey, l, eH⟩ | ⟨kvs, k, b, e, ey, eb, l, eH⟩
  · subst ey eH
    obtain ⟨z, hd, vs, rel, dd⟩ := dk_of I.hok e
    have hz : vs.length ≤ sizeLine := by rw [← rel.length]; exact z
    have hl : (putK kvs k v).length ≤ sizeLine := by have := length_putK kvs k v; omega
    refine wpAny_setItem_pairs (hsz := hz) (kV_is ry) dd fun h' dd' hs => h _ ?_
    have he : ∃ q, h'.get? a = some q := let ⟨q, _, _, hq, _⟩ := dd'; ⟨q, hq⟩
    exact d_write I (by rw [e]; exact True.intro) hs he (dk_new hl hd (rel.put k rv) dd')
  · subst ey eH
    cases (show u = Value.ref b from ry)
    obtain ⟨z, hd, xs, rel, dd⟩ := dt_of I.hok e
    have hz : xs.length ≤ sizeLine := by rw [← Paired.length rel]; exact z
    have hl : (putK kvs k v).length ≤ sizeLine := by have := length_putK kvs k v; omega
    refine wpAny_setItem_heap (hsz := hz) (tupleKind_room_in1 hu) (key_of I.hok eb) dd fun h' dd' hs => h _ ?_
    obtain ⟨q, es, ep, hq, h2, h3, h4, _, h5⟩ := dd'
    refine d_write I (by rw [e]; exact True.intro) hs ⟨q, hq⟩ ⟨hl, hd, _, (rel.put k eb rv).keeps fun c ys ec => ?_, q, es, ep, hq, h2, h3, h4, h5⟩
    rw [upd_ne (ne_of ec e (fun z => nomatch z))]
    exact ec
end

section
variable {X : Cx} {pins : List (Addr × Obj)} {σ : St} {H : Hp} {s : Shared} {a : Addr} {kvs : List (Key × V)} {k : Key} {u : Value} {A : Around} {E : Value → Shared → Prop}
/-- d.pop(k[, x]), there -/
theorem d_pop {v : V} {more : List Value} {Q : Value → Shared → Prop} (I : Inv X pins σ H s) (e : H a = some (.dK kvs)) (ry : RelV (kV k) u) (l : valV kvs k = some v) (hm : more = [] ∨ ∃ x, more = [x])
    (h : ∀ w' s', Inv X pins σ (upd H a (.dK (dropK kvs k))) s' → RelV v w' → Q w' s') : wpAny (model X.prog X.w) A (call (.builtin "dict.pop") (.ref a :: u :: more)) Q E s := by
  obtain ⟨z, hd, vs, rel, dd⟩ := dk_of I.hok e
  obtain ⟨w', hw, rw'⟩ := RelO.some_of (v := v) (o := valueAt vs k) (by rw [← l]; exact rel.val k)
  have hp : (keyPart u).isSome = true := by
    cases k with
    | inl i => obtain ⟨t, q⟩ := (show ∃ t, u = Value.int i t from ry); subst q; rfl
    | inr x => obtain ⟨t, q⟩ := (show ∃ t, u = Value.str x t from ry); subst q; rfl
  have ha : argsOk "dict.pop" ⟨.ref a :: u :: more, []⟩ := by
    rcases hm with q | ⟨x, q⟩
    · subst q; exact PySem.F.args_dict_pop_2 _ _
    · subst q; exact PySem.F.args_dict_pop_3 _ _ _
  refine call_meetsIn PySem.F.slot_dict_pop dd.typeIs PySem.F.entry_dict_pop ha (meets_dict_pop_there (mixKind X.prog X.w) a (kV_is ry) more hm hp)
    ⟨vs, w', dd, by rw [← rel.length]; exact z, hw, fun h' dd' hs => h w' _ ?_ rw'⟩
  have he : ∃ q, h'.get? a = some q := let ⟨q, _, _, hq, _⟩ := dd'; ⟨q, hq⟩
  exact d_write I (by rw [e]; exact True.intro) hs he (dk_new (Nat.le_trans (dropK_le kvs k) z) hd (rel.drop k) dd')
end


/-! ### readings and rules -/
/-- the element of a subscription, not a slice -/
def NoSl (i : Expr) : Prop := ∀ ov iv, subscripted i false ov iv = operate [ov, iv] (getItem ov iv)
theorem subD_of {prog : Program} {w : World} {A : Around} {E : Value → Shared → Prop} {s : Shared} {env : Env} {value slice : Expr} {pos : Pos} {T id : String} {Q : Value → Shared → Prop}
    (hl : typeLookup (.type T) "__getitem__" = pure (some (.builtin id))) (hs : NoSl slice)
    (h : wpAny (model prog w) A (eval value env) (fun o s₁ => wpAny (model prog w) A (eval slice env) (fun i s₂ => s₂.TypeIs o T ∧ wpAny (model prog w) A (getItem o i) Q E s₂) E s₁) E s) :
    wpAny (model prog w) A (eval (.Subscript value slice pos) env) Q E s := by
  refine Subscript_ (wpAny_mono h (fun o s₁ h₁ => wpAny_mono h₁ (fun i s₂ h₂ => ?_) fun _ _ x => x) fun _ _ x => x)
  obtain ⟨hT, h₂⟩ := h₂
  unfold subscriptTail
  refine wpAny_bind ?_
  rw [getitemInPython_of_ne hT.not_modules]
  refine wpAny_bind (wpAny_specialOf hT hl ?_)
  have fin : wpAny (model prog w) A (subscripted slice false o i) (fun r s₃ => wpAny (model prog w) A (letTemporaryGo value o r >>= fun _ => pure r) Q E s₃) E s₂ := by
    rw [hs o i]
    exact wpAny_operating (wpAny_mono h₂ (fun r s₃ h₃ => wpAny_bind (wpAny_letTemporaryGo (wpAny_pure h₃))) fun _ _ x => x)
  first
    | exact wpAny_pure (wpAny_bind fin)
    | exact wpAny_bind (wpAny_pure (wpAny_bind fin))
    | exact wpAny_bind fin

theorem dict_typeIs {X : Cx} {pins : List (Addr × Obj)} {σ : St} {H : Hp} {s : Shared} {a : Addr} {y : V} {o : Option V} (I : Inv X pins σ H s) (g : DGet H a y o) : s.TypeIs (.ref a) "dict" := by
  rcases g with ⟨kvs, k, e, _, _⟩ | ⟨kvs, k, b, e, _, _, _⟩
  · obtain ⟨_, _, vs, _, dd⟩ := dk_rd I.hok e
    exact dd.typeIs
  · obtain ⟨_, _, xs, _, dd⟩ := dt_rd I.hok e
    exact dd.typeIs
/-- d[y] -/
def tDGet (td ty : TE) : TE := fun σ H Q => td σ H fun x H1 => ty σ H1 fun y H2 => ∃ a v, x = .ref a ∧ DGet H2 a y (some v) ∧ Q v H2
/-- y in d, y not in d -/
def tDIn (ty td : TE) : TE := fun σ H Q => ty σ H fun y H1 => td σ H1 fun x H2 => ∃ a o, x = .ref a ∧ DGet H2 a y o ∧ Q (.bl o.isSome) H2
def tDNotIn (ty td : TE) : TE := fun σ H Q => ty σ H fun y H1 => td σ H1 fun x H2 => ∃ a o, x = .ref a ∧ DGet H2 a y o ∧ Q (.bl (!o.isSome)) H2
/-- d[y] = v -/
def sDPut (td ty tv : TE) : TS := fun D σ H => tv σ H fun v H1 => td σ H1 fun x H2 => ty σ H2 fun y H3 => ∃ a H4, x = .ref a ∧ DPut H3 a y v H4 ∧ D.nx σ H4
/-- d[y] op= v -/
def sDAug (td ty tv : TE) (rd : V → V → Hp → VK → Prop) : TS := fun D σ H => td σ H fun x H1 => ty σ H1 fun y H2 => ∃ a v, x = .ref a ∧ DGet H2 a y (some v) ∧
  tv σ H2 fun y2 H3 => rd v y2 H3 fun z H4 => ∃ H5, DPut H4 a y z H5 ∧ D.nx σ H5
/-- del d[y] -/
def sDDel (td ty : TE) : TS := fun D σ H => td σ H fun x H1 => ty σ H1 fun y H2 => ∃ a kvs k, x = .ref a ∧ H2 a = some (.dK kvs) ∧ y = kV k ∧ (valV kvs k).isSome = true ∧ D.nx σ (upd H2 a (.dK (dropK kvs k)))

section
variable {X : Cx} {o i e value : Expr} {pos pos' tpos : Pos} {td ty tv : TE}
theorem pe_dget (hu : X.A.units + 1 < cLine) (ho : PE X o td) (hi : PE X i ty) (hs : NoSl i) : PE X (.Subscript o i pos) (tDGet td ty) := by
  intro pins s σ H Q I h
  refine subD_of PySem.F.slot_dict_getitem.lookup hs (thn (ho pins s σ H _ I h) fun u s1 ⟨x, H1, I1, rx, q1⟩ => thn (hi pins s1 σ H1 _ I1 q1) fun iv s2 ⟨y, H2, I2, ry, a, v, ex, g, q2⟩ => ?_)
  subst ex
  obtain rfl : u = Value.ref a := rx
  exact ⟨dict_typeIs I2 g, d_getItem hu I2 g ry fun w' s3 I3 rw' => ⟨v, H2, I3, rw', q2⟩⟩
theorem ps_dput (hu : X.A.units + 1 < cLine) (ho : PE X o td) (hi : PE X i ty) (hv : PE X value tv) (hs : swapsWith value (some (.Subscript o i pos')) pos.line X.env = pure false) :
    PS X (.Assign [.Subscript o i pos'] value pos) (sDPut td ty tv) := by
  intro pins s σ H D I h
  refine wpAny_Assign_Subscript (thn (hv pins s σ H _ I h) fun r s1 ⟨v, H1, I1, rv, q1⟩ => thn (ho pins s1 σ H1 _ I1 q1) fun u s2 ⟨x, H2, I2, rx, q2⟩ => thn (hi pins s2 σ H2 _ I2 q2) fun iv s3 ⟨y, H3, I3, ry, a, H4, ex, g, q3⟩ => ?_) hs
  subst ex
  obtain rfl : u = Value.ref a := rx
  exact d_setItem hu I3 g ry rv fun s4 I4 => ⟨σ, H4, I4, q3⟩
end


/-! ### displays -/
theorem dk_empty {P : Program} {w : World} {H : Hp} (h : Heap) (hb : sysModules < h.objs.size) : ObjOk P w H (h.push { cls := .type "dict", data := .dict #[] }) h.objs.size (.dK []) :=
  ⟨Nat.zero_le _, beq_eq_false_iff_ne.mpr (Ne.symm (Nat.ne_of_lt hb)), [], .nil, Heap.DictOf.new h⟩
/-- {}, to be a dict of the kind that is wanted -/
def tDNewK : TE := fun _ H Q => ∀ p, H p = none → Q (.ref p) (upd H p (.dK []))
def tDNewT : TE := fun _ H Q => ∀ p, H p = none → Q (.ref p) (upd H p (.dT []))
section
variable {X : Cx} {pos : Pos}
theorem pe_dnewK : PE X (.Dict [] [] pos) tDNewK := fun pins s σ H Q I h =>
  wpAny_Dict_empty ⟨.ref s.heap.objs.size, _, I.laid (a := s.heap.objs.size) (o := .dK []) (t' := s.toks) (fun _ _ q => Heap.get?_push_of_some _ q) (Nat.le_refl _) (dk_empty s.heap I.big), rfl, h _ (I.hok.fresh (Nat.le_refl _))⟩
end

/-- the pairs of a display, from the left -/
def tPairs : List (TE × TE) → St → Hp → (List (V × V) → Hp → Prop) → Prop
  | [], _, H, Q => Q [] H
  | (tk, tv) :: r, σ, H, Q => tk σ H fun x H1 => tv σ H1 fun y H2 => tPairs r σ H2 fun ps H3 => Q ((x, y) :: ps) H3
abbrev VV : List (V × V) → List (Value × Value) → Prop := Paired fun p q => RelV p.1 q.1 ∧ RelV p.2 q.2
def PPs (X : Cx) (pos : Pos) (keys : List (Option Expr)) (values : List Expr) (trs : List (TE × TE)) : Prop :=
  ∀ (pins : List (Addr × Obj)) (s : Shared) (σ : St) (H : Hp) (Q : List (V × V) → Hp → Prop), Inv X pins σ H s → tPairs trs σ H Q →
    wpAny (model X.prog X.w) X.A (evalPairs (pairTrees keys values X.env pos)) (fun vs s' => ∃ ps H', Inv X pins σ H' s' ∧ VV ps vs ∧ Q ps H') X.xe s
theorem pps_nil {X : Cx} {pos : Pos} : PPs X pos [] [] [] := fun pins s σ H Q I h => pairTrees_nil_walk ⟨[], H, I, .nil, h⟩
theorem pps_cons {X : Cx} {pos : Pos} {k v : Expr} {ks : List (Option Expr)} {vs : List Expr} {tk tv : TE} {trs : List (TE × TE)} (hk : PE X k tk) (hv : PE X v tv) (hr : PPs X pos ks vs trs) :
    PPs X pos (some k :: ks) (v :: vs) ((tk, tv) :: trs) := fun pins s σ H Q I h =>
  pairTrees_cons_walk (thn (hk pins s σ H _ I h) fun u s1 ⟨x, H1, I1, rx, q1⟩ => thn (hv pins s1 σ H1 _ I1 q1) fun w2 s2 ⟨y, H2, I2, ry, q2⟩ =>
    thn (hr pins s2 σ H2 _ I2 q2) fun ws s3 ⟨ps, H3, I3, rel, q3⟩ => ⟨(x, y) :: ps, H3, I3, .cons ⟨rx, ry⟩ rel, q3⟩)

def mergeK (kvs more : List (Key × V)) : List (Key × V) := more.foldl (fun acc kv => putK acc kv.1 kv.2) kvs
theorem KV.merge : ∀ {more : List (Key × V)} {rs : List (Key × Value)} {kvs : List (Key × V)} {vs : List (Key × Value)}, KV more rs → KV kvs vs → KV (mergeK kvs more) (merged vs rs) := by
  intro more rs kvs vs r
  unfold KV at r
  induction r generalizing kvs vs with
  | nil => intro q; exact q
  | @cons p q ps qs h t ih =>
    intro r0
    have e : KV (putK kvs p.1 p.2) (stored vs q.1 q.2) := by
      have := r0.put p.1 h.2
      rw [← h.1]; exact this
    exact ih e
theorem length_mergeK : ∀ (more kvs : List (Key × V)), (mergeK kvs more).length ≤ kvs.length + more.length
  | [], kvs => by show kvs.length ≤ kvs.length + 0; omega
  | p :: r, kvs => by
    have h1 := length_mergeK r (putK kvs p.1 p.2)
    have h2 := length_putK kvs p.1 p.2
    show (mergeK (putK kvs p.1 p.2) r).length ≤ _
    rw [List.length_cons]; omega
theorem carries_of {P : Program} {w : World} : ∀ {kvs : List (Key × V)} {ws : List (Value × Value)}, VV (kvs.map fun kv => (kV kv.1, kv.2)) ws → ∃ rs, Carries (mixKind P w) ws rs ∧ KV kvs rs
  | [], _, r => by rw [List.map_nil] at r; cases r; exact ⟨[], True.intro, .nil⟩
  | p :: kvs, _, r => by
    rw [List.map_cons] at r
    cases r with
    | @cons a b as bs h t =>
      obtain ⟨rs, c, q⟩ := carries_of (P := P) (w := w) t
      obtain ⟨b1, b2⟩ := b
      exact ⟨(p.1, b2) :: rs, ⟨kV_is h.1, rfl, c⟩, .cons ⟨rfl, h.2⟩ q⟩
/-- {k: v, ..} with keys ints and texts; the new dict stands empty while the pairs are made -/
def tDisp (trs : List (TE × TE)) : TE := fun σ H Q => ∀ p, H p = none → tPairs trs σ (upd H p (.dK [])) fun ps H2 => H2 p = some (.dK []) ∧ ∃ kvs : List (Key × V), ps = kvs.map (fun kv => (kV kv.1, kv.2)) ∧ kvs.length ≤ 15 ∧ Q (.ref p) (upd H2 p (.dK (mergeK [] kvs)))
theorem pe_disp {X : Cx} {pos : Pos} {keys : List (Option Expr)} {values : List Expr} {trs : List (TE × TE)} (h : PPs X pos keys values trs) (hall : keys.all (·.isSome) = true) (hl : keys.length = values.length) (h0 : keys ≠ [])
    (h15 : keys.length ≤ 15) : PE X (.Dict keys values pos) (tDisp trs) := by
  intro pins s σ H Q I q
  have hn := I.hok.fresh (Nat.le_refl s.heap.objs.size)
  have I1 := I.laid (a := s.heap.objs.size) (o := .dK []) (h' := s.heap.push { cls := .type "dict", data := .dict #[] }) (t' := s.toks) (fun _ _ q => Heap.get?_push_of_some _ q) (Nat.le_refl _) (dk_empty s.heap I.big)
  refine wpAny_Dict_walk (knd := mixKind X.prog X.w) hall hl h0 h15 (thn (h pins _ σ _ _ I1 (q _ hn)) fun ws s2 ⟨ps, H2, I2, rel, e, kvs, ep, lk, q2⟩ => ?_)
  subst ep
  obtain ⟨rs, c, rk⟩ := carries_of (P := X.prog) (w := X.w) rel
  obtain ⟨z, hd, vs0, r0, dd⟩ := dk_of I2.hok e
  cases r0
  refine ⟨rs, c, dd, fun h' dd' hs => ⟨.ref s.heap.objs.size, _, ?_, rfl, q2⟩⟩
  have hz : (mergeK [] kvs).length ≤ sizeLine := by
    have h1 := length_mergeK kvs []
    rw [List.length_nil] at h1
    rw [sizeLine_eq]; omega
  have he : ∃ q, h'.get? s.heap.objs.size = some q := let ⟨q, _, _, hq, _⟩ := dd'; ⟨q, hq⟩
  exact d_write I2 (by rw [e]; exact True.intro) hs he (dk_new hz hd (rk.merge .nil) dd')


/-! ### methods -/
/-- a method call o.m(e) of a built-in, with one argument: what must be seen of the text -/
structure M1 (X : Cx) (o : Expr) (m : Str) (apos : Pos) (e : Expr) (cpos : Pos) : Prop where
  base : attributeBase o m X.env (eval o X.env) = eval o X.env
  few : ((backTo cpos (starEach [e] X.env)).all (fun x => !x.1) && (backToKw cpos (keywordEach [] X.env)).all (fun x => x.1.isSome)
    && decide (([e] : List Expr).length + ([] : List Keyword).length + (if ([] : List Keyword).isEmpty then 0 else 1) < 30)) = true
  line : (apos.endLine == cpos.line) = true
  trees : backTo cpos (starEach [e] X.env) = [(false, eval e X.env)]
structure M2 (X : Cx) (o : Expr) (m : Str) (apos : Pos) (e f : Expr) (cpos : Pos) : Prop where
  base : attributeBase o m X.env (eval o X.env) = eval o X.env
  few : ((backTo cpos (starEach [e, f] X.env)).all (fun x => !x.1) && (backToKw cpos (keywordEach [] X.env)).all (fun x => x.1.isSome)
    && decide (([e, f] : List Expr).length + ([] : List Keyword).length + (if ([] : List Keyword).isEmpty then 0 else 1) < 30)) = true
  line : (apos.endLine == cpos.line) = true
  trees : backTo cpos (starEach [e, f] X.env) = [(false, eval e X.env), (false, eval f X.env)]

/-- a is a dict, whatever its keys -/
def IsD (H : Hp) (a : Addr) : Prop := (∃ kvs, Rd H a (.dK kvs)) ∨ ∃ kvs, Rd H a (.dT kvs)
theorem isD_at {X : Cx} {pins : List (Addr × Obj)} {σ : St} {H : Hp} {s : Shared} {a : Addr} (I : Inv X pins σ H s) (d : IsD H a) :
    s.TypeIs (.ref a) "dict" ∧ (∀ b, Value.ref a = .ref b → ∃ ob, s.heap.get? b = some ob ∧ ob.dict = none) ∧ (a == sysModules) = false := by
  rcases d with ⟨kvs, e⟩ | ⟨kvs, e⟩
  · obtain ⟨_, hd, vs, _, dd⟩ := dk_rd I.hok e
    refine ⟨dd.typeIs, fun b q => ?_, hd⟩
    cases q
    obtain ⟨ob, _, _, h1, h2, _⟩ := dd
    exact ⟨ob, h1, h2.2.1⟩
  · obtain ⟨_, hd, xs, _, dd⟩ := dt_rd I.hok e
    refine ⟨dd.typeIs, fun b q => ?_, hd⟩
    cases q
    obtain ⟨ob, _, _, h1, h2, _⟩ := dd
    exact ⟨ob, h1, h2.2.1⟩

section
variable {X : Cx} {pins : List (Addr × Obj)} {σ : St} {H : Hp} {s : Shared} {a : Addr} {y d : V} {u r : Value} {o : Option V} {A : Around} {E : Value → Shared → Prop}
/-- d.get(y) -/
theorem d_get1 {Q : Value → Shared → Prop} (hu : A.units + 1 < cLine) (I : Inv X pins σ H s) (g : DGet H a y o) (ry : RelV y u) (h : ∀ w' s', Inv X pins σ H s' → RelV (o.getD .non) w' → Q w' s') :
    wpAny (model X.prog X.w) A (call (.builtin "dict.get") [.ref a, u]) Q E s := by
  rcases g with ⟨kvs, k, e, ey, l⟩ | ⟨kvs, k, b, e, ey, eb, l⟩
  · subst ey
    obtain ⟨z, hd, vs, rel, dd⟩ := dk_rd I.hok e
    refine call_meetsIn PySem.F.slot_dict_get dd.typeIs PySem.F.entry_dict_get (PySem.F.args_dict_get_2 _ _) (meets_dict_get (mixKind X.prog X.w) a (kV_is ry) hd) ⟨_, dd.mapOf, h _ _ (I.tok _) ?_⟩
    rw [l]
    exact (rel.val k).getD rfl
  · subst ey
    cases (show u = Value.ref b from ry)
    obtain ⟨z, hd, xs, rel, dd⟩ := dt_rd I.hok e
    refine call_meetsIn PySem.F.slot_dict_get dd.typeIs PySem.F.entry_dict_get (PySem.F.args_dict_get_2 _ _) (meetsH_dict_get (tupleKind (mixKind X.prog X.w)) a b hd) ⟨tupleKind_room_in1 hu, k, xs, key_of I.hok eb, dd, h _ _ (I.tok _) ?_⟩
    rw [l]
    exact (rel.val k).getD rfl
end

def tDGet1 (td ty : TE) : TE := fun σ H Q => td σ H fun x H1 => ∃ a, x = .ref a ∧ IsD H1 a ∧ ty σ H1 fun y H2 => ∃ o, DGet H2 a y o ∧ Q (o.getD .non) H2
def tDGet2 (td ty tx : TE) : TE := fun σ H Q => td σ H fun x H1 => ∃ a, x = .ref a ∧ IsD H1 a ∧ ty σ H1 fun y H2 => tx σ H2 fun z H3 => ∃ o, DGet H3 a y o ∧ Q (o.getD z) H3
/-- d.pop(k): there; d.pop(k, x): there or not -/
def tDPop1 (td ty : TE) : TE := fun σ H Q => td σ H fun x H1 => ∃ a, x = .ref a ∧ IsD H1 a ∧ ty σ H1 fun y H2 => ∃ kvs k v, H2 a = some (.dK kvs) ∧ y = kV k ∧ valV kvs k = some v ∧ Q v (upd H2 a (.dK (dropK kvs k)))
def tDPop2 (td ty tx : TE) : TE := fun σ H Q => td σ H fun x H1 => ∃ a, x = .ref a ∧ IsD H1 a ∧ ty σ H1 fun y H2 => tx σ H2 fun z H3 => ∃ kvs k, H3 a = some (.dK kvs) ∧ y = kV k ∧
  (∀ v, valV kvs k = some v → Q v (upd H3 a (.dK (dropK kvs k)))) ∧ (valV kvs k = none → Q z H3)
section
variable {X : Cx} {o e f : Expr} {apos cpos : Pos} {td ty tx : TE}
theorem pe_dget1 (hu : X.A.units + 1 < cLine) (ho : PE X o td) (he : PE X e ty) (m : M1 X o "get" apos e cpos) : PE X (.Call (.Attribute o "get" apos) [e] [] cpos) (tDGet1 td ty) := by
  intro pins s σ H Q I h
  refine wpAny_Call_method m.base m.few m.line PySem.F.plainAttrs_dict PySem.F.slot_dict_get PySem.F.type_dict_get (thn (ho pins s σ H _ I h) fun u s1 ⟨x, H1, I1, rx, a, ex, d, q1⟩ => ?_)
  subst ex
  obtain rfl : u = Value.ref a := rx
  obtain ⟨t1, t2, _⟩ := isD_at I1 d
  refine ⟨t1, t2, ?_⟩
  rw [m.trees]
  refine Calls.callWith_builtin rfl (Calls.evalArgs_plain (Calls.spliced_cons (thn (he pins s1 σ H1 _ I1 q1) fun iv s2 ⟨y, H2, I2, ry, ov, g, q2⟩ => Calls.spliced_nil ?_)))
  exact d_get1 hu I2 g ry fun w' s3 I3 rw' => ⟨_, H2, I3, rw', q2⟩
theorem pe_dpop1 (ho : PE X o td) (he : PE X e ty) (m : M1 X o "pop" apos e cpos) : PE X (.Call (.Attribute o "pop" apos) [e] [] cpos) (tDPop1 td ty) := by
  intro pins s σ H Q I h
  refine wpAny_Call_method m.base m.few m.line PySem.F.plainAttrs_dict PySem.F.slot_dict_pop PySem.F.type_dict_pop (thn (ho pins s σ H _ I h) fun u s1 ⟨x, H1, I1, rx, a, ex, d, q1⟩ => ?_)
  subst ex
  obtain rfl : u = Value.ref a := rx
  obtain ⟨t1, t2, _⟩ := isD_at I1 d
  refine ⟨t1, t2, ?_⟩
  rw [m.trees]
  refine Calls.callWith_builtin rfl (Calls.evalArgs_plain (Calls.spliced_cons (thn (he pins s1 σ H1 _ I1 q1) fun iv s2 ⟨y, H2, I2, ry, kvs, k, v, ea, ey, l, q2⟩ => Calls.spliced_nil ?_)))
  subst ey
  exact d_pop I2 ea ry l (.inl rfl) fun w' s3 I3 rw' => ⟨v, _, I3, rw', q2⟩
end

/-! ### dict(d): a copy -/
section
variable {X : Cx} {pins : List (Addr × Obj)} {σ : St} {H : Hp} {s : Shared} {a : Addr} {kvs : List (Key × V)} {A : Around} {E : Value → Shared → Prop}
end


section
variable {X : Cx} {pins : List (Addr × Obj)} {σ : St} {H : Hp} {s : Shared} {a : Addr} {y : V} {u : Value} {A : Around} {E : Value → Shared → Prop}
end
end L2
namespace L2
open PySem PySem.Spec PyProof.Rows
/-! ### a dict's pairs: keys that differ -/
section
variable {κ : Type} [DecidableEq κ]
theorem dropK_mem {kvs : List (κ × V)} {k : κ} {p : κ × V} (h : p ∈ dropK kvs k) : p ∈ kvs := (List.mem_filter.mp h).1
end
end L2
/-! ## dicts walked; sum, split, str -/
namespace Ow
open PySem PySem.Spec PyProof.Rows L2
section
variable {X : Cx} {pins : List (Addr × Obj)} {σ : L2.St} {H : Hp} {s : Shared}
/-- a dict whose object is held fast while it is walked -/
theorem _root_.L2.Inv.freeze {a : Addr} {o : Obj} {kvs : List (Key × V)} (I : Inv X pins σ H s) (e : H a = some (.dK kvs)) (g : s.heap.get? a = some o) : Inv X pins σ (upd H a (.frz o (.dK kvs))) s := by
  have ok := I.hok a _ e
  exact I.write (x := a) (e := a) (o := .frz o (.dK kvs)) (h' := s.heap) (t' := s.toks) (by rw [e]; exact True.intro) (.inl rfl) (fun b u _ q => q) ⟨_, g⟩ ⟨g, ok⟩
theorem _root_.L2.Inv.thaw {a : Addr} {o : Obj} {kvs : List (Key × V)} (I : Inv X pins σ H s) (e : H a = some (.frz o (.dK kvs))) (h0 : ∀ o u, X.H₀ a ≠ some (.frz o u)) : Inv X pins σ (upd H a (.dK kvs)) s := by
  have up : ∀ b u, H b = some u → (∀ o u', u ≠ .frz o u') → upd H a (.dK kvs) b = some u := fun b u q hn => by
    rw [upd_ne (fun z => by rw [z, e] at q; cases q; exact hn _ _ rfl)]; exact q
  have upn : ∀ b, H b = none → upd H a (.dK kvs) b = none := fun b q => by
    rw [upd_ne (fun z => by rw [z, e] at q; cases q)]; exact q
  refine ⟨I.ok, I.os, I.bare, ⟨I.base.keep, I.base.slot, fun b o' q n hx => upn b (I.base.free b o' q n hx), I.base.there, fun b xs q => up b _ (I.base.tups b xs q) (fun _ _ z => nomatch z), fun b o' u q => ?_, fun b ps q => ?_⟩, I.loc, I.cell, upn _ I.free, fun x c q => upn c (I.freeC x c q), fun p hp => ?_, fun b ob q => ?_, I.len⟩
  · have := I.base.frzs b o' u q
    rw [upd_ne (fun z => h0 _ _ (z ▸ q))]; exact this
  · obtain ⟨m, z⟩ := I.base.tbls b ps q
    exact ⟨m, up b _ z (fun _ _ z => nomatch z)⟩
  · obtain ⟨g, n, r⟩ := I.pin p hp
    exact ⟨g, upn _ n, r⟩
  · by_cases hb : b = a
    · subst hb
      rw [upd_same] at q
      cases q
      exact (I.hok b _ e).2
    · rw [upd_ne hb] at q
      refine (I.hok b ob q).stay (fun c v hc z => z) (fun c z => ?_) fun c xs z => ?_
      · exact up c _ z (fun _ _ z => nomatch z)
      · exact up c _ z (fun _ _ z => nomatch z)
end
/-- the keys of the dict at a -/
def Itk (a : Addr) (o : Obj) (kvs : List (Key × V)) : It :=
  ⟨fun i H => H a = some (.frz o (.dK kvs)) ∧ i < kvs.length, fun i H x H' => H' = H ∧ ∃ kv, kvs[i]? = some kv ∧ x = kV kv.1, fun i H => H a = some (.frz o (.dK kvs)) ∧ i = kvs.length⟩
theorem key_rel {P : Program} {w : World} {k : Key} {u : Value} (h : (mixKind P w).is k u = true) : RelV (kV k) u := by
  rcases keyIs_shape h with ⟨i, t, rfl, rfl⟩ | ⟨x, t, rfl, rfl⟩
  · exact ⟨t, rfl⟩
  · exact ⟨t, rfl⟩
theorem KV.at' {kvs : List (Key × V)} {vs : List (Key × Value)} (r : KV kvs vs) {i : Nat} (h : i < kvs.length) : ∃ kv v, kvs[i]? = some kv ∧ vs[i]? = some (kv.1, v) := by
  have e := r.keys
  have hl := r.length
  refine ⟨kvs[i], (vs[i]'(by omega)).2, List.getElem?_eq_getElem h, ?_⟩
  have z := congrArg (fun l => l[i]?) e
  simp only [List.getElem?_map, List.getElem?_eq_getElem h, List.getElem?_eq_getElem (show i < vs.length by omega), Option.map_some] at z
  rw [List.getElem?_eq_getElem (show i < vs.length by omega), Option.some.inj z]
theorem turn_dict {P : Program} {w : World} {K : PySem.W.Frag} {tg : Expr} (a it : Addr) (o : Obj) (kvs : List (Key × V)) (es : Array DictEntry) (ep : Nat) (ho : o.data = .dict es ep) : Turn P w K tg (Itk a o kvs) [it] it (fun i h => h.IsKeyIter it a i kvs.length ep) where
  mem := by simp
  obj := fun i h st b hb => by
    have e : b = it := by simpa using hb
    subst e
    obtain ⟨o, e, c, d⟩ := st
    exact ⟨o, e, fun v z => by rw [d] at z; cases z⟩
  keep := fun i h h' st k => st.at fun o e => k it (by simp) o e
  item := by
    intro X hP hw hK hc i pins s σ H E I hf st hg
    subst hP hw hK
    obtain ⟨hq, hi⟩ := hg
    obtain ⟨g, hl, hs, vs, kv, o2, es2, ep2, g2, ed, dt, ko, pr, nd⟩ := I.hok a _ hq
    rw [g] at g2
    cases g2
    rw [ho] at dt
    cases dt
    obtain ⟨kx, vx, hk, hv⟩ := KV.at' kv hi
    obtain ⟨f0, f1, f2, f3, f4, f5⟩ := hf it (by simp)
    have hln := kv.length
    refine wpAny_pyNext_dict_item (knd := mixKind X.prog X.w) (by rw [← hln]; exact st) ⟨o, es, g, ed, ho, ko, pr, nd⟩ hv fun key h' ke st' sb => ?_
    have I1 : Inv X pins σ H { s with heap := h' } := I.turned (t' := s.toks) (fun b o hb e => (sb.2 b hb).trans e) f0 f1 f3 f4 f5
    obtain ⟨o3, e, c, d⟩ := id st'
    exact ⟨key, rfl, go_of (s := { s with heap := h' }) e c d (by decide) ⟨kV kx.1, H, I1, key_rel ke, ⟨rfl, kx, hk, rfl⟩, by rw [hln]; exact st', fun b hb => (hf b hb).1⟩⟩
  done := by
    intro X hP hw hK hc i pins s σ H E I hf st hg
    subst hP hw hK
    obtain ⟨hq, hi⟩ := hg
    obtain ⟨g, hl, hs, vs, kv, o2, es2, ep2, g2, ed, dt, ko, pr, nd⟩ := I.hok a _ hq
    rw [g] at g2
    cases g2
    rw [ho] at dt
    cases dt
    obtain ⟨f0, f1, f2, f3, f4, f5⟩ := hf it (by simp)
    have hln := kv.length
    exact wpAny_pyNext_dict_end (knd := mixKind X.prog X.w) (I.ok.hd hc) (by rw [← hln]; exact st) ⟨o, es, g, ed, ho, ko, pr, nd⟩ (List.getElem?_eq_none (by omega)) fun h' eb => ⟨rfl, I.turned (t' := s.toks) (fun b o hb e => eb b o hb e) f0 f1 f3 f4 f5⟩
  self := fun _ _ _ _ _ st h => wpAny_pyIter_keyiter st h
section
variable {X : Cx} {tg : Expr}
def iDict (tl : TE) : TI := fun σ H R => tl σ H fun x H1 => ∃ a kvs, x = .ref a ∧ H1 a = some (.dK kvs) ∧ ∀ o, R (Itk a o kvs) (upd H1 a (.frz o (.dK kvs)))
theorem pi_dict {l : Expr} {tl : TE} (hl : PE X l tl) : PI X tg l (iDict tl) := by
  intro pins s σ H R I h
  refine thn (hl pins s σ H _ I h) fun v s1 ⟨x, H1, I1, r1, q1⟩ => ?_
  obtain ⟨a, kvs, e, hq, q⟩ := q1
  subst e
  cases r1
  obtain ⟨hz, hs, vs, kv, o, es, ep, g, ed, dt, ko, pr, nd⟩ := I1.hok a _ hq
  have hln := kv.length
  refine wpAny_pyIter_dict (knd := mixKind X.prog X.w) hs ⟨o, es, g, ed, dt, ko, pr, nd⟩ ?_
  have I2 := I1.freeze hq g
  refine ⟨s1.heap.objs.size, [s1.heap.objs.size], _, _, _, rfl, I2.kept (t' := s1.toks) fun b o e => Heap.get?_push_of_some _ e, turn_dict a _ o kvs es ep dt, ⟨_, Heap.get?_push_size _ rfl, rfl, by rw [hln]; rfl⟩, fun b hb => ?_, q o⟩
  have e : b = s1.heap.objs.size := by simpa using hb
  subst e
  exact I2.fpOk (Nat.le_refl _) (I2.hok.fresh (Nat.le_refl _))
/-- behind a walk the dict may change again -/
def tThaw (H₀ : Hp) (te : TE) : TE := fun σ H Q => te σ H fun v H1 => ∃ a o kvs, H1 a = some (.frz o (.dK kvs)) ∧ (∀ o u, H₀ a ≠ some (.frz o u)) ∧ Q v (upd H1 a (.dK kvs))
theorem pe_thaw {e : Expr} {te : TE} (he : PE X e te) : PE X e (tThaw X.H₀ te) := by
  intro pins s σ H Q I h
  exact thn (he pins s σ H _ I h) fun v s1 ⟨x, H1, I1, r1, a, o, kvs, hq, h0, q⟩ => ⟨x, _, I1.thaw hq h0, r1, q⟩
def sThaw (H₀ : Hp) (ts : TS) : TS := fun D σ H => ts { D with nx := fun σ' H1 => ∃ a o kvs, H1 a = some (.frz o (.dK kvs)) ∧ (∀ o u, H₀ a ≠ some (.frz o u)) ∧ D.nx σ' (upd H1 a (.dK kvs)) } σ H
/-- a comprehension over a dict's keys -/
theorem comp_dict {a : Addr} {o : Obj} {kvs : List (Key × V)} {D : Addr} {te' : TE} {tl : L2.St} {G : Hp → Prop} {H1 : Hp} (Pv : Nat → Hp → Prop) (h0 : Pv 0 (upd H1 D (.lst [])))
    (hf : ∀ i H, i ≤ kvs.length → Pv i H → H a = some (.frz o (.dK kvs)))
    (hs : ∀ (i : Nat) (kv : Key × V) H, i < kvs.length → kvs[i]? = some kv → Pv i H → te' (some (kV kv.1) :: tl) H fun y H2 => ∃ ys, H2 D = some (.lst ys) ∧ ys.length < sizeLine ∧ ∃ m', m' < kvs.length - i ∧ m' = kvs.length - (i + 1) ∧ i + 1 ≤ kvs.length ∧ Pv (i + 1) (upd H2 D (.lst (ys ++ [y]))))
    (hd : ∀ H, Pv kvs.length H → G H) :
    ∃ W : Nat → Nat → Hp → Prop, (∃ m, W 0 m (upd H1 D (.lst []))) ∧ ∀ i m H, W i m H →
      ((Itk a o kvs).stop i H ∧ G H) ∨ ((Itk a o kvs).go i H ∧ ∀ x H', (Itk a o kvs).yld i H x H' → te' (some x :: tl) H' fun y H2 => ∃ ys, H2 D = some (.lst ys) ∧ ys.length < sizeLine ∧ ∃ m', m' < m ∧ W (i + 1) m' (upd H2 D (.lst (ys ++ [y])))) := by
  refine ⟨fun i m H => m = kvs.length - i ∧ i ≤ kvs.length ∧ Pv i H, ⟨kvs.length, by simp, Nat.zero_le _, h0⟩, ?_⟩
  rintro i m H ⟨rfl, hi, p⟩
  by_cases hlt : i < kvs.length
  · refine .inr ⟨⟨hf i H hi p, hlt⟩, ?_⟩
    rintro x H' ⟨rfl, kv, hk, rfl⟩
    exact hs i kv _ hlt hk p
  · have e : i = kvs.length := by omega
    subst e
    exact .inl ⟨⟨hf _ H hi p, rfl⟩, hd H p⟩
end
/-- sum of a list of ints -/
theorem call_sum {X : Cx} (hc : X.calm = true) : CallR X (.builtin "sum") (fun xs H Q => ∃ (a : Addr) (ns : List Int), xs = [.ref a] ∧ SqL X.K H a (ns.map V.int) ∧ Q (.int ns.sum) H) := by
  intro pins s σ H xs us Q I r h
  obtain ⟨a, ns, rfl, hq, q⟩ := h
  obtain ⟨u, rfl, rx⟩ := vals1 r
  cases rx
  obtain ⟨its, rv, pl, hz⟩ := I.list hq
  have hl := rv.length
  rw [List.length_map] at hl
  refine call_sum_walkG (wpAny_pyIter_list pl.isList ?_)
  have hne : a ≠ s.heap.objs.size := by
    obtain ⟨o, ho, _⟩ := pl.isList
    exact Nat.ne_of_lt (Heap.lt_size ho)
  refine ⟨s.heap.objs.size, _, _, _, _, _, fun j => ns.getD j 0, rfl, Walks.list (A := X.A.in1) (I.ok.hd hc) s.heap.objs.size a hne its.toArray, ⟨⟨_, Heap.get?_push_size _ rfl, rfl, rfl⟩, Heap.IsList.push pl.isList _⟩, ?_, ?_, ?_⟩
  · intro b hb
    show b < (s.heap.push _).objs.size
    rw [Heap.size_push]
    rcases List.mem_cons.mp hb with rfl | hb
    · exact Nat.lt_succ_self _
    · rw [List.mem_singleton.mp hb]
      obtain ⟨o, ho, _⟩ := pl.isList
      exact Nat.lt_succ_of_lt (Heap.lt_size ho)
  · intro i v hP
    have hP' : its[i]? = some v := by simpa using hP
    have hi : i < its.length := (List.getElem?_eq_some_iff.mp hP').1
    have hb : (ns.map V.int)[i]? = some (V.int (ns.getD i 0)) := by
      rw [List.getElem?_map, List.getD_eq_getElem?_getD, List.getElem?_eq_getElem (by omega)]
      rfl
    obtain ⟨u', hu', t, ru'⟩ := rv.get hb
    rw [hP'] at hu'
    cases hu'
    exact ⟨t, ru'⟩
  · intro h' tk t' hk
    have e0 : ∀ (l : List Int) (m : Nat), m ≤ l.length → preSum (fun j => l.getD j 0) m = (l.take m).sum := by
      intro l m
      induction m with
      | zero => intro _; simp [preSum]
      | succ m ih =>
        intro hm
        rw [List.take_add_one, List.sum_append, ← ih (by omega), List.getElem?_eq_getElem (by omega)]
        simp [preSum, List.getD_eq_getElem?_getD, List.getElem?_eq_getElem (show m < l.length by omega)]
    have e1 : preSum (fun j => ns.getD j 0) its.toArray.size = ns.sum := by
      rw [List.size_toArray, ← hl, e0 ns ns.length (Nat.le_refl _), List.take_length]
    rw [e1]
    exact ⟨.int _, H, I.kept (t' := tk) fun b o e => hk b o (fun z => by
      have z' : b = s.heap.objs.size := by simpa using z
      exact absurd (Heap.lt_size e) (by rw [z']; exact Nat.lt_irrefl _)) (Heap.get?_push_of_some _ e), ⟨t', rfl⟩, q⟩
theorem vals_from : ∀ (ys : List Str) (k : Nat), Vals (ys.map V.str) (strsFrom k ys)
  | [], _ => .nil
  | y :: r, k => .cons ⟨_, rfl⟩ (vals_from r (k + 1))
/-- 'a b c'.split() -/
theorem mt_split {X : Cx} : MtM X "str.split" (fun x vs H Q => ∃ z : Str, x = .str z ∧ vs = [] ∧ z.length ≤ sizeLine ∧ (Builtin.Str.spaceWords z (z.length + 1)).length ≤ sizeLine ∧ (Builtin.Str.spaceWords z (z.length + 1) == [(0, z.length)]) = false ∧ (wordsOf z).length ≤ sizeLine ∧
    ∀ l, H l = none → Q (.ref l) (upd H l (.lst ((wordsOf z).map V.str)))) := by
  intro pins s σ H x vs v us Q I rx rv h
  obtain ⟨z, rfl, rfl, h1, h2, h3, h4, q⟩ := h
  obtain ⟨t, rfl⟩ := rx
  cases rv
  refine call_meets F.slot_str_split (typeIs_str s z t) F.entry_str_split (F.args_str_split_1 _) (meets_str_split_space z t h1 h2) ?_
  rw [h3, if_neg (by decide)]
  exact ⟨.ref s.heap.objs.size, _, I.laid (t' := _) (fun b o e => Heap.get?_push_of_some _ e) (Nat.le_refl _) (show ObjOk X.prog X.w _ _ _ (.lst _) from ⟨by rw [List.length_map]; exact h4, _, 0, vals_from _ _, Heap.get?_push_size _ rfl⟩), rfl, q _ (I.hok.fresh (Nat.le_refl _))⟩
theorem flat_rel {k : Key} {v : Value} (h : Heap) (f : PyProof.V.Flat v (kD k)) : RelV (kV k) v := by
  have z := f h
  cases k with
  | inl i =>
    have z' : Reads h v (.int i) [] := z
    cases z' with
    | int i t => exact ⟨t, rfl⟩
  | inr x =>
    have z' : Reads h v (.str x) [] := z
    cases z' with
    | str x t => exact ⟨t, rfl⟩
theorem keysD (h : Heap) : ∀ {kvs : List (Key × V)} {D : List (PyData × PyData)}, FDs kvs D → ∀ (C : List Value → Prop), (∀ vs, Vals (kvs.map fun kv => kV kv.1) vs → C vs) → PySem.W.KdlKeysD D C := by
  intro kvs D f
  induction f with
  | nil => intro C q; exact q [] .nil
  | cons _ _ ih =>
    intro C q
    exact fun v hv => ih (fun vs => C (v :: vs)) fun vs hvs => q (v :: vs) (.cons (flat_rel h hv) hvs)
theorem FDs.flat {kvs : List (Key × V)} {D : List (PyData × PyData)} (f : FDs kvs D) : ∀ {vs : List (Key × Value)}, KV kvs vs → PyProof.V.FlatPairs kD vs D := by
  induction f with
  | nil => intro vs r; cases r; exact .nil
  | cons a _ ih =>
    intro vs r
    cases r with
    | cons h1 h2 =>
      rename_i y ys
      obtain ⟨k', u⟩ := y
      obtain ⟨e, ru⟩ := h1
      cases (show _ = k' from e)
      exact .cons (fun h => a.reads ru) (ih h2)
theorem FDs.len {kvs : List (Key × V)} {D : List (PyData × PyData)} (f : FDs kvs D) : D.length = kvs.length := by
  induction f with
  | nil => rfl
  | cons _ _ ih => rw [List.length_cons, List.length_cons, ih]
/-- list(d) -/
theorem call_listD {X : Cx} (hc : X.calm = true) : CallR X (.type "list") (fun xs H Q => ∃ (a : Addr) (kvs : List (Key × V)) (D : List (PyData × PyData)), xs = [.ref a] ∧ H a = some (.dK kvs) ∧ FDs kvs D ∧ kvs.length ≤ 1000 ∧ ∀ l, H l = none → Q (.ref l) (upd H l (.lst (kvs.map fun kv => kV kv.1)))) := by
  intro pins s σ H xs us Q I r h
  obtain ⟨a, kvs, D, rfl, ha, fd, hl, q⟩ := h
  obtain ⟨u, rfl, rx⟩ := vals1 r
  cases rx
  obtain ⟨hz, hs, vs, kv, o, es, ep, g, ed, dt, ko, pr, nd⟩ := I.hok a _ ha
  obtain ⟨m, hn, _⟩ := id I.loc
  have aL : a ≠ X.env.locals := fun z => by
    have := I.free
    rw [← z, ha] at this
    cases this
  obtain ⟨hh, gg, dr, tk, os⟩ := s
  refine PySem.W.kdl_list_keysD (knd := mixKind X.prog X.w) (enc := kD) (L := X.env.locals) (D := D) (fun k v e h => keyReads (X := X) k v e) (I.ok.hd hc) (Att.fr_all hn) (Att.news_ledger aL g) ⟨hs, vs, ⟨o, es, ep, g, ed, dt, ko, pr, nd⟩, fd.flat kv⟩ (by rw [fd.len]; omega) fun B c h' tk' => keysD hh fd _ fun ws hv fr nw lt => ?_
  have kept : ∀ b ob, b ≠ X.env.locals → hh.get? b = some ob → h'.get? b = some ob := fun b ob hb e => by
    by_cases hba : b = a
    · subst hba
      rw [g] at e
      cases e
      exact (nw (b, o) (List.mem_cons_of_mem _ (List.mem_cons_self ..))).1
    · exact (nw (b, ob) (List.mem_cons_of_mem _ (List.mem_cons_of_mem _ (Att.mem_ledger.mpr ⟨hb, hba, e⟩)))).1
  have hB := nw _ (List.mem_cons_self ..)
  have newB : hh.get? B = none := by
    cases e : hh.get? B with
    | none => rfl
    | some ob =>
      exfalso
      by_cases hba : B = a
      · exact Nat.lt_irrefl _ (hba ▸ lt (a, o) (List.mem_cons_self ..))
      · exact Nat.lt_irrefl _ (lt (B, ob) (List.mem_cons_of_mem _ (Att.mem_ledger.mpr ⟨hB.2.1, hba, e⟩)))
  have HB : H B = none := by
    cases e : H B with
    | none => rfl
    | some u =>
      obtain ⟨ob, z⟩ := obj_there (I.hok B u e)
      rw [show hh.get? B = some ob from z] at newB
      cases newB
  have ut : ∀ b u, H b = some u → upd H B (.lst (kvs.map fun kv => kV kv.1)) b = some u := fun b u e => by rw [upd_ne (ne_of_none e HB)]; exact e
  have nB : ∀ b ob, hh.get? b = some ob → b ≠ B := fun b ob e z => by rw [z, newB] at e; cases e
  refine ⟨.ref B, upd H B (.lst (kvs.map fun kv => kV kv.1)), I.step (h' := h') (g' := gg) (t' := tk') (d' := dr) (ch := []) (fun b z => nomatch z) (fun b ob hb _ _ e _ => kept b ob hb e) (fun b ob hb _ _ e _ => ⟨ob.slots, kept b ob hb e⟩) (fun b ob _ e n => by rw [upd_ne (nB b ob e)]; exact n) (fun b ob _ e => ?_) (fun b xs e => ut b _ e) (fun b o' u e => ut b _ e) (fun b ps e => ⟨#[], by rw [Array.append_empty]; exact ut b _ e⟩) (fun m' hm => ?_) (fun b u e => ?_) I.bare, rfl, q B HB⟩
  · by_cases hb : b = X.env.locals
    · obtain ⟨o', _, _, z, _⟩ := fr.ns
      exact ⟨o', hb ▸ z⟩
    · exact ⟨ob, kept b ob hb e⟩
  · have : m' = m := by
      obtain ⟨o1, es1, ep1, g1, d1, _, f1⟩ := hm
      obtain ⟨o2, es2, ep2, g2, d2, _, f2⟩ := hn
      rw [show hh.get? X.env.locals = some o2 from g2] at g1
      cases g1
      rw [d2] at d1
      cases d1
      exact funext fun x => (f1 x).symm.trans (f2 x)
    rw [this]
    exact fr.ns
  · by_cases hb : b = B
    · subst hb
      rw [upd_same] at e
      cases e
      exact ⟨by rw [List.length_map]; exact Nat.le_trans hl (by decide), ws, c, hv, hB.1⟩
    · rw [upd_ne hb] at e
      refine (I.hok b u e).stay (fun x v hx z => kept x v (fun w => ?_) z) (fun x z => ut x _ z) fun x ys z => ut x _ z
      have fr0 := I.free
      rcases hx with rfl | hx
      · rw [w, fr0] at e; cases e
      · rw [w, fr0] at hx; cases hx
/-! ### a dict of the module: texts to things of the module -/
structure GD (K : PySem.W.Frag) (P : Program) (w : World) (a : Addr) (vs : List (Key × Value)) : Prop where
  ex : ∃ o es ep, K.lookup a = some o ∧ o.ExactDict ∧ o.data = .dict es ep ∧ PySem.KeysOf (mixKind P w) es ∧ Pairs (mixKind P w) es.toList vs ∧ (vs.map (·.1)).Nodup
def gEnt (p : Params) (x : Str × Tok × Addr) : DictEntry := ⟨PyData.keyHash p x.1, .str x.1 x.2.1, .ref x.2.2⟩
def gVal (x : Str × Tok × Addr) : Key × Value := (.inr x.1, .ref x.2.2)
theorem gd_mk {K : PySem.W.Frag} {P : Program} {w : World} {a : Addr} {ents : List (Str × Tok × Addr)} {ep : Nat} {sl : Array (Option Value)} (h : K.lookup a = some ⟨.type "dict", none, .dict (ents.map (gEnt w.params)).toArray ep, sl⟩) (nd : (ents.map (·.1)).Nodup) (hx : (⟨.type "dict", none, .dict (ents.map (gEnt w.params)).toArray ep, sl⟩ : Obj).ExactDict) :
    GD K P w a (ents.map gVal) := by
  refine ⟨_, _, _, h, hx, rfl, fun e he => ?_, ?_, ?_⟩
  · obtain ⟨x, _, rfl⟩ := List.mem_map.mp (List.mem_toArray.mp he)
    refine ⟨.inr x.1, ?_, ?_⟩
    · show Value.isStrOf x.1 (.str x.1 x.2.1) = true
      exact beq_self_eq_true _
    · rfl
  · show Pairs _ (ents.map (gEnt w.params)) _
    clear h nd hx
    induction ents with
    | nil => exact .nil
    | cons x r ih =>
      refine .cons ?_ rfl ih
      show Value.isStrOf x.1 (.str x.1 x.2.1) = true
      exact beq_self_eq_true _
  · have e : (ents.map gVal).map (·.1) = (ents.map (·.1)).map (Sum.inr (α := Int)) := by
      rw [List.map_map, List.map_map]
      rfl
    rw [e]
    unfold List.Nodup
    rw [List.pairwise_map]
    exact List.Pairwise.imp (fun h z => h (Sum.inr.inj z)) nd
def tGD (a : Addr) (vs : List (Key × Value)) (tO ti : TE) : TE := fun σ H Q => tO σ H fun x H1 => ti σ H1 fun y H2 => ∃ k b, x = .ref a ∧ y = .str k ∧ valueAt vs (.inr k) = some (.ref b) ∧ Q (.ref b) H2
theorem pe_gdget {X : Cx} {a : Addr} {vs : List (Key × Value)} {o i : Expr} {tO ti : TE} {pos : Pos} (g : GD X.K X.prog X.w a vs) (ho : PE X o tO) (hi : PE X i ti) (hs : NoSl i) : PE X (.Subscript o i pos) (tGD a vs tO ti) := by
  intro pins s σ H Q I h
  refine subD_of PySem.F.slot_dict_getitem.lookup hs (thn (ho pins s σ H _ I h) fun u s1 ⟨x, H1, I1, rx, q1⟩ => thn (hi pins s1 σ H1 _ I1 q1) fun iv s2 ⟨y, H2, I2, ry, k, b, ex, ey, hv, q2⟩ => ?_)
  subst ex ey
  obtain rfl : u = Value.ref a := rx
  obtain ⟨oo, es, ep, lk, xd, dt, ko, pr, nd⟩ := g.ex
  have dd : s2.heap.DictOf (mixKind X.prog X.w) a vs := ⟨oo, es, ep, I2.kIn _ _ lk, xd, dt, ko, pr, nd⟩
  exact ⟨dd.typeIs, wpAny_getItem_of (kV_is (k := .inr k) ry) dd.mapOf hv ⟨.ref b, H2, I2.tok _, rfl, q2⟩⟩
/-! ### sealed displays of dicts -/
section
variable {X : Cx}
theorem pps_nilS {pos : Pos} : Sl (PPs X pos [] [] []) := ⟨pps_nil⟩
theorem pps_consS {pos : Pos} {k v : Expr} {ks : List (Option Expr)} {vs : List Expr} {tk tv : TE} {trs : List (TE × TE)} (hk : PE X k tk) (hv : Sl (PE X v tv)) (hr : Sl (PPs X pos ks vs trs)) : Sl (PPs X pos (some k :: ks) (v :: vs) ((tk, tv) :: trs)) := ⟨pps_cons hk hv.out hr.out⟩
theorem pe_dispS {pos : Pos} {keys : List (Option Expr)} {values : List Expr} {trs : List (TE × TE)} (h : Sl (PPs X pos keys values trs)) (hall : keys.all (·.isSome) = true) (hl : keys.length = values.length) (h0 : keys ≠ []) (h15 : keys.length ≤ 15) : Sl (PE X (.Dict keys values pos) (tDisp trs)) := ⟨pe_disp h.out hall hl h0 h15⟩
theorem pe_dgetS {o i : Expr} {td ty : TE} {pos : Pos} (hu : X.A.units + 1 < cLine) (ho : Sl (PE X o td)) (hi : PE X i ty) (hs : NoSl i) : Sl (PE X (.Subscript o i pos) (tDGet td ty)) := ⟨pe_dget hu ho.out hi hs⟩
end
/-- != of tuples, deep -/
theorem op_neTD {X : Cx} {d : Nat} (hu : X.A.units + d + 1 < cLine) : OpR X (compareOp .NotEq) (rEqTD X.K d true) := by
  intro pins s σ H x y v u Q I rx ry h
  obtain ⟨p, q, xs, ys, e, rfl, rfl, hp, hq, he, k⟩ := h
  cases rx
  cases ry
  obtain ⟨its, r, pl, _⟩ := I.tuple hp
  obtain ⟨its2, r2, pl2, _⟩ := I.tuple hq
  have hl := r.length
  have hl2 := r2.length
  refine SeqAt.RcNeAt.tuples (e := e) pl pl2 (by omega) (fun j h1 h2 => ?_) X.prog X.w X.xe _ ⟨.bl _, H, I, rfl, ?_⟩
  · have h1' : j < its.length := by simpa using h1
    have h2' : j < its2.length := by simpa using h2
    have z := (he j (by omega) (by omega)).at I (vals_at r h1') (vals_at r2 h2') (A := X.A.in1) (by show X.A.units + 1 + d < _; omega)
    simpa using z
  · simp only [List.size_toArray, ← hl, ← hl2]
    exact k
/-- out of the seal -/
theorem slO {p : Prop} (h : Sl p) : p := h.out
end Ow

namespace Ow
open PySem PySem.Spec PyProof.Rows L2
open Builtin.Int (intBits)
/-! ### the text by places -/
def top (i : Nat) : Stmt := PySem.Challenge.pw_overwise_k36_signed_candidates.main.body.getD i (.Pass ⟨0, 0, 0, 0⟩)
abbrev s_NoPrices___init__ : Stmt := inClass (top 6) 0
theorem sc_NoPrices___init__ : FnScope ["self", "found"] ["self", "found"] (defScope s_NoPrices___init__) := ⟨rfl, rfl, rfl, by decide +kernel, rfl, by decide +kernel, by decide +kernel⟩
abbrev s_is_whole : Stmt := top 8
theorem sc_is_whole : FnScope ["thing"] ["thing"] (defScope s_is_whole) := ⟨rfl, rfl, rfl, by decide +kernel, rfl, by decide +kernel, by decide +kernel⟩
abbrev s_is_between : Stmt := top 9
theorem sc_is_between : FnScope ["thing", "low", "high"] ["thing", "low", "high"] (defScope s_is_between) := ⟨rfl, rfl, rfl, by decide +kernel, rfl, by decide +kernel, by decide +kernel⟩
abbrev s_need_width : Stmt := top 10
theorem sc_need_width : FnScope ["width"] ["width"] (defScope s_need_width) := ⟨rfl, rfl, rfl, by decide +kernel, rfl, by decide +kernel, by decide +kernel⟩
abbrev s_need_divisor : Stmt := top 12
theorem sc_need_divisor : FnScope ["width", "d"] ["width", "d"] (defScope s_need_divisor) := ⟨rfl, rfl, rfl, by decide +kernel, rfl, by decide +kernel, by decide +kernel⟩
abbrev s_twos_in : Stmt := top 13
theorem sc_twos_in : FnScope ["d", "twos"] ["d"] (defScope s_twos_in) := ⟨rfl, rfl, rfl, by decide +kernel, rfl, by decide +kernel, by decide +kernel⟩
abbrev s_Shifted___init__ : Stmt := inClass (top 15) 0
theorem sc_Shifted___init__ : FnScope ["self", "shift"] ["self", "shift"] (defScope s_Shifted___init__) := ⟨rfl, rfl, rfl, by decide +kernel, rfl, by decide +kernel, by decide +kernel⟩
abbrev s_Shifted_word : Stmt := inClass (top 15) 1
theorem sc_Shifted_word : FnScope ["self"] ["self"] (defScope s_Shifted_word) := ⟨rfl, rfl, rfl, by decide +kernel, rfl, by decide +kernel, by decide +kernel⟩
abbrev s_Shifted_told : Stmt := inClass (top 15) 2
theorem sc_Shifted_told : FnScope ["self"] ["self"] (defScope s_Shifted_told) := ⟨rfl, rfl, rfl, by decide +kernel, rfl, by decide +kernel, by decide +kernel⟩
abbrev s_Scaled___init__ : Stmt := inClass (top 16) 0
theorem sc_Scaled___init__ : FnScope ["self", "factor", "shift"] ["self", "factor", "shift"] (defScope s_Scaled___init__) := ⟨rfl, rfl, rfl, by decide +kernel, rfl, by decide +kernel, by decide +kernel⟩
abbrev s_Scaled_word : Stmt := inClass (top 16) 1
theorem sc_Scaled_word : FnScope ["self"] ["self"] (defScope s_Scaled_word) := ⟨rfl, rfl, rfl, by decide +kernel, rfl, by decide +kernel, by decide +kernel⟩
abbrev s_Scaled_told : Stmt := inClass (top 16) 2
theorem sc_Scaled_told : FnScope ["self"] ["self"] (defScope s_Scaled_told) := ⟨rfl, rfl, rfl, by decide +kernel, rfl, by decide +kernel, by decide +kernel⟩
abbrev s_Early___init__ : Stmt := inClass (top 17) 0
theorem sc_Early___init__ : FnScope ["self", "early", "factor", "shift"] ["self", "early", "factor", "shift"] (defScope s_Early___init__) := ⟨rfl, rfl, rfl, by decide +kernel, rfl, by decide +kernel, by decide +kernel⟩
abbrev s_Early_word : Stmt := inClass (top 17) 1
theorem sc_Early_word : FnScope ["self"] ["self"] (defScope s_Early_word) := ⟨rfl, rfl, rfl, by decide +kernel, rfl, by decide +kernel, by decide +kernel⟩
abbrev s_Early_told : Stmt := inClass (top 17) 2
theorem sc_Early_told : FnScope ["self"] ["self"] (defScope s_Early_told) := ⟨rfl, rfl, rfl, by decide +kernel, rfl, by decide +kernel, by decide +kernel⟩
abbrev s_More___init__ : Stmt := inClass (top 18) 0
theorem sc_More___init__ : FnScope ["self", "factor", "shift"] ["self", "factor", "shift"] (defScope s_More___init__) := ⟨rfl, rfl, rfl, by decide +kernel, rfl, by decide +kernel, by decide +kernel⟩
abbrev s_More_word : Stmt := inClass (top 18) 1
theorem sc_More_word : FnScope ["self"] ["self"] (defScope s_More_word) := ⟨rfl, rfl, rfl, by decide +kernel, rfl, by decide +kernel, by decide +kernel⟩
abbrev s_More_told : Stmt := inClass (top 18) 2
theorem sc_More_told : FnScope ["self"] ["self"] (defScope s_More_told) := ⟨rfl, rfl, rfl, by decide +kernel, rfl, by decide +kernel, by decide +kernel⟩
abbrev s_Wide___init__ : Stmt := inClass (top 19) 0
theorem sc_Wide___init__ : FnScope ["self", "factor", "shift"] ["self", "factor", "shift"] (defScope s_Wide___init__) := ⟨rfl, rfl, rfl, by decide +kernel, rfl, by decide +kernel, by decide +kernel⟩
abbrev s_Wide_word : Stmt := inClass (top 19) 1
theorem sc_Wide_word : FnScope ["self"] ["self"] (defScope s_Wide_word) := ⟨rfl, rfl, rfl, by decide +kernel, rfl, by decide +kernel, by decide +kernel⟩
abbrev s_Wide_told : Stmt := inClass (top 19) 2
theorem sc_Wide_told : FnScope ["self"] ["self"] (defScope s_Wide_told) := ⟨rfl, rfl, rfl, by decide +kernel, rfl, by decide +kernel, by decide +kernel⟩
abbrev s_is_factor : Stmt := top 20
theorem sc_is_factor : FnScope ["thing"] ["thing"] (defScope s_is_factor) := ⟨rfl, rfl, rfl, by decide +kernel, rfl, by decide +kernel, by decide +kernel⟩
abbrev s_is_shift : Stmt := top 21
theorem sc_is_shift : FnScope ["thing"] ["thing"] (defScope s_is_shift) := ⟨rfl, rfl, rfl, by decide +kernel, rfl, by decide +kernel, by decide +kernel⟩
abbrev s_need_prices : Stmt := top 24
theorem sc_need_prices : FnScope ["prices", "table", "word", "price"] ["prices"] (defScope s_need_prices) := ⟨rfl, rfl, rfl, by decide +kernel, rfl, by decide +kernel, by decide +kernel⟩
abbrev s_ceiling : Stmt := top 27
theorem sc_ceiling : FnScope ["top", "bottom"] ["top", "bottom"] (defScope s_ceiling) := ⟨rfl, rfl, rfl, by decide +kernel, rfl, by decide +kernel, by decide +kernel⟩
abbrev s_candidates : Stmt := top 28
theorem sc_candidates : FnScope ["width", "d", "forms", "length"] ["width", "d"] (defScope s_candidates) := ⟨rfl, rfl, rfl, by decide +kernel, rfl, by decide +kernel, by decide +kernel⟩
abbrev s_scaled_candidates : Stmt := top 29
theorem sc_scaled_candidates : FnScope ["width", "d", "forms", "k", "factor"] ["width", "d"] (defScope s_scaled_candidates) := ⟨rfl, rfl, rfl, by decide +kernel, rfl, by decide +kernel, by decide +kernel⟩
abbrev s_early_candidates : Stmt := top 30
theorem sc_early_candidates : FnScope ["width", "d", "twos"] ["width", "d"] (defScope s_early_candidates) := ⟨rfl, rfl, rfl, by decide +kernel, rfl, by decide +kernel, by decide +kernel⟩
abbrev s_more_candidates : Stmt := top 31
theorem sc_more_candidates : FnScope ["width", "d", "forms", "k", "factor"] ["width", "d"] (defScope s_more_candidates) := ⟨rfl, rfl, rfl, by decide +kernel, rfl, by decide +kernel, by decide +kernel⟩
abbrev s_form_words : Stmt := top 32
theorem sc_form_words : FnScope ["form", "words", "done"] ["form"] (defScope s_form_words) := ⟨rfl, rfl, rfl, by decide +kernel, rfl, by decide +kernel, by decide +kernel⟩
abbrev s_need_signed_divisor : Stmt := top 34
theorem sc_need_signed_divisor : FnScope ["width", "d"] ["width", "d"] (defScope s_need_signed_divisor) := ⟨rfl, rfl, rfl, by decide +kernel, rfl, by decide +kernel, by decide +kernel⟩
abbrev s_Cutting___init__ : Stmt := inClass (top 36) 0
theorem sc_Cutting___init__ : FnScope ["self", "factor", "shift"] ["self", "factor", "shift"] (defScope s_Cutting___init__) := ⟨rfl, rfl, rfl, by decide +kernel, rfl, by decide +kernel, by decide +kernel⟩
abbrev s_Cutting_word : Stmt := inClass (top 36) 1
theorem sc_Cutting_word : FnScope ["self"] ["self"] (defScope s_Cutting_word) := ⟨rfl, rfl, rfl, by decide +kernel, rfl, by decide +kernel, by decide +kernel⟩
abbrev s_Cutting_told : Stmt := inClass (top 36) 2
theorem sc_Cutting_told : FnScope ["self"] ["self"] (defScope s_Cutting_told) := ⟨rfl, rfl, rfl, by decide +kernel, rfl, by decide +kernel, by decide +kernel⟩
abbrev s_Cutting_row_list : Stmt := inClass (top 36) 5
theorem sc_Cutting_row_list : FnScope ["self", "words"] ["self"] (defScope s_Cutting_row_list) := ⟨rfl, rfl, rfl, by decide +kernel, rfl, by decide +kernel, by decide +kernel⟩
abbrev s_Turned___init__ : Stmt := inClass (top 37) 0
theorem sc_Turned___init__ : FnScope ["self", "form"] ["self", "form"] (defScope s_Turned___init__) := ⟨rfl, rfl, rfl, by decide +kernel, rfl, by decide +kernel, by decide +kernel⟩
abbrev s_Turned_word : Stmt := inClass (top 37) 1
theorem sc_Turned_word : FnScope ["self"] ["self"] (defScope s_Turned_word) := ⟨rfl, rfl, rfl, by decide +kernel, rfl, by decide +kernel, by decide +kernel⟩
abbrev s_Turned_told : Stmt := inClass (top 37) 2
theorem sc_Turned_told : FnScope ["self"] ["self"] (defScope s_Turned_told) := ⟨rfl, rfl, rfl, by decide +kernel, rfl, by decide +kernel, by decide +kernel⟩
abbrev s_Turned_row_list : Stmt := inClass (top 37) 5
theorem sc_Turned_row_list : FnScope ["self"] ["self"] (defScope s_Turned_row_list) := ⟨rfl, rfl, rfl, by decide +kernel, rfl, by decide +kernel, by decide +kernel⟩
abbrev s_signed_candidates : Stmt := top 38
theorem sc_signed_candidates : FnScope ["width", "d", "forms", "k", "factor"] ["width", "d"] (defScope s_signed_candidates) := ⟨rfl, rfl, rfl, by decide +kernel, rfl, by decide +kernel, by decide +kernel⟩
abbrev s_signed_words : Stmt := top 39
theorem sc_signed_words : FnScope ["form"] ["form"] (defScope s_signed_words) := ⟨rfl, rfl, rfl, by decide +kernel, rfl, by decide +kernel, by decide +kernel⟩
abbrev s_price_of_signed : Stmt := top 40
theorem sc_price_of_signed : FnScope ["form", "prices", "table"] ["form", "prices"] (defScope s_price_of_signed) := ⟨rfl, rfl, rfl, by decide +kernel, rfl, by decide +kernel, by decide +kernel⟩
abbrev s__law_start : Stmt := top 42
theorem sc__law_start : FnScope ["_law_script", "_law_k", "_law_cell", "_law_number"] ["_law_script", "_law_k"] (defScope s__law_start) := ⟨rfl, rfl, rfl, by decide +kernel, rfl, by decide +kernel, by decide +kernel⟩
abbrev s__law_draw : Stmt := top 43
theorem sc__law_draw : FnScope ["_law_state", "_law_size", "_law_number", "_law_one", "_law_two"] ["_law_state", "_law_size"] (defScope s__law_draw) := ⟨rfl, rfl, rfl, by decide +kernel, rfl, by decide +kernel, by decide +kernel⟩
abbrev s__law_twos : Stmt := top 44
theorem sc__law_twos : FnScope ["_law_d", "_law_twos_here"] ["_law_d"] (defScope s__law_twos) := ⟨rfl, rfl, rfl, by decide +kernel, rfl, by decide +kernel, by decide +kernel⟩
abbrev s__law_divisor : Stmt := top 45
theorem sc__law_divisor : FnScope ["_law_state", "_law_width", "_law_last", "_law_kind", "_law_half"] ["_law_state", "_law_width"] (defScope s__law_divisor) := ⟨rfl, rfl, rfl, by decide +kernel, rfl, by decide +kernel, by decide +kernel⟩
abbrev s__law_signed_divisor : Stmt := top 46
theorem sc__law_signed_divisor : FnScope ["_law_state", "_law_width", "_law_half", "_law_d"] ["_law_state", "_law_width"] (defScope s__law_signed_divisor) := ⟨rfl, rfl, rfl, by decide +kernel, rfl, by decide +kernel, by decide +kernel⟩
abbrev s__law_whole : Stmt := top 47
theorem sc__law_whole : FnScope ["_law_found"] ["_law_found"] (defScope s__law_whole) := ⟨rfl, rfl, rfl, by decide +kernel, rfl, by decide +kernel, by decide +kernel⟩
abbrev s__law_corners : Stmt := top 48
theorem sc__law_corners : FnScope ["_law_last", "_law_d", "_law_q", "_law_found", "_law_x"] ["_law_last", "_law_d"] (defScope s__law_corners) := ⟨rfl, rfl, rfl, by decide +kernel, rfl, by decide +kernel, by decide +kernel⟩
abbrev s__law_brought : Stmt := top 49
theorem sc__law_brought : FnScope ["_law_numbers_here", "_law_x", "_law_early", "_law_factor", "_law_addend", "_law_total"] ["_law_numbers_here", "_law_x"] (defScope s__law_brought) := ⟨rfl, rfl, rfl, by decide +kernel, rfl, by decide +kernel, by decide +kernel⟩
abbrev s__law_numbers : Stmt := top 51
theorem sc__law_numbers : FnScope ["_law_told", "_law_width"] ["_law_told", "_law_width"] (defScope s__law_numbers) := ⟨rfl, rfl, rfl, by decide +kernel, rfl, by decide +kernel, by decide +kernel⟩
abbrev s__law_cut : Stmt := top 52
theorem sc__law_cut : FnScope ["_law_x", "_law_d"] ["_law_x", "_law_d"] (defScope s__law_cut) := ⟨rfl, rfl, rfl, by decide +kernel, rfl, by decide +kernel, by decide +kernel⟩
abbrev s__law_signed_quotient : Stmt := top 53
theorem sc__law_signed_quotient : FnScope ["_law_told", "_law_width", "_law_x", "_law_found"] ["_law_told", "_law_width", "_law_x"] (defScope s__law_signed_quotient) := ⟨rfl, rfl, rfl, by decide +kernel, rfl, by decide +kernel, by decide +kernel⟩
abbrev s__law_signed_corners : Stmt := top 54
theorem sc__law_signed_corners : FnScope ["_law_up_here", "_law_down", "_law_d", "_law_found", "_law_p", "_law_x"] ["_law_up_here", "_law_down", "_law_d"] (defScope s__law_signed_corners) := ⟨rfl, rfl, rfl, by decide +kernel, rfl, by decide +kernel, by decide +kernel⟩
abbrev s__law_all_right : Stmt := top 55
theorem sc__law_all_right : FnScope ["_law_told", "_law_width", "_law_d", "_law_counts", "_law_x"] ["_law_told", "_law_width", "_law_d", "_law_counts"] (defScope s__law_all_right) := ⟨rfl, rfl, rfl, by decide +kernel, rfl, by decide +kernel, by decide +kernel⟩
abbrev s__law_up : Stmt := top 56
theorem sc__law_up : FnScope ["_law_top", "_law_bottom"] ["_law_top", "_law_bottom"] (defScope s__law_up) := ⟨rfl, rfl, rfl, by decide +kernel, rfl, by decide +kernel, by decide +kernel⟩
abbrev s__law_all : Stmt := top 57
theorem sc__law_all : FnScope ["_law_width", "_law_d", "_law_words", "_law_length", "_law_t", "_law_found", "_law_k", "_law_factor"] ["_law_width", "_law_d"] (defScope s__law_all) := ⟨rfl, rfl, rfl, by decide +kernel, rfl, by decide +kernel, by decide +kernel⟩
abbrev s__law_all_signed : Stmt := top 58
theorem sc__law_all_signed : FnScope ["_law_width", "_law_d", "_law_found", "_law_k", "_law_factor", "_law_told"] ["_law_width", "_law_d"] (defScope s__law_all_signed) := ⟨rfl, rfl, rfl, by decide +kernel, rfl, by decide +kernel, by decide +kernel⟩
abbrev s__law_made_of : Stmt := top 59
theorem sc__law_made_of : FnScope ["_law_told", "_law_shift", "_law_words"] ["_law_told"] (defScope s__law_made_of) := ⟨rfl, rfl, rfl, by decide +kernel, rfl, by decide +kernel, by decide +kernel⟩
abbrev s__law_made_signed : Stmt := top 60
theorem sc__law_made_signed : FnScope ["_law_told"] ["_law_told"] (defScope s__law_made_signed) := ⟨rfl, rfl, rfl, by decide +kernel, rfl, by decide +kernel, by decide +kernel⟩
abbrev s__law_row_words : Stmt := top 61
theorem sc__law_row_words : FnScope [] [] (defScope s__law_row_words) := ⟨rfl, rfl, rfl, by decide +kernel, rfl, by decide +kernel, by decide +kernel⟩
abbrev s__law_prices : Stmt := top 62
theorem sc__law_prices : FnScope ["_law_state", "_law_kind", "_law_words", "_law_most", "_law_table", "_law_word"] ["_law_state"] (defScope s__law_prices) := ⟨rfl, rfl, rfl, by decide +kernel, rfl, by decide +kernel, by decide +kernel⟩
abbrev s__law_no_prices : Stmt := top 63
theorem sc__law_no_prices : FnScope ["_law_state", "_law_table", "_law_word", "_law_kind"] ["_law_state"] (defScope s__law_no_prices) := ⟨rfl, rfl, rfl, by decide +kernel, rfl, by decide +kernel, by decide +kernel⟩
abbrev s__law_agree : Stmt := top 64
theorem sc__law_agree : FnScope ["_law_found", "_law_due", "_law_form", "_law_told"] ["_law_found", "_law_due"] (defScope s__law_agree) := ⟨rfl, rfl, rfl, by decide +kernel, rfl, by decide +kernel, by decide +kernel⟩
abbrev s__law_costs : Stmt := top 65
theorem sc__law_costs : FnScope ["_law_form", "_law_told", "_law_table", "_law_due", "_law_words", "_law_price", "_law_word", "_law_found"] ["_law_form", "_law_told", "_law_table"] (defScope s__law_costs) := ⟨rfl, rfl, rfl, by decide +kernel, rfl, by decide +kernel, by decide +kernel⟩
abbrev s__law_refuses : Stmt := top 66
theorem sc__law_refuses : FnScope ["_law_form", "_law_prices_here", "e"] ["_law_form", "_law_prices_here"] (defScope s__law_refuses) := ⟨rfl, rfl, rfl, by decide +kernel, rfl, by decide +kernel, by decide +kernel⟩
abbrev s__law_case : Stmt := top 67
theorem sc__law_case : FnScope ["_law_state", "_law_width", "_law_d", "_law_half", "_law_due", "_law_found", "_law_tables", "_law_k", "_law_points"] ["_law_state"] (defScope s__law_case) := ⟨rfl, rfl, rfl, by decide +kernel, rfl, by decide +kernel, by decide +kernel⟩
abbrev s_law : Stmt := top 68
theorem sc_law : FnScope ["_law_script", "_law_k"] ["_law_script"] (defScope s_law) := ⟨rfl, rfl, rfl, by decide +kernel, rfl, by decide +kernel, by decide +kernel⟩
structure Ad where
  Form : Addr
  Shifted : Addr
  Scaled : Addr
  Early : Addr
  More : Addr
  Wide : Addr
  Cutting : Addr
  Turned : Addr
  SignedForm : Addr
  NoPrices : Addr
  ROW_WORDS : Addr
  ROWS_AHEAD : Addr
structure Txt (K : PySem.W.Frag) (mg : Str → Option Value) (c : Ad) : Prop where
  n_isinstance : mg "isinstance" = none
  n_int : mg "int" = none
  n_bool : mg "bool" = none
  n_str : mg "str" = none
  n_list : mg "list" = none
  n_dict : mg "dict" = none
  n_len : mg "len" = none
  n_max : mg "max" = none
  n_min : mg "min" = none
  n_range : mg "range" = none
  n_sorted : mg "sorted" = none
  n_zip : mg "zip" = none
  n_repr : mg "repr" = none
  n_sum : mg "sum" = none
  n_abs : mg "abs" = none
  g_Form : mg "Form" = some (.ref c.Form)
  cl_Form : Cls K c.Form
  g_Shifted : mg "Shifted" = some (.ref c.Shifted)
  cl_Shifted : Cls K c.Shifted
  na_Shifted_shift : NoAttr K c.Shifted "shift"
  g_Scaled : mg "Scaled" = some (.ref c.Scaled)
  cl_Scaled : Cls K c.Scaled
  na_Scaled_factor : NoAttr K c.Scaled "factor"
  na_Scaled_shift : NoAttr K c.Scaled "shift"
  g_Early : mg "Early" = some (.ref c.Early)
  cl_Early : Cls K c.Early
  na_Early_early : NoAttr K c.Early "early"
  na_Early_factor : NoAttr K c.Early "factor"
  na_Early_shift : NoAttr K c.Early "shift"
  g_More : mg "More" = some (.ref c.More)
  cl_More : Cls K c.More
  na_More_factor : NoAttr K c.More "factor"
  na_More_shift : NoAttr K c.More "shift"
  g_Wide : mg "Wide" = some (.ref c.Wide)
  cl_Wide : Cls K c.Wide
  na_Wide_factor : NoAttr K c.Wide "factor"
  na_Wide_shift : NoAttr K c.Wide "shift"
  g_Cutting : mg "Cutting" = some (.ref c.Cutting)
  cl_Cutting : Cls K c.Cutting
  na_Cutting_factor : NoAttr K c.Cutting "factor"
  na_Cutting_shift : NoAttr K c.Cutting "shift"
  g_Turned : mg "Turned" = some (.ref c.Turned)
  cl_Turned : Cls K c.Turned
  na_Turned_form : NoAttr K c.Turned "form"
  g_SignedForm : mg "SignedForm" = some (.ref c.SignedForm)
  cl_SignedForm : Cls K c.SignedForm
  g_NoPrices : mg "NoPrices" = some (.ref c.NoPrices)
  g_ROW_WORDS : mg "ROW_WORDS" = some (.ref c.ROW_WORDS)
  q_ROW_WORDS : ∀ H, SqT K H c.ROW_WORDS [.str "set", .str "copy", .str "sum", .str "gap", .str "low", .str "high", .str "left", .str "right", .str "slide", .str "and", .str "or", .str "unlike", .str "under", .str "pick", .str "mark", .str "turns"]
  g_ROWS_AHEAD : mg "ROWS_AHEAD" = some (.ref c.ROWS_AHEAD)
  kf_kc : PySem.W.isClsIn K c.Form = true
  kf_kt : PySem.W.typeIn K (.ref c.Form) = some (.type "type")
  kf_og : PySem.W.specialIn K (.builtin "object.__class__") "__get__" = some (some (.builtin "getset_descriptor.__get__"))
  kf_ot : PySem.W.takesIn K (.builtin "object.__class__") = some true
  kf_dc_Shifted : PySem.W.findIn K (.ref c.Shifted) "__class__" = some (some (.builtin "object.__class__"))
  kf_dc_Scaled : PySem.W.findIn K (.ref c.Scaled) "__class__" = some (some (.builtin "object.__class__"))
  kf_dc_Early : PySem.W.findIn K (.ref c.Early) "__class__" = some (some (.builtin "object.__class__"))
  kf_dc_More : PySem.W.findIn K (.ref c.More) "__class__" = some (some (.builtin "object.__class__"))
  kf_dc_Wide : PySem.W.findIn K (.ref c.Wide) "__class__" = some (some (.builtin "object.__class__"))
  kf_mo_Shifted : PySem.W.mroIn K c.Shifted (.type "object") = some true
  kf_mo_Scaled : PySem.W.mroIn K c.Scaled (.type "object") = some true
  kf_mo_Early : PySem.W.mroIn K c.Early (.type "object") = some true
  kf_mo_More : PySem.W.mroIn K c.More (.type "object") = some true
  kf_mo_Wide : PySem.W.mroIn K c.Wide (.type "object") = some true
  kf_ik_Shifted : PySem.W.mroIn K c.Shifted (.ref c.Form) = some true
  kf_ik_Scaled : PySem.W.mroIn K c.Scaled (.ref c.Form) = some true
  kf_ik_Early : PySem.W.mroIn K c.Early (.ref c.Form) = some true
  kf_ik_More : PySem.W.mroIn K c.More (.ref c.Form) = some true
  kf_ik_Wide : PySem.W.mroIn K c.Wide (.ref c.Form) = some true
  kf_ga : PySem.W.findIn K (.ref c.NoPrices) "__getattribute__" = some (some (.builtin "BaseException.__getattribute__"))
  kf_gn : PySem.W.findIn K (.ref c.NoPrices) "__getattr__" = some none
  kf_gc : PySem.W.findIn K (.ref c.NoPrices) "__class__" = some (some (.builtin "object.__class__"))
  kf_mo : PySem.W.mroIn K c.NoPrices (.type "object") = some true
  kf_mb : PySem.W.mroIn K c.NoPrices (.type "BaseException") = some true
  kf_hd : PySem.W.hasDictIn K c.NoPrices = true
  kf_nf : PySem.W.findIn K (.ref c.NoPrices) "found" = some none
  kf_xc : PySem.W.isClsIn K c.NoPrices = true
  kf_xt : PySem.W.typeIn K (.ref c.NoPrices) = some (.type "type")
  kf_xm : PySem.W.mroIn K c.NoPrices (.ref c.NoPrices) = some true
  kf_xb : PySem.W.mroIn K c.NoPrices (.type "BaseException") = some true
  kf_dc_Cutting : PySem.W.findIn K (.ref c.Cutting) "__class__" = some (some (.builtin "object.__class__"))
  kf_mo_Cutting : PySem.W.mroIn K c.Cutting (.type "object") = some true
  kf_dc_Turned : PySem.W.findIn K (.ref c.Turned) "__class__" = some (some (.builtin "object.__class__"))
  kf_mo_Turned : PySem.W.mroIn K c.Turned (.type "object") = some true
  kf_kc_Cutting : PySem.W.isClsIn K c.Cutting = true
  kf_kt_Cutting : PySem.W.typeIn K (.ref c.Cutting) = some (.type "type")
  kf_kc_Turned : PySem.W.isClsIn K c.Turned = true
  kf_kt_Turned : PySem.W.typeIn K (.ref c.Turned) = some (.type "type")
  kf_kc_SignedForm : PySem.W.isClsIn K c.SignedForm = true
  kf_kt_SignedForm : PySem.W.typeIn K (.ref c.SignedForm) = some (.type "type")
  kf_m_Cutting_Cutting : PySem.W.mroIn K c.Cutting (.ref c.Cutting) = some true
  kf_m_Cutting_Turned : PySem.W.mroIn K c.Cutting (.ref c.Turned) = some false
  kf_m_Cutting_SignedForm : PySem.W.mroIn K c.Cutting (.ref c.SignedForm) = some true
  kf_m_Turned_Cutting : PySem.W.mroIn K c.Turned (.ref c.Cutting) = some false
  kf_m_Turned_Turned : PySem.W.mroIn K c.Turned (.ref c.Turned) = some true
  kf_m_Turned_SignedForm : PySem.W.mroIn K c.Turned (.ref c.SignedForm) = some true
/-! inverses by doubling -/
structure Stp (w d : Int) (xs : List Int) : Prop where
  ne : 1 ≤ xs.length
  le : xs.length ≤ 5
  hd : xs[0]? = some d
  ok : ∀ (j : Nat) (s : Int), xs[j]? = some s → 0 ≤ s ∧ s < 2 ^ w.toNat ∧ (2 : Int) ^ (min w.toNat (3 * 2 ^ j)) ∣ s * d - 1
  nx : ∀ (j : Nat) (s t : Int), xs[j]? = some s → xs[j + 1]? = some t → ¬ (s * d % 2 ^ w.toNat = 1) ∧ t = s * (2 - d * s) % 2 ^ w.toNat
theorem odd_sq {d : Int} (h : d % 2 = 1) : (8 : Int) ∣ d * d - 1 := by
  have e : d = 2 * (d / 2) + 1 := by omega
  generalize d / 2 = k at e
  subst e
  have e2 : (2 * k + 1) * (2 * k + 1) - 1 = 4 * (k * (k + 1)) := by
    rw [Int.add_mul, Int.mul_add, Int.mul_add, Int.one_mul, Int.mul_one, Int.mul_assoc, Int.mul_left_comm k 2 k, Int.mul_add k k 1, Int.mul_one]
    omega
  rw [e2]
  have h2 : (2 : Int) ∣ k * (k + 1) := by
    rcases (by omega : k % 2 = 0 ∨ (k + 1) % 2 = 0) with h | h
    · exact Int.dvd_trans (Int.dvd_of_emod_eq_zero h) (Int.dvd_mul_right _ _)
    · exact Int.dvd_trans (Int.dvd_of_emod_eq_zero h) (Int.dvd_mul_left _ _)
  obtain ⟨c, hc⟩ := h2
  rw [hc]
  exact ⟨c, by omega⟩
theorem newton_eq (s d : Int) : s * (2 - d * s) * d - 1 = -((s * d - 1) * (s * d - 1)) := by
  have e1 : s * (2 - d * s) * d = 2 * (s * d) - (s * d) * (s * d) := by
    rw [Int.mul_sub, Int.sub_mul]
    congr 1
    · rw [Int.mul_comm s 2, Int.mul_assoc]
    · rw [Int.mul_assoc s d, Int.mul_assoc s, Int.mul_assoc d s d]
  rw [e1]
  generalize s * d = a
  rw [Int.sub_mul, Int.mul_sub, Int.one_mul, Int.mul_one]
  omega
theorem pow_dvd_pow' {a b : Nat} (h : a ≤ b) : (2 : Int) ^ a ∣ 2 ^ b := by
  have e : b = a + (b - a) := by omega
  rw [e, Int.pow_add]
  exact Int.dvd_mul_right _ _
theorem mod_dvd {a b m k : Int} (hk : k ∣ m) (h : k ∣ a * b - 1) : k ∣ a % m * b - 1 := by
  have e : a % m * b - 1 = (a * b - 1) - m * (a / m * b) := by
    have := Int.mul_ediv_add_emod a m
    have e2 : a % m = a - m * (a / m) := by omega
    rw [e2, Int.sub_mul, Int.mul_assoc]
    omega
  rw [e]
  exact Int.dvd_sub h (Int.dvd_trans hk (Int.dvd_mul_right _ _))
theorem one_of_dvd {x m : Int} (hm : 1 < m) (h : m ∣ x - 1) : x % m = 1 := by
  obtain ⟨c, hc⟩ := h
  have e : x = 1 + m * c := by omega
  rw [e, Int.add_mul_emod_self_left]
  exact Int.emod_eq_of_lt (by omega) hm
theorem p_gt {w : Int} (h1 : 4 ≤ w) : (1 : Int) < 2 ^ w.toNat := by
  have e : w.toNat = (w.toNat - 1) + 1 := by omega
  rw [e, Int.pow_succ]
  have : (0 : Int) < 2 ^ (w.toNat - 1) := Int.pow_pos (by decide)
  omega
theorem Stp.start {w d : Int} (h1 : 4 ≤ w) (d0 : 0 ≤ d) (d1 : d < 2 ^ w.toNat) (ho : d % 2 = 1) : Stp w d [d] := by
  refine ⟨by simp, by simp, rfl, ?_, ?_⟩
  · intro j s h
    have hj : j = 0 := by
      cases j with
      | zero => rfl
      | succ j => simp at h
    subst hj
    have e : d = s := by simpa using h
    subst e
    refine ⟨d0, d1, ?_⟩
    have e2 : min w.toNat (3 * 2 ^ 0) = 3 := by omega
    rw [e2]
    exact odd_sq ho
  · intro j s t _ h
    simp at h
theorem Stp.last {w d : Int} {xs : List Int} (p : Stp w d xs) : ∃ s, xs[xs.length - 1]? = some s := ⟨_, List.getElem?_eq_getElem (by have := p.ne; omega)⟩
theorem Stp.more {w d s : Int} {xs : List Int} (h1 : 4 ≤ w) (h2 : w ≤ 32) (p : Stp w d xs) (hs : xs[xs.length - 1]? = some s) (hn : ¬ (s * d % 2 ^ w.toNat = 1)) : Stp w d (xs ++ [s * (2 - d * s) % 2 ^ w.toNat]) := by
  have ne := p.ne
  have le := p.le
  have os := p.ok _ _ hs
  have hm : 3 * 2 ^ (xs.length - 1) < w.toNat := by
    refine Classical.byContradiction fun z => hn ?_
    have e : min w.toNat (3 * 2 ^ (xs.length - 1)) = w.toNat := by omega
    rw [e] at os
    exact one_of_dvd (p_gt h1) os.2.2
  have hl : xs.length ≤ 4 := by
    refine Classical.byContradiction fun z => ?_
    have e : xs.length = 5 := by omega
    rw [e] at hm
    have : 3 * 2 ^ (5 - 1) = 48 := by decide
    omega
  have hp : (0 : Int) < 2 ^ w.toNat := Int.pow_pos (by decide)
  refine ⟨by simp, by simp; omega, ?_, ?_, ?_⟩
  · rw [List.getElem?_append_left (by omega)]
    exact p.hd
  · intro j t h
    by_cases hj : j < xs.length
    · rw [List.getElem?_append_left hj] at h
      exact p.ok j t h
    · have hj2 : j = xs.length := by
        have := (List.getElem?_eq_some_iff.mp h).1
        simp at this
        omega
      subst hj2
      rw [List.getElem?_append_right (Nat.le_refl _)] at h
      have e : s * (2 - d * s) % 2 ^ w.toNat = t := by simpa using h
      subst e
      refine ⟨Int.emod_nonneg _ (by omega), Int.emod_lt_of_pos _ hp, ?_⟩
      refine mod_dvd (pow_dvd_pow' (by omega)) ?_
      rw [newton_eq]
      refine Int.dvd_neg.mpr ?_
      have e3 : min w.toNat (3 * 2 ^ (xs.length - 1)) = 3 * 2 ^ (xs.length - 1) := by omega
      rw [e3] at os
      have e4 : 3 * 2 ^ xs.length = 3 * 2 ^ (xs.length - 1) + 3 * 2 ^ (xs.length - 1) := by
        have e : xs.length = (xs.length - 1) + 1 := by omega
        have q : 2 ^ (xs.length - 1 + 1) = 2 ^ (xs.length - 1) * 2 := Nat.pow_succ _ _
        rw [← e] at q
        omega
      refine Int.dvd_trans (pow_dvd_pow' (b := 3 * 2 ^ xs.length) (by omega)) ?_
      rw [e4, Int.pow_add]
      exact Int.mul_dvd_mul os.2.2 os.2.2
  · intro j a b ha hb
    by_cases hj : j + 1 < xs.length
    · rw [List.getElem?_append_left (by omega)] at ha hb
      exact p.nx j a b ha hb
    · have hj2 : j + 1 = xs.length := by
        have := (List.getElem?_eq_some_iff.mp hb).1
        simp at this
        omega
      rw [List.getElem?_append_left (by omega)] at ha
      rw [List.getElem?_append_right (by omega)] at hb
      have e : j = xs.length - 1 := by omega
      subst e
      rw [hs] at ha
      cases ha
      have e2 : xs.length - 1 + 1 - xs.length = 0 := by omega
      rw [e2] at hb
      exact ⟨hn, by simpa using hb.symm⟩
/-! twos, exact quotients, multiples -/
/-- 2 ^ t goes into d, and 2 ^ (t + 1) does not -/
def Tw (d t : Int) : Prop := 0 ≤ t ∧ d = d / 2 ^ t.toNat * 2 ^ t.toNat ∧ d / 2 ^ t.toNat % 2 = 1
theorem tw_unique {d t u : Int} (h : Tw d t) (k : Tw d u) : t = u := by
  have key : ∀ {a b : Int}, Tw d a → Tw d b → a < b → False := by
    intro a b ha hb hlt
    obtain ⟨a0, a1, a2⟩ := ha
    obtain ⟨b0, b1, b2⟩ := hb
    have e : b.toNat = a.toNat + ((b.toNat - a.toNat - 1) + 1) := by omega
    have p := p_pos a.toNat
    have e2 : (2 : Int) ^ b.toNat = 2 ^ a.toNat * (2 ^ (b.toNat - a.toNat - 1) * 2) := by
      conv => lhs; rw [e]
      rw [Int.pow_add, Int.pow_succ]
    generalize d / 2 ^ b.toNat = f at b1 b2
    have e3 : d / 2 ^ a.toNat = f * 2 ^ (b.toNat - a.toNat - 1) * 2 := by
      rw [b1, e2, Int.mul_left_comm, Int.mul_ediv_cancel_left _ (Int.ne_of_gt p), Int.mul_assoc]
    omega
  rcases Int.lt_trichotomy t u with c | c | c
  · exact (key h k c).elim
  · exact c
  · exact (key k h c).elim
def rot (w y t : Int) : Int := y / 2 ^ t.toNat + y % 2 ^ t.toNat * 2 ^ (w - t).toNat
theorem tw_step {d t : Int} (t0 : 0 ≤ t) {D : Int} (hd : D = d * 2 ^ t.toNat) (he : d % 2 = 0) : D = d / 2 * 2 ^ (t + 1).toNat := by
  have e : (t + 1).toNat = t.toNat + 1 := by omega
  rw [e, Int.pow_succ, hd]
  have : d = d / 2 * 2 := by omega
  conv => lhs; rw [this]
  rw [Int.mul_assoc, Int.mul_comm 2]
theorem tw_done {d t D : Int} (t0 : 0 ≤ t) (hd : D = d * 2 ^ t.toNat) (he : ¬ (d % 2 = 0)) : Tw D t := by
  have p := p_pos t.toNat
  have e : D / 2 ^ t.toNat = d := by rw [hd]; exact Int.mul_ediv_cancel _ (Int.ne_of_gt p)
  refine ⟨t0, ?_, ?_⟩
  · rw [e]; exact hd
  · rw [e]; omega
/-! ### sizes -/
theorem pw_bounds {w : Int} (h1 : 4 ≤ w) (h2 : w ≤ 32) : 16 ≤ (2 : Int) ^ w.toNat ∧ (2 : Int) ^ w.toNat ≤ 4294967296 := by
  have a : (2 : Int) ^ 4 ≤ 2 ^ w.toNat := p_mono (by omega)
  have b : (2 : Int) ^ w.toNat ≤ 2 ^ 32 := p_mono (by omega)
  exact ⟨a, b⟩
theorem log_small {m : Int} (h0 : 0 < m) (h : m < 2 ^ 80) : m.natAbs.log2 < 9000 := by
  have h1 : m.natAbs ≠ 0 := by omega
  have h2 : m.natAbs < 2 ^ 80 := by omega
  have := (Nat.log2_lt h1).mpr h2
  omega
theorem cpow1 {w : Int} (h1 : 0 ≤ w) (h2 : w ≤ 100000) : CPow 1 w := ⟨h1, by omega, by decide⟩
theorem cmul_l {x y : Int} (h0 : 0 ≤ x) (h : x < 2 ^ 64) : CMul x y := .inl ⟨by omega, h⟩
theorem sz2 : (2 : Nat) ≤ sizeLine := by decide
/-! ### two ints in a list: a box of draws -/
def Bx (H : Hp) (p : Addr) : Prop := ∃ r s : Int, H p = some (.lst [.int r, .int s])
theorem Bx.same {H H' : Hp} {p : Addr} (b : Bx H p) (s : Same H H') : Bx H' p := by
  obtain ⟨r, s', h⟩ := b
  exact ⟨r, s', s _ _ h⟩
theorem Same_thenX {p : Addr} {H H1 H2 : Hp} (hp : H p = none) (s : Same H H1) (x : SameX p H1 H2) : Same H H2 := fun b o h => x b o (ne_of_none h hp) (s b o h)
def Last (w d : Int) (xs : List Int) : Prop := ∀ s, xs[xs.length - 1]? = some s → s * d % 2 ^ w.toNat = 1
def spWhole : Sp := fun vs H Q _ => ∃ i : Int, vs = [.int i] ∧ Q (.bl true) H
def spBetween : Sp := fun vs H Q _ => ∃ i lo hi : Int, vs = [.int i, .int lo, .int hi] ∧ lo ≤ i ∧ i ≤ hi ∧ Q (.bl true) H
def spNeedW : Sp := fun vs H Q _ => ∃ i : Int, vs = [.int i] ∧ 4 ≤ i ∧ i ≤ 32 ∧ Q .non H
def spNeedD : Sp := fun vs H Q _ => ∃ w d : Int, vs = [.int w, .int d] ∧ 4 ≤ w ∧ w ≤ 32 ∧ 1 ≤ d ∧ d < 2 ^ w.toNat ∧ Q .non H
def spNeedOdd : Sp := fun vs H Q _ => ∃ w d : Int, vs = [.int w, .int d] ∧ 4 ≤ w ∧ w ≤ 32 ∧ 1 ≤ d ∧ d < 2 ^ w.toNat ∧ d % 2 = 1 ∧ Q .non H
def spSteps : Sp := fun vs H Q _ => ∃ w d : Int, vs = [.int w, .int d] ∧ 4 ≤ w ∧ w ≤ 32 ∧ 1 ≤ d ∧ d < 2 ^ w.toNat ∧ d % 2 = 1 ∧ ∀ (p : Addr) (xs : List Int) H', H p = none → H' p = some (.lst (xs.map V.int)) → Same H H' → Stp w d xs → Last w d xs → Q (.ref p) H'
def spInv : Sp := fun vs H Q _ => ∃ w d : Int, vs = [.int w, .int d] ∧ 4 ≤ w ∧ w ≤ 32 ∧ 1 ≤ d ∧ d < 2 ^ w.toNat ∧ d % 2 = 1 ∧ ∀ (v : Int) H', Same H H' → 0 ≤ v → v < 2 ^ w.toNat → v * d % 2 ^ w.toNat = 1 → Q (.int v) H'
def spStart (K : PySem.W.Frag) : Sp := fun vs H Q _ => ∃ (a : Addr) (ns : List Int) (k : Int), vs = [.ref a, .int k] ∧ SqL K H a (ns.map V.int) ∧ 0 ≤ k ∧ k ≤ 1000 ∧ ∀ p H', H p = none → Bx H' p → Same H H' → Q (.ref p) H'
def spTake : Sp := fun vs H Q _ => ∃ (p : Addr) (m : Int), vs = [.ref p, .int m] ∧ Bx H p ∧ 0 < m ∧ m < 2 ^ 80 ∧ ∀ (d : Int) H', 0 ≤ d → d < m → Bx H' p → SameX p H H' → Q (.int d) H'
def spDiv : Sp := fun vs H Q _ => ∃ (p : Addr) (w : Int), vs = [.ref p, .int w] ∧ Bx H p ∧ 4 ≤ w ∧ w ≤ 32 ∧ ∀ (d : Int) H', 1 ≤ d → d < 2 ^ w.toNat → Bx H' p → SameX p H H' → Q (.int d) H'
def spCase : Sp := fun vs H Q _ => ∃ p : Addr, vs = [.ref p] ∧ Bx H p ∧ ∀ H', SameX p H H' → Q (.bl true) H'
def spLaw (K : PySem.W.Frag) : Sp := fun vs H Q _ => ∃ (a : Addr) (ns : List Int), vs = [.ref a] ∧ SqL K H a (ns.map V.int) ∧ ns.length ≤ 63 ∧ ∀ H', Q (.bl true) H'
def lenOf : Option HO → Nat
  | some (.lst ys) => ys.length
  | _ => 0
def Iv (w d t i : Int) : Prop := 0 ≤ i ∧ i < 2 ^ w.toNat ∧ d / 2 ^ t.toNat * i % 2 ^ w.toNat = 1
def spTwos : Sp := fun vs H Q _ => ∃ d : Int, vs = [.int d] ∧ 1 ≤ d ∧ ∀ t : Int, Tw d t → Q (.int t) H
def spExact : Sp := fun vs H Q _ => ∃ w d : Int, vs = [.int w, .int d] ∧ 4 ≤ w ∧ w ≤ 32 ∧ 1 ≤ d ∧ d < 2 ^ w.toNat ∧ ∀ (p : Addr) (t i : Int) H', H p = none → H' p = some (.tup [.int t, .int i]) → Same H H' → Tw d t → Iv w d t i → Q (.ref p) H'
def spExq : Sp := fun vs H Q _ => ∃ w d x : Int, vs = [.int w, .int d, .int x] ∧ 4 ≤ w ∧ w ≤ 32 ∧ 1 ≤ d ∧ d < 2 ^ w.toNat ∧ 0 ≤ x ∧ x < 2 ^ w.toNat ∧ ∀ (t i : Int) H', Same H H' → Tw d t → Iv w d t i → Q (.int (x / 2 ^ t.toNat * i % (1 * 2 ^ w.toNat))) H'
def spTurned : Sp := fun vs H Q _ => ∃ w x k : Int, vs = [.int w, .int x, .int k] ∧ 4 ≤ w ∧ w ≤ 32 ∧ 0 ≤ k ∧ k < w ∧ Q (.int (rot w x k)) H
def spLTurned : Sp := fun vs H Q _ => ∃ w x k : Int, vs = [.int w, .int x, .int k] ∧ 4 ≤ w ∧ w ≤ 32 ∧ 0 ≤ k ∧ k < w ∧ Q (.int (rot w x k)) H
def spMultOf : Sp := fun vs H Q _ => ∃ w d : Int, vs = [.int w, .int d] ∧ 4 ≤ w ∧ w ≤ 32 ∧ 1 ≤ d ∧ d < 2 ^ w.toNat ∧ ∀ (p : Addr) (t i : Int) H', H p = none → H' p = some (.tup [.int i, .int t, .int ((1 * 2 ^ w.toNat - 1) / d)]) → Same H H' → Tw d t → Iv w d t i → Q (.ref p) H'
def spIsMult : Sp := fun vs H Q _ => ∃ w d x : Int, vs = [.int w, .int d, .int x] ∧ 4 ≤ w ∧ w ≤ 32 ∧ 1 ≤ d ∧ d < 2 ^ w.toNat ∧ 0 ≤ x ∧ x < 2 ^ w.toNat ∧ ∀ H', Same H H' → Q (.bl (decide (x % d = 0))) H'
def InW (w : Int) (xs : List Int) : Prop := ∀ (j : Nat) (x : Int), xs[j]? = some x → 0 ≤ x ∧ x < 2 ^ w.toNat
def spWords : Sp := fun vs H Q _ => ∃ (p : Addr) (w d : Int), vs = [.ref p, .int w, .int d] ∧ Bx H p ∧ 4 ≤ w ∧ w ≤ 32 ∧ 1 ≤ d ∧ d < 2 ^ w.toNat ∧ ∀ (l : Addr) (xs : List Int) H', H l = none → H' l = some (.lst (xs.map V.int)) → InW w xs → Bx H' p → SameX p H H' → Q (.ref l) H'
def spWordR : Sp := fun vs H Q _ => ∃ w d x t i : Int, vs = [.int w, .int d, .int x, .int t, .int i] ∧ 4 ≤ w ∧ w ≤ 32 ∧ 1 ≤ d ∧ d < 2 ^ w.toNat ∧ 0 ≤ x ∧ x < 2 ^ w.toNat ∧ Tw d t ∧ Iv w d t i ∧ ∀ H', Same H H' → Q (.bl true) H'
theorem tw_div {d t : Int} (d1 : 1 ≤ d) (h : Tw d t) : 1 ≤ d / 2 ^ t.toNat ∧ d / 2 ^ t.toNat ≤ d := by
  obtain ⟨t0, t1, t2⟩ := h
  have a := Int.ediv_nonneg (show 0 ≤ d by omega) (Int.le_of_lt (p_pos t.toNat))
  have b := Int.ediv_le_self (2 ^ t.toNat) (show 0 ≤ d by omega)
  omega
theorem InW.app {w : Int} {xs ys : List Int} (a : InW w xs) (b : InW w ys) : InW w (xs ++ ys) := by
  intro j x h
  by_cases hj : j < xs.length
  · rw [List.getElem?_append_left hj] at h
    exact a j x h
  · rw [List.getElem?_append_right (by omega)] at h
    exact b _ x h
theorem InW.nil {w : Int} : InW w [] := fun j x h => by simp at h
theorem InW.cons {w x : Int} {xs : List Int} (h0 : 0 ≤ x) (h1 : x < 2 ^ w.toNat) (a : InW w xs) : InW w (x :: xs) := by
  intro j y h
  cases j with
  | zero => cases h; exact ⟨h0, h1⟩
  | succ j => exact a j y h
theorem eqV_int (i : Int) : eqV (V.int i) (V.int i) = true := by show (i == i) = true; exact beq_self_eq_true i
def CorM (last d x : Int) : Prop := x = 0 ∨ x = (if d - 1 < last then d - 1 else last) ∨ x = last / d * d ∨ x = last ∨ (last / d ≠ 0 ∧ x = last / d * d - 1)
def Cor (last d : Int) (zs : List Int) : Prop := zs.Pairwise (· < ·) ∧ ∀ x, x ∈ zs ↔ CorM last d x
theorem sorted_ext : ∀ {xs ys : List Int}, xs.Pairwise (· < ·) → ys.Pairwise (· < ·) → (∀ x, x ∈ xs ↔ x ∈ ys) → xs = ys
  | [], [], _, _, _ => rfl
  | [], y :: ys, _, _, h => absurd ((h y).mpr (List.mem_cons_self ..)) List.not_mem_nil
  | x :: xs, [], _, _, h => absurd ((h x).mp (List.mem_cons_self ..)) List.not_mem_nil
  | x :: xs, y :: ys, hx, hy, h => by
    rw [List.pairwise_cons] at hx hy
    have e : x = y := by
      rcases List.mem_cons.mp ((h x).mp (List.mem_cons_self ..)) with q | q
      · exact q
      rcases List.mem_cons.mp ((h y).mpr (List.mem_cons_self ..)) with q2 | q2
      · exact q2.symm
      have := hy.1 x q
      have := hx.1 y q2
      omega
    subst e
    congr 1
    refine sorted_ext hx.2 hy.2 fun z => ?_
    constructor
    · intro hz
      rcases List.mem_cons.mp ((h z).mp (List.mem_cons_of_mem _ hz)) with q | q
      · have := hx.1 z hz
        omega
      · exact q
    · intro hz
      rcases List.mem_cons.mp ((h z).mpr (List.mem_cons_of_mem _ hz)) with q | q
      · have := hy.1 z hz
        omega
      · exact q
theorem Cor.uniq {last d : Int} {xs ys : List Int} (a : Cor last d xs) (b : Cor last d ys) : xs = ys := sorted_ext a.1 b.1 fun x => (a.2 x).trans (b.2 x).symm
def brt (e f a t x : Int) : Int := (f * (x / 2 ^ e.toNat) + a) / 2 ^ t.toNat
theorem dv {n T k : Int} (hT : 0 < T) : n / T = k ↔ k * T ≤ n ∧ n < k * T + T := by
  constructor
  · rintro rfl
    have h1 := Int.mul_ediv_add_emod n T
    have h2 := Int.emod_nonneg n (Int.ne_of_gt hT)
    have h3 := Int.emod_lt_of_pos n hT
    rw [Int.mul_comm] at h1
    omega
  · rintro ⟨h1, h2⟩
    refine Int.le_antisymm ?_ ?_
    · exact Int.le_of_lt_add_one (Int.ediv_lt_of_lt_mul hT (by rw [Int.add_mul, Int.one_mul]; exact h2))
    · exact Int.le_ediv_of_mul_le hT h1
/-- a straight line between two places -/
theorem line {m c k q : Int} (h0 : 0 ≤ k) (h1 : k ≤ q) (a : 0 ≤ c) (b : 0 ≤ c + q * m) : 0 ≤ c + k * m := by
  by_cases hm : 0 ≤ m
  · have := Int.mul_nonneg h0 hm
    omega
  · have : q * m ≤ k * m := Int.mul_le_mul_of_nonpos_right h1 (by omega)
    omega
theorem b200 {x : Int} (h1 : -(2 ^ 200) < x) (h2 : x < 2 ^ 200) : intBits x ≤ 100000 := Nat.le_trans (intBits_le_iff.mpr (show x.natAbs < 2 ^ 200 by omega)) (by decide)
theorem inV_ints {x : Int} {fs : List Int} : inV (V.int x) (fs.map V.int) = decide (x ∈ fs) := by
  unfold inV
  rw [Bool.eq_iff_iff, decide_eq_true_iff, List.any_eq_true]
  constructor
  · rintro ⟨y, hy, e⟩
    obtain ⟨z, hz, rfl⟩ := List.mem_map.mp hy
    have : z = x := beq_iff_eq.mp (show (z == x) = true from e)
    exact this ▸ hz
  · intro h
    exact ⟨V.int x, List.mem_map.mpr ⟨x, h, rfl⟩, eqV_int x⟩
theorem flat_all (fs : List Int) : (fs.map V.int).all flatV = true := by
  rw [List.all_eq_true]
  intro x hx
  obtain ⟨z, _, rfl⟩ := List.mem_map.mp hx
  rfl
def spCorners : Sp := fun vs H Q _ => ∃ last d : Int, vs = [.int last, .int d] ∧ 0 ≤ last ∧ last ≤ 18446744073709551616 ∧ 1 ≤ d ∧ d ≤ 18446744073709551616 ∧ ∀ (p : Addr) (zs : List Int) H', H p = none → H' p = some (.lst (zs.map V.int)) → Same H H' → Cor last d zs → zs.length ≤ 5 → Q (.ref p) H'
def spCWords : Sp := fun vs H Q _ => ∃ w d : Int, vs = [.int w, .int d] ∧ 4 ≤ w ∧ w ≤ 32 ∧ 1 ≤ d ∧ d < 2 ^ w.toNat ∧ ∀ (p : Addr) (zs : List Int) H', H p = none → H' p = some (.lst (zs.map V.int)) → Same H H' → Cor (1 * 2 ^ w.toNat - 1) d zs → zs.length ≤ 5 → Q (.ref p) H'
def Reck (d e f a t : Int) : Prop := 0 ≤ e ∧ (2 : Int) ^ e.toNat ∣ d ∧ 0 ≤ f ∧ f ≤ 1180591620717411303424 ∧ 0 ≤ a ∧ a ≤ 1180591620717411303424 ∧ 0 ≤ t ∧ t ≤ 130
def spReck : Sp := fun vs H Q _ => ∃ (p : Addr) (w d : Int), vs = [.ref p, .int w, .int d] ∧ Bx H p ∧ 2 ≤ w ∧ w ≤ 20 ∧ 1 ≤ d ∧ d ≤ 18446744073709551616 ∧ ∀ (r : Addr) (e f a t : Int) H', H' r = some (.tup [.int e, .int f, .int a, .int t]) → Reck d e f a t → Bx H' p → SameX p H H' → r ≠ p → Q (.ref r) H'
def spList : Sp := fun vs H Q _ => ∃ (a b : Addr) (zs : List Int), vs = [.ref a, .ref b] ∧ H a = some (.lst (zs.map V.int)) ∧ H b = some (.lst (zs.map V.int)) ∧ Q (.bl true) H
def spPair : Sp := fun vs H Q _ => ∃ p : Addr, vs = [.ref p] ∧ Bx H p ∧ ∀ (r : Addr) (d last : Int) H', H' r = some (.tup [.int d, .int last]) → 1 ≤ d → d ≤ 18446744073709551616 → 0 ≤ last → last ≤ 18446744073709551616 → Bx H' p → SameX p H H' → Q (.ref r) H'
theorem pw_of {zs : List Int} {fs : List Int} (pw : zs.Pairwise (· ≤ ·)) (pm : zs.Perm fs) (nd : fs.Nodup) : zs.Pairwise (· < ·) := strict pw (pm.nodup_iff.mpr nd)
/-- the bounds of the corners' numbers -/
theorem cor_nums {last d : Int} (l0 : 0 ≤ last) (l1 : last ≤ 18446744073709551616) (d1 : 1 ≤ d) : 0 ≤ last / d ∧ last / d ≤ last ∧ 0 ≤ last / d * d ∧ last / d * d ≤ last ∧ (last / d ≠ 0 → 1 ≤ last / d * d) := by
  have h0 := Int.ediv_nonneg l0 (show 0 ≤ d by omega)
  have h1 := Int.ediv_le_self d l0
  have h2 := Int.mul_nonneg h0 (show 0 ≤ d by omega)
  have h3 := Int.ediv_mul_le last (show d ≠ 0 by omega)
  refine ⟨h0, h1, h2, h3, fun hz => ?_⟩
  have := Int.mul_le_mul (show 1 ≤ last / d by omega) d1 (by decide) h0
  omega
theorem tw_small {d t : Int} (d1 : 1 ≤ d) (d2 : d ≤ 18446744073709551616) (h : Tw d t) : t ≤ 64 := by
  obtain ⟨t0, t1, t2⟩ := h
  refine Classical.byContradiction fun z => ?_
  have a : (2 : Int) ^ 65 ≤ 2 ^ t.toNat := p_mono (by omega)
  have b : d / 2 ^ t.toNat = 0 := Int.ediv_eq_zero_of_lt (by omega) (by omega)
  omega
theorem tw_dvd {d t y : Int} (h : Tw d t) (y0 : 0 ≤ y) (hy : y ≤ t) : (2 : Int) ^ y.toNat ∣ d := by
  obtain ⟨t0, t1, t2⟩ := h
  have e : t.toNat = y.toNat + (t.toNat - y.toNat) := by omega
  refine ⟨d / 2 ^ t.toNat * 2 ^ (t.toNat - y.toNat), ?_⟩
  conv => lhs; rw [t1]
  rw [Int.mul_left_comm]
  congr 1
  conv => lhs; rw [e]
  exact Int.pow_add ..
theorem upd_upd {H : Hp} {l : Addr} {a b : HO} : upd (upd H l a) l b = upd H l b := by
  funext c
  by_cases h : c = l
  · rw [h, upd_same, upd_same]
  · rw [upd_ne h, upd_ne h, upd_ne h]
theorem made_same {x dx C : Addr} {H H' : Hp} (hx : H x = none) (hd : H dx = none) (s : SameX x (upd (upd H dx (.own x)) x (.ins C dx [])) H') : Same H H' := fun b o h => s b o (ne_of_none h hx) (by rw [upd_ne (ne_of_none h hx), upd_ne (ne_of_none h hd)]; exact h)
theorem CorM.range {last d x : Int} (l0 : 0 ≤ last) (d1 : 1 ≤ d) (h : CorM last d x) : 0 ≤ x ∧ x ≤ last := by
  have h0 := Int.ediv_nonneg l0 (show 0 ≤ d by omega)
  have h2 := Int.mul_nonneg h0 (show 0 ≤ d by omega)
  have h3 := Int.ediv_mul_le last (show d ≠ 0 by omega)
  rcases h with e | e | e | e | ⟨hz, e⟩
  · omega
  · rw [e]; split <;> omega
  · omega
  · omega
  · have := Int.mul_le_mul (show 1 ≤ last / d by omega) d1 (by decide) h0
    omega
theorem iteC {c A B : Prop} [Decidable c] (h1 : c → A) (h2 : ¬ c → B) : if decide c = true then A else B := by
  by_cases h : c
  · exact iteD h (h1 h)
  · exact iteDN h (h2 h)
theorem iteCN {c A B : Prop} [Decidable c] (h1 : ¬ c → A) (h2 : c → B) : if (!decide c) = true then A else B := by
  by_cases h : c
  · exact iteNS h (h2 h)
  · exact iteN h (h1 h)
theorem iteI {a b : Int} {A B : Prop} (h1 : a = b → A) (h2 : a ≠ b → B) : if decide (V.int a = V.int b) = true then A else B := iteC (fun z => h1 (by injection z)) (fun z => h2 (fun e => z (congrArg V.int e)))
theorem iteIN {a b : Int} {A B : Prop} (h1 : a ≠ b → A) (h2 : a = b → B) : if (!decide (V.int a = V.int b)) = true then A else B := iteCN (fun z => h1 (fun e => z (congrArg V.int e))) (fun z => h2 (by injection z))
/-- the side of a rule -/
local macro_rules | `(tactic| walk_at "s") => `(tactic| first
  | omega | assumption | exact ty_int | exact rfl | (dsimp only; omega) | exact cpow1 (by omega) (by omega) | exact ⟨by decide, by decide⟩ | exact ⟨by omega, log_small (by omega) (by omega)⟩
  | exact .inr ⟨by decide, by decide⟩ | exact .inl ⟨by decide, by decide⟩ | exact .inl ⟨by omega, by omega⟩ | exact .inr ⟨by omega, by omega⟩ | exact ⟨b200 (by omega) (by omega), b200 (by omega) (by omega)⟩
  | exact ⟨by decide, by decide, by decide⟩ | exact Nat.le_of_ble_eq_true rfl)
local macro_rules | `(tactic| walk_at "q") => `(tactic| first | exact SqT.of (by first | assumption | exact upd_same) | exact SqL.of (by first | assumption | exact upd_same) | assumption)
/-- on, as far as nothing is to be told -/
local macro_rules | `(tactic| walk_at "o") => `(tactic| repeat (first
  | refine ⟨_, rfl, ?_⟩ | refine ⟨_, _, rfl, rfl, ?_⟩ | with_reducible refine iteF ?_ | with_reducible refine iteT ?_
  | refine ⟨_, _, _, _, rfl, rfl, (by walk_at "q"), rfl, ?_⟩
  | refine And.intro (by walk_at "s") ?_
  | refine ⟨_, _, rfl, ?_⟩ | refine ⟨_, _, _, rfl, ?_⟩
  | refine ⟨_, _, _, _, _, rfl, rfl, TyOf.int _, kit_int_int _, ?_⟩ | refine ⟨_, _, _, _, _, rfl, rfl, TyOf.int _, kit_int_bool _, ?_⟩
  | refine ⟨_, _, _, _, _, rfl, rfl, TyOf.bl _, rfl, ?_⟩
  | refine ⟨_, _, _, _, _, rfl, rfl, TyOf.tup (by assumption), rfl, ?_⟩
  | refine ⟨_, _, rfl, .inr (SqT.of (by assumption)), ?_⟩ | refine ⟨_, _, rfl, .inl (SqL.of (by assumption)), ?_⟩
  | with_reducible refine iteD (by omega) ?_ | with_reducible refine iteDN (by omega) ?_ | with_reducible refine iteN (by omega) ?_ | with_reducible refine iteNS (by omega) ?_
  | with_reducible refine iteNS rfl ?_))
/-- a way parts -/
local macro_rules | `(tactic| walk_at "c") => `(tactic| first | with_reducible refine iteI ?_ ?_ | with_reducible refine iteIN ?_ ?_ | with_reducible refine iteC ?_ ?_ | with_reducible refine iteCN ?_ ?_ | refine ite2 ?_ ?_)
local macro_rules | `(tactic| walk_at "n") => `(tactic| (intro z; injection z with z; revert z; decide +kernel))
theorem sz4 : (4 : Nat) ≤ sizeLine := by decide
/-! ### reckonings of any kind, and forms -/
def AllG (e f a t d n : Int) : Prop := ∀ x, 0 ≤ x → x ≤ n → brt e f a t x = x / d
theorem xdiv {x : Int} (x0 : 0 ≤ x) (e : Int) : 0 ≤ x / 2 ^ e.toNat ∧ x / 2 ^ e.toNat ≤ x := ⟨Int.ediv_nonneg x0 (Int.le_of_lt (p_pos _)), Int.ediv_le_self _ x0⟩
theorem e_small {w d e : Int} (w0 : 0 ≤ w) (d1 : 1 ≤ d) (d2 : d < 2 ^ w.toNat) (he : (2 : Int) ^ e.toNat ∣ d) (e0 : 0 ≤ e) : e < w := by
  refine Classical.byContradiction fun z => ?_
  have := Int.le_of_dvd (by omega) he
  have : (2 : Int) ^ w.toNat ≤ 2 ^ e.toNat := p_mono (by omega)
  omega
def RG (e f a t : Int) : Prop := 0 ≤ e ∧ e ≤ 64 ∧ 0 ≤ f ∧ f ≤ 1180591620717411303424 ∧ 0 ≤ a ∧ a ≤ 1180591620717411303424 ∧ 0 ≤ t ∧ t ≤ 130
def IsG (H : Hp) (r : Addr) (e f a t : Int) : Prop := H r = some (.tup [.int e, .int f, .int a, .int t])
def fOf (c : Ad) : Nat → Addr
  | 0 => c.Shifted
  | 1 => c.Scaled
  | 2 => c.Early
  | 3 => c.More
  | _ => c.Wide
def flds : Nat → Int → Int → Int → List (Str × V)
  | 0, _, _, s => [("shift", .int s)]
  | 2, e, f, s => [("early", .int e), ("factor", .int f), ("shift", .int s)]
  | _, _, f, s => [("factor", .int f), ("shift", .int s)]
def FO (c : Ad) (H : Hp) (x : Addr) (kd : Nat) (e f s : Int) : Prop := ∃ dx, H x = some (.ins (fOf c kd) dx (flds kd e f s))
structure Fm (kd : Nat) (e f s : Int) : Prop where
  k : kd < 5
  ea : 0 ≤ e
  eb : e ≤ 64
  e0 : kd ≠ 2 → e = 0
  fa : 0 ≤ f
  fb : f ≤ 4294967295
  sa : 0 ≤ s
  sb : s ≤ 64
  s1 : kd = 4 → 1 ≤ s
def nF : Nat → Int → Int → Int
  | 0, _, _ => 1
  | 4, w, f => 1 * 2 ^ w.toNat + f
  | _, _, f => f
def nA : Nat → Int → Int
  | 3, f => f
  | _, _ => 0
def nT : Nat → Int → Int → Int
  | 0, _, s => s
  | _, w, s => w + s
theorem Fm.rg {kd : Nat} {e f s w : Int} (h : Fm kd e f s) (h1 : 4 ≤ w) (h2 : w ≤ 32) : RG e (nF kd w f) (nA kd f) (nT kd w s) := by
  obtain ⟨k, ea, eb, e0, fa, fb, sa, sb, s1⟩ := h
  have pb := pw_bounds h1 h2
  rcases (by omega : kd = 0 ∨ kd = 1 ∨ kd = 2 ∨ kd = 3 ∨ kd = 4) with rfl | rfl | rfl | rfl | rfl <;> refine ⟨ea, eb, ?_⟩ <;> simp only [nF, nA, nT] <;> omega
def tlv : Nat → Int → Int → Int → List V
  | 0, _, _, s => [.str "shifted", .int s]
  | 1, _, f, s => [.str "scaled", .int f, .int s]
  | 2, e, f, s => [.str "early", .int e, .int f, .int s]
  | 3, _, f, s => [.str "more", .int f, .int s]
  | _, _, f, s => [.str "wide", .int f, .int s]
def spBroG : Sp := fun vs H Q _ => ∃ (r : Addr) (e f a t x : Int), vs = [.ref r, .int x] ∧ IsG H r e f a t ∧ RG e f a t ∧ 0 ≤ x ∧ x ≤ 18446744073709551616 ∧ Q (.int (brt e f a t x)) H
def spFac : Sp := fun vs H Q _ => ∃ i : Int, vs = [.int i] ∧ 0 ≤ i ∧ i ≤ 4294967295 ∧ Q (.bl true) H
def spShf : Sp := fun vs H Q _ => ∃ i : Int, vs = [.int i] ∧ 0 ≤ i ∧ i ≤ 64 ∧ Q (.bl true) H
def spIsG : Sp := fun vs H Q _ => ∃ (r : Addr) (e f a t : Int), vs = [.ref r] ∧ IsG H r e f a t ∧ RG e f a t ∧ Q (.bl true) H
def spNeedG : Sp := fun vs H Q _ => ∃ (w d : Int) (r : Addr) (e f a t : Int), vs = [.int w, .int d, .ref r] ∧ 4 ≤ w ∧ w ≤ 32 ∧ 1 ≤ d ∧ d < 2 ^ w.toNat ∧ IsG H r e f a t ∧ RG e f a t ∧ (2 : Int) ^ e.toNat ∣ d ∧ Q .non H
def spRightG : Sp := fun vs H Q _ => ∃ (last d : Int) (r : Addr) (e f a t : Int), vs = [.int last, .int d, .ref r] ∧ 0 ≤ last ∧ last ≤ 18446744073709551616 ∧ 1 ≤ d ∧ d ≤ 18446744073709551616 ∧ IsG H r e f a t ∧ RG e f a t ∧ (2 : Int) ^ e.toNat ∣ d ∧ ∀ (b : Bool) H', Same H H' → (b = true ↔ AllG e f a t d last) → Q (.bl b) H'
def spRRG : Sp := fun vs H Q _ => ∃ (w d : Int) (r : Addr) (e f a t : Int), vs = [.int w, .int d, .ref r] ∧ 4 ≤ w ∧ w ≤ 32 ∧ 1 ≤ d ∧ d < 2 ^ w.toNat ∧ IsG H r e f a t ∧ RG e f a t ∧ (2 : Int) ^ e.toNat ∣ d ∧ ∀ (b : Bool) H', Same H H' → (b = true ↔ AllG e f a t d (1 * 2 ^ w.toNat - 1)) → Q (.bl b) H'
def spI0 (c : Ad) : Sp := fun vs H Q _ => ∃ (x dx : Addr) (s : Int), vs = [.ref x, .int s] ∧ H x = some (.ins (fOf c 0) dx []) ∧ 0 ≤ s ∧ s ≤ 64 ∧ ∀ H', SameX x H H' → FO c H' x 0 0 0 s → Q .non H'
def spI2 (c : Ad) (kd : Nat) (lo : Int) : Sp := fun vs H Q _ => ∃ (x dx : Addr) (f s : Int), vs = [.ref x, .int f, .int s] ∧ H x = some (.ins (fOf c kd) dx []) ∧ 0 ≤ f ∧ f ≤ 4294967295 ∧ lo ≤ s ∧ s ≤ 64 ∧ ∀ H', SameX x H H' → FO c H' x kd 0 f s → Q .non H'
def spI3 (c : Ad) : Sp := fun vs H Q _ => ∃ (x dx : Addr) (e f s : Int), vs = [.ref x, .int e, .int f, .int s] ∧ H x = some (.ins (fOf c 2) dx []) ∧ 0 ≤ e ∧ e ≤ 64 ∧ 0 ≤ f ∧ f ≤ 4294967295 ∧ 0 ≤ s ∧ s ≤ 64 ∧ ∀ H', SameX x H H' → FO c H' x 2 e f s → Q .non H'
def spNums (c : Ad) (kd : Nat) : Sp := fun vs H Q _ => ∃ (x : Addr) (w e f s : Int), vs = [.ref x, .int w] ∧ FO c H x kd e f s ∧ Fm kd e f s ∧ 4 ≤ w ∧ w ≤ 32 ∧ ∀ r H', H r = none → IsG H' r e (nF kd w f) (nA kd f) (nT kd w s) → Same H H' → Q (.ref r) H'
def spNeedF (c : Ad) : Sp := fun vs H Q _ => ∃ (w d : Int) (x : Addr) (kd : Nat) (e f s : Int), vs = [.int w, .int d, .ref x] ∧ 4 ≤ w ∧ w ≤ 32 ∧ 1 ≤ d ∧ d < 2 ^ w.toNat ∧ FO c H x kd e f s ∧ Fm kd e f s ∧ (2 : Int) ^ e.toNat ∣ d ∧ ∀ H', Same H H' → Q .non H'
def spIR (c : Ad) : Sp := fun vs H Q _ => ∃ (w d : Int) (x : Addr) (kd : Nat) (e f s : Int), vs = [.int w, .int d, .ref x] ∧ 4 ≤ w ∧ w ≤ 32 ∧ 1 ≤ d ∧ d < 2 ^ w.toNat ∧ FO c H x kd e f s ∧ Fm kd e f s ∧ (2 : Int) ^ e.toNat ∣ d ∧ ∀ (b : Bool) H', Same H H' → (b = true ↔ AllG e (nF kd w f) (nA kd f) (nT kd w s) d (1 * 2 ^ w.toNat - 1)) → Q (.bl b) H'
def spNumb : Sp := fun vs H Q _ => ∃ (r : Addr) (w : Int) (kd : Nat) (e f s : Int), vs = [.ref r, .int w] ∧ H r = some (.tup (tlv kd e f s)) ∧ Fm kd e f s ∧ 4 ≤ w ∧ w ≤ 32 ∧ ∀ p H', H p = none → IsG H' p e (nF kd w f) (nA kd f) (nT kd w s) → Same H H' → Q (.ref p) H'
def spMakeF (c : Ad) : Sp := fun vs H Q _ => ∃ (r : Addr) (kd : Nat) (e f s : Int), vs = [.ref r] ∧ H r = some (.tup (tlv kd e f s)) ∧ Fm kd e f s ∧ ∀ x H', H x = none → FO c H' x kd e f s → Same H H' → Q (.ref x) H'
def spNear : Sp := fun vs H Q _ => ∃ (p : Addr) (w d : Int), vs = [.ref p, .int w, .int d] ∧ Bx H p ∧ 4 ≤ w ∧ w ≤ 32 ∧ 1 ≤ d ∧ d < 2 ^ w.toNat ∧ ∀ (r : Addr) (kd : Nat) (e f s : Int) H', H r = none → H' r = some (.tup (tlv kd e f s)) → Fm kd e f s → (2 : Int) ^ e.toNat ∣ d → Bx H' p → SameX p H H' → Q (.ref r) H'
def spReckG : Sp := fun vs H Q _ => ∃ (p : Addr) (w d : Int), vs = [.ref p, .int w, .int d] ∧ Bx H p ∧ 2 ≤ w ∧ w ≤ 32 ∧ 1 ≤ d ∧ d ≤ 18446744073709551616 ∧ ∀ (r : Addr) (e f a t : Int) H', H' r = some (.tup [.int e, .int f, .int a, .int t]) → Reck d e f a t → Bx H' p → SameX p H H' → r ≠ p → Q (.ref r) H'
def spDueG : Sp := fun vs H Q _ => ∃ (w d : Int) (r : Addr) (e f a t : Int), vs = [.int w, .int d, .ref r] ∧ 4 ≤ w ∧ w ≤ 32 ∧ 1 ≤ d ∧ d < 2 ^ w.toNat ∧ IsG H r e f a t ∧ RG e f a t ∧ (2 : Int) ^ e.toNat ∣ d ∧ ∀ (b : Bool) H', Same H H' → (b = true ↔ AllG e f a t d (1 * 2 ^ w.toNat - 1)) → Q (.bl b) H'
def spOther : Sp := fun vs H Q _ => ∃ (p : Addr) (w d e : Int), vs = [.ref p, .int w, .int d, .int e] ∧ Bx H p ∧ 4 ≤ w ∧ w ≤ 32 ∧ 1 ≤ d ∧ d < 2 ^ w.toNat ∧ 0 ≤ e ∧ (2 : Int) ^ e.toNat ∣ d ∧ ∀ (r : Addr) (i g : Int) H', H' r = some (.tup [.int i, .int g]) → 4 ≤ i → i ≤ 32 → 1 ≤ g → g < 2 ^ i.toNat → (2 : Int) ^ e.toNat ∣ g → Bx H' p → SameX p H H' → Q (.ref r) H'
def spCase23 (c : Ad) : Sp := fun vs H Q _ => ∃ p : Addr, vs = [.ref p] ∧ Bx H p ∧ ∀ H', SameX p H H' → Q (.bl true) H'
theorem pow32 : (2 ^ (32 : Int).toNat : Int) = 4294967296 := by decide
theorem frX {p t : Addr} {H H' : Hp} (hb : Bx H' p) (x : SameX p H H') (ht : H' t = none) : H t = none := by
  obtain ⟨r1, r2, hb⟩ := hb
  cases e : H t with
  | none => rfl
  | some o =>
    have := x t o (fun z => by rw [z, hb] at ht; cases ht) e
    rw [ht] at this
    cases this
theorem Reck.rg {d e f a t : Int} (h : Reck d e f a t) (d1 : 1 ≤ d) (d2 : d < 4294967296) : RG e f a t := by
  obtain ⟨h1, h2, h3, h4, h5, h6, h7, h8⟩ := h
  have := e_small (w := 32) (by decide) d1 d2 h2 h1
  exact ⟨h1, by omega, h3, h4, h5, h6, h7, h8⟩
/-! signed corners -/
def cutq (x d : Int) : Int := if x < 0 then -((-x) / d) else x / d
inductive SD where
  | cut (f k : Int)
  | turn (kd : Nat) (e f s : Int)
def SD.q : SD → Int → Int → Int
  | .cut f k, w, x => f * x / 2 ^ (w + k).toNat + (if x < 0 then 1 else 0)
  | .turn kd e f s, w, x => if x < 0 then -(brt e (nF kd w f) (nA kd f) (nT kd w s) (-x)) else brt e (nF kd w f) (nA kd f) (nT kd w s) x
def SD.e : SD → Int
  | .cut _ _ => 0
  | .turn _ e _ _ => e
def SD.ok : SD → Prop
  | .cut f k => 0 ≤ f ∧ f ≤ 4294967295 ∧ 0 ≤ k ∧ k ≤ 64
  | .turn kd e f s => Fm kd e f s
def SCM (up down d x : Int) : Prop := (0 ≤ up ∧ CorM up d x) ∨ (0 < down ∧ x < 0 ∧ CorM down d (-x))
theorem SCM.range {up down d x : Int} (d1 : 1 ≤ d) (h : SCM up down d x) : -down ≤ x ∨ 0 ≤ x := by
  rcases h with ⟨h0, c⟩ | ⟨h0, n, c⟩
  · exact .inr (c.range h0 d1).1
  · have := c.range (by omega) d1
    exact .inl (by omega)
theorem SCM.bounds {up down d x : Int} (d1 : 1 ≤ d) (h0 : 0 ≤ up) (hd : 0 ≤ down) (h : SCM up down d x) : -down ≤ x ∧ x ≤ up := by
  rcases h with ⟨h0, c⟩ | ⟨h0, n, c⟩
  · have := c.range h0 d1; omega
  · have := c.range (by omega) d1
    omega
structure SCor (up down d : Int) (zs : List Int) : Prop where
  pw : zs.Pairwise (· < ·)
  mem : ∀ x, x ∈ zs ↔ SCM up down d x
theorem SCor.uniq {up down d : Int} {xs ys : List Int} (a : SCor up down d xs) (b : SCor up down d ys) : xs = ys := sorted_ext a.pw b.pw fun x => (a.mem x).trans (b.mem x).symm
/-- the counts below nought, as the program names them -/
theorem low_mem {down d y : Int} (hd : 0 < down) (d1 : 1 ≤ d) : (y ∈ [1 - d, 1 - down / d * d, -(down / d * d), -down] ∧ -down ≤ y ∧ y < 0) ↔ (y < 0 ∧ CorM down d (-y)) := by
  have h0 := Int.ediv_nonneg (show 0 ≤ down by omega) (show 0 ≤ d by omega)
  have h3 := Int.ediv_mul_le down (show d ≠ 0 by omega)
  have h4 := Int.mul_nonneg h0 (show 0 ≤ d by omega)
  unfold CorM
  simp only [List.mem_cons, List.not_mem_nil, or_false]
  constructor
  · rintro ⟨e | e | e | e, a, b⟩
    · refine ⟨b, ?_⟩
      by_cases c : d - 1 < down
      · rw [if_pos c]; omega
      · omega
    · refine ⟨b, .inr (.inr (.inr (.inr ⟨fun z => ?_, by omega⟩)))⟩
      rw [z, Int.zero_mul] at e
      omega
    · exact ⟨b, .inr (.inr (.inl (by omega)))⟩
    · exact ⟨b, .inr (.inr (.inr (.inl (by omega))))⟩
  · rintro ⟨b, e | e | e | e | ⟨z, e⟩⟩
    · omega
    · by_cases c : d - 1 < down
      · rw [if_pos c] at e
        exact ⟨.inl (by omega), by omega, b⟩
      · rw [if_neg c] at e
        exact ⟨.inr (.inr (.inr (by omega))), by omega, b⟩
    · exact ⟨.inr (.inr (.inl (by omega))), by omega, b⟩
    · exact ⟨.inr (.inr (.inr (by omega))), by omega, b⟩
    · exact ⟨.inr (.inl (by omega)), by omega, b⟩
def spNeedSD : Sp := fun vs H Q _ => ∃ w d : Int, vs = [.int w, .int d] ∧ 4 ≤ w ∧ w ≤ 32 ∧ 1 ≤ d ∧ d ≤ 2 ^ (w - 1).toNat ∧ Q .non H
def spSC : Sp := fun vs H Q _ => ∃ up down d : Int, vs = [.int up, .int down, .int d] ∧ -1 ≤ up ∧ up ≤ 18446744073709551616 ∧ -1 ≤ down ∧ down ≤ 18446744073709551616 ∧ 1 ≤ d ∧ d ≤ 18446744073709551616 ∧ ∀ (p : Addr) (zs : List Int) H', H p = none → H' p = some (.lst (zs.map V.int)) → Same H H' → SCor up down d zs → zs.length ≤ 9 → Q (.ref p) H'
def spSCW : Sp := fun vs H Q _ => ∃ w d : Int, vs = [.int w, .int d] ∧ 4 ≤ w ∧ w ≤ 32 ∧ 1 ≤ d ∧ d ≤ 2 ^ (w - 1).toNat ∧ ∀ (p : Addr) (zs : List Int) H', H p = none → H' p = some (.lst (zs.map V.int)) → Same H H' → SCor (1 * 2 ^ (w - 1).toNat - 1) (1 * 2 ^ (w - 1).toNat) d zs → zs.length ≤ 9 → Q (.ref p) H'
def spSDiv : Sp := fun vs H Q _ => ∃ (p : Addr) (w : Int), vs = [.ref p, .int w] ∧ Bx H p ∧ 4 ≤ w ∧ w ≤ 32 ∧ ∀ (d : Int) H', 1 ≤ d → d ≤ 2 ^ (w - 1).toNat → Bx H' p → SameX p H H' → Q (.int d) H'
def STd (H : Hp) (r : Addr) : SD → Prop
  | .cut f k => H r = some (.tup [.str "cutting", .int f, .int k])
  | .turn kd e f s => ∃ u, H r = some (.tup [.str "turned", .ref u]) ∧ H u = some (.tup (tlv kd e f s))
theorem STd.same {H H' : Hp} {r : Addr} {sd : SD} (x : STd H r sd) (s : Same H H') : STd H' r sd := by
  cases sd with
  | cut f k => exact s _ _ x
  | turn kd e f t => obtain ⟨u, a, b⟩ := x; exact ⟨u, s _ _ a, s _ _ b⟩
def spNearS : Sp := fun vs H Q _ => ∃ (p : Addr) (w d : Int), vs = [.ref p, .int w, .int d] ∧ Bx H p ∧ 4 ≤ w ∧ w ≤ 32 ∧ 1 ≤ d ∧ d < 2 ^ w.toNat ∧ ∀ (r : Addr) (sd : SD) H', H r = none → STd H' r sd → sd.ok → (2 : Int) ^ sd.e.toNat ∣ d → Bx H' p → SameX p H H' → Q (.ref r) H'
def spCut : Sp := fun vs H Q _ => ∃ x d : Int, vs = [.int x, .int d] ∧ 1 ≤ d ∧ d ≤ 18446744073709551616 ∧ Q (.int (cutq x d)) H
def spSQ : Sp := fun vs H Q _ => ∃ (r : Addr) (w x : Int) (sd : SD), vs = [.ref r, .int w, .int x] ∧ 4 ≤ w ∧ w ≤ 32 ∧ -4294967296 ≤ x ∧ x ≤ 4294967296 ∧ STd H r sd ∧ sd.ok ∧ ∀ H', Same H H' → Q (.int (sd.q w x)) H'
def spAllS : Sp := fun vs H Q _ => ∃ (r l : Addr) (w d : Int) (sd : SD) (xs : List Int), vs = [.ref r, .int w, .int d, .ref l] ∧ 4 ≤ w ∧ w ≤ 32 ∧ 1 ≤ d ∧ d ≤ 18446744073709551616 ∧ STd H r sd ∧ sd.ok ∧ H l = some (.lst (xs.map V.int)) ∧ (∀ x ∈ xs, -4294967296 ≤ x ∧ x ≤ 4294967296) ∧ ∀ (b : Bool) H', Same H H' → (b = true ↔ ∀ x ∈ xs, sd.q w x = cutq x d) → Q (.bl b) H'
def spEnds : Sp := fun vs H Q _ => ∃ p : Addr, vs = [.ref p] ∧ Bx H p ∧ ∀ (r : Addr) (up down d : Int) H', H' r = some (.tup [.int up, .int down, .int d]) → -1 ≤ up → up ≤ 18446744073709551616 → -1 ≤ down → down ≤ 18446744073709551616 → 1 ≤ d → d ≤ 18446744073709551616 → Bx H' p → SameX p H H' → Q (.ref r) H'
theorem ph_bounds {w : Int} (h1 : 4 ≤ w) (h2 : w ≤ 32) : 8 ≤ (2 : Int) ^ (w - 1).toNat ∧ (2 : Int) ^ (w - 1).toNat ≤ 2147483648 ∧ 2 * 2 ^ (w - 1).toNat = (2 : Int) ^ w.toNat := by
  have a : (2 : Int) ^ 3 ≤ 2 ^ (w - 1).toNat := p_mono (by omega)
  have b : (2 : Int) ^ (w - 1).toNat ≤ 2 ^ 31 := p_mono (by omega)
  have e : w.toNat = (w - 1).toNat + 1 := by omega
  refine ⟨a, b, ?_⟩
  rw [e, Int.pow_succ, Int.mul_comm]
/-! ### signed forms -/
def sOf (c : Ad) : Nat → Addr
  | 0 => c.Cutting
  | _ => c.Turned
def SD.ix : SD → Nat
  | .cut _ _ => 0
  | .turn _ _ _ _ => 1
theorem SD.ix2 : ∀ sd : SD, sd.ix < 2
  | .cut _ _ => (by decide : 0 < 2)
  | .turn _ _ _ _ => (by decide : 1 < 2)
def SFO (c : Ad) (H : Hp) (x : Addr) : SD → Prop
  | .cut f k => ∃ dx, H x = some (.ins c.Cutting dx [("factor", .int f), ("shift", .int k)])
  | .turn kd e f s => ∃ dx y, H x = some (.ins c.Turned dx [("form", .ref y)]) ∧ FO c H y kd e f s
theorem SFO.same {c : Ad} {H H' : Hp} {x : Addr} {sd : SD} (o : SFO c H x sd) (s : Same H H') : SFO c H' x sd := by
  cases sd with
  | cut f k => obtain ⟨dx, h⟩ := o; exact ⟨dx, s _ _ h⟩
  | turn kd e f t => obtain ⟨dx, y, h, dy, g⟩ := o; exact ⟨dx, y, s _ _ h, dy, s _ _ g⟩
theorem SFO.exc {c : Ad} {H H' : Hp} {x p : Addr} {sd : SD} (o : SFO c H x sd) (b : Bx H p) (s : SameX p H H') : SFO c H' x sd := by
  obtain ⟨r1, r2, hb⟩ := b
  cases sd with
  | cut f k => obtain ⟨dx, h⟩ := o; exact ⟨dx, s _ _ (fun z => by rw [z, hb] at h; cases h) h⟩
  | turn kd e f t => obtain ⟨dx, y, h, dy, g⟩ := o; exact ⟨dx, y, s _ _ (fun z => by rw [z, hb] at h; cases h) h, dy, s _ _ (fun z => by rw [z, hb] at g; cases g) g⟩
theorem STd.exc {H H' : Hp} {r p : Addr} {sd : SD} (o : STd H r sd) (b : Bx H p) (s : SameX p H H') : STd H' r sd := by
  obtain ⟨r1, r2, hb⟩ := b
  cases sd with
  | cut f k => exact s _ _ (fun z => by have h : H r = _ := o; rw [z, hb] at h; cases h) o
  | turn kd e f t => obtain ⟨y, h, g⟩ := o; exact ⟨y, s _ _ (fun z => by rw [z, hb] at h; cases h) h, s _ _ (fun z => by rw [z, hb] at g; cases g) g⟩
/-- the object behind it -/
theorem SFO.ob {c : Ad} {H : Hp} {x : Addr} {sd : SD} (o : SFO c H x sd) : ∃ dx fs, H x = some (.ins (sOf c sd.ix) dx fs) ∧ fs.lookup ("quotient" : Str) = none ∧ fs.lookup ("early_in" : Str) = none := by
  cases sd with
  | cut f k => obtain ⟨dx, h⟩ := o; exact ⟨dx, _, h, rfl, rfl⟩
  | turn kd e f t => obtain ⟨dx, y, h, _⟩ := o; exact ⟨dx, _, h, rfl, rfl⟩
theorem Txt.tyF {K : PySem.W.Frag} {mg : Str → Option Value} {c : Ad} {H : Hp} {x dx : Addr} {fs : List (Str × V)} (T : Txt K mg c) (kd : Nat) (hk : kd < 5) (h : H x = some (.ins (fOf c kd) dx fs)) : TyOf K H (.ref x) (.ref (fOf c kd)) := by
  rcases (by omega : kd = 0 ∨ kd = 1 ∨ kd = 2 ∨ kd = 3 ∨ kd = 4) with rfl | rfl | rfl | rfl | rfl
  · exact TyOf.ins h T.cl_Shifted T.kf_dc_Shifted T.kf_og T.kf_ot T.kf_mo_Shifted
  · exact TyOf.ins h T.cl_Scaled T.kf_dc_Scaled T.kf_og T.kf_ot T.kf_mo_Scaled
  · exact TyOf.ins h T.cl_Early T.kf_dc_Early T.kf_og T.kf_ot T.kf_mo_Early
  · exact TyOf.ins h T.cl_More T.kf_dc_More T.kf_og T.kf_ot T.kf_mo_More
  · exact TyOf.ins h T.cl_Wide T.kf_dc_Wide T.kf_og T.kf_ot T.kf_mo_Wide
theorem Txt.ikF {K : PySem.W.Frag} {mg : Str → Option Value} {c : Ad} (T : Txt K mg c) (kd : Nat) (hk : kd < 5) : PySem.W.kitOne K (.ref (fOf c kd)) (.ref c.Form) = some true := by
  rcases (by omega : kd = 0 ∨ kd = 1 ∨ kd = 2 ∨ kd = 3 ∨ kd = 4) with rfl | rfl | rfl | rfl | rfl
  · exact kit_of T.kf_kc T.kf_kt T.kf_ik_Shifted
  · exact kit_of T.kf_kc T.kf_kt T.kf_ik_Scaled
  · exact kit_of T.kf_kc T.kf_kt T.kf_ik_Early
  · exact kit_of T.kf_kc T.kf_kt T.kf_ik_More
  · exact kit_of T.kf_kc T.kf_kt T.kf_ik_Wide
def spFQ (c : Ad) : Sp := fun vs H Q _ => ∃ (y : Addr) (w x : Int) (kd : Nat) (e f s : Int), vs = [.ref y, .int w, .int x] ∧ FO c H y kd e f s ∧ Fm kd e f s ∧ 4 ≤ w ∧ w ≤ 32 ∧ 0 ≤ x ∧ x ≤ 4294967296 ∧ ∀ H', Same H H' → Q (.int (brt e (nF kd w f) (nA kd f) (nT kd w s) x)) H'
def spIC (c : Ad) : Sp := fun vs H Q _ => ∃ (x dx : Addr) (f s : Int), vs = [.ref x, .int f, .int s] ∧ H x = some (.ins c.Cutting dx []) ∧ 0 ≤ f ∧ f ≤ 4294967295 ∧ 0 ≤ s ∧ s ≤ 64 ∧ ∀ H', SameX x H H' → SFO c H' x (.cut f s) → Q .non H'
def spIT (c : Ad) : Sp := fun vs H Q _ => ∃ (x dx y : Addr) (kd : Nat) (e f s : Int), vs = [.ref x, .ref y] ∧ H x = some (.ins c.Turned dx []) ∧ FO c H y kd e f s ∧ kd < 5 ∧ y ≠ x ∧ ∀ H', SameX x H H' → SFO c H' x (.turn kd e f s) → Q .non H'
def spSQF (c : Ad) (i : Nat) : Sp := fun vs H Q _ => ∃ (x : Addr) (w n : Int) (sd : SD), vs = [.ref x, .int w, .int n] ∧ sd.ix = i ∧ SFO c H x sd ∧ sd.ok ∧ 4 ≤ w ∧ w ≤ 32 ∧ -4294967296 ≤ n ∧ n ≤ 4294967296 ∧ ∀ H', Same H H' → Q (.int (sd.q w n)) H'
def spEI (c : Ad) (i : Nat) : Sp := fun vs H Q _ => ∃ (x : Addr) (w : Int) (sd : SD), vs = [.ref x, .int w] ∧ sd.ix = i ∧ SFO c H x sd ∧ sd.ok ∧ 4 ≤ w ∧ w ≤ 32 ∧ ∀ H', Same H H' → Q (.int sd.e) H'
def spNeedSF (c : Ad) : Sp := fun vs H Q _ => ∃ (w d : Int) (x : Addr) (sd : SD), vs = [.int w, .int d, .ref x] ∧ 4 ≤ w ∧ w ≤ 32 ∧ 1 ≤ d ∧ d ≤ 2 ^ (w - 1).toNat ∧ SFO c H x sd ∧ sd.ok ∧ (2 : Int) ^ sd.e.toNat ∣ d ∧ ∀ H', Same H H' → Q .non H'
def spRAt (c : Ad) : Sp := fun vs H Q _ => ∃ (w d : Int) (x l : Addr) (sd : SD) (xs : List Int), vs = [.int w, .int d, .ref x, .ref l] ∧ 4 ≤ w ∧ w ≤ 32 ∧ 1 ≤ d ∧ d ≤ 18446744073709551616 ∧ SFO c H x sd ∧ sd.ok ∧ H l = some (.lst (xs.map V.int)) ∧ xs.length ≤ 9 ∧ (∀ x ∈ xs, -4294967296 ≤ x ∧ x ≤ 4294967296) ∧ ∀ (b : Bool) H', Same H H' → (b = true ↔ ∀ x ∈ xs, sd.q w x = cutq x d) → Q (.bl b) H'
def AllS (sd : SD) (w d lo hi : Int) : Prop := ∀ x, lo ≤ x → x ≤ hi → sd.q w x = cutq x d
def minI (a b : Int) : Int := if b < a then b else a
def spRAb (c : Ad) : Sp := fun vs H Q _ => ∃ (w d : Int) (x : Addr) (far : Int) (sd : SD), vs = [.int w, .int d, .ref x, .int far] ∧ 4 ≤ w ∧ w ≤ 32 ∧ 1 ≤ d ∧ d ≤ 18446744073709551616 ∧ SFO c H x sd ∧ sd.ok ∧ (2 : Int) ^ sd.e.toNat ∣ d ∧ 0 ≤ far ∧ far ≤ 2 ^ (w - 1).toNat ∧ ∀ (b : Bool) H', Same H H' → (b = true ↔ AllS sd w d (-far) (minI far (1 * 2 ^ (w - 1).toNat - 1))) → Q (.bl b) H'
def spRFS (c : Ad) : Sp := fun vs H Q _ => ∃ (w d : Int) (x : Addr) (sd : SD), vs = [.int w, .int d, .ref x] ∧ 4 ≤ w ∧ w ≤ 32 ∧ 1 ≤ d ∧ d ≤ 2 ^ (w - 1).toNat ∧ SFO c H x sd ∧ sd.ok ∧ (2 : Int) ^ sd.e.toNat ∣ d ∧ ∀ (b : Bool) H', Same H H' → (b = true ↔ AllS sd w d (-(1 * 2 ^ (w - 1).toNat)) (1 * 2 ^ (w - 1).toNat - 1)) → Q (.bl b) H'
def spMakeS (c : Ad) : Sp := fun vs H Q _ => ∃ (r : Addr) (sd : SD), vs = [.ref r] ∧ STd H r sd ∧ sd.ok ∧ ∀ x H', H x = none → SFO c H' x sd → Same H H' → Q (.ref x) H'
def spDueS : Sp := fun vs H Q _ => ∃ (r : Addr) (w d : Int) (sd : SD), vs = [.ref r, .int w, .int d] ∧ 4 ≤ w ∧ w ≤ 32 ∧ 1 ≤ d ∧ d ≤ 2 ^ (w - 1).toNat ∧ STd H r sd ∧ sd.ok ∧ (2 : Int) ^ sd.e.toNat ∣ d ∧ ∀ (b : Bool) H', Same H H' → (b = true ↔ AllS sd w d (-(1 * 2 ^ (w - 1).toNat)) (1 * 2 ^ (w - 1).toNat - 1)) → Q (.bl b) H'
def spOtherS : Sp := fun vs H Q _ => ∃ (p : Addr) (w d e : Int), vs = [.ref p, .int w, .int d, .int e] ∧ Bx H p ∧ 4 ≤ w ∧ w ≤ 32 ∧ 1 ≤ d ∧ d ≤ 2 ^ (w - 1).toNat ∧ 0 ≤ e ∧ (2 : Int) ^ e.toNat ∣ d ∧ ∀ (r : Addr) (i g : Int) H', H' r = some (.tup [.int i, .int g]) → 4 ≤ i → i ≤ 32 → 1 ≤ g → g ≤ 2 ^ (i - 1).toNat → (2 : Int) ^ e.toNat ∣ g → Bx H' p → SameX p H H' → Q (.ref r) H'
def spEarly : Sp := fun vs H Q _ => ∃ (r : Addr) (sd : SD), vs = [.ref r] ∧ STd H r sd ∧ sd.ok ∧ Q (.int sd.e) H
/-- the ceiling -/
theorem ceil_eq {a d : Int} (d1 : 1 ≤ d) : -(-a / d) = (a + d - 1) / d := by
  have h1 := Int.mul_ediv_add_emod (-a) d
  have h2 := Int.emod_nonneg (-a) (show d ≠ 0 by omega)
  have h3 := Int.emod_lt_of_pos (-a) (show 0 < d by omega)
  symm
  refine (dv (show 0 < d by omega)).mpr ?_
  rw [Int.mul_comm d] at h1
  rw [Int.neg_mul]
  omega
/-! ### k25: the candidates of a width and a divisor -/
theorem wide_div {A B d x : Int} (hA : 0 < A) (hB : 0 < B) (d1 : 1 ≤ d) (d2 : d ≤ B) (x0 : 0 ≤ x) (x1 : x < A) : (A * B + d - 1) / d * x / (A * B) = x / d := by
  have AB : 0 < A * B := Int.mul_pos hA hB
  have m1 := Int.ediv_mul_le (A * B + d - 1) (show d ≠ 0 by omega)
  have m2 := Int.lt_ediv_add_one_mul_self (A * B + d - 1) (show 0 < d by omega)
  have q1 := Int.ediv_mul_le x (show d ≠ 0 by omega)
  have q2 := Int.lt_ediv_add_one_mul_self x (show 0 < d by omega)
  have q0 : 0 ≤ x / d := Int.ediv_nonneg x0 (by omega)
  have m0 : 0 ≤ (A * B + d - 1) / d := Int.ediv_nonneg (by omega) (by omega)
  generalize (A * B + d - 1) / d = m at m0 m1 m2 ⊢
  generalize x / d = q at q0 q1 q2 ⊢
  generalize hT : A * B = T at AB m1 m2 ⊢
  rw [Int.add_mul, Int.one_mul] at m2 q2
  refine (dv AB).mpr ⟨?_, ?_⟩
  · have a : q * T ≤ q * (m * d) := Int.mul_le_mul_of_nonneg_left (by omega) q0
    have b : m * (q * d) ≤ m * x := Int.mul_le_mul_of_nonneg_left q1 m0
    rw [Int.mul_left_comm] at a
    omega
  · have a : m * d * x ≤ (T + d - 1) * x := Int.mul_le_mul_of_nonneg_right m1 x0
    have b : T * (x + 1) ≤ T * (q * d + d) := Int.mul_le_mul_of_nonneg_left (by omega) (by omega)
    have c : (d - 1) * x ≤ (B - 1) * (A - 1) := Int.mul_le_mul (by omega) (by omega) x0 (by omega)
    have e : (B - 1) * (A - 1) = T - A - B + 1 := by rw [← hT, Int.sub_mul, Int.mul_sub, Int.mul_sub, Int.mul_comm B A]; omega
    have f : (T + d - 1) * x = T * x + (d - 1) * x := by rw [show T + d - 1 = T + (d - 1) by omega, Int.add_mul]
    have g : T * (x + 1) = T * x + T := by rw [Int.mul_add, Int.mul_one]
    have h : m * x * d < (q * T + T) * d := by
      have h1 : m * x * d = m * d * x := by rw [Int.mul_assoc, Int.mul_comm x d, ← Int.mul_assoc]
      have h2 : (q * T + T) * d = T * (q * d + d) := by rw [Int.add_mul, Int.mul_add, Int.mul_right_comm, Int.mul_comm (q * d) T]
      rw [h1, h2]
      omega
    exact Int.lt_of_mul_lt_mul_right h (by omega)
theorem wide_fac {A B d : Int} (hA : 1 ≤ A) (d1 : 1 ≤ d) (d2 : d ≤ B) (d3 : B ≤ 2 * (d - 1)) (d4 : d < A) : A ≤ (A * B + d - 1) / d ∧ (A * B + d - 1) / d < 2 * A := by
  have a : A * d ≤ A * B := Int.mul_le_mul_of_nonneg_left d2 (by omega)
  have b : A * B ≤ A * (2 * (d - 1)) := Int.mul_le_mul_of_nonneg_left d3 (by omega)
  have e : A * (2 * (d - 1)) = 2 * (A * d) - 2 * A := by rw [Int.mul_left_comm, Int.mul_sub, Int.mul_one, Int.mul_sub]
  refine ⟨Int.le_ediv_of_mul_le (by omega) (by omega), Int.ediv_lt_of_lt_mul (by omega) ?_⟩
  rw [Int.mul_assoc]
  omega
theorem bl_le {d : Int} (d1 : 1 ≤ d) : d ≤ 2 ^ intBits (d - 1) := by
  have h : (d - 1).natAbs < 2 ^ intBits (d - 1) := intBits_le_iff.mp (Nat.le_refl _)
  have e : ((2 ^ intBits (d - 1) : Nat) : Int) = 2 ^ intBits (d - 1) := by rw [Int.natCast_pow]; rfl
  omega
theorem bl_ge {d : Int} (d1 : 1 ≤ d) (h0 : 0 < intBits (d - 1)) : (2 : Int) ^ intBits (d - 1) ≤ 2 * (d - 1) := by
  obtain ⟨n, hn⟩ : ∃ n, intBits (d - 1) = n + 1 := ⟨intBits (d - 1) - 1, by omega⟩
  have h : ¬ intBits (d - 1) ≤ n := by omega
  rw [intBits_le_iff] at h
  have e : ((2 ^ n : Nat) : Int) = 2 ^ n := by rw [Int.natCast_pow]; rfl
  rw [hn, Int.pow_succ]
  omega
theorem bl_32 {d : Int} {w : Int} (w2 : w ≤ 32) (d1 : 1 ≤ d) (d2 : d < 2 ^ w.toNat) : intBits (d - 1) ≤ 32 ∧ intBits d ≤ 32 ∧ 1 ≤ intBits d := by
  have : (2 : Int) ^ w.toNat ≤ 2 ^ 32 := p_mono (by omega)
  refine ⟨intBits_le_iff.mpr (show (d - 1).natAbs < 2 ^ 32 by omega), intBits_le_iff.mpr (show d.natAbs < 2 ^ 32 by omega), ?_⟩
  refine Classical.byContradiction fun z => ?_
  have h := (intBits_le_iff (m := 0) (x := d)).mp (by omega)
  omega
theorem bl_0 {d : Int} (d1 : 1 ≤ d) : intBits (d - 1) = 0 ↔ d = 1 := by
  constructor
  · intro h
    have := bl_le d1
    rw [h, Int.pow_zero] at this
    omega
  · rintro rfl
    rfl
structure Cd where
  kd : Nat
  e : Int
  f : Int
  s : Int
def upI (a b : Int) : Int := (a + b - 1) / b
def cSc (kd : Nat) (e A d : Int) (n : Nat) : List Cd := (List.range n).filterMap fun (k : Nat) => if upI (A * 2 ^ k) d < A then some ⟨kd, e, upI (A * 2 ^ k) d, (k : Int)⟩ else none
def cMo (A d : Int) (n : Nat) : List Cd := (List.range n).filterMap fun (k : Nat) => if 1 ≤ (A * 2 ^ k - 1) / d ∧ (A * 2 ^ k - 1) / d < A then some ⟨3, 0, (A * 2 ^ k - 1) / d, (k : Int)⟩ else none
def cWi (A d : Int) : List Cd := if 0 < intBits (d - 1) then [⟨4, 0, upI (A * 2 ^ intBits (d - 1)) d - A, (intBits (d - 1) : Int)⟩] else []
def cEa (A d t : Int) : List Cd := if 0 < t then cSc 2 t A (d / 2 ^ t.toNat) (intBits (d / 2 ^ t.toNat - 1) + 1) else []
def cAll (A d t : Int) : List Cd := [⟨0, 0, 0, (intBits d : Int) - 1⟩] ++ cSc 1 0 A d (intBits (d - 1) + 1) ++ cEa A d t ++ cMo A d (intBits (d - 1) + 1) ++ cWi A d
theorem cSc_succ (kd : Nat) (e A d : Int) (n : Nat) : cSc kd e A d (n + 1) = cSc kd e A d n ++ (if upI (A * 2 ^ n) d < A then [⟨kd, e, upI (A * 2 ^ n) d, (n : Int)⟩] else []) := by
  unfold cSc
  rw [List.range_succ, List.filterMap_append]
  congr 1
  by_cases h : upI (A * 2 ^ n) d < A
  · rw [if_pos h]; simp only [List.filterMap_cons, List.filterMap_nil, if_pos h]
  · rw [if_neg h]; simp only [List.filterMap_cons, List.filterMap_nil, if_neg h]
theorem cMo_succ (A d : Int) (n : Nat) : cMo A d (n + 1) = cMo A d n ++ (if 1 ≤ (A * 2 ^ n - 1) / d ∧ (A * 2 ^ n - 1) / d < A then [⟨3, 0, (A * 2 ^ n - 1) / d, (n : Int)⟩] else []) := by
  unfold cMo
  rw [List.range_succ, List.filterMap_append]
  congr 1
  by_cases h : 1 ≤ (A * 2 ^ n - 1) / d ∧ (A * 2 ^ n - 1) / d < A
  · rw [if_pos h]; simp only [List.filterMap_cons, List.filterMap_nil, if_pos h]
  · rw [if_neg h]; simp only [List.filterMap_cons, List.filterMap_nil, if_neg h]
theorem cSc_len (kd : Nat) (e A d : Int) (n : Nat) : (cSc kd e A d n).length ≤ n := by
  have := List.length_filterMap_le (fun (k : Nat) => if upI (A * 2 ^ k) d < A then some (⟨kd, e, upI (A * 2 ^ k) d, (k : Int)⟩ : Cd) else none) (List.range n)
  rw [List.length_range] at this
  exact this
theorem cMo_len (A d : Int) (n : Nat) : (cMo A d n).length ≤ n := by
  have := List.length_filterMap_le (fun (k : Nat) => if 1 ≤ (A * 2 ^ k - 1) / d ∧ (A * 2 ^ k - 1) / d < A then some (⟨3, 0, (A * 2 ^ k - 1) / d, (k : Int)⟩ : Cd) else none) (List.range n)
  rw [List.length_range] at this
  exact this
theorem upI_pos {a b : Int} (ha : 1 ≤ a) (hb : 1 ≤ b) : 1 ≤ upI a b := Int.le_ediv_of_mul_le (by omega) (by omega)
theorem cSc_fm {kd : Nat} {e A d : Int} {n : Nat} (hk : kd = 1 ∨ kd = 2) (he : kd ≠ 2 → e = 0) (e0 : 0 ≤ e) (e1 : e ≤ 64) (A1 : 1 ≤ A) (A2 : A ≤ 4294967296) (d1 : 1 ≤ d) (hn : n ≤ 65) : ∀ x ∈ cSc kd e A d n, Fm x.kd x.e x.f x.s ∧ x.e = e := by
  intro x hx
  obtain ⟨k, hk1, hk2⟩ := List.mem_filterMap.mp hx
  have := List.mem_range.mp hk1
  have P : 0 < A * 2 ^ k := Int.mul_pos (by omega) (Int.pow_pos (by decide))
  split at hk2
  · cases hk2
    have := upI_pos (show 1 ≤ A * 2 ^ k by omega) d1
    refine ⟨⟨?_, e0, e1, he, ?_, ?_, ?_, ?_, ?_⟩, rfl⟩ <;> dsimp only <;> omega
  · cases hk2
theorem cMo_fm {A d : Int} {n : Nat} (A2 : A ≤ 4294967296) (hn : n ≤ 65) : ∀ x ∈ cMo A d n, Fm x.kd x.e x.f x.s ∧ x.e = 0 := by
  intro x hx
  obtain ⟨k, hk1, hk2⟩ := List.mem_filterMap.mp hx
  have := List.mem_range.mp hk1
  split at hk2
  · cases hk2
    refine ⟨⟨?_, ?_, ?_, fun _ => rfl, ?_, ?_, ?_, ?_, ?_⟩, rfl⟩ <;> dsimp only <;> omega
  · cases hk2
theorem cWi_fm {w d : Int} (w1 : 4 ≤ w) (w2 : w ≤ 32) (d1 : 1 ≤ d) (d2 : d < 2 ^ w.toNat) : ∀ x ∈ cWi (1 * 2 ^ w.toNat) d, Fm x.kd x.e x.f x.s ∧ x.e = 0 := by
  intro x hx
  unfold cWi at hx
  split at hx
  · next h =>
    cases List.mem_singleton.mp hx
    have b1 := bl_le d1
    have b2 := bl_ge d1 h
    have b3 := (bl_32 w2 d1 d2).1
    have pb := pw_bounds w1 w2
    have b4 := wide_fac (A := 1 * 2 ^ w.toNat) (B := 2 ^ intBits (d - 1)) (by omega) d1 b1 b2 (by omega)
    refine ⟨⟨?_, ?_, ?_, fun _ => rfl, ?_, ?_, ?_, ?_, ?_⟩, rfl⟩ <;> dsimp only [upI] <;> omega
  · cases hx
/-- one of them is right -/
theorem cAll_right {w d t : Int} (w1 : 4 ≤ w) (w2 : w ≤ 32) (d1 : 1 ≤ d) (d2 : d < 2 ^ w.toNat) : ∃ x ∈ cAll (1 * 2 ^ w.toNat) d t, x.e = 0 ∧ AllG x.e (nF x.kd w x.f) (nA x.kd x.f) (nT x.kd w x.s) d (1 * 2 ^ w.toNat - 1) := by
  have pb := pw_bounds w1 w2
  by_cases h : 0 < intBits (d - 1)
  · refine ⟨⟨4, 0, upI (1 * 2 ^ w.toNat * 2 ^ intBits (d - 1)) d - 1 * 2 ^ w.toNat, (intBits (d - 1) : Int)⟩, List.mem_append_right _ (by unfold cWi; rw [if_pos h]; exact List.mem_singleton.mpr rfl), rfl, fun x x0 x1 => ?_⟩
    have b1 := bl_le d1
    have z := wide_div (A := 1 * 2 ^ w.toNat) (B := 2 ^ intBits (d - 1)) (x := x) (by omega) (Int.pow_pos (by decide)) d1 b1 x0 (by omega)
    rw [← z]
    show brt 0 (1 * 2 ^ w.toNat + (upI (1 * 2 ^ w.toNat * 2 ^ intBits (d - 1)) d - 1 * 2 ^ w.toNat)) 0 (w + (intBits (d - 1) : Int)) x = _
    unfold brt upI
    rw [show (w + (intBits (d - 1) : Int)).toNat = w.toNat + intBits (d - 1) by omega, Int.pow_add, Int.one_mul, show (0 : Int).toNat = 0 from rfl, Int.pow_zero, Int.ediv_one, Int.add_zero]
    congr 2
    omega
  · have e := (bl_0 d1).mp (by omega)
    subst e
    exact ⟨⟨0, 0, 0, (intBits 1 : Int) - 1⟩, List.mem_append_left _ (List.mem_append_left _ (List.mem_append_left _ (List.mem_append_left _ (List.mem_singleton.mpr rfl)))), rfl, fun x x0 x1 => by
      show (1 * (x / 2 ^ 0) + 0) / 2 ^ 0 = x / 1
      rw [Int.pow_zero, Int.ediv_one, Int.ediv_one, Int.one_mul, Int.add_zero]⟩
/-! ### lists of forms, lists of tuples -/
def wdF : Nat → Str
  | 0 => "shifted"
  | 1 => "scaled"
  | 2 => "early"
  | 3 => "more"
  | _ => "wide"
def PL (R : Hp → Addr → Cd → Prop) (H : Hp) (ps : List Addr) (xs : List Cd) : Prop := ps.length = xs.length ∧ ∀ (i : Nat) p x, ps[i]? = some p → xs[i]? = some x → R H p x
def FR (c : Ad) (H : Hp) (p : Addr) (x : Cd) : Prop := FO c H p x.kd x.e x.f x.s
def TR (H : Hp) (p : Addr) (x : Cd) : Prop := H p = some (.tup (tlv x.kd x.e x.f x.s))
theorem FR.same {c : Ad} {H H' : Hp} {p : Addr} {x : Cd} (h : FR c H p x) (s : Same H H') : FR c H' p x := let ⟨dx, hx⟩ := h; ⟨dx, s _ _ hx⟩
theorem TR.same {H H' : Hp} {p : Addr} {x : Cd} (h : TR H p x) (s : Same H H') : TR H' p x := s _ _ h
theorem PL.mono {R : Hp → Addr → Cd → Prop} {H H' : Hp} {ps : List Addr} {xs : List Cd} (h : PL R H ps xs) (f : ∀ p x, R H p x → R H' p x) : PL R H' ps xs := ⟨h.1, fun i p x a b => f _ _ (h.2 i p x a b)⟩
theorem PL.nil {R : Hp → Addr → Cd → Prop} {H : Hp} : PL R H [] [] := ⟨rfl, fun i p x a b => by simp at a⟩
theorem PL.append {R : Hp → Addr → Cd → Prop} {H : Hp} {ps qs : List Addr} {xs ys : List Cd} (h : PL R H ps xs) (g : PL R H qs ys) : PL R H (ps ++ qs) (xs ++ ys) := by
  refine ⟨by rw [List.length_append, List.length_append, h.1, g.1], fun i p x a b => ?_⟩
  by_cases hi : i < ps.length
  · rw [List.getElem?_append_left hi] at a
    rw [List.getElem?_append_left (by rw [← h.1]; exact hi)] at b
    exact h.2 i p x a b
  · rw [List.getElem?_append_right (by omega)] at a
    rw [List.getElem?_append_right (by rw [← h.1]; omega), ← h.1] at b
    exact g.2 _ p x a b
theorem PL.one {R : Hp → Addr → Cd → Prop} {H : Hp} {p : Addr} {x : Cd} (h : R H p x) : PL R H [p] [x] := ⟨rfl, fun i q y a b => by
  cases i with
  | zero => cases a; cases b; exact h
  | succ n => simp at a⟩
theorem PL.snoc {R : Hp → Addr → Cd → Prop} {H : Hp} {ps : List Addr} {xs : List Cd} {p : Addr} {x : Cd} (h : PL R H ps xs) (g : R H p x) : PL R H (ps ++ [p]) (xs ++ [x]) := h.append (.one g)
/-- a list of such, at an address -/
def AL (R : Hp → Addr → Cd → Prop) (H : Hp) (a : Addr) (xs : List Cd) : Prop := ∃ ps : List Addr, H a = some (.lst (ps.map V.ref)) ∧ PL R H ps xs
theorem AL.mono {R : Hp → Addr → Cd → Prop} {H H' : Hp} {a : Addr} {xs : List Cd} (h : AL R H a xs) (s : Same H H') (f : ∀ p x, R H p x → R H' p x) : AL R H' a xs := let ⟨ps, e, q⟩ := h; ⟨ps, s _ _ e, q.mono f⟩
theorem AL.sameF {c : Ad} {H H' : Hp} {a : Addr} {xs : List Cd} (h : AL (FR c) H a xs) (s : Same H H') : AL (FR c) H' a xs := h.mono s fun _ _ q => q.same s
theorem AL.sameT {H H' : Hp} {a : Addr} {xs : List Cd} (h : AL TR H a xs) (s : Same H H') : AL TR H' a xs := h.mono s fun _ _ q => q.same s
/-- a change of the list itself touches none of its forms -/
theorem PL.updF {c : Ad} {H : Hp} {l : Addr} {zs ys : List V} {ps : List Addr} {xs : List Cd} (h : PL (FR c) H ps xs) (e : H l = some (.lst zs)) : PL (FR c) (upd H l (.lst ys)) ps xs :=
  h.mono fun p x q => by
    obtain ⟨dx, hx⟩ := q
    exact ⟨dx, by rw [upd_ne (fun z => by rw [z, e] at hx; cases hx)]; exact hx⟩
theorem PL.updT {H : Hp} {l : Addr} {zs ys : List V} {ps : List Addr} {xs : List Cd} (h : PL TR H ps xs) (e : H l = some (.lst zs)) : PL TR (upd H l (.lst ys)) ps xs :=
  h.mono fun p x q => by
    show upd H l _ p = _
    rw [upd_ne (fun z => by unfold TR at q; rw [z, e] at q; cases q)]
    exact q
theorem Same.updL {H H' : Hp} {l : Addr} {o : HO} (s : Same H H') (hl : H l = none) : Same H (upd H' l o) := fun b u e => by rw [upd_ne (ne_of_none e hl)]; exact s b u e
theorem pw_up {w : Int} {n : Nat} (w1 : 4 ≤ w) (w2 : w ≤ 32) (hn : n ≤ 32) : 1 ≤ (1 : Int) * 2 ^ w.toNat * 2 ^ n ∧ (1 : Int) * 2 ^ w.toNat * 2 ^ n ≤ 18446744073709551616 := by
  have pb := pw_bounds w1 w2
  have np : (2 : Int) ^ n ≤ 2 ^ 32 := p_mono hn
  have n0 := p_pos n
  have a : (1 : Int) * 2 ^ w.toNat * 2 ^ n ≤ 4294967296 * 4294967296 := Int.mul_le_mul (by omega) (by omega) (by omega) (by omega)
  have b : 0 < (1 : Int) * 2 ^ w.toNat * 2 ^ n := Int.mul_pos (by omega) n0
  omega
def spWd (kd : Nat) : Sp := fun vs H Q _ => ∃ x : Addr, vs = [.ref x] ∧ Q (.str (wdF kd)) H
def spTold (c : Ad) (kd : Nat) : Sp := fun vs H Q _ => ∃ (x : Addr) (e f s : Int), vs = [.ref x] ∧ FO c H x kd e f s ∧ ∀ r H', H r = none → H' r = some (.tup (tlv kd e f s)) → Same H H' → Q (.ref r) H'
def spCeilF : Sp := fun vs H Q _ => ∃ a d : Int, vs = [.int a, .int d] ∧ 1 ≤ a ∧ a ≤ 18446744073709551616 ∧ 1 ≤ d ∧ d ≤ 18446744073709551616 ∧ Q (.int (upI a d)) H
def spScC (c : Ad) : Sp := fun vs H Q _ => ∃ w d : Int, vs = [.int w, .int d] ∧ 4 ≤ w ∧ w ≤ 32 ∧ 1 ≤ d ∧ d < 2 ^ w.toNat ∧ ∀ l H', H l = none → AL (FR c) H' l (cSc 1 0 (1 * 2 ^ w.toNat) d (intBits (d - 1) + 1)) → Same H H' → Q (.ref l) H'
def spEaC (c : Ad) : Sp := fun vs H Q _ => ∃ w d : Int, vs = [.int w, .int d] ∧ 4 ≤ w ∧ w ≤ 32 ∧ 1 ≤ d ∧ d < 2 ^ w.toNat ∧ ∀ (t : Int) l H', Tw d t → H l = none → AL (FR c) H' l (cEa (1 * 2 ^ w.toNat) d t) → Same H H' → Q (.ref l) H'
def spMoC (c : Ad) : Sp := fun vs H Q _ => ∃ w d : Int, vs = [.int w, .int d] ∧ 4 ≤ w ∧ w ≤ 32 ∧ 1 ≤ d ∧ d < 2 ^ w.toNat ∧ ∀ l H', H l = none → AL (FR c) H' l (cMo (1 * 2 ^ w.toNat) d (intBits (d - 1) + 1)) → Same H H' → Q (.ref l) H'
def spCand (c : Ad) : Sp := fun vs H Q _ => ∃ w d : Int, vs = [.int w, .int d] ∧ 4 ≤ w ∧ w ≤ 32 ∧ 1 ≤ d ∧ d < 2 ^ w.toNat ∧ ∀ (t : Int) l H', Tw d t → H l = none → AL (FR c) H' l (cAll (1 * 2 ^ w.toNat) d t) → Same H H' → Q (.ref l) H'
def spAllT : Sp := fun vs H Q _ => ∃ w d : Int, vs = [.int w, .int d] ∧ 4 ≤ w ∧ w ≤ 32 ∧ 1 ≤ d ∧ d < 2 ^ w.toNat ∧ ∀ (t : Int) l H', Tw d t → H l = none → AL TR H' l (cAll (1 * 2 ^ w.toNat) d t) → Same H H' → Q (.ref l) H'
def spOfC (c : Ad) : Sp := fun vs H Q _ => ∃ (x : Addr) (kd : Nat) (e f s : Int), vs = [.ref x, .str (wdF kd)] ∧ kd < 5 ∧ FO c H x kd e f s ∧ Q (.bl true) H
def spAgr (c : Ad) : Sp := fun vs H Q _ => ∃ (l m : Addr) (xs : List Cd), vs = [.ref l, .ref m] ∧ AL (FR c) H l xs ∧ AL TR H m xs ∧ xs.length ≤ 200 ∧ (∀ x ∈ xs, x.kd < 5) ∧ ∀ H', Same H H' → Q (.bl true) H'
theorem cEa_len (A d t : Int) : (cEa A d t).length ≤ intBits (d / 2 ^ t.toNat - 1) + 1 := by
  unfold cEa
  split
  · exact cSc_len _ _ _ _ _
  · exact Nat.zero_le _
theorem cSc_map (t A d : Int) (n : Nat) : cSc 2 t A d n = (cSc 1 0 A d n).map fun x => ⟨2, t, x.f, x.s⟩ := by
  induction n with
  | zero => rfl
  | succ n ih =>
    rw [cSc_succ, cSc_succ, List.map_append, ih]
    congr 1
    split <;> rfl
theorem cSc_k {kd : Nat} {e A d : Int} {n : Nat} : ∀ x ∈ cSc kd e A d n, x.kd = kd := by
  intro x hx
  obtain ⟨k, _, hk2⟩ := List.mem_filterMap.mp hx
  split at hk2
  · cases hk2; rfl
  · cases hk2
theorem cAll_fm {w d t : Int} (w1 : 4 ≤ w) (w2 : w ≤ 32) (d1 : 1 ≤ d) (d2 : d < 2 ^ w.toNat) (tw : Tw d t) : ∀ x ∈ cAll (1 * 2 ^ w.toNat) d t, Fm x.kd x.e x.f x.s ∧ (2 : Int) ^ x.e.toNat ∣ d := by
  have pb := pw_bounds w1 w2
  have lb := bl_32 w2 d1 d2
  have tl := tw_small d1 (by omega) tw
  have td := tw_div d1 tw
  have lo := (bl_32 w2 td.1 (Int.lt_of_le_of_lt td.2 d2)).1
  have z : ∀ e : Int, e = 0 → (2 : Int) ^ e.toNat ∣ d := fun e h => by rw [h]; exact Int.one_dvd d
  intro x hx
  unfold cAll at hx
  rcases List.mem_append.mp hx with hx | hx
  · rcases List.mem_append.mp hx with hx | hx
    · rcases List.mem_append.mp hx with hx | hx
      · rcases List.mem_append.mp hx with hx | hx
        · cases List.mem_singleton.mp hx
          refine ⟨⟨(by show 0 < 5; decide), ?_, ?_, fun _ => rfl, ?_, ?_, ?_, ?_, ?_⟩, z _ rfl⟩ <;> dsimp only <;> omega
        · have f := cSc_fm (.inl rfl) (fun _ => rfl) (by decide) (by decide) (by omega) (by omega) d1 (by omega) x hx
          exact ⟨f.1, z _ f.2⟩
      · unfold cEa at hx
        split at hx
        · have f := cSc_fm (.inr rfl) (fun h => absurd rfl h) tw.1 tl (by omega) (by omega) td.1 (by omega) x hx
          refine ⟨f.1, ?_⟩
          rw [f.2]
          exact tw_dvd tw tw.1 (Int.le_refl _)
        · cases hx
    · have f := cMo_fm (by omega) (by omega) x hx
      exact ⟨f.1, z _ f.2⟩
  · have f := cWi_fm w1 w2 d1 d2 x hx
    exact ⟨f.1, z _ f.2⟩
theorem cAll_len {w d t : Int} (w1 : 4 ≤ w) (w2 : w ≤ 32) (d1 : 1 ≤ d) (d2 : d < 2 ^ w.toNat) (tw : Tw d t) : (cAll (1 * 2 ^ w.toNat) d t).length ≤ 200 ∧ 1 ≤ (cAll (1 * 2 ^ w.toNat) d t).length := by
  have lb := bl_32 w2 d1 d2
  have td := tw_div d1 tw
  have lo := (bl_32 w2 td.1 (Int.lt_of_le_of_lt td.2 d2)).1
  have a := cSc_len 1 0 (1 * 2 ^ w.toNat) d (intBits (d - 1) + 1)
  have b := cEa_len (1 * 2 ^ w.toNat) d t
  have c := cMo_len (1 * 2 ^ w.toNat) d (intBits (d - 1) + 1)
  have e : (cWi (1 * 2 ^ w.toNat) d).length ≤ 1 := by unfold cWi; split <;> simp
  unfold cAll
  rw [List.length_append, List.length_append, List.length_append, List.length_append, List.length_singleton]
  omega
/-! ### small flat things, and how they are shown -/
def Tx (z : Str) : Prop := z.length ≤ 20 ∧ ∀ c ∈ z.cps.toList, c < 128
def FV (v : V) : Prop := v = .non ∨ (∃ b, v = .bl b) ∨ (∃ i : Int, v = .int i ∧ -(2 ^ 80) < i ∧ i < 2 ^ 80) ∨ ∃ x, v = .str x ∧ Tx x
structure SmD (d : PyData) (n m : Nat) : Prop where
  sh : d.showable = true
  lv : PyData.leavesShort 100 d = true
  dp : d.depth ≤ n
  wt : d.weight ≤ m
  hd : d.hasDict = false
theorem int_len {i : Int} (h0 : -(2 ^ 80) < i) (h1 : i < 2 ^ 80) : (Str.ofString (toString i)).length ≤ 100 := by
  cases i with
  | ofNat m =>
    have e : toString (Int.ofNat m) = m.repr := rfl
    rw [e, PySem.ofString_length]
    exact Nat.le_trans (nat_repr_length_le (k := 80) (by decide) (by have : (m : Int) < 2 ^ 80 := h1; omega)) (by decide)
  | negSucc m =>
    have e : toString (Int.negSucc m) = "-" ++ (m + 1).repr := rfl
    rw [e, PySem.ofString_length, String.length_append]
    have := nat_repr_length_le (n := m + 1) (k := 80) (by decide) (by have := Int.negSucc_eq m; omega)
    have e1 : ("-" : String).length = 1 := rfl
    omega
theorem int_log {i : Int} (h0 : -(2 ^ 80) < i) (h1 : i < 2 ^ 80) : i.natAbs.log2 < 80 := by
  by_cases z : i.natAbs = 0
  · rw [z]; decide
  · exact (Nat.log2_lt z).mpr (by omega)
theorem tx_sm {x : Str} (h : Tx x) : SmD (.str x) 0 100 := by
  refine ⟨by simp [PyData.showable], ?_, by simp [PyData.depth], ?_, by simp [PyData.hasDict]⟩
  · rw [PyData.leavesShort.eq_4, List.all_eq_true]
    intro c hc
    exact decide_eq_true (Nat.lt_trans (h.2 c hc) (by decide))
  · rw [PyData.weight.eq_1]
    exact Nat.le_trans h.1 (by decide)
theorem int_sm {i : Int} (h0 : -(2 ^ 80) < i) (h1 : i < 2 ^ 80) : SmD (.int i) 0 100 := by
  have l := int_log h0 h1
  refine ⟨by simp only [PyData.showable]; exact decide_eq_true (by omega), ?_, by simp [PyData.depth], ?_, by simp [PyData.hasDict]⟩
  · rw [PyData.leavesShort.eq_3]
    exact decide_eq_true (by simp only [PyData.shown]; exact int_len h0 h1)
  · rw [PyData.weight.eq_5]
    split <;> omega
theorem FV.sm {v : V} (h : FV v) : ∃ d, FD v d ∧ SmD d 0 100 := by
  rcases h with rfl | ⟨b, rfl⟩ | ⟨i, rfl, h0, h1⟩ | ⟨x, rfl, h⟩
  · exact ⟨_, .non, by simp [PyData.showable], by simp [PyData.leavesShort], by simp [PyData.depth], by simp [PyData.weight], by simp [PyData.hasDict]⟩
  · exact ⟨_, .bl b, by simp [PyData.showable], by simp [PyData.leavesShort], by simp [PyData.depth], by simp [PyData.weight], by simp [PyData.hasDict]⟩
  · exact ⟨_, .int i, int_sm h0 h1⟩
  · exact ⟨_, .str x, tx_sm h⟩
theorem FV.th {v : V} {H : Hp} (h : FV v) : Th H v := by
  rcases h with rfl | ⟨b, rfl⟩ | ⟨i, rfl, _⟩ | ⟨x, rfl, _⟩
  · exact .non
  · exact .bl b
  · exact .int i
  · exact .str x
theorem FD.rd {v : V} {d : PyData} {H : Hp} (h : FD v d) : RD H v d := by
  cases h with
  | non => exact .non
  | bl b => exact .bl b
  | int i => exact .int i
  | str x => exact .str x
/-- lists of small things -/
structure SmL (ds : List PyData) (n m : Nat) : Prop where
  sh : PyData.showableAll ds = true
  lv : PyData.leavesShortAll 100 ds = true
  dp : PyData.depthAll ds ≤ n
  wt : PyData.weightAll ds ≤ m
  hd : PyData.hasDictAll ds = false
theorem SmL.nil {n m : Nat} : SmL [] n m := ⟨by simp [PyData.showableAll], by simp [PyData.leavesShortAll], by simp [PyData.depthAll], by simp [PyData.weightAll], by simp [PyData.hasDictAll]⟩
theorem SmL.cons {d : PyData} {ds : List PyData} {n m k : Nat} (a : SmD d n k) (b : SmL ds n m) : SmL (d :: ds) n (m + k + 1) := by
  refine ⟨by simp [PyData.showableAll, a.sh, b.sh], by simp [PyData.leavesShortAll, a.lv, b.lv], ?_, ?_, by simp [PyData.hasDictAll, a.hd, b.hd]⟩
  · rw [PyData.depthAll.eq_2]; exact Nat.max_le.mpr ⟨a.dp, b.dp⟩
  · rw [PyData.weightAll.eq_2]; have := a.wt; have := b.wt; omega
theorem SmL.list {ds : List PyData} {n m : Nat} (a : SmL ds n m) : SmD (.list ds) (n + 1) m := by
  refine ⟨by simp [PyData.showable, a.sh], by simp [PyData.leavesShort, a.lv], by rw [PyData.depth.eq_1]; exact Nat.succ_le_succ a.dp, by rw [PyData.weight.eq_2]; exact a.wt, by simp [PyData.hasDict, a.hd]⟩
theorem SmL.tup {ds : List PyData} {n m : Nat} (a : SmL ds n m) : SmD (.tuple ds) (n + 1) m := by
  refine ⟨by simp [PyData.showable, a.sh], by simp [PyData.leavesShort, a.lv], by rw [PyData.depth.eq_2]; exact Nat.succ_le_succ a.dp, by rw [PyData.weight.eq_3]; exact a.wt, by simp [PyData.hasDict, a.hd]⟩
theorem sh_fits {d : PyData} {m : Nat} (h : PyData.leavesShort 100 d = true) (w : d.weight ≤ m) (hm : m ≤ 100000) : d.shown.length ≤ sizeLine := by
  have := PyData.shown_le 100 (by decide) d h
  have z : (10300000 : Nat) ≤ sizeLine := by decide
  have : (100 + 2) * d.weight ≤ 102 * 100000 := Nat.mul_le_mul_left 102 (Nat.le_trans w hm)
  omega
def RpOk (H : Hp) (x : V) : Prop := ∃ d : PyData, (RD H x d ∧ d.hasDict = false ∨ ∃ a kvs D, x = .ref a ∧ H a = some (.dK kvs) ∧ FDs kvs D ∧ d = .dict D) ∧ d.showable = true ∧ d.depth ≤ 20 ∧ d.shown.length ≤ sizeLine
theorem RpOk.same {H H' : Hp} {x : V} (r : RpOk H x) (q : Same H H') : RpOk H' x := by
  obtain ⟨d, h | ⟨a, kvs, D, e1, e2, e3, e4⟩, r⟩ := r
  · exact ⟨d, .inl ⟨h.1.same q, h.2⟩, r⟩
  · exact ⟨d, .inr ⟨a, kvs, D, e1, q _ _ e2, e3, e4⟩, r⟩
theorem SmD.ok {H : Hp} {x : V} {d : PyData} {n m : Nat} (r : RD H x d) (s : SmD d n m) (hn : n ≤ 20) (hm : m ≤ 100000) : RpOk H x :=
  ⟨d, .inl ⟨r, s.hd⟩, s.sh, Nat.le_trans s.dp hn, sh_fits s.lv s.wt hm⟩
/-! ### tables of prices -/
def rw16 : List Str := ["set", "copy", "sum", "gap", "low", "high", "left", "right", "slide", "and", "or", "unlike", "under", "pick", "mark", "turns"]
/-- keys are short texts, values small flat things -/
structure Tb (n : Nat) (kvs : List (Key × V)) : Prop where
  ln : kvs.length ≤ n
  ok : ∀ kv ∈ kvs, (∃ x, kv.1 = .inr x ∧ Tx x) ∧ FV kv.2
theorem Tb.dict {n : Nat} {kvs : List (Key × V)} (t : Tb n kvs) (hn : n ≤ 400) : ∃ D, FDs kvs D ∧ (PyData.dict D).showable = true ∧ (PyData.dict D).depth ≤ 20 ∧ (PyData.dict D).shown.length ≤ sizeLine := by
  have key : ∀ kvs : List (Key × V), (∀ kv ∈ kvs, (∃ x, kv.1 = .inr x ∧ Tx x) ∧ FV kv.2) → ∃ D, FDs kvs D ∧ PyData.showableKv D = true ∧ PyData.leavesShortKv 100 D = true ∧ PyData.depthKv D ≤ 0 ∧ PyData.weightKv D ≤ 202 * kvs.length := by
    intro kvs
    induction kvs with
    | nil => intro _; exact ⟨[], .nil, by simp [PyData.showableKv], by simp [PyData.leavesShortKv], by simp [PyData.depthKv], by simp [PyData.weightKv]⟩
    | cons kv r ih =>
      intro h
      obtain ⟨D, f, a, b, c, e⟩ := ih fun z hz => h z (List.mem_cons_of_mem _ hz)
      obtain ⟨⟨x, hx, tx⟩, fv⟩ := h kv (List.mem_cons_self ..)
      obtain ⟨d, fd, sm⟩ := fv.sm
      obtain ⟨k, v⟩ := kv
      dsimp only at hx fd
      subst hx
      have sk := tx_sm tx
      refine ⟨(.str x, d) :: D, .cons fd f, ?_, ?_, ?_, ?_⟩
      · simp [PyData.showableKv, sk.sh, sm.sh, a]
      · simp [PyData.leavesShortKv, sk.lv, sm.lv, b]
      · rw [PyData.depthKv.eq_2]; exact Nat.max_le.mpr ⟨Nat.max_le.mpr ⟨sk.dp, sm.dp⟩, c⟩
      · rw [PyData.weightKv.eq_2, List.length_cons]; have := sk.wt; have := sm.wt; omega
  obtain ⟨D, f, a, b, c, e⟩ := key kvs t.ok
  refine ⟨D, f, by simp [PyData.showable, a], by rw [PyData.depth.eq_3]; omega, sh_fits (m := 202 * kvs.length) (by simp [PyData.leavesShort, b]) (by rw [PyData.weight.eq_4]; exact e) (by have := t.ln; omega)⟩
theorem valV_mem {kvs : List (Key × V)} {k : Key} {v : V} (h : valV kvs k = some v) : ∃ kv ∈ kvs, kv.1 = k ∧ kv.2 = v := by
  unfold valV at h
  obtain ⟨kv, h1, h2⟩ := Option.map_eq_some_iff.mp h
  exact ⟨kv, List.mem_of_find?_eq_some h1, by simpa using List.find?_some h1, h2⟩
theorem Tb.put {n : Nat} {kvs : List (Key × V)} {x : Str} {v : V} (t : Tb n kvs) (hx : Tx x) (hv : FV v) : Tb (n + 1) (putK kvs (.inr x) v) := by
  refine ⟨Nat.le_trans (length_putK kvs _ v) (Nat.succ_le_succ t.ln), fun kv h => ?_⟩
  unfold putK at h
  split at h
  · obtain ⟨p, hp, rfl⟩ := List.mem_map.mp h
    split
    · next e => exact ⟨⟨x, e, hx⟩, hv⟩
    · exact t.ok p hp
  · rcases List.mem_append.mp h with h | h
    · exact t.ok kv h
    · cases List.mem_singleton.mp h
      exact ⟨⟨x, rfl, hx⟩, hv⟩
theorem Tb.drop {n : Nat} {kvs : List (Key × V)} {k : Key} (t : Tb n kvs) : Tb n (dropK kvs k) := ⟨Nat.le_trans (dropK_le kvs k) t.ln, fun kv h => t.ok kv (dropK_mem h)⟩
theorem Tb.le {n m : Nat} {kvs : List (Key × V)} (t : Tb n kvs) (h : n ≤ m) : Tb m kvs := ⟨Nat.le_trans t.ln h, t.ok⟩
def PrOk (o : Option V) : Prop := ∃ i : Int, o = some (.int i) ∧ 0 ≤ i ∧ i ≤ 1000
def GoodD (kvs : List (Key × V)) : Prop := ∀ x ∈ rw16, PrOk (valV kvs (.inr x))
def GoodP (H : Hp) (x : V) : Prop := ∃ a kvs, x = .ref a ∧ H a = some (.dK kvs) ∧ GoodD kvs
def DFl (H : Hp) (x : V) : Prop := ∀ a kvs, x = .ref a → H a = some (.dK kvs) → ∀ kv ∈ kvs, FV kv.2
def pz (kvs : List (Key × V)) (x : Str) : Int := match valV kvs (.inr x) with | some (.int i) => i | _ => 0
def cost (kvs : List (Key × V)) (l : List Str) : Int := (l.map (pz kvs)).sum
theorem GoodD.at {kvs : List (Key × V)} (g : GoodD kvs) {x : Str} (hx : x ∈ rw16) : valV kvs (.inr x) = some (.int (pz kvs x)) ∧ 0 ≤ pz kvs x ∧ pz kvs x ≤ 1000 := by
  obtain ⟨i, e, h⟩ := g x hx
  unfold pz
  rw [e]
  exact ⟨rfl, h⟩
theorem GoodD.put {kvs : List (Key × V)} (g : GoodD kvs) {x : Str} {i : Int} (h0 : 0 ≤ i) (h1 : i ≤ 1000) : GoodD (putK kvs (.inr x) (.int i)) := fun y hy => by
  rw [valV_put]
  split
  · exact ⟨i, rfl, h0, h1⟩
  · exact g y hy
theorem GoodD.more {kvs : List (Key × V)} (g : GoodD kvs) {x : Str} {v : V} (h : x ∉ rw16) : GoodD (putK kvs (.inr x) v) := fun y hy => by
  rw [valV_put, if_neg (fun z => h (by injection z with z; exact z ▸ hy))]
  exact g y hy
theorem btw_ok {v : V} (h : btw v 0 1000 = true) : PrOk (some v) := by
  cases v with
  | int i =>
    have h' : (decide (0 ≤ i) && decide (i ≤ 1000)) = true := h
    rw [Bool.and_eq_true, decide_eq_true_iff, decide_eq_true_iff] at h'
    exact ⟨i, rfl, h'⟩
  | _ => cases h
theorem btw_no {o : Option V} (h : btw (o.getD .non) 0 1000 = false) : ¬ PrOk o := by
  rintro ⟨i, rfl, h0, h1⟩
  have h' : (decide (0 ≤ i) && decide (i ≤ 1000)) = false := h
  rw [decide_eq_true h0, decide_eq_true h1] at h'
  cases h'
theorem tx_rw : ∀ x ∈ rw16, Tx x := by
  have : ∀ x ∈ rw16, x.length ≤ 20 ∧ ∀ c ∈ x.cps.toList, c < 128 := by decide +kernel
  exact this
theorem fv_small {i : Int} (h0 : -(2 ^ 80) < i) (h1 : i < 2 ^ 80) : FV (.int i) := .inr (.inr (.inl ⟨i, rfl, h0, h1⟩))
theorem DFl.of {n : Nat} {H : Hp} {a : Addr} {kvs : List (Key × V)} (h : H a = some (.dK kvs)) (t : Tb n kvs) : DFl H (.ref a) := fun b k e h' kv hk => by
  cases e
  rw [h] at h'
  cases h'
  exact (t.ok kv hk).2
theorem DFl.same {H H' : Hp} {x : V} (t : Th H x) (d : DFl H x) (s : Same H H') : DFl H' x := fun a kvs e h => by
  subst e
  cases t with
  | lst h1 => rw [s _ _ h1] at h; cases h
  | tup h1 => rw [s _ _ h1] at h; cases h
  | dct h1 => rw [s _ _ h1] at h; cases h; exact d a _ rfl h1
theorem no_good {H : Hp} {a : Addr} {o : HO} (h : H a = some o) (hn : ∀ kvs, o ≠ .dK kvs) : ¬ GoodP H (.ref a) := by
  rintro ⟨b, kvs, e, h', _⟩
  cases e
  rw [h] at h'
  cases h'
  exact hn _ rfl
theorem bad_put {H : Hp} {a : Addr} {kvs : List (Key × V)} {x : Str} {v : V} (h : H a = some (.dK (putK kvs (.inr x) v))) (hx : x ∈ rw16) (hv : ¬ PrOk (some v)) : ¬ GoodP H (.ref a) := by
  rintro ⟨b, k2, e, h', g⟩
  cases e
  rw [h] at h'
  cases h'
  have := g x hx
  rw [valV_put, if_pos rfl] at this
  exact hv this
theorem valV_drop {kvs : List (Key × V)} {k : Key} : valV (dropK kvs k) k = none := by
  unfold valV dropK
  rw [Option.map_eq_none_iff, List.find?_eq_none]
  intro kv h
  have := (List.mem_filter.mp h).2
  simpa using this
theorem bad_drop {H : Hp} {a : Addr} {kvs : List (Key × V)} {x : Str} (h : H a = some (.dK (dropK kvs (.inr x)))) (hx : x ∈ rw16) : ¬ GoodP H (.ref a) := by
  rintro ⟨b, k2, e, h', g⟩
  cases e
  rw [h] at h'
  cases h'
  obtain ⟨i, e, _⟩ := g x hx
  rw [valV_drop] at e
  cases e
def rA : Nat → List Str
  | 0 => []
  | 1 => ["set", "high"]
  | 2 => ["right", "set", "high"]
  | 3 => ["set", "low", "sum", "high", "sum"]
  | _ => ["set", "high", "gap", "right", "sum"]
def dn (kd : Nat) : Int := if kd = 4 then 1 else 0
def fw (kd : Nat) (s : Int) : List Str := rA kd ++ (if dn kd < s then [("right" : Str)] else [])
theorem fw_mem {kd : Nat} {s : Int} : ∀ x ∈ fw kd s, x ∈ rw16 := by
  intro x h
  unfold fw at h
  rcases List.mem_append.mp h with h | h
  · have : ∀ x ∈ rA kd, x ∈ rw16 := by
      unfold rA
      split <;> decide +kernel
    exact this x h
  · split at h
    · cases List.mem_singleton.mp h; decide +kernel
    · cases h
theorem fw_len {kd : Nat} {s : Int} : (fw kd s).length ≤ 6 := by
  unfold fw
  rw [List.length_append]
  have : (rA kd).length ≤ 5 := by unfold rA; split <;> decide
  split <;> simp <;> omega
theorem imp_whole : ∀ vs H Q E, spWhole vs H Q E → spWholeG vs H Q E := fun _ _ _ _ ⟨i, hv, q⟩ => ⟨.int i, hv, .int i, q⟩
theorem imp_between : ∀ vs H Q E, spBetween vs H Q E → spBtwG vs H Q E := fun _ H Q _ ⟨i, lo, hi, hv, h1, h2, q⟩ => ⟨.int i, lo, hi, hv, .int i, by show Q (.bl (decide (lo ≤ i) && decide (i ≤ hi))) H; rw [decide_eq_true h1, decide_eq_true h2]; exact q⟩
def ents (t : Nat → Tok) (b : Nat → Addr) : List (Str × Tok × Addr) := [("shifted", t 0, b 0), ("scaled", t 1, b 1), ("early", t 2, b 2), ("more", t 3, b 3), ("wide", t 4, b 4)]
def RowsA (K : PySem.W.Frag) (P : Program) (w : World) (a : Addr) : Prop := ∃ (t : Nat → Tok) (b : Nat → Addr), GD K P w a ((ents t b).map gVal) ∧ ∀ i, i < 5 → ∀ H, SqT K H (b i) ((rA i).map V.str)
def spNP (c : Ad) : Sp := fun vs H Q E => ∃ x : V, vs = [x] ∧ Th H x ∧ DFl H x ∧ (∀ a kvs, x = .ref a → H a = some (.dK kvs) → GoodD kvs → ∀ t tk H', H t = none → H' t = some (.dK tk) → (∀ y ∈ rw16, valV tk (.inr y) = valV kvs (.inr y)) → Same H H' → Q (.ref t) H') ∧ (¬ GoodP H x → ∀ d H', H' d = some (.xd [("found", x)]) → Same H H' → E (.ref c.NoPrices) (some d) H')
def spFW (c : Ad) : Sp := fun vs H Q _ => ∃ (x : Addr) (kd : Nat) (e f s : Int), vs = [.ref x] ∧ FO c H x kd e f s ∧ Fm kd e f s ∧ ∀ l H', H l = none → H' l = some (.lst ((fw kd s).map V.str)) → Same H H' → Q (.ref l) H'
def spPF (c : Ad) : Sp := fun vs H Q E => ∃ (x : Addr) (kd : Nat) (e f s : Int) (p : V), vs = [.ref x, p] ∧ FO c H x kd e f s ∧ Fm kd e f s ∧ Th H p ∧ DFl H p ∧ (∀ a kvs, p = .ref a → H a = some (.dK kvs) → GoodD kvs → ∀ H', Same H H' → Q (.int (cost kvs (fw kd s))) H') ∧ (¬ GoodP H p → ∀ d H', H' d = some (.xd [("found", p)]) → Same H H' → E (.ref c.NoPrices) (some d) H')
def spRW : Sp := fun vs H Q _ => vs = [] ∧ ∀ l, H l = none → Q (.ref l) (upd H l (.lst (rw16.map V.str)))
def spPr : Sp := fun vs H Q _ => ∃ p : Addr, vs = [.ref p] ∧ Bx H p ∧ ∀ (a : Addr) (kvs : List (Key × V)) H', H a = none → H' a = some (.dK kvs) → GoodD kvs → Tb 40 kvs → Bx H' p → SameX p H H' → Q (.ref a) H'
def spNoPr : Sp := fun vs H Q _ => ∃ p : Addr, vs = [.ref p] ∧ Bx H p ∧ ∀ (x : V) H', Th H' x → DFl H' x → ¬ GoodP H' x → RpOk H' x → Bx H' p → SameX p H H' → Q x H'
def spMO : Sp := fun vs H Q _ => ∃ (r : Addr) (kd : Nat) (e f s : Int), vs = [.ref r] ∧ H r = some (.tup (tlv kd e f s)) ∧ Fm kd e f s ∧ ∀ l H', H l = none → H' l = some (.lst ((fw kd s).map V.str)) → Same H H' → Q (.ref l) H'
def spAny : Sp := fun vs H Q _ => ∃ p : Addr, vs = [.ref p] ∧ Bx H p ∧ ∀ (r : Addr) (kd : Nat) (e f s : Int) H', H r = none → H' r = some (.tup (tlv kd e f s)) → Fm kd e f s → Bx H' p → SameX p H H' → Q (.ref r) H'
def spPrice : Sp := fun vs H Q _ => ∃ (r : Addr) (kd : Nat) (e f s : Int) (a : Addr) (kvs : List (Key × V)), vs = [.ref r, .ref a] ∧ H r = some (.tup (tlv kd e f s)) ∧ Fm kd e f s ∧ H a = some (.dK kvs) ∧ GoodD kvs ∧ ∀ H', Same H H' → Q (.int (cost kvs (fw kd s))) H'
def spCosts (c : Ad) : Sp := fun vs H Q _ => ∃ (x r : Addr) (kd : Nat) (e f s : Int) (a : Addr) (kvs : List (Key × V)), vs = [.ref x, .ref r, .ref a] ∧ FO c H x kd e f s ∧ H r = some (.tup (tlv kd e f s)) ∧ Fm kd e f s ∧ H a = some (.dK kvs) ∧ GoodD kvs ∧ Tb 100 kvs ∧ ∀ H', Same H H' → Q (.bl true) H'
def spRefu (c : Ad) : Sp := fun vs H Q _ => ∃ (x : Addr) (kd : Nat) (e f s : Int) (p : V), vs = [.ref x, p] ∧ FO c H x kd e f s ∧ Fm kd e f s ∧ Th H p ∧ DFl H p ∧ ¬ GoodP H p ∧ RpOk H p ∧ ∀ H', Same H H' → Q (.bl true) H'
theorem FO.same {c : Ad} {H H' : Hp} {x : Addr} {kd : Nat} {e f s : Int} (h : FO c H x kd e f s) (q : Same H H') : FO c H' x kd e f s := by
  obtain ⟨dx, h⟩ := h
  exact ⟨dx, q _ _ h⟩
theorem kit_dct_dct (K : PySem.W.Frag) : PySem.W.kitOne K (.type "dict") (.type "dict") = some true := by with_unfolding_all rfl
theorem kit_int_dct (K : PySem.W.Frag) : PySem.W.kitOne K (.type "int") (.type "dict") = some false := by with_unfolding_all rfl
theorem kit_bl_dct (K : PySem.W.Frag) : PySem.W.kitOne K (.type "bool") (.type "dict") = some false := by with_unfolding_all rfl
theorem kit_str_dct (K : PySem.W.Frag) : PySem.W.kitOne K (.type "str") (.type "dict") = some false := by with_unfolding_all rfl
theorem kit_non_dct (K : PySem.W.Frag) : PySem.W.kitOne K (.type "NoneType") (.type "dict") = some false := by with_unfolding_all rfl
theorem kit_lst_dct (K : PySem.W.Frag) : PySem.W.kitOne K (.type "list") (.type "dict") = some false := by with_unfolding_all rfl
theorem kit_tup_dct (K : PySem.W.Frag) : PySem.W.kitOne K (.type "tuple") (.type "dict") = some false := by with_unfolding_all rfl
theorem kit_lst_lst (K : PySem.W.Frag) : PySem.W.kitOne K (.type "list") (.type "list") = some true := by with_unfolding_all rfl
theorem rows_at {t : Nat → Tok} {b : Nat → Addr} {kd : Nat} (h : kd < 5) : valueAt ((ents t b).map gVal) (.inr (wdF kd)) = some (.ref (b kd)) := by
  rcases (by omega : kd = 0 ∨ kd = 1 ∨ kd = 2 ∨ kd = 3 ∨ kd = 4) with rfl | rfl | rfl | rfl | rfl <;> rfl
theorem Txt.shf {K : PySem.W.Frag} {mg : Str → Option Value} {c : Ad} (T : Txt K mg c) {kd : Nat} (h : kd < 5) : Cls K (fOf c kd) ∧ NoAttr K (fOf c kd) "shift" := by
  rcases (by omega : kd = 0 ∨ kd = 1 ∨ kd = 2 ∨ kd = 3 ∨ kd = 4) with rfl | rfl | rfl | rfl | rfl
  · exact ⟨T.cl_Shifted, T.na_Shifted_shift⟩
  · exact ⟨T.cl_Scaled, T.na_Scaled_shift⟩
  · exact ⟨T.cl_Early, T.na_Early_shift⟩
  · exact ⟨T.cl_More, T.na_More_shift⟩
  · exact ⟨T.cl_Wide, T.na_Wide_shift⟩
theorem fl_word {kd : Nat} {e f s : Int} : (flds kd e f s).lookup ("word" : Str) = none := by
  unfold flds
  split <;> rfl
theorem fl_shift {kd : Nat} {e f s : Int} : (flds kd e f s).lookup ("shift" : Str) = some (.int s) := by
  unfold flds
  split <;> rfl
/-! ### lists of signed forms -/
def QL {α : Type} (R : Hp → Addr → α → Prop) (H : Hp) (ps : List Addr) (xs : List α) : Prop := ps.length = xs.length ∧ ∀ (i : Nat) p x, ps[i]? = some p → xs[i]? = some x → R H p x
theorem QL.mono {α : Type} {R : Hp → Addr → α → Prop} {H H' : Hp} {ps : List Addr} {xs : List α} (h : QL R H ps xs) (f : ∀ p x, R H p x → R H' p x) : QL R H' ps xs := ⟨h.1, fun i p x a b => f _ _ (h.2 i p x a b)⟩
theorem QL.nil {α : Type} {R : Hp → Addr → α → Prop} {H : Hp} : QL R H [] ([] : List α) := ⟨rfl, fun i p x a b => by simp at a⟩
theorem QL.append {α : Type} {R : Hp → Addr → α → Prop} {H : Hp} {ps qs : List Addr} {xs ys : List α} (h : QL R H ps xs) (g : QL R H qs ys) : QL R H (ps ++ qs) (xs ++ ys) := by
  refine ⟨by rw [List.length_append, List.length_append, h.1, g.1], fun i p x a b => ?_⟩
  by_cases hi : i < ps.length
  · rw [List.getElem?_append_left hi] at a
    rw [List.getElem?_append_left (by rw [← h.1]; exact hi)] at b
    exact h.2 i p x a b
  · rw [List.getElem?_append_right (by omega)] at a
    rw [List.getElem?_append_right (by rw [← h.1]; omega), ← h.1] at b
    exact g.2 _ p x a b
theorem QL.one {α : Type} {R : Hp → Addr → α → Prop} {H : Hp} {p : Addr} {x : α} (h : R H p x) : QL R H [p] [x] := ⟨rfl, fun i q y a b => by
  cases i with
  | zero => cases a; cases b; exact h
  | succ n => simp at a⟩
theorem QL.snoc {α : Type} {R : Hp → Addr → α → Prop} {H : Hp} {ps : List Addr} {xs : List α} {p : Addr} {x : α} (h : QL R H ps xs) (g : R H p x) : QL R H (ps ++ [p]) (xs ++ [x]) := h.append (.one g)
def BL {α : Type} (R : Hp → Addr → α → Prop) (H : Hp) (a : Addr) (xs : List α) : Prop := ∃ ps : List Addr, H a = some (.lst (ps.map V.ref)) ∧ QL R H ps xs
theorem BL.mono {α : Type} {R : Hp → Addr → α → Prop} {H H' : Hp} {a : Addr} {xs : List α} (h : BL R H a xs) (s : Same H H') (f : ∀ p x, R H p x → R H' p x) : BL R H' a xs := let ⟨ps, e, q⟩ := h; ⟨ps, s _ _ e, q.mono f⟩
theorem BL.sameF {c : Ad} {H H' : Hp} {a : Addr} {xs : List SD} (h : BL (SFO c) H a xs) (s : Same H H') : BL (SFO c) H' a xs := h.mono s fun _ _ q => q.same s
theorem BL.sameT {H H' : Hp} {a : Addr} {xs : List SD} (h : BL STd H a xs) (s : Same H H') : BL STd H' a xs := h.mono s fun _ _ q => q.same s
theorem SFO.updL {c : Ad} {H : Hp} {l x : Addr} {zs ys : List V} {sd : SD} (o : SFO c H x sd) (e : H l = some (.lst zs)) : SFO c (upd H l (.lst ys)) x sd := by
  cases sd with
  | cut f k => obtain ⟨dx, h⟩ := o; exact ⟨dx, by rw [upd_ne (fun z => by rw [z, e] at h; cases h)]; exact h⟩
  | turn kd e' f t => obtain ⟨dx, y, h, dy, g⟩ := o; exact ⟨dx, y, by rw [upd_ne (fun z => by rw [z, e] at h; cases h)]; exact h, dy, by rw [upd_ne (fun z => by rw [z, e] at g; cases g)]; exact g⟩
theorem STd.updL {H : Hp} {l x : Addr} {zs ys : List V} {sd : SD} (o : STd H x sd) (e : H l = some (.lst zs)) : STd (upd H l (.lst ys)) x sd := by
  cases sd with
  | cut f k =>
    have h : H x = _ := o
    show upd H l _ x = _
    rw [upd_ne (fun z => by rw [z, e] at h; cases h)]; exact h
  | turn kd e' f t => obtain ⟨y, h, g⟩ := o; exact ⟨y, by rw [upd_ne (fun z => by rw [z, e] at h; cases h)]; exact h, by rw [upd_ne (fun z => by rw [z, e] at g; cases g)]; exact g⟩
def cCu (A d : Int) (n : Nat) : List SD := (List.range n).filterMap fun (k : Nat) => if A * 2 ^ k / d + 1 < A then some (.cut (A * 2 ^ k / d + 1) (k : Int)) else none
theorem cCu_succ (A d : Int) (n : Nat) : cCu A d (n + 1) = cCu A d n ++ (if A * 2 ^ n / d + 1 < A then [.cut (A * 2 ^ n / d + 1) (n : Int)] else []) := by
  unfold cCu
  rw [List.range_succ, List.filterMap_append]
  congr 1
  by_cases h : A * 2 ^ n / d + 1 < A
  · rw [if_pos h]; simp only [List.filterMap_cons, List.filterMap_nil, if_pos h]
  · rw [if_neg h]; simp only [List.filterMap_cons, List.filterMap_nil, if_neg h]
theorem cCu_len (A d : Int) (n : Nat) : (cCu A d n).length ≤ n := by
  have := List.length_filterMap_le (fun (k : Nat) => if A * 2 ^ k / d + 1 < A then some (SD.cut (A * 2 ^ k / d + 1) (k : Int)) else none) (List.range n)
  rw [List.length_range] at this
  exact this
def toS (x : Cd) : SD := .turn x.kd x.e x.f x.s
def sAll (A d t : Int) : List SD := cCu A d (intBits (d - 1) + 1) ++ (cAll A d t).map toS
theorem cCu_ok {A d : Int} {n : Nat} (hA : 0 < A) (hA2 : A ≤ 4294967296) (d1 : 1 ≤ d) (hn : n ≤ 64) : ∀ x ∈ cCu A d n, x.ok ∧ x.e = 0 := by
  intro x hx
  obtain ⟨k, hk, e⟩ := List.mem_filterMap.mp hx
  have hk' := List.mem_range.mp hk
  split at e
  · next h =>
    cases e
    have : 0 ≤ A * 2 ^ k / d := Int.ediv_nonneg (Int.mul_nonneg (by omega) (by have := p_pos k; omega)) (by omega)
    exact ⟨⟨by omega, by omega, by omega, by omega⟩, rfl⟩
  · cases e
theorem sAll_ok {w d t : Int} (w1 : 4 ≤ w) (w2 : w ≤ 32) (d1 : 1 ≤ d) (d2 : d < 2 ^ w.toNat) (tw : Tw d t) : ∀ x ∈ sAll (1 * 2 ^ w.toNat) d t, x.ok := by
  intro x hx
  have pb := pw_bounds w1 w2
  have lb := (bl_32 w2 d1 d2).1
  rcases List.mem_append.mp hx with h | h
  · exact (cCu_ok (by omega) (by omega) d1 (by omega) x h).1
  · obtain ⟨y, hy, rfl⟩ := List.mem_map.mp h
    exact (cAll_fm w1 w2 d1 d2 tw y hy).1
theorem sAll_len {w d t : Int} (w1 : 4 ≤ w) (w2 : w ≤ 32) (d1 : 1 ≤ d) (d2 : d < 2 ^ w.toNat) (tw : Tw d t) : (sAll (1 * 2 ^ w.toNat) d t).length ≤ 300 ∧ 0 < (sAll (1 * 2 ^ w.toNat) d t).length := by
  have l1 := cCu_len (1 * 2 ^ w.toNat) d (intBits (d - 1) + 1)
  have l2 := cAll_len w1 w2 d1 d2 tw
  have lb := (bl_32 w2 d1 d2).1
  unfold sAll
  rw [List.length_append, List.length_map]
  omega
theorem turn_right {x : Cd} {w d : Int} (h : AllG x.e (nF x.kd w x.f) (nA x.kd x.f) (nT x.kd w x.s) d (1 * 2 ^ w.toNat - 1)) {z : Int} (z0 : -(1 * 2 ^ w.toNat - 1) ≤ z) (z1 : z ≤ 1 * 2 ^ w.toNat - 1) : (toS x).q w z = cutq z d := by
  unfold toS SD.q cutq
  dsimp only
  by_cases n : z < 0
  · rw [if_pos n, if_pos n, h (-z) (by omega) (by omega)]
  · rw [if_neg n, if_neg n, h z (by omega) z1]
theorem sAll_right {w d t : Int} (w1 : 4 ≤ w) (w2 : w ≤ 32) (d1 : 1 ≤ d) (d2 : d < 2 ^ w.toNat) : ∃ x ∈ sAll (1 * 2 ^ w.toNat) d t, ∀ z, -(1 * 2 ^ w.toNat - 1) ≤ z → z ≤ 1 * 2 ^ w.toNat - 1 → x.q w z = cutq z d := by
  obtain ⟨x, hx, _, h⟩ := cAll_right (t := t) w1 w2 d1 d2
  exact ⟨toS x, List.mem_append_right _ (List.mem_map.mpr ⟨x, hx, rfl⟩), fun z z0 z1 => turn_right h z0 z1⟩
theorem half_lt {w d : Int} (w1 : 4 ≤ w) (d2 : d ≤ 2 ^ (w - 1).toNat) : d < 2 ^ w.toNat ∧ (2 : Int) ^ w.toNat = 2 * 2 ^ (w - 1).toNat := by
  have e : w.toNat = (w - 1).toNat + 1 := by omega
  have := p_pos (w - 1).toNat
  rw [e, Int.pow_succ]
  omega
/-! ### rows of words -/
def sw : SD → List Str
  | .cut _ k => (["set", "high", "right", "gap", "and", "gap"] : List Str) ++ ((if k = 0 then ([] : List Str) else ["slide"]) ++ (["sum"] : List Str))
  | .turn kd _ _ s => (["right", "gap", "unlike", "gap"] : List Str) ++ fw kd s ++ (["unlike", "gap"] : List Str)
theorem sw_mem {sd : SD} : ∀ x ∈ sw sd, x ∈ rw16 := by
  intro x h
  cases sd with
  | cut f k =>
    have : ∀ x ∈ (["set", "high", "right", "gap", "and", "gap"] : List Str) ++ ((if k = 0 then ([] : List Str) else ["slide"]) ++ (["sum"] : List Str)), x ∈ rw16 := by
      by_cases hk : k = 0
      · rw [if_pos hk]; decide +kernel
      · rw [if_neg hk]; decide +kernel
    exact this x h
  | turn kd e f s =>
    unfold sw at h
    rcases List.mem_append.mp h with h | h
    · rcases List.mem_append.mp h with h | h
      · exact (show ∀ x ∈ (["right", "gap", "unlike", "gap"] : List Str), x ∈ rw16 by decide +kernel) x h
      · exact fw_mem x h
    · exact (show ∀ x ∈ (["unlike", "gap"] : List Str), x ∈ rw16 by decide +kernel) x h
theorem sw_len {sd : SD} : (sw sd).length ≤ 12 := by
  cases sd with
  | cut f k =>
    show ((["set", "high", "right", "gap", "and", "gap"] : List Str) ++ ((if k = 0 then ([] : List Str) else ["slide"]) ++ (["sum"] : List Str))).length ≤ 12
    by_cases hk : k = 0
    · rw [if_pos hk]; decide
    · rw [if_neg hk]; decide
  | turn kd e f s =>
    have := fw_len (kd := kd) (s := s)
    unfold sw
    simp only [List.length_append, List.length_cons, List.length_nil]
    omega
def wdS : Nat → Str
  | 0 => "cutting"
  | _ => "turned"
def spWdS (i : Nat) : Sp := fun vs H Q _ => ∃ x : Addr, vs = [.ref x] ∧ Q (.str (wdS i)) H
def spSTold (c : Ad) (i : Nat) : Sp := fun vs H Q _ => ∃ (x : Addr) (sd : SD), vs = [.ref x] ∧ sd.ix = i ∧ SFO c H x sd ∧ sd.ok ∧ ∀ r H', H r = none → STd H' r sd → Same H H' → Q (.ref r) H'
def spRL (c : Ad) (i : Nat) : Sp := fun vs H Q _ => ∃ (x : Addr) (sd : SD), vs = [.ref x] ∧ sd.ix = i ∧ SFO c H x sd ∧ sd.ok ∧ ∀ l H', H l = none → H' l = some (.lst ((sw sd).map V.str)) → Same H H' → Q (.ref l) H'
def spSW (c : Ad) : Sp := fun vs H Q _ => ∃ (x : Addr) (sd : SD), vs = [.ref x] ∧ SFO c H x sd ∧ sd.ok ∧ ∀ l H', H l = none → H' l = some (.lst ((sw sd).map V.str)) → Same H H' → Q (.ref l) H'
def spPS (c : Ad) : Sp := fun vs H Q E => ∃ (x : Addr) (sd : SD) (p : V), vs = [.ref x, p] ∧ SFO c H x sd ∧ sd.ok ∧ Th H p ∧ DFl H p ∧ (∀ a kvs, p = .ref a → H a = some (.dK kvs) → GoodD kvs → ∀ H', Same H H' → Q (.int (cost kvs (sw sd))) H') ∧ (¬ GoodP H p → ∀ d H', H' d = some (.xd [("found", p)]) → Same H H' → E (.ref c.NoPrices) (some d) H')
def spSCand (c : Ad) : Sp := fun vs H Q _ => ∃ w d : Int, vs = [.int w, .int d] ∧ 4 ≤ w ∧ w ≤ 32 ∧ 1 ≤ d ∧ d ≤ 2 ^ (w - 1).toNat ∧ ∀ (t : Int) l H', Tw d t → H l = none → BL (SFO c) H' l (sAll (1 * 2 ^ w.toNat) d t) → Same H H' → Q (.ref l) H'
def spAllSg : Sp := fun vs H Q _ => ∃ w d : Int, vs = [.int w, .int d] ∧ 4 ≤ w ∧ w ≤ 32 ∧ 1 ≤ d ∧ d ≤ 2 ^ (w - 1).toNat ∧ ∀ (t : Int) l H', Tw d t → H l = none → BL STd H' l (sAll (1 * 2 ^ w.toNat) d t) → Same H H' → Q (.ref l) H'
def spMS : Sp := fun vs H Q _ => ∃ (r : Addr) (sd : SD), vs = [.ref r] ∧ STd H r sd ∧ sd.ok ∧ ∀ l H', H l = none → H' l = some (.lst ((sw sd).map V.str)) → Same H H' → Q (.ref l) H'
def spAgrS (c : Ad) : Sp := fun vs H Q _ => ∃ (l m : Addr) (xs : List SD), vs = [.ref l, .ref m] ∧ BL (SFO c) H l xs ∧ BL STd H m xs ∧ xs.length ≤ 300 ∧ (∀ x ∈ xs, x.ok) ∧ ∀ H', Same H H' → Q (.bl true) H'
def spCostS (c : Ad) : Sp := fun vs H Q _ => ∃ (x r : Addr) (sd : SD) (a : Addr) (kvs : List (Key × V)), vs = [.ref x, .ref r, .ref a] ∧ SFO c H x sd ∧ STd H r sd ∧ sd.ok ∧ H a = some (.dK kvs) ∧ GoodD kvs ∧ Tb 100 kvs ∧ ∀ H', Same H H' → Q (.bl true) H'
def spRefuS (c : Ad) : Sp := fun vs H Q _ => ∃ (x : Addr) (sd : SD) (p : V), vs = [.ref x, p] ∧ SFO c H x sd ∧ sd.ok ∧ Th H p ∧ DFl H p ∧ ¬ GoodP H p ∧ RpOk H p ∧ ∀ H', Same H H' → Q (.bl true) H'
section
variable {P : Program} {w : World} {K : PySem.W.Frag} {mg : Str → Option Value} {base : Heap} {c : Ad}
theorem ok_is_whole {f : Addr} {fd : FuncData} (F : Fun K "is_whole" "is_whole" s_is_whole f fd) (T : Txt K mg c)  : FnOk P w K mg base CX0 1 f fd ["thing"] spWholeG := by
  refine F.ok sc_is_whole (fun vs H Q E h => ?_) (fun cdv A outer s H vs Q E hr h => ?_)
  · obtain ⟨x, rfl, _⟩ := h
    rfl
  obtain ⟨x, rfl, th, q⟩ := h
  refine ⟨_, (pss_one (ps_ret (pe_and (pe_callB call_isinst rfl T.n_isinstance boot_isinstance (pa_cons (pv 0) (pa_cons (pe_ty rfl T.n_int boot_int) pa_nil))) (pe_one (pe_not (pe_callB call_isinst rfl T.n_isinstance boot_isinstance (pa_cons (pv 0) (pa_cons (pe_ty rfl T.n_bool boot_bool) pa_nil)))))))), ?_⟩
  cases th with
  | int i =>
    refine ⟨_, rfl, _, _, _, _, _, rfl, rfl, TyOf.int _, kit_int_int _, _, rfl, iteT ?_⟩
    exact ⟨_, rfl, _, _, _, _, _, rfl, rfl, TyOf.int _, kit_int_bool _, _, rfl, q⟩
  | bl b =>
    refine ⟨_, rfl, _, _, _, _, _, rfl, rfl, TyOf.bl _, kit_bl_int _, _, rfl, iteT ?_⟩
    exact ⟨_, rfl, _, _, _, _, _, rfl, rfl, TyOf.bl _, kit_bl_bl _, _, rfl, q⟩
  | str x => exact ⟨_, rfl, _, _, _, _, _, rfl, rfl, TyOf.str _, kit_str_int _, _, rfl, iteF q⟩
  | non => exact ⟨_, rfl, _, _, _, _, _, rfl, rfl, TyOf.non, kit_non_int _, _, rfl, iteF q⟩
  | lst h => exact ⟨_, rfl, _, _, _, _, _, rfl, rfl, TyOf.lst h, kit_lst_int _, _, rfl, iteF q⟩
  | tup h => exact ⟨_, rfl, _, _, _, _, _, rfl, rfl, TyOf.tup h, kit_tup_int _, _, rfl, iteF q⟩
  | dct h => exact ⟨_, rfl, _, _, _, _, _, rfl, rfl, TyOf.dK h, kit_dct_int _, _, rfl, iteF q⟩
theorem ok__law_whole {f : Addr} {fd : FuncData} (F : Fun K "_law_whole" "_law_whole" s__law_whole f fd) (T : Txt K mg c)  : FnOk P w K mg base CX0 1 f fd ["_law_found"] spWholeG := by
  refine F.ok sc__law_whole (fun vs H Q E h => ?_) (fun cdv A outer s H vs Q E hr h => ?_)
  · obtain ⟨x, rfl, _⟩ := h
    rfl
  obtain ⟨x, rfl, th, q⟩ := h
  refine ⟨_, (pss_one (ps_ret (pe_and (pe_callB call_isinst rfl T.n_isinstance boot_isinstance (pa_cons (pv 0) (pa_cons (pe_ty rfl T.n_int boot_int) pa_nil))) (pe_one (pe_not (pe_callB call_isinst rfl T.n_isinstance boot_isinstance (pa_cons (pv 0) (pa_cons (pe_ty rfl T.n_bool boot_bool) pa_nil)))))))), ?_⟩
  cases th with
  | int i =>
    refine ⟨_, rfl, _, _, _, _, _, rfl, rfl, TyOf.int _, kit_int_int _, _, rfl, iteT ?_⟩
    exact ⟨_, rfl, _, _, _, _, _, rfl, rfl, TyOf.int _, kit_int_bool _, _, rfl, q⟩
  | bl b =>
    refine ⟨_, rfl, _, _, _, _, _, rfl, rfl, TyOf.bl _, kit_bl_int _, _, rfl, iteT ?_⟩
    exact ⟨_, rfl, _, _, _, _, _, rfl, rfl, TyOf.bl _, kit_bl_bl _, _, rfl, q⟩
  | str x => exact ⟨_, rfl, _, _, _, _, _, rfl, rfl, TyOf.str _, kit_str_int _, _, rfl, iteF q⟩
  | non => exact ⟨_, rfl, _, _, _, _, _, rfl, rfl, TyOf.non, kit_non_int _, _, rfl, iteF q⟩
  | lst h => exact ⟨_, rfl, _, _, _, _, _, rfl, rfl, TyOf.lst h, kit_lst_int _, _, rfl, iteF q⟩
  | tup h => exact ⟨_, rfl, _, _, _, _, _, rfl, rfl, TyOf.tup h, kit_tup_int _, _, rfl, iteF q⟩
  | dct h => exact ⟨_, rfl, _, _, _, _, _, rfl, rfl, TyOf.dK h, kit_dct_int _, _, rfl, iteF q⟩
theorem ok_is_between {f : Addr} {fd : FuncData} (F : Fun K "is_between" "is_between" s_is_between f fd) (T : Txt K mg c) (H_is_whole : Has P w K mg base 1 "is_whole" ["thing"] spWholeG) : FnOk P w K mg base CX0 2 f fd ["thing", "low", "high"] spBtwG := by
  refine F.ok sc_is_between (fun vs H Q E h => ?_) (fun cdv A outer s H vs Q E hr h => ?_)
  · obtain ⟨x, lo, hi, rfl, _⟩ := h
    rfl
  obtain ⟨x, lo, hi, rfl, th, q⟩ := h
  refine ⟨_, (pss_one (ps_ret (pe_and (pe_fn H_is_whole (hr.mono (by omega)) rfl (pa_cons (pv 0) pa_nil)) (pe_one (pe_chain op_le op_le (pv 1) (pv 0) (pv 2)))))), ?_⟩
  refine ⟨_, rfl, x, rfl, th, _, rfl, ?_⟩
  cases hi' : isI x with
  | false =>
    refine iteF ?_
    rw [btw_not hi'] at q
    exact q
  | true =>
    refine iteT ?_
    cases x with
    | int i =>
      refine ⟨_, rfl, _, rfl, _, _, rfl, rfl, _, rfl, ?_⟩
      by_cases c1 : lo ≤ i
      · refine iteD c1 ⟨_, rfl, _, _, rfl, rfl, ?_⟩
        have e : btw (.int i) lo hi = decide (i ≤ hi) := by show (decide (lo ≤ i) && decide (i ≤ hi)) = _; rw [decide_eq_true c1, Bool.true_and]
        rw [e] at q
        exact q
      · refine iteDN c1 ?_
        have e : btw (.int i) lo hi = false := by show (decide (lo ≤ i) && decide (i ≤ hi)) = _; rw [decide_eq_false c1, Bool.false_and]
        rw [e] at q
        exact q
    | _ => cases hi'
theorem ok_need_width {f : Addr} {fd : FuncData} (F : Fun K "need_width" "need_width" s_need_width f fd) (T : Txt K mg c) (H_is_between : Has P w K mg base 2 "is_between" ["thing", "low", "high"] spBetween) : FnOk P w K mg base CX0 3 f fd ["width"] spNeedW := by
  refine F.ok sc_need_width (fun vs H Q E h => ?_) (fun cdv A outer s H vs Q E hr h => ?_)
  · obtain ⟨i, rfl, _⟩ := h
    rfl
  obtain ⟨i, rfl, h1, h2, q⟩ := h
  refine ⟨_, (pss_one (ps_if (pt_not (pt_val (pe_fn H_is_between (hr.mono (by omega)) rfl (pa_cons (pv 0) (pa_cons pe_int (pa_cons pe_int pa_nil))))))
      (pss_one ps_never)
      pss_nil)), ?_⟩
  refine ⟨_, rfl, _, _, _, rfl, h1, h2, _, rfl, iteF ?_⟩
  exact q
theorem ok_need_divisor {f : Addr} {fd : FuncData} (F : Fun K "need_divisor" "need_divisor" s_need_divisor f fd) (T : Txt K mg c) (H_need_width : Has P w K mg base 3 "need_width" ["width"] spNeedW) (H_is_between : Has P w K mg base 2 "is_between" ["thing", "low", "high"] spBetween) : FnOk P w K mg base CX0 4 f fd ["width", "d"] spNeedD := by
  refine F.ok sc_need_divisor (fun vs H Q E h => ?_) (fun cdv A outer s H vs Q E hr h => ?_)
  · obtain ⟨i, d, rfl, _⟩ := h
    rfl
  obtain ⟨i, d, rfl, h1, h2, d1, d2, q⟩ := h
  refine ⟨_, (pss_cons (ps_expr (pe_fn H_need_width (hr.mono (by omega)) rfl (pa_cons (pv 0) pa_nil)))
    (pss_one (ps_if (pt_not (pt_val (pe_fn H_is_between (hr.mono (by omega)) rfl (pa_cons (pv 1) (pa_cons pe_int (pa_cons (pe_op op_sub (pe_op op_shl pe_int (pv 0)) pe_int) pa_nil))))))
      (pss_one ps_never)
      pss_nil))), ?_⟩
  refine ⟨_, rfl, _, rfl, h1, h2, ?_⟩
  refine ⟨_, rfl, _, rfl, _, _, rfl, rfl, cpow1 (by omega) (by omega), _, _, rfl, rfl, _, _, _, rfl, d1, by omega, _, rfl, iteF ?_⟩
  exact q
theorem ok__law_start {f : Addr} {fd : FuncData} (F : Fun K "_law_start" "_law_start" s__law_start f fd) (T : Txt K mg c)  : FnOk P w K mg base CX0 1 f fd ["_law_script", "_law_k"] (spStart K) := by
  refine F.ok sc__law_start (fun vs H Q E h => ?_) (fun cdv A outer s H vs Q E hr h => ?_)
  · obtain ⟨a, ns, k, rfl, _⟩ := h
    rfl
  obtain ⟨a, ns, k, rfl, hS, k0, k1, q⟩ := h
  refine ⟨_, (pss_cons (ps_set (i := 2) sc__law_start.nd rfl (Or.inl rfl) pe_int)
    (pss_cons (ps_if (pt_cmpR (op_ne0 (Nat.lt_of_succ_lt (hu_of hr))) (pv 0) (pe_lst pa_nil) (nomark _))
      (pss_one (ps_set (i := 2) sc__law_start.nd rfl (Or.inl rfl) (pe_ix ix_list (pv 0) (pe_op op_mod (pv 1) (pe_callB call_len_seq rfl T.n_len boot_len (pa_cons (pv 0) pa_nil))) (fun _ _ => rfl))))
      pss_nil)
    (pss_cons (ps_set (i := 3) sc__law_start.nd rfl (Or.inl rfl) pe_int)
    (pss_cons (ps_if (pt_cmpR op_ge (pv 2) (pe_op op_pow pe_int pe_int) (nomark _))
      (pss_one (ps_set (i := 3) sc__law_start.nd rfl (Or.inl rfl) (pv 2)))
      pss_nil)
    (pss_one (ps_ret (pe_lst (pa_cons (pv 3) (pa_cons (pe_op op_add (pe_op op_mod (pe_op op_add (pv 2) (pe_op op_mul pe_int (pv 1))) pe_int) pe_int) pa_nil))))))))), ?_⟩
  have fin : ∀ (c : Int) (H1 : Hp), Same H H1 → (∃ t : L2.TS, True) → True := fun _ _ _ _ => trivial
  refine ⟨_, rfl, (by show 0 ≤ sizeLine; decide), fun l hl => ?_⟩
  have sl := same_new hl (.lst [])
  refine ⟨a, l, _, rfl, rfl, sl.seq hS, SqL.of upd_same, _, rfl, ?_⟩
  cases ns with
  | nil =>
    refine iteF ?_
    refine ⟨_, rfl, _, _, rfl, rfl, ⟨by decide, by decide, by decide⟩, _, _, rfl, rfl, _, rfl, iteDN (by decide) ?_⟩
    refine ⟨_, rfl, _, rfl, _, rfl, _, _, rfl, rfl, cmul_l (by decide) (by decide), _, _, rfl, rfl, _, _, rfl, rfl, (by show (0 : Int) < 2147483646; decide), _, _, rfl, rfl, sz2, fun p hp => ?_⟩
    exact q p _ (sl.free hp) ⟨_, _, upd_same⟩ (sl.trans (same_new hp _))
  | cons n ns' =>
    refine iteT ?_
    have hl2 : ((n :: ns').map V.int).length = (n :: ns').length := List.length_map _
    have hn : 0 < ((((n :: ns').map V.int).length : Nat) : Int) := by rw [hl2, List.length_cons]; omega
    have j0 := Int.emod_nonneg k (show ((((n :: ns').map V.int).length : Nat) : Int) ≠ 0 by omega)
    have j1 := Int.emod_lt_of_pos k hn
    have hj : (k % ((((n :: ns').map V.int).length : Nat) : Int)).toNat < (n :: ns').length := by rw [← hl2]; omega
    have g := getI (n :: ns') _ hj
    have e : k % ((((n :: ns').map V.int).length : Nat) : Int) = (((k % ((((n :: ns').map V.int).length : Nat) : Int)).toNat : Nat) : Int) := by omega
    rw [← e] at g
    refine ⟨_, rfl, _, rfl, _, rfl, a, _, rfl, .inl (sl.seq hS), _, _, rfl, rfl, hn, a, _, _, _, rfl, rfl, sl.seq hS, g, ?_⟩
    refine ⟨_, rfl, _, _, rfl, rfl, ⟨by decide, by decide, by decide⟩, _, _, rfl, rfl, _, rfl, ?_⟩
    refine ite2 (fun _ => ?_) (fun _ => ?_)
    · refine ⟨_, rfl, ?_⟩
      refine ⟨_, rfl, _, rfl, _, rfl, _, _, rfl, rfl, cmul_l (by decide) (by decide), _, _, rfl, rfl, _, _, rfl, rfl, (by show (0 : Int) < 2147483646; decide), _, _, rfl, rfl, sz2, fun p hp => ?_⟩
      exact q p _ (sl.free hp) ⟨_, _, upd_same⟩ (sl.trans (same_new hp _))
    · refine ⟨_, rfl, _, rfl, _, rfl, _, _, rfl, rfl, cmul_l (by decide) (by decide), _, _, rfl, rfl, _, _, rfl, rfl, (by show (0 : Int) < 2147483646; decide), _, _, rfl, rfl, sz2, fun p hp => ?_⟩
      exact q p _ (sl.free hp) ⟨_, _, upd_same⟩ (sl.trans (same_new hp _))
theorem ok__law_draw {f : Addr} {fd : FuncData} (F : Fun K "_law_draw" "_law_draw" s__law_draw f fd) (T : Txt K mg c)  : FnOk P w K mg base CX0 1 f fd ["_law_state", "_law_size"] spTake := by
  refine F.ok sc__law_draw (fun vs H Q E h => ?_) (fun cdv A outer s H vs Q E hr h => ?_)
  · obtain ⟨p, m, rfl, _⟩ := h
    rfl
  obtain ⟨p, m, rfl, ⟨r, s1, hp⟩, h1, h2, q⟩ := h
  refine ⟨_, (pss_cons (ps_if (pt_cmpR op_gt (pe_ix ix_list (pv 0) pe_int (fun _ _ => rfl)) pe_int (nomark _))
      (pss_cons (ps_set (i := 2) sc__law_draw.nd rfl (Or.inl rfl) (pe_op op_mod (pe_ix ix_list (pv 0) pe_int (fun _ _ => rfl)) (pv 1)))
      (pss_cons (ps_asg (pe_op op_fdivB (pe_ix ix_list (pv 0) pe_int (fun _ _ => rfl)) (pv 1)) (pg_sub (pv 0) pe_int set_list))
      (pss_one (ps_ret (pv 2)))))
      pss_nil)
    (pss_cons (ps_asg (pe_op op_mod (pe_op op_mul (pe_ix ix_list (pv 0) pe_int (fun _ _ => rfl)) pe_int) pe_int) (pg_sub (pv 0) pe_int set_list))
    (pss_cons (ps_set (i := 3) sc__law_draw.nd rfl (Or.inl rfl) (pe_op op_mod (pe_op op_mul (pe_op op_add (pe_ix ix_list (pv 0) pe_int (fun _ _ => rfl)) (pe_op op_mul pe_int (pe_op op_fdivB (pe_ix ix_list (pv 0) pe_int (fun _ _ => rfl)) pe_int))) pe_int) pe_int))
    (pss_cons (ps_set (i := 4) sc__law_draw.nd rfl (Or.inl rfl) (pe_op op_mod (pe_op op_add (pe_op op_mul (pv 3) pe_int) (pe_op op_fdivB (pe_ix ix_list (pv 0) pe_int (fun _ _ => rfl)) pe_int)) pe_int))
    (pss_one (ps_ret (pe_op op_mod (pe_op op_add (pe_op op_mul (pv 3) pe_int) (pv 4)) (pv 1)))))))), ?_⟩
  refine ⟨_, rfl, p, _, _, _, rfl, rfl, SqL.of hp, rfl, _, _, rfl, rfl, _, rfl, ?_⟩
  by_cases hc : 0 < r
  · refine iteD hc ?_
    refine ⟨_, rfl, p, _, _, _, rfl, rfl, SqL.of hp, rfl, _, rfl, _, _, rfl, rfl, h1, ?_⟩
    refine ⟨_, rfl, p, _, _, _, rfl, rfl, SqL.of hp, rfl, _, rfl, _, _, rfl, rfl, ⟨h1, log_small h1 h2⟩, ?_⟩
    refine ⟨_, rfl, p, _, _, _, rfl, rfl, hp, rfl, ?_⟩
    refine ⟨_, rfl, ?_⟩
    exact q _ _ (Int.emod_nonneg _ (by omega)) (Int.emod_lt_of_pos _ h1) ⟨_, _, upd_same⟩ SameX.upd
  · refine iteDN hc ?_
    refine ⟨_, rfl, p, _, _, _, rfl, rfl, SqL.of hp, rfl, _, _, rfl, rfl, .inr ⟨by decide, by decide⟩, _, _, rfl, rfl, (by show (0 : Int) < 2147483647; decide), ?_⟩
    refine ⟨_, rfl, p, _, _, _, rfl, rfl, hp, rfl, ?_⟩
    refine ⟨_, rfl, p, _, _, _, rfl, rfl, SqL.of upd_same, rfl, _, rfl, p, _, _, _, rfl, rfl, SqL.of upd_same, rfl, _, _, rfl, rfl, ⟨by decide, by decide⟩, _, _, rfl, rfl, .inl ⟨by decide, by decide⟩, _, _, rfl, rfl, _, _, rfl, rfl, .inr ⟨by decide, by decide⟩, _, _, rfl, rfl, (by show (0 : Int) < 2147483629; decide), ?_⟩
    refine ⟨_, rfl, _, _, rfl, rfl, .inr ⟨by decide, by decide⟩, _, rfl, p, _, _, _, rfl, rfl, SqL.of upd_same, rfl, _, _, rfl, rfl, ⟨by decide, by decide⟩, _, _, rfl, rfl, _, _, rfl, rfl, (by show (0 : Int) < 2147483399; decide), ?_⟩
    refine ⟨_, rfl, _, _, rfl, rfl, .inr ⟨by decide, by decide⟩, _, rfl, _, _, rfl, rfl, _, rfl, _, _, rfl, rfl, h1, ?_⟩
    exact q _ _ (Int.emod_nonneg _ (by omega)) (Int.emod_lt_of_pos _ h1) ⟨_, _, upd_same⟩ SameX.upd
theorem ok__law_divisor {f : Addr} {fd : FuncData} (F : Fun K "_law_divisor" "_law_divisor" s__law_divisor f fd) (T : Txt K mg c) (H__law_draw : Has P w K mg base 1 "_law_draw" ["_law_state", "_law_size"] spTake) : FnOk P w K mg base CX0 2 f fd ["_law_state", "_law_width"] spDiv := by
  refine F.ok sc__law_divisor (fun vs H Q E h => ?_) (fun cdv A outer s H vs Q E hr h => ?_)
  · obtain ⟨p, i, rfl, _⟩ := h
    rfl
  obtain ⟨p, i, rfl, hb, h1, h2, q⟩ := h
  have pb := pw_bounds h1 h2
  refine ⟨_, (pss_cons (ps_set (i := 2) sc__law_divisor.nd rfl (Or.inl rfl) (pe_op op_sub (pe_op op_shl pe_int (pv 1)) pe_int))
    (pss_cons (ps_set (i := 3) sc__law_divisor.nd rfl (Or.inl rfl) (pe_fn H__law_draw (hr.mono (by omega)) rfl (pa_cons (pv 0) (pa_cons pe_int pa_nil))))
    (pss_cons (ps_if (pt_cmpR op_eq (pv 3) pe_int (nomark _))
      (pss_one (ps_ret (pe_op op_shl pe_int (pe_fn H__law_draw (hr.mono (by omega)) rfl (pa_cons (pv 0) (pa_cons (pv 1) pa_nil))))))
      pss_nil)
    (pss_cons (ps_if (pt_cmpR op_eq (pv 3) pe_int (nomark _))
      (pss_one (ps_ret (pe_op op_sub (pv 2) (pe_fn H__law_draw (hr.mono (by omega)) rfl (pa_cons (pv 0) (pa_cons pe_int pa_nil))))))
      pss_nil)
    (pss_cons (ps_if (pt_cmpR op_eq (pv 3) pe_int (nomark _))
      (pss_one (ps_ret (pe_op op_add pe_int (pe_fn H__law_draw (hr.mono (by omega)) rfl (pa_cons (pv 0) (pa_cons pe_int pa_nil))))))
      pss_nil)
    (pss_cons (ps_if (pt_cmpR op_eq (pv 3) pe_int (nomark _))
      (pss_cons (ps_set (i := 4) sc__law_divisor.nd rfl (Or.inl rfl) (pe_op op_fdiv (pv 1) pe_int))
      (pss_one (ps_ret (pe_op op_shl (pe_op op_add pe_int (pe_fn H__law_draw (hr.mono (by omega)) rfl (pa_cons (pv 0) (pa_cons (pe_op op_shl pe_int (pe_op op_sub (pv 1) (pv 4))) pa_nil)))) (pe_fn H__law_draw (hr.mono (by omega)) rfl (pa_cons (pv 0) (pa_cons (pv 4) pa_nil)))))))
      pss_nil)
    (pss_one (ps_ret (pe_op op_add pe_int (pe_fn H__law_draw (hr.mono (by omega)) rfl (pa_cons (pv 0) (pa_cons (pv 2) pa_nil)))))))))))), ?_⟩
  refine ⟨_, rfl, _, _, rfl, rfl, cpow1 (by omega) (by omega), _, _, rfl, rfl, ?_⟩
  refine ⟨_, rfl, p, _, rfl, hb, by decide, by decide, fun k H1 k0 k1 b1 x1 => ?_⟩
  refine ⟨_, rfl, rfl, _, rfl, ?_⟩
  by_cases c0 : V.int k = V.int 0
  · refine iteD c0 ?_
    refine ⟨_, rfl, _, rfl, p, _, rfl, b1, by omega, by omega, fun e H2 e0 e1 b2 x2 => ⟨_, _, rfl, rfl, cpow1 e0 (by omega), ?_⟩⟩
    have a1 := p1_pos e.toNat
    have a2 : (2 : Int) ^ (e.toNat + 1) ≤ 2 ^ i.toNat := p_mono (by omega)
    rw [Int.pow_succ] at a2
    exact q _ _ (by omega) (by omega) b2 (x1.trans x2)
  refine iteDN c0 ?_
  refine ⟨_, rfl, rfl, _, rfl, ?_⟩
  by_cases c1 : V.int k = V.int 1
  · refine iteD c1 ?_
    refine ⟨_, rfl, _, rfl, p, _, rfl, b1, by decide, by decide, fun e H2 e0 e1 b2 x2 => ⟨_, _, rfl, rfl, ?_⟩⟩
    exact q _ _ (by omega) (by omega) b2 (x1.trans x2)
  refine iteDN c1 ?_
  refine ⟨_, rfl, rfl, _, rfl, ?_⟩
  by_cases c2 : V.int k = V.int 2
  · refine iteD c2 ?_
    refine ⟨_, rfl, p, _, rfl, b1, by decide, by decide, fun e H2 e0 e1 b2 x2 => ⟨_, _, rfl, rfl, ?_⟩⟩
    exact q _ _ (by omega) (by omega) b2 (x1.trans x2)
  refine iteDN c2 ?_
  refine ⟨_, rfl, rfl, _, rfl, ?_⟩
  by_cases c3 : V.int k = V.int 3
  · refine iteD c3 ?_
    refine ⟨_, rfl, _, _, rfl, rfl, ⟨by decide, by decide⟩, ?_⟩
    have a3 : (2 : Int) ^ (i - i / 2).toNat ≤ 2 ^ 32 := p_mono (by omega)
    have a4 := p1_pos (i - i / 2).toNat
    refine ⟨_, rfl, _, rfl, _, rfl, _, _, rfl, rfl, _, _, rfl, rfl, cpow1 (by omega) (by omega), p, _, rfl, b1, a4, by omega, fun e H2 e0 e1 b2 x2 => ⟨_, _, rfl, rfl, _, rfl, _, rfl, p, _, rfl, b2, by omega, by omega, fun f H3 f0 f1 b3 x3 => ⟨_, _, rfl, rfl, ⟨f0, by omega, by omega⟩, ?_⟩⟩⟩
    have a5 : (2 : Int) ^ ((i - i / 2).toNat + f.toNat + 1) ≤ 2 ^ i.toNat := p_mono (by omega)
    rw [Int.pow_succ, Int.pow_add] at a5
    have a6 := p_pos f.toNat
    have a7 : (1 + e) * 2 ^ f.toNat ≤ 2 ^ (i - i / 2).toNat * 2 ^ f.toNat := Int.mul_le_mul_of_nonneg_right (by omega) (by omega)
    have a8 : 1 * 2 ^ f.toNat ≤ (1 + e) * 2 ^ f.toNat := Int.mul_le_mul_of_nonneg_right (by omega) (by omega)
    exact q _ _ (by omega) (by omega) b3 (x1.trans (x2.trans x3))
  refine iteDN c3 ?_
  refine ⟨_, rfl, _, rfl, p, _, rfl, b1, by omega, by omega, fun e H2 e0 e1 b2 x2 => ⟨_, _, rfl, rfl, ?_⟩⟩
  exact q _ _ (by omega) (by omega) b2 (x1.trans x2)
theorem ok__law_twos {f : Addr} {fd : FuncData} (F : Fun K "_law_twos" "_law_twos" s__law_twos f fd) (T : Txt K mg c)  : FnOk P w K mg base CX0 1 f fd ["_law_d"] spTwos := by
  refine F.ok sc__law_twos (fun vs H Q E h => ?_) (fun cdv A outer s H vs Q E hr h => ?_)
  · obtain ⟨d, rfl, _⟩ := h
    rfl
  obtain ⟨D, rfl, d1, q⟩ := h
  refine ⟨_, (pss_cons (ps_set (i := 1) sc__law_twos.nd rfl (Or.inl rfl) pe_int)
    (pss_cons (ps_while PassesOwn.never (pt_cmpR op_eq (pe_op op_mod (pv 0) pe_int) pe_int (nomark _))
      (pss_cons (ps_set (i := 0) sc__law_twos.nd rfl (Or.inl rfl) (pe_op op_fdiv (pv 0) pe_int))
      (pss_one (ps_set (i := 1) sc__law_twos.nd rfl (Or.inl rfl) (pe_op op_add (pv 1) pe_int)))))
    (pss_one (ps_ret (pv 1))))), ?_⟩
  refine while_by (fun σ H1 => ∃ d t : Int, σ = [some (.int d), some (.int t)] ∧ H1 = H ∧ 1 ≤ d ∧ 0 ≤ t ∧ D = d * 2 ^ t.toNat) (fun σ _ => match σ with | [some (.int d), _] => d.toNat | _ => 0) ⟨D, 0, rfl, rfl, d1, by decide, by show D = D * 2 ^ 0; rw [Int.pow_zero, Int.mul_one]⟩ ?_ ?_
  · rintro σ H1 ⟨d, t, rfl, rfl, d0, t0, e⟩
    refine ⟨_, rfl, _, _, rfl, rfl, (by show (0 : Int) < 2; decide), rfl, _, rfl, ?_⟩
    by_cases hc : d % 2 = 0
    · refine iteD (congrArg V.int hc) ?_
      refine ⟨_, rfl, _, _, rfl, rfl, ⟨by decide, by decide⟩, ?_⟩
      refine ⟨_, rfl, _, _, rfl, rfl, ?_⟩
      refine ⟨⟨d / 2, t + 1, rfl, rfl, by omega, by omega, tw_step t0 e hc⟩, ?_⟩
      show (d / 2).toNat < d.toNat
      omega
    · refine iteDN (fun z => hc (by injection z)) ?_
      exact ⟨_, rfl, q t (tw_done t0 e hc)⟩
  · rintro σ H1 Q1 Q2 hQ ⟨v, hv, a, b, c, d, e, f, k, hk, q1⟩
    exact ⟨v, hv, a, b, c, d, e, f, k, hk, hQ _ _ q1⟩
theorem ok_twos_in {f : Addr} {fd : FuncData} (F : Fun K "twos_in" "twos_in" s_twos_in f fd) (T : Txt K mg c)  : FnOk P w K mg base CX0 1 f fd ["d"] spTwos := by
  refine F.ok sc_twos_in (fun vs H Q E h => ?_) (fun cdv A outer s H vs Q E hr h => ?_)
  · obtain ⟨d, rfl, _⟩ := h
    rfl
  obtain ⟨D, rfl, d1, q⟩ := h
  refine ⟨_, (pss_cons (ps_set (i := 1) sc_twos_in.nd rfl (Or.inl rfl) pe_int)
    (pss_cons (ps_while PassesOwn.never (pt_cmpR op_eq (pe_op op_mod (pv 0) pe_int) pe_int (nomark _))
      (pss_cons (ps_set (i := 0) sc_twos_in.nd rfl (Or.inl rfl) (pe_op op_fdiv (pv 0) pe_int))
      (pss_one (ps_set (i := 1) sc_twos_in.nd rfl (Or.inl rfl) (pe_op op_add (pv 1) pe_int)))))
    (pss_one (ps_ret (pv 1))))), ?_⟩
  refine while_by (fun σ H1 => ∃ d t : Int, σ = [some (.int d), some (.int t)] ∧ H1 = H ∧ 1 ≤ d ∧ 0 ≤ t ∧ D = d * 2 ^ t.toNat) (fun σ _ => match σ with | [some (.int d), _] => d.toNat | _ => 0) ⟨D, 0, rfl, rfl, d1, by decide, by show D = D * 2 ^ 0; rw [Int.pow_zero, Int.mul_one]⟩ ?_ ?_
  · rintro σ H1 ⟨d, t, rfl, rfl, d0, t0, e⟩
    refine ⟨_, rfl, _, _, rfl, rfl, (by show (0 : Int) < 2; decide), rfl, _, rfl, ?_⟩
    by_cases hc : d % 2 = 0
    · refine iteD (congrArg V.int hc) ?_
      refine ⟨_, rfl, _, _, rfl, rfl, ⟨by decide, by decide⟩, ?_⟩
      refine ⟨_, rfl, _, _, rfl, rfl, ?_⟩
      refine ⟨⟨d / 2, t + 1, rfl, rfl, by omega, by omega, tw_step t0 e hc⟩, ?_⟩
      show (d / 2).toNat < d.toNat
      omega
    · refine iteDN (fun z => hc (by injection z)) ?_
      exact ⟨_, rfl, q t (tw_done t0 e hc)⟩
  · rintro σ H1 Q1 Q2 hQ ⟨v, hv, a, b, c, d, e, f, k, hk, q1⟩
    exact ⟨v, hv, a, b, c, d, e, f, k, hk, hQ _ _ q1⟩
theorem ok__law_corners {f : Addr} {fd : FuncData} (F : Fun K "_law_corners" "_law_corners" s__law_corners f fd) (T : Txt K mg c)  : FnOk P w K mg base CX0 1 f fd ["_law_last", "_law_d"] spCorners := by
  refine F.ok sc__law_corners (fun vs H Q E h => ?_) (fun cdv A outer s H vs Q E hr h => ?_)
  · obtain ⟨last, d, rfl, _⟩ := h
    rfl
  obtain ⟨last, d, rfl, l0, l1, d1, d2, q⟩ := h
  refine ⟨_, (pss_cons (ps_set (i := 2) sc__law_corners.nd rfl (Or.inl rfl) (pe_op op_fdivB (pv 0) (pv 1)))
    (pss_cons (ps_set (i := 3) sc__law_corners.nd rfl (Or.inl rfl) (pe_lst pa_nil))
    (pss_cons (ps_for PassesOwn.never rfl (pi_list (pe_lst (pa_cons pe_int (pa_cons (pe_callB (call_min2 rfl) rfl T.n_min boot_min (pa_cons (pe_op op_sub (pv 1) pe_int) (pa_cons (pv 0) pa_nil))) (pa_cons (pe_op op_sub (pe_op op_mulB (pv 2) (pv 1)) pe_int) (pa_cons (pe_op op_mulB (pv 2) (pv 1)) (pa_cons (pv 0) pa_nil))))))) (pg_name (i := 4) sc__law_corners.nd rfl (Or.inl rfl))
      (pss_one (ps_if (PW.pt (pw_and (pt_cmpR op_ge (pv 4) pe_int (nomark _)) (pw_and1 (pt_cmpR op_notIn_seq (pv 4) (pv 3) (by with_unfolding_all rfl)))))
        (pss_one (ps_expr (pe_bm PySem.F.plainAttrs_list PySem.F.slot_list_append PySem.F.type_list_append mt_append (pv 3) (pa_cons (pv 4) pa_nil))))
        pss_nil)))
    (pss_one (ps_ret (pe_callB call_sorted_list rfl T.n_sorted boot_sorted (pa_cons (pv 3) pa_nil))))))), ?_⟩
  obtain ⟨n0, n1, n2, n3, n4⟩ := cor_nums l0 l1 d1
  have lg := log_small (m := d) (by omega) (by omega)
  have em : (if last < d - 1 then last else d - 1) = (if d - 1 < last then d - 1 else last) := by
    split <;> split <;> omega
  refine ⟨_, rfl, _, rfl, _, _, rfl, rfl, ⟨by omega, lg⟩, ?_⟩
  refine ⟨(by show 0 ≤ sizeLine; decide), fun l hl => ?_⟩
  refine ⟨_, rfl, _, _, rfl, rfl, _, rfl, _, _, rfl, _, rfl, _, rfl, _, _, rfl, rfl, ⟨b200 (by omega) (by omega), b200 (by omega) (by omega)⟩, _, _, rfl, rfl, _, rfl, _, rfl, _, _, rfl, rfl, ⟨b200 (by omega) (by omega), b200 (by omega) (by omega)⟩, _, rfl, (by show 5 ≤ sizeLine; decide), fun c hc => ?_⟩
  generalize hfv : [0, if last < d - 1 then last else d - 1, last / d * d - 1, last / d * d, last] = five
  have efv : [V.int 0, V.int (if last < d - 1 then last else d - 1), V.int (last / d * d - 1), V.int (last / d * d), V.int last] = five.map V.int := by rw [← hfv]; rfl
  have l5 : five.length = 5 := by rw [← hfv]; rfl
  rw [efv]
  have nel : l ≠ c := fun z => by rw [← z, upd_same] at hc; cases hc
  have s1 := same_new hl (.lst [])
  have hcH : H c = none := s1.free hc
  refine ⟨c, rfl, ⟨_, SqL.of upd_same⟩, for_list (xs := five.map V.int) (fun j σ H1 => ∃ (fs : List Int) (y : Option V), σ = [some (.int last), some (.int d), some (.int (last / d)), some (.ref l), y] ∧ H1 l = some (.lst (fs.map V.int)) ∧ H1 c = some (.lst (five.map V.int)) ∧ Same H H1 ∧ fs.Nodup ∧ fs.length ≤ j ∧ ∀ x, x ∈ fs ↔ 0 ≤ x ∧ x ∈ five.take j) ⟨[], _, rfl, by rw [upd_ne nel, upd_same]; rfl, upd_same, s1.trans (same_new hc _), List.nodup_nil, Nat.le_refl _, fun x => by simp⟩ ?_ ?_ ?_⟩
  · rintro j σ H1 hj ⟨fs, y, rfl, f1, f2, _⟩
    exact SqL.of f2
  · rintro j x σ H1 hj ⟨fs, y, rfl, f1, f2, sm, nd, len, mem⟩
    rw [List.getElem?_map] at hj
    cases hjx : five[j]? with
    | none => rw [hjx] at hj; cases hj
    | some z =>
      rw [hjx] at hj
      cases hj
      have tk : five.take (j + 1) = five.take j ++ [z] := by rw [List.take_add_one, hjx]; rfl
      have jl : j < 5 := by rw [← l5]; exact (List.getElem?_eq_some_iff.mp hjx).1
      refine ⟨_, rfl, _, _, rfl, rfl, _, rfl, ?_⟩
      by_cases z0 : z ≥ 0
      · refine iteD z0 ?_
        refine ⟨_, rfl, _, rfl, l, _, rfl, .inl (SqL.of f1), rfl, flat_all fs, _, rfl, ?_⟩
        rw [inV_ints]
        by_cases hm : z ∈ fs
        · refine iteNS hm ⟨fs, _, rfl, f1, f2, sm, nd, by omega, fun x => ?_⟩
          rw [mem x, tk, List.mem_append, List.mem_singleton]
          constructor
          · exact fun ⟨a, b⟩ => ⟨a, .inl b⟩
          · rintro ⟨a, b | rfl⟩
            · exact ⟨a, b⟩
            · exact (mem x).mp hm
        · refine iteN hm ?_
          refine ⟨_, rfl, .inl ⟨rfl, _, SqL.of f1⟩, _, rfl, l, _, _, rfl, rfl, f1, (by rw [List.length_map, sizeLine_eq]; omega), ?_⟩
          refine ⟨fs ++ [z], _, rfl, by rw [upd_same, List.map_append]; rfl, by rw [upd_ne (Ne.symm nel)]; exact f2, fun b o e => ?_, ?_, by rw [List.length_append]; exact Nat.add_le_add_right len 1, fun x => ?_⟩
          · rw [upd_ne (ne_of_none e hl)]
            exact sm b o e
          · rw [List.nodup_append]
            exact ⟨nd, List.nodup_cons.mpr ⟨List.not_mem_nil, List.nodup_nil⟩, fun a ha b hb e => by rw [List.mem_singleton] at hb; subst hb; subst e; exact hm ha⟩
          · rw [List.mem_append, mem x, tk, List.mem_append, List.mem_singleton]
            constructor
            · rintro (⟨a, b⟩ | rfl)
              · exact ⟨a, .inl b⟩
              · exact ⟨z0, .inr rfl⟩
            · rintro ⟨a, b | rfl⟩
              · exact .inl ⟨a, b⟩
              · exact .inr rfl
      · refine iteDN z0 (iteF ⟨fs, _, rfl, f1, f2, sm, nd, by omega, fun x => ?_⟩)
        rw [mem x, tk, List.mem_append, List.mem_singleton]
        constructor
        · exact fun ⟨a, b⟩ => ⟨a, .inl b⟩
        · rintro ⟨a, b | rfl⟩
          · exact ⟨a, b⟩
          · exact absurd a z0
  rintro σ H1 ⟨fs, y, rfl, f1, f2, sm, nd, len, mem⟩
  rw [List.length_map, l5] at len
  refine ⟨_, rfl, l, fs, rfl, SqL.of f1, by omega, fun r zs hr' pw pm => ?_⟩
  refine q r zs _ (sm.free hr') upd_same (sm.trans (same_new hr' _)) ⟨pw_of pw pm nd, fun x => ?_⟩ (by rw [pm.length_eq]; exact len)
  rw [pm.mem_iff, mem x, List.length_map, List.take_length, ← hfv, em]
  unfold CorM
  simp only [List.mem_cons, List.not_mem_nil, or_false]
  constructor
  · rintro ⟨x0, e | e | e | e | e⟩
    · exact .inl e
    · exact .inr (.inl e)
    · refine .inr (.inr (.inr (.inr ⟨fun z => ?_, e⟩)))
      rw [z, Int.zero_mul] at e
      omega
    · exact .inr (.inr (.inl e))
    · exact .inr (.inr (.inr (.inl e)))
  · rintro (e | e | e | e | ⟨hz, e⟩)
    · exact ⟨by omega, .inl e⟩
    · refine ⟨?_, .inr (.inl e)⟩
      rw [e]
      split <;> omega
    · exact ⟨by omega, .inr (.inr (.inr (.inl e)))⟩
    · exact ⟨by omega, .inr (.inr (.inr (.inr e)))⟩
    · have := n4 hz
      exact ⟨by omega, .inr (.inr (.inl e))⟩
theorem ok_is_factor {f : Addr} {fd : FuncData} (F : Fun K "is_factor" "is_factor" s_is_factor f fd) (T : Txt K mg c) (H_is_between : Has P w K mg base 2 "is_between" ["thing", "low", "high"] spBetween) : FnOk P w K mg base CX0 3 f fd ["thing"] spFac := by
  refine F.ok sc_is_factor (fun vs H Q E h => ?_) (fun cdv A outer s H vs Q E hr h => ?_)
  · obtain ⟨i, rfl, _⟩ := h
    rfl
  obtain ⟨i, rfl, h1, h2, q⟩ := h
  refine ⟨_, (pss_one (ps_ret (pe_fn H_is_between (hr.mono (by omega)) rfl (pa_cons (pv 0) (pa_cons pe_int (pa_cons (pe_op op_sub (pe_op op_pow pe_int pe_int) pe_int) pa_nil)))))), ?_⟩
  exact ⟨_, rfl, _, _, rfl, rfl, ⟨by decide, by decide, by decide⟩, _, _, rfl, rfl, _, _, _, rfl, h1, by rw [pow32]; omega, q⟩
theorem ok_is_shift {f : Addr} {fd : FuncData} (F : Fun K "is_shift" "is_shift" s_is_shift f fd) (T : Txt K mg c) (H_is_between : Has P w K mg base 2 "is_between" ["thing", "low", "high"] spBetween) : FnOk P w K mg base CX0 3 f fd ["thing"] spShf := by
  refine F.ok sc_is_shift (fun vs H Q E h => ?_) (fun cdv A outer s H vs Q E hr h => ?_)
  · obtain ⟨i, rfl, _⟩ := h
    rfl
  obtain ⟨i, rfl, h1, h2, q⟩ := h
  refine ⟨_, (pss_one (ps_ret (pe_fn H_is_between (hr.mono (by omega)) rfl (pa_cons (pv 0) (pa_cons pe_int (pa_cons pe_int pa_nil)))))), ?_⟩
  exact ⟨_, rfl, _, _, _, rfl, h1, h2, q⟩
theorem ok__law_brought {f : Addr} {fd : FuncData} (F : Fun K "_law_brought" "_law_brought" s__law_brought f fd) (T : Txt K mg c)  : FnOk P w K mg base CX0 1 f fd ["_law_numbers_here", "_law_x"] spBroG := by
  refine F.ok sc__law_brought (fun vs H Q E h => ?_) (fun cdv A outer s H vs Q E hr h => ?_)
  · obtain ⟨r, e, f, a, t, x, rfl, _⟩ := h
    rfl
  obtain ⟨r, e, f, a, t, x, rfl, ht, ⟨e0, e1, f0, f1, a0, a1, t0, t1⟩, x0, x1, q⟩ := h
  refine ⟨_, (pss_cons (ps_asg (pv 0) (pg_tup rfl (pgs_cons (pg_name (i := 2) sc__law_brought.nd rfl (Or.inl rfl)) (pgs_cons (pg_name (i := 3) sc__law_brought.nd rfl (Or.inl rfl)) (pgs_cons (pg_name (i := 4) sc__law_brought.nd rfl (Or.inl rfl)) (pgs_cons (pg_name (i := 5) sc__law_brought.nd rfl (Or.inl rfl)) pgs_nil))))))
    (pss_one (ps_ret (pe_op op_shr (pe_op op_add (pe_op op_mulB (pv 3) (pe_op op_shr (pv 1) (pv 2))) (pv 4)) (pv 5))))), ?_⟩
  have z := xdiv x0 e
  refine ⟨_, rfl, r, _, rfl, SqT.of ht, rfl, _, _, rfl, _, _, rfl, _, _, rfl, _, _, rfl, rfl, ?_⟩
  walk_at "o"
  exact q
theorem ok__law_numbers {f : Addr} {fd : FuncData} (F : Fun K "_law_numbers" "_law_numbers" s__law_numbers f fd) (T : Txt K mg c)  : FnOk P w K mg base CX0 1 f fd ["_law_told", "_law_width"] spNumb := by
  refine F.ok sc__law_numbers (fun vs H Q E h => ?_) (fun cdv A outer s H vs Q E hr h => ?_)
  · obtain ⟨r, i, kd, e, f, t, rfl, _⟩ := h
    rfl
  obtain ⟨r, i, kd, e, f, t, rfl, ht, fm, h1, h2, q⟩ := h
  refine ⟨_, (pss_cons (ps_if (pt_cmpR op_eq (pe_ix ix_tup (pv 0) pe_int (fun _ _ => rfl)) pe_str (nomark _))
      (pss_one (ps_ret (pe_tup (pa_cons pe_int (pa_cons pe_int (pa_cons pe_int (pa_cons (pe_ix ix_tup (pv 0) pe_int (fun _ _ => rfl)) pa_nil)))))))
      pss_nil)
    (pss_cons (ps_if (pt_cmpR op_eq (pe_ix ix_tup (pv 0) pe_int (fun _ _ => rfl)) pe_str (nomark _))
      (pss_one (ps_ret (pe_tup (pa_cons pe_int (pa_cons (pe_ix ix_tup (pv 0) pe_int (fun _ _ => rfl)) (pa_cons pe_int (pa_cons (pe_op op_add (pv 1) (pe_ix ix_tup (pv 0) pe_int (fun _ _ => rfl))) pa_nil)))))))
      pss_nil)
    (pss_cons (ps_if (pt_cmpR op_eq (pe_ix ix_tup (pv 0) pe_int (fun _ _ => rfl)) pe_str (nomark _))
      (pss_one (ps_ret (pe_tup (pa_cons (pe_ix ix_tup (pv 0) pe_int (fun _ _ => rfl)) (pa_cons (pe_ix ix_tup (pv 0) pe_int (fun _ _ => rfl)) (pa_cons pe_int (pa_cons (pe_op op_add (pv 1) (pe_ix ix_tup (pv 0) pe_int (fun _ _ => rfl))) pa_nil)))))))
      pss_nil)
    (pss_cons (ps_if (pt_cmpR op_eq (pe_ix ix_tup (pv 0) pe_int (fun _ _ => rfl)) pe_str (nomark _))
      (pss_one (ps_ret (pe_tup (pa_cons pe_int (pa_cons (pe_ix ix_tup (pv 0) pe_int (fun _ _ => rfl)) (pa_cons (pe_ix ix_tup (pv 0) pe_int (fun _ _ => rfl)) (pa_cons (pe_op op_add (pv 1) (pe_ix ix_tup (pv 0) pe_int (fun _ _ => rfl))) pa_nil)))))))
      pss_nil)
    (pss_one (ps_ret (pe_tup (pa_cons pe_int (pa_cons (pe_op op_add (pe_op op_shl pe_int (pv 1)) (pe_ix ix_tup (pv 0) pe_int (fun _ _ => rfl))) (pa_cons pe_int (pa_cons (pe_op op_add (pv 1) (pe_ix ix_tup (pv 0) pe_int (fun _ _ => rfl))) pa_nil))))))))))), ?_⟩
  have ez := fm.e0
  have kk := fm.k
  rcases (by omega : kd = 0 ∨ kd = 1 ∨ kd = 2 ∨ kd = 3 ∨ kd = 4) with rfl | rfl | rfl | rfl | rfl <;> unfold tlv at ht
  · obtain rfl := ez (by decide)
    refine ⟨_, rfl, r, _, _, _, rfl, rfl, SqT.of ht, rfl, rfl, _, rfl, iteD rfl ?_⟩
    exact ⟨_, rfl, r, _, _, _, rfl, rfl, SqT.of ht, rfl, sz4, fun p hp => q p _ hp upd_same (same_new hp _)⟩
  · obtain rfl := ez (by decide)
    refine ⟨_, rfl, r, _, _, _, rfl, rfl, SqT.of ht, rfl, rfl, _, rfl, iteDN (by walk_at "n") ?_⟩
    refine ⟨_, rfl, r, _, _, _, rfl, rfl, SqT.of ht, rfl, rfl, _, rfl, iteD rfl ?_⟩
    exact ⟨_, rfl, r, _, _, _, rfl, rfl, SqT.of ht, rfl, _, rfl, _, rfl, r, _, _, _, rfl, rfl, SqT.of ht, rfl, _, _, rfl, rfl, sz4, fun p hp => q p _ hp upd_same (same_new hp _)⟩
  · refine ⟨_, rfl, r, _, _, _, rfl, rfl, SqT.of ht, rfl, rfl, _, rfl, iteDN (by walk_at "n") ?_⟩
    refine ⟨_, rfl, r, _, _, _, rfl, rfl, SqT.of ht, rfl, rfl, _, rfl, iteDN (by walk_at "n") ?_⟩
    refine ⟨_, rfl, r, _, _, _, rfl, rfl, SqT.of ht, rfl, rfl, _, rfl, iteD rfl ?_⟩
    exact ⟨_, rfl, r, _, _, _, rfl, rfl, SqT.of ht, rfl, _, rfl, r, _, _, _, rfl, rfl, SqT.of ht, rfl, _, rfl, _, rfl, r, _, _, _, rfl, rfl, SqT.of ht, rfl, _, _, rfl, rfl, sz4, fun p hp => q p _ hp upd_same (same_new hp _)⟩
  · obtain rfl := ez (by decide)
    refine ⟨_, rfl, r, _, _, _, rfl, rfl, SqT.of ht, rfl, rfl, _, rfl, iteDN (by walk_at "n") ?_⟩
    refine ⟨_, rfl, r, _, _, _, rfl, rfl, SqT.of ht, rfl, rfl, _, rfl, iteDN (by walk_at "n") ?_⟩
    refine ⟨_, rfl, r, _, _, _, rfl, rfl, SqT.of ht, rfl, rfl, _, rfl, iteDN (by walk_at "n") ?_⟩
    refine ⟨_, rfl, r, _, _, _, rfl, rfl, SqT.of ht, rfl, rfl, _, rfl, iteD rfl ?_⟩
    exact ⟨_, rfl, r, _, _, _, rfl, rfl, SqT.of ht, rfl, _, rfl, r, _, _, _, rfl, rfl, SqT.of ht, rfl, _, rfl, _, rfl, r, _, _, _, rfl, rfl, SqT.of ht, rfl, _, _, rfl, rfl, sz4, fun p hp => q p _ hp upd_same (same_new hp _)⟩
  · obtain rfl := ez (by decide)
    refine ⟨_, rfl, r, _, _, _, rfl, rfl, SqT.of ht, rfl, rfl, _, rfl, iteDN (by walk_at "n") ?_⟩
    refine ⟨_, rfl, r, _, _, _, rfl, rfl, SqT.of ht, rfl, rfl, _, rfl, iteDN (by walk_at "n") ?_⟩
    refine ⟨_, rfl, r, _, _, _, rfl, rfl, SqT.of ht, rfl, rfl, _, rfl, iteDN (by walk_at "n") ?_⟩
    refine ⟨_, rfl, r, _, _, _, rfl, rfl, SqT.of ht, rfl, rfl, _, rfl, iteDN (by walk_at "n") ?_⟩
    exact ⟨_, rfl, _, _, rfl, rfl, cpow1 (by omega) (by omega), _, rfl, r, _, _, _, rfl, rfl, SqT.of ht, rfl, _, _, rfl, rfl, _, rfl, _, rfl, r, _, _, _, rfl, rfl, SqT.of ht, rfl, _, _, rfl, rfl, sz4, fun p hp => q p _ hp upd_same (same_new hp _)⟩
theorem ok_Shifted___init__ {f : Addr} {fd : FuncData} (F : Fun K "__init__" "Shifted.__init__" s_Shifted___init__ f fd) (T : Txt K mg c) (H_is_shift : Has P w K mg base 3 "is_shift" ["thing"] spShf) : FnOk P w K mg base CX0 4 f fd ["self", "shift"] (spI0 c) := by
  refine F.ok sc_Shifted___init__ (fun vs H Q E h => ?_) (fun cdv A outer s H vs Q E hr h => ?_)
  · obtain ⟨x, dx, s, rfl, _⟩ := h
    rfl
  obtain ⟨x, dx, s, rfl, hx, s0, s1, q⟩ := h
  refine ⟨_, (pss_cons (ps_fld (pv 0) (pv 1) rfl)
    (pss_one (ps_if (pt_not (pt_val (pe_fn H_is_shift (hr.mono (by omega)) rfl (pa_cons (pv 1) pa_nil))))
      (pss_one ps_never)
      pss_nil))), ?_⟩
  refine ⟨_, rfl, _, rfl, x, _, dx, _, rfl, hx, T.cl_Shifted, T.na_Shifted_shift, (by show 0 < 1000; decide), ?_⟩
  refine ⟨_, rfl, _, rfl, s0, s1, _, rfl, iteF ?_⟩
  exact q _ (SameX.upd) ⟨dx, upd_same⟩
theorem ok_Shifted_word {f : Addr} {fd : FuncData} (F : Fun K "word" "Shifted.word" s_Shifted_word f fd) (T : Txt K mg c)  : FnOk P w K mg base CX0 1 f fd ["self"] (spWd 0) := by
  refine F.ok sc_Shifted_word (fun vs H Q E h => ?_) (fun cdv A outer s H vs Q E hr h => ?_)
  · obtain ⟨x, rfl, _⟩ := h
    rfl
  obtain ⟨x, rfl, q⟩ := h
  exact ⟨_, (pss_one (ps_ret pe_str)), q⟩
theorem ok_Shifted_told {f : Addr} {fd : FuncData} (F : Fun K "told" "Shifted.told" s_Shifted_told f fd) (T : Txt K mg c)  (MW : MHas P w K mg base 1 c.Shifted "word" ["self"] (spWd 0)) : FnOk P w K mg base CX0 2 f fd ["self"] (spTold c 0) := by
  refine F.ok sc_Shifted_told (fun vs H Q E h => ?_) (fun cdv A outer s H vs Q E hr h => ?_)
  · obtain ⟨x, e, f, s, rfl, _⟩ := h
    rfl
  obtain ⟨x, e, f, s, rfl, ⟨dx, hx⟩, q⟩ := h
  refine ⟨_, (pss_one (ps_ret (pe_tup (pa_cons (pe_methP0 (k := 1) (pv 0) (hr.mono (by omega))) (pa_cons (pe_fld (pv 0) rfl) pa_nil))))), ?_⟩
  refine ⟨_, rfl, x, _, dx, _, _, _, rfl, hx, rfl, MW, x, rfl, _, rfl, x, _, dx, _, _, rfl, hx, T.cl_Shifted, T.na_Shifted_shift, rfl, (by show 2 ≤ sizeLine; decide), fun r hr' => q r _ hr' upd_same (same_new hr' _)⟩
theorem ok_Scaled___init__ {f : Addr} {fd : FuncData} (F : Fun K "__init__" "Scaled.__init__" s_Scaled___init__ f fd) (T : Txt K mg c) (H_is_factor : Has P w K mg base 3 "is_factor" ["thing"] spFac) (H_is_shift : Has P w K mg base 3 "is_shift" ["thing"] spShf) : FnOk P w K mg base CX0 4 f fd ["self", "factor", "shift"] (spI2 c 1 0) := by
  refine F.ok sc_Scaled___init__ (fun vs H Q E h => ?_) (fun cdv A outer s H vs Q E hr h => ?_)
  · obtain ⟨x, dx, f, s, rfl, _⟩ := h
    rfl
  obtain ⟨x, dx, f, s, rfl, hx, f0, f1, s0, s1, q⟩ := h
  refine ⟨_, (pss_cons (ps_fld (pv 0) (pv 1) rfl)
    (pss_cons (ps_fld (pv 0) (pv 2) rfl)
    (pss_one (ps_if (PW.pt (pw_or (pt_not (pt_val (pe_fn H_is_factor (hr.mono (by omega)) rfl (pa_cons (pv 1) pa_nil)))) (pw_or1 (pt_not (pt_val (pe_fn H_is_shift (hr.mono (by omega)) rfl (pa_cons (pv 2) pa_nil)))))))
      (pss_one ps_never)
      pss_nil)))), ?_⟩
  refine ⟨_, rfl, _, rfl, x, _, dx, _, rfl, hx, T.cl_Scaled, T.na_Scaled_factor, (by show 0 < 1000; decide), ?_⟩
  refine ⟨_, rfl, _, rfl, x, _, dx, _, rfl, upd_same, T.cl_Scaled, T.na_Scaled_shift, (by show 1 < 1000; decide), ?_⟩
  refine ⟨_, rfl, _, rfl, f0, f1, _, rfl, iteF ?_⟩
  refine ⟨_, rfl, _, rfl, s0, s1, _, rfl, iteF ?_⟩
  exact q _ (SameX.upd.trans (SameX.upd)) ⟨dx, upd_same⟩
theorem ok_Scaled_word {f : Addr} {fd : FuncData} (F : Fun K "word" "Scaled.word" s_Scaled_word f fd) (T : Txt K mg c)  : FnOk P w K mg base CX0 1 f fd ["self"] (spWd 1) := by
  refine F.ok sc_Scaled_word (fun vs H Q E h => ?_) (fun cdv A outer s H vs Q E hr h => ?_)
  · obtain ⟨x, rfl, _⟩ := h
    rfl
  obtain ⟨x, rfl, q⟩ := h
  exact ⟨_, (pss_one (ps_ret pe_str)), q⟩
theorem ok_Scaled_told {f : Addr} {fd : FuncData} (F : Fun K "told" "Scaled.told" s_Scaled_told f fd) (T : Txt K mg c)  (MW : MHas P w K mg base 1 c.Scaled "word" ["self"] (spWd 1)) : FnOk P w K mg base CX0 2 f fd ["self"] (spTold c 1) := by
  refine F.ok sc_Scaled_told (fun vs H Q E h => ?_) (fun cdv A outer s H vs Q E hr h => ?_)
  · obtain ⟨x, e, f, s, rfl, _⟩ := h
    rfl
  obtain ⟨x, e, f, s, rfl, ⟨dx, hx⟩, q⟩ := h
  refine ⟨_, (pss_one (ps_ret (pe_tup (pa_cons (pe_methP0 (k := 1) (pv 0) (hr.mono (by omega))) (pa_cons (pe_fld (pv 0) rfl) (pa_cons (pe_fld (pv 0) rfl) pa_nil)))))), ?_⟩
  refine ⟨_, rfl, x, _, dx, _, _, _, rfl, hx, rfl, MW, x, rfl, _, rfl, x, _, dx, _, _, rfl, hx, T.cl_Scaled, T.na_Scaled_factor, rfl, _, rfl, x, _, dx, _, _, rfl, hx, T.cl_Scaled, T.na_Scaled_shift, rfl, (by show 3 ≤ sizeLine; decide), fun r hr' => q r _ hr' upd_same (same_new hr' _)⟩
theorem ok_Early___init__ {f : Addr} {fd : FuncData} (F : Fun K "__init__" "Early.__init__" s_Early___init__ f fd) (T : Txt K mg c) (H_is_shift : Has P w K mg base 3 "is_shift" ["thing"] spShf) (H_is_factor : Has P w K mg base 3 "is_factor" ["thing"] spFac) : FnOk P w K mg base CX0 4 f fd ["self", "early", "factor", "shift"] (spI3 c) := by
  refine F.ok sc_Early___init__ (fun vs H Q E h => ?_) (fun cdv A outer s H vs Q E hr h => ?_)
  · obtain ⟨x, dx, e, f, s, rfl, _⟩ := h
    rfl
  obtain ⟨x, dx, e, f, s, rfl, hx, e0, e1, f0, f1, s0, s1, q⟩ := h
  refine ⟨_, (pss_cons (ps_fld (pv 0) (pv 1) rfl)
    (pss_cons (ps_fld (pv 0) (pv 2) rfl)
    (pss_cons (ps_fld (pv 0) (pv 3) rfl)
    (pss_one (ps_if (PW.pt (pw_or (pt_not (pt_val (pe_fn H_is_shift (hr.mono (by omega)) rfl (pa_cons (pv 1) pa_nil)))) (pw_or (pt_not (pt_val (pe_fn H_is_factor (hr.mono (by omega)) rfl (pa_cons (pv 2) pa_nil)))) (pw_or1 (pt_not (pt_val (pe_fn H_is_shift (hr.mono (by omega)) rfl (pa_cons (pv 3) pa_nil))))))))
      (pss_one ps_never)
      pss_nil))))), ?_⟩
  refine ⟨_, rfl, _, rfl, x, _, dx, _, rfl, hx, T.cl_Early, T.na_Early_early, (by show 0 < 1000; decide), ?_⟩
  refine ⟨_, rfl, _, rfl, x, _, dx, _, rfl, upd_same, T.cl_Early, T.na_Early_factor, (by show 1 < 1000; decide), ?_⟩
  refine ⟨_, rfl, _, rfl, x, _, dx, _, rfl, upd_same, T.cl_Early, T.na_Early_shift, (by show 2 < 1000; decide), ?_⟩
  refine ⟨_, rfl, _, rfl, e0, e1, _, rfl, iteF ?_⟩
  refine ⟨_, rfl, _, rfl, f0, f1, _, rfl, iteF ?_⟩
  refine ⟨_, rfl, _, rfl, s0, s1, _, rfl, iteF ?_⟩
  exact q _ (SameX.upd.trans (SameX.upd.trans (SameX.upd))) ⟨dx, upd_same⟩
theorem ok_Early_word {f : Addr} {fd : FuncData} (F : Fun K "word" "Early.word" s_Early_word f fd) (T : Txt K mg c)  : FnOk P w K mg base CX0 1 f fd ["self"] (spWd 2) := by
  refine F.ok sc_Early_word (fun vs H Q E h => ?_) (fun cdv A outer s H vs Q E hr h => ?_)
  · obtain ⟨x, rfl, _⟩ := h
    rfl
  obtain ⟨x, rfl, q⟩ := h
  exact ⟨_, (pss_one (ps_ret pe_str)), q⟩
theorem ok_Early_told {f : Addr} {fd : FuncData} (F : Fun K "told" "Early.told" s_Early_told f fd) (T : Txt K mg c)  (MW : MHas P w K mg base 1 c.Early "word" ["self"] (spWd 2)) : FnOk P w K mg base CX0 2 f fd ["self"] (spTold c 2) := by
  refine F.ok sc_Early_told (fun vs H Q E h => ?_) (fun cdv A outer s H vs Q E hr h => ?_)
  · obtain ⟨x, e, f, s, rfl, _⟩ := h
    rfl
  obtain ⟨x, e, f, s, rfl, ⟨dx, hx⟩, q⟩ := h
  refine ⟨_, (pss_one (ps_ret (pe_tup (pa_cons (pe_methP0 (k := 1) (pv 0) (hr.mono (by omega))) (pa_cons (pe_fld (pv 0) rfl) (pa_cons (pe_fld (pv 0) rfl) (pa_cons (pe_fld (pv 0) rfl) pa_nil))))))), ?_⟩
  refine ⟨_, rfl, x, _, dx, _, _, _, rfl, hx, rfl, MW, x, rfl, _, rfl, x, _, dx, _, _, rfl, hx, T.cl_Early, T.na_Early_early, rfl, _, rfl, x, _, dx, _, _, rfl, hx, T.cl_Early, T.na_Early_factor, rfl, _, rfl, x, _, dx, _, _, rfl, hx, T.cl_Early, T.na_Early_shift, rfl, (by show 4 ≤ sizeLine; decide), fun r hr' => q r _ hr' upd_same (same_new hr' _)⟩
theorem ok_More___init__ {f : Addr} {fd : FuncData} (F : Fun K "__init__" "More.__init__" s_More___init__ f fd) (T : Txt K mg c) (H_is_factor : Has P w K mg base 3 "is_factor" ["thing"] spFac) (H_is_shift : Has P w K mg base 3 "is_shift" ["thing"] spShf) : FnOk P w K mg base CX0 4 f fd ["self", "factor", "shift"] (spI2 c 3 0) := by
  refine F.ok sc_More___init__ (fun vs H Q E h => ?_) (fun cdv A outer s H vs Q E hr h => ?_)
  · obtain ⟨x, dx, f, s, rfl, _⟩ := h
    rfl
  obtain ⟨x, dx, f, s, rfl, hx, f0, f1, s0, s1, q⟩ := h
  refine ⟨_, (pss_cons (ps_fld (pv 0) (pv 1) rfl)
    (pss_cons (ps_fld (pv 0) (pv 2) rfl)
    (pss_one (ps_if (PW.pt (pw_or (pt_not (pt_val (pe_fn H_is_factor (hr.mono (by omega)) rfl (pa_cons (pv 1) pa_nil)))) (pw_or1 (pt_not (pt_val (pe_fn H_is_shift (hr.mono (by omega)) rfl (pa_cons (pv 2) pa_nil)))))))
      (pss_one ps_never)
      pss_nil)))), ?_⟩
  refine ⟨_, rfl, _, rfl, x, _, dx, _, rfl, hx, T.cl_More, T.na_More_factor, (by show 0 < 1000; decide), ?_⟩
  refine ⟨_, rfl, _, rfl, x, _, dx, _, rfl, upd_same, T.cl_More, T.na_More_shift, (by show 1 < 1000; decide), ?_⟩
  refine ⟨_, rfl, _, rfl, f0, f1, _, rfl, iteF ?_⟩
  refine ⟨_, rfl, _, rfl, s0, s1, _, rfl, iteF ?_⟩
  exact q _ (SameX.upd.trans (SameX.upd)) ⟨dx, upd_same⟩
theorem ok_More_word {f : Addr} {fd : FuncData} (F : Fun K "word" "More.word" s_More_word f fd) (T : Txt K mg c)  : FnOk P w K mg base CX0 1 f fd ["self"] (spWd 3) := by
  refine F.ok sc_More_word (fun vs H Q E h => ?_) (fun cdv A outer s H vs Q E hr h => ?_)
  · obtain ⟨x, rfl, _⟩ := h
    rfl
  obtain ⟨x, rfl, q⟩ := h
  exact ⟨_, (pss_one (ps_ret pe_str)), q⟩
theorem ok_More_told {f : Addr} {fd : FuncData} (F : Fun K "told" "More.told" s_More_told f fd) (T : Txt K mg c)  (MW : MHas P w K mg base 1 c.More "word" ["self"] (spWd 3)) : FnOk P w K mg base CX0 2 f fd ["self"] (spTold c 3) := by
  refine F.ok sc_More_told (fun vs H Q E h => ?_) (fun cdv A outer s H vs Q E hr h => ?_)
  · obtain ⟨x, e, f, s, rfl, _⟩ := h
    rfl
  obtain ⟨x, e, f, s, rfl, ⟨dx, hx⟩, q⟩ := h
  refine ⟨_, (pss_one (ps_ret (pe_tup (pa_cons (pe_methP0 (k := 1) (pv 0) (hr.mono (by omega))) (pa_cons (pe_fld (pv 0) rfl) (pa_cons (pe_fld (pv 0) rfl) pa_nil)))))), ?_⟩
  refine ⟨_, rfl, x, _, dx, _, _, _, rfl, hx, rfl, MW, x, rfl, _, rfl, x, _, dx, _, _, rfl, hx, T.cl_More, T.na_More_factor, rfl, _, rfl, x, _, dx, _, _, rfl, hx, T.cl_More, T.na_More_shift, rfl, (by show 3 ≤ sizeLine; decide), fun r hr' => q r _ hr' upd_same (same_new hr' _)⟩
theorem ok_Wide___init__ {f : Addr} {fd : FuncData} (F : Fun K "__init__" "Wide.__init__" s_Wide___init__ f fd) (T : Txt K mg c) (H_is_factor : Has P w K mg base 3 "is_factor" ["thing"] spFac) (H_is_between : Has P w K mg base 2 "is_between" ["thing", "low", "high"] spBetween) : FnOk P w K mg base CX0 4 f fd ["self", "factor", "shift"] (spI2 c 4 1) := by
  refine F.ok sc_Wide___init__ (fun vs H Q E h => ?_) (fun cdv A outer s H vs Q E hr h => ?_)
  · obtain ⟨x, dx, f, s, rfl, _⟩ := h
    rfl
  obtain ⟨x, dx, f, s, rfl, hx, f0, f1, s0, s1, q⟩ := h
  refine ⟨_, (pss_cons (ps_fld (pv 0) (pv 1) rfl)
    (pss_cons (ps_fld (pv 0) (pv 2) rfl)
    (pss_one (ps_if (PW.pt (pw_or (pt_not (pt_val (pe_fn H_is_factor (hr.mono (by omega)) rfl (pa_cons (pv 1) pa_nil)))) (pw_or1 (pt_not (pt_val (pe_fn H_is_between (hr.mono (by omega)) rfl (pa_cons (pv 2) (pa_cons pe_int (pa_cons pe_int pa_nil)))))))))
      (pss_one ps_never)
      pss_nil)))), ?_⟩
  refine ⟨_, rfl, _, rfl, x, _, dx, _, rfl, hx, T.cl_Wide, T.na_Wide_factor, (by show 0 < 1000; decide), ?_⟩
  refine ⟨_, rfl, _, rfl, x, _, dx, _, rfl, upd_same, T.cl_Wide, T.na_Wide_shift, (by show 1 < 1000; decide), ?_⟩
  refine ⟨_, rfl, _, rfl, f0, f1, _, rfl, iteF ?_⟩
  refine ⟨_, rfl, _, _, _, rfl, s0, s1, _, rfl, iteF ?_⟩
  exact q _ (SameX.upd.trans (SameX.upd)) ⟨dx, upd_same⟩
theorem ok_Wide_word {f : Addr} {fd : FuncData} (F : Fun K "word" "Wide.word" s_Wide_word f fd) (T : Txt K mg c)  : FnOk P w K mg base CX0 1 f fd ["self"] (spWd 4) := by
  refine F.ok sc_Wide_word (fun vs H Q E h => ?_) (fun cdv A outer s H vs Q E hr h => ?_)
  · obtain ⟨x, rfl, _⟩ := h
    rfl
  obtain ⟨x, rfl, q⟩ := h
  exact ⟨_, (pss_one (ps_ret pe_str)), q⟩
theorem ok_Wide_told {f : Addr} {fd : FuncData} (F : Fun K "told" "Wide.told" s_Wide_told f fd) (T : Txt K mg c)  (MW : MHas P w K mg base 1 c.Wide "word" ["self"] (spWd 4)) : FnOk P w K mg base CX0 2 f fd ["self"] (spTold c 4) := by
  refine F.ok sc_Wide_told (fun vs H Q E h => ?_) (fun cdv A outer s H vs Q E hr h => ?_)
  · obtain ⟨x, e, f, s, rfl, _⟩ := h
    rfl
  obtain ⟨x, e, f, s, rfl, ⟨dx, hx⟩, q⟩ := h
  refine ⟨_, (pss_one (ps_ret (pe_tup (pa_cons (pe_methP0 (k := 1) (pv 0) (hr.mono (by omega))) (pa_cons (pe_fld (pv 0) rfl) (pa_cons (pe_fld (pv 0) rfl) pa_nil)))))), ?_⟩
  refine ⟨_, rfl, x, _, dx, _, _, _, rfl, hx, rfl, MW, x, rfl, _, rfl, x, _, dx, _, _, rfl, hx, T.cl_Wide, T.na_Wide_factor, rfl, _, rfl, x, _, dx, _, _, rfl, hx, T.cl_Wide, T.na_Wide_shift, rfl, (by show 3 ≤ sizeLine; decide), fun r hr' => q r _ hr' upd_same (same_new hr' _)⟩
theorem ok_NoPrices___init__ {f : Addr} {fd : FuncData} (F : Fun K "__init__" "NoPrices.__init__" s_NoPrices___init__ f fd) (T : Txt K mg c)  (xc : XCls K c.NoPrices f "found") : FnOk P w K mg base CX0 1 f fd ["self", "found"] (spXI "found" c.NoPrices) := by
  refine F.ok sc_NoPrices___init__ (fun vs H Q E h => ?_) (fun cdv A outer s H vs Q E hr h => ?_)
  · obtain ⟨e, t, v, rfl, _⟩ := h
    rfl
  obtain ⟨e, t, v, rfl, he, q⟩ := h
  refine ⟨_, (pss_one (ps_xset (pv 0) (pv 1) rfl)), ?_⟩
  exact ⟨_, rfl, _, rfl, e, c.NoPrices, t, _, rfl, he, xc, fun d hd hne => q d hd hne⟩
theorem ok_need_signed_divisor {f : Addr} {fd : FuncData} (F : Fun K "need_signed_divisor" "need_signed_divisor" s_need_signed_divisor f fd) (T : Txt K mg c) (H_need_width : Has P w K mg base 3 "need_width" ["width"] spNeedW) (H_is_between : Has P w K mg base 2 "is_between" ["thing", "low", "high"] spBetween) : FnOk P w K mg base CX0 4 f fd ["width", "d"] spNeedSD := by
  refine F.ok sc_need_signed_divisor (fun vs H Q E h => ?_) (fun cdv A outer s H vs Q E hr h => ?_)
  · obtain ⟨i, d, rfl, _⟩ := h
    rfl
  obtain ⟨i, d, rfl, h1, h2, d1, d2, q⟩ := h
  refine ⟨_, (pss_cons (ps_expr (pe_fn H_need_width (hr.mono (by omega)) rfl (pa_cons (pv 0) pa_nil)))
    (pss_one (ps_if (pt_not (pt_val (pe_fn H_is_between (hr.mono (by omega)) rfl (pa_cons (pv 1) (pa_cons pe_int (pa_cons (pe_op op_shl pe_int (pe_op op_sub (pv 0) pe_int)) pa_nil))))))
      (pss_one ps_never)
      pss_nil))), ?_⟩
  refine ⟨_, rfl, _, rfl, h1, h2, ?_⟩
  refine ⟨_, rfl, _, rfl, _, _, rfl, rfl, _, _, rfl, rfl, cpow1 (by omega) (by omega), _, _, _, rfl, d1, by omega, _, rfl, iteF ?_⟩
  exact q
theorem ok__law_signed_divisor {f : Addr} {fd : FuncData} (F : Fun K "_law_signed_divisor" "_law_signed_divisor" s__law_signed_divisor f fd) (T : Txt K mg c) (H__law_divisor : Has P w K mg base 2 "_law_divisor" ["_law_state", "_law_width"] spDiv) (H__law_draw : Has P w K mg base 1 "_law_draw" ["_law_state", "_law_size"] spTake) : FnOk P w K mg base CX0 3 f fd ["_law_state", "_law_width"] spSDiv := by
  refine F.ok sc__law_signed_divisor (fun vs H Q E h => ?_) (fun cdv A outer s H vs Q E hr h => ?_)
  · obtain ⟨p, i, rfl, _⟩ := h
    rfl
  obtain ⟨p, i, rfl, hb, h1, h2, q⟩ := h
  refine ⟨_, (pss_cons (ps_set (i := 2) sc__law_signed_divisor.nd rfl (Or.inl rfl) (pe_op op_shl pe_int (pe_op op_sub (pv 1) pe_int)))
    (pss_cons (ps_set (i := 3) sc__law_signed_divisor.nd rfl (Or.inl rfl) (pe_fn H__law_divisor (hr.mono (by omega)) rfl (pa_cons (pv 0) (pa_cons (pv 1) pa_nil))))
    (pss_join (ps_if (pt_cmpR op_gt (pv 3) (pv 2) (nomark _))
      (pss_one (ps_set (i := 3) sc__law_signed_divisor.nd rfl (Or.inl rfl) (pe_op op_sub (pv 2) (pe_fn H__law_draw (hr.mono (by omega)) rfl (pa_cons (pv 0) (pa_cons pe_int pa_nil))))))
      pss_nil)
    (pss_one (ps_ret (pv 3)))))), ?_⟩
  have ph := ph_bounds h1 h2
  walk_at "o"; intro d H1 d1 d2 b1 x1
  refine ⟨fun σ2 HZ => ∃ d' : Int, σ2 = [some (.ref p), some (.int i), some (.int (1 * 2 ^ (i - 1).toNat)), some (.int d')] ∧ 1 ≤ d' ∧ d' ≤ 2 ^ (i - 1).toNat ∧ Bx HZ p ∧ SameX p H HZ, ?_, ?_⟩
  · refine ⟨_, rfl, _, rfl, _, _, rfl, rfl, _, rfl, ?_⟩
    walk_at "c" <;> intro c0
    · refine ⟨_, rfl, _, rfl, p, _, rfl, b1, by decide, by decide, fun g H2 g0 g1 b2 x2 => ⟨_, _, rfl, rfl, _, rfl, by omega, by omega, b2, x1.trans x2⟩⟩
    · exact ⟨d, rfl, d1, by omega, b1, x1⟩
  rintro σ2 HZ ⟨d', rfl, e1, e2, bZ, xZ⟩
  exact ⟨_, rfl, q d' HZ e1 e2 bZ xZ⟩
theorem ok__law_cut {f : Addr} {fd : FuncData} (F : Fun K "_law_cut" "_law_cut" s__law_cut f fd) (T : Txt K mg c)  : FnOk P w K mg base CX0 1 f fd ["_law_x", "_law_d"] spCut := by
  refine F.ok sc__law_cut (fun vs H Q E h => ?_) (fun cdv A outer s H vs Q E hr h => ?_)
  · obtain ⟨x, d, rfl, _⟩ := h
    rfl
  obtain ⟨x, d, rfl, d1, d2, q⟩ := h
  refine ⟨_, (pss_cons (ps_if (pt_cmpR op_lt (pv 0) pe_int (nomark _))
      (pss_one (ps_ret (pe_op op_sub pe_int (pe_op op_fdivB (pe_op op_sub pe_int (pv 0)) (pv 1)))))
      pss_nil)
    (pss_one (ps_ret (pe_op op_fdivB (pv 0) (pv 1))))), ?_⟩
  have lg := log_small (m := d) (by omega) (by omega)
  unfold cutq at q
  walk_at "o"
  walk_at "c" <;> intro c0
  · rw [if_pos c0, ← Int.zero_sub (a := -x / d), ← Int.zero_sub (a := x)] at q
    walk_at "o"
    exact q
  · rw [if_neg c0] at q
    walk_at "o"
    exact q
theorem ok__law_signed_quotient {f : Addr} {fd : FuncData} (F : Fun K "_law_signed_quotient" "_law_signed_quotient" s__law_signed_quotient f fd) (T : Txt K mg c) (H__law_brought : Has P w K mg base 1 "_law_brought" ["_law_numbers_here", "_law_x"] spBroG) (H__law_numbers : Has P w K mg base 1 "_law_numbers" ["_law_told", "_law_width"] spNumb) : FnOk P w K mg base CX0 2 f fd ["_law_told", "_law_width", "_law_x"] spSQ := by
  refine F.ok sc__law_signed_quotient (fun vs H Q E h => ?_) (fun cdv A outer s H vs Q E hr h => ?_)
  · obtain ⟨r, i, x, sd, rfl, _⟩ := h
    rfl
  obtain ⟨r, i, x, sd, rfl, h1, h2, x0, x1, st, ok, q⟩ := h
  refine ⟨_, (pss_cons (ps_if (pt_cmpR op_eq (pe_ix ix_tup (pv 0) pe_int (fun _ _ => rfl)) pe_str (nomark _))
      (pss_one (ps_ret (pe_op op_add (pe_op op_shr (pe_op op_mulB (pe_ix ix_tup (pv 0) pe_int (fun _ _ => rfl)) (pv 2)) (pe_op op_add (pv 1) (pe_ix ix_tup (pv 0) pe_int (fun _ _ => rfl)))) (pe_callTy call_int1 rfl T.n_int boot_int (pa_cons (pe_cmpR op_lt (pv 2) pe_int (nomark _)) pa_nil)))))
      pss_nil)
    (pss_cons (ps_set (i := 3) sc__law_signed_quotient.nd rfl (Or.inl rfl) (pe_fn H__law_brought (hr.mono (by omega)) rfl (pa_cons (pe_fn H__law_numbers (hr.mono (by omega)) rfl (pa_cons (pe_ix ix_tup (pv 0) pe_int (fun _ _ => rfl)) (pa_cons (pv 1) pa_nil))) (pa_cons (pe_callB call_abs rfl T.n_abs boot_abs (pa_cons (pv 2) pa_nil)) pa_nil))))
    (pss_cons (ps_if (pt_cmpR op_lt (pv 2) pe_int (nomark _))
      (pss_one (ps_ret (pe_op op_sub pe_int (pv 3))))
      pss_nil)
    (pss_one (ps_ret (pv 3)))))), ?_⟩
  cases sd with
  | cut f k =>
    obtain ⟨f0, f1, k0, k1⟩ := ok
    refine ⟨_, rfl, r, _, _, _, rfl, rfl, SqT.of st, rfl, rfl, _, rfl, iteD rfl ?_⟩
    refine ⟨_, rfl, r, _, _, _, rfl, rfl, SqT.of st, rfl, _, rfl, _, _, rfl, rfl, ⟨b200 (by omega) (by omega), b200 (by omega) (by omega)⟩, _, rfl, _, rfl, r, _, _, _, rfl, rfl, SqT.of st, rfl, _, _, rfl, rfl, _, _, rfl, rfl, (by show 0 ≤ i + k; omega), _, rfl, _, _, rfl, rfl, .inr ⟨_, rfl, ?_⟩⟩
    refine ⟨_, _, rfl, rfl, ?_⟩
    have e : (if decide (x < 0) = true then (1 : Int) else 0) = (if x < 0 then 1 else 0) := by simp only [decide_eq_true_eq]
    have z := q H (Same.refl _)
    unfold SD.q at z
    dsimp only at z ⊢
    rw [e]
    exact z
  | turn kd e f s3 =>
    obtain ⟨u, hr1, hu⟩ := st
    have fm : Fm kd e f s3 := ok
    refine ⟨_, rfl, r, _, _, _, rfl, rfl, SqT.of hr1, rfl, rfl, _, rfl, iteDN (by walk_at "n") ?_⟩
    refine ⟨_, rfl, r, _, _, _, rfl, rfl, SqT.of hr1, rfl, _, rfl, u, i, kd, e, f, s3, rfl, hu, fm, h1, h2, fun n H1 n0 hn s1 => ?_⟩
    have ab : 0 ≤ (if x < 0 then -x else x) ∧ (if x < 0 then -x else x) ≤ 4294967296 := by split <;> omega
    refine ⟨_, rfl, _, rfl, n, _, _, _, _, _, rfl, hn, fm.rg h1 h2, ab.1, by omega, ?_⟩
    have z := q H1 s1
    unfold SD.q at z
    dsimp only at z
    refine ⟨_, rfl, _, _, rfl, rfl, _, rfl, ?_⟩
    walk_at "c" <;> intro c0
    · rw [if_pos c0, ← Int.zero_sub] at z
      rw [if_pos c0]
      exact ⟨_, rfl, _, _, rfl, rfl, z⟩
    · rw [if_neg c0] at z
      rw [if_neg c0]
      exact ⟨_, rfl, z⟩
theorem ok__law_signed_corners {f : Addr} {fd : FuncData} (F : Fun K "_law_signed_corners" "_law_signed_corners" s__law_signed_corners f fd) (T : Txt K mg c) (H__law_corners : Has P w K mg base 1 "_law_corners" ["_law_last", "_law_d"] spCorners) : FnOk P w K mg base CX0 2 f fd ["_law_up_here", "_law_down", "_law_d"] spSC := by
  refine F.ok sc__law_signed_corners (fun vs H Q E h => ?_) (fun cdv A outer s H vs Q E hr h => ?_)
  · obtain ⟨up, down, d, rfl, _⟩ := h
    rfl
  obtain ⟨up, down, d, rfl, u0, u1, w0, w1, d1, d2, q⟩ := h
  refine ⟨_, (pss_cons (ps_set (i := 3) sc__law_signed_corners.nd rfl (Or.inl rfl) (pe_lst pa_nil))
    (pss_join (ps_if (pt_cmpR op_ge (pv 0) pe_int (nomark _))
      (pss_one (ps_set (i := 3) sc__law_signed_corners.nd rfl (Or.inl rfl) (pe_fn H__law_corners (hr.mono (by omega)) rfl (pa_cons (pv 0) (pa_cons (pv 2) pa_nil)))))
      pss_nil)
    (pss_join (ps_if (pt_cmpR op_gt (pv 1) pe_int (nomark _))
      (pss_cons (ps_set (i := 4) sc__law_signed_corners.nd rfl (Or.inl rfl) (pe_op op_fdivB (pv 1) (pv 2)))
      (pss_one (ps_for PassesOwn.never rfl (pi_list (pe_lst (pa_cons (pe_op op_sub (pv 2) pe_int) (pa_cons (pe_op op_sub (pe_op op_mulB (pv 4) (pv 2)) pe_int) (pa_cons (pe_op op_mulB (pv 4) (pv 2)) (pa_cons (pv 1) pa_nil)))))) (pg_name (i := 5) sc__law_signed_corners.nd rfl (Or.inl rfl))
        (pss_one (ps_if (PW.pt (pw_and (pt_chain op_lt op_le pe_int (pv 5) (pv 1)) (pw_and1 (pt_cmpR op_notIn_seq (pe_op op_sub pe_int (pv 5)) (pv 3) (by with_unfolding_all rfl)))))
          (pss_one (ps_expr (pe_bm PySem.F.plainAttrs_list PySem.F.slot_list_append PySem.F.type_list_append mt_append (pv 3) (pa_cons (pe_op op_sub pe_int (pv 5)) pa_nil))))
          pss_nil)))))
      pss_nil)
    (pss_one (ps_ret (pe_callB call_sorted_list rfl T.n_sorted boot_sorted (pa_cons (pv 3) pa_nil))))))), ?_⟩
  have lg := log_small (m := d) (by omega) (by omega)
  refine ⟨(by show 0 ≤ sizeLine; decide), fun l00 hl00 => ?_⟩
  refine ⟨fun σ2 HZ => ∃ (l : Addr) (ns : List Int), σ2 = [some (.int up), some (.int down), some (.int d), some (.ref l), none, none] ∧ HZ l = some (.lst (ns.map V.int)) ∧ H l = none ∧ Same H HZ ∧ ns.length ≤ 5 ∧ ns.Nodup ∧ ∀ x, x ∈ ns ↔ (0 ≤ up ∧ CorM up d x), ?_, ?_⟩
  · have s0 := same_new hl00 (.lst [])
    refine ⟨_, rfl, _, _, rfl, rfl, _, rfl, ?_⟩
    walk_at "c" <;> intro c0
    · exact ⟨_, rfl, _, rfl, _, _, rfl, c0, u1, d1, d2, fun p zs H' fp hp s1 cor ln => ⟨p, zs, rfl, hp, s0.free fp, s0.trans s1, ln, cor.1.imp fun h => Int.ne_of_lt h, fun x => ⟨fun h => ⟨c0, (cor.2 x).mp h⟩, fun h => (cor.2 x).mpr h.2⟩⟩⟩
    · exact ⟨l00, [], rfl, upd_same, hl00, s0, by decide, List.nodup_nil, fun x => ⟨fun h => (nomatch h), fun h => absurd h.1 c0⟩⟩
  rintro σ2 H1 ⟨l, ns, rfl, hl1, l0, s1, ln, nd, mem⟩
  refine ⟨fun σ2 HZ => ∃ (ns2 : List Int) (z4 z5 : Option V), σ2 = [some (.int up), some (.int down), some (.int d), some (.ref l), z4, z5] ∧ HZ l = some (.lst (ns2.map V.int)) ∧ Same H HZ ∧ ns2.length ≤ 9 ∧ ns2.Nodup ∧ ∀ x, x ∈ ns2 ↔ SCM up down d x, ?_, ?_⟩
  · refine ⟨_, rfl, _, _, rfl, rfl, _, rfl, ?_⟩
    walk_at "c" <;> intro c1
    · obtain ⟨n0, n1, n2, n3, n4⟩ := cor_nums (last := down) (by omega) (by omega) d1
      refine ⟨_, rfl, _, rfl, _, _, rfl, rfl, ⟨by omega, lg⟩, ?_⟩
      refine ⟨_, rfl, _, _, rfl, rfl, _, rfl, _, rfl, _, _, rfl, rfl, ⟨b200 (by omega) (by omega), b200 (by omega) (by omega)⟩, _, _, rfl, rfl, _, rfl, _, rfl, _, _, rfl, rfl, ⟨b200 (by omega) (by omega), b200 (by omega) (by omega)⟩, _, rfl, (by show 4 ≤ sizeLine; decide), fun b hb => ?_⟩
      have s2 := same_new hb (.lst [.int (d - 1), .int (down / d * d - 1), .int (down / d * d), .int down])
      have hb2 : upd H1 b (.lst [.int (d - 1), .int (down / d * d - 1), .int (down / d * d), .int down]) b = some (.lst ([d - 1, down / d * d - 1, down / d * d, down].map V.int)) := upd_same
      have hl2 := s2 _ _ hl1
      have nlb : l ≠ b := ne_of_none hl1 hb
      generalize upd H1 b (.lst [.int (d - 1), .int (down / d * d - 1), .int (down / d * d), .int down]) = H2 at s2 hb2 hl2 ⊢
      generalize hbl : [d - 1, down / d * d - 1, down / d * d, down] = bl at hb2
      have l4 : bl.length = 4 := by rw [← hbl]; rfl
      have efv : [V.int (d - 1), .int (down / d * d - 1), .int (down / d * d), .int down] = bl.map V.int := by rw [← hbl]; rfl
      have s12 := s1.trans s2
      refine ⟨b, rfl, ⟨_, SqL.of hb2⟩, for_list (xs := bl.map V.int) (fun j σ H3 => ∃ (fs : List Int) (y : Option V), σ = [some (.int up), some (.int down), some (.int d), some (.ref l), some (.int (down / d)), y] ∧ H3 l = some (.lst (fs.map V.int)) ∧ H3 b = some (.lst (bl.map V.int)) ∧ Same H H3 ∧ fs.Nodup ∧ fs.length ≤ 5 + j ∧ ∀ x, x ∈ fs ↔ (x ∈ ns ∨ (x < 0 ∧ -down ≤ x ∧ -x ∈ bl.take j))) ⟨ns, _, rfl, hl2, hb2, s12, nd, by omega, fun x => by simp⟩ ?_ ?_ ?_⟩
      · rintro j σ H3 hj ⟨fs, y, rfl, f1, f2, _⟩
        exact SqL.of f2
      · rintro j x σ H3 hj ⟨fs, y, rfl, f1, f2, sm, nd3, len, mem3⟩
        rw [List.getElem?_map] at hj
        cases hjx : bl[j]? with
        | none => rw [hjx] at hj; cases hj
        | some z =>
          rw [hjx] at hj
          cases hj
          have tk : bl.take (j + 1) = bl.take j ++ [z] := by rw [List.take_add_one, hjx]; rfl
          have jl : j < 4 := by rw [← l4]; exact (List.getElem?_eq_some_iff.mp hjx).1
          have skip : (¬ (0 < z ∧ z ≤ down) ∨ (0 - z) ∈ fs) → ∃ (fs : List Int) (y' : Option V), [some (.int up), some (.int down), some (.int d), some (.ref l), some (.int (down / d)), some (.int z)] = [some (V.int up), some (.int down), some (.int d), some (.ref l), some (.int (down / d)), y'] ∧ H3 l = some (.lst (fs.map V.int)) ∧ H3 b = some (.lst (bl.map V.int)) ∧ Same H H3 ∧ fs.Nodup ∧ fs.length ≤ 5 + (j + 1) ∧ ∀ x, x ∈ fs ↔ (x ∈ ns ∨ (x < 0 ∧ -down ≤ x ∧ -x ∈ bl.take (j + 1))) := fun hs => by
            refine ⟨fs, _, rfl, f1, f2, sm, nd3, by omega, fun x => ?_⟩
            rw [mem3 x, tk, List.mem_append, List.mem_singleton]
            constructor
            · rintro (h | ⟨a, b, c⟩)
              · exact .inl h
              · exact .inr ⟨a, b, .inl c⟩
            · rintro (h | ⟨a, b, c | c⟩)
              · exact .inl h
              · exact .inr ⟨a, b, c⟩
              · rcases hs with hs | hs
                · exact absurd ⟨by omega, by omega⟩ hs
                · rw [show (0 : Int) - z = x by omega] at hs
                  exact (mem3 x).mp hs
          refine ⟨_, rfl, _, _, rfl, rfl, _, rfl, ?_⟩
          walk_at "c" <;> intro z0
          · refine ⟨_, rfl, _, _, rfl, rfl, _, rfl, ?_⟩
            walk_at "c" <;> intro z1
            · refine ⟨_, rfl, _, _, rfl, rfl, _, rfl, l, _, rfl, .inl (SqL.of f1), rfl, flat_all fs, _, rfl, ?_⟩
              rw [inV_ints]
              by_cases hm : (0 - z) ∈ fs
              · exact iteNS hm (skip (.inr hm))
              · refine iteN hm ?_
                refine ⟨_, rfl, .inl ⟨rfl, _, SqL.of f1⟩, _, rfl, _, _, rfl, rfl, l, _, _, rfl, rfl, f1, (by rw [List.length_map, sizeLine_eq]; omega), ?_⟩
                refine ⟨fs ++ [0 - z], _, rfl, by rw [upd_same, List.map_append]; rfl, by rw [upd_ne (Ne.symm nlb)]; exact f2, fun b o e => ?_, ?_, by rw [List.length_append, List.length_singleton]; omega, fun x => ?_⟩
                · rw [upd_ne (ne_of_none e l0)]
                  exact sm b o e
                · rw [List.nodup_append]
                  exact ⟨nd3, List.nodup_cons.mpr ⟨List.not_mem_nil, List.nodup_nil⟩, fun a ha b hb e => by rw [List.mem_singleton] at hb; subst hb; subst e; exact hm ha⟩
                · rw [List.mem_append, mem3 x, tk, List.mem_append, List.mem_singleton, List.mem_singleton]
                  constructor
                  · rintro ((h | ⟨a, b, c⟩) | h)
                    · exact .inl h
                    · exact .inr ⟨a, b, .inl c⟩
                    · exact .inr ⟨by omega, by omega, .inr (by omega)⟩
                  · rintro (h | ⟨a, b, c | c⟩)
                    · exact .inl (.inl h)
                    · exact .inl (.inr ⟨a, b, c⟩)
                    · exact .inr (by omega)
            · exact iteF (skip (.inl fun z => z1 z.2))
          · exact ⟨_, rfl, iteF (iteF (skip (.inl fun z => z0 z.1)))⟩
      · rintro σ H3 ⟨fs, y, rfl, f1, f2, sm, nd3, len, mem3⟩
        rw [List.length_map] at len mem3
        refine ⟨fs, _, _, rfl, f1, sm, by omega, nd3, fun x => ?_⟩
        rw [mem3 x, List.take_length, mem x, ← hbl]
        unfold SCM
        have lm := low_mem (y := x) c1 d1
        have eq : (-x ∈ [d - 1, down / d * d - 1, down / d * d, down]) ↔ (x ∈ [1 - d, 1 - down / d * d, -(down / d * d), -down]) := by
          simp only [List.mem_cons, List.not_mem_nil, or_false]
          constructor
          · rintro (h | h | h | h)
            · exact .inl (by omega)
            · exact .inr (.inl (by omega))
            · exact .inr (.inr (.inl (by omega)))
            · exact .inr (.inr (.inr (by omega)))
          · rintro (h | h | h | h)
            · exact .inl (by omega)
            · exact .inr (.inl (by omega))
            · exact .inr (.inr (.inl (by omega)))
            · exact .inr (.inr (.inr (by omega)))
        rw [eq]
        constructor
        · rintro (h | ⟨a, b, c⟩)
          · exact .inl h
          · exact .inr ⟨c1, lm.mp ⟨c, b, a⟩⟩
        · rintro (h | ⟨_, h⟩)
          · exact .inl h
          · obtain ⟨c, b, a⟩ := lm.mpr h
            exact .inr ⟨a, b, c⟩
    · refine ⟨ns, _, _, rfl, hl1, s1, by omega, nd, fun x => ?_⟩
      rw [mem x]
      unfold SCM
      exact ⟨.inl, fun h => h.resolve_right fun z => c1 z.1⟩
  rintro σ2 HZ ⟨ns2, z4, z5, rfl, hl2, s2, ln2, nd2, mem2⟩
  refine ⟨_, rfl, l, ns2, rfl, SqL.of hl2, by omega, fun r zs hr' pw pm => ?_⟩
  exact q r zs _ (s2.free hr') upd_same (s2.trans (same_new hr' _)) ⟨pw_of pw pm nd2, fun x => pm.mem_iff.trans (mem2 x)⟩ (by rw [pm.length_eq]; exact ln2)
theorem ok__law_all_right {f : Addr} {fd : FuncData} (F : Fun K "_law_all_right" "_law_all_right" s__law_all_right f fd) (T : Txt K mg c) (H__law_signed_quotient : Has P w K mg base 2 "_law_signed_quotient" ["_law_told", "_law_width", "_law_x"] spSQ) (H__law_cut : Has P w K mg base 1 "_law_cut" ["_law_x", "_law_d"] spCut) : FnOk P w K mg base CX0 3 f fd ["_law_told", "_law_width", "_law_d", "_law_counts"] spAllS := by
  refine F.ok sc__law_all_right (fun vs H Q E h => ?_) (fun cdv A outer s H vs Q E hr h => ?_)
  · obtain ⟨r, l, i, d, sd, xs, rfl, _⟩ := h
    rfl
  obtain ⟨r, l, i, d, sd, xs, rfl, h1, h2, d1, d2, st, ok, hl, xb, q⟩ := h
  refine ⟨_, (pss_cons (ps_for PassesOwn.never rfl (pi_list (pv 3)) (pg_name (i := 4) sc__law_all_right.nd rfl (Or.inl rfl))
      (pss_one (ps_if (pt_cmpR op_ne (pe_fn H__law_signed_quotient (hr.mono (by omega)) rfl (pa_cons (pv 0) (pa_cons (pv 1) (pa_cons (pv 4) pa_nil)))) (pe_fn H__law_cut (hr.mono (by omega)) rfl (pa_cons (pv 4) (pa_cons (pv 2) pa_nil))) (nomark _))
        (pss_one (ps_ret pe_bl))
        pss_nil)))
    (pss_one (ps_ret pe_bl))), ?_⟩
  refine ⟨_, rfl, l, rfl, ⟨_, SqL.of hl⟩, for_list (xs := xs.map V.int) (fun j σ H2 => ∃ y : Option V, σ = [some (.ref r), some (.int i), some (.int d), some (.ref l), y] ∧ Same H H2 ∧ ∀ k z, k < j → xs[k]? = some z → sd.q i z = cutq z d) ⟨_, rfl, Same.refl _, fun k z hk => absurd hk (Nat.not_lt_zero k)⟩ ?_ ?_ ?_⟩
  · rintro j σ H2 hj ⟨y, rfl, s2, _⟩
    exact SqL.of (s2 _ _ hl)
  · rintro j x σ H2 hj ⟨y, rfl, s2, al⟩
    rw [List.getElem?_map] at hj
    cases hz : xs[j]? with
    | none => rw [hz] at hj; cases hj
    | some z =>
      rw [hz] at hj
      cases hj
      have zm := List.mem_of_getElem? hz
      obtain ⟨z0, z1⟩ := xb z zm
      refine ⟨_, rfl, _, rfl, _, rfl, r, i, z, sd, rfl, h1, h2, z0, z1, st.same s2, ok, fun H3 s3 => ?_⟩
      refine ⟨_, rfl, _, rfl, z, d, rfl, d1, d2, rfl, _, rfl, ?_⟩
      walk_at "c" <;> intro cc
      · exact q false H3 (s2.trans s3) ⟨fun z => (nomatch z), fun h => absurd (h z zm) cc⟩
      · refine ⟨_, rfl, s2.trans s3, fun k u hk hu => ?_⟩
        by_cases e2 : k = j
        · subst e2; rw [hz] at hu; cases hu; exact cc
        · exact al k u (by omega) hu
  rintro σ H2 ⟨y, rfl, s2, al⟩
  refine q true _ s2 ⟨fun _ x hx => ?_, fun _ => rfl⟩
  obtain ⟨k, hk⟩ := List.mem_iff_getElem?.mp hx
  have hkl := (List.getElem?_eq_some_iff.mp hk).1
  exact al k x (by rw [List.length_map]; exact hkl) hk
theorem ok_Cutting___init__ {f : Addr} {fd : FuncData} (F : Fun K "__init__" "Cutting.__init__" s_Cutting___init__ f fd) (T : Txt K mg c) (H_is_factor : Has P w K mg base 3 "is_factor" ["thing"] spFac) (H_is_shift : Has P w K mg base 3 "is_shift" ["thing"] spShf) : FnOk P w K mg base CX0 4 f fd ["self", "factor", "shift"] (spIC c) := by
  refine F.ok sc_Cutting___init__ (fun vs H Q E h => ?_) (fun cdv A outer s H vs Q E hr h => ?_)
  · obtain ⟨x, dx, f, s, rfl, _⟩ := h
    rfl
  obtain ⟨x, dx, f, s, rfl, hx, f0, f1, s0, s1, q⟩ := h
  refine ⟨_, (pss_cons (ps_fld (pv 0) (pv 1) rfl)
    (pss_cons (ps_fld (pv 0) (pv 2) rfl)
    (pss_one (ps_if (PW.pt (pw_or (pt_not (pt_val (pe_fn H_is_factor (hr.mono (by omega)) rfl (pa_cons (pv 1) pa_nil)))) (pw_or1 (pt_not (pt_val (pe_fn H_is_shift (hr.mono (by omega)) rfl (pa_cons (pv 2) pa_nil)))))))
      (pss_one ps_never)
      pss_nil)))), ?_⟩
  refine ⟨_, rfl, _, rfl, x, _, dx, _, rfl, hx, T.cl_Cutting, T.na_Cutting_factor, (by show 0 < 1000; decide), ?_⟩
  refine ⟨_, rfl, _, rfl, x, _, dx, _, rfl, upd_same, T.cl_Cutting, T.na_Cutting_shift, (by show 1 < 1000; decide), ?_⟩
  refine ⟨_, rfl, _, rfl, f0, f1, _, rfl, iteF ?_⟩
  refine ⟨_, rfl, _, rfl, s0, s1, _, rfl, iteF ?_⟩
  exact q _ (SameX.upd.trans SameX.upd) ⟨dx, upd_same⟩
theorem ok_Turned___init__ {f : Addr} {fd : FuncData} (F : Fun K "__init__" "Turned.__init__" s_Turned___init__ f fd) (T : Txt K mg c)  : FnOk P w K mg base CX0 1 f fd ["self", "form"] (spIT c) := by
  refine F.ok sc_Turned___init__ (fun vs H Q E h => ?_) (fun cdv A outer s H vs Q E hr h => ?_)
  · obtain ⟨x, dx, y, kd, e, f, s, rfl, _⟩ := h
    rfl
  obtain ⟨x, dx, y, kd, e, f, s, rfl, hx, ⟨dy, hy⟩, kk, ne, q⟩ := h
  refine ⟨_, (pss_cons (ps_if (pt_not (pt_val (pe_callB call_isinst rfl T.n_isinstance boot_isinstance (pa_cons (pv 1) (pa_cons (pe_cls rfl T.g_Form) pa_nil)))))
      (pss_one ps_never)
      pss_nil)
    (pss_one (ps_fld (pv 0) (pv 1) rfl))), ?_⟩
  refine ⟨_, rfl, _, _, _, _, _, rfl, rfl, T.tyF kd kk hy, T.ikF kd kk, _, rfl, iteF ?_⟩
  refine ⟨_, rfl, _, rfl, x, _, dx, _, rfl, hx, T.cl_Turned, T.na_Turned_form, (by show 0 < 1000; decide), ?_⟩
  exact q _ SameX.upd ⟨dx, y, upd_same, dy, by rw [upd_ne ne]; exact hy⟩
theorem ok_Cutting_word {f : Addr} {fd : FuncData} (F : Fun K "word" "Cutting.word" s_Cutting_word f fd) (T : Txt K mg c)  : FnOk P w K mg base CX0 1 f fd ["self"] (spWdS 0) := by
  refine F.ok sc_Cutting_word (fun vs H Q E h => ?_) (fun cdv A outer s H vs Q E hr h => ?_)
  · obtain ⟨x, rfl, _⟩ := h
    rfl
  obtain ⟨x, rfl, q⟩ := h
  exact ⟨_, (pss_one (ps_ret pe_str)), q⟩
theorem ok_Turned_word {f : Addr} {fd : FuncData} (F : Fun K "word" "Turned.word" s_Turned_word f fd) (T : Txt K mg c)  : FnOk P w K mg base CX0 1 f fd ["self"] (spWdS 1) := by
  refine F.ok sc_Turned_word (fun vs H Q E h => ?_) (fun cdv A outer s H vs Q E hr h => ?_)
  · obtain ⟨x, rfl, _⟩ := h
    rfl
  obtain ⟨x, rfl, q⟩ := h
  exact ⟨_, (pss_one (ps_ret pe_str)), q⟩
theorem eqTl (kd : Nat) (e f s : Int) : eqVs (tlv kd e f s) (tlv kd e f s) = true ∧ (tlv kd e f s).all flatV = true := by
  match kd with
  | 0 => simp [eqVs, tlv, List.range, List.range.loop, eqV, flatV]
  | 1 => simp [eqVs, tlv, List.range, List.range.loop, eqV, flatV]
  | 2 => simp [eqVs, tlv, List.range, List.range.loop, eqV, flatV]
  | 3 => simp [eqVs, tlv, List.range, List.range.loop, eqV, flatV]
  | _ + 4 => simp [eqVs, tlv, List.range, List.range.loop, eqV, flatV]
theorem fl_told {kd : Nat} {e f s : Int} : (flds kd e f s).lookup ("told" : Str) = none := by
  unfold flds
  split <;> rfl
theorem ok_ceiling {f : Addr} {fd : FuncData} (F : Fun K "ceiling" "ceiling" s_ceiling f fd) (T : Txt K mg c)  : FnOk P w K mg base CX0 1 f fd ["top", "bottom"] spCeilF := by
  refine F.ok sc_ceiling (fun vs H Q E h => ?_) (fun cdv A outer s H vs Q E hr h => ?_)
  · obtain ⟨a, d, rfl, _⟩ := h
    rfl
  obtain ⟨a, d, rfl, a1, a2, d1, d2, q⟩ := h
  refine ⟨_, (pss_one (ps_ret (pe_un un_neg (pe_op op_fdivB (pe_un un_neg (pv 0)) (pv 1))))), ?_⟩
  refine ⟨_, rfl, _, rfl, _, rfl, _, _, rfl, rfl, ⟨by omega, log_small (by omega) (by omega)⟩, _, rfl, ?_⟩
  show Q (.int (-(-a / d))) H
  rw [ceil_eq d1]
  exact q
theorem ok__law_up {f : Addr} {fd : FuncData} (F : Fun K "_law_up" "_law_up" s__law_up f fd) (T : Txt K mg c)  : FnOk P w K mg base CX0 1 f fd ["_law_top", "_law_bottom"] spCeilF := by
  refine F.ok sc__law_up (fun vs H Q E h => ?_) (fun cdv A outer s H vs Q E hr h => ?_)
  · obtain ⟨a, d, rfl, _⟩ := h
    rfl
  obtain ⟨a, d, rfl, a1, a2, d1, d2, q⟩ := h
  refine ⟨_, (pss_one (ps_ret (pe_op op_fdivB (pe_op op_sub (pe_op op_add (pv 0) (pv 1)) pe_int) (pv 1)))), ?_⟩
  walk_at "o"
  exact q
theorem ok_scaled_candidates {f : Addr} {fd : FuncData} (F : Fun K "scaled_candidates" "scaled_candidates" s_scaled_candidates f fd) (T : Txt K mg c) (H_ceiling : Has P w K mg base 1 "ceiling" ["top", "bottom"] spCeilF) (C_Scaled : CHas P w K mg base 4 c.Scaled "Scaled" ["self", "factor", "shift"] (spI2 c 1 0)) : FnOk P w K mg base CX0 6 f fd ["width", "d"] (spScC c) := by
  refine F.ok sc_scaled_candidates (fun vs H Q E h => ?_) (fun cdv A outer s H vs Q E hr h => ?_)
  · obtain ⟨i, d, rfl, _⟩ := h
    rfl
  obtain ⟨i, d, rfl, h1, h2, d1, d2, q⟩ := h
  refine ⟨_, (pss_cons (ps_set (i := 2) sc_scaled_candidates.nd rfl (Or.inl rfl) (pe_lst pa_nil))
    (pss_cons (ps_for PassesOwn.never rfl (pi_range1 rfl T.n_range (pa_cons (pe_op op_add (pe_bm0 PySem.F.plainAttrs_int PySem.F.slot_int_bit_length PySem.F.type_int_bit_length mt_bits (pe_op op_sub (pv 1) pe_int)) pe_int) pa_nil)) (pg_name (i := 3) sc_scaled_candidates.nd rfl (Or.inl rfl))
      (pss_cons (ps_set (i := 4) sc_scaled_candidates.nd rfl (Or.inl rfl) (pe_fn H_ceiling (hr.mono (by omega)) rfl (pa_cons (pe_op op_shl pe_int (pe_op op_add (pv 0) (pv 3))) (pa_cons (pv 1) pa_nil))))
      (pss_one (ps_if (pt_cmpR op_lt (pv 4) (pe_op op_shl pe_int (pv 0)) (nomark _))
        (pss_one (ps_expr (pe_bm PySem.F.plainAttrs_list PySem.F.slot_list_append PySem.F.type_list_append mt_append (pv 2) (pa_cons (pe_mkP C_Scaled (hr.mono (by omega)) rfl (pa_cons (pv 4) (pa_cons (pv 3) pa_nil))) pa_nil))))
        pss_nil))))
    (pss_one (ps_ret (pv 2))))), ?_⟩
  have pb := pw_bounds h1 h2
  have lb := (bl_32 h2 d1 d2).1
  have L100 : (100 : Nat) ≤ sizeLine := by decide
  walk_at "o"; intro l hl
  refine ⟨_, rfl, _, _, rfl, rfl, ty_int, _, rfl, rfl, _, _, rfl, rfl, _, rfl, (by omega), (by omega), for_range (fun n σ H2 => ∃ y1 y2 : Option V, σ = [some (.int i), some (.int d), some (.ref l), y1, y2] ∧ (∃ ps : List Addr, H2 l = some (.lst (ps.map V.ref)) ∧ PL (FR c) H2 ps (cSc 1 0 (1 * 2 ^ i.toNat) d n)) ∧ Same H H2) ⟨_, _, rfl, ⟨[], upd_same, PL.nil⟩, same_new hl _⟩ ?_ ?_⟩
  · rintro n σ H2 hn ⟨y1, y2, rfl, ⟨ps, hp, pl⟩, sm⟩
    have ep : (1 : Int) * 2 ^ (i + (0 + (n : Int))).toNat = 1 * 2 ^ i.toNat * 2 ^ n := by rw [show (i + (0 + (n : Int))).toNat = i.toNat + n by omega, Int.pow_add, Int.mul_assoc]
    have ub := pw_up h1 h2 (show n ≤ 32 by omega)
    have ul := upI_pos ub.1 d1
    walk_at "o"
    rw [ep]
    have cl := cSc_len 1 0 (1 * 2 ^ i.toNat) d n
    rw [← pl.1] at cl
    walk_at "c" <;> intro c0
    · refine ⟨_, rfl, .inl ⟨rfl, _, SqL.of hp⟩, _, rfl, _, rfl, fun x dx hx hdx hne => ⟨x, dx, _, _, rfl, upd_same, by omega, by omega, by omega, by omega, fun H' s' fo => ⟨rfl, ?_⟩⟩⟩
      have sM := made_same hx hdx s'
      refine ⟨l, _, _, rfl, rfl, sM _ _ hp, (by rw [List.length_map]; omega), _, _, rfl, ⟨ps ++ [x], (by rw [upd_same, List.map_append]; rfl), ?_⟩, Same.updL (sm.trans sM) hl⟩
      rw [cSc_succ, if_pos c0]
      have fx : FR c H' x ⟨1, 0, upI (1 * 2 ^ i.toNat * 2 ^ n) d, (n : Int)⟩ := by
        have e0 : (0 : Int) + (n : Int) = n := by omega
        rw [e0] at fo
        exact fo
      exact ((pl.mono fun p x q => q.same sM).snoc fx).updF (sM _ _ hp)
    · refine ⟨_, _, rfl, ⟨ps, hp, ?_⟩, sm⟩
      rw [cSc_succ, if_neg c0, List.append_nil]
      exact pl
  · rintro σ H2 ⟨y1, y2, rfl, ⟨ps, hp, pl⟩, sm⟩
    refine ⟨_, rfl, q l H2 hl ⟨ps, hp, ?_⟩ sm⟩
    rw [show ((intBits (d - 1) : Int) + 1).toNat = intBits (d - 1) + 1 by omega] at pl
    exact pl
theorem ok_more_candidates {f : Addr} {fd : FuncData} (F : Fun K "more_candidates" "more_candidates" s_more_candidates f fd) (T : Txt K mg c)  (C_More : CHas P w K mg base 4 c.More "More" ["self", "factor", "shift"] (spI2 c 3 0)) : FnOk P w K mg base CX0 6 f fd ["width", "d"] (spMoC c) := by
  refine F.ok sc_more_candidates (fun vs H Q E h => ?_) (fun cdv A outer s H vs Q E hr h => ?_)
  · obtain ⟨i, d, rfl, _⟩ := h
    rfl
  obtain ⟨i, d, rfl, h1, h2, d1, d2, q⟩ := h
  refine ⟨_, (pss_cons (ps_set (i := 2) sc_more_candidates.nd rfl (Or.inl rfl) (pe_lst pa_nil))
    (pss_cons (ps_for PassesOwn.never rfl (pi_range1 rfl T.n_range (pa_cons (pe_op op_add (pe_bm0 PySem.F.plainAttrs_int PySem.F.slot_int_bit_length PySem.F.type_int_bit_length mt_bits (pe_op op_sub (pv 1) pe_int)) pe_int) pa_nil)) (pg_name (i := 3) sc_more_candidates.nd rfl (Or.inl rfl))
      (pss_cons (ps_set (i := 4) sc_more_candidates.nd rfl (Or.inl rfl) (pe_op op_fdivB (pe_op op_sub (pe_op op_shl pe_int (pe_op op_add (pv 0) (pv 3))) pe_int) (pv 1)))
      (pss_one (ps_if (pt_chain op_le op_lt pe_int (pv 4) (pe_op op_shl pe_int (pv 0)))
        (pss_one (ps_expr (pe_bm PySem.F.plainAttrs_list PySem.F.slot_list_append PySem.F.type_list_append mt_append (pv 2) (pa_cons (pe_mkP C_More (hr.mono (by omega)) rfl (pa_cons (pv 4) (pa_cons (pv 3) pa_nil))) pa_nil))))
        pss_nil))))
    (pss_one (ps_ret (pv 2))))), ?_⟩
  have pb := pw_bounds h1 h2
  have lb := (bl_32 h2 d1 d2).1
  have L100 : (100 : Nat) ≤ sizeLine := by decide
  walk_at "o"; intro l hl
  refine ⟨_, rfl, _, _, rfl, rfl, ty_int, _, rfl, rfl, _, _, rfl, rfl, _, rfl, (by omega), (by omega), for_range (fun n σ H2 => ∃ y1 y2 : Option V, σ = [some (.int i), some (.int d), some (.ref l), y1, y2] ∧ (∃ ps : List Addr, H2 l = some (.lst (ps.map V.ref)) ∧ PL (FR c) H2 ps (cMo (1 * 2 ^ i.toNat) d n)) ∧ Same H H2) ⟨_, _, rfl, ⟨[], upd_same, PL.nil⟩, same_new hl _⟩ ?_ ?_⟩
  · rintro n σ H2 hn ⟨y1, y2, rfl, ⟨ps, hp, pl⟩, sm⟩
    have ep : (1 : Int) * 2 ^ (i + (0 + (n : Int))).toNat = 1 * 2 ^ i.toNat * 2 ^ n := by rw [show (i + (0 + (n : Int))).toNat = i.toNat + n by omega, Int.pow_add, Int.mul_assoc]
    have ub := pw_up h1 h2 (show n ≤ 32 by omega)
    walk_at "o"
    rw [ep]
    have cl := cMo_len (1 * 2 ^ i.toNat) d n
    rw [← pl.1] at cl
    walk_at "c" <;> intro c0
    · walk_at "o"
      walk_at "c" <;> intro c1
      · refine ⟨_, rfl, .inl ⟨rfl, _, SqL.of hp⟩, _, rfl, _, rfl, fun x dx hx hdx hne => ⟨x, dx, _, _, rfl, upd_same, by omega, by omega, by omega, by omega, fun H' s' fo => ⟨rfl, ?_⟩⟩⟩
        have sM := made_same hx hdx s'
        refine ⟨l, _, _, rfl, rfl, sM _ _ hp, (by rw [List.length_map]; omega), _, _, rfl, ⟨ps ++ [x], (by rw [upd_same, List.map_append]; rfl), ?_⟩, Same.updL (sm.trans sM) hl⟩
        rw [cMo_succ, if_pos ⟨c0, c1⟩]
        have fx : FR c H' x ⟨3, 0, (1 * 2 ^ i.toNat * 2 ^ n - 1) / d, (n : Int)⟩ := by
          have e0 : (0 : Int) + (n : Int) = n := by omega
          rw [e0] at fo
          exact fo
        exact ((pl.mono fun p x q => q.same sM).snoc fx).updF (sM _ _ hp)
      · refine ⟨_, _, rfl, ⟨ps, hp, ?_⟩, sm⟩
        rw [cMo_succ, if_neg (fun z => c1 z.2), List.append_nil]
        exact pl
    · refine ⟨_, rfl, iteF ⟨_, _, rfl, ⟨ps, hp, ?_⟩, sm⟩⟩
      rw [cMo_succ, if_neg (fun z => c0 z.1), List.append_nil]
      exact pl
  · rintro σ H2 ⟨y1, y2, rfl, ⟨ps, hp, pl⟩, sm⟩
    refine ⟨_, rfl, q l H2 hl ⟨ps, hp, ?_⟩ sm⟩
    rw [show ((intBits (d - 1) : Int) + 1).toNat = intBits (d - 1) + 1 by omega] at pl
    exact pl
def AllJ (H : Hp) (i d t : Int) (l : Addr) (xs : List Cd) (σ : L2.St) (H2 : Hp) : Prop := ∃ y1 y2 : Option V, σ = [some (.int i), some (.int d), some (.int (1 * 2 ^ i.toNat)), some (.int (intBits (d - 1) : Int)), some (.int t), some (.ref l), y1, y2] ∧ AL TR H2 l xs ∧ Same H H2
theorem AL.app {H2 : Hp} {l r : Addr} {ps : List Addr} {xs : List Cd} (h : PL TR H2 ps xs) (hp : H2 l = some (.lst (ps.map V.ref))) (hr : H2 r = none) (x : Cd) : AL TR (upd (upd H2 r (.tup (tlv x.kd x.e x.f x.s))) l (.lst (ps.map V.ref ++ [.ref r]))) l (xs ++ [x]) := by
  have sM := same_new hr (.tup (tlv x.kd x.e x.f x.s))
  refine ⟨ps ++ [r], by rw [upd_same, List.map_append]; rfl, ?_⟩
  have fx : TR (upd H2 r (.tup (tlv x.kd x.e x.f x.s))) r x := upd_same
  exact ((h.mono fun p x q => q.same sM).snoc fx).updT (sM _ _ hp)
theorem AL.ext {c : Ad} {H2 : Hp} {l : Addr} {ps qs : List Addr} {xs ys : List Cd} (h : PL (FR c) H2 ps xs) (hl : H2 l = some (.lst (ps.map V.ref))) (g : PL (FR c) H2 qs ys) : AL (FR c) (upd H2 l (.lst (ps.map V.ref ++ qs.map V.ref))) l (xs ++ ys) :=
  ⟨ps ++ qs, by rw [upd_same, List.map_append], (h.append g).updF hl⟩
theorem ok__law_all {f : Addr} {fd : FuncData} (F : Fun K "_law_all" "_law_all" s__law_all f fd) (T : Txt K mg c) (H__law_twos : Has P w K mg base 1 "_law_twos" ["_law_d"] spTwos) (H__law_up : Has P w K mg base 1 "_law_up" ["_law_top", "_law_bottom"] spCeilF) : FnOk P w K mg base CX0 2 f fd ["_law_width", "_law_d"] spAllT := by
  refine F.ok sc__law_all (fun vs H Q E h => ?_) (fun cdv A outer s H vs Q E hr h => ?_)
  · obtain ⟨i, d, rfl, _⟩ := h
    rfl
  obtain ⟨i, d, rfl, h1, h2, d1, d2, q⟩ := h
  refine ⟨_, (pss_cons (ps_set (i := 2) sc__law_all.nd rfl (Or.inl rfl) (pe_op op_shl pe_int (pv 0)))
    (pss_cons (ps_set (i := 3) sc__law_all.nd rfl (Or.inl rfl) (pe_bm0 PySem.F.plainAttrs_int PySem.F.slot_int_bit_length PySem.F.type_int_bit_length mt_bits (pe_op op_sub (pv 1) pe_int)))
    (pss_cons (ps_set (i := 4) sc__law_all.nd rfl (Or.inl rfl) (pe_fn H__law_twos (hr.mono (by omega)) rfl (pa_cons (pv 1) pa_nil)))
    (pss_cons (ps_set (i := 5) sc__law_all.nd rfl (Or.inl rfl) (pe_lst (pa_cons (pe_tup (pa_cons pe_str (pa_cons (pe_op op_sub (pe_bm0 PySem.F.plainAttrs_int PySem.F.slot_int_bit_length PySem.F.type_int_bit_length mt_bits (pv 1)) pe_int) pa_nil))) pa_nil)))
    (pss_cons (ps_for PassesOwn.never rfl (pi_range1 rfl T.n_range (pa_cons (pe_op op_add (pv 3) pe_int) pa_nil)) (pg_name (i := 6) sc__law_all.nd rfl (Or.inl rfl))
      (pss_cons (ps_set (i := 7) sc__law_all.nd rfl (Or.inl rfl) (pe_fn H__law_up (hr.mono (by omega)) rfl (pa_cons (pe_op op_shl (pv 2) (pv 6)) (pa_cons (pv 1) pa_nil))))
      (pss_one (ps_if (pt_cmpR op_lt (pv 7) (pv 2) (nomark _))
        (pss_one (ps_expr (pe_bm PySem.F.plainAttrs_list PySem.F.slot_list_append PySem.F.type_list_append mt_append (pv 5) (pa_cons (pe_tup (pa_cons pe_str (pa_cons (pv 7) (pa_cons (pv 6) pa_nil)))) pa_nil))))
        pss_nil))))
    (pss_join (ps_if (pt_cmpR op_gt (pv 4) pe_int (nomark _))
      (pss_one (ps_for PassesOwn.never rfl (pi_range1 rfl T.n_range (pa_cons (pe_op op_add (pe_bm0 PySem.F.plainAttrs_int PySem.F.slot_int_bit_length PySem.F.type_int_bit_length mt_bits (pe_op op_sub (pe_op op_shr (pv 1) (pv 4)) pe_int)) pe_int) pa_nil)) (pg_name (i := 6) sc__law_all.nd rfl (Or.inl rfl))
        (pss_cons (ps_set (i := 7) sc__law_all.nd rfl (Or.inl rfl) (pe_fn H__law_up (hr.mono (by omega)) rfl (pa_cons (pe_op op_shl (pv 2) (pv 6)) (pa_cons (pe_op op_shr (pv 1) (pv 4)) pa_nil))))
        (pss_one (ps_if (pt_cmpR op_lt (pv 7) (pv 2) (nomark _))
          (pss_one (ps_expr (pe_bm PySem.F.plainAttrs_list PySem.F.slot_list_append PySem.F.type_list_append mt_append (pv 5) (pa_cons (pe_tup (pa_cons pe_str (pa_cons (pv 4) (pa_cons (pv 7) (pa_cons (pv 6) pa_nil))))) pa_nil))))
          pss_nil)))))
      pss_nil)
    (pss_cons (ps_for PassesOwn.never rfl (pi_range1 rfl T.n_range (pa_cons (pe_op op_add (pv 3) pe_int) pa_nil)) (pg_name (i := 6) sc__law_all.nd rfl (Or.inl rfl))
      (pss_cons (ps_set (i := 7) sc__law_all.nd rfl (Or.inl rfl) (pe_op op_fdivB (pe_op op_sub (pe_op op_shl (pv 2) (pv 6)) pe_int) (pv 1)))
      (pss_one (ps_if (pt_chain op_le op_lt pe_int (pv 7) (pv 2))
        (pss_one (ps_expr (pe_bm PySem.F.plainAttrs_list PySem.F.slot_list_append PySem.F.type_list_append mt_append (pv 5) (pa_cons (pe_tup (pa_cons pe_str (pa_cons (pv 7) (pa_cons (pv 6) pa_nil)))) pa_nil))))
        pss_nil))))
    (pss_join (ps_if (pt_cmpR op_gt (pv 3) pe_int (nomark _))
      (pss_one (ps_expr (pe_bm PySem.F.plainAttrs_list PySem.F.slot_list_append PySem.F.type_list_append mt_append (pv 5) (pa_cons (pe_tup (pa_cons pe_str (pa_cons (pe_op op_sub (pe_fn H__law_up (hr.mono (by omega)) rfl (pa_cons (pe_op op_shl (pv 2) (pv 3)) (pa_cons (pv 1) pa_nil))) (pv 2)) (pa_cons (pv 3) pa_nil)))) pa_nil))))
      pss_nil)
    (pss_one (ps_ret (pv 5))))))))))), ?_⟩
  have pb := pw_bounds h1 h2
  have lb := (bl_32 h2 d1 d2).1
  have L100 : (1000 : Nat) ≤ sizeLine := by decide
  walk_at "o"; intro t tw
  have t0 := tw.1
  have tl := tw_small d1 (by omega) tw
  walk_at "o"
  intro p0 hp0
  refine ⟨(by show 1 ≤ sizeLine; decide), fun l hl => ?_⟩
  have n0 := same_new hp0 (.tup [.str "shifted", .int ((intBits d : Int) - 1)])
  have n1 := same_new hl (.lst [.ref p0])
  have J0 : AL TR (upd (upd H p0 (.tup [.str "shifted", .int ((intBits d : Int) - 1)])) l (.lst [.ref p0])) l [⟨0, 0, 0, (intBits d : Int) - 1⟩] := ⟨[p0], upd_same, .one (n1 _ _ (upd_same (H := H) (a := p0)))⟩
  have e0 : ∀ n : Nat, (0 : Int) + (n : Int) = n := fun n => Int.zero_add _
  have hz : H l = none := by
    cases e : H l with
    | none => rfl
    | some o => have := n0 _ _ e; rw [show upd H p0 _ l = none from hl] at this; cases this
  refine ⟨_, rfl, _, _, rfl, rfl, _, rfl, (by omega), (by omega), for_range (fun n => AllJ H i d t l ([⟨0, 0, 0, (intBits d : Int) - 1⟩] ++ cSc 1 0 (1 * 2 ^ i.toNat) d n)) ⟨_, _, rfl, J0, n0.trans n1⟩ ?_ ?_⟩
  · rintro n σ H2 hn ⟨y1, y2, rfl, ⟨ps, hp, pl⟩, sm⟩
    have ep : (1 : Int) * 2 ^ i.toNat * 2 ^ (0 + (n : Int)).toNat = 1 * 2 ^ i.toNat * 2 ^ n := by rw [show (0 + (n : Int)).toNat = n by omega]
    have ub := pw_up h1 h2 (show n ≤ 32 by omega)
    have ul := upI_pos ub.1 d1
    have cl := cSc_len 1 0 (1 * 2 ^ i.toNat) d n
    have pln := pl.1
    rw [List.length_append] at pln
    have pln' : ps.length = 1 + (cSc 1 0 (1 * 2 ^ i.toNat) d n).length := pln
    have cp : CPow (1 * 2 ^ i.toNat) (0 + (n : Int)) := ⟨by omega, by omega, by omega⟩
    walk_at "o"
    rw [ep]
    walk_at "c" <;> intro c0
    · refine ⟨_, rfl, .inl ⟨rfl, _, SqL.of hp⟩, _, rfl, _, rfl, (by show 3 ≤ sizeLine; decide), fun r hr' => ?_⟩
      have sM := same_new hr' (.tup (tlv 1 0 (upI (1 * 2 ^ i.toNat * 2 ^ n) d) (0 + (n : Int))))
      have ap := AL.app pl hp hr' ⟨1, 0, upI (1 * 2 ^ i.toNat * 2 ^ n) d, 0 + (n : Int)⟩
      refine ⟨l, _, _, rfl, rfl, sM _ _ hp, (by rw [List.length_map]; omega), _, _, rfl, ?_, Same.updL (sm.trans sM) hz⟩
      rw [cSc_succ, if_pos c0, ← List.append_assoc, show (⟨1, 0, upI (1 * 2 ^ i.toNat * 2 ^ n) d, (n : Int)⟩ : Cd) = ⟨1, 0, upI (1 * 2 ^ i.toNat * 2 ^ n) d, 0 + (n : Int)⟩ by rw [e0]]
      exact ap
    · refine ⟨_, _, rfl, ⟨ps, hp, ?_⟩, sm⟩
      rw [cSc_succ, if_neg c0, List.append_nil]
      exact pl
  rw [show ((intBits (d - 1) : Int) + 1).toNat = intBits (d - 1) + 1 by omega]
  rintro σ H2 ⟨y1, y2, rfl, a1, sm⟩
  have o1 := xdiv (x := d) (by omega) t
  have o2 : 1 ≤ d / 2 ^ t.toNat := Classical.byContradiction fun z => by
    have a := Int.mul_nonpos_of_nonpos_of_nonneg (show d / 2 ^ t.toNat ≤ 0 by omega) (Int.le_of_lt (p_pos t.toNat))
    have b := tw.2.1
    omega
  have lo := (bl_32 h2 o2 (Int.lt_of_le_of_lt o1.2 d2)).1
  have c1 := cSc_len 1 0 (1 * 2 ^ i.toNat) d (intBits (d - 1) + 1)
  refine ⟨AllJ H i d t l ([⟨0, 0, 0, (intBits d : Int) - 1⟩] ++ cSc 1 0 (1 * 2 ^ i.toNat) d (intBits (d - 1) + 1) ++ cEa (1 * 2 ^ i.toNat) d t), ?_, ?_⟩
  · refine ⟨_, rfl, _, _, rfl, rfl, _, rfl, ?_⟩
    walk_at "c" <;> intro c2
    · refine ⟨_, rfl, _, rfl, _, _, rfl, rfl, t0, _, _, rfl, rfl, ty_int, _, rfl, rfl, _, _, rfl, rfl, _, rfl, (by omega), (by omega), for_range (fun n => AllJ H i d t l ([⟨0, 0, 0, (intBits d : Int) - 1⟩] ++ cSc 1 0 (1 * 2 ^ i.toNat) d (intBits (d - 1) + 1) ++ cSc 2 t (1 * 2 ^ i.toNat) (d / 2 ^ t.toNat) n)) ⟨_, _, rfl, (by rw [show cSc 2 t (1 * 2 ^ i.toNat) (d / 2 ^ t.toNat) 0 = [] from rfl, List.append_nil]; exact a1), sm⟩ ?_ ?_⟩
      · clear a1 sm
        rintro n σ H2 hn ⟨y1, y2, rfl, ⟨ps, hp, pl⟩, sm⟩
        have ep : (1 : Int) * 2 ^ i.toNat * 2 ^ (0 + (n : Int)).toNat = 1 * 2 ^ i.toNat * 2 ^ n := by rw [show (0 + (n : Int)).toNat = n by omega]
        have ub := pw_up h1 h2 (show n ≤ 32 by omega)
        have ul := upI_pos ub.1 o2
        have cl := cSc_len 2 t (1 * 2 ^ i.toNat) (d / 2 ^ t.toNat) n
        have pln := pl.1
        rw [List.length_append, List.length_append] at pln
        have pln' : ps.length = 1 + (cSc 1 0 (1 * 2 ^ i.toNat) d (intBits (d - 1) + 1)).length + (cSc 2 t (1 * 2 ^ i.toNat) (d / 2 ^ t.toNat) n).length := pln
        have cp : CPow (1 * 2 ^ i.toNat) (0 + (n : Int)) := ⟨by omega, by omega, by omega⟩
        walk_at "o"
        rw [ep]
        walk_at "c" <;> intro c0
        · refine ⟨_, rfl, .inl ⟨rfl, _, SqL.of hp⟩, _, rfl, _, rfl, _, rfl, (by show 4 ≤ sizeLine; decide), fun r hr' => ?_⟩
          have sM := same_new hr' (.tup (tlv 2 t (upI (1 * 2 ^ i.toNat * 2 ^ n) (d / 2 ^ t.toNat)) (0 + (n : Int))))
          have ap := AL.app pl hp hr' ⟨2, t, upI (1 * 2 ^ i.toNat * 2 ^ n) (d / 2 ^ t.toNat), 0 + (n : Int)⟩
          refine ⟨l, _, _, rfl, rfl, sM _ _ hp, (by rw [List.length_map]; omega), _, _, rfl, ?_, Same.updL (sm.trans sM) hz⟩
          rw [cSc_succ 2, if_pos c0, ← List.append_assoc, show (⟨2, t, upI (1 * 2 ^ i.toNat * 2 ^ n) (d / 2 ^ t.toNat), (n : Int)⟩ : Cd) = ⟨2, t, upI (1 * 2 ^ i.toNat * 2 ^ n) (d / 2 ^ t.toNat), 0 + (n : Int)⟩ by rw [e0]]
          exact ap
        · refine ⟨_, _, rfl, ⟨ps, hp, ?_⟩, sm⟩
          rw [cSc_succ 2, if_neg c0, List.append_nil]
          exact pl
      · rintro σ H2 h
        rw [show ((intBits (d / 2 ^ t.toNat - 1) : Int) + 1).toNat = intBits (d / 2 ^ t.toNat - 1) + 1 by omega] at h
        unfold cEa
        rw [if_pos c2]
        exact h
    · exact ⟨_, _, rfl, (by unfold cEa; rw [if_neg c2, List.append_nil]; exact a1), sm⟩
  clear a1 sm
  rintro σ H2 ⟨y1, y2, rfl, a1, sm⟩
  have c3 := cEa_len (1 * 2 ^ i.toNat) d t
  refine ⟨_, rfl, _, _, rfl, rfl, _, rfl, (by omega), (by omega), for_range (fun n => AllJ H i d t l ([⟨0, 0, 0, (intBits d : Int) - 1⟩] ++ cSc 1 0 (1 * 2 ^ i.toNat) d (intBits (d - 1) + 1) ++ cEa (1 * 2 ^ i.toNat) d t ++ cMo (1 * 2 ^ i.toNat) d n)) ⟨_, _, rfl, (by rw [show cMo (1 * 2 ^ i.toNat) d 0 = [] from rfl, List.append_nil]; exact a1), sm⟩ ?_ ?_⟩
  · clear a1 sm
    rintro n σ H2 hn ⟨y1, y2, rfl, ⟨ps, hp, pl⟩, sm⟩
    have ep : (1 : Int) * 2 ^ i.toNat * 2 ^ (0 + (n : Int)).toNat = 1 * 2 ^ i.toNat * 2 ^ n := by rw [show (0 + (n : Int)).toNat = n by omega]
    have ub := pw_up h1 h2 (show n ≤ 32 by omega)
    have cl := cMo_len (1 * 2 ^ i.toNat) d n
    have pln := pl.1
    rw [List.length_append, List.length_append, List.length_append] at pln
    have pln' : ps.length = 1 + (cSc 1 0 (1 * 2 ^ i.toNat) d (intBits (d - 1) + 1)).length + (cEa (1 * 2 ^ i.toNat) d t).length + (cMo (1 * 2 ^ i.toNat) d n).length := pln
    have cp : CPow (1 * 2 ^ i.toNat) (0 + (n : Int)) := ⟨by omega, by omega, by omega⟩
    walk_at "o"
    rw [ep]
    walk_at "c" <;> intro c0
    · walk_at "o"
      walk_at "c" <;> intro c4
      · refine ⟨_, rfl, .inl ⟨rfl, _, SqL.of hp⟩, _, rfl, _, rfl, (by show 3 ≤ sizeLine; decide), fun r hr' => ?_⟩
        have sM := same_new hr' (.tup (tlv 3 0 ((1 * 2 ^ i.toNat * 2 ^ n - 1) / d) (0 + (n : Int))))
        have ap := AL.app pl hp hr' ⟨3, 0, (1 * 2 ^ i.toNat * 2 ^ n - 1) / d, 0 + (n : Int)⟩
        refine ⟨l, _, _, rfl, rfl, sM _ _ hp, (by rw [List.length_map]; omega), _, _, rfl, ?_, Same.updL (sm.trans sM) hz⟩
        rw [cMo_succ, if_pos ⟨c0, c4⟩, ← List.append_assoc, show (⟨3, 0, (1 * 2 ^ i.toNat * 2 ^ n - 1) / d, (n : Int)⟩ : Cd) = ⟨3, 0, (1 * 2 ^ i.toNat * 2 ^ n - 1) / d, 0 + (n : Int)⟩ by rw [e0]]
        exact ap
      · refine ⟨_, _, rfl, ⟨ps, hp, ?_⟩, sm⟩
        rw [cMo_succ, if_neg (fun z => c4 z.2), List.append_nil]
        exact pl
    · refine ⟨_, rfl, iteF ⟨_, _, rfl, ⟨ps, hp, ?_⟩, sm⟩⟩
      rw [cMo_succ, if_neg (fun z => c0 z.1), List.append_nil]
      exact pl
  clear a1 sm
  rw [show ((intBits (d - 1) : Int) + 1).toNat = intBits (d - 1) + 1 by omega]
  rintro σ H2 ⟨y1, y2, rfl, a1, sm⟩
  refine ⟨AllJ H i d t l (cAll (1 * 2 ^ i.toNat) d t), ?_, ?_⟩
  · refine ⟨_, rfl, _, _, rfl, rfl, _, rfl, ?_⟩
    walk_at "c" <;> intro c5
    · obtain ⟨ps, hp, pl⟩ := a1
      have ub := pw_up h1 h2 lb
      have cp : CPow (1 * 2 ^ i.toNat) (intBits (d - 1) : Int) := ⟨by omega, by omega, by omega⟩
      have cl := cMo_len (1 * 2 ^ i.toNat) d (intBits (d - 1) + 1)
      have pln := pl.1
      rw [List.length_append, List.length_append, List.length_append] at pln
      have pln' : ps.length = 1 + (cSc 1 0 (1 * 2 ^ i.toNat) d (intBits (d - 1) + 1)).length + (cEa (1 * 2 ^ i.toNat) d t).length + (cMo (1 * 2 ^ i.toNat) d (intBits (d - 1) + 1)).length := pln
      refine ⟨_, rfl, .inl ⟨rfl, _, SqL.of hp⟩, _, rfl, _, rfl, _, _, rfl, rfl, cp, _, rfl, _, _, rfl, ub.1, ub.2, d1, (by omega), _, rfl, _, _, rfl, rfl, _, rfl, (by show 3 ≤ sizeLine; decide), fun r hr' => ?_⟩
      have sM := same_new hr' (.tup (tlv 4 0 (upI (1 * 2 ^ i.toNat * 2 ^ intBits (d - 1)) d - 1 * 2 ^ i.toNat) (intBits (d - 1) : Int)))
      have ap := AL.app pl hp hr' ⟨4, 0, upI (1 * 2 ^ i.toNat * 2 ^ intBits (d - 1)) d - 1 * 2 ^ i.toNat, (intBits (d - 1) : Int)⟩
      refine ⟨l, _, _, rfl, rfl, sM _ _ hp, (by rw [List.length_map]; omega), _, _, rfl, ?_, Same.updL (sm.trans sM) hz⟩
      unfold cAll cWi
      rw [if_pos (by omega)]
      exact ap
    · exact ⟨_, _, rfl, (by unfold cAll cWi; rw [if_neg (by omega), List.append_nil]; exact a1), sm⟩
  · rintro σ H3 ⟨z1, z2, rfl, a2, s3⟩
    exact ⟨_, rfl, q t l H3 tw hz a2 s3⟩
theorem ok_candidates {f : Addr} {fd : FuncData} (F : Fun K "candidates" "candidates" s_candidates f fd) (T : Txt K mg c) (H_need_divisor : Has P w K mg base 4 "need_divisor" ["width", "d"] spNeedD) (H_scaled_candidates : Has P w K mg base 6 "scaled_candidates" ["width", "d"] (spScC c)) (H_early_candidates : Has P w K mg base 7 "early_candidates" ["width", "d"] (spEaC c)) (H_more_candidates : Has P w K mg base 6 "more_candidates" ["width", "d"] (spMoC c)) (H_ceiling : Has P w K mg base 1 "ceiling" ["top", "bottom"] spCeilF) (C_Shifted : CHas P w K mg base 4 c.Shifted "Shifted" ["self", "shift"] (spI0 c)) (C_Wide : CHas P w K mg base 4 c.Wide "Wide" ["self", "factor", "shift"] (spI2 c 4 1)) : FnOk P w K mg base CX0 8 f fd ["width", "d"] (spCand c) := by
  refine F.ok sc_candidates (fun vs H Q E h => ?_) (fun cdv A outer s H vs Q E hr h => ?_)
  · obtain ⟨i, d, rfl, _⟩ := h
    rfl
  obtain ⟨i, d, rfl, h1, h2, d1, d2, q⟩ := h
  refine ⟨_, (pss_cons (ps_expr (pe_fn H_need_divisor (hr.mono (by omega)) rfl (pa_cons (pv 0) (pa_cons (pv 1) pa_nil))))
    (pss_cons (ps_set (i := 2) sc_candidates.nd rfl (Or.inl rfl) (pe_lst (pa_cons (pe_mkP C_Shifted (hr.mono (by omega)) rfl (pa_cons (pe_op op_sub (pe_bm0 PySem.F.plainAttrs_int PySem.F.slot_int_bit_length PySem.F.type_int_bit_length mt_bits (pv 1)) pe_int) pa_nil)) pa_nil)))
    (pss_cons (ps_expr (pe_bm PySem.F.plainAttrs_list PySem.F.slot_list_extend PySem.F.type_list_extend mt_extend (pv 2) (pa_cons (pe_fn H_scaled_candidates (hr.mono (by omega)) rfl (pa_cons (pv 0) (pa_cons (pv 1) pa_nil))) pa_nil)))
    (pss_cons (ps_expr (pe_bm PySem.F.plainAttrs_list PySem.F.slot_list_extend PySem.F.type_list_extend mt_extend (pv 2) (pa_cons (pe_fn H_early_candidates (hr.mono (by omega)) rfl (pa_cons (pv 0) (pa_cons (pv 1) pa_nil))) pa_nil)))
    (pss_cons (ps_expr (pe_bm PySem.F.plainAttrs_list PySem.F.slot_list_extend PySem.F.type_list_extend mt_extend (pv 2) (pa_cons (pe_fn H_more_candidates (hr.mono (by omega)) rfl (pa_cons (pv 0) (pa_cons (pv 1) pa_nil))) pa_nil)))
    (pss_cons (ps_set (i := 3) sc_candidates.nd rfl (Or.inl rfl) (pe_bm0 PySem.F.plainAttrs_int PySem.F.slot_int_bit_length PySem.F.type_int_bit_length mt_bits (pe_op op_sub (pv 1) pe_int)))
    (pss_join (ps_if (pt_cmpR op_ne (pv 3) pe_int (nomark _))
      (pss_one (ps_expr (pe_bm PySem.F.plainAttrs_list PySem.F.slot_list_append PySem.F.type_list_append mt_append (pv 2) (pa_cons (pe_mkP C_Wide (hr.mono (by omega)) rfl (pa_cons (pe_op op_sub (pe_fn H_ceiling (hr.mono (by omega)) rfl (pa_cons (pe_op op_shl pe_int (pe_op op_add (pv 0) (pv 3))) (pa_cons (pv 1) pa_nil))) (pe_op op_shl pe_int (pv 0))) (pa_cons (pv 3) pa_nil))) pa_nil))))
      pss_nil)
    (pss_one (ps_ret (pv 2)))))))))), ?_⟩
  have pb := pw_bounds h1 h2
  have lb := bl_32 h2 d1 d2
  have L100 : (1000 : Nat) ≤ sizeLine := by decide
  walk_at "o"
  refine fun x dx hx hdx hne => ⟨x, dx, _, rfl, upd_same, (by omega), (by omega), fun H1 s1 fo => ⟨rfl, (by show 1 ≤ sizeLine; decide), fun l hl => ?_⟩⟩
  have sM := made_same hx hdx s1
  have hz : H l = none := by
    cases e : H l with
    | none => rfl
    | some o => have := sM _ _ e; rw [hl] at this; cases this
  have n1 := same_new hl (.lst [.ref x])
  have A1 : AL (FR c) (upd H1 l (.lst [.ref x])) l [⟨0, 0, 0, (intBits d : Int) - 1⟩] := ⟨[x], upd_same, .one (FR.same (x := ⟨0, 0, 0, (intBits d : Int) - 1⟩) fo n1)⟩
  have S1 := sM.trans n1
  generalize upd H1 l (.lst [.ref x]) = G1 at A1 S1 ⊢
  obtain ⟨ps1, hp1, pl1⟩ := A1
  refine ⟨_, rfl, .inl ⟨rfl, _, SqL.of hp1⟩, _, rfl, _, rfl, i, d, rfl, h1, h2, d1, d2, fun b2 H2 b20 ⟨qs2, hq2, ql2⟩ s2 => ⟨l, b2, _, _, rfl, rfl, s2 _ _ hp1, hq2, ?_, ?_⟩⟩
  · have := pl1.1
    have := ql2.1
    have := cSc_len 1 0 (1 * 2 ^ i.toNat) d (intBits (d - 1) + 1)
    rw [List.length_map, List.length_map]
    simp only [List.length_cons, List.length_nil] at *
    omega
  have A2 := AL.ext (pl1.mono fun _ _ q => q.same s2) (s2 _ _ hp1) ql2
  have S2 := Same.updL (o := .lst (ps1.map V.ref ++ qs2.map V.ref)) (S1.trans s2) hz
  have l2 : ([⟨0, 0, 0, (intBits d : Int) - 1⟩] ++ cSc 1 0 (1 * 2 ^ i.toNat) d (intBits (d - 1) + 1) : List Cd).length ≤ 40 := by
    have := cSc_len 1 0 (1 * 2 ^ i.toNat) d (intBits (d - 1) + 1)
    rw [List.length_append]
    show 1 + _ ≤ 40
    omega
  generalize upd H2 l (.lst (ps1.map V.ref ++ qs2.map V.ref)) = G2 at A2 S2 ⊢
  clear pl1 hp1 S1 s2 hq2 ql2 n1 fo s1 sM
  obtain ⟨ps2, hp2, pl2⟩ := A2
  refine ⟨_, rfl, .inl ⟨rfl, _, SqL.of hp2⟩, _, rfl, _, rfl, i, d, rfl, h1, h2, d1, d2, fun t b3 H3 tw b30 ⟨qs3, hq3, ql3⟩ s3 => ?_⟩
  have t0 := tw.1
  have o1 := xdiv (x := d) (by omega) t
  have o2 : 1 ≤ d / 2 ^ t.toNat := Classical.byContradiction fun z => by
    have a := Int.mul_nonpos_of_nonpos_of_nonneg (show d / 2 ^ t.toNat ≤ 0 by omega) (Int.le_of_lt (p_pos t.toNat))
    have b := tw.2.1
    omega
  have lo := (bl_32 h2 o2 (Int.lt_of_le_of_lt o1.2 d2)).1
  have l3 : ([⟨0, 0, 0, (intBits d : Int) - 1⟩] ++ cSc 1 0 (1 * 2 ^ i.toNat) d (intBits (d - 1) + 1) ++ cEa (1 * 2 ^ i.toNat) d t : List Cd).length ≤ 80 := by
    have := cEa_len (1 * 2 ^ i.toNat) d t
    rw [List.length_append]
    omega
  have A3 := AL.ext (pl2.mono fun _ _ q => q.same s3) (s3 _ _ hp2) ql3
  have S3 := Same.updL (o := .lst (ps2.map V.ref ++ qs3.map V.ref)) (S2.trans s3) hz
  have e3 : ps2.length + qs3.length ≤ 80 := by
    have a := pl2.1
    have b := ql3.1
    rw [List.length_append] at l3
    omega
  refine ⟨l, b3, _, _, rfl, rfl, s3 _ _ hp2, hq3, (by rw [List.length_map, List.length_map]; omega), ?_⟩
  show tSeq _ _ _ _ _
  generalize upd H3 l (.lst (ps2.map V.ref ++ qs3.map V.ref)) = G3 at A3 S3 ⊢
  clear pl2 hp2 S2 s3 hq3 ql3
  obtain ⟨ps3, hp3, pl3⟩ := A3
  refine ⟨_, rfl, .inl ⟨rfl, _, SqL.of hp3⟩, _, rfl, _, rfl, i, d, rfl, h1, h2, d1, d2, fun b4 H4 b40 ⟨qs4, hq4, ql4⟩ s4 => ?_⟩
  have l4 := cMo_len (1 * 2 ^ i.toNat) d (intBits (d - 1) + 1)
  have A4 := AL.ext (pl3.mono fun _ _ q => q.same s4) (s4 _ _ hp3) ql4
  have S4 := Same.updL (o := .lst (ps3.map V.ref ++ qs4.map V.ref)) (S3.trans s4) hz
  have e4 : ps3.length + qs4.length ≤ 120 := by
    have a := pl3.1
    have b := ql4.1
    omega
  refine ⟨l, b4, _, _, rfl, rfl, s4 _ _ hp3, hq4, (by rw [List.length_map, List.length_map]; omega), ?_⟩
  show tSeq _ _ _ _ _
  generalize upd H4 l (.lst (ps3.map V.ref ++ qs4.map V.ref)) = G4 at A4 S4 ⊢
  refine ⟨_, rfl, _, _, rfl, rfl, ty_int, _, rfl, rfl, ?_⟩
  refine ⟨fun σ HZ => σ = [some (.int i), some (.int d), some (.ref l), some (.int (intBits (d - 1) : Int))] ∧ AL (FR c) HZ l (cAll (1 * 2 ^ i.toNat) d t) ∧ Same H HZ, ?_, ?_⟩
  · refine ⟨_, rfl, rfl, _, rfl, ?_⟩
    by_cases c5 : intBits (d - 1) = 0
    · refine iteNS (by rw [c5]; rfl) ⟨rfl, ?_, S4⟩
      unfold cAll cWi
      rw [if_neg (by omega), List.append_nil]
      exact A4
    · have ep : (1 : Int) * 2 ^ (i + (intBits (d - 1) : Int)).toNat = 1 * 2 ^ i.toNat * 2 ^ intBits (d - 1) := by rw [show (i + (intBits (d - 1) : Int)).toNat = i.toNat + intBits (d - 1) by omega, Int.pow_add, Int.mul_assoc]
      have ub := pw_up h1 h2 lb.1
      have wf := wide_fac (A := 1 * 2 ^ i.toNat) (B := 2 ^ intBits (d - 1)) (by omega) d1 (bl_le d1) (bl_ge d1 (by omega)) (by omega)
      have wu : upI (1 * 2 ^ i.toNat * 2 ^ intBits (d - 1)) d = (1 * 2 ^ i.toNat * 2 ^ intBits (d - 1) + d - 1) / d := rfl
      obtain ⟨ps, hp, pl⟩ := A4
      have pln := pl.1
      rw [List.length_append] at pln
      refine iteN (fun z => c5 (by injection z with z; omega)) ?_
      refine ⟨_, rfl, .inl ⟨rfl, _, SqL.of hp⟩, _, rfl, _, rfl, _, _, rfl, rfl, _, _, rfl, rfl, cpow1 (by omega) (by omega), _, rfl, _, _, rfl, ?_⟩
      rw [ep]
      refine ⟨ub.1, ub.2, d1, (by omega), ?_⟩
      refine ⟨_, rfl, _, _, rfl, rfl, cpow1 (by omega) (by omega), _, _, rfl, rfl, _, rfl, fun x dx hx hdx hne => ⟨x, dx, _, _, rfl, upd_same, (by omega), (by omega), (by omega), (by omega), fun H' s' fo => ⟨rfl, ?_⟩⟩⟩
      have sM := made_same hx hdx s'
      have Sx := Same.updL (o := .lst (ps.map V.ref ++ [.ref x])) (S4.trans sM) hz
      refine ⟨l, _, _, rfl, rfl, sM _ _ hp, (by rw [List.length_map]; omega), rfl, ?_, Sx⟩
      unfold cAll cWi
      rw [if_pos (by omega)]
      have fx : FR c H' x ⟨4, 0, upI (1 * 2 ^ i.toNat * 2 ^ intBits (d - 1)) d - 1 * 2 ^ i.toNat, (intBits (d - 1) : Int)⟩ := fo
      exact ⟨ps ++ [x], (by rw [upd_same, List.map_append]; rfl), ((pl.mono fun _ _ q => q.same sM).snoc fx).updF (sM _ _ hp)⟩
  · rintro σ HZ ⟨rfl, a, s'⟩
    exact ⟨_, rfl, q t l HZ tw hz a s'⟩
theorem pe_fldK {X : Cx} {K : PySem.W.Frag} {e : Expr} {f : Str} {pos : Pos} {ta : TE} (hK : X.K = K) (he : PE X e ta) (hb : attributeBase e f X.env (eval e X.env) = eval e X.env) : PE X (.Attribute e f pos) (tFld K ta f) := by
  subst hK
  exact pe_fld he hb
theorem ok_early_candidates {f : Addr} {fd : FuncData} (F : Fun K "early_candidates" "early_candidates" s_early_candidates f fd) (T : Txt K mg c) (H_twos_in : Has P w K mg base 1 "twos_in" ["d"] spTwos) (H_scaled_candidates : Has P w K mg base 6 "scaled_candidates" ["width", "d"] (spScC c)) (C_Early : CHas P w K mg base 4 c.Early "Early" ["self", "early", "factor", "shift"] (spI3 c)) : FnOk P w K mg base CX0 7 f fd ["width", "d"] (spEaC c) := by
  refine F.ok sc_early_candidates (fun vs H Q E h => ?_) (fun cdv A outer s H vs Q E hr h => ?_)
  · obtain ⟨i, d, rfl, _⟩ := h
    rfl
  obtain ⟨i, d, rfl, h1, h2, d1, d2, q⟩ := h
  refine ⟨_, (pss_cons (ps_set (i := 2) sc_early_candidates.nd rfl (Or.inr rfl) (pe_fn H_twos_in (hr.mono (by omega)) rfl (pa_cons (pv 1) pa_nil)))
    (pss_cons (ps_if (pt_cmpR op_eq (pv 2) pe_int (nomark _))
      (pss_one (ps_ret (pe_lst pa_nil)))
      pss_nil)
    (pss_one (ps_ret (pe_compC [2] ["twos"] rfl (by first | rfl | with_unfolding_all rfl) (by rfl) (by exact (List.forall_mem_cons.mpr ⟨rfl, (fun _ h => nomatch h)⟩)) (by decide +kernel) rfl (by decide +kernel) rfl (by decide +kernel) (by exact (List.forall_mem_cons.mpr ⟨⟨by first | exact Or.inl rfl | exact Or.inr rfl, rfl⟩, (fun _ h => nomatch h)⟩)) rfl (by rfl) (pi_list (pe_fn H_scaled_candidates (hr.mono (by omega)) rfl (pa_cons (pv 0) (pa_cons (pe_op op_shr (pv 1) (pv 2)) pa_nil)))) (fun C s2 H2 fp => (pe_mkP C_Early (hr.mono (by omega)) rfl (pa_cons (pv 1) (pa_cons (pe_fldK (K := K) rfl (pv 0) rfl) (pa_cons (pe_fldK (K := K) rfl (pv 0) rfl) pa_nil)))))))))), ?_⟩
  have L100 : (1000 : Nat) ≤ sizeLine := by decide
  walk_at "o"; intro t tw
  have t0 := tw.1
  have tl := tw_small d1 (by have := pw_bounds h1 h2; omega) tw
  have o1 := xdiv (x := d) (by omega) t
  have o2 : 1 ≤ d / 2 ^ t.toNat := Classical.byContradiction fun z => by
    have a := Int.mul_nonpos_of_nonpos_of_nonneg (show d / 2 ^ t.toNat ≤ 0 by omega) (Int.le_of_lt (p_pos t.toNat))
    have b := tw.2.1
    omega
  have lo := (bl_32 h2 o2 (Int.lt_of_le_of_lt o1.2 d2)).1
  refine ⟨_, rfl, rfl, _, rfl, ?_⟩
  by_cases c0 : t = 0
  · subst c0
    refine iteD rfl ⟨(by show 0 ≤ sizeLine; decide), fun l hl => q 0 l _ tw hl ⟨[], upd_same, ?_⟩ (same_new hl _)⟩
    unfold cEa
    rw [if_neg (by omega)]
    exact PL.nil
  · refine iteDN (fun z => c0 (by injection z)) ?_
    refine ⟨_, rfl, _, rfl, _, rfl, _, _, rfl, rfl, t0, i, _, rfl, h1, h2, o2, Int.lt_of_le_of_lt o1.2 d2, fun b H1 b0 ⟨ps, hp, pl⟩ s1 => ⟨b, rfl, ⟨_, SqL.of hp⟩, fun D hD => ?_⟩⟩
    have pb := pw_bounds h1 h2
    refine comp_list (xs := ps.map V.ref) (fun n HJ => ∃ qs : List Addr, HJ D = some (.lst (qs.map V.ref)) ∧ PL (FR c) HJ qs (((cSc 1 0 (1 * 2 ^ i.toNat) (d / 2 ^ t.toNat) (intBits (d / 2 ^ t.toNat - 1) + 1)).take n).map fun x => ⟨2, t, x.f, x.s⟩) ∧ Same H1 HJ) ⟨[], upd_same, PL.nil, same_new hD _⟩ ?_ ?_ ?_
    · rintro n HJ hn ⟨qs, hq, ql, sJ⟩
      exact SqL.of (sJ _ _ hp)
    · rintro n v HJ hv ⟨qs, hq, ql, sJ⟩
      rw [List.getElem?_map] at hv
      cases e1 : ps[n]? with
      | none => rw [e1] at hv; cases hv
      | some p =>
        rw [e1] at hv
        cases hv
        have np := (List.getElem?_eq_some_iff.mp e1).1
        obtain ⟨x, ex⟩ : ∃ x, (cSc 1 0 (1 * 2 ^ i.toNat) (d / 2 ^ t.toNat) (intBits (d / 2 ^ t.toNat - 1) + 1))[n]? = some x := ⟨_, List.getElem?_eq_getElem (by rw [← pl.1]; exact np)⟩
        have xm := List.mem_of_getElem? ex
        have fm := (cSc_fm (.inl rfl) (fun _ => rfl) (by decide) (by decide) (by omega) (by omega) o2 (by omega) x xm).1
        obtain ⟨dx, hx⟩ := (pl.2 n p x e1 ex).same sJ
        rw [cSc_k x xm] at hx
        have qn := ql.1
        rw [List.length_map, List.length_take] at qn
        have pn := pl.1
        have cn := cSc_len 1 0 (1 * 2 ^ i.toNat) (d / 2 ^ t.toNat) (intBits (d / 2 ^ t.toNat - 1) + 1)
        refine ⟨_, rfl, _, rfl, p, _, dx, _, _, rfl, hx, T.cl_Scaled, T.na_Scaled_factor, rfl, _, rfl, p, _, dx, _, _, rfl, hx, T.cl_Scaled, T.na_Scaled_shift, rfl, fun y dy hy hdy hne => ⟨y, dy, t, x.f, x.s, rfl, upd_same, t0, tl, fm.fa, fm.fb, fm.sa, fm.sb, fun H' s' fo => ⟨rfl, ?_⟩⟩⟩
        have sM := made_same hy hdy s'
        refine ⟨_, sM _ _ hq, (by rw [List.length_map]; omega), (ps.map V.ref).length - (n + 1), (by rw [List.length_map]; omega), rfl, (by rw [List.length_map]; omega), qs ++ [y], (by rw [upd_same, List.map_append]; rfl), ?_, Same.updL (sJ.trans sM) hD⟩
        rw [List.take_succ, ex, List.map_append]
        have fx : FR c H' y ⟨2, t, x.f, x.s⟩ := fo
        exact ((ql.mono fun _ _ q => q.same sM).snoc fx).updF (sM _ _ hq)
    · rintro HJ ⟨qs, hq, ql, sJ⟩
      refine q t D HJ tw ?_ ⟨qs, hq, ?_⟩ (s1.trans sJ)
      · cases e : H D with
        | none => rfl
        | some o => have := s1 _ _ e; rw [hD] at this; cases this
      · unfold cEa
        rw [if_pos (by omega), cSc_map]
        rw [List.length_map, pl.1, List.take_length] at ql
        exact ql
theorem dgetk {H : Hp} {a : Addr} {kvs : List (Key × V)} {y : Str} (e : H a = some (.dK kvs)) : DGet H a (.str y) (valV kvs (.inr y)) := DGet.k (k := .inr y) e
theorem dputk {H : Hp} {a : Addr} {kvs : List (Key × V)} {y : Str} {v : V} (e : H a = some (.dK kvs)) (hl : kvs.length < sizeLine) : DPut H a (.str y) v (upd H a (.dK (putK kvs (.inr y) v))) := DPut.k (k := .inr y) e hl
theorem getD_fv {H : Hp} {a : Addr} {kvs : List (Key × V)} {y : Str} (d : ∀ kv ∈ kvs, FV kv.2) : Th H ((valV kvs (.inr y)).getD .non) := by
  cases e : valV kvs (.inr y) with
  | none => exact .non
  | some v =>
    obtain ⟨kv, m, _, rfl⟩ := valV_mem e
    exact (d kv m).th
theorem rA_len (kd : Nat) : (rA kd).length ≤ 5 := by unfold rA; split <;> decide
theorem ok_need_prices {f : Addr} {fd : FuncData} (F : Fun K "need_prices" "need_prices" s_need_prices f fd) (T : Txt K mg c) (H_is_between : Has P w K mg base 2 "is_between" ["thing", "low", "high"] spBtwG) (X_NoPrices : XHas P w K mg base 1 "NoPrices" c.NoPrices "found") : FnOk P w K mg base (CX2 P w base) 3 f fd ["prices"] (spNP c) := by
  refine Fun.okY F sc_need_prices (fun vs H Q E h => ?_) (fun cdv A outer s H vs Q E hr h => ?_)
  · obtain ⟨x, rfl, _⟩ := h
    rfl
  obtain ⟨x, rfl, th, df, qv, qe⟩ := h
  refine ⟨_, (pss_cons (ps_if (pt_not (pt_val (pe_callB call_isinst rfl T.n_isinstance boot_isinstance (pa_cons (pv 0) (pa_cons (pe_ty rfl T.n_dict boot_dict) pa_nil)))))
      (pss_one (ps_raise1 X_NoPrices (hr.mono (by omega)) rfl (pa_cons (pv 0) pa_nil)))
      pss_nil)
    (pss_cons (ps_set (i := 1) sc_need_prices.nd rfl (Or.inl rfl) pe_dnewK)
    (pss_cons (ps_for PassesOwn.leaving rfl (pi_tup (pe_cls rfl T.g_ROW_WORDS)) (pg_name (i := 2) sc_need_prices.nd rfl (Or.inl rfl))
      (pss_cons (ps_set (i := 3) sc_need_prices.nd rfl (Or.inl rfl) (pe_dget1 (hu_of hr) (pv 0) (pv 2) ⟨rfl, rfl, rfl, rfl⟩))
      (pss_cons (ps_if (pt_not (pt_val (pe_fn H_is_between (hr.mono (by omega)) rfl (pa_cons (pv 3) (pa_cons pe_int (pa_cons pe_int pa_nil))))))
        (pss_one (ps_raise1 X_NoPrices (hr.mono (by omega)) rfl (pa_cons (pv 0) pa_nil)))
        pss_nil)
      (pss_one (ps_dput (hu_of hr) (pv 1) (pv 2) (pv 3) rfl)))))
    (pss_one (ps_ret (pv 1)))))), ?_⟩
  have bad : ¬ GoodP H x → ∀ H1, Same H H1 → ∀ d, H1 d = none → E (.ref c.NoPrices) (some d) (upd H1 d (.xd [("found", x)])) := fun g H1 s d hd => qe g d _ upd_same (s.trans (same_new hd _))
  have nr : ∀ {a : Addr} {o : HO}, H a = some o → (∀ kvs, o ≠ .dK kvs) → x = .ref a → ¬ GoodP H x := fun h hn e => e ▸ no_good h hn
  cases th with
  | int i => exact ⟨_, rfl, _, _, _, _, _, rfl, rfl, TyOf.int _, kit_int_dct _, _, rfl, iteT ⟨_, rfl, _, rfl, bad (fun ⟨_, _, z, _⟩ => nomatch z) H (Same.refl H)⟩⟩
  | bl b => exact ⟨_, rfl, _, _, _, _, _, rfl, rfl, TyOf.bl _, kit_bl_dct _, _, rfl, iteT ⟨_, rfl, _, rfl, bad (fun ⟨_, _, z, _⟩ => nomatch z) H (Same.refl H)⟩⟩
  | str y => exact ⟨_, rfl, _, _, _, _, _, rfl, rfl, TyOf.str _, kit_str_dct _, _, rfl, iteT ⟨_, rfl, _, rfl, bad (fun ⟨_, _, z, _⟩ => nomatch z) H (Same.refl H)⟩⟩
  | non => exact ⟨_, rfl, _, _, _, _, _, rfl, rfl, TyOf.non, kit_non_dct _, _, rfl, iteT ⟨_, rfl, _, rfl, bad (fun ⟨_, _, z, _⟩ => nomatch z) H (Same.refl H)⟩⟩
  | lst h => exact ⟨_, rfl, _, _, _, _, _, rfl, rfl, TyOf.lst h, kit_lst_dct _, _, rfl, iteT ⟨_, rfl, _, rfl, bad (nr h (fun _ z => nomatch z) rfl) H (Same.refl H)⟩⟩
  | tup h => exact ⟨_, rfl, _, _, _, _, _, rfl, rfl, TyOf.tup h, kit_tup_dct _, _, rfl, iteT ⟨_, rfl, _, rfl, bad (nr h (fun _ z => nomatch z) rfl) H (Same.refl H)⟩⟩
  | @dct a kvs h =>
    have df' := df a kvs rfl h
    have GPat : ∀ {y : Str}, y ∈ rw16 → GoodP H (.ref a) → PrOk (valV kvs (.inr y)) := fun hy ⟨b, k2, e, h2, g⟩ => by
      cases e
      rw [h] at h2
      cases h2
      exact g _ hy
    refine ⟨_, rfl, _, _, _, _, _, rfl, rfl, TyOf.dK h, kit_dct_dct _, _, rfl, iteF ?_⟩
    refine fun t ht => ⟨_, rfl, ⟨_, T.q_ROW_WORDS _⟩, for_tup (xs := rw16.map V.str) (fun i σ H2 => ∃ tk x2 x3, σ = [some (.ref a), some (.ref t), x2, x3] ∧ H2 t = some (.dK tk) ∧ tk.length ≤ i ∧ (∀ y ∈ rw16.take i, PrOk (valV kvs (.inr y)) ∧ valV tk (.inr y) = valV kvs (.inr y)) ∧ Same H H2) ⟨[], _, _, rfl, upd_same, Nat.le_refl _, (fun y hy => nomatch hy), same_new ht _⟩ (fun i σ H2 _ _ => T.q_ROW_WORDS _) ?_ ?_⟩
    · rintro i y σ H2 hy ⟨tk, x2, x3, rfl, t2, tl, al, s2⟩
      rw [List.getElem?_map] at hy
      obtain ⟨z, hz, rfl⟩ := Option.map_eq_some_iff.mp hy
      have hi : i < 16 := (List.getElem?_eq_some_iff.mp hz).1
      have hzm : z ∈ rw16 := List.mem_of_getElem? hz
      have h2 := s2 _ _ h
      refine ⟨_, rfl, a, rfl, .inl ⟨kvs, .inl h2⟩, _, rfl, _, dgetk h2, ?_⟩
      refine ⟨_, rfl, _, _, _, rfl, getD_fv (a := a) df', _, rfl, ?_⟩
      cases hb : btw ((valV kvs (.inr z)).getD .non) 0 1000 with
      | false => exact iteT ⟨_, rfl, _, rfl, bad (fun g => btw_no hb (GPat hzm g)) H2 s2⟩
      | true =>
        refine iteF ?_
        have pr : PrOk (valV kvs (.inr z)) := by
          cases e : valV kvs (.inr z) with
          | none => rw [e] at hb; cases hb
          | some v => rw [e] at hb; exact btw_ok hb
        obtain ⟨n, en, _⟩ := id pr
        refine ⟨_, rfl, _, rfl, _, rfl, t, _, rfl, dputk t2 (Nat.lt_of_le_of_lt tl (Nat.lt_trans hi (by decide))), ?_⟩
        refine ⟨_, _, _, rfl, upd_same, Nat.le_trans (length_putK tk _ _) (Nat.succ_le_succ tl), fun y hy => ?_, Same.updL s2 ht⟩
        rw [List.take_add_one, hz] at hy
        rw [valV_put]
        rcases List.mem_append.mp hy with hy | hy
        · split
          · next e =>
            injection e with e
            subst e
            exact ⟨pr, by rw [en]; rfl⟩
          · exact al y hy
        · cases List.mem_singleton.mp hy
          rw [if_pos rfl]
          exact ⟨pr, by rw [en]; rfl⟩
    · rintro σ H2 ⟨tk, x2, x3, rfl, t2, tl, al, s2⟩
      have al' : ∀ y ∈ rw16, PrOk (valV kvs (.inr y)) ∧ valV tk (.inr y) = valV kvs (.inr y) := fun y hy => al y hy
      exact ⟨_, rfl, qv a kvs rfl h (fun y hy => (al' y hy).1) t tk H2 ht t2 (fun y hy => (al' y hy).2) s2⟩
theorem ok_form_words {f : Addr} {fd : FuncData} (F : Fun K "form_words" "form_words" s_form_words f fd) (T : Txt K mg c)  (MW : ∀ i, i < 5 → MHas P w K mg base 1 (fOf c i) "word" ["self"] (spWd i)) (RA : RowsA K P w c.ROWS_AHEAD) : FnOk P w K mg base CX0 2 f fd ["form"] (spFW c) := by
  refine F.ok sc_form_words (fun vs H Q E h => ?_) (fun cdv A outer s H vs Q E hr h => ?_)
  · obtain ⟨x, kd, e, f, s', rfl, _⟩ := h
    rfl
  obtain ⟨x, kd, e, f, s', rfl, ⟨dx, fo⟩, fm, q⟩ := h
  obtain ⟨tt, bb, gd_ROWS_AHEAD, hb⟩ := RA
  refine ⟨_, (pss_cons (ps_set (i := 1) sc_form_words.nd rfl (Or.inl rfl) (pe_callTy call_list_of rfl T.n_list boot_list (pa_cons (pe_gdget gd_ROWS_AHEAD (pe_cls rfl T.g_ROWS_AHEAD) (pe_methP0 (k := 1) (pv 0) (hr.mono (by omega))) (fun _ _ => rfl)) pa_nil)))
    (pss_cons (ps_set (i := 2) sc_form_words.nd rfl (Or.inl rfl) (pe_ifExp (pt_cmpR op_eq (pe_methP0 (k := 1) (pv 0) (hr.mono (by omega))) pe_str (nomark _)) pe_int pe_int))
    (pss_join (ps_if (pt_cmpR op_gt (pe_fld (pv 0) rfl) (pv 2) (nomark _))
      (pss_one (ps_expr (pe_bm PySem.F.plainAttrs_list PySem.F.slot_list_append PySem.F.type_list_append mt_append (pv 1) (pa_cons pe_str pa_nil))))
      pss_nil)
    (pss_one (ps_ret (pv 1)))))), ?_⟩
  have k5 := fm.k
  obtain ⟨cl, na⟩ := T.shf k5
  refine ⟨_, rfl, x, _, dx, _, _, _, rfl, fo, fl_word, MW kd k5, x, rfl, _, bb kd, rfl, rfl, rows_at k5, bb kd, _, rfl, .inr (hb kd k5 _), fun l hl => ?_⟩
  have s1 := same_new hl (.lst ((rA kd).map V.str))
  have l1 : upd H l (.lst ((rA kd).map V.str)) l = some (.lst ((rA kd).map V.str)) := upd_same
  generalize upd H l (.lst ((rA kd).map V.str)) = H1 at s1 l1 ⊢
  have fo1 := s1 _ _ fo
  refine ⟨_, rfl, x, _, dx, _, _, _, rfl, fo1, fl_word, MW kd k5, x, rfl, rfl, _, rfl, ?_⟩
  have n4 : kd ≠ 4 → V.str (wdF kd) ≠ V.str "wide" := fun hk => by
    rcases (by omega : kd = 0 ∨ kd = 1 ∨ kd = 2 ∨ kd = 3) with rfl | rfl | rfl | rfl <;> walk_at "n"
  by_cases hk : kd = 4
  case' pos =>
    have dk : dn kd = 1 := if_pos hk
    refine iteD (by subst hk; rfl) ?_
  case' neg =>
    have dk : dn kd = 0 := if_neg hk
    refine iteDN (n4 hk) ?_
  all_goals
    refine ⟨fun σ2 HZ => ∃ d, σ2 = [some (.ref x), some (.ref l), some (.int d)] ∧ HZ l = some (.lst ((fw kd s').map V.str)) ∧ Same H HZ, ?_, ?_⟩
    · refine ⟨_, rfl, x, _, dx, _, _, rfl, fo1, cl, na, fl_shift, _, rfl, _, _, rfl, rfl, _, rfl, ?_⟩
      walk_at "c" <;> intro c1
      · refine ⟨_, rfl, .inl ⟨rfl, _, SqL.of l1⟩, l, _, _, rfl, rfl, l1, (by rw [List.length_map]; exact Nat.lt_of_le_of_lt (rA_len kd) (by decide)), ?_⟩
        refine ⟨_, rfl, ?_, Same.updL s1 hl⟩
        rw [upd_same]
        unfold fw
        rw [dk, if_pos c1, List.map_append]
        rfl
      · refine ⟨_, rfl, ?_, s1⟩
        unfold fw
        rw [dk, if_neg c1, List.append_nil]
        exact l1
    · rintro σ2 HZ ⟨d, rfl, lZ, sZ⟩
      exact ⟨_, rfl, q l HZ hl lZ sZ⟩
theorem five {HZ : Hp} {p l0 l1 l2 l3 l4 : Addr} {op o0 o1 o2 o3 o4 : HO} (hp : HZ p = none) (h0 : upd HZ p op l0 = none) (h1 : upd (upd HZ p op) l0 o0 l1 = none) (h2 : upd (upd (upd HZ p op) l0 o0) l1 o1 l2 = none) (h3 : upd (upd (upd (upd HZ p op) l0 o0) l1 o1) l2 o2 l3 = none) (h4 : upd (upd (upd (upd (upd HZ p op) l0 o0) l1 o1) l2 o2) l3 o3 l4 = none) :
    ∃ H5, H5 = upd (upd (upd (upd (upd (upd HZ p op) l0 o0) l1 o1) l2 o2) l3 o3) l4 o4 ∧ H5 p = some op ∧ H5 l0 = some o0 ∧ H5 l1 = some o1 ∧ H5 l2 = some o2 ∧ H5 l3 = some o3 ∧ H5 l4 = some o4 ∧ Same HZ H5 ∧ HZ l0 = none ∧ HZ l1 = none ∧ HZ l2 = none ∧ HZ l3 = none ∧ HZ l4 = none := by
  have up := same_new hp op
  have u0 := up.trans (same_new h0 o0)
  have u1 := u0.trans (same_new h1 o1)
  have u2 := u1.trans (same_new h2 o2)
  have u3 := u2.trans (same_new h3 o3)
  have v4 := same_new h4 o4
  have v3 := (same_new h3 o3).trans v4
  have v2 := (same_new h2 o2).trans v3
  have v1 := (same_new h1 o1).trans v2
  have v0 := (same_new h0 o0).trans v1
  exact ⟨_, rfl, v0 _ _ upd_same, v1 _ _ upd_same, v2 _ _ upd_same, v3 _ _ upd_same, v4 _ _ upd_same, upd_same, u3.trans v4, up.free h0, u0.free h1, u1.free h2, u2.free h3, u3.free h4⟩
theorem ok__law_row_words {f : Addr} {fd : FuncData} (F : Fun K "_law_row_words" "_law_row_words" s__law_row_words f fd) (T : Txt K mg c)  : FnOk P w K mg base CX0 1 f fd [] spRW := by
  refine F.ok sc__law_row_words (fun vs H Q E h => ?_) (fun cdv A outer s H vs Q E hr h => ?_)
  · obtain ⟨rfl, _⟩ := h
    rfl
  obtain ⟨rfl, q⟩ := h
  refine ⟨_, (pss_one (ps_ret (pe_bm0 PySem.F.plainAttrs_str PySem.F.slot_str_split PySem.F.type_str_split mt_split pe_str))), ?_⟩
  have e : wordsOf "set copy sum gap low high left right slide and or unlike under pick mark turns" = rw16 := by decide +kernel
  refine ⟨ty_str, _, rfl, rfl, by decide +kernel, by decide +kernel, by decide +kernel, by decide +kernel, ?_⟩
  rw [e]
  exact q
theorem ok__law_made_of {f : Addr} {fd : FuncData} (F : Fun K "_law_made_of" "_law_made_of" s__law_made_of f fd) (T : Txt K mg c)  : FnOk P w K mg base CX0 1 f fd ["_law_told"] spMO := by
  refine F.ok sc__law_made_of (fun vs H Q E h => ?_) (fun cdv A outer s H vs Q E hr h => ?_)
  · obtain ⟨r, kd, e, f, s', rfl, _⟩ := h
    rfl
  obtain ⟨r, kd, e, f, s', rfl, ht, fm, q⟩ := h
  refine ⟨_, (pss_cons (ps_set (i := 1) sc__law_made_of.nd rfl (Or.inl rfl) (pe_ix ix_tup (pv 0) (pe_op op_sub (pe_callB call_len_seq rfl T.n_len boot_len (pa_cons (pv 0) pa_nil)) pe_int) (fun _ _ => rfl)))
    (pss_joinS (ps_if (pt_cmpR op_eq (pe_ix ix_tup (pv 0) pe_int (fun _ _ => rfl)) pe_str (nomark _))
      (pss_one (ps_set (i := 1) sc__law_made_of.nd rfl (Or.inl rfl) (pe_op op_sub (pv 1) pe_int)))
      pss_nil)
    (pss_consS (ps_setS (i := 2) sc__law_made_of.nd rfl (Or.inl rfl) (pe_dgetS (hu_of hr) (pe_dispS (pps_consS pe_str (pe_lstS pa_nilS) (pps_consS pe_str (pe_lstS (pa_consS pe_str (pa_consS pe_str pa_nilS))) (pps_consS pe_str (pe_lstS (pa_consS pe_str (pa_consS pe_str (pa_consS pe_str pa_nilS)))) (pps_consS pe_str (pe_lstS (pa_consS pe_str (pa_consS pe_str (pa_consS pe_str (pa_consS pe_str (pa_consS pe_str pa_nilS)))))) (pps_consS pe_str (pe_lstS (pa_consS pe_str (pa_consS pe_str (pa_consS pe_str (pa_consS pe_str (pa_consS pe_str pa_nilS)))))) pps_nilS))))) rfl rfl (fun z => nomatch z) (by decide)) (pe_ix ix_tup (pv 0) pe_int (fun _ _ => rfl)) (fun _ _ => rfl)))
    (pss_join (ps_if (pt_cmpR op_gt (pv 1) pe_int (nomark _))
      (pss_one (ps_expr (pe_bm PySem.F.plainAttrs_list PySem.F.slot_list_append PySem.F.type_list_append mt_append (pv 2) (pa_cons pe_str pa_nil))))
      pss_nil)
    (pss_one (ps_ret (pv 2))))))), ?_⟩
  have k5 := fm.k
  have lst0 : atI (tlv kd e f s') (((tlv kd e f s').length : Int) - 1) = some (.int s') := by
    rcases (by omega : kd = 0 ∨ kd = 1 ∨ kd = 2 ∨ kd = 3 ∨ kd = 4) with rfl | rfl | rfl | rfl | rfl <;> rfl
  have fst0 : atI (tlv kd e f s') 0 = some (.str (wdF kd)) := by
    rcases (by omega : kd = 0 ∨ kd = 1 ∨ kd = 2 ∨ kd = 3 ∨ kd = 4) with rfl | rfl | rfl | rfl | rfl <;> rfl
  refine ⟨_, rfl, _, rfl, r, _, rfl, .inr (SqT.of ht), _, _, rfl, rfl, r, _, _, _, rfl, rfl, SqT.of ht, lst0, ?_⟩
  refine ⟨fun σ2 HZ => σ2 = [some (.ref r), some (.int (s' - dn kd)), none] ∧ HZ = H, ?_, ?_⟩
  · refine ⟨_, rfl, r, _, _, _, rfl, rfl, SqT.of ht, fst0, rfl, _, rfl, ?_⟩
    by_cases hk : kd = 4
    · refine iteD (by subst hk; rfl) ⟨_, rfl, _, _, rfl, rfl, ?_, rfl⟩
      rw [show dn kd = 1 from if_pos hk]
      rfl
    · refine iteDN (by rcases (by omega : kd = 0 ∨ kd = 1 ∨ kd = 2 ∨ kd = 3) with rfl | rfl | rfl | rfl <;> walk_at "n") ⟨?_, rfl⟩
      rw [show dn kd = 0 from if_neg hk, Int.sub_zero]
      rfl
  rintro σ2 HZ ⟨rfl, rfl⟩
  refine fun p hp => ⟨(by show 0 ≤ sizeLine; decide), fun l0 h0 => ⟨(by show 2 ≤ sizeLine; decide), fun l1 h1 => ⟨(by show 3 ≤ sizeLine; decide), fun l2 h2 => ⟨(by show 5 ≤ sizeLine; decide), fun l3 h3 => ⟨(by show 5 ≤ sizeLine; decide), fun l4 h4 => ?_⟩⟩⟩⟩⟩
  obtain ⟨H5, e5, p5, f0, f1, f2, f3, f4, u4, n0, n1, n2, n3, n4⟩ := five hp h0 h1 h2 h3 h4
  show (_ ∧ _)
  rw [← e5]
  refine ⟨p5, [(.inr "shifted", .ref l0), (.inr "scaled", .ref l1), (.inr "early", .ref l2), (.inr "more", .ref l3), (.inr "wide", .ref l4)], rfl, Nat.le_of_ble_eq_true rfl, ?_⟩
  obtain ⟨lk, hv, hf, hn⟩ : ∃ lk, valV (mergeK [] [(.inr "shifted", .ref l0), (.inr "scaled", .ref l1), (.inr "early", .ref l2), (.inr "more", .ref l3), (.inr "wide", .ref l4)]) (.inr (wdF kd)) = some (.ref lk) ∧ H5 lk = some (.lst ((rA kd).map V.str)) ∧ HZ lk = none := by
    rcases (by omega : kd = 0 ∨ kd = 1 ∨ kd = 2 ∨ kd = 3 ∨ kd = 4) with rfl | rfl | rfl | rfl | rfl
    · exact ⟨l0, rfl, f0, n0⟩
    · exact ⟨l1, rfl, f1, n1⟩
    · exact ⟨l2, rfl, f2, n2⟩
    · exact ⟨l3, rfl, f3, n3⟩
    · exact ⟨l4, rfl, f4, n4⟩
  generalize mergeK [] [(.inr "shifted", .ref l0), (.inr "scaled", .ref l1), (.inr "early", .ref l2), (.inr "more", .ref l3), (.inr "wide", .ref l4)] = kv at hv ⊢
  have s6 : Same HZ (upd H5 p (.dK kv)) := Same.updL u4 hp
  have hlp : lk ≠ p := fun z => by rw [z, p5] at hf; cases hf
  have f6 : upd H5 p (.dK kv) lk = some (.lst ((rA kd).map V.str)) := by rw [upd_ne hlp]; exact hf
  have k6 : upd H5 p (.dK kv) p = some (.dK kv) := upd_same
  generalize upd H5 p (.dK kv) = H6 at s6 f6 k6 ⊢
  refine ⟨_, rfl, r, _, _, _, rfl, rfl, SqT.of (s6 _ _ ht), fst0, p, _, rfl, (by have := dgetk (y := wdF kd) k6; rw [hv] at this; exact this), ?_⟩
  refine ⟨fun σ2 HZ' => ∃ z, σ2 = [some (.ref r), z, some (.ref lk)] ∧ HZ' lk = some (.lst ((fw kd s').map V.str)) ∧ Same HZ HZ', ?_, ?_⟩
  · refine ⟨_, rfl, _, _, rfl, rfl, _, rfl, ?_⟩
    walk_at "c" <;> intro c1
    · refine ⟨_, rfl, .inl ⟨rfl, _, SqL.of f6⟩, lk, _, _, rfl, rfl, f6, (by rw [List.length_map]; exact Nat.lt_of_le_of_lt (rA_len kd) (by decide)), ?_⟩
      refine ⟨_, rfl, ?_, Same.updL s6 hn⟩
      rw [upd_same]
      unfold fw
      rw [if_pos (show dn kd < s' by omega), List.map_append]
      rfl
    · refine ⟨_, rfl, ?_, s6⟩
      unfold fw
      rw [if_neg (show ¬ dn kd < s' by omega), List.append_nil]
      exact f6
  rintro σ2 H7 ⟨z, rfl, f7, s7⟩
  exact ⟨_, rfl, q lk H7 hn f7 s7⟩
theorem ok__law_prices {f : Addr} {fd : FuncData} (F : Fun K "_law_prices" "_law_prices" s__law_prices f fd) (T : Txt K mg c) (H__law_draw : Has P w K mg base 1 "_law_draw" ["_law_state", "_law_size"] spTake) (H__law_row_words : Has P w K mg base 1 "_law_row_words" [] spRW) : FnOk P w K mg base CX0 2 f fd ["_law_state"] spPr := by
  refine F.ok sc__law_prices (fun vs H Q E h => ?_) (fun cdv A outer s H vs Q E hr h => ?_)
  · obtain ⟨p, rfl, _⟩ := h
    rfl
  obtain ⟨p, rfl, bx, q⟩ := h
  refine ⟨_, (pss_cons (ps_set (i := 1) sc__law_prices.nd rfl (Or.inl rfl) (pe_fn H__law_draw (hr.mono (by omega)) rfl (pa_cons (pv 0) (pa_cons pe_int pa_nil))))
    (pss_cons (ps_set (i := 2) sc__law_prices.nd rfl (Or.inl rfl) (pe_fn0 H__law_row_words (hr.mono (by omega)) rfl))
    (pss_join (ps_if (pt_cmpR op_eq (pe_fn H__law_draw (hr.mono (by omega)) rfl (pa_cons (pv 0) (pa_cons pe_int pa_nil))) pe_int (nomark _))
      (pss_one (ps_set (i := 2) sc__law_prices.nd rfl (Or.inl rfl) (pe_rev (pv 2))))
      pss_nil)
    (pss_cons (ps_set (i := 3) sc__law_prices.nd rfl (Or.inl rfl) (pe_ix ix_list (pe_lst (pa_cons pe_int (pa_cons pe_int (pa_cons pe_int (pa_cons pe_int pa_nil))))) (pv 1) (fun _ _ => rfl)))
    (pss_cons (ps_set (i := 4) sc__law_prices.nd rfl (Or.inl rfl) pe_dnewK)
    (pss_cons (ps_for PassesOwn.never rfl (pi_list (pv 2)) (pg_name (i := 5) sc__law_prices.nd rfl (Or.inl rfl))
      (pss_cons (ps_dput (hu_of hr) (pv 4) (pv 5) (pe_fn H__law_draw (hr.mono (by omega)) rfl (pa_cons (pv 0) (pa_cons (pv 3) pa_nil))) rfl)
      (pss_one (ps_if (PW.pt (pw_and (pt_cmpR op_eq (pv 1) pe_int (nomark _)) (pw_and1 (pt_cmpR op_in_seq (pv 5) (pe_lst (pa_cons pe_str (pa_cons pe_str (pa_cons pe_str pa_nil)))) (by with_unfolding_all rfl)))))
        (pss_one (ps_dput (hu_of hr) (pv 4) (pv 5) pe_int rfl))
        pss_nil))))
    (pss_join (ps_if (pt_cmpR op_eq (pe_fn H__law_draw (hr.mono (by omega)) rfl (pa_cons (pv 0) (pa_cons pe_int pa_nil))) pe_int (nomark _))
      (pss_one (ps_dput (hu_of hr) (pv 4) pe_str pe_str rfl))
      pss_nil)
    (pss_one (ps_ret (pv 4)))))))))), ?_⟩
  walk_at "o"; intro kd H1 k0 k1 b1 x1
  refine ⟨rfl, fun lw hlw => ?_⟩
  have x2 := x1.trans (SameX.of (same_new hlw (.lst (rw16.map V.str))))
  have b2 := b1.same (same_new hlw (.lst (rw16.map V.str)))
  have lw2 : upd H1 lw (.lst (rw16.map V.str)) lw = some (.lst (rw16.map V.str)) := upd_same
  have hlwp : lw ≠ p := fun e => by obtain ⟨r1, r2, hb⟩ := b1; rw [e, hb] at hlw; cases hlw
  generalize upd H1 lw (.lst (rw16.map V.str)) = H2 at x2 b2 lw2 ⊢
  refine ⟨fun σ2 HZ => ∃ (l : Addr) (xs : List Str), σ2 = [some (.ref p), some (.int kd), some (.ref l), none, none, none] ∧ HZ l = some (.lst (xs.map V.str)) ∧ l ≠ p ∧ xs.length = 16 ∧ (∀ y, y ∈ xs ↔ y ∈ rw16) ∧ Bx HZ p ∧ SameX p H HZ, ?_, ?_⟩
  · walk_at "o"; intro z H3 z0 z1 b3 x3
    walk_at "o"
    have lw3 := x3 _ _ hlwp lw2
    walk_at "c" <;> intro c1
    · refine ⟨_, rfl, lw, _, rfl, SqL.of lw3, fun l hl => ?_⟩
      have hlp : l ≠ p := fun e => by obtain ⟨r1, r2, hb⟩ := b3; rw [e, hb] at hl; cases hl
      refine ⟨l, rw16.reverse, rfl, ?_, hlp, rfl, fun y => List.mem_reverse, b3.same (same_new hl _), (x2.trans x3).trans (SameX.of (same_new hl _))⟩
      rw [upd_same, List.map_reverse]
    · exact ⟨lw, rw16, rfl, lw3, hlwp, rfl, fun y => Iff.rfl, b3, x2.trans x3⟩
  rintro σ2 H3 ⟨l, xs, rfl, l3, hlp, xl, xm, b3, x3⟩
  obtain ⟨m, am, m0, m1⟩ : ∃ m : Int, atI [V.int 1, .int 3, .int 1001, .int 1001] kd = some (.int m) ∧ 0 < m ∧ m ≤ 1001 := by
    rcases (by omega : kd = 0 ∨ kd = 1 ∨ kd = 2 ∨ kd = 3) with rfl | rfl | rfl | rfl
    · exact ⟨1, rfl, by decide, by decide⟩
    · exact ⟨3, rfl, by decide, by decide⟩
    · exact ⟨1001, rfl, by decide, by decide⟩
    · exact ⟨1001, rfl, by decide, by decide⟩
  refine ⟨(by show 4 ≤ sizeLine; decide), fun lm hlm => ⟨_, rfl, lm, _, _, _, rfl, rfl, SqL.of upd_same, am, ?_⟩⟩
  have sm := same_new hlm (.lst [V.int 1, .int 3, .int 1001, .int 1001])
  have l4 := sm _ _ l3
  have b4 := b3.same sm
  have x4 := x3.trans (SameX.of sm)
  generalize upd H3 lm (.lst [V.int 1, .int 3, .int 1001, .int 1001]) = H4 at l4 b4 x4 ⊢
  refine fun t ht => ?_
  have htp : t ≠ p := fun e => by obtain ⟨r1, r2, hb⟩ := b4; rw [e, hb] at ht; cases ht
  have htH : H t = none := frX b4 x4 ht
  have s5 := same_new ht (.dK [])
  have l5 := s5 _ _ l4
  refine ⟨_, rfl, l, rfl, ⟨_, SqL.of l5⟩, for_list (xs := xs.map V.str) (fun i σ HI => ∃ kvs x5, σ = [some (.ref p), some (.int kd), some (.ref l), some (.int m), some (.ref t), x5] ∧ HI t = some (.dK kvs) ∧ HI l = some (.lst (xs.map V.str)) ∧ Tb (2 * i) kvs ∧ (∀ y ∈ xs.take i, PrOk (valV kvs (.inr y))) ∧ Bx HI p ∧ SameX p H HI) ⟨[], _, rfl, upd_same, l5, ⟨Nat.le_refl _, fun _ h => nomatch h⟩, (fun _ h => nomatch h), b4.same s5, x4.trans (SameX.of s5)⟩ (fun i σ HI _ ⟨_, _, _, _, lI, _⟩ => SqL.of lI) ?_ ?_⟩
  · rintro i y σ HI hy ⟨kvs, x5, rfl, tI, lI, tb, al, bI, xI⟩
    rw [List.getElem?_map] at hy
    obtain ⟨z, hz, rfl⟩ := Option.map_eq_some_iff.mp hy
    have hi : i < 16 := by have := (List.getElem?_eq_some_iff.mp hz).1; omega
    have hzm : z ∈ rw16 := (xm z).mp (List.mem_of_getElem? hz)
    have tz := tx_rw z hzm
    refine ⟨_, rfl, _, rfl, p, m, rfl, bI, m0, by omega, fun d H6 d0 d1 b6 x6 => ?_⟩
    have t6 := x6 _ _ htp tI
    have l6 := x6 _ _ hlp lI
    have kl : kvs.length < sizeLine := Nat.lt_of_le_of_lt tb.ln (Nat.lt_of_lt_of_le (show 2 * i < 100 by omega) (by decide))
    refine ⟨_, rfl, _, rfl, t, _, rfl, dputk t6 kl, ?_⟩
    have hlt : l ≠ t := fun e => by rw [e, t6] at l6; cases l6
    have nx7 : ∀ (kv2 : List (Key × V)) (HJ : Hp), HJ t = some (.dK kv2) → HJ l = some (.lst (xs.map V.str)) → Bx HJ p → SameX p H HJ → Tb (2 * i + 2) kv2 → (∀ y, PrOk (valV kvs (.inr y)) → PrOk (valV kv2 (.inr y))) → PrOk (valV kv2 (.inr z)) → ∃ kvs x5, ([some (.ref p), some (.int kd), some (.ref l), some (.int m), some (.ref t), some (.str z)] : L2.St) = [some (.ref p), some (.int kd), some (.ref l), some (.int m), some (.ref t), x5] ∧ HJ t = some (.dK kvs) ∧ HJ l = some (.lst (xs.map V.str)) ∧ Tb (2 * (i + 1)) kvs ∧ (∀ y ∈ xs.take (i + 1), PrOk (valV kvs (.inr y))) ∧ Bx HJ p ∧ SameX p H HJ := fun kv2 HJ a1 a2 a3 a4 a5 a6 a7 => by
      refine ⟨kv2, _, rfl, a1, a2, a5, fun y hy => ?_, a3, a4⟩
      rw [List.take_add_one, hz] at hy
      rcases List.mem_append.mp hy with hy | hy
      · exact a6 y (al y hy)
      · cases List.mem_singleton.mp hy
        exact a7
    have p1 : ∀ (kk : List (Key × V)) (v : Int), 0 ≤ v → v ≤ 1000 → (∀ y, PrOk (valV kk (.inr y)) → PrOk (valV (putK kk (.inr z) (.int v)) (.inr y))) ∧ PrOk (valV (putK kk (.inr z) (.int v)) (.inr z)) := fun kk v v0 v1 => by
      refine ⟨fun y hy => ?_, ?_⟩
      · rw [valV_put]
        split
        · exact ⟨v, rfl, v0, v1⟩
        · exact hy
      · rw [valV_put, if_pos rfl]
        exact ⟨v, rfl, v0, v1⟩
    have b7 : Bx (upd H6 t (.dK (putK kvs (.inr z) (.int d)))) p := by
      obtain ⟨r1, r2, hb⟩ := b6
      exact ⟨r1, r2, by rw [upd_ne (Ne.symm htp)]; exact hb⟩
    have x7 : SameX p H (upd H6 t (.dK (putK kvs (.inr z) (.int d)))) := fun b o hb e => by
      rw [upd_ne (fun e' => by rw [e', htH] at e; cases e)]
      exact (xI.trans x6) b o hb e
    have l7 : upd H6 t (.dK (putK kvs (.inr z) (.int d))) l = some (.lst (xs.map V.str)) := by rw [upd_ne hlt]; exact l6
    have t7 : upd H6 t (.dK (putK kvs (.inr z) (.int d))) t = some (.dK (putK kvs (.inr z) (.int d))) := upd_same
    have tb7 : Tb (2 * i + 1) (putK kvs (.inr z) (.int d)) := tb.put tz (fv_small (by omega) (by omega))
    have ok7 := p1 kvs d d0 (by omega)
    generalize upd H6 t (.dK (putK kvs (.inr z) (.int d))) = H7 at b7 x7 l7 t7 ⊢
    generalize putK kvs (.inr z) (.int d) = kv7 at t7 tb7 ok7
    have fin : ∀ HJ, Same H7 HJ → ∃ kvs x5, ([some (.ref p), some (.int kd), some (.ref l), some (.int m), some (.ref t), some (.str z)] : L2.St) = [some (.ref p), some (.int kd), some (.ref l), some (.int m), some (.ref t), x5] ∧ HJ t = some (.dK kvs) ∧ HJ l = some (.lst (xs.map V.str)) ∧ Tb (2 * (i + 1)) kvs ∧ (∀ y ∈ xs.take (i + 1), PrOk (valV kvs (.inr y))) ∧ Bx HJ p ∧ SameX p H HJ := fun HJ sJ => nx7 kv7 HJ (sJ _ _ t7) (sJ _ _ l7) (b7.same sJ) (x7.trans (SameX.of sJ)) (tb7.le (by omega)) ok7.1 ok7.2
    refine ⟨_, rfl, rfl, _, rfl, ?_⟩
    by_cases c2 : V.int kd = V.int 2
    · refine iteD c2 ⟨_, rfl, (by show 3 ≤ sizeLine; decide), fun l8 h8 => ⟨l8, _, rfl, .inl (SqL.of upd_same), rfl, rfl, _, rfl, ?_⟩⟩
      have s8 := same_new h8 (.lst [V.str "set", .str "copy", .str "right"])
      cases inV (.str z) [V.str "set", .str "copy", .str "right"] with
      | false => exact iteF (fin _ s8)
      | true =>
        have t8 := s8 _ _ t7
        have l8' := s8 _ _ l7
        have b8 := b7.same s8
        have x8 := x7.trans (SameX.of s8)
        generalize upd H7 l8 (.lst [V.str "set", .str "copy", .str "right"]) = H8 at t8 l8' b8 x8 ⊢
        refine iteT ⟨_, rfl, _, rfl, t, _, rfl, dputk t8 (Nat.lt_of_le_of_lt tb7.ln (Nat.lt_of_lt_of_le (show 2 * i + 1 < 100 by omega) (by decide))), ?_⟩
        have ok9 := p1 kv7 0 (by decide) (by decide)
        refine nx7 (putK kv7 (.inr z) (.int 0)) _ upd_same (by rw [upd_ne hlt]; exact l8') ?_ (fun b o hb e => ?_) (tb7.put tz (fv_small (by decide) (by decide))) (fun y hy => ok9.1 y (ok7.1 y hy)) ok9.2
        · obtain ⟨r1, r2, hb⟩ := b8
          exact ⟨r1, r2, by rw [upd_ne (Ne.symm htp)]; exact hb⟩
        · rw [upd_ne (fun e' => by rw [e', htH] at e; cases e)]
          exact x8 b o hb e
    · refine iteDN c2 ?_
      exact iteF (fin _ (Same.refl _))
  · rintro σ HI ⟨kvs, x5, rfl, tI, lI, tb, al, bI, xI⟩
    have g : GoodD kvs := fun y hy => al y (by rw [List.length_map, List.take_length]; exact (xm y).mpr hy)
    rw [List.length_map, xl] at tb
    refine ⟨fun σ2 HZ => ∃ kv2 x5, σ2 = [some (.ref p), some (.int kd), some (.ref l), some (.int m), some (.ref t), x5] ∧ HZ t = some (.dK kv2) ∧ GoodD kv2 ∧ Tb 40 kv2 ∧ Bx HZ p ∧ SameX p H HZ, ?_, ?_⟩
    · walk_at "o"; intro d H6 d0 d1 b6 x6
      have t6 := x6 _ _ htp tI
      walk_at "o"
      walk_at "c" <;> intro c3
      · refine ⟨_, rfl, t, _, rfl, dputk t6 (Nat.lt_of_le_of_lt tb.ln (by decide)), ?_⟩
        refine ⟨putK kvs (.inr "more") (.str "else"), _, rfl, upd_same, g.more (by decide +kernel), (tb.put (x := "more") ⟨by decide +kernel, by decide +kernel⟩ (.inr (.inr (.inr ⟨"else", rfl, by decide +kernel, by decide +kernel⟩)))).le (by decide), ?_, fun b o hb e => ?_⟩
        · obtain ⟨r1, r2, hb⟩ := b6
          exact ⟨r1, r2, by rw [upd_ne (Ne.symm htp)]; exact hb⟩
        · rw [upd_ne (fun e' => by rw [e', htH] at e; cases e)]
          exact (xI.trans x6) b o hb e
      · exact ⟨kvs, _, rfl, t6, g, tb.le (by decide), b6, xI.trans x6⟩
    rintro σ2 HZ ⟨kv2, x6, rfl, tZ, gZ, tbZ, bZ, xZ⟩
    exact ⟨_, rfl, q t kv2 HZ htH tZ gZ tbZ bZ xZ⟩
theorem RD.lstR {H : Hp} {a : Addr} {xs : List V} (h : H a = some (.lst xs)) : ∀ {n m : Nat}, (∀ x ∈ xs, ∃ d, RD H x d ∧ SmD d n m) → ∃ d, RD H (.ref a) d ∧ SmD d (n + 1) (xs.length * (m + 1)) := by
  intro n m al
  have key : ∀ ys : List V, (∀ x ∈ ys, ∃ d, RD H x d ∧ SmD d n m) → ∃ ds : List PyData, ys.length = ds.length ∧ (∀ (i : Nat) x d, ys[i]? = some x → ds[i]? = some d → RD H x d) ∧ SmL ds n (ys.length * (m + 1)) := by
    intro ys
    induction ys with
    | nil => intro _; exact ⟨[], rfl, fun i x d e => (by simp at e), SmL.nil⟩
    | cons y r ih =>
      intro al
      obtain ⟨ds, e1, e2, e3⟩ := ih fun x hx => al x (List.mem_cons_of_mem _ hx)
      obtain ⟨d, r1, r2⟩ := al y (List.mem_cons_self ..)
      refine ⟨d :: ds, by simp [e1], fun i x d' h1 h2 => ?_, ?_⟩
      · cases i with
        | zero => simp at h1 h2; subst h1 h2; exact r1
        | succ j => simp at h1 h2; exact e2 j x d' h1 h2
      · have := SmL.cons r2 e3
        have e : (y :: r).length * (m + 1) = r.length * (m + 1) + m + 1 := by rw [List.length_cons, Nat.succ_mul]; omega
        rw [e]
        exact this
  obtain ⟨ds, e1, e2, e3⟩ := key xs al
  exact ⟨.list ds, .lst h e1 e2, e3.list⟩
theorem RD.pair {H : Hp} {a : Addr} {x y : V} {dx dy : PyData} (h : H a = some (.tup [x, y])) (hx : RD H x dx) (hy : RD H y dy) (sx : SmD dx 0 100) (sy : SmD dy 0 100) : ∃ d, RD H (.ref a) d ∧ SmD d 1 300 := by
  refine ⟨.tuple [dx, dy], .tup h rfl (fun i z d h1 h2 => ?_), ?_⟩
  · match i, h1, h2 with
    | 0, h1, h2 => cases h1; cases h2; exact hx
    | 1, h1, h2 => cases h1; cases h2; exact hy
  · have := (SmL.cons sx (SmL.cons sy (SmL.nil (n := 0) (m := 0)))).tup
    exact ⟨this.sh, this.lv, this.dp, Nat.le_trans this.wt (by decide), this.hd⟩
theorem key_rd {H : Hp} {k : Key} (h : ∃ x, k = .inr x ∧ Tx x) : ∃ d, RD H (kV k) d ∧ SmD d 0 100 := by
  obtain ⟨x, rfl, hx⟩ := h
  exact ⟨_, .str x, tx_sm hx⟩
theorem tb_rp {n : Nat} {H : Hp} {a : Addr} {kvs : List (Key × V)} (h : H a = some (.dK kvs)) (t : Tb n kvs) (hn : n ≤ 400) : RpOk H (.ref a) := by
  obtain ⟨D, f, a1, a2, a3⟩ := t.dict hn
  exact ⟨.dict D, .inr ⟨a, kvs, D, rfl, h, f, rfl⟩, a1, a2, a3⟩
theorem dg_str {i : Int} (h0 : 0 ≤ i) (h1 : i < 10) : FV (.str (toString i)) := by
  rcases (by omega : i = 0 ∨ i = 1 ∨ i = 2 ∨ i = 3 ∨ i = 4 ∨ i = 5 ∨ i = 6 ∨ i = 7 ∨ i = 8 ∨ i = 9) with rfl | rfl | rfl | rfl | rfl | rfl | rfl | rfl | rfl | rfl <;> exact .inr (.inr (.inr ⟨_, rfl, by decide +kernel, by decide +kernel⟩))
theorem rw_at {k : Int} (h0 : 0 ≤ k) (h1 : k < 16) : ∃ y, y ∈ rw16 ∧ atI (rw16.map V.str) k = some (.str y) := by
  obtain ⟨j, hj, rfl⟩ : ∃ j : Nat, j < 16 ∧ k = (j : Int) := ⟨k.toNat, by omega, by omega⟩
  refine ⟨rw16[j]'hj, List.getElem_mem _, atI_nat ?_⟩
  rw [List.getElem?_map, List.getElem?_eq_getElem hj]
  rfl
theorem ok__law_no_prices {f : Addr} {fd : FuncData} (F : Fun K "_law_no_prices" "_law_no_prices" s__law_no_prices f fd) (T : Txt K mg c) (H__law_prices : Has P w K mg base 2 "_law_prices" ["_law_state"] spPr) (H__law_draw : Has P w K mg base 1 "_law_draw" ["_law_state", "_law_size"] spTake) (H__law_row_words : Has P w K mg base 1 "_law_row_words" [] spRW) : FnOk P w K mg base CX0 3 f fd ["_law_state"] spNoPr := by
  refine F.ok sc__law_no_prices (fun vs H Q E h => ?_) (fun cdv A outer s H vs Q E hr h => ?_)
  · obtain ⟨p, rfl, _⟩ := h
    rfl
  obtain ⟨p, rfl, bx, q⟩ := h
  refine ⟨_, (pss_cons (ps_set (i := 1) sc__law_no_prices.nd rfl (Or.inl rfl) (pe_fn H__law_prices (hr.mono (by omega)) rfl (pa_cons (pv 0) pa_nil)))
    (pss_cons (ps_set (i := 2) sc__law_no_prices.nd rfl (Or.inl rfl) (pe_ix ix_list (pe_fn0 H__law_row_words (hr.mono (by omega)) rfl) (pe_fn H__law_draw (hr.mono (by omega)) rfl (pa_cons (pv 0) (pa_cons pe_int pa_nil))) (fun _ _ => rfl)))
    (pss_cons (ps_set (i := 3) sc__law_no_prices.nd rfl (Or.inl rfl) (pe_fn H__law_draw (hr.mono (by omega)) rfl (pa_cons (pv 0) (pa_cons pe_int pa_nil))))
    (pss_join (ps_if (pt_cmpR op_eq (pv 3) pe_int (nomark _))
      (pss_one (ps_expr (pe_dpop1 (pv 1) (pv 2) ⟨rfl, rfl, rfl, rfl⟩)))
      (pss_one (ps_if (pt_cmpR op_eq (pv 3) pe_int (nomark _))
        (pss_one (ps_dput (hu_of hr) (pv 1) (pv 2) (pe_op op_sub (pe_op op_sub pe_int pe_int) (pe_fn H__law_draw (hr.mono (by omega)) rfl (pa_cons (pv 0) (pa_cons (pe_op op_pow pe_int pe_int) pa_nil)))) rfl))
        (pss_one (ps_if (pt_cmpR op_eq (pv 3) pe_int (nomark _))
          (pss_one (ps_dput (hu_of hr) (pv 1) (pv 2) (pe_op op_add pe_int (pe_fn H__law_draw (hr.mono (by omega)) rfl (pa_cons (pv 0) (pa_cons (pe_op op_pow pe_int pe_int) pa_nil)))) rfl))
          (pss_one (ps_if (pt_cmpR op_eq (pv 3) pe_int (nomark _))
            (pss_one (ps_dput (hu_of hr) (pv 1) (pv 2) (pe_cmpR op_eq (pe_fn H__law_draw (hr.mono (by omega)) rfl (pa_cons (pv 0) (pa_cons pe_int pa_nil))) pe_int (nomark _)) rfl))
            (pss_one (ps_if (pt_cmpR op_eq (pv 3) pe_int (nomark _))
              (pss_one (ps_dput (hu_of hr) (pv 1) (pv 2) (pe_callTy call_str_int rfl T.n_str boot_str (pa_cons (pe_fn H__law_draw (hr.mono (by omega)) rfl (pa_cons (pv 0) (pa_cons pe_int pa_nil))) pa_nil)) rfl))
              (pss_one (ps_if (pt_cmpR op_eq (pv 3) pe_int (nomark _))
                (pss_one (ps_dput (hu_of hr) (pv 1) (pv 2) pe_non rfl))
                (pss_one (ps_if (pt_cmpR op_eq (pv 3) pe_int (nomark _))
                  (pss_one (ps_ret pe_non))
                  (pss_one (ps_if (pt_cmpR op_eq (pv 3) pe_int (nomark _))
                    (pss_one (ps_ret (pe_callTy (call_listD rfl) rfl T.n_list boot_list (pa_cons (pv 1) pa_nil))))
                    (pss_one (ps_ret (pe_thaw (pe_comp0 rfl (by first | rfl | with_unfolding_all rfl) (by decide +kernel) rfl (by decide +kernel) rfl (pi_dict (pv 1)) (fun C s2 H2 fp => (pe_tup (pa_cons (pv 0) (pa_cons pe_int pa_nil)))))))))))))))))))))))
    (pss_one (ps_ret (pv 1))))))), ?_⟩
  refine ⟨_, rfl, p, rfl, bx, fun t kvs H1 ht t1 g tb b1 x1 => ?_⟩
  have htp : t ≠ p := fun e => by obtain ⟨r1, r2, hb⟩ := bx; rw [e, hb] at ht; cases ht
  refine ⟨rfl, fun lw hlw => ?_⟩
  have sw := same_new hlw (.lst (rw16.map V.str))
  have lw2 : upd H1 lw (.lst (rw16.map V.str)) lw = some (.lst (rw16.map V.str)) := upd_same
  have hlwp : lw ≠ p := fun e => by obtain ⟨r1, r2, hb⟩ := b1; rw [e, hb] at hlw; cases hlw
  have t2 := sw _ _ t1
  have b2 := b1.same sw
  have x2 := x1.trans (SameX.of sw)
  generalize upd H1 lw (.lst (rw16.map V.str)) = H2 at lw2 t2 b2 x2 ⊢
  refine ⟨_, rfl, p, _, rfl, b2, by decide, by decide, fun k H3 k0 k1 b3 x3 => ?_⟩
  obtain ⟨y, hy, ay⟩ := rw_at k0 k1
  have t3 := x3 _ _ htp t2
  refine ⟨lw, _, _, _, rfl, rfl, SqL.of (x3 _ _ hlwp lw2), ay, ?_⟩
  refine ⟨_, rfl, p, _, rfl, b3, by decide, by decide, fun kd H4 c0 c1 b4 x4 => ?_⟩
  have t4 := x4 _ _ htp t3
  have x04 := (x2.trans x3).trans x4
  have ty := tx_rw y hy
  have kl : kvs.length < sizeLine := Nat.lt_of_le_of_lt tb.ln (by decide)
  have put : ∀ (HJ : Hp) (v : V), HJ t = some (.dK kvs) → Bx HJ p → SameX p H HJ → FV v → ¬ PrOk (some v) → Q (.ref t) (upd HJ t (.dK (putK kvs (.inr y) v))) := fun HJ v tJ bJ xJ fv nv => by
    have tb' := tb.put ty fv
    have tt : upd HJ t (.dK (putK kvs (.inr y) v)) t = some (.dK (putK kvs (.inr y) v)) := upd_same
    refine q _ _ (.dct tt) (DFl.of tt tb') (bad_put tt hy nv) (tb_rp tt tb' (by decide)) ?_ (fun b o hb e => ?_)
    · obtain ⟨r1, r2, hb⟩ := bJ
      exact ⟨r1, r2, by rw [upd_ne (Ne.symm htp)]; exact hb⟩
    · rw [upd_ne (fun e' => by rw [e', ht] at e; cases e)]
      exact xJ b o hb e
  have np : ∀ {i : Int}, (i < 0 ∨ 1000 < i) → ¬ PrOk (some (.int i)) := fun h ⟨j, e, j0, j1⟩ => by
    cases e
    omega
  have nb : ∀ {v : V}, isI v = false → ¬ PrOk (some v) := fun h ⟨j, e, _⟩ => by
    cases e
    cases h
  refine ⟨fun σ2 HZ => ∃ a b c, σ2 = [a, some (.ref t), b, c] ∧ Q (.ref t) HZ, ?_, ?_⟩
  rotate_left
  · rintro σ2 HZ ⟨a1, a2, a3, rfl, qq⟩
    exact ⟨_, rfl, qq⟩
  have fin : ∀ (HJ : Hp) (v : V), HJ t = some (.dK kvs) → Bx HJ p → SameX p H HJ → FV v → ¬ PrOk (some v) → ∃ a b c, ([some (.ref p), some (.ref t), some (.str y), some (.int kd)] : L2.St) = [a, some (.ref t), b, c] ∧ Q (.ref t) (upd HJ t (.dK (putK kvs (.inr y) v))) := fun HJ v h1 h2 h3 h4 h5 => ⟨_, _, _, rfl, put HJ v h1 h2 h3 h4 h5⟩
  walk_at "o"
  walk_at "c" <;> intro d0
  · refine ⟨_, rfl, t, rfl, .inl ⟨_, .inl t4⟩, _, rfl, kvs, .inr y, _, t4, rfl, (g.at hy).1, _, _, _, rfl, ?_⟩
    have tt : upd H4 t (.dK (dropK kvs (.inr y))) t = some (.dK (dropK kvs (.inr y))) := upd_same
    refine q _ _ (.dct tt) (DFl.of tt (tb.drop (k := .inr y))) (bad_drop tt hy) (tb_rp tt (tb.drop (k := .inr y)) (by decide)) ?_ (fun b o hb e => ?_)
    · obtain ⟨r1, r2, hb⟩ := b4
      exact ⟨r1, r2, by rw [upd_ne (Ne.symm htp)]; exact hb⟩
    · rw [upd_ne (fun e' => by rw [e', ht] at e; cases e)]
      exact x04 b o hb e
  walk_at "o"
  walk_at "c" <;> intro d1
  · walk_at "o"
    refine ⟨by decide, by decide, ?_⟩
    intro z H5 z0 z1 b5 x5
    have z1 : z < 100000000000000000000 := z1
    refine ⟨_, _, rfl, rfl, _, rfl, _, rfl, t, _, rfl, dputk (x5 _ _ htp t4) kl, fin H5 _ (x5 _ _ htp t4) b5 (x04.trans x5) (fv_small ?_ ?_) (np ?_)⟩
    · omega
    · omega
    · exact .inl (by omega)
  walk_at "o"
  walk_at "c" <;> intro d2
  · walk_at "o"
    refine ⟨by decide, by decide, ?_⟩
    intro z H5 z0 z1 b5 x5
    have z1 : z < 100000000000000000000 := z1
    refine ⟨_, _, rfl, rfl, _, rfl, _, rfl, t, _, rfl, dputk (x5 _ _ htp t4) kl, fin H5 _ (x5 _ _ htp t4) b5 (x04.trans x5) (fv_small ?_ ?_) (np ?_)⟩
    · omega
    · omega
    · exact .inr (by omega)
  walk_at "o"
  walk_at "c" <;> intro d3
  · walk_at "o"; intro z H5 z0 z1 b5 x5
    exact ⟨rfl, _, rfl, _, rfl, t, _, rfl, dputk (x5 _ _ htp t4) kl, fin H5 _ (x5 _ _ htp t4) b5 (x04.trans x5) (.inr (.inl ⟨_, rfl⟩)) (nb rfl)⟩
  walk_at "o"
  walk_at "c" <;> intro d4
  · walk_at "o"; intro z H5 z0 z1 b5 x5
    exact ⟨z, rfl, Nat.lt_trans (int_log (by omega) (by omega)) (by decide), _, rfl, _, rfl, t, _, rfl, dputk (x5 _ _ htp t4) kl, fin H5 _ (x5 _ _ htp t4) b5 (x04.trans x5) (dg_str z0 z1) (nb rfl)⟩
  walk_at "o"
  walk_at "c" <;> intro d5
  · exact ⟨_, rfl, _, rfl, t, _, rfl, dputk t4 kl, fin H4 _ t4 b4 x04 (.inl rfl) (nb rfl)⟩
  walk_at "o"
  walk_at "c" <;> intro d6
  · exact q .non H4 .non (fun _ _ z => nomatch z) (fun ⟨_, _, z, _⟩ => nomatch z) ⟨.none, .inl ⟨.non, rfl⟩, rfl, by decide, by decide +kernel⟩ b4 x04
  walk_at "o"
  walk_at "c" <;> intro d7
  · obtain ⟨D, fd, _⟩ := tb.dict (by decide)
    refine ⟨_, rfl, t, kvs, D, rfl, t4, fd, Nat.le_trans tb.ln (by decide), fun l hl => ?_⟩
    have sl := same_new hl (.lst (kvs.map fun kv => kV kv.1))
    have l5 : upd H4 l (.lst (kvs.map fun kv => kV kv.1)) l = some (.lst (kvs.map fun kv => kV kv.1)) := upd_same
    obtain ⟨d, rd, sm⟩ := RD.lstR (n := 0) (m := 100) l5 fun x hx => by
      obtain ⟨kv, hk, rfl⟩ := List.mem_map.mp hx
      exact key_rd (tb.ok kv hk).1
    refine q _ _ (.lst l5) (fun a k2 e h2 => ?_) (no_good l5 (fun _ z => nomatch z)) (sm.ok rd (by decide) ?_) (b4.same sl) (x04.trans (SameX.of sl))
    · cases e
      rw [l5] at h2
      cases h2
    · rw [List.length_map]
      have := tb.ln
      omega
  refine ⟨_, rfl, t, kvs, rfl, t4, fun o D hD => ?_⟩
  have htD : D ≠ t := fun e => by rw [e, upd_same] at hD; cases hD
  have hDp : D ≠ p := fun e => by
    obtain ⟨r1, r2, hb⟩ := b4
    rw [e, upd_ne (Ne.symm htp), hb] at hD
    cases hD
  refine comp_dict (fun i HI => ∃ as : List Addr, HI D = some (.lst (as.map V.ref)) ∧ as.length = i ∧ (∀ b ∈ as, ∃ k : Key, (∃ x, k = .inr x ∧ Tx x) ∧ HI b = some (.tup [kV k, .int 1])) ∧ HI t = some (.frz o (.dK kvs)) ∧ Same (upd H4 t (.frz o (.dK kvs))) HI) ⟨[], upd_same, rfl, (fun _ h => nomatch h), by rw [upd_ne (Ne.symm htD), upd_same], same_new hD _⟩ (fun i HI _ ⟨_, _, _, _, h, _⟩ => h) ?_ ?_
  · rintro i kv HI hi hk ⟨as, hA, hl, al, tI, sI⟩
    refine ⟨_, rfl, (by show 2 ≤ sizeLine; decide), fun b hb => ?_⟩
    have sb := same_new hb (.tup [kV kv.1, .int 1])
    have nbD : b ≠ D := fun e => by rw [e, hA] at hb; cases hb
    refine ⟨_, sb _ _ hA, (by rw [List.length_map, hl]; exact Nat.lt_of_lt_of_le hi (Nat.le_trans tb.ln (by decide))), kvs.length - (i + 1), (by omega), rfl, hi, as ++ [b], ?_, (by rw [List.length_append, hl]; rfl), fun x hx => ?_, ?_, ?_⟩
    · rw [upd_same, List.map_append]
      rfl
    · rcases List.mem_append.mp hx with hx | hx
      · obtain ⟨k, kt, e⟩ := al x hx
        refine ⟨k, kt, ?_⟩
        have nx : x ≠ D := fun z => by rw [z, hA] at e; cases e
        rw [upd_ne nx]
        exact sb _ _ e
      · cases List.mem_singleton.mp hx
        refine ⟨kv.1, (tb.ok kv (List.mem_of_getElem? hk)).1, ?_⟩
        rw [upd_ne nbD, upd_same]
    · rw [upd_ne (Ne.symm htD)]
      exact sb _ _ tI
    · exact Same.updL (sI.trans sb) hD
  rintro H5 ⟨as, hA, hl, al, t5, s5⟩
  refine ⟨t, o, kvs, t5, (fun o u z => by rw [show (cxOf CX0 P w K mg base ["_law_state", "_law_table", "_law_word", "_law_kind"] "_law_no_prices" (defScope s__law_no_prices) f cdv A outer s H E).nox.H₀ = H from rfl, ht] at z; cases z), ?_⟩
  have A6 : upd H5 t (.dK kvs) D = some (.lst (as.map V.ref)) := by rw [upd_ne htD]; exact hA
  obtain ⟨d, rd, sm⟩ := RD.lstR (n := 1) (m := 300) A6 fun x hx => by
    obtain ⟨b, hb, rfl⟩ := List.mem_map.mp hx
    obtain ⟨k, kt, e⟩ := al b hb
    obtain ⟨dk, rk, sk⟩ := key_rd (H := upd H5 t (.dK kvs)) kt
    have e' : upd H5 t (.dK kvs) b = some (.tup [kV k, .int 1]) := by
      rw [upd_ne (fun z => by rw [z, t5] at e; cases e)]
      exact e
    exact RD.pair e' rk (.int 1) sk (int_sm (by decide) (by decide))
  have x6 : SameX p H (upd H5 t (.dK kvs)) := fun b o' hb e => by
    have nbt : b ≠ t := fun z => by rw [z, ht] at e; cases e
    rw [upd_ne nbt]
    refine s5 b o' ?_
    rw [upd_ne nbt]
    exact x04 b o' hb e
  have b6 : Bx (upd H5 t (.dK kvs)) p := by
    obtain ⟨r1, r2, hb⟩ := b4
    exact ⟨r1, r2, by rw [upd_ne (Ne.symm htp)]; exact s5 _ _ (by rw [upd_ne (Ne.symm htp)]; exact hb)⟩
  refine q _ _ (.lst A6) (fun a k2 e h2 => ?_) (no_good A6 (fun _ z => nomatch z)) (sm.ok rd (by decide) ?_) b6 x6
  · cases e
    rw [A6] at h2
    cases h2
  · rw [List.length_map, hl]
    have := tb.ln
    omega
theorem Txt.tyS {K : PySem.W.Frag} {mg : Str → Option Value} {c : Ad} {H : Hp} {x : Addr} {sd : SD} (T : Txt K mg c) (o : SFO c H x sd) : TyOf K H (.ref x) (.ref (sOf c sd.ix)) := by
  cases sd with
  | cut f k => obtain ⟨dx, h⟩ := o; exact TyOf.ins h T.cl_Cutting T.kf_dc_Cutting T.kf_og T.kf_ot T.kf_mo_Cutting
  | turn kd e f t => obtain ⟨dx, y, h, _⟩ := o; exact TyOf.ins h T.cl_Turned T.kf_dc_Turned T.kf_og T.kf_ot T.kf_mo_Turned
theorem Txt.isS {K : PySem.W.Frag} {mg : Str → Option Value} {c : Ad} (T : Txt K mg c) (sd : SD) : PySem.W.kitOne K (.ref (sOf c sd.ix)) (.ref c.SignedForm) = some true ∧ PySem.W.kitOne K (.ref (sOf c sd.ix)) (.ref c.Cutting) = some (sd.ix == 0) ∧ PySem.W.kitOne K (.ref (sOf c sd.ix)) (.ref c.Turned) = some (sd.ix == 1) := by
  cases sd with
  | cut f k => exact ⟨kit_of T.kf_kc_SignedForm T.kf_kt_SignedForm T.kf_m_Cutting_SignedForm, kit_of T.kf_kc_Cutting T.kf_kt_Cutting T.kf_m_Cutting_Cutting, kit_apart T.kf_kc_Turned T.kf_kt_Turned T.kf_m_Cutting_Turned T.kf_m_Turned_Turned⟩
  | turn kd e f t => exact ⟨kit_of T.kf_kc_SignedForm T.kf_kt_SignedForm T.kf_m_Turned_SignedForm, kit_apart T.kf_kc_Cutting T.kf_kt_Cutting T.kf_m_Turned_Cutting T.kf_m_Cutting_Cutting, kit_of T.kf_kc_Turned T.kf_kt_Turned T.kf_m_Turned_Turned⟩
theorem SFO.ob2 {c : Ad} {H : Hp} {x : Addr} {sd : SD} (o : SFO c H x sd) : ∃ dx fs, H x = some (.ins (sOf c sd.ix) dx fs) ∧ fs.lookup ("told" : Str) = none ∧ fs.lookup ("row_list" : Str) = none := by
  cases sd with
  | cut f k => obtain ⟨dx, h⟩ := o; exact ⟨dx, _, h, rfl, rfl⟩
  | turn kd e f t => obtain ⟨dx, y, h, _⟩ := o; exact ⟨dx, _, h, rfl, rfl⟩
theorem hu2 {A : Around} {k : Nat} (hr : Room k A) : A.units + 1 + 1 < cLine := by have := hr.un; omega
theorem ok_Cutting_told {f : Addr} {fd : FuncData} (F : Fun K "told" "Cutting.told" s_Cutting_told f fd) (T : Txt K mg c)  (MW : MHas P w K mg base 1 c.Cutting "word" ["self"] (spWdS 0)) : FnOk P w K mg base CX0 3 f fd ["self"] (spSTold c 0) := by
  refine F.ok sc_Cutting_told (fun vs H Q E h => ?_) (fun cdv A outer s H vs Q E hr h => ?_)
  · obtain ⟨x, sd, rfl, _⟩ := h
    rfl
  obtain ⟨x, sd, rfl, ix, fo, ok, q⟩ := h
  refine ⟨_, (pss_one (ps_ret (pe_tup (pa_cons (pe_methP0 (k := 1) (pv 0) (hr.mono (by omega))) (pa_cons (pe_fld (pv 0) rfl) (pa_cons (pe_fld (pv 0) rfl) pa_nil)))))), ?_⟩
  cases sd with
  | turn => cases ix
  | cut f k =>
    obtain ⟨dx, hx⟩ := fo
    exact ⟨_, rfl, x, _, dx, _, _, _, rfl, hx, rfl, MW, x, rfl, _, rfl, x, _, dx, _, _, rfl, hx, T.cl_Cutting, T.na_Cutting_factor, rfl, _, rfl, x, _, dx, _, _, rfl, hx, T.cl_Cutting, T.na_Cutting_shift, rfl, (by show 3 ≤ sizeLine; decide), fun r hr' => q r _ hr' upd_same (same_new hr' _)⟩
theorem ok_Turned_told {f : Addr} {fd : FuncData} (F : Fun K "told" "Turned.told" s_Turned_told f fd) (T : Txt K mg c)  (MW : MHas P w K mg base 1 c.Turned "word" ["self"] (spWdS 1)) (MT : ∀ i, i < 5 → MHas P w K mg base 2 (fOf c i) "told" ["self"] (spTold c i)) : FnOk P w K mg base CX0 3 f fd ["self"] (spSTold c 1) := by
  refine F.ok sc_Turned_told (fun vs H Q E h => ?_) (fun cdv A outer s H vs Q E hr h => ?_)
  · obtain ⟨x, sd, rfl, _⟩ := h
    rfl
  obtain ⟨x, sd, rfl, ix, fo, ok, q⟩ := h
  refine ⟨_, (pss_one (ps_ret (pe_tup (pa_cons (pe_methP0 (k := 1) (pv 0) (hr.mono (by omega))) (pa_cons (pe_methP0 (k := 2) (pe_fld (pv 0) rfl) (hr.mono (by omega))) pa_nil))))), ?_⟩
  cases sd with
  | cut => cases ix
  | turn kd e f t =>
    obtain ⟨dx, y, hx, dy, hy⟩ := fo
    have k5 : kd < 5 := Fm.k ok
    refine ⟨_, rfl, x, _, dx, _, _, _, rfl, hx, rfl, MW, x, rfl, _, rfl, x, _, dx, _, _, rfl, hx, T.cl_Turned, T.na_Turned_form, rfl, y, _, dy, _, _, _, rfl, hy, fl_told, MT kd k5, y, e, f, t, rfl, ⟨dy, hy⟩, fun u H' hu h' s' => ⟨(by show 2 ≤ sizeLine; decide), fun r hr' => ?_⟩⟩
    have sr := same_new hr' (.tup [.str "turned", .ref u])
    exact q r _ (s'.free hr') ⟨u, upd_same, sr _ _ h'⟩ (s'.trans sr)
theorem ok_Cutting_row_list {f : Addr} {fd : FuncData} (F : Fun K "row_list" "Cutting.row_list" s_Cutting_row_list f fd) (T : Txt K mg c)  : FnOk P w K mg base CX0 3 f fd ["self"] (spRL c 0) := by
  refine F.ok sc_Cutting_row_list (fun vs H Q E h => ?_) (fun cdv A outer s H vs Q E hr h => ?_)
  · obtain ⟨x, sd, rfl, _⟩ := h
    rfl
  obtain ⟨x, sd, rfl, ix, fo, ok, q⟩ := h
  refine ⟨_, (pss_cons (ps_set (i := 1) sc_Cutting_row_list.nd rfl (Or.inl rfl) (pe_lst (pa_consN pe_str (pa_consN pe_str (pa_consN pe_str (pa_consN pe_str (pa_consN pe_str (pa_consN pe_str pa_nil))))))))
    (pss_join (ps_if (pt_cmpR op_ne (pe_fld (pv 0) rfl) pe_int (nomark _))
      (pss_one (ps_expr (pe_bm PySem.F.plainAttrs_list PySem.F.slot_list_append PySem.F.type_list_append mt_append (pv 1) (pa_cons pe_str pa_nil))))
      pss_nil)
    (pss_cons (ps_expr (pe_bm PySem.F.plainAttrs_list PySem.F.slot_list_append PySem.F.type_list_append mt_append (pv 1) (pa_cons pe_str pa_nil)))
    (pss_one (ps_ret (pv 1)))))), ?_⟩
  cases sd with
  | turn => cases ix
  | cut f k =>
    obtain ⟨dx, hx⟩ := fo
    refine ⟨(by show 6 ≤ sizeLine; decide), fun l hl => ?_⟩
    have sl := same_new hl (.lst ((["set", "high", "right", "gap", "and", "gap"] : List Str).map V.str))
    have l1 : upd H l (.lst ((["set", "high", "right", "gap", "and", "gap"] : List Str).map V.str)) l = some (.lst ((["set", "high", "right", "gap", "and", "gap"] : List Str).map V.str)) := upd_same
    refine ⟨fun σ2 HZ => σ2 = [some (.ref x), some (.ref l)] ∧ HZ l = some (.lst (((["set", "high", "right", "gap", "and", "gap"] : List Str) ++ (if k = 0 then ([] : List Str) else ["slide"])).map V.str)) ∧ Same H HZ, ?_, ?_⟩
    · refine ⟨_, rfl, x, _, dx, _, _, rfl, sl _ _ hx, T.cl_Cutting, T.na_Cutting_shift, rfl, rfl, _, rfl, ?_⟩
      walk_at "c" <;> intro c0
      · refine ⟨_, rfl, .inl ⟨rfl, _, SqL.of l1⟩, l, _, _, rfl, rfl, l1, (by show 6 < sizeLine; decide), rfl, ?_, Same.updL sl hl⟩
        rw [upd_same, if_neg c0, List.map_append]
        rfl
      · refine ⟨rfl, ?_, sl⟩
        rw [if_pos c0, List.append_nil]
        exact l1
    rintro σ2 HZ ⟨rfl, lZ, sZ⟩
    refine ⟨_, rfl, .inl ⟨rfl, _, SqL.of lZ⟩, l, _, _, rfl, rfl, lZ, ?_, _, rfl, q l _ hl ?_ (Same.updL sZ hl)⟩
    · rw [List.length_map]
      have : ((["set", "high", "right", "gap", "and", "gap"] : List Str) ++ (if k = 0 then ([] : List Str) else ["slide"])).length ≤ 7 := by split <;> decide
      exact Nat.lt_of_le_of_lt this (by decide)
    · rw [upd_same]
      show some (HO.lst (_ ++ _)) = some (.lst (((["set", "high", "right", "gap", "and", "gap"] : List Str) ++ ((if k = 0 then ([] : List Str) else ["slide"]) ++ (["sum"] : List Str))).map V.str))
      simp only [List.map_append, List.append_assoc]
      rfl
theorem ok_Turned_row_list {f : Addr} {fd : FuncData} (F : Fun K "row_list" "Turned.row_list" s_Turned_row_list f fd) (T : Txt K mg c) (H_form_words : Has P w K mg base 2 "form_words" ["form"] (spFW c)) : FnOk P w K mg base CX0 3 f fd ["self"] (spRL c 1) := by
  refine F.ok sc_Turned_row_list (fun vs H Q E h => ?_) (fun cdv A outer s H vs Q E hr h => ?_)
  · obtain ⟨x, sd, rfl, _⟩ := h
    rfl
  obtain ⟨x, sd, rfl, ix, fo, ok, q⟩ := h
  refine ⟨_, (pss_one (ps_ret (pe_op op_addL (pe_op op_addL (pe_lst (pa_cons pe_str (pa_cons pe_str (pa_cons pe_str (pa_cons pe_str pa_nil))))) (pe_fn H_form_words (hr.mono (by omega)) rfl (pa_cons (pe_fld (pv 0) rfl) pa_nil))) (pe_lst (pa_cons pe_str (pa_cons pe_str pa_nil)))))), ?_⟩
  cases sd with
  | cut => cases ix
  | turn kd e f t =>
    obtain ⟨dx, y, hx, dy, hy⟩ := fo
    refine ⟨(by show 4 ≤ sizeLine; decide), fun l0 h0 => ?_⟩
    have s0 := same_new h0 (.lst ((["right", "gap", "unlike", "gap"] : List Str).map V.str))
    have l0' : upd H l0 (.lst ((["right", "gap", "unlike", "gap"] : List Str).map V.str)) l0 = some (.lst ((["right", "gap", "unlike", "gap"] : List Str).map V.str)) := upd_same
    refine ⟨_, rfl, x, _, dx, _, _, rfl, s0 _ _ hx, T.cl_Turned, T.na_Turned_form, rfl, y, kd, e, f, t, rfl, ⟨dy, s0 _ _ hy⟩, ok, fun l1 H1 h1 l1' s1 => ?_⟩
    have l6 := fw_len (kd := kd) (s := t)
    refine ⟨l0, l1, _, _, rfl, rfl, SqL.of (s1 _ _ l0'), SqL.of l1', (by rw [List.length_map, List.length_map]; exact Nat.le_trans (show 4 + (fw kd t).length ≤ 10 by omega) (by decide)), fun l2 h2 => ?_⟩
    have s2 := same_new h2 (.lst ((["right", "gap", "unlike", "gap"] : List Str).map V.str ++ (fw kd t).map V.str))
    refine ⟨(by show 2 ≤ sizeLine; decide), fun l3 h3 => ?_⟩
    have s3 := same_new h3 (.lst ((["unlike", "gap"] : List Str).map V.str))
    refine ⟨l2, l3, _, _, rfl, rfl, SqL.of (s3 _ _ upd_same), SqL.of upd_same, (by rw [List.length_append, List.length_map, List.length_map]; exact Nat.le_trans (show 4 + (fw kd t).length + 2 ≤ 12 by omega) (by decide)), fun l4 h4 => ?_⟩
    have sA := ((s0.trans s1).trans s2).trans s3
    refine q l4 _ (sA.free h4) ?_ (sA.trans (same_new h4 _))
    rw [upd_same]
    unfold sw
    rw [List.map_append, List.map_append]
    rfl
theorem ok_signed_words {f : Addr} {fd : FuncData} (F : Fun K "signed_words" "signed_words" s_signed_words f fd) (T : Txt K mg c)  (MR : ∀ i, i < 2 → MHas P w K mg base 3 (sOf c i) "row_list" ["self"] (spRL c i)) : FnOk P w K mg base CX0 4 f fd ["form"] (spSW c) := by
  refine F.ok sc_signed_words (fun vs H Q E h => ?_) (fun cdv A outer s H vs Q E hr h => ?_)
  · obtain ⟨x, sd, rfl, _⟩ := h
    rfl
  obtain ⟨x, sd, rfl, fo, ok, q⟩ := h
  refine ⟨_, (pss_one (ps_ret (pe_methP0 (k := 3) (pv 0) (hr.mono (by omega))))), ?_⟩
  obtain ⟨dx, fs, hx, _, lk⟩ := fo.ob2
  exact ⟨_, rfl, x, _, dx, _, _, _, rfl, hx, lk, MR sd.ix sd.ix2, x, sd, rfl, rfl, fo, ok, q⟩
theorem ok_price_of_signed {f : Addr} {fd : FuncData} (F : Fun K "price_of_signed" "price_of_signed" s_price_of_signed f fd) (T : Txt K mg c) (H_need_prices : HasY P w K mg base 3 "need_prices" ["prices"] (spNP c)) (H_signed_words : Has P w K mg base 4 "signed_words" ["form"] (spSW c)) : FnOk P w K mg base (CX2 P w base) 5 f fd ["form", "prices"] (spPS c) := by
  refine Fun.okY F sc_price_of_signed (fun vs H Q E h => ?_) (fun cdv A outer s H vs Q E hr h => ?_)
  · obtain ⟨x, sd, p, rfl, _⟩ := h
    rfl
  obtain ⟨x, sd, p, rfl, fo, ok, th, df, qv, qe⟩ := h
  refine ⟨_, (pss_cons (ps_set (i := 2) sc_price_of_signed.nd rfl (Or.inr rfl) (pe_fnYX H_need_prices (hr.mono (by omega)) rfl (pa_cons (pv 1) pa_nil)))
    (pss_one (ps_ret (pe_callB (call_sum rfl) rfl T.n_sum boot_sum (pa_cons (pe_compC [2] ["table"] rfl (by first | rfl | with_unfolding_all rfl) (by rfl) (by exact (List.forall_mem_cons.mpr ⟨rfl, (fun _ h => nomatch h)⟩)) (by decide +kernel) rfl (by decide +kernel) rfl (by decide +kernel) (by exact (List.forall_mem_cons.mpr ⟨⟨by first | exact Or.inl rfl | exact Or.inr rfl, rfl⟩, (fun _ h => nomatch h)⟩)) rfl (by rfl) (pi_list (pe_fn H_signed_words (hr.mono (by omega)) rfl (pa_cons (pv 0) pa_nil))) (fun C s2 H2 fp => (pe_dget (hu_of hr) (pv 1) (pv 0) (fun _ _ => rfl)))) pa_nil))))), ?_⟩
  refine ⟨_, rfl, p, rfl, th, df, fun a kvs ep ha g t tk H1 ht h1 al s1 => ?_, fun ng d H1 hd s1 => qe ng d H1 hd s1⟩
  refine ⟨_, rfl, x, sd, rfl, fo.same s1, ok, fun l H2 hl l2 s2 => ?_⟩
  refine ⟨l, rfl, ⟨_, SqL.of l2⟩, fun D hD => ?_⟩
  have t2 := s2 _ _ h1
  have gat : ∀ y ∈ sw sd, valV tk (.inr y) = some (.int (pz kvs y)) := fun y hy => by rw [al y (sw_mem y hy)]; exact (g.at (sw_mem y hy)).1
  refine comp_list (xs := (sw sd).map V.str) (fun i HI => HI D = some (.lst (((sw sd).take i).map fun y => V.int (pz kvs y))) ∧ Same H2 HI) ⟨upd_same, same_new hD _⟩ (fun i HI _ ⟨_, sI⟩ => SqL.of (sI _ _ l2)) ?_ ?_
  · rintro i y HI hy ⟨hDI, sI⟩
    rw [List.getElem?_map] at hy
    obtain ⟨z, hz, rfl⟩ := Option.map_eq_some_iff.mp hy
    have hi := (List.getElem?_eq_some_iff.mp hz).1
    have ti := sI _ _ t2
    refine ⟨_, rfl, _, rfl, t, _, rfl, (by have := dgetk (y := z) ti; rw [gat z (List.mem_of_getElem? hz)] at this; exact this), ?_⟩
    have hl6 := sw_len (sd := sd)
    refine ⟨_, hDI, (by rw [List.length_map, List.length_take]; exact Nat.lt_of_le_of_lt (Nat.le_trans (Nat.min_le_right ..) hl6) (by decide)), _, (show (sw sd).length - (i + 1) < ((sw sd).map V.str).length - i by rw [List.length_map]; omega), (by rw [List.length_map]), (by rw [List.length_map]; exact hi), ?_, Same.updL sI hD⟩
    rw [upd_same, List.take_add_one, hz, List.map_append]
    rfl
  rintro H3 ⟨hD3, s3⟩
  rw [List.length_map, List.take_length] at hD3
  refine ⟨D, (sw sd).map (pz kvs), rfl, (by rw [List.map_map]; exact SqL.of hD3), ?_⟩
  exact qv a kvs ep ha g H3 ((s1.trans s2).trans s3)
theorem QL.updS {c : Ad} {H : Hp} {l : Addr} {zs ys : List V} {ps : List Addr} {xs : List SD} (h : QL (SFO c) H ps xs) (e : H l = some (.lst zs)) : QL (SFO c) (upd H l (.lst ys)) ps xs := h.mono fun p x q => q.updL e
theorem QL.updT {H : Hp} {l : Addr} {zs ys : List V} {ps : List Addr} {xs : List SD} (h : QL STd H ps xs) (e : H l = some (.lst zs)) : QL STd (upd H l (.lst ys)) ps xs := h.mono fun p x q => q.updL e
theorem ok_signed_candidates {f : Addr} {fd : FuncData} (F : Fun K "signed_candidates" "signed_candidates" s_signed_candidates f fd) (T : Txt K mg c) (H_need_signed_divisor : Has P w K mg base 4 "need_signed_divisor" ["width", "d"] spNeedSD) (H_candidates : Has P w K mg base 8 "candidates" ["width", "d"] (spCand c)) (C_Turned : CHas P w K mg base 1 c.Turned "Turned" ["self", "form"] (spIT c)) (C_Cutting : CHas P w K mg base 4 c.Cutting "Cutting" ["self", "factor", "shift"] (spIC c)) : FnOk P w K mg base CX0 9 f fd ["width", "d"] (spSCand c) := by
  refine F.ok sc_signed_candidates (fun vs H Q E h => ?_) (fun cdv A outer s H vs Q E hr h => ?_)
  · obtain ⟨i, d, rfl, _⟩ := h
    rfl
  obtain ⟨i, d, rfl, h1, h2, d1, d2, q⟩ := h
  refine ⟨_, (pss_cons (ps_expr (pe_fn H_need_signed_divisor (hr.mono (by omega)) rfl (pa_cons (pv 0) (pa_cons (pv 1) pa_nil))))
    (pss_cons (ps_set (i := 2) sc_signed_candidates.nd rfl (Or.inl rfl) (pe_lst pa_nil))
    (pss_cons (ps_for PassesOwn.never rfl (pi_range1 rfl T.n_range (pa_cons (pe_op op_add (pe_bm0 PySem.F.plainAttrs_int PySem.F.slot_int_bit_length PySem.F.type_int_bit_length mt_bits (pe_op op_sub (pv 1) pe_int)) pe_int) pa_nil)) (pg_name (i := 3) sc_signed_candidates.nd rfl (Or.inl rfl))
      (pss_cons (ps_set (i := 4) sc_signed_candidates.nd rfl (Or.inl rfl) (pe_op op_add (pe_op op_fdivB (pe_op op_shl pe_int (pe_op op_add (pv 0) (pv 3))) (pv 1)) pe_int))
      (pss_one (ps_if (pt_cmpR op_lt (pv 4) (pe_op op_shl pe_int (pv 0)) (nomark _))
        (pss_one (ps_expr (pe_bm PySem.F.plainAttrs_list PySem.F.slot_list_append PySem.F.type_list_append mt_append (pv 2) (pa_cons (pe_mkP C_Cutting (hr.mono (by omega)) rfl (pa_cons (pv 4) (pa_cons (pv 3) pa_nil))) pa_nil))))
        pss_nil))))
    (pss_cons (ps_expr (pe_bm PySem.F.plainAttrs_list PySem.F.slot_list_extend PySem.F.type_list_extend mt_extend (pv 2) (pa_cons (pe_comp0 rfl (by first | rfl | with_unfolding_all rfl) (by decide +kernel) rfl (by decide +kernel) rfl (pi_list (pe_fn H_candidates (hr.mono (by omega)) rfl (pa_cons (pv 0) (pa_cons (pv 1) pa_nil)))) (fun C s2 H2 fp => (pe_mkP C_Turned (hr.mono (by omega)) rfl (pa_cons (pv 0) pa_nil)))) pa_nil)))
    (pss_one (ps_ret (pv 2))))))), ?_⟩
  have pb := pw_bounds h1 h2
  obtain ⟨d3, e2⟩ := half_lt h1 d2
  have lb := (bl_32 h2 d1 d3).1
  have L100 : (1000 : Nat) ≤ sizeLine := by decide
  refine ⟨_, rfl, _, rfl, i, d, rfl, h1, h2, d1, d2, (by show 0 ≤ sizeLine; decide), fun l hl => ?_⟩
  refine ⟨_, rfl, _, _, rfl, rfl, ty_int, _, rfl, rfl, _, _, rfl, rfl, _, rfl, (by omega), (by omega), for_range (fun n σ H2 => ∃ y1 y2 : Option V, σ = [some (.int i), some (.int d), some (.ref l), y1, y2] ∧ (∃ ps : List Addr, H2 l = some (.lst (ps.map V.ref)) ∧ QL (SFO c) H2 ps (cCu (1 * 2 ^ i.toNat) d n)) ∧ Same H H2) ⟨_, _, rfl, ⟨[], upd_same, QL.nil⟩, same_new hl _⟩ ?_ ?_⟩
  · rintro n σ H2 hn ⟨y1, y2, rfl, ⟨ps, hp, pl⟩, sm⟩
    have ep : (1 : Int) * 2 ^ (i + (0 + (n : Int))).toNat = 1 * 2 ^ i.toNat * 2 ^ n := by rw [show (i + (0 + (n : Int))).toNat = i.toNat + n by omega, Int.pow_add, Int.mul_assoc]
    have ub := pw_up h1 h2 (show n ≤ 32 by omega)
    have fl0 : 0 ≤ (1 : Int) * 2 ^ i.toNat * 2 ^ n / d := Int.ediv_nonneg (by omega) (by omega)
    walk_at "o"
    rw [ep]
    have cl := cCu_len (1 * 2 ^ i.toNat) d n
    rw [← pl.1] at cl
    walk_at "c" <;> intro c0
    · refine ⟨_, rfl, .inl ⟨rfl, _, SqL.of hp⟩, _, rfl, _, rfl, fun x dx hx hdx hne => ⟨x, dx, _, _, rfl, upd_same, by omega, by omega, by omega, by omega, fun H' s' fo => ⟨rfl, ?_⟩⟩⟩
      have sM := made_same hx hdx s'
      refine ⟨l, _, _, rfl, rfl, sM _ _ hp, (by rw [List.length_map]; omega), _, _, rfl, ⟨ps ++ [x], (by rw [upd_same, List.map_append]; rfl), ?_⟩, Same.updL (sm.trans sM) hl⟩
      rw [cCu_succ, if_pos c0]
      have fx : SFO c H' x (.cut (1 * 2 ^ i.toNat * 2 ^ n / d + 1) (n : Int)) := by
        have e0 : (0 : Int) + (n : Int) = n := by omega
        rw [e0] at fo
        exact fo
      exact ((pl.mono fun p x q => q.same sM).snoc fx).updS (sM _ _ hp)
    · refine ⟨_, _, rfl, ⟨ps, hp, ?_⟩, sm⟩
      rw [cCu_succ, if_neg c0, List.append_nil]
      exact pl
  · rintro σ H2 ⟨y1, y2, rfl, ⟨ps, hp, pl⟩, sm⟩
    rw [show ((intBits (d - 1) : Int) + 1).toNat = intBits (d - 1) + 1 by omega] at pl
    refine ⟨_, rfl, .inl ⟨rfl, _, SqL.of hp⟩, ?_⟩
    refine ⟨_, rfl, _, rfl, i, d, rfl, h1, h2, d1, d3, fun t b H3 tw b0 ⟨qs, hq, ql⟩ s3 => ⟨b, rfl, ⟨_, SqL.of hq⟩, fun D hD => ?_⟩⟩
    have fm := cAll_fm h1 h2 d1 d3 tw
    have ln := (cAll_len h1 h2 d1 d3 tw).1
    have qn := ql.1
    refine comp_list (xs := qs.map V.ref) (fun n HJ => ∃ rs : List Addr, HJ D = some (.lst (rs.map V.ref)) ∧ QL (SFO c) HJ rs (((cAll (1 * 2 ^ i.toNat) d t).take n).map toS) ∧ Same H3 HJ) ⟨[], upd_same, QL.nil, same_new hD _⟩ ?_ ?_ ?_
    · rintro n HJ hn ⟨rs, hrr, rl, sJ⟩
      exact SqL.of (sJ _ _ hq)
    · rintro n v HJ hv ⟨rs, hrr, rl, sJ⟩
      rw [List.getElem?_map] at hv
      cases e1 : qs[n]? with
      | none => rw [e1] at hv; cases hv
      | some p =>
        rw [e1] at hv
        cases hv
        have np := (List.getElem?_eq_some_iff.mp e1).1
        obtain ⟨x, ex⟩ : ∃ x, (cAll (1 * 2 ^ i.toNat) d t)[n]? = some x := ⟨_, List.getElem?_eq_getElem (by rw [← ql.1]; exact np)⟩
        have k5 := (fm x (List.mem_of_getElem? ex)).1.k
        have fx := (ql.2 n p x e1 ex).same sJ
        have rn := rl.1
        rw [List.length_map, List.length_take] at rn
        refine ⟨_, rfl, fun y dy hy hdy hne => ?_⟩
        have npy : p ≠ y := fun z => by obtain ⟨dx, h⟩ := fx; rw [z, hy] at h; cases h
        have npd : p ≠ dy := fun z => by obtain ⟨dx, h⟩ := fx; rw [z, hdy] at h; cases h
        refine ⟨y, dy, p, x.kd, x.e, x.f, x.s, rfl, upd_same, ?_, k5, npy, fun H' s' fo => ⟨rfl, ?_⟩⟩
        · obtain ⟨dx, h⟩ := fx
          exact ⟨dx, by rw [upd_ne npy, upd_ne npd]; exact h⟩
        have sM := made_same hy hdy s'
        refine ⟨_, sM _ _ hrr, (by rw [List.length_map]; omega), (qs.map V.ref).length - (n + 1), (by rw [List.length_map]; omega), rfl, (by rw [List.length_map]; omega), rs ++ [y], (by rw [upd_same, List.map_append]; rfl), ?_, Same.updL (sJ.trans sM) hD⟩
        rw [List.take_succ, ex, List.map_append]
        exact ((rl.mono fun _ _ q => q.same sM).snoc fo).updS (sM _ _ hrr)
    · rintro HJ ⟨rs, hrr, rl, sJ⟩
      rw [List.length_map, ql.1, List.take_length] at rl
      have s2J := s3.trans sJ
      have rn := rl.1
      rw [List.length_map] at rn
      have cl := cCu_len (1 * 2 ^ i.toNat) d (intBits (d - 1) + 1)
      rw [← pl.1] at cl
      refine ⟨l, D, _, _, rfl, rfl, s2J _ _ hp, hrr, (by rw [List.length_map, List.length_map]; omega), _, rfl, q t l _ tw hl ⟨ps ++ rs, (by rw [upd_same, List.map_append]), ?_⟩ (Same.updL (sm.trans s2J) hl)⟩
      exact ((pl.mono fun _ _ q => q.same s2J).append rl).updS (s2J _ _ hp)
theorem ok__law_all_signed {f : Addr} {fd : FuncData} (F : Fun K "_law_all_signed" "_law_all_signed" s__law_all_signed f fd) (T : Txt K mg c) (H__law_all : Has P w K mg base 2 "_law_all" ["_law_width", "_law_d"] spAllT) : FnOk P w K mg base CX0 3 f fd ["_law_width", "_law_d"] spAllSg := by
  refine F.ok sc__law_all_signed (fun vs H Q E h => ?_) (fun cdv A outer s H vs Q E hr h => ?_)
  · obtain ⟨i, d, rfl, _⟩ := h
    rfl
  obtain ⟨i, d, rfl, h1, h2, d1, d2, q⟩ := h
  refine ⟨_, (pss_cons (ps_set (i := 2) sc__law_all_signed.nd rfl (Or.inl rfl) (pe_lst pa_nil))
    (pss_cons (ps_for PassesOwn.never rfl (pi_range1 rfl T.n_range (pa_cons (pe_op op_add (pe_bm0 PySem.F.plainAttrs_int PySem.F.slot_int_bit_length PySem.F.type_int_bit_length mt_bits (pe_op op_sub (pv 1) pe_int)) pe_int) pa_nil)) (pg_name (i := 3) sc__law_all_signed.nd rfl (Or.inl rfl))
      (pss_cons (ps_set (i := 4) sc__law_all_signed.nd rfl (Or.inl rfl) (pe_op op_add (pe_op op_fdivB (pe_op op_shl pe_int (pe_op op_add (pv 0) (pv 3))) (pv 1)) pe_int))
      (pss_one (ps_if (pt_cmpR op_lt (pv 4) (pe_op op_shl pe_int (pv 0)) (nomark _))
        (pss_one (ps_expr (pe_bm PySem.F.plainAttrs_list PySem.F.slot_list_append PySem.F.type_list_append mt_append (pv 2) (pa_cons (pe_tup (pa_cons pe_str (pa_cons (pv 4) (pa_cons (pv 3) pa_nil)))) pa_nil))))
        pss_nil))))
    (pss_cons (ps_for PassesOwn.never rfl (pi_list (pe_fn H__law_all (hr.mono (by omega)) rfl (pa_cons (pv 0) (pa_cons (pv 1) pa_nil)))) (pg_name (i := 5) sc__law_all_signed.nd rfl (Or.inl rfl))
      (pss_one (ps_expr (pe_bm PySem.F.plainAttrs_list PySem.F.slot_list_append PySem.F.type_list_append mt_append (pv 2) (pa_cons (pe_tup (pa_cons pe_str (pa_cons (pv 5) pa_nil))) pa_nil)))))
    (pss_one (ps_ret (pv 2)))))), ?_⟩
  have pb := pw_bounds h1 h2
  obtain ⟨d3, e2⟩ := half_lt h1 d2
  have lb := (bl_32 h2 d1 d3).1
  have L100 : (1000 : Nat) ≤ sizeLine := by decide
  refine ⟨(by show 0 ≤ sizeLine; decide), fun l hl => ?_⟩
  refine ⟨_, rfl, _, _, rfl, rfl, ty_int, _, rfl, rfl, _, _, rfl, rfl, _, rfl, (by omega), (by omega), for_range (fun n σ H2 => ∃ y1 y2 y3 : Option V, σ = [some (.int i), some (.int d), some (.ref l), y1, y2, y3] ∧ (∃ ps : List Addr, H2 l = some (.lst (ps.map V.ref)) ∧ QL STd H2 ps (cCu (1 * 2 ^ i.toNat) d n)) ∧ Same H H2) ⟨_, _, _, rfl, ⟨[], upd_same, QL.nil⟩, same_new hl _⟩ ?_ ?_⟩
  · rintro n σ H2 hn ⟨y1, y2, y3, rfl, ⟨ps, hp, pl⟩, sm⟩
    have ep : (1 : Int) * 2 ^ (i + (0 + (n : Int))).toNat = 1 * 2 ^ i.toNat * 2 ^ n := by rw [show (i + (0 + (n : Int))).toNat = i.toNat + n by omega, Int.pow_add, Int.mul_assoc]
    have ub := pw_up h1 h2 (show n ≤ 32 by omega)
    have fl0 : 0 ≤ (1 : Int) * 2 ^ i.toNat * 2 ^ n / d := Int.ediv_nonneg (by omega) (by omega)
    walk_at "o"
    rw [ep]
    have cl := cCu_len (1 * 2 ^ i.toNat) d n
    rw [← pl.1] at cl
    walk_at "c" <;> intro c0
    · refine ⟨_, rfl, .inl ⟨rfl, _, SqL.of hp⟩, _, rfl, _, rfl, (by show 3 ≤ sizeLine; decide), fun r hr' => ?_⟩
      have e0 : (0 : Int) + (n : Int) = n := by omega
      have sM := same_new hr' (.tup [.str "cutting", .int (1 * 2 ^ i.toNat * 2 ^ n / d + 1), .int (0 + (n : Int))])
      refine ⟨l, _, _, rfl, rfl, sM _ _ hp, (by rw [List.length_map]; omega), _, _, _, rfl, ⟨ps ++ [r], (by rw [upd_same, List.map_append]; rfl), ?_⟩, Same.updL (sm.trans sM) hl⟩
      rw [cCu_succ, if_pos c0]
      have fx : STd (upd H2 r (.tup [.str "cutting", .int (1 * 2 ^ i.toNat * 2 ^ n / d + 1), .int (0 + (n : Int))])) r (.cut (1 * 2 ^ i.toNat * 2 ^ n / d + 1) (n : Int)) := by
        show upd H2 r _ r = _
        rw [upd_same, e0]
      exact ((pl.mono fun p x q => q.same sM).snoc fx).updT (sM _ _ hp)
    · refine ⟨_, _, _, rfl, ⟨ps, hp, ?_⟩, sm⟩
      rw [cCu_succ, if_neg c0, List.append_nil]
      exact pl
  · rintro σ H2 ⟨y1, y2, y3, rfl, ⟨ps, hp, pl⟩, sm⟩
    rw [show ((intBits (d - 1) : Int) + 1).toNat = intBits (d - 1) + 1 by omega] at pl
    refine ⟨_, rfl, _, rfl, i, d, rfl, h1, h2, d1, d3, fun t b H3 tw b0 ⟨qs, hq, ql⟩ s3 => ?_⟩
    have ln := (cAll_len h1 h2 d1 d3 tw).1
    have qn := ql.1
    have cl := cCu_len (1 * 2 ^ i.toNat) d (intBits (d - 1) + 1)
    have hbl : b ≠ l := fun z => by rw [z, hp] at b0; cases b0
    refine ⟨b, rfl, ⟨_, SqL.of hq⟩, for_list (xs := qs.map V.ref) (fun n σ HJ => ∃ y1 y2 y3 : Option V, σ = [some (.int i), some (.int d), some (.ref l), y1, y2, y3] ∧ (∃ rs : List Addr, HJ l = some (.lst (rs.map V.ref)) ∧ QL STd HJ rs (cCu (1 * 2 ^ i.toNat) d (intBits (d - 1) + 1) ++ ((cAll (1 * 2 ^ i.toNat) d t).take n).map toS)) ∧ HJ b = some (.lst (qs.map V.ref)) ∧ (∀ (n : Nat) p x, qs[n]? = some p → (cAll (1 * 2 ^ i.toNat) d t)[n]? = some x → TR HJ p x) ∧ Same H HJ) ⟨_, _, _, rfl, ⟨ps, s3 _ _ hp, (by rw [List.take_zero, List.map_nil, List.append_nil]; exact pl.mono fun _ _ q => q.same s3)⟩, hq, ql.2, sm.trans s3⟩ (fun n σ HJ _ ⟨_, _, _, _, _, hb, _⟩ => SqL.of hb) ?_ ?_⟩
    · rintro n v σ HJ hv ⟨y1, y2, y3, rfl, ⟨rs, hrr, rl⟩, hb, tr, sJ⟩
      rw [List.getElem?_map] at hv
      cases e1 : qs[n]? with
      | none => rw [e1] at hv; cases hv
      | some p =>
        rw [e1] at hv
        cases hv
        have np := (List.getElem?_eq_some_iff.mp e1).1
        obtain ⟨x, ex⟩ : ∃ x, (cAll (1 * 2 ^ i.toNat) d t)[n]? = some x := ⟨_, List.getElem?_eq_getElem (by rw [← ql.1]; exact np)⟩
        have tx := tr n p x e1 ex
        have rn := rl.1
        rw [List.length_append, List.length_map, List.length_take] at rn
        refine ⟨_, rfl, .inl ⟨rfl, _, SqL.of hrr⟩, _, rfl, (by show 2 ≤ sizeLine; decide), fun r hr' => ?_⟩
        have sM := same_new hr' (.tup [.str "turned", .ref p])
        refine ⟨l, _, _, rfl, rfl, sM _ _ hrr, (by rw [List.length_map]; omega), _, _, _, rfl, ⟨rs ++ [r], (by rw [upd_same, List.map_append]; rfl), ?_⟩, (by rw [upd_ne hbl]; exact sM _ _ hb), fun m p' x' a1 a2 => ?_, Same.updL (sJ.trans sM) hl⟩
        · rw [List.take_succ, ex, List.map_append, ← List.append_assoc]
          have fx : STd (upd HJ r (.tup [.str "turned", .ref p])) r (toS x) := ⟨p, upd_same, sM _ _ tx⟩
          exact ((rl.mono fun _ _ q => q.same sM).snoc fx).updT (sM _ _ hrr)
        · have := sM _ _ (tr m p' x' a1 a2)
          show upd _ l _ p' = _
          rw [upd_ne (fun z => by rw [z, sM _ _ hrr] at this; cases this)]
          exact this
    · rintro σ HJ ⟨y1, y2, y3, rfl, ⟨rs, hrr, rl⟩, hb, tr, sJ⟩
      rw [List.length_map, ql.1, List.take_length] at rl
      exact ⟨_, rfl, q t l HJ tw hl ⟨rs, hrr, rl⟩ sJ⟩
theorem ok__law_made_signed {f : Addr} {fd : FuncData} (F : Fun K "_law_made_signed" "_law_made_signed" s__law_made_signed f fd) (T : Txt K mg c) (H__law_made_of : Has P w K mg base 1 "_law_made_of" ["_law_told"] spMO) : FnOk P w K mg base CX0 2 f fd ["_law_told"] spMS := by
  refine F.ok sc__law_made_signed (fun vs H Q E h => ?_) (fun cdv A outer s H vs Q E hr h => ?_)
  · obtain ⟨r, sd, rfl, _⟩ := h
    rfl
  obtain ⟨r, sd, rfl, st, ok, q⟩ := h
  refine ⟨_, (pss_cons (ps_if (pt_cmpR op_eq (pe_ix ix_tup (pv 0) pe_int (fun _ _ => rfl)) pe_str (nomark _))
      (pss_one (ps_ret (pe_op op_addL (pe_op op_addL (pe_lst (pa_cons pe_str (pa_cons pe_str (pa_cons pe_str (pa_cons pe_str pa_nil))))) (pe_fn H__law_made_of (hr.mono (by omega)) rfl (pa_cons (pe_ix ix_tup (pv 0) pe_int (fun _ _ => rfl)) pa_nil))) (pe_lst (pa_cons pe_str (pa_cons pe_str pa_nil))))))
      pss_nil)
    (pss_cons (ps_if (pt_cmpR op_gt (pe_ix ix_tup (pv 0) pe_int (fun _ _ => rfl)) pe_int (nomark _))
      (pss_one (ps_ret (slO (pe_lstS (pa_consS pe_str (pa_consS pe_str (pa_consS pe_str (pa_consS pe_str (pa_consS pe_str (pa_consS pe_str (pa_consS pe_str (pa_consS pe_str pa_nilS))))))))))))
      pss_nil)
    (pss_one (ps_ret (slO (pe_lstS (pa_consS pe_str (pa_consS pe_str (pa_consS pe_str (pa_consS pe_str (pa_consS pe_str (pa_consS pe_str (pa_consS pe_str pa_nilS))))))))))))), ?_⟩
  cases sd with
  | cut f k =>
    have ht : H r = some (.tup [.str "cutting", .int f, .int k]) := st
    refine ⟨_, rfl, r, _, _, _, rfl, rfl, SqT.of ht, rfl, rfl, _, rfl, iteDN (by walk_at "n") ?_⟩
    refine ⟨_, rfl, r, _, _, _, rfl, rfl, SqT.of ht, rfl, _, _, rfl, rfl, _, rfl, ?_⟩
    have k0 : 0 ≤ k := ok.2.2.1
    walk_at "c" <;> intro c0
    · refine ⟨(by show 8 ≤ sizeLine; decide), fun l hl => q l _ hl ?_ (same_new hl _)⟩
      rw [upd_same]
      show _ = some (HO.lst (((["set", "high", "right", "gap", "and", "gap"] : List Str) ++ ((if k = 0 then ([] : List Str) else ["slide"]) ++ (["sum"] : List Str))).map V.str))
      rw [if_neg (show ¬ k = 0 by omega)]
      rfl
    · refine ⟨(by show 7 ≤ sizeLine; decide), fun l hl => q l _ hl ?_ (same_new hl _)⟩
      rw [upd_same]
      show _ = some (HO.lst (((["set", "high", "right", "gap", "and", "gap"] : List Str) ++ ((if k = 0 then ([] : List Str) else ["slide"]) ++ (["sum"] : List Str))).map V.str))
      rw [if_pos (show k = 0 by omega)]
      rfl
  | turn kd e f t =>
    obtain ⟨u, ht, hu⟩ := st
    refine ⟨_, rfl, r, _, _, _, rfl, rfl, SqT.of ht, rfl, rfl, _, rfl, iteD rfl ?_⟩
    refine ⟨(by show 4 ≤ sizeLine; decide), fun l0 h0 => ?_⟩
    have s0 := same_new h0 (.lst ((["right", "gap", "unlike", "gap"] : List Str).map V.str))
    have l0' : upd H l0 (.lst ((["right", "gap", "unlike", "gap"] : List Str).map V.str)) l0 = some (.lst ((["right", "gap", "unlike", "gap"] : List Str).map V.str)) := upd_same
    refine ⟨_, rfl, r, _, _, _, rfl, rfl, SqT.of (s0 _ _ ht), rfl, u, kd, e, f, t, rfl, s0 _ _ hu, ok, fun l1 H1 h1 l1' s1 => ?_⟩
    have l6 := fw_len (kd := kd) (s := t)
    refine ⟨l0, l1, _, _, rfl, rfl, SqL.of (s1 _ _ l0'), SqL.of l1', (by rw [List.length_map, List.length_map]; exact Nat.le_trans (show 4 + (fw kd t).length ≤ 10 by omega) (by decide)), fun l2 h2 => ?_⟩
    have s2 := same_new h2 (.lst ((["right", "gap", "unlike", "gap"] : List Str).map V.str ++ (fw kd t).map V.str))
    refine ⟨(by show 2 ≤ sizeLine; decide), fun l3 h3 => ?_⟩
    have s3 := same_new h3 (.lst ((["unlike", "gap"] : List Str).map V.str))
    refine ⟨l2, l3, _, _, rfl, rfl, SqL.of (s3 _ _ upd_same), SqL.of upd_same, (by rw [List.length_append, List.length_map, List.length_map]; exact Nat.le_trans (show 4 + (fw kd t).length + 2 ≤ 12 by omega) (by decide)), fun l4 h4 => ?_⟩
    have sA := ((s0.trans s1).trans s2).trans s3
    refine q l4 _ (sA.free h4) ?_ (sA.trans (same_new h4 _))
    rw [upd_same]
    unfold sw
    rw [List.map_append, List.map_append]
    rfl
theorem iteB {b : Bool} {A B : Prop} (h : b = false) (k : B) : if b = true then A else B := by rw [h]; exact iteF k
theorem allT1 (n : Nat) : (List.range n).all (fun _ => true) = true := List.all_eq_true.mpr fun _ _ => rfl
theorem eq_flat {K : PySem.W.Frag} {H : Hp} {d : Nat} {v : V} (h1 : flatV v = true) (h2 : eqV v v = true) : EqD K H d v v true := by
  have z := EqD.flat (K := K) (H := H) (d := d) (x := v) (y := v) h1 h1
  rwa [h2] at z
theorem eq_str {K : PySem.W.Frag} {H : Hp} {d : Nat} {x : Str} : EqD K H d (.str x) (.str x) true := eq_flat rfl (by simp [eqV])
theorem eq_int {K : PySem.W.Frag} {H : Hp} {d : Nat} {x : Int} : EqD K H d (.int x) (.int x) true := eq_flat rfl (by simp [eqV])
theorem eq_tlv {K : PySem.W.Frag} {H : Hp} {kd : Nat} {e f s : Int} {p q : Addr} (hp : H p = some (.tup (tlv kd e f s))) (hq : H q = some (.tup (tlv kd e f s))) : EqD K H 1 (.ref p) (.ref q) true := by
  by_cases h : p = q
  · subst h
    exact EqD.same
  · have z := EqD.tup (K := K) (H := H) (d := 0) (e := fun _ => true) h (SqT.of hp) (SqT.of hq) (fun j j1 j2 => ?_)
    · rw [allT1, Bool.true_and, beq_self_eq_true] at z
      exact z
    · obtain ⟨a1, a2⟩ := eqTl kd e f s
      have fl := List.all_eq_true.mp a2 ((tlv kd e f s).getD j .non) (by rw [List.getD_eq_getElem?_getD, List.getElem?_eq_getElem j1]; exact List.getElem_mem j1)
      refine eq_flat fl ?_
      generalize (tlv kd e f s).getD j .non = v at fl
      cases v <;> first | (simp [eqV]; done) | rfl | cases fl
theorem ok__law_agree {f : Addr} {fd : FuncData} (F : Fun K "_law_agree" "_law_agree" s__law_agree f fd) (T : Txt K mg c)  (MTS : ∀ i, i < 2 → MHas P w K mg base 3 (sOf c i) "told" ["self"] (spSTold c i)) : FnOk P w K mg base CX0 4 f fd ["_law_found", "_law_due"] (spAgrS c) := by
  refine F.ok sc__law_agree (fun vs H Q E h => ?_) (fun cdv A outer s H vs Q E hr h => ?_)
  · obtain ⟨l, m, xs, rfl, _⟩ := h
    rfl
  obtain ⟨l, m, xs, rfl, ⟨ps, hp, pl⟩, ⟨ts, ht, tl⟩, ln, kb, q⟩ := h
  refine ⟨_, (pss_cons (ps_if (PW.pt (pw_or (pt_not (pt_val (pe_callB call_isinst rfl T.n_isinstance boot_isinstance (pa_cons (pv 0) (pa_cons (pe_ty rfl T.n_list boot_list) pa_nil))))) (pw_or1 (pt_cmpR op_ne (pe_callB call_len_seq rfl T.n_len boot_len (pa_cons (pv 0) pa_nil)) (pe_callB call_len_seq rfl T.n_len boot_len (pa_cons (pv 1) pa_nil)) (nomark _)))))
      (pss_one (ps_ret pe_bl))
      pss_nil)
    (pss_cons (ps_for PassesOwn.never rfl (pi_zipL rfl T.n_zip (pa_cons (pv 0) (pa_cons (pv 1) pa_nil))) (pg_tup rfl (pgs_cons (pg_name (i := 2) sc__law_agree.nd rfl (Or.inl rfl)) (pgs_cons (pg_name (i := 3) sc__law_agree.nd rfl (Or.inl rfl)) pgs_nil)))
      (pss_cons (ps_if (PW.pt (pw_or (pt_not (pt_val (pe_callB call_isinst rfl T.n_isinstance boot_isinstance (pa_cons (pv 2) (pa_cons (pe_cls rfl T.g_SignedForm) pa_nil))))) (pw_or1 (pt_cmpR (op_neTD (d := 1) (hu2 hr)) (pe_methP0 (k := 3) (pv 2) (hr.mono (by omega))) (pv 3) (nomark _)))))
        (pss_one (ps_ret pe_bl))
        pss_nil)
      (pss_one (ps_if (PW.pt (pw_or (pt_cmpR op_ne (pe_callB call_isinst rfl T.n_isinstance boot_isinstance (pa_cons (pv 2) (pa_cons (pe_cls rfl T.g_Cutting) pa_nil))) (pe_cmpR op_eq (pe_ix ix_tup (pv 3) pe_int (fun _ _ => rfl)) pe_str (nomark _)) (nomark _)) (pw_or1 (pt_cmpR op_ne (pe_callB call_isinst rfl T.n_isinstance boot_isinstance (pa_cons (pv 2) (pa_cons (pe_cls rfl T.g_Turned) pa_nil))) (pe_cmpR op_eq (pe_ix ix_tup (pv 3) pe_int (fun _ _ => rfl)) pe_str (nomark _)) (nomark _)))))
        (pss_one (ps_ret pe_bl))
        pss_nil))))
    (pss_one (ps_ret pe_bl)))), ?_⟩
  have el : (ps.map V.ref).length = (ts.map V.ref).length := by rw [List.length_map, List.length_map, pl.1, tl.1]
  refine ⟨_, rfl, _, _, _, _, _, rfl, rfl, TyOf.lst hp, rfl, _, rfl, iteF ?_⟩
  refine ⟨_, rfl, l, _, rfl, .inl (SqL.of hp), _, rfl, m, _, rfl, .inl (SqL.of ht), rfl, _, rfl, iteNS (by rw [el]) ?_⟩
  refine ⟨_, rfl, _, rfl, l, m, _, _, rfl, SqL.of hp, SqL.of ht, for_zipL (xs := ps.map V.ref) (ys := ts.map V.ref) (fun n σ H2 => ∃ y1 y2 : Option V, σ = [some (.ref l), some (.ref m), y1, y2] ∧ Same H H2) ⟨_, _, rfl, Same.refl _⟩ ?_ el ?_ ?_⟩
  · rintro n σ H2 ⟨y1, y2, rfl, s2⟩
    exact ⟨SqL.of (s2 _ _ hp), SqL.of (s2 _ _ ht)⟩
  · rintro n vx vy σ H2 hx hy ⟨y1, y2, rfl, s2⟩ z hz
    rw [List.getElem?_map] at hx hy
    cases e1 : ps[n]? with
    | none => rw [e1] at hx; cases hx
    | some p =>
      cases e2 : ts[n]? with
      | none => rw [e2] at hy; cases hy
      | some t =>
        rw [e1] at hx
        rw [e2] at hy
        cases hx
        cases hy
        obtain ⟨sd, ex⟩ : ∃ x, xs[n]? = some x := ⟨_, List.getElem?_eq_getElem (by rw [← pl.1]; exact (List.getElem?_eq_some_iff.mp e1).1)⟩
        have sz := s2.trans (same_new hz (.tup [.ref p, .ref t]))
        have fp := (pl.2 n p sd e1 ex).same sz
        have tp := (tl.2 n t sd e2 ex).same sz
        have ok := kb sd (List.mem_of_getElem? ex)
        obtain ⟨dx, fs, hx, lk, _⟩ := fp.ob2
        obtain ⟨i0, i1, i2⟩ := T.isS sd
        refine ⟨z, _, rfl, SqT.of upd_same, rfl, _, _, rfl, _, _, rfl, rfl, ?_⟩
        refine ⟨_, rfl, _, _, _, _, _, rfl, rfl, T.tyS fp, i0, _, rfl, iteF ?_⟩
        refine ⟨_, rfl, p, _, dx, _, _, _, rfl, hx, lk, MTS sd.ix sd.ix2, p, sd, rfl, rfl, fp, ok, fun r H' rn st s' => ?_⟩
        have tp' := tp.same s'
        have fp' := fp.same s'
        have ty := T.tyS fp'
        have fin : ∃ y1 y2 : Option V, ([some (.ref l), some (.ref m), some (.ref p), some (.ref t)] : L2.St) = [some (.ref l), some (.ref m), y1, y2] ∧ Same H H' := ⟨_, _, rfl, sz.trans s'⟩
        cases sd with
        | cut f k =>
          have h1 : H' r = some (.tup [.str "cutting", .int f, .int k]) := st
          have h2 : H' t = some (.tup [.str "cutting", .int f, .int k]) := tp'
          refine ⟨_, rfl, r, t, _, _, fun _ => true, rfl, rfl, SqT.of h1, SqT.of h2, fun j j1 j2 => ?_, _, rfl, iteF ?_⟩
          · have : j < 3 := j1
            rcases (by omega : j = 0 ∨ j = 1 ∨ j = 2) with rfl | rfl | rfl
            · exact eq_str
            · exact eq_int
            · exact eq_int
          refine ⟨_, rfl, _, _, _, _, _, rfl, rfl, ty, i1, _, rfl, t, _, _, _, rfl, rfl, SqT.of h2, rfl, rfl, rfl, _, rfl, iteNS ?_ ?_⟩
          · rfl
          refine ⟨_, rfl, _, _, _, _, _, rfl, rfl, ty, i2, _, rfl, t, _, _, _, rfl, rfl, SqT.of h2, rfl, rfl, rfl, _, rfl, iteNS ?_ ?_⟩
          · rw [decide_eq_false (by walk_at "n")]
            rfl
          exact fin
        | turn kd e f t' =>
          obtain ⟨u1, h1, g1⟩ := st
          obtain ⟨u2, h2, g2⟩ := tp'
          refine ⟨_, rfl, r, t, _, _, fun _ => true, rfl, rfl, SqT.of h1, SqT.of h2, fun j j1 j2 => ?_, _, rfl, iteF ?_⟩
          · have : j < 2 := j1
            rcases (by omega : j = 0 ∨ j = 1) with rfl | rfl
            · exact eq_str
            · exact eq_tlv g1 g2
          refine ⟨_, rfl, _, _, _, _, _, rfl, rfl, ty, i1, _, rfl, t, _, _, _, rfl, rfl, SqT.of h2, rfl, rfl, rfl, _, rfl, iteNS ?_ ?_⟩
          · rw [decide_eq_false (by walk_at "n")]
            rfl
          refine ⟨_, rfl, _, _, _, _, _, rfl, rfl, ty, i2, _, rfl, t, _, _, _, rfl, rfl, SqT.of h2, rfl, rfl, rfl, _, rfl, iteNS ?_ ?_⟩
          · rfl
          exact fin
  · rintro σ H2 ⟨y1, y2, rfl, s2⟩
    exact q _ s2
theorem ok__law_refuses {f : Addr} {fd : FuncData} (F : Fun K "_law_refuses" "_law_refuses" s__law_refuses f fd) (T : Txt K mg c) (H_price_of_signed : HasY P w K mg base 5 "price_of_signed" ["form", "prices"] (spPS c)) : FnOk P w K mg base CX0 6 f fd ["_law_form", "_law_prices_here"] (spRefuS c) := by
  refine F.ok sc__law_refuses (fun vs H Q E h => ?_) (fun cdv A outer s H vs Q E hr h => ?_)
  · obtain ⟨x, sd, p, rfl, _⟩ := h
    rfl
  obtain ⟨x, sd, p, rfl, fo, ok, th, df, ng, rp, q⟩ := h
  refine ⟨_, (pss_cons (ps_tryY (j := 2) (fun pins E => (pss_one (ps_expr (pe_fnYT H_price_of_signed (hr.mono (by omega)) rfl (pa_cons (pv 0) (pa_cons (pv 1) pa_nil)))))) sc__law_refuses.nd rfl T.g_NoPrices rfl rfl (fun a oe => (pss_one (ps_ret (pe_cmpR op_eq (pe_callB (call_reprD hr.gd (by have := hu64 hr; exact this)) rfl T.n_repr boot_repr (pa_cons (pe_xf (a := a) (oe := oe) (List.mem_cons_self ..) (pv 2) rfl) pa_nil)) (pe_callB (call_reprD hr.gd (by have := hu64 hr; exact this)) rfl T.n_repr boot_repr (pa_cons (pv 1) pa_nil)) (nomark _))))))
    (pss_one (ps_ret pe_bl))), ?_⟩
  have exf : ExF K c.NoPrices := ⟨T.kf_ga, T.kf_gn, T.kf_gc, T.kf_mo, T.kf_mb⟩
  have ex1 : PySem.W.exmOne K (.ref c.NoPrices) (.ref c.NoPrices) = some true := exm_of T.kf_xc T.kf_xt T.kf_xm T.kf_xb
  refine ⟨_, rfl, _, rfl, x, sd, p, rfl, fo, ok, th, df, fun a kvs ep h g => absurd ⟨a, kvs, ep, h, g⟩ ng, fun _ d H1 hd s1 => ⟨ex1, fun ea oe hcl hdi hnc hea => ?_⟩⟩
  obtain ⟨dt, r1, r2, r3, r4⟩ := rp.same s1
  refine ⟨_, rfl, c.NoPrices, d, _, _, rfl, hcl, hdi, hnc, exf, T.kf_hd, T.kf_nf, hd, rfl, p, dt, rfl, r1, r2, r3, r4, _, rfl, p, dt, rfl, r1, r2, r3, r4, rfl, ?_⟩
  rw [decide_eq_true rfl]
  exact q H1 s1
theorem all_str {K : PySem.W.Frag} {H : Hp} (l : List Str) (j : Nat) (h : j < (l.map V.str).length) : EqD K H 0 ((l.map V.str).getD j .non) ((l.map V.str).getD j .non) true := by
  have e : (l.map V.str).getD j .non = .str (l[j]'(by simpa using h)) := by rw [List.getD_eq_getElem?_getD, List.getElem?_map, List.getElem?_eq_getElem (by simpa using h)]; rfl
  rw [e]
  exact eq_str
theorem ok__law_costs {f : Addr} {fd : FuncData} (F : Fun K "_law_costs" "_law_costs" s__law_costs f fd) (T : Txt K mg c) (H__law_made_signed : Has P w K mg base 2 "_law_made_signed" ["_law_told"] spMS) (H_signed_words : Has P w K mg base 4 "signed_words" ["form"] (spSW c)) (H_price_of_signed : HasY P w K mg base 5 "price_of_signed" ["form", "prices"] (spPS c)) (H__law_whole : Has P w K mg base 1 "_law_whole" ["_law_found"] spWholeG) : FnOk P w K mg base CX0 6 f fd ["_law_form", "_law_told", "_law_table"] (spCostS c) := by
  refine F.ok sc__law_costs (fun vs H Q E h => ?_) (fun cdv A outer s H vs Q E hr h => ?_)
  · obtain ⟨x, r, sd, a, kvs, rfl, _⟩ := h
    rfl
  obtain ⟨x, r, sd, a, kvs, rfl, fo, st, ok, ha, g, tb, q⟩ := h
  refine ⟨_, (pss_cons (ps_set (i := 3) sc__law_costs.nd rfl (Or.inl rfl) (pe_fn H__law_made_signed (hr.mono (by omega)) rfl (pa_cons (pv 1) pa_nil)))
    (pss_cons (ps_set (i := 4) sc__law_costs.nd rfl (Or.inl rfl) (pe_fn H_signed_words (hr.mono (by omega)) rfl (pa_cons (pv 0) pa_nil)))
    (pss_cons (ps_if (PW.pt (pw_or (pt_not (pt_val (pe_callB call_isinst rfl T.n_isinstance boot_isinstance (pa_cons (pv 4) (pa_cons (pe_ty rfl T.n_list boot_list) pa_nil))))) (pw_or1 (pt_cmpR (op_neLD (d := 0) (hu_of hr)) (pv 4) (pv 3) (nomark _)))))
      (pss_one (ps_ret pe_bl))
      pss_nil)
    (pss_cons (ps_expr (pe_bm PySem.F.plainAttrs_list PySem.F.slot_list_append PySem.F.type_list_append mt_append (pv 4) (pa_cons pe_str pa_nil)))
    (pss_cons (ps_set (i := 5) sc__law_costs.nd rfl (Or.inl rfl) pe_int)
    (pss_cons (ps_for PassesOwn.never rfl (pi_list (pv 3)) (pg_name (i := 6) sc__law_costs.nd rfl (Or.inl rfl))
      (pss_one (ps_set (i := 5) sc__law_costs.nd rfl (Or.inl rfl) (pe_op op_add (pv 5) (pe_dget (hu_of hr) (pv 2) (pv 6) (fun _ _ => rfl))))))
    (pss_cons (ps_set (i := 7) sc__law_costs.nd rfl (Or.inl rfl) (pe_fnYN H_price_of_signed (hr.mono (by omega)) rfl (pa_cons (pv 0) (pa_cons (pv 2) pa_nil))))
    (pss_one (ps_ret (pe_and (pe_fn H__law_whole (hr.mono (by omega)) rfl (pa_cons (pv 7) pa_nil)) (pe_and (pe_cmpR op_eq (pv 7) (pv 5) (nomark _)) (pe_one (pe_cmpR (op_eqLD (d := 0) (hu_of hr)) (pe_fn H_signed_words (hr.mono (by omega)) rfl (pa_cons (pv 0) pa_nil)) (pv 3) (nomark _)))))))))))))), ?_⟩
  refine ⟨_, rfl, r, sd, rfl, st, ok, fun l H1 hl l1 s1 => ?_⟩
  refine ⟨_, rfl, x, sd, rfl, fo.same s1, ok, fun m H2 hm m2 s2 => ?_⟩
  have l2 := s2 _ _ l1
  have nlm : l ≠ m := fun z => by rw [z, hm] at l1; cases l1
  refine ⟨_, rfl, _, _, _, _, _, rfl, rfl, TyOf.lst m2, kit_lst_lst _, _, rfl, iteF ?_⟩
  refine ⟨_, rfl, _, rfl, m, l, _, _, fun _ => true, rfl, rfl, SqL.of m2, SqL.of l2, rfl, fun j hj => all_str _ j hj, _, rfl, iteB ?_ ?_⟩
  · rw [if_pos rfl, allT1]
    rfl
  have l12 := sw_len (sd := sd)
  refine ⟨_, rfl, .inl ⟨rfl, _, SqL.of m2⟩, m, _, _, rfl, rfl, m2, (by rw [List.length_map]; exact Nat.lt_of_le_of_lt l12 (by decide)), ?_⟩
  have hmH : H m = none := s1.free hm
  have s3 := Same.updL (o := .lst ((sw sd).map V.str ++ [.str "high"])) (s1.trans s2) hmH
  have l3 : upd H2 m (.lst ((sw sd).map V.str ++ [.str "high"])) l = some (.lst ((sw sd).map V.str)) := by rw [upd_ne nlm]; exact l2
  generalize upd H2 m (.lst ((sw sd).map V.str ++ [.str "high"])) = H3 at s3 l3 ⊢
  refine ⟨_, rfl, l, rfl, ⟨_, SqL.of l3⟩, for_list (xs := (sw sd).map V.str) (fun i σ HI => ∃ x6 x7, σ = [some (.ref x), some (.ref r), some (.ref a), some (.ref l), some (.ref m), some (.int (cost kvs ((sw sd).take i))), x6, x7] ∧ HI = H3) ⟨_, _, rfl, rfl⟩ (fun i σ HI _ ⟨_, _, _, e⟩ => e ▸ SqL.of l3) ?_ ?_⟩
  · rintro i y σ HI hy ⟨x6, x7, rfl, rfl⟩
    rw [List.getElem?_map] at hy
    obtain ⟨z, hz, rfl⟩ := Option.map_eq_some_iff.mp hy
    have hmz := sw_mem z (List.mem_of_getElem? hz)
    have a2 := s3 _ _ ha
    have ec : cost kvs ((sw sd).take (i + 1)) = cost kvs ((sw sd).take i) + pz kvs z := by
      rw [List.take_add_one, hz]
      unfold cost
      rw [List.map_append, List.sum_append]
      simp
    refine ⟨_, rfl, _, rfl, _, rfl, a, _, rfl, (by have := dgetk (y := z) a2; rw [(g.at hmz).1] at this; exact this), _, _, rfl, rfl, some (.str z), x7, ?_, rfl⟩
    rw [ec]
    rfl
  rintro σ HI ⟨x6, x7, rfl, rfl⟩
  rw [List.length_map, List.take_length]
  have a3 := s3 _ _ ha
  refine ⟨_, rfl, _, rfl, x, sd, .ref a, rfl, fo.same s3, ok, .dct a3, DFl.of a3 tb, fun a' k' e' h' g' H4 s4 => ?_, fun ng => absurd ⟨a, kvs, rfl, a3, g⟩ ng⟩
  cases e'
  rw [a3] at h'
  cases h'
  have s34 := s3.trans s4
  refine ⟨_, rfl, _, rfl, .int _, _, rfl, iteT ?_⟩
  refine ⟨_, rfl, _, rfl, rfl, _, rfl, ?_⟩
  rw [decide_eq_true rfl]
  refine iteT ⟨_, rfl, x, sd, rfl, fo.same s34, ok, fun m2' H5 hm5 m5 s5 => ?_⟩
  refine ⟨_, rfl, m2', l, _, _, fun _ => true, rfl, rfl, SqL.of m5, SqL.of ((s4.trans s5) _ _ l3), rfl, fun j hj => all_str _ j hj, ?_⟩
  dsimp only
  rw [allT1]
  exact q H5 (s34.trans s5)
theorem ents_nd (t : Nat → Tok) (b : Nat → Addr) : ((ents t b).map (·.1)).Nodup := by
  show (["shifted", "scaled", "early", "more", "wide"] : List Str).Nodup
  decide +kernel
theorem BL.excF {c : Ad} {H H' : Hp} {a p : Addr} {xs : List SD} (h : BL (SFO c) H a xs) (b : Bx H p) (s : SameX p H H') : BL (SFO c) H' a xs := by
  obtain ⟨ps, e, q⟩ := h
  refine ⟨ps, s _ _ (fun z => ?_) e, q.mono fun _ _ q => q.exc b s⟩
  obtain ⟨r1, r2, hb⟩ := b
  rw [z, hb] at e
  injection e with e
  injection e with e
  cases ps with
  | nil => cases e
  | cons _ _ => cases e
theorem BL.excT {H H' : Hp} {a p : Addr} {xs : List SD} (h : BL STd H a xs) (b : Bx H p) (s : SameX p H H') : BL STd H' a xs := by
  obtain ⟨ps, e, q⟩ := h
  refine ⟨ps, s _ _ (fun z => ?_) e, q.mono fun _ _ q => q.exc b s⟩
  obtain ⟨r1, r2, hb⟩ := b
  rw [z, hb] at e
  injection e with e
  injection e with e
  cases ps with
  | nil => cases e
  | cons _ _ => cases e
theorem refs_inj : ∀ {a b : List Addr}, a.map V.ref = b.map V.ref → a = b
  | [], [], _ => rfl
  | [], _ :: _, h => by cases h
  | _ :: _, [], h => by cases h
  | x :: r, y :: r', h => by
    rw [List.map_cons, List.map_cons] at h
    injection h with h1 h2
    injection h1 with h1
    rw [h1, refs_inj h2]
theorem ref_at {ps : List Addr} {k : Nat} {p : Addr} (h : ps[k]? = some p) : atI (ps.map V.ref) (k : Int) = some (.ref p) := atI_nat (by rw [List.getElem?_map, h]; rfl)
theorem ok__law_case {f : Addr} {fd : FuncData} (F : Fun K "_law_case" "_law_case" s__law_case f fd) (T : Txt K mg c) (H__law_signed_divisor : Has P w K mg base 3 "_law_signed_divisor" ["_law_state", "_law_width"] spSDiv) (H__law_all_signed : Has P w K mg base 3 "_law_all_signed" ["_law_width", "_law_d"] spAllSg) (H_signed_candidates : Has P w K mg base 9 "signed_candidates" ["width", "d"] (spSCand c)) (H__law_signed_corners : Has P w K mg base 2 "_law_signed_corners" ["_law_up_here", "_law_down", "_law_d"] spSC) (H__law_draw : Has P w K mg base 1 "_law_draw" ["_law_state", "_law_size"] spTake) (H__law_prices : Has P w K mg base 2 "_law_prices" ["_law_state"] spPr) (H__law_agree : Has P w K mg base 4 "_law_agree" ["_law_found", "_law_due"] (spAgrS c)) (H__law_refuses : Has P w K mg base 6 "_law_refuses" ["_law_form", "_law_prices_here"] (spRefuS c)) (H__law_costs : Has P w K mg base 6 "_law_costs" ["_law_form", "_law_told", "_law_table"] (spCostS c)) (H__law_no_prices : Has P w K mg base 3 "_law_no_prices" ["_law_state"] spNoPr) (H__law_all_right : Has P w K mg base 3 "_law_all_right" ["_law_told", "_law_width", "_law_d", "_law_counts"] spAllS) : FnOk P w K mg base CX0 10 f fd ["_law_state"] (spCase23 c) := by
  refine F.ok sc__law_case (fun vs H Q E h => ?_) (fun cdv A outer s H vs Q E hr h => ?_)
  · obtain ⟨p, rfl, _⟩ := h
    rfl
  obtain ⟨p, rfl, bx, q⟩ := h
  refine ⟨_, (pss_cons (ps_set (i := 1) sc__law_case.nd rfl (Or.inr rfl) (pe_op op_add pe_int (pe_fn H__law_draw (hr.mono (by omega)) rfl (pa_cons (pv 0) (pa_cons pe_int pa_nil)))))
    (pss_join (ps_if (pt_cmpR op_eq (pe_fn H__law_draw (hr.mono (by omega)) rfl (pa_cons (pv 0) (pa_cons pe_int pa_nil))) pe_int (nomark _))
      (pss_one (ps_set (i := 1) sc__law_case.nd rfl (Or.inr rfl) (pe_op op_add pe_int (pe_fn H__law_draw (hr.mono (by omega)) rfl (pa_cons (pv 0) (pa_cons pe_int pa_nil))))))
      pss_nil)
    (pss_cons (ps_set (i := 2) sc__law_case.nd rfl (Or.inr rfl) (pe_fn H__law_signed_divisor (hr.mono (by omega)) rfl (pa_cons (pv 0) (pa_cons (pv 1) pa_nil))))
    (pss_cons (ps_set (i := 3) sc__law_case.nd rfl (Or.inl rfl) (pe_op op_shl pe_int (pe_op op_sub (pv 1) pe_int)))
    (pss_cons (ps_set (i := 4) sc__law_case.nd rfl (Or.inl rfl) (pe_fn H__law_all_signed (hr.mono (by omega)) rfl (pa_cons (pv 1) (pa_cons (pv 2) pa_nil))))
    (pss_cons (ps_set (i := 5) sc__law_case.nd rfl (Or.inl rfl) (pe_fn H_signed_candidates (hr.mono (by omega)) rfl (pa_cons (pv 1) (pa_cons (pv 2) pa_nil))))
    (pss_cons (ps_set (i := 6) sc__law_case.nd rfl (Or.inl rfl) (pe_lst (pa_cons (pe_fn H__law_prices (hr.mono (by omega)) rfl (pa_cons (pv 0) pa_nil)) (pa_cons (pe_fn H__law_prices (hr.mono (by omega)) rfl (pa_cons (pv 0) pa_nil)) pa_nil))))
    (pss_cons (ps_if (pt_not (pt_val (pe_fn H__law_agree (hr.mono (by omega)) rfl (pa_cons (pv 5) (pa_cons (pv 4) pa_nil)))))
      (pss_one (ps_ret pe_bl))
      pss_nil)
    (pss_cons (ps_for PassesOwn.never rfl (pi_range1 rfl T.n_range (pa_cons (pe_callB call_len_seq rfl T.n_len boot_len (pa_cons (pv 4) pa_nil)) pa_nil)) (pg_name (i := 7) sc__law_case.nd rfl (Or.inl rfl))
      (pss_one (ps_if (pt_not (pt_val (pe_fn H__law_costs (hr.mono (by omega)) rfl (pa_cons (pe_ix ix_list (pv 5) (pv 7) (fun _ _ => rfl)) (pa_cons (pe_ix ix_list (pv 4) (pv 7) (fun _ _ => rfl)) (pa_cons (pe_ix ix_list (pv 6) (pe_op op_mod (pv 7) pe_int) (fun _ _ => rfl)) pa_nil))))))
        (pss_one (ps_ret pe_bl))
        pss_nil)))
    (pss_cons (ps_if (pt_not (pt_val (pe_fn H__law_refuses (hr.mono (by omega)) rfl (pa_cons (pe_ix ix_list (pv 5) (pe_fn H__law_draw (hr.mono (by omega)) rfl (pa_cons (pv 0) (pa_cons (pe_callB call_len_seq rfl T.n_len boot_len (pa_cons (pv 5) pa_nil)) pa_nil))) (fun _ _ => rfl)) (pa_cons (pe_fn H__law_no_prices (hr.mono (by omega)) rfl (pa_cons (pv 0) pa_nil)) pa_nil)))))
      (pss_one (ps_ret pe_bl))
      pss_nil)
    (pss_cons (ps_expr (pe_bm PySem.F.plainAttrs_list PySem.F.slot_list_pop PySem.F.type_list_pop mt_popAt (pv 5) (pa_cons pe_int pa_nil)))
    (pss_cons (ps_if (pt_not (pt_val (pe_fn H__law_agree (hr.mono (by omega)) rfl (pa_cons (pe_fn H_signed_candidates (hr.mono (by omega)) rfl (pa_cons (pv 1) (pa_cons (pv 2) pa_nil))) (pa_cons (pv 4) pa_nil)))))
      (pss_one (ps_ret pe_bl))
      pss_nil)
    (pss_cons (ps_set (i := 8) sc__law_case.nd rfl (Or.inr rfl) (pe_fn H__law_signed_corners (hr.mono (by omega)) rfl (pa_cons (pe_op op_sub (pv 3) pe_int) (pa_cons (pv 3) (pa_cons (pv 2) pa_nil)))))
    (pss_one (ps_ret (pe_cmpR (op_ne0 (Nat.lt_of_succ_lt (hu_of hr))) (pe_compCT [1, 8, 2] ["_law_width", "_law_points", "_law_d"] rfl (by first | rfl | with_unfolding_all rfl) (by rfl) (by exact (List.forall_mem_cons.mpr ⟨rfl, (List.forall_mem_cons.mpr ⟨rfl, (List.forall_mem_cons.mpr ⟨rfl, (fun _ h => nomatch h)⟩)⟩)⟩)) (by decide +kernel) rfl (by decide +kernel) rfl (by decide +kernel) (by exact (List.forall_mem_cons.mpr ⟨⟨by first | exact Or.inl rfl | exact Or.inr rfl, rfl⟩, (List.forall_mem_cons.mpr ⟨⟨by first | exact Or.inl rfl | exact Or.inr rfl, rfl⟩, (List.forall_mem_cons.mpr ⟨⟨by first | exact Or.inl rfl | exact Or.inr rfl, rfl⟩, (fun _ h => nomatch h)⟩)⟩)⟩)) rfl (by rfl) (pi_list (pv 4)) (fun C s2 H2 fp => (pt_val (pe_fn H__law_all_right (hr.mono (by omega)) rfl (pa_cons (pv 0) (pa_cons (pv 1) (pa_cons (pv 3) (pa_cons (pv 2) pa_nil))))))) (fun C s2 H2 fp => (pv 0))) (pe_lst pa_nil) (nomark _))))))))))))))))), ?_⟩
  have L1000 : (1000 : Nat) ≤ sizeLine := by decide
  walk_at "o"; intro w0 H1 w00 w01 b1 x1
  refine ⟨_, _, rfl, rfl, ?_⟩
  refine ⟨fun σ2 HZ => ∃ w : Int, σ2 = [some (.ref p), some (.int w), none, none, none, none, none, none, none] ∧ 4 ≤ w ∧ w ≤ 32 ∧ Bx HZ p ∧ SameX p H HZ, ?_, ?_⟩
  · walk_at "o"; intro z H2 z0 z1 b2 x2
    walk_at "o"
    walk_at "c" <;> intro c0
    · walk_at "o"; intro v H3 v0 v1 b3 x3
      exact ⟨_, _, rfl, rfl, 4 + v, rfl, by omega, by omega, b3, (x1.trans x2).trans x3⟩
    · exact ⟨4 + w0, rfl, by omega, by omega, b2, x1.trans x2⟩
  rintro σ2 H2 ⟨w', rfl, h1, h2, b2, x2⟩
  refine ⟨_, rfl, _, rfl, p, w', rfl, b2, h1, h2, fun d H3 d1 d2 b3 x3 => ?_⟩
  have pb := pw_bounds h1 h2
  obtain ⟨d3, e2⟩ := half_lt h1 d2
  have ph := p_pos (w' - 1).toNat
  have x03 := x2.trans x3
  have h31 : 0 ≤ w' - 1 := by omega
  refine ⟨_, rfl, _, _, rfl, rfl, _, _, rfl, rfl, (by walk_at "s"), ?_⟩
  refine ⟨_, rfl, _, rfl, w', d, rfl, h1, h2, d1, d2, fun t l H4 tw hl bl s4 => ?_⟩
  have ok := sAll_ok h1 h2 d1 d3 tw
  have ln := sAll_len h1 h2 d1 d3 tw
  have rgt := sAll_right (t := t) h1 h2 d1 d3
  generalize hxs : sAll (1 * 2 ^ w'.toNat) d t = xs at bl ok ln rgt
  refine ⟨_, rfl, _, rfl, w', d, rfl, h1, h2, d1, d2, fun t' m H5 tw' hm bm s5 => ?_⟩
  cases tw_unique tw tw'
  rw [hxs] at bm
  have b5 := b3.same (s4.trans s5)
  have x05 := x03.trans (SameX.of (s4.trans s5))
  have bl5 := bl.sameT s5
  have np : ∀ {G : Hp} {y : Addr}, Bx G p → G y = none → y ≠ p := fun {G y} b h e => by obtain ⟨z1, z2, hb⟩ := b; rw [e, hb] at h; cases h
  have mH : H m = none := frX (b3.same s4) (x03.trans (SameX.of s4)) hm
  refine ⟨_, rfl, p, rfl, b5, fun a0 v0 H6 ha0 h6 g0 tb0 b6 x6 => ⟨_, rfl, p, rfl, b6, fun a1 v1 H7 ha1 h7 g1 tb1 b7 x7 => ⟨(by show 2 ≤ sizeLine; decide), fun lb hlb => ?_⟩⟩⟩
  have a0p := np b5 ha0
  have a1p := np b6 ha1
  have x57 := x6.trans x7
  have sb := same_new hlb (.lst [V.ref a0, .ref a1])
  have bl8 := (bl5.excT b5 x57).sameT sb
  have bm8 := (bm.excF b5 x57).sameF sb
  have d08 := sb _ _ (x7 _ _ a0p h6)
  have d18 := sb _ _ h7
  have lb8 : upd H7 lb (.lst [V.ref a0, .ref a1]) lb = some (.lst [V.ref a0, .ref a1]) := upd_same
  have b8 := b7.same sb
  have x08 := (x05.trans x57).trans (SameX.of sb)
  generalize upd H7 lb (.lst [V.ref a0, .ref a1]) = H8 at bl8 bm8 d08 d18 lb8 b8 x08 ⊢
  have pickT : ∀ j : Int, 0 ≤ j → j < 2 → ∃ (d : Addr) (v : List (Key × V)), atI [V.ref a0, .ref a1] j = some (.ref d) ∧ H8 d = some (.dK v) ∧ GoodD v ∧ Tb 40 v := fun j h0 h1 => by
    rcases (by omega : j = 0 ∨ j = 1) with rfl | rfl
    · exact ⟨a0, v0, rfl, d08, g0, tb0⟩
    · exact ⟨a1, v1, rfl, d18, g1, tb1⟩
  refine ⟨_, rfl, _, rfl, m, l, xs, rfl, bm8, bl8, ln.1, ok, fun H9 s9 => ⟨_, rfl, iteF ?_⟩⟩
  obtain ⟨ts, tL, tq⟩ := id bl8
  obtain ⟨ps, pL, pq⟩ := id bm8
  have tn := tq.1
  have pn := pq.1
  refine ⟨_, rfl, l, _, rfl, .inl (SqL.of (s9 _ _ tL)), _, rfl, ?_, ?_, for_range (fun i σ G => ∃ x7, σ = [some (.ref p), some (.int w'), some (.int d), some (.int (1 * 2 ^ (w' - 1).toNat)), some (.ref l), some (.ref m), some (.ref lb), x7, none] ∧ Same H8 G) ⟨_, rfl, s9⟩ ?_ ?_⟩
  · rw [List.length_map]; omega
  · rw [List.length_map]; omega
  · rintro i σ G hi ⟨x7', rfl, sG⟩
    rw [List.length_map] at hi
    have hi' : i < ts.length := by omega
    obtain ⟨sd, esd⟩ : ∃ x, xs[i]? = some x := ⟨_, List.getElem?_eq_getElem (by omega)⟩
    have et : ts[i]? = some ts[i] := List.getElem?_eq_getElem hi'
    have ep : ps[i]? = some (ps[i]'(by omega)) := List.getElem?_eq_getElem (by omega)
    obtain ⟨dd, v, a3, hd, gg, tb⟩ := pickT ((0 + (i : Int)) % 2) (by omega) (by omega)
    have z0 : (0 : Int) + (i : Int) = (i : Int) := by omega
    refine ⟨_, rfl, _, rfl, m, _, _, _, rfl, rfl, SqL.of (sG _ _ pL), (by rw [z0]; exact ref_at ep), ?_⟩
    refine ⟨_, rfl, _, rfl, l, _, _, _, rfl, rfl, SqL.of (sG _ _ tL), (by rw [z0]; exact ref_at et), ?_⟩
    refine ⟨_, rfl, _, rfl, _, _, rfl, rfl, (show (0 : Int) < 2 by decide), lb, _, _, _, rfl, rfl, SqL.of (sG _ _ lb8), a3, ?_⟩
    exact ⟨_, _, sd, dd, v, rfl, (pq.2 i _ sd ep esd).same sG, (tq.2 i _ sd et esd).same sG, ok sd (List.mem_of_getElem? esd), sG _ _ hd, gg, tb.le (by decide), fun H' s'' => ⟨_, rfl, iteF ⟨_, rfl, sG.trans s''⟩⟩⟩
  rintro σ G ⟨x7', rfl, sG⟩
  have bG := b8.same sG
  refine ⟨_, rfl, _, rfl, _, rfl, m, _, rfl, .inl (SqL.of (sG _ _ pL)), p, _, rfl, bG, ?_, ?_, fun j G1 j0 j1 bG1 xG1 => ?_⟩
  · rw [List.length_map]; omega
  · rw [List.length_map]; omega
  rw [List.length_map] at j1
  obtain ⟨n, hn, rfl⟩ : ∃ n : Nat, n < ps.length ∧ j = (n : Int) := ⟨j.toNat, by omega, by omega⟩
  obtain ⟨sd, esd⟩ : ∃ x, xs[n]? = some x := ⟨_, List.getElem?_eq_getElem (by omega)⟩
  have ep : ps[n]? = some ps[n] := List.getElem?_eq_getElem hn
  have bmG1 := (bm8.sameF sG).excF bG xG1
  have blG1 := (bl8.sameT sG).excT bG xG1
  obtain ⟨ps1, pL1, pq1⟩ := id bmG1
  have mp : m ≠ p := np (b3.same s4) hm
  have epl : ps1 = ps := by
    have h1 := xG1 _ _ mp (sG _ _ pL)
    rw [pL1] at h1
    injection h1 with h1
    injection h1 with h1
    exact refs_inj h1
  subst epl
  refine ⟨m, _, _, _, rfl, rfl, SqL.of pL1, ref_at ep, ?_⟩
  refine ⟨_, rfl, p, rfl, bG1, fun z G2 th df ng rp bG2 xG2 => ?_⟩
  have bmG2 := bmG1.excF bG1 xG2
  have blG2 := blG1.excT bG1 xG2
  refine ⟨_, sd, z, rfl, (pq1.2 n _ sd ep esd).exc bG1 xG2, ok sd (List.mem_of_getElem? esd), th, df, ng, rp, fun G3 s3' => ⟨_, rfl, iteF ?_⟩⟩
  have x0G3 := ((x08.trans (SameX.of sG)).trans xG1).trans (xG2.trans (SameX.of s3'))
  obtain ⟨ps3, pL3, pq3⟩ := bmG2.sameF s3'
  have blG3 := blG2.sameT s3'
  have pn3 := pq3.1
  cases ps3 with
  | nil => rw [← pn3] at ln; exact absurd ln.2 (by decide)
  | cons q0 qs =>
  have sq : seqIndex? 0 (List.map V.ref (q0 :: qs)).length = some 0 := by
    unfold seqIndex?
    rw [List.length_map, List.length_cons]
    simp
  refine ⟨_, rfl, .inl ⟨rfl, _, SqL.of pL3⟩, m, _, 0, 0, _, rfl, rfl, pL3, by decide, by decide, sq, rfl, ?_⟩
  obtain ⟨ts3, tL3, tq3⟩ := blG3
  have nlm : l ≠ m := fun z => by
    obtain ⟨us, hu, _⟩ := bl
    rw [z, hm] at hu
    cases hu
  have bl4 : BL STd (upd G3 m (.lst ((List.map V.ref (q0 :: qs)).eraseIdx 0))) l xs := ⟨ts3, by rw [upd_ne nlm]; exact tL3, tq3.updT pL3⟩
  have x04 : SameX p H (upd G3 m (.lst ((List.map V.ref (q0 :: qs)).eraseIdx 0))) := fun b o hb e => by
    rw [upd_ne (ne_of_none e mH)]
    exact x0G3 b o hb e
  generalize upd G3 m (.lst ((List.map V.ref (q0 :: qs)).eraseIdx 0)) = G4 at bl4 x04 ⊢
  refine ⟨_, rfl, _, rfl, w', d, rfl, h1, h2, d1, d2, fun t' m2 G5 tw' hm2 bm5 s5' => ?_⟩
  cases tw_unique tw tw'
  rw [hxs] at bm5
  refine ⟨_, rfl, m2, l, xs, rfl, bm5, bl4.sameT s5', ln.1, ok, fun G6 s6 => ⟨_, rfl, iteF ?_⟩⟩
  have bl6 := (bl4.sameT s5').sameT s6
  have x06 := x04.trans (SameX.of (s5'.trans s6))
  refine ⟨_, rfl, _, _, rfl, rfl, _, rfl, _, rfl, _, _, d, rfl, by omega, by omega, by omega, by omega, d1, by omega, fun r zs G7 hr' rL s7 sc zl => ?_⟩
  have bl7 := bl6.sameT s7
  have x07 := x06.trans (SameX.of s7)
  obtain ⟨ts7, tL7, tq7⟩ := bl7
  have tn7 := tq7.1
  refine ⟨_, rfl, l, rfl, ⟨_, SqL.of tL7⟩, fun D hD => ?_⟩
  have zb : ∀ x ∈ zs, -(1 * 2 ^ w'.toNat - 1) ≤ x ∧ x ≤ 1 * 2 ^ w'.toNat - 1 ∧ -4294967296 ≤ x ∧ x ≤ 4294967296 := fun x hx => by
    have := ((sc.mem x).mp hx).bounds d1 (by omega) (by omega)
    omega
  refine compT_list (xs := ts7.map V.ref) (fun n HJ => ∃ ys : List V, HJ D = some (.lst ys) ∧ ys.length ≤ n ∧ Same G7 HJ ∧ ∀ k x, k < n → xs[k]? = some x → (∀ z, -(1 * 2 ^ w'.toNat - 1) ≤ z → z ≤ 1 * 2 ^ w'.toNat - 1 → x.q w' z = cutq z d) → ys ≠ []) ⟨[], upd_same, Nat.le_refl _, same_new hD _, fun k x hk => absurd hk (Nat.not_lt_zero _)⟩ ?_ ?_ ?_
  · rintro n HJ hn ⟨ys, hy, yn, sJ, al⟩
    exact SqL.of (sJ _ _ tL7)
  · rintro n v HJ hv ⟨ys, hy, yn, sJ, al⟩
    rw [List.getElem?_map] at hv
    cases e1 : ts7[n]? with
    | none => rw [e1] at hv; cases hv
    | some rr =>
      rw [e1] at hv
      cases hv
      have np' := (List.getElem?_eq_some_iff.mp e1).1
      obtain ⟨x, ex⟩ : ∃ x, xs[n]? = some x := ⟨_, List.getElem?_eq_getElem (by omega)⟩
      have tr := (tq7.2 n rr x e1 ex).same sJ
      refine ⟨_, rfl, _, rfl, _, rfl, _, rfl, rr, r, w', d, x, zs, rfl, h1, h2, d1, by omega, tr, ok x (List.mem_of_getElem? ex), sJ _ _ rL, fun z hz => ⟨(zb z hz).2.2.1, (zb z hz).2.2.2⟩, fun b H9' s9' hb => ⟨_, rfl, ?_⟩⟩
      have s79 := sJ.trans s9'
      have hy9 := s9' _ _ hy
      cases b with
      | true =>
        refine ⟨_, rfl, ys, hy9, (by omega), (ts7.map V.ref).length - (n + 1), (by rw [List.length_map]; omega), rfl, (by rw [List.length_map]; omega), _, upd_same, (by rw [List.length_append, List.length_singleton]; omega), Same.updL s79 hD, fun k x hk e al' z => ?_⟩
        simp at z
      | false =>
        refine ⟨(ts7.map V.ref).length - (n + 1), (by rw [List.length_map]; omega), rfl, (by rw [List.length_map]; omega), ys, hy9, by omega, s79, fun k u hk e al' => ?_⟩
        by_cases c : k < n
        · exact al k u c e al'
        · have : k = n := by omega
          subst this
          rw [ex] at e
          cases e
          exact absurd (hb.mpr fun z hz => al' z (zb z hz).1 (zb z hz).2.1) (by decide)
  · rintro HJ ⟨ys, hy, yn, sJ, al⟩
    obtain ⟨x, hx, rx⟩ := rgt
    obtain ⟨k, hk⟩ := List.mem_iff_getElem?.mp hx
    have kl := (List.getElem?_eq_some_iff.mp hk).1
    have ne := al k x (by rw [List.length_map]; omega) hk rx
    refine ⟨(by show 0 ≤ sizeLine; decide), fun l9 hl9 => ?_⟩
    have s9' := same_new hl9 (.lst [])
    refine ⟨D, l9, ys, rfl, rfl, SqL.of (s9' _ _ hy), SqL.of upd_same, ?_⟩
    have en : (if true then !ys.isEmpty else ys.isEmpty) = true := by
      cases ys with
      | nil => exact absurd rfl ne
      | cons _ _ => rfl
    rw [en]
    exact q _ (x07.trans (SameX.of (sJ.trans s9')))
theorem ok_law {f : Addr} {fd : FuncData} (F : Fun K "law" "law" s_law f fd) (T : Txt K mg c) (H__law_case : Has P w K mg base 10 "_law_case" ["_law_state"] (spCase23 c)) (H__law_start : Has P w K mg base 1 "_law_start" ["_law_script", "_law_k"] (spStart K)) : FnOk P w K mg base CX0 11 f fd ["_law_script"] (spLaw K) := by
  refine F.ok sc_law (fun vs H Q E h => ?_) (fun cdv A outer s H vs Q E hr h => ?_)
  · obtain ⟨a, ns, rfl, _⟩ := h
    rfl
  obtain ⟨a, ns, rfl, hS, hlen, q⟩ := h
  have hl : (ns.map V.int).length = ns.length := List.length_map _
  refine ⟨_, (pss_cons (ps_for PassesOwn.never rfl (pi_range1 rfl T.n_range (pa_cons (pe_callB (call_max2 rfl) rfl T.n_max boot_max (pa_cons pe_int (pa_cons (pe_callB (call_min2 rfl) rfl T.n_min boot_min (pa_cons (pe_callB call_len_seq rfl T.n_len boot_len (pa_cons (pv 0) pa_nil)) (pa_cons pe_int pa_nil))) pa_nil))) pa_nil)) (pg_name (i := 1) sc_law.nd rfl (Or.inl rfl))
      (pss_one (ps_if (pt_not (pt_val (pe_fn H__law_case (hr.mono (by omega)) rfl (pa_cons (pe_fn H__law_start (hr.mono (by omega)) rfl (pa_cons (pv 0) (pa_cons (pv 1) pa_nil))) pa_nil))))
        (pss_one (ps_ret pe_bl))
        pss_nil)))
    (pss_one (ps_ret pe_bl))), ?_⟩
  refine ⟨_, rfl, a, _, rfl, .inl hS, _, _, rfl, _, _, rfl, _, rfl, (by rw [hl]; split <;> (try split) <;> omega), (by rw [hl]; split <;> (try split) <;> omega), for_range (fun i σ H2 => ∃ x1 : Option V, σ = [some (.ref a), x1] ∧ SqL K H2 a (ns.map V.int)) ⟨_, rfl, hS⟩ ?_ ?_⟩
  · rintro i σ H2 hi ⟨x1, rfl, hS2⟩
    have hi' : (i : Int) < 100 := by
      rw [hl] at hi
      revert hi
      split <;> (try split) <;> omega
    refine ⟨_, rfl, _, rfl, a, ns, _, rfl, hS2, by omega, by omega, fun p H3 hp b3 s3 => ?_⟩
    exact ⟨p, rfl, b3, fun H4 y4 => ⟨_, rfl, iteF ⟨_, rfl, (Same_thenX hp s3 y4).seq hS2⟩⟩⟩
  · rintro σ H2 ⟨x1, rfl, s2⟩
    exact q H2

end
theorem all_mk {l : PySem.W.OpenLaw} {w : World} {K : PySem.W.Frag} {h : Heap} {mg : Str → Option Value} {fa f1 f2 f3 f4 f5 f6 f7 f8 f9 f10 f11 f12 f13 f14 f15 f16 f17 f18 f19 f20 f21 f22 f23 f24 f25 f26 f27 f28 f29 f30 f31 f32 f33 f34 f35 f36 f37 f38 f39 f40 f41 f42 f43 f44 f45 f46 f47 f48 f49 f50 f51 f52 f53 f54 f55 f56 f57 f58 f59 f60 f61 f62 f63 f64 f65 f66 f67 f68 c_Form c_Shifted c_Scaled c_Early c_More c_Wide c_Cutting c_Turned c_SignedForm c_NoPrices c_ROW_WORDS c_ROWS_AHEAD : Addr} (X : K.In h) (G : h.Ns mainGlobals mg) (hfa : mg "law" = some (.ref fa))
    {od1 an1 od2 an2 od3 an3 od4 an4 od5 an5 od6 an6 od7 an7 od8 an8 od9 an9 od10 an10 od11 an11 od12 an12 od13 an13 od14 an14 od15 an15 od16 an16 od17 an17 od18 an18 od19 an19 od20 an20 od21 an21 od22 an22 od23 an23 od24 an24 od25 an25 od26 an26 od27 an27 od28 an28 od29 an29 od30 an30 od31 an31 od32 an32 od33 an33 od34 an34 od35 an35 od36 an36 od37 an37 od38 an38 od39 an39 od40 an40 od41 an41 od42 an42 od43 an43 od44 an44 od45 an45 od46 an46 od47 an47 od48 an48 od49 an49 od50 an50 od51 an51 od52 an52 od53 an53 od54 an54 od55 an55 od56 an56 od57 an57 od58 an58 od59 an59 od60 an60 od61 an61 od62 an62 od63 an63 od64 an64 od65 an65 od66 an66 od67 an67 od68 an68 : Option Addr} {sl1 sl2 sl3 sl4 sl5 sl6 sl7 sl8 sl9 sl10 sl11 sl12 sl13 sl14 sl15 sl16 sl17 sl18 sl19 sl20 sl21 sl22 sl23 sl24 sl25 sl26 sl27 sl28 sl29 sl30 sl31 sl32 sl33 sl34 sl35 sl36 sl37 sl38 sl39 sl40 sl41 sl42 sl43 sl44 sl45 sl46 sl47 sl48 sl49 sl50 sl51 sl52 sl53 sl54 sl55 sl56 sl57 sl58 sl59 sl60 sl61 sl62 sl63 sl64 sl65 sl66 sl67 sl68 : Array (Option Value)} {oc1 kV1 dc1 pm1 cd1 ct1 oc2 kV2 dc2 pm2 cd2 ct2 oc3 kV3 dc3 pm3 cd3 ct3 oc4 kV4 dc4 pm4 cd4 ct4 oc5 kV5 dc5 pm5 cd5 ct5 oc6 kV6 dc6 pm6 cd6 ct6 oc7 kV7 dc7 pm7 cd7 ct7 oc8 kV8 dc8 pm8 cd8 ct8 oc9 kV9 dc9 pm9 cd9 ct9 oc10 kV10 dc10 pm10 cd10 ct10 oc11 kV11 dc11 pm11 cd11 ct11 oc12 kV12 dc12 pm12 cd12 ct12 oc13 kV13 dc13 pm13 cd13 ct13 oc14 kV14 dc14 pm14 cd14 ct14 oc15 kV15 dc15 pm15 cd15 ct15 oc16 kV16 dc16 pm16 cd16 ct16 oc17 kV17 dc17 pm17 cd17 ct17 oc18 kV18 dc18 pm18 cd18 ct18 oc19 kV19 dc19 pm19 cd19 ct19 oc20 kV20 dc20 pm20 cd20 ct20 oc21 kV21 dc21 pm21 cd21 ct21 oc22 kV22 dc22 pm22 cd22 ct22 oc23 kV23 dc23 pm23 cd23 ct23 oc24 kV24 dc24 pm24 cd24 ct24 oc25 kV25 dc25 pm25 cd25 ct25 oc26 kV26 dc26 pm26 cd26 ct26 oc27 kV27 dc27 pm27 cd27 ct27 oc28 kV28 dc28 pm28 cd28 ct28 oc29 kV29 dc29 pm29 cd29 ct29 oc30 kV30 dc30 pm30 cd30 ct30 oc31 kV31 dc31 pm31 cd31 ct31 oc32 kV32 dc32 pm32 cd32 ct32 oc33 kV33 dc33 pm33 cd33 ct33 oc34 kV34 dc34 pm34 cd34 ct34 oc35 kV35 dc35 pm35 cd35 ct35 oc36 kV36 dc36 pm36 cd36 ct36 oc37 kV37 dc37 pm37 cd37 ct37 oc38 kV38 dc38 pm38 cd38 ct38 oc39 kV39 dc39 pm39 cd39 ct39 oc40 kV40 dc40 pm40 cd40 ct40 oc41 kV41 dc41 pm41 cd41 ct41 oc42 kV42 dc42 pm42 cd42 ct42 oc43 kV43 dc43 pm43 cd43 ct43 oc44 kV44 dc44 pm44 cd44 ct44 oc45 kV45 dc45 pm45 cd45 ct45 oc46 kV46 dc46 pm46 cd46 ct46 oc47 kV47 dc47 pm47 cd47 ct47 oc48 kV48 dc48 pm48 cd48 ct48 oc49 kV49 dc49 pm49 cd49 ct49 oc50 kV50 dc50 pm50 cd50 ct50 oc51 kV51 dc51 pm51 cd51 ct51 oc52 kV52 dc52 pm52 cd52 ct52 oc53 kV53 dc53 pm53 cd53 ct53 oc54 kV54 dc54 pm54 cd54 ct54 oc55 kV55 dc55 pm55 cd55 ct55 oc56 kV56 dc56 pm56 cd56 ct56 oc57 kV57 dc57 pm57 cd57 ct57 oc58 kV58 dc58 pm58 cd58 ct58 oc59 kV59 dc59 pm59 cd59 ct59 oc60 kV60 dc60 pm60 cd60 ct60 oc61 kV61 dc61 pm61 cd61 ct61 oc62 kV62 dc62 pm62 cd62 ct62 oc63 kV63 dc63 pm63 cd63 ct63 oc64 kV64 dc64 pm64 cd64 ct64 oc65 kV65 dc65 pm65 cd65 ct65 oc66 kV66 dc66 pm66 cd66 ct66 oc67 kV67 dc67 pm67 cd67 ct67 oc68 kV68 dc68 pm68 cd68 ct68 : Value}
    (a1 : PySem.W.findIn K (.ref c_NoPrices) "__init__" = some (some (.ref f1))) (i1 : PySem.W.isFn K (.ref f1) = true)
    (l1 : K.lookup f1 = some ⟨oc1, od1, .func (PySem.W.fnOf "__init__" "NoPrices.__init__" (defArgs s_NoPrices___init__) (defBody s_NoPrices___init__) (defScope s_NoPrices___init__) .none kV1 dc1 pm1 an1 cd1 ct1), sl1⟩) (c1 : PySem.W.codeIn K cd1 "NoPrices.__init__" = true) (k1 : PySem.W.keepIn K (.ref f1) = true)
    (a2 : PySem.W.nsIn K mainGlobals "is_whole" = some (some (.ref f2)))
    (l2 : K.lookup f2 = some ⟨oc2, od2, .func (PySem.W.fnOf "is_whole" "is_whole" (defArgs s_is_whole) (defBody s_is_whole) (defScope s_is_whole) .none kV2 dc2 pm2 an2 cd2 ct2), sl2⟩) (c2 : PySem.W.codeIn K cd2 "is_whole" = true) (k2 : PySem.W.keepIn K (.ref f2) = true)
    (a3 : PySem.W.nsIn K mainGlobals "is_between" = some (some (.ref f3)))
    (l3 : K.lookup f3 = some ⟨oc3, od3, .func (PySem.W.fnOf "is_between" "is_between" (defArgs s_is_between) (defBody s_is_between) (defScope s_is_between) .none kV3 dc3 pm3 an3 cd3 ct3), sl3⟩) (c3 : PySem.W.codeIn K cd3 "is_between" = true) (k3 : PySem.W.keepIn K (.ref f3) = true)
    (a4 : PySem.W.nsIn K mainGlobals "need_width" = some (some (.ref f4)))
    (l4 : K.lookup f4 = some ⟨oc4, od4, .func (PySem.W.fnOf "need_width" "need_width" (defArgs s_need_width) (defBody s_need_width) (defScope s_need_width) .none kV4 dc4 pm4 an4 cd4 ct4), sl4⟩) (c4 : PySem.W.codeIn K cd4 "need_width" = true) (k4 : PySem.W.keepIn K (.ref f4) = true)
    (a5 : PySem.W.nsIn K mainGlobals "need_divisor" = some (some (.ref f5)))
    (l5 : K.lookup f5 = some ⟨oc5, od5, .func (PySem.W.fnOf "need_divisor" "need_divisor" (defArgs s_need_divisor) (defBody s_need_divisor) (defScope s_need_divisor) .none kV5 dc5 pm5 an5 cd5 ct5), sl5⟩) (c5 : PySem.W.codeIn K cd5 "need_divisor" = true) (k5 : PySem.W.keepIn K (.ref f5) = true)
    (a6 : PySem.W.nsIn K mainGlobals "twos_in" = some (some (.ref f6)))
    (l6 : K.lookup f6 = some ⟨oc6, od6, .func (PySem.W.fnOf "twos_in" "twos_in" (defArgs s_twos_in) (defBody s_twos_in) (defScope s_twos_in) .none kV6 dc6 pm6 an6 cd6 ct6), sl6⟩) (c6 : PySem.W.codeIn K cd6 "twos_in" = true) (k6 : PySem.W.keepIn K (.ref f6) = true)
    (a7 : PySem.W.findIn K (.ref c_Shifted) "__init__" = some (some (.ref f7))) (i7 : PySem.W.isFn K (.ref f7) = true)
    (l7 : K.lookup f7 = some ⟨oc7, od7, .func (PySem.W.fnOf "__init__" "Shifted.__init__" (defArgs s_Shifted___init__) (defBody s_Shifted___init__) (defScope s_Shifted___init__) .none kV7 dc7 pm7 an7 cd7 ct7), sl7⟩) (c7 : PySem.W.codeIn K cd7 "Shifted.__init__" = true) (k7 : PySem.W.keepIn K (.ref f7) = true)
    (a8 : PySem.W.findIn K (.ref c_Shifted) "word" = some (some (.ref f8))) (i8 : PySem.W.isFn K (.ref f8) = true)
    (l8 : K.lookup f8 = some ⟨oc8, od8, .func (PySem.W.fnOf "word" "Shifted.word" (defArgs s_Shifted_word) (defBody s_Shifted_word) (defScope s_Shifted_word) .none kV8 dc8 pm8 an8 cd8 ct8), sl8⟩) (c8 : PySem.W.codeIn K cd8 "Shifted.word" = true) (k8 : PySem.W.keepIn K (.ref f8) = true)
    (a9 : PySem.W.findIn K (.ref c_Shifted) "told" = some (some (.ref f9))) (i9 : PySem.W.isFn K (.ref f9) = true)
    (l9 : K.lookup f9 = some ⟨oc9, od9, .func (PySem.W.fnOf "told" "Shifted.told" (defArgs s_Shifted_told) (defBody s_Shifted_told) (defScope s_Shifted_told) .none kV9 dc9 pm9 an9 cd9 ct9), sl9⟩) (c9 : PySem.W.codeIn K cd9 "Shifted.told" = true) (k9 : PySem.W.keepIn K (.ref f9) = true)
    (a10 : PySem.W.findIn K (.ref c_Scaled) "__init__" = some (some (.ref f10))) (i10 : PySem.W.isFn K (.ref f10) = true)
    (l10 : K.lookup f10 = some ⟨oc10, od10, .func (PySem.W.fnOf "__init__" "Scaled.__init__" (defArgs s_Scaled___init__) (defBody s_Scaled___init__) (defScope s_Scaled___init__) .none kV10 dc10 pm10 an10 cd10 ct10), sl10⟩) (c10 : PySem.W.codeIn K cd10 "Scaled.__init__" = true) (k10 : PySem.W.keepIn K (.ref f10) = true)
    (a11 : PySem.W.findIn K (.ref c_Scaled) "word" = some (some (.ref f11))) (i11 : PySem.W.isFn K (.ref f11) = true)
    (l11 : K.lookup f11 = some ⟨oc11, od11, .func (PySem.W.fnOf "word" "Scaled.word" (defArgs s_Scaled_word) (defBody s_Scaled_word) (defScope s_Scaled_word) .none kV11 dc11 pm11 an11 cd11 ct11), sl11⟩) (c11 : PySem.W.codeIn K cd11 "Scaled.word" = true) (k11 : PySem.W.keepIn K (.ref f11) = true)
    (a12 : PySem.W.findIn K (.ref c_Scaled) "told" = some (some (.ref f12))) (i12 : PySem.W.isFn K (.ref f12) = true)
    (l12 : K.lookup f12 = some ⟨oc12, od12, .func (PySem.W.fnOf "told" "Scaled.told" (defArgs s_Scaled_told) (defBody s_Scaled_told) (defScope s_Scaled_told) .none kV12 dc12 pm12 an12 cd12 ct12), sl12⟩) (c12 : PySem.W.codeIn K cd12 "Scaled.told" = true) (k12 : PySem.W.keepIn K (.ref f12) = true)
    (a13 : PySem.W.findIn K (.ref c_Early) "__init__" = some (some (.ref f13))) (i13 : PySem.W.isFn K (.ref f13) = true)
    (l13 : K.lookup f13 = some ⟨oc13, od13, .func (PySem.W.fnOf "__init__" "Early.__init__" (defArgs s_Early___init__) (defBody s_Early___init__) (defScope s_Early___init__) .none kV13 dc13 pm13 an13 cd13 ct13), sl13⟩) (c13 : PySem.W.codeIn K cd13 "Early.__init__" = true) (k13 : PySem.W.keepIn K (.ref f13) = true)
    (a14 : PySem.W.findIn K (.ref c_Early) "word" = some (some (.ref f14))) (i14 : PySem.W.isFn K (.ref f14) = true)
    (l14 : K.lookup f14 = some ⟨oc14, od14, .func (PySem.W.fnOf "word" "Early.word" (defArgs s_Early_word) (defBody s_Early_word) (defScope s_Early_word) .none kV14 dc14 pm14 an14 cd14 ct14), sl14⟩) (c14 : PySem.W.codeIn K cd14 "Early.word" = true) (k14 : PySem.W.keepIn K (.ref f14) = true)
    (a15 : PySem.W.findIn K (.ref c_Early) "told" = some (some (.ref f15))) (i15 : PySem.W.isFn K (.ref f15) = true)
    (l15 : K.lookup f15 = some ⟨oc15, od15, .func (PySem.W.fnOf "told" "Early.told" (defArgs s_Early_told) (defBody s_Early_told) (defScope s_Early_told) .none kV15 dc15 pm15 an15 cd15 ct15), sl15⟩) (c15 : PySem.W.codeIn K cd15 "Early.told" = true) (k15 : PySem.W.keepIn K (.ref f15) = true)
    (a16 : PySem.W.findIn K (.ref c_More) "__init__" = some (some (.ref f16))) (i16 : PySem.W.isFn K (.ref f16) = true)
    (l16 : K.lookup f16 = some ⟨oc16, od16, .func (PySem.W.fnOf "__init__" "More.__init__" (defArgs s_More___init__) (defBody s_More___init__) (defScope s_More___init__) .none kV16 dc16 pm16 an16 cd16 ct16), sl16⟩) (c16 : PySem.W.codeIn K cd16 "More.__init__" = true) (k16 : PySem.W.keepIn K (.ref f16) = true)
    (a17 : PySem.W.findIn K (.ref c_More) "word" = some (some (.ref f17))) (i17 : PySem.W.isFn K (.ref f17) = true)
    (l17 : K.lookup f17 = some ⟨oc17, od17, .func (PySem.W.fnOf "word" "More.word" (defArgs s_More_word) (defBody s_More_word) (defScope s_More_word) .none kV17 dc17 pm17 an17 cd17 ct17), sl17⟩) (c17 : PySem.W.codeIn K cd17 "More.word" = true) (k17 : PySem.W.keepIn K (.ref f17) = true)
    (a18 : PySem.W.findIn K (.ref c_More) "told" = some (some (.ref f18))) (i18 : PySem.W.isFn K (.ref f18) = true)
    (l18 : K.lookup f18 = some ⟨oc18, od18, .func (PySem.W.fnOf "told" "More.told" (defArgs s_More_told) (defBody s_More_told) (defScope s_More_told) .none kV18 dc18 pm18 an18 cd18 ct18), sl18⟩) (c18 : PySem.W.codeIn K cd18 "More.told" = true) (k18 : PySem.W.keepIn K (.ref f18) = true)
    (a19 : PySem.W.findIn K (.ref c_Wide) "__init__" = some (some (.ref f19))) (i19 : PySem.W.isFn K (.ref f19) = true)
    (l19 : K.lookup f19 = some ⟨oc19, od19, .func (PySem.W.fnOf "__init__" "Wide.__init__" (defArgs s_Wide___init__) (defBody s_Wide___init__) (defScope s_Wide___init__) .none kV19 dc19 pm19 an19 cd19 ct19), sl19⟩) (c19 : PySem.W.codeIn K cd19 "Wide.__init__" = true) (k19 : PySem.W.keepIn K (.ref f19) = true)
    (a20 : PySem.W.findIn K (.ref c_Wide) "word" = some (some (.ref f20))) (i20 : PySem.W.isFn K (.ref f20) = true)
    (l20 : K.lookup f20 = some ⟨oc20, od20, .func (PySem.W.fnOf "word" "Wide.word" (defArgs s_Wide_word) (defBody s_Wide_word) (defScope s_Wide_word) .none kV20 dc20 pm20 an20 cd20 ct20), sl20⟩) (c20 : PySem.W.codeIn K cd20 "Wide.word" = true) (k20 : PySem.W.keepIn K (.ref f20) = true)
    (a21 : PySem.W.findIn K (.ref c_Wide) "told" = some (some (.ref f21))) (i21 : PySem.W.isFn K (.ref f21) = true)
    (l21 : K.lookup f21 = some ⟨oc21, od21, .func (PySem.W.fnOf "told" "Wide.told" (defArgs s_Wide_told) (defBody s_Wide_told) (defScope s_Wide_told) .none kV21 dc21 pm21 an21 cd21 ct21), sl21⟩) (c21 : PySem.W.codeIn K cd21 "Wide.told" = true) (k21 : PySem.W.keepIn K (.ref f21) = true)
    (a22 : PySem.W.nsIn K mainGlobals "is_factor" = some (some (.ref f22)))
    (l22 : K.lookup f22 = some ⟨oc22, od22, .func (PySem.W.fnOf "is_factor" "is_factor" (defArgs s_is_factor) (defBody s_is_factor) (defScope s_is_factor) .none kV22 dc22 pm22 an22 cd22 ct22), sl22⟩) (c22 : PySem.W.codeIn K cd22 "is_factor" = true) (k22 : PySem.W.keepIn K (.ref f22) = true)
    (a23 : PySem.W.nsIn K mainGlobals "is_shift" = some (some (.ref f23)))
    (l23 : K.lookup f23 = some ⟨oc23, od23, .func (PySem.W.fnOf "is_shift" "is_shift" (defArgs s_is_shift) (defBody s_is_shift) (defScope s_is_shift) .none kV23 dc23 pm23 an23 cd23 ct23), sl23⟩) (c23 : PySem.W.codeIn K cd23 "is_shift" = true) (k23 : PySem.W.keepIn K (.ref f23) = true)
    (a24 : PySem.W.nsIn K mainGlobals "need_prices" = some (some (.ref f24)))
    (l24 : K.lookup f24 = some ⟨oc24, od24, .func (PySem.W.fnOf "need_prices" "need_prices" (defArgs s_need_prices) (defBody s_need_prices) (defScope s_need_prices) .none kV24 dc24 pm24 an24 cd24 ct24), sl24⟩) (c24 : PySem.W.codeIn K cd24 "need_prices" = true) (k24 : PySem.W.keepIn K (.ref f24) = true)
    (a25 : PySem.W.nsIn K mainGlobals "ceiling" = some (some (.ref f25)))
    (l25 : K.lookup f25 = some ⟨oc25, od25, .func (PySem.W.fnOf "ceiling" "ceiling" (defArgs s_ceiling) (defBody s_ceiling) (defScope s_ceiling) .none kV25 dc25 pm25 an25 cd25 ct25), sl25⟩) (c25 : PySem.W.codeIn K cd25 "ceiling" = true) (k25 : PySem.W.keepIn K (.ref f25) = true)
    (a26 : PySem.W.nsIn K mainGlobals "candidates" = some (some (.ref f26)))
    (l26 : K.lookup f26 = some ⟨oc26, od26, .func (PySem.W.fnOf "candidates" "candidates" (defArgs s_candidates) (defBody s_candidates) (defScope s_candidates) .none kV26 dc26 pm26 an26 cd26 ct26), sl26⟩) (c26 : PySem.W.codeIn K cd26 "candidates" = true) (k26 : PySem.W.keepIn K (.ref f26) = true)
    (a27 : PySem.W.nsIn K mainGlobals "scaled_candidates" = some (some (.ref f27)))
    (l27 : K.lookup f27 = some ⟨oc27, od27, .func (PySem.W.fnOf "scaled_candidates" "scaled_candidates" (defArgs s_scaled_candidates) (defBody s_scaled_candidates) (defScope s_scaled_candidates) .none kV27 dc27 pm27 an27 cd27 ct27), sl27⟩) (c27 : PySem.W.codeIn K cd27 "scaled_candidates" = true) (k27 : PySem.W.keepIn K (.ref f27) = true)
    (a28 : PySem.W.nsIn K mainGlobals "early_candidates" = some (some (.ref f28)))
    (l28 : K.lookup f28 = some ⟨oc28, od28, .func (PySem.W.fnOf "early_candidates" "early_candidates" (defArgs s_early_candidates) (defBody s_early_candidates) (defScope s_early_candidates) .none kV28 dc28 pm28 an28 cd28 ct28), sl28⟩) (c28 : PySem.W.codeIn K cd28 "early_candidates" = true) (k28 : PySem.W.keepIn K (.ref f28) = true)
    (a29 : PySem.W.nsIn K mainGlobals "more_candidates" = some (some (.ref f29)))
    (l29 : K.lookup f29 = some ⟨oc29, od29, .func (PySem.W.fnOf "more_candidates" "more_candidates" (defArgs s_more_candidates) (defBody s_more_candidates) (defScope s_more_candidates) .none kV29 dc29 pm29 an29 cd29 ct29), sl29⟩) (c29 : PySem.W.codeIn K cd29 "more_candidates" = true) (k29 : PySem.W.keepIn K (.ref f29) = true)
    (a30 : PySem.W.nsIn K mainGlobals "form_words" = some (some (.ref f30)))
    (l30 : K.lookup f30 = some ⟨oc30, od30, .func (PySem.W.fnOf "form_words" "form_words" (defArgs s_form_words) (defBody s_form_words) (defScope s_form_words) .none kV30 dc30 pm30 an30 cd30 ct30), sl30⟩) (c30 : PySem.W.codeIn K cd30 "form_words" = true) (k30 : PySem.W.keepIn K (.ref f30) = true)
    (a31 : PySem.W.nsIn K mainGlobals "need_signed_divisor" = some (some (.ref f31)))
    (l31 : K.lookup f31 = some ⟨oc31, od31, .func (PySem.W.fnOf "need_signed_divisor" "need_signed_divisor" (defArgs s_need_signed_divisor) (defBody s_need_signed_divisor) (defScope s_need_signed_divisor) .none kV31 dc31 pm31 an31 cd31 ct31), sl31⟩) (c31 : PySem.W.codeIn K cd31 "need_signed_divisor" = true) (k31 : PySem.W.keepIn K (.ref f31) = true)
    (a32 : PySem.W.findIn K (.ref c_Cutting) "__init__" = some (some (.ref f32))) (i32 : PySem.W.isFn K (.ref f32) = true)
    (l32 : K.lookup f32 = some ⟨oc32, od32, .func (PySem.W.fnOf "__init__" "Cutting.__init__" (defArgs s_Cutting___init__) (defBody s_Cutting___init__) (defScope s_Cutting___init__) .none kV32 dc32 pm32 an32 cd32 ct32), sl32⟩) (c32 : PySem.W.codeIn K cd32 "Cutting.__init__" = true) (k32 : PySem.W.keepIn K (.ref f32) = true)
    (a33 : PySem.W.findIn K (.ref c_Cutting) "word" = some (some (.ref f33))) (i33 : PySem.W.isFn K (.ref f33) = true)
    (l33 : K.lookup f33 = some ⟨oc33, od33, .func (PySem.W.fnOf "word" "Cutting.word" (defArgs s_Cutting_word) (defBody s_Cutting_word) (defScope s_Cutting_word) .none kV33 dc33 pm33 an33 cd33 ct33), sl33⟩) (c33 : PySem.W.codeIn K cd33 "Cutting.word" = true) (k33 : PySem.W.keepIn K (.ref f33) = true)
    (a34 : PySem.W.findIn K (.ref c_Cutting) "told" = some (some (.ref f34))) (i34 : PySem.W.isFn K (.ref f34) = true)
    (l34 : K.lookup f34 = some ⟨oc34, od34, .func (PySem.W.fnOf "told" "Cutting.told" (defArgs s_Cutting_told) (defBody s_Cutting_told) (defScope s_Cutting_told) .none kV34 dc34 pm34 an34 cd34 ct34), sl34⟩) (c34 : PySem.W.codeIn K cd34 "Cutting.told" = true) (k34 : PySem.W.keepIn K (.ref f34) = true)
    (a35 : PySem.W.findIn K (.ref c_Cutting) "row_list" = some (some (.ref f35))) (i35 : PySem.W.isFn K (.ref f35) = true)
    (l35 : K.lookup f35 = some ⟨oc35, od35, .func (PySem.W.fnOf "row_list" "Cutting.row_list" (defArgs s_Cutting_row_list) (defBody s_Cutting_row_list) (defScope s_Cutting_row_list) .none kV35 dc35 pm35 an35 cd35 ct35), sl35⟩) (c35 : PySem.W.codeIn K cd35 "Cutting.row_list" = true) (k35 : PySem.W.keepIn K (.ref f35) = true)
    (a36 : PySem.W.findIn K (.ref c_Turned) "__init__" = some (some (.ref f36))) (i36 : PySem.W.isFn K (.ref f36) = true)
    (l36 : K.lookup f36 = some ⟨oc36, od36, .func (PySem.W.fnOf "__init__" "Turned.__init__" (defArgs s_Turned___init__) (defBody s_Turned___init__) (defScope s_Turned___init__) .none kV36 dc36 pm36 an36 cd36 ct36), sl36⟩) (c36 : PySem.W.codeIn K cd36 "Turned.__init__" = true) (k36 : PySem.W.keepIn K (.ref f36) = true)
    (a37 : PySem.W.findIn K (.ref c_Turned) "word" = some (some (.ref f37))) (i37 : PySem.W.isFn K (.ref f37) = true)
    (l37 : K.lookup f37 = some ⟨oc37, od37, .func (PySem.W.fnOf "word" "Turned.word" (defArgs s_Turned_word) (defBody s_Turned_word) (defScope s_Turned_word) .none kV37 dc37 pm37 an37 cd37 ct37), sl37⟩) (c37 : PySem.W.codeIn K cd37 "Turned.word" = true) (k37 : PySem.W.keepIn K (.ref f37) = true)
    (a38 : PySem.W.findIn K (.ref c_Turned) "told" = some (some (.ref f38))) (i38 : PySem.W.isFn K (.ref f38) = true)
    (l38 : K.lookup f38 = some ⟨oc38, od38, .func (PySem.W.fnOf "told" "Turned.told" (defArgs s_Turned_told) (defBody s_Turned_told) (defScope s_Turned_told) .none kV38 dc38 pm38 an38 cd38 ct38), sl38⟩) (c38 : PySem.W.codeIn K cd38 "Turned.told" = true) (k38 : PySem.W.keepIn K (.ref f38) = true)
    (a39 : PySem.W.findIn K (.ref c_Turned) "row_list" = some (some (.ref f39))) (i39 : PySem.W.isFn K (.ref f39) = true)
    (l39 : K.lookup f39 = some ⟨oc39, od39, .func (PySem.W.fnOf "row_list" "Turned.row_list" (defArgs s_Turned_row_list) (defBody s_Turned_row_list) (defScope s_Turned_row_list) .none kV39 dc39 pm39 an39 cd39 ct39), sl39⟩) (c39 : PySem.W.codeIn K cd39 "Turned.row_list" = true) (k39 : PySem.W.keepIn K (.ref f39) = true)
    (a40 : PySem.W.nsIn K mainGlobals "signed_candidates" = some (some (.ref f40)))
    (l40 : K.lookup f40 = some ⟨oc40, od40, .func (PySem.W.fnOf "signed_candidates" "signed_candidates" (defArgs s_signed_candidates) (defBody s_signed_candidates) (defScope s_signed_candidates) .none kV40 dc40 pm40 an40 cd40 ct40), sl40⟩) (c40 : PySem.W.codeIn K cd40 "signed_candidates" = true) (k40 : PySem.W.keepIn K (.ref f40) = true)
    (a41 : PySem.W.nsIn K mainGlobals "signed_words" = some (some (.ref f41)))
    (l41 : K.lookup f41 = some ⟨oc41, od41, .func (PySem.W.fnOf "signed_words" "signed_words" (defArgs s_signed_words) (defBody s_signed_words) (defScope s_signed_words) .none kV41 dc41 pm41 an41 cd41 ct41), sl41⟩) (c41 : PySem.W.codeIn K cd41 "signed_words" = true) (k41 : PySem.W.keepIn K (.ref f41) = true)
    (a42 : PySem.W.nsIn K mainGlobals "price_of_signed" = some (some (.ref f42)))
    (l42 : K.lookup f42 = some ⟨oc42, od42, .func (PySem.W.fnOf "price_of_signed" "price_of_signed" (defArgs s_price_of_signed) (defBody s_price_of_signed) (defScope s_price_of_signed) .none kV42 dc42 pm42 an42 cd42 ct42), sl42⟩) (c42 : PySem.W.codeIn K cd42 "price_of_signed" = true) (k42 : PySem.W.keepIn K (.ref f42) = true)
    (a43 : PySem.W.nsIn K mainGlobals "_law_start" = some (some (.ref f43)))
    (l43 : K.lookup f43 = some ⟨oc43, od43, .func (PySem.W.fnOf "_law_start" "_law_start" (defArgs s__law_start) (defBody s__law_start) (defScope s__law_start) .none kV43 dc43 pm43 an43 cd43 ct43), sl43⟩) (c43 : PySem.W.codeIn K cd43 "_law_start" = true) (k43 : PySem.W.keepIn K (.ref f43) = true)
    (a44 : PySem.W.nsIn K mainGlobals "_law_draw" = some (some (.ref f44)))
    (l44 : K.lookup f44 = some ⟨oc44, od44, .func (PySem.W.fnOf "_law_draw" "_law_draw" (defArgs s__law_draw) (defBody s__law_draw) (defScope s__law_draw) .none kV44 dc44 pm44 an44 cd44 ct44), sl44⟩) (c44 : PySem.W.codeIn K cd44 "_law_draw" = true) (k44 : PySem.W.keepIn K (.ref f44) = true)
    (a45 : PySem.W.nsIn K mainGlobals "_law_twos" = some (some (.ref f45)))
    (l45 : K.lookup f45 = some ⟨oc45, od45, .func (PySem.W.fnOf "_law_twos" "_law_twos" (defArgs s__law_twos) (defBody s__law_twos) (defScope s__law_twos) .none kV45 dc45 pm45 an45 cd45 ct45), sl45⟩) (c45 : PySem.W.codeIn K cd45 "_law_twos" = true) (k45 : PySem.W.keepIn K (.ref f45) = true)
    (a46 : PySem.W.nsIn K mainGlobals "_law_divisor" = some (some (.ref f46)))
    (l46 : K.lookup f46 = some ⟨oc46, od46, .func (PySem.W.fnOf "_law_divisor" "_law_divisor" (defArgs s__law_divisor) (defBody s__law_divisor) (defScope s__law_divisor) .none kV46 dc46 pm46 an46 cd46 ct46), sl46⟩) (c46 : PySem.W.codeIn K cd46 "_law_divisor" = true) (k46 : PySem.W.keepIn K (.ref f46) = true)
    (a47 : PySem.W.nsIn K mainGlobals "_law_signed_divisor" = some (some (.ref f47)))
    (l47 : K.lookup f47 = some ⟨oc47, od47, .func (PySem.W.fnOf "_law_signed_divisor" "_law_signed_divisor" (defArgs s__law_signed_divisor) (defBody s__law_signed_divisor) (defScope s__law_signed_divisor) .none kV47 dc47 pm47 an47 cd47 ct47), sl47⟩) (c47 : PySem.W.codeIn K cd47 "_law_signed_divisor" = true) (k47 : PySem.W.keepIn K (.ref f47) = true)
    (a48 : PySem.W.nsIn K mainGlobals "_law_whole" = some (some (.ref f48)))
    (l48 : K.lookup f48 = some ⟨oc48, od48, .func (PySem.W.fnOf "_law_whole" "_law_whole" (defArgs s__law_whole) (defBody s__law_whole) (defScope s__law_whole) .none kV48 dc48 pm48 an48 cd48 ct48), sl48⟩) (c48 : PySem.W.codeIn K cd48 "_law_whole" = true) (k48 : PySem.W.keepIn K (.ref f48) = true)
    (a49 : PySem.W.nsIn K mainGlobals "_law_corners" = some (some (.ref f49)))
    (l49 : K.lookup f49 = some ⟨oc49, od49, .func (PySem.W.fnOf "_law_corners" "_law_corners" (defArgs s__law_corners) (defBody s__law_corners) (defScope s__law_corners) .none kV49 dc49 pm49 an49 cd49 ct49), sl49⟩) (c49 : PySem.W.codeIn K cd49 "_law_corners" = true) (k49 : PySem.W.keepIn K (.ref f49) = true)
    (a50 : PySem.W.nsIn K mainGlobals "_law_brought" = some (some (.ref f50)))
    (l50 : K.lookup f50 = some ⟨oc50, od50, .func (PySem.W.fnOf "_law_brought" "_law_brought" (defArgs s__law_brought) (defBody s__law_brought) (defScope s__law_brought) .none kV50 dc50 pm50 an50 cd50 ct50), sl50⟩) (c50 : PySem.W.codeIn K cd50 "_law_brought" = true) (k50 : PySem.W.keepIn K (.ref f50) = true)
    (a51 : PySem.W.nsIn K mainGlobals "_law_numbers" = some (some (.ref f51)))
    (l51 : K.lookup f51 = some ⟨oc51, od51, .func (PySem.W.fnOf "_law_numbers" "_law_numbers" (defArgs s__law_numbers) (defBody s__law_numbers) (defScope s__law_numbers) .none kV51 dc51 pm51 an51 cd51 ct51), sl51⟩) (c51 : PySem.W.codeIn K cd51 "_law_numbers" = true) (k51 : PySem.W.keepIn K (.ref f51) = true)
    (a52 : PySem.W.nsIn K mainGlobals "_law_cut" = some (some (.ref f52)))
    (l52 : K.lookup f52 = some ⟨oc52, od52, .func (PySem.W.fnOf "_law_cut" "_law_cut" (defArgs s__law_cut) (defBody s__law_cut) (defScope s__law_cut) .none kV52 dc52 pm52 an52 cd52 ct52), sl52⟩) (c52 : PySem.W.codeIn K cd52 "_law_cut" = true) (k52 : PySem.W.keepIn K (.ref f52) = true)
    (a53 : PySem.W.nsIn K mainGlobals "_law_signed_quotient" = some (some (.ref f53)))
    (l53 : K.lookup f53 = some ⟨oc53, od53, .func (PySem.W.fnOf "_law_signed_quotient" "_law_signed_quotient" (defArgs s__law_signed_quotient) (defBody s__law_signed_quotient) (defScope s__law_signed_quotient) .none kV53 dc53 pm53 an53 cd53 ct53), sl53⟩) (c53 : PySem.W.codeIn K cd53 "_law_signed_quotient" = true) (k53 : PySem.W.keepIn K (.ref f53) = true)
    (a54 : PySem.W.nsIn K mainGlobals "_law_signed_corners" = some (some (.ref f54)))
    (l54 : K.lookup f54 = some ⟨oc54, od54, .func (PySem.W.fnOf "_law_signed_corners" "_law_signed_corners" (defArgs s__law_signed_corners) (defBody s__law_signed_corners) (defScope s__law_signed_corners) .none kV54 dc54 pm54 an54 cd54 ct54), sl54⟩) (c54 : PySem.W.codeIn K cd54 "_law_signed_corners" = true) (k54 : PySem.W.keepIn K (.ref f54) = true)
    (a55 : PySem.W.nsIn K mainGlobals "_law_all_right" = some (some (.ref f55)))
    (l55 : K.lookup f55 = some ⟨oc55, od55, .func (PySem.W.fnOf "_law_all_right" "_law_all_right" (defArgs s__law_all_right) (defBody s__law_all_right) (defScope s__law_all_right) .none kV55 dc55 pm55 an55 cd55 ct55), sl55⟩) (c55 : PySem.W.codeIn K cd55 "_law_all_right" = true) (k55 : PySem.W.keepIn K (.ref f55) = true)
    (a56 : PySem.W.nsIn K mainGlobals "_law_up" = some (some (.ref f56)))
    (l56 : K.lookup f56 = some ⟨oc56, od56, .func (PySem.W.fnOf "_law_up" "_law_up" (defArgs s__law_up) (defBody s__law_up) (defScope s__law_up) .none kV56 dc56 pm56 an56 cd56 ct56), sl56⟩) (c56 : PySem.W.codeIn K cd56 "_law_up" = true) (k56 : PySem.W.keepIn K (.ref f56) = true)
    (a57 : PySem.W.nsIn K mainGlobals "_law_all" = some (some (.ref f57)))
    (l57 : K.lookup f57 = some ⟨oc57, od57, .func (PySem.W.fnOf "_law_all" "_law_all" (defArgs s__law_all) (defBody s__law_all) (defScope s__law_all) .none kV57 dc57 pm57 an57 cd57 ct57), sl57⟩) (c57 : PySem.W.codeIn K cd57 "_law_all" = true) (k57 : PySem.W.keepIn K (.ref f57) = true)
    (a58 : PySem.W.nsIn K mainGlobals "_law_all_signed" = some (some (.ref f58)))
    (l58 : K.lookup f58 = some ⟨oc58, od58, .func (PySem.W.fnOf "_law_all_signed" "_law_all_signed" (defArgs s__law_all_signed) (defBody s__law_all_signed) (defScope s__law_all_signed) .none kV58 dc58 pm58 an58 cd58 ct58), sl58⟩) (c58 : PySem.W.codeIn K cd58 "_law_all_signed" = true) (k58 : PySem.W.keepIn K (.ref f58) = true)
    (a59 : PySem.W.nsIn K mainGlobals "_law_made_of" = some (some (.ref f59)))
    (l59 : K.lookup f59 = some ⟨oc59, od59, .func (PySem.W.fnOf "_law_made_of" "_law_made_of" (defArgs s__law_made_of) (defBody s__law_made_of) (defScope s__law_made_of) .none kV59 dc59 pm59 an59 cd59 ct59), sl59⟩) (c59 : PySem.W.codeIn K cd59 "_law_made_of" = true) (k59 : PySem.W.keepIn K (.ref f59) = true)
    (a60 : PySem.W.nsIn K mainGlobals "_law_made_signed" = some (some (.ref f60)))
    (l60 : K.lookup f60 = some ⟨oc60, od60, .func (PySem.W.fnOf "_law_made_signed" "_law_made_signed" (defArgs s__law_made_signed) (defBody s__law_made_signed) (defScope s__law_made_signed) .none kV60 dc60 pm60 an60 cd60 ct60), sl60⟩) (c60 : PySem.W.codeIn K cd60 "_law_made_signed" = true) (k60 : PySem.W.keepIn K (.ref f60) = true)
    (a61 : PySem.W.nsIn K mainGlobals "_law_row_words" = some (some (.ref f61)))
    (l61 : K.lookup f61 = some ⟨oc61, od61, .func (PySem.W.fnOf "_law_row_words" "_law_row_words" (defArgs s__law_row_words) (defBody s__law_row_words) (defScope s__law_row_words) .none kV61 dc61 pm61 an61 cd61 ct61), sl61⟩) (c61 : PySem.W.codeIn K cd61 "_law_row_words" = true) (k61 : PySem.W.keepIn K (.ref f61) = true)
    (a62 : PySem.W.nsIn K mainGlobals "_law_prices" = some (some (.ref f62)))
    (l62 : K.lookup f62 = some ⟨oc62, od62, .func (PySem.W.fnOf "_law_prices" "_law_prices" (defArgs s__law_prices) (defBody s__law_prices) (defScope s__law_prices) .none kV62 dc62 pm62 an62 cd62 ct62), sl62⟩) (c62 : PySem.W.codeIn K cd62 "_law_prices" = true) (k62 : PySem.W.keepIn K (.ref f62) = true)
    (a63 : PySem.W.nsIn K mainGlobals "_law_no_prices" = some (some (.ref f63)))
    (l63 : K.lookup f63 = some ⟨oc63, od63, .func (PySem.W.fnOf "_law_no_prices" "_law_no_prices" (defArgs s__law_no_prices) (defBody s__law_no_prices) (defScope s__law_no_prices) .none kV63 dc63 pm63 an63 cd63 ct63), sl63⟩) (c63 : PySem.W.codeIn K cd63 "_law_no_prices" = true) (k63 : PySem.W.keepIn K (.ref f63) = true)
    (a64 : PySem.W.nsIn K mainGlobals "_law_agree" = some (some (.ref f64)))
    (l64 : K.lookup f64 = some ⟨oc64, od64, .func (PySem.W.fnOf "_law_agree" "_law_agree" (defArgs s__law_agree) (defBody s__law_agree) (defScope s__law_agree) .none kV64 dc64 pm64 an64 cd64 ct64), sl64⟩) (c64 : PySem.W.codeIn K cd64 "_law_agree" = true) (k64 : PySem.W.keepIn K (.ref f64) = true)
    (a65 : PySem.W.nsIn K mainGlobals "_law_costs" = some (some (.ref f65)))
    (l65 : K.lookup f65 = some ⟨oc65, od65, .func (PySem.W.fnOf "_law_costs" "_law_costs" (defArgs s__law_costs) (defBody s__law_costs) (defScope s__law_costs) .none kV65 dc65 pm65 an65 cd65 ct65), sl65⟩) (c65 : PySem.W.codeIn K cd65 "_law_costs" = true) (k65 : PySem.W.keepIn K (.ref f65) = true)
    (a66 : PySem.W.nsIn K mainGlobals "_law_refuses" = some (some (.ref f66)))
    (l66 : K.lookup f66 = some ⟨oc66, od66, .func (PySem.W.fnOf "_law_refuses" "_law_refuses" (defArgs s__law_refuses) (defBody s__law_refuses) (defScope s__law_refuses) .none kV66 dc66 pm66 an66 cd66 ct66), sl66⟩) (c66 : PySem.W.codeIn K cd66 "_law_refuses" = true) (k66 : PySem.W.keepIn K (.ref f66) = true)
    (a67 : PySem.W.nsIn K mainGlobals "_law_case" = some (some (.ref f67)))
    (l67 : K.lookup f67 = some ⟨oc67, od67, .func (PySem.W.fnOf "_law_case" "_law_case" (defArgs s__law_case) (defBody s__law_case) (defScope s__law_case) .none kV67 dc67 pm67 an67 cd67 ct67), sl67⟩) (c67 : PySem.W.codeIn K cd67 "_law_case" = true) (k67 : PySem.W.keepIn K (.ref f67) = true)
    (a68 : PySem.W.nsIn K mainGlobals "law" = some (some (.ref f68)))
    (l68 : K.lookup f68 = some ⟨oc68, od68, .func (PySem.W.fnOf "law" "law" (defArgs s_law) (defBody s_law) (defScope s_law) .none kV68 dc68 pm68 an68 cd68 ct68), sl68⟩) (c68 : PySem.W.codeIn K cd68 "law" = true) (k68 : PySem.W.keepIn K (.ref f68) = true)
    (aC_Form : PySem.W.nsIn K mainGlobals "Form" = some (some (.ref c_Form))) (pg_Form : PySem.W.plainGet K c_Form Str.empty = true) (hd_Form : PySem.W.hasDictIn K c_Form = true) (po_Form : PySem.W.plainOver K c_Form = true) (sa_Form : PySem.W.findIn K (.ref c_Form) "__setattr__" = some (some (.builtin "object.__setattr__")))
    (aC_Shifted : PySem.W.nsIn K mainGlobals "Shifted" = some (some (.ref c_Shifted))) (pg_Shifted : PySem.W.plainGet K c_Shifted Str.empty = true) (hd_Shifted : PySem.W.hasDictIn K c_Shifted = true) (po_Shifted : PySem.W.plainOver K c_Shifted = true) (sa_Shifted : PySem.W.findIn K (.ref c_Shifted) "__setattr__" = some (some (.builtin "object.__setattr__")))
    (mk_Shifted : PySem.W.makesIn K c_Shifted = true) (kc_Shifted : PySem.W.keepIn K (.ref c_Shifted) = true)
    (na_Shifted_shift : PySem.W.findIn K (.ref c_Shifted) "shift" = some none)
    (aC_Scaled : PySem.W.nsIn K mainGlobals "Scaled" = some (some (.ref c_Scaled))) (pg_Scaled : PySem.W.plainGet K c_Scaled Str.empty = true) (hd_Scaled : PySem.W.hasDictIn K c_Scaled = true) (po_Scaled : PySem.W.plainOver K c_Scaled = true) (sa_Scaled : PySem.W.findIn K (.ref c_Scaled) "__setattr__" = some (some (.builtin "object.__setattr__")))
    (mk_Scaled : PySem.W.makesIn K c_Scaled = true) (kc_Scaled : PySem.W.keepIn K (.ref c_Scaled) = true)
    (na_Scaled_factor : PySem.W.findIn K (.ref c_Scaled) "factor" = some none)
    (na_Scaled_shift : PySem.W.findIn K (.ref c_Scaled) "shift" = some none)
    (aC_Early : PySem.W.nsIn K mainGlobals "Early" = some (some (.ref c_Early))) (pg_Early : PySem.W.plainGet K c_Early Str.empty = true) (hd_Early : PySem.W.hasDictIn K c_Early = true) (po_Early : PySem.W.plainOver K c_Early = true) (sa_Early : PySem.W.findIn K (.ref c_Early) "__setattr__" = some (some (.builtin "object.__setattr__")))
    (mk_Early : PySem.W.makesIn K c_Early = true) (kc_Early : PySem.W.keepIn K (.ref c_Early) = true)
    (na_Early_early : PySem.W.findIn K (.ref c_Early) "early" = some none)
    (na_Early_factor : PySem.W.findIn K (.ref c_Early) "factor" = some none)
    (na_Early_shift : PySem.W.findIn K (.ref c_Early) "shift" = some none)
    (aC_More : PySem.W.nsIn K mainGlobals "More" = some (some (.ref c_More))) (pg_More : PySem.W.plainGet K c_More Str.empty = true) (hd_More : PySem.W.hasDictIn K c_More = true) (po_More : PySem.W.plainOver K c_More = true) (sa_More : PySem.W.findIn K (.ref c_More) "__setattr__" = some (some (.builtin "object.__setattr__")))
    (mk_More : PySem.W.makesIn K c_More = true) (kc_More : PySem.W.keepIn K (.ref c_More) = true)
    (na_More_factor : PySem.W.findIn K (.ref c_More) "factor" = some none)
    (na_More_shift : PySem.W.findIn K (.ref c_More) "shift" = some none)
    (aC_Wide : PySem.W.nsIn K mainGlobals "Wide" = some (some (.ref c_Wide))) (pg_Wide : PySem.W.plainGet K c_Wide Str.empty = true) (hd_Wide : PySem.W.hasDictIn K c_Wide = true) (po_Wide : PySem.W.plainOver K c_Wide = true) (sa_Wide : PySem.W.findIn K (.ref c_Wide) "__setattr__" = some (some (.builtin "object.__setattr__")))
    (mk_Wide : PySem.W.makesIn K c_Wide = true) (kc_Wide : PySem.W.keepIn K (.ref c_Wide) = true)
    (na_Wide_factor : PySem.W.findIn K (.ref c_Wide) "factor" = some none)
    (na_Wide_shift : PySem.W.findIn K (.ref c_Wide) "shift" = some none)
    (aC_Cutting : PySem.W.nsIn K mainGlobals "Cutting" = some (some (.ref c_Cutting))) (pg_Cutting : PySem.W.plainGet K c_Cutting Str.empty = true) (hd_Cutting : PySem.W.hasDictIn K c_Cutting = true) (po_Cutting : PySem.W.plainOver K c_Cutting = true) (sa_Cutting : PySem.W.findIn K (.ref c_Cutting) "__setattr__" = some (some (.builtin "object.__setattr__")))
    (mk_Cutting : PySem.W.makesIn K c_Cutting = true) (kc_Cutting : PySem.W.keepIn K (.ref c_Cutting) = true)
    (na_Cutting_factor : PySem.W.findIn K (.ref c_Cutting) "factor" = some none)
    (na_Cutting_shift : PySem.W.findIn K (.ref c_Cutting) "shift" = some none)
    (aC_Turned : PySem.W.nsIn K mainGlobals "Turned" = some (some (.ref c_Turned))) (pg_Turned : PySem.W.plainGet K c_Turned Str.empty = true) (hd_Turned : PySem.W.hasDictIn K c_Turned = true) (po_Turned : PySem.W.plainOver K c_Turned = true) (sa_Turned : PySem.W.findIn K (.ref c_Turned) "__setattr__" = some (some (.builtin "object.__setattr__")))
    (mk_Turned : PySem.W.makesIn K c_Turned = true) (kc_Turned : PySem.W.keepIn K (.ref c_Turned) = true)
    (na_Turned_form : PySem.W.findIn K (.ref c_Turned) "form" = some none)
    (aC_SignedForm : PySem.W.nsIn K mainGlobals "SignedForm" = some (some (.ref c_SignedForm))) (pg_SignedForm : PySem.W.plainGet K c_SignedForm Str.empty = true) (hd_SignedForm : PySem.W.hasDictIn K c_SignedForm = true) (po_SignedForm : PySem.W.plainOver K c_SignedForm = true) (sa_SignedForm : PySem.W.findIn K (.ref c_SignedForm) "__setattr__" = some (some (.builtin "object.__setattr__")))
    (aC_NoPrices : PySem.W.nsIn K mainGlobals "NoPrices" = some (some (.ref c_NoPrices)))
    (xe_NoPrices : excFn K c_NoPrices f1 = true) (xs_NoPrices : PySem.W.findIn K (.ref c_NoPrices) "__setattr__" = some (some (.builtin "object.__setattr__"))) (xm_NoPrices : PySem.W.mroIn K c_NoPrices (.type "object") = some true) (xn_NoPrices : PySem.W.findIn K (.ref c_NoPrices) "found" = some none) (xf_NoPrices : PySem.W.typeIn K (.ref f1) = some (.type "function")) (xk_NoPrices : PySem.W.keepIn K (.ref c_NoPrices) = true)
    {dW_ROW_WORDS : Option Addr} {nW_ROW_WORDS : Nat} {sW_ROW_WORDS : Array (Option Value)} {u0_ROW_WORDS u1_ROW_WORDS u2_ROW_WORDS u3_ROW_WORDS u4_ROW_WORDS u5_ROW_WORDS u6_ROW_WORDS u7_ROW_WORDS u8_ROW_WORDS u9_ROW_WORDS u10_ROW_WORDS u11_ROW_WORDS u12_ROW_WORDS u13_ROW_WORDS u14_ROW_WORDS u15_ROW_WORDS : Tok} (aW_ROW_WORDS : PySem.W.nsIn K mainGlobals "ROW_WORDS" = some (some (.ref c_ROW_WORDS))) (lW_ROW_WORDS : K.lookup c_ROW_WORDS = some ⟨.type "tuple", dW_ROW_WORDS, .seq #[.str "set" u0_ROW_WORDS, .str "copy" u1_ROW_WORDS, .str "sum" u2_ROW_WORDS, .str "gap" u3_ROW_WORDS, .str "low" u4_ROW_WORDS, .str "high" u5_ROW_WORDS, .str "left" u6_ROW_WORDS, .str "right" u7_ROW_WORDS, .str "slide" u8_ROW_WORDS, .str "and" u9_ROW_WORDS, .str "or" u10_ROW_WORDS, .str "unlike" u11_ROW_WORDS, .str "under" u12_ROW_WORDS, .str "pick" u13_ROW_WORDS, .str "mark" u14_ROW_WORDS, .str "turns" u15_ROW_WORDS] nW_ROW_WORDS, sW_ROW_WORDS⟩)
    {eD_ROWS_AHEAD : Nat} {kD0_ROWS_AHEAD kD1_ROWS_AHEAD kD2_ROWS_AHEAD kD3_ROWS_AHEAD kD4_ROWS_AHEAD : Tok} {vD0_ROWS_AHEAD vD1_ROWS_AHEAD vD2_ROWS_AHEAD vD3_ROWS_AHEAD vD4_ROWS_AHEAD : Addr} (aW_ROWS_AHEAD : PySem.W.nsIn K mainGlobals "ROWS_AHEAD" = some (some (.ref c_ROWS_AHEAD))) (lW_ROWS_AHEAD : K.lookup c_ROWS_AHEAD = some ⟨.type "dict", none, .dict #[⟨PyData.keyHash w.params "shifted", .str "shifted" kD0_ROWS_AHEAD, .ref vD0_ROWS_AHEAD⟩, ⟨PyData.keyHash w.params "scaled", .str "scaled" kD1_ROWS_AHEAD, .ref vD1_ROWS_AHEAD⟩, ⟨PyData.keyHash w.params "early", .str "early" kD2_ROWS_AHEAD, .ref vD2_ROWS_AHEAD⟩, ⟨PyData.keyHash w.params "more", .str "more" kD3_ROWS_AHEAD, .ref vD3_ROWS_AHEAD⟩, ⟨PyData.keyHash w.params "wide", .str "wide" kD4_ROWS_AHEAD, .ref vD4_ROWS_AHEAD⟩] eD_ROWS_AHEAD, #[]⟩)
    {dD0_ROWS_AHEAD : Option Addr} {nD0_ROWS_AHEAD : Nat} {tD0_ROWS_AHEAD : Array (Option Value)}  (lD0_ROWS_AHEAD : K.lookup vD0_ROWS_AHEAD = some ⟨.type "tuple", dD0_ROWS_AHEAD, .seq #[] nD0_ROWS_AHEAD, tD0_ROWS_AHEAD⟩)
    {dD1_ROWS_AHEAD : Option Addr} {nD1_ROWS_AHEAD : Nat} {tD1_ROWS_AHEAD : Array (Option Value)} {uD1_0_ROWS_AHEAD uD1_1_ROWS_AHEAD : Tok} (lD1_ROWS_AHEAD : K.lookup vD1_ROWS_AHEAD = some ⟨.type "tuple", dD1_ROWS_AHEAD, .seq #[.str "set" uD1_0_ROWS_AHEAD, .str "high" uD1_1_ROWS_AHEAD] nD1_ROWS_AHEAD, tD1_ROWS_AHEAD⟩)
    {dD2_ROWS_AHEAD : Option Addr} {nD2_ROWS_AHEAD : Nat} {tD2_ROWS_AHEAD : Array (Option Value)} {uD2_0_ROWS_AHEAD uD2_1_ROWS_AHEAD uD2_2_ROWS_AHEAD : Tok} (lD2_ROWS_AHEAD : K.lookup vD2_ROWS_AHEAD = some ⟨.type "tuple", dD2_ROWS_AHEAD, .seq #[.str "right" uD2_0_ROWS_AHEAD, .str "set" uD2_1_ROWS_AHEAD, .str "high" uD2_2_ROWS_AHEAD] nD2_ROWS_AHEAD, tD2_ROWS_AHEAD⟩)
    {dD3_ROWS_AHEAD : Option Addr} {nD3_ROWS_AHEAD : Nat} {tD3_ROWS_AHEAD : Array (Option Value)} {uD3_0_ROWS_AHEAD uD3_1_ROWS_AHEAD uD3_2_ROWS_AHEAD uD3_3_ROWS_AHEAD uD3_4_ROWS_AHEAD : Tok} (lD3_ROWS_AHEAD : K.lookup vD3_ROWS_AHEAD = some ⟨.type "tuple", dD3_ROWS_AHEAD, .seq #[.str "set" uD3_0_ROWS_AHEAD, .str "low" uD3_1_ROWS_AHEAD, .str "sum" uD3_2_ROWS_AHEAD, .str "high" uD3_3_ROWS_AHEAD, .str "sum" uD3_4_ROWS_AHEAD] nD3_ROWS_AHEAD, tD3_ROWS_AHEAD⟩)
    {dD4_ROWS_AHEAD : Option Addr} {nD4_ROWS_AHEAD : Nat} {tD4_ROWS_AHEAD : Array (Option Value)} {uD4_0_ROWS_AHEAD uD4_1_ROWS_AHEAD uD4_2_ROWS_AHEAD uD4_3_ROWS_AHEAD uD4_4_ROWS_AHEAD : Tok} (lD4_ROWS_AHEAD : K.lookup vD4_ROWS_AHEAD = some ⟨.type "tuple", dD4_ROWS_AHEAD, .seq #[.str "set" uD4_0_ROWS_AHEAD, .str "high" uD4_1_ROWS_AHEAD, .str "gap" uD4_2_ROWS_AHEAD, .str "right" uD4_3_ROWS_AHEAD, .str "sum" uD4_4_ROWS_AHEAD] nD4_ROWS_AHEAD, tD4_ROWS_AHEAD⟩)
    (kf_kc : PySem.W.isClsIn K c_Form = true)
    (kf_kt : PySem.W.typeIn K (.ref c_Form) = some (.type "type"))
    (kf_og : PySem.W.specialIn K (.builtin "object.__class__") "__get__" = some (some (.builtin "getset_descriptor.__get__")))
    (kf_ot : PySem.W.takesIn K (.builtin "object.__class__") = some true)
    (kf_dc_Shifted : PySem.W.findIn K (.ref c_Shifted) "__class__" = some (some (.builtin "object.__class__")))
    (kf_dc_Scaled : PySem.W.findIn K (.ref c_Scaled) "__class__" = some (some (.builtin "object.__class__")))
    (kf_dc_Early : PySem.W.findIn K (.ref c_Early) "__class__" = some (some (.builtin "object.__class__")))
    (kf_dc_More : PySem.W.findIn K (.ref c_More) "__class__" = some (some (.builtin "object.__class__")))
    (kf_dc_Wide : PySem.W.findIn K (.ref c_Wide) "__class__" = some (some (.builtin "object.__class__")))
    (kf_mo_Shifted : PySem.W.mroIn K c_Shifted (.type "object") = some true)
    (kf_mo_Scaled : PySem.W.mroIn K c_Scaled (.type "object") = some true)
    (kf_mo_Early : PySem.W.mroIn K c_Early (.type "object") = some true)
    (kf_mo_More : PySem.W.mroIn K c_More (.type "object") = some true)
    (kf_mo_Wide : PySem.W.mroIn K c_Wide (.type "object") = some true)
    (kf_ik_Shifted : PySem.W.mroIn K c_Shifted (.ref c_Form) = some true)
    (kf_ik_Scaled : PySem.W.mroIn K c_Scaled (.ref c_Form) = some true)
    (kf_ik_Early : PySem.W.mroIn K c_Early (.ref c_Form) = some true)
    (kf_ik_More : PySem.W.mroIn K c_More (.ref c_Form) = some true)
    (kf_ik_Wide : PySem.W.mroIn K c_Wide (.ref c_Form) = some true)
    (kf_ga : PySem.W.findIn K (.ref c_NoPrices) "__getattribute__" = some (some (.builtin "BaseException.__getattribute__")))
    (kf_gn : PySem.W.findIn K (.ref c_NoPrices) "__getattr__" = some none)
    (kf_gc : PySem.W.findIn K (.ref c_NoPrices) "__class__" = some (some (.builtin "object.__class__")))
    (kf_mo : PySem.W.mroIn K c_NoPrices (.type "object") = some true)
    (kf_mb : PySem.W.mroIn K c_NoPrices (.type "BaseException") = some true)
    (kf_hd : PySem.W.hasDictIn K c_NoPrices = true)
    (kf_nf : PySem.W.findIn K (.ref c_NoPrices) "found" = some none)
    (kf_xc : PySem.W.isClsIn K c_NoPrices = true)
    (kf_xt : PySem.W.typeIn K (.ref c_NoPrices) = some (.type "type"))
    (kf_xm : PySem.W.mroIn K c_NoPrices (.ref c_NoPrices) = some true)
    (kf_xb : PySem.W.mroIn K c_NoPrices (.type "BaseException") = some true)
    (kf_dc_Cutting : PySem.W.findIn K (.ref c_Cutting) "__class__" = some (some (.builtin "object.__class__")))
    (kf_mo_Cutting : PySem.W.mroIn K c_Cutting (.type "object") = some true)
    (kf_dc_Turned : PySem.W.findIn K (.ref c_Turned) "__class__" = some (some (.builtin "object.__class__")))
    (kf_mo_Turned : PySem.W.mroIn K c_Turned (.type "object") = some true)
    (kf_kc_Cutting : PySem.W.isClsIn K c_Cutting = true)
    (kf_kt_Cutting : PySem.W.typeIn K (.ref c_Cutting) = some (.type "type"))
    (kf_kc_Turned : PySem.W.isClsIn K c_Turned = true)
    (kf_kt_Turned : PySem.W.typeIn K (.ref c_Turned) = some (.type "type"))
    (kf_kc_SignedForm : PySem.W.isClsIn K c_SignedForm = true)
    (kf_kt_SignedForm : PySem.W.typeIn K (.ref c_SignedForm) = some (.type "type"))
    (kf_m_Cutting_Cutting : PySem.W.mroIn K c_Cutting (.ref c_Cutting) = some true)
    (kf_m_Cutting_Turned : PySem.W.mroIn K c_Cutting (.ref c_Turned) = some false)
    (kf_m_Cutting_SignedForm : PySem.W.mroIn K c_Cutting (.ref c_SignedForm) = some true)
    (kf_m_Turned_Cutting : PySem.W.mroIn K c_Turned (.ref c_Cutting) = some false)
    (kf_m_Turned_Turned : PySem.W.mroIn K c_Turned (.ref c_Turned) = some true)
    (kf_m_Turned_SignedForm : PySem.W.mroIn K c_Turned (.ref c_SignedForm) = some true)
    (z_isinstance : PySem.W.nsIn K mainGlobals "isinstance" = some none) (z_int : PySem.W.nsIn K mainGlobals "int" = some none) (z_bool : PySem.W.nsIn K mainGlobals "bool" = some none) (z_str : PySem.W.nsIn K mainGlobals "str" = some none) (z_list : PySem.W.nsIn K mainGlobals "list" = some none) (z_dict : PySem.W.nsIn K mainGlobals "dict" = some none) (z_len : PySem.W.nsIn K mainGlobals "len" = some none) (z_max : PySem.W.nsIn K mainGlobals "max" = some none) (z_min : PySem.W.nsIn K mainGlobals "min" = some none) (z_range : PySem.W.nsIn K mainGlobals "range" = some none) (z_sorted : PySem.W.nsIn K mainGlobals "sorted" = some none) (z_zip : PySem.W.nsIn K mainGlobals "zip" = some none) (z_repr : PySem.W.nsIn K mainGlobals "repr" = some none) (z_sum : PySem.W.nsIn K mainGlobals "sum" = some none) (z_abs : PySem.W.nsIn K mainGlobals "abs" = some none) :
    ∃ fd : FuncData, (∀ (s : Shared) (v : Value), BindsTo s fd ⟨[v], []⟩ [("_law_script", v)]) ∧ ∀ base : Heap, K.In base → base.Ns mainGlobals mg → FnOk l.prog w K mg base CX0 11 fa fd ["_law_script"] ((spLaw K)) := by
  have e := hfa.symm.trans (PySem.W.mg_of X G a68)
  cases e
  have T : Txt K mg ⟨c_Form, c_Shifted, c_Scaled, c_Early, c_More, c_Wide, c_Cutting, c_Turned, c_SignedForm, c_NoPrices, c_ROW_WORDS, c_ROWS_AHEAD⟩ := ⟨PySem.W.mg_none_of X G z_isinstance, PySem.W.mg_none_of X G z_int, PySem.W.mg_none_of X G z_bool, PySem.W.mg_none_of X G z_str, PySem.W.mg_none_of X G z_list, PySem.W.mg_none_of X G z_dict, PySem.W.mg_none_of X G z_len, PySem.W.mg_none_of X G z_max, PySem.W.mg_none_of X G z_min, PySem.W.mg_none_of X G z_range, PySem.W.mg_none_of X G z_sorted, PySem.W.mg_none_of X G z_zip, PySem.W.mg_none_of X G z_repr, PySem.W.mg_none_of X G z_sum, PySem.W.mg_none_of X G z_abs, PySem.W.mg_of X G aC_Form, ⟨pg_Form, hd_Form, po_Form, sa_Form⟩, PySem.W.mg_of X G aC_Shifted, ⟨pg_Shifted, hd_Shifted, po_Shifted, sa_Shifted⟩, na_Shifted_shift, PySem.W.mg_of X G aC_Scaled, ⟨pg_Scaled, hd_Scaled, po_Scaled, sa_Scaled⟩, na_Scaled_factor, na_Scaled_shift, PySem.W.mg_of X G aC_Early, ⟨pg_Early, hd_Early, po_Early, sa_Early⟩, na_Early_early, na_Early_factor, na_Early_shift, PySem.W.mg_of X G aC_More, ⟨pg_More, hd_More, po_More, sa_More⟩, na_More_factor, na_More_shift, PySem.W.mg_of X G aC_Wide, ⟨pg_Wide, hd_Wide, po_Wide, sa_Wide⟩, na_Wide_factor, na_Wide_shift, PySem.W.mg_of X G aC_Cutting, ⟨pg_Cutting, hd_Cutting, po_Cutting, sa_Cutting⟩, na_Cutting_factor, na_Cutting_shift, PySem.W.mg_of X G aC_Turned, ⟨pg_Turned, hd_Turned, po_Turned, sa_Turned⟩, na_Turned_form, PySem.W.mg_of X G aC_SignedForm, ⟨pg_SignedForm, hd_SignedForm, po_SignedForm, sa_SignedForm⟩, PySem.W.mg_of X G aC_NoPrices, PySem.W.mg_of X G aW_ROW_WORDS, fun H => .inr ⟨_, _, _, lW_ROW_WORDS, rfl, rfl, (by show 16 ≤ sizeLine; decide), .cons ⟨_, rfl⟩ (.cons ⟨_, rfl⟩ (.cons ⟨_, rfl⟩ (.cons ⟨_, rfl⟩ (.cons ⟨_, rfl⟩ (.cons ⟨_, rfl⟩ (.cons ⟨_, rfl⟩ (.cons ⟨_, rfl⟩ (.cons ⟨_, rfl⟩ (.cons ⟨_, rfl⟩ (.cons ⟨_, rfl⟩ (.cons ⟨_, rfl⟩ (.cons ⟨_, rfl⟩ (.cons ⟨_, rfl⟩ (.cons ⟨_, rfl⟩ (.cons ⟨_, rfl⟩ (.nil))))))))))))))))⟩, PySem.W.mg_of X G aW_ROWS_AHEAD, kf_kc, kf_kt, kf_og, kf_ot, kf_dc_Shifted, kf_dc_Scaled, kf_dc_Early, kf_dc_More, kf_dc_Wide, kf_mo_Shifted, kf_mo_Scaled, kf_mo_Early, kf_mo_More, kf_mo_Wide, kf_ik_Shifted, kf_ik_Scaled, kf_ik_Early, kf_ik_More, kf_ik_Wide, kf_ga, kf_gn, kf_gc, kf_mo, kf_mb, kf_hd, kf_nf, kf_xc, kf_xt, kf_xm, kf_xb, kf_dc_Cutting, kf_mo_Cutting, kf_dc_Turned, kf_mo_Turned, kf_kc_Cutting, kf_kt_Cutting, kf_kc_Turned, kf_kt_Turned, kf_kc_SignedForm, kf_kt_SignedForm, kf_m_Cutting_Cutting, kf_m_Cutting_Turned, kf_m_Cutting_SignedForm, kf_m_Turned_Cutting, kf_m_Turned_Turned, kf_m_Turned_SignedForm⟩
  have F1 := fun_mk (st := s_NoPrices___init__) l1 c1 k1
  have b1 := F1.binds (ps := ["self", "found"]) fun _ _ _ _ _ _ us hl => match us, hl with | [_, _], _ => rfl
  have F2 := fun_mk (st := s_is_whole) l2 c2 k2
  have b2 := F2.binds (ps := ["thing"]) fun _ _ _ _ _ _ us hl => match us, hl with | [_], _ => rfl
  have F3 := fun_mk (st := s_is_between) l3 c3 k3
  have b3 := F3.binds (ps := ["thing", "low", "high"]) fun _ _ _ _ _ _ us hl => match us, hl with | [_, _, _], _ => rfl
  have F4 := fun_mk (st := s_need_width) l4 c4 k4
  have b4 := F4.binds (ps := ["width"]) fun _ _ _ _ _ _ us hl => match us, hl with | [_], _ => rfl
  have F5 := fun_mk (st := s_need_divisor) l5 c5 k5
  have b5 := F5.binds (ps := ["width", "d"]) fun _ _ _ _ _ _ us hl => match us, hl with | [_, _], _ => rfl
  have F6 := fun_mk (st := s_twos_in) l6 c6 k6
  have b6 := F6.binds (ps := ["d"]) fun _ _ _ _ _ _ us hl => match us, hl with | [_], _ => rfl
  have F7 := fun_mk (st := s_Shifted___init__) l7 c7 k7
  have b7 := F7.binds (ps := ["self", "shift"]) fun _ _ _ _ _ _ us hl => match us, hl with | [_, _], _ => rfl
  have F8 := fun_mk (st := s_Shifted_word) l8 c8 k8
  have b8 := F8.binds (ps := ["self"]) fun _ _ _ _ _ _ us hl => match us, hl with | [_], _ => rfl
  have F9 := fun_mk (st := s_Shifted_told) l9 c9 k9
  have b9 := F9.binds (ps := ["self"]) fun _ _ _ _ _ _ us hl => match us, hl with | [_], _ => rfl
  have F10 := fun_mk (st := s_Scaled___init__) l10 c10 k10
  have b10 := F10.binds (ps := ["self", "factor", "shift"]) fun _ _ _ _ _ _ us hl => match us, hl with | [_, _, _], _ => rfl
  have F11 := fun_mk (st := s_Scaled_word) l11 c11 k11
  have b11 := F11.binds (ps := ["self"]) fun _ _ _ _ _ _ us hl => match us, hl with | [_], _ => rfl
  have F12 := fun_mk (st := s_Scaled_told) l12 c12 k12
  have b12 := F12.binds (ps := ["self"]) fun _ _ _ _ _ _ us hl => match us, hl with | [_], _ => rfl
  have F13 := fun_mk (st := s_Early___init__) l13 c13 k13
  have b13 := F13.binds (ps := ["self", "early", "factor", "shift"]) fun _ _ _ _ _ _ us hl => match us, hl with | [_, _, _, _], _ => rfl
  have F14 := fun_mk (st := s_Early_word) l14 c14 k14
  have b14 := F14.binds (ps := ["self"]) fun _ _ _ _ _ _ us hl => match us, hl with | [_], _ => rfl
  have F15 := fun_mk (st := s_Early_told) l15 c15 k15
  have b15 := F15.binds (ps := ["self"]) fun _ _ _ _ _ _ us hl => match us, hl with | [_], _ => rfl
  have F16 := fun_mk (st := s_More___init__) l16 c16 k16
  have b16 := F16.binds (ps := ["self", "factor", "shift"]) fun _ _ _ _ _ _ us hl => match us, hl with | [_, _, _], _ => rfl
  have F17 := fun_mk (st := s_More_word) l17 c17 k17
  have b17 := F17.binds (ps := ["self"]) fun _ _ _ _ _ _ us hl => match us, hl with | [_], _ => rfl
  have F18 := fun_mk (st := s_More_told) l18 c18 k18
  have b18 := F18.binds (ps := ["self"]) fun _ _ _ _ _ _ us hl => match us, hl with | [_], _ => rfl
  have F19 := fun_mk (st := s_Wide___init__) l19 c19 k19
  have b19 := F19.binds (ps := ["self", "factor", "shift"]) fun _ _ _ _ _ _ us hl => match us, hl with | [_, _, _], _ => rfl
  have F20 := fun_mk (st := s_Wide_word) l20 c20 k20
  have b20 := F20.binds (ps := ["self"]) fun _ _ _ _ _ _ us hl => match us, hl with | [_], _ => rfl
  have F21 := fun_mk (st := s_Wide_told) l21 c21 k21
  have b21 := F21.binds (ps := ["self"]) fun _ _ _ _ _ _ us hl => match us, hl with | [_], _ => rfl
  have F22 := fun_mk (st := s_is_factor) l22 c22 k22
  have b22 := F22.binds (ps := ["thing"]) fun _ _ _ _ _ _ us hl => match us, hl with | [_], _ => rfl
  have F23 := fun_mk (st := s_is_shift) l23 c23 k23
  have b23 := F23.binds (ps := ["thing"]) fun _ _ _ _ _ _ us hl => match us, hl with | [_], _ => rfl
  have F24 := fun_mk (st := s_need_prices) l24 c24 k24
  have b24 := F24.binds (ps := ["prices"]) fun _ _ _ _ _ _ us hl => match us, hl with | [_], _ => rfl
  have F25 := fun_mk (st := s_ceiling) l25 c25 k25
  have b25 := F25.binds (ps := ["top", "bottom"]) fun _ _ _ _ _ _ us hl => match us, hl with | [_, _], _ => rfl
  have F26 := fun_mk (st := s_candidates) l26 c26 k26
  have b26 := F26.binds (ps := ["width", "d"]) fun _ _ _ _ _ _ us hl => match us, hl with | [_, _], _ => rfl
  have F27 := fun_mk (st := s_scaled_candidates) l27 c27 k27
  have b27 := F27.binds (ps := ["width", "d"]) fun _ _ _ _ _ _ us hl => match us, hl with | [_, _], _ => rfl
  have F28 := fun_mk (st := s_early_candidates) l28 c28 k28
  have b28 := F28.binds (ps := ["width", "d"]) fun _ _ _ _ _ _ us hl => match us, hl with | [_, _], _ => rfl
  have F29 := fun_mk (st := s_more_candidates) l29 c29 k29
  have b29 := F29.binds (ps := ["width", "d"]) fun _ _ _ _ _ _ us hl => match us, hl with | [_, _], _ => rfl
  have F30 := fun_mk (st := s_form_words) l30 c30 k30
  have b30 := F30.binds (ps := ["form"]) fun _ _ _ _ _ _ us hl => match us, hl with | [_], _ => rfl
  have F31 := fun_mk (st := s_need_signed_divisor) l31 c31 k31
  have b31 := F31.binds (ps := ["width", "d"]) fun _ _ _ _ _ _ us hl => match us, hl with | [_, _], _ => rfl
  have F32 := fun_mk (st := s_Cutting___init__) l32 c32 k32
  have b32 := F32.binds (ps := ["self", "factor", "shift"]) fun _ _ _ _ _ _ us hl => match us, hl with | [_, _, _], _ => rfl
  have F33 := fun_mk (st := s_Cutting_word) l33 c33 k33
  have b33 := F33.binds (ps := ["self"]) fun _ _ _ _ _ _ us hl => match us, hl with | [_], _ => rfl
  have F34 := fun_mk (st := s_Cutting_told) l34 c34 k34
  have b34 := F34.binds (ps := ["self"]) fun _ _ _ _ _ _ us hl => match us, hl with | [_], _ => rfl
  have F35 := fun_mk (st := s_Cutting_row_list) l35 c35 k35
  have b35 := F35.binds (ps := ["self"]) fun _ _ _ _ _ _ us hl => match us, hl with | [_], _ => rfl
  have F36 := fun_mk (st := s_Turned___init__) l36 c36 k36
  have b36 := F36.binds (ps := ["self", "form"]) fun _ _ _ _ _ _ us hl => match us, hl with | [_, _], _ => rfl
  have F37 := fun_mk (st := s_Turned_word) l37 c37 k37
  have b37 := F37.binds (ps := ["self"]) fun _ _ _ _ _ _ us hl => match us, hl with | [_], _ => rfl
  have F38 := fun_mk (st := s_Turned_told) l38 c38 k38
  have b38 := F38.binds (ps := ["self"]) fun _ _ _ _ _ _ us hl => match us, hl with | [_], _ => rfl
  have F39 := fun_mk (st := s_Turned_row_list) l39 c39 k39
  have b39 := F39.binds (ps := ["self"]) fun _ _ _ _ _ _ us hl => match us, hl with | [_], _ => rfl
  have F40 := fun_mk (st := s_signed_candidates) l40 c40 k40
  have b40 := F40.binds (ps := ["width", "d"]) fun _ _ _ _ _ _ us hl => match us, hl with | [_, _], _ => rfl
  have F41 := fun_mk (st := s_signed_words) l41 c41 k41
  have b41 := F41.binds (ps := ["form"]) fun _ _ _ _ _ _ us hl => match us, hl with | [_], _ => rfl
  have F42 := fun_mk (st := s_price_of_signed) l42 c42 k42
  have b42 := F42.binds (ps := ["form", "prices"]) fun _ _ _ _ _ _ us hl => match us, hl with | [_, _], _ => rfl
  have F43 := fun_mk (st := s__law_start) l43 c43 k43
  have b43 := F43.binds (ps := ["_law_script", "_law_k"]) fun _ _ _ _ _ _ us hl => match us, hl with | [_, _], _ => rfl
  have F44 := fun_mk (st := s__law_draw) l44 c44 k44
  have b44 := F44.binds (ps := ["_law_state", "_law_size"]) fun _ _ _ _ _ _ us hl => match us, hl with | [_, _], _ => rfl
  have F45 := fun_mk (st := s__law_twos) l45 c45 k45
  have b45 := F45.binds (ps := ["_law_d"]) fun _ _ _ _ _ _ us hl => match us, hl with | [_], _ => rfl
  have F46 := fun_mk (st := s__law_divisor) l46 c46 k46
  have b46 := F46.binds (ps := ["_law_state", "_law_width"]) fun _ _ _ _ _ _ us hl => match us, hl with | [_, _], _ => rfl
  have F47 := fun_mk (st := s__law_signed_divisor) l47 c47 k47
  have b47 := F47.binds (ps := ["_law_state", "_law_width"]) fun _ _ _ _ _ _ us hl => match us, hl with | [_, _], _ => rfl
  have F48 := fun_mk (st := s__law_whole) l48 c48 k48
  have b48 := F48.binds (ps := ["_law_found"]) fun _ _ _ _ _ _ us hl => match us, hl with | [_], _ => rfl
  have F49 := fun_mk (st := s__law_corners) l49 c49 k49
  have b49 := F49.binds (ps := ["_law_last", "_law_d"]) fun _ _ _ _ _ _ us hl => match us, hl with | [_, _], _ => rfl
  have F50 := fun_mk (st := s__law_brought) l50 c50 k50
  have b50 := F50.binds (ps := ["_law_numbers_here", "_law_x"]) fun _ _ _ _ _ _ us hl => match us, hl with | [_, _], _ => rfl
  have F51 := fun_mk (st := s__law_numbers) l51 c51 k51
  have b51 := F51.binds (ps := ["_law_told", "_law_width"]) fun _ _ _ _ _ _ us hl => match us, hl with | [_, _], _ => rfl
  have F52 := fun_mk (st := s__law_cut) l52 c52 k52
  have b52 := F52.binds (ps := ["_law_x", "_law_d"]) fun _ _ _ _ _ _ us hl => match us, hl with | [_, _], _ => rfl
  have F53 := fun_mk (st := s__law_signed_quotient) l53 c53 k53
  have b53 := F53.binds (ps := ["_law_told", "_law_width", "_law_x"]) fun _ _ _ _ _ _ us hl => match us, hl with | [_, _, _], _ => rfl
  have F54 := fun_mk (st := s__law_signed_corners) l54 c54 k54
  have b54 := F54.binds (ps := ["_law_up_here", "_law_down", "_law_d"]) fun _ _ _ _ _ _ us hl => match us, hl with | [_, _, _], _ => rfl
  have F55 := fun_mk (st := s__law_all_right) l55 c55 k55
  have b55 := F55.binds (ps := ["_law_told", "_law_width", "_law_d", "_law_counts"]) fun _ _ _ _ _ _ us hl => match us, hl with | [_, _, _, _], _ => rfl
  have F56 := fun_mk (st := s__law_up) l56 c56 k56
  have b56 := F56.binds (ps := ["_law_top", "_law_bottom"]) fun _ _ _ _ _ _ us hl => match us, hl with | [_, _], _ => rfl
  have F57 := fun_mk (st := s__law_all) l57 c57 k57
  have b57 := F57.binds (ps := ["_law_width", "_law_d"]) fun _ _ _ _ _ _ us hl => match us, hl with | [_, _], _ => rfl
  have F58 := fun_mk (st := s__law_all_signed) l58 c58 k58
  have b58 := F58.binds (ps := ["_law_width", "_law_d"]) fun _ _ _ _ _ _ us hl => match us, hl with | [_, _], _ => rfl
  have F59 := fun_mk (st := s__law_made_of) l59 c59 k59
  have b59 := F59.binds (ps := ["_law_told"]) fun _ _ _ _ _ _ us hl => match us, hl with | [_], _ => rfl
  have F60 := fun_mk (st := s__law_made_signed) l60 c60 k60
  have b60 := F60.binds (ps := ["_law_told"]) fun _ _ _ _ _ _ us hl => match us, hl with | [_], _ => rfl
  have F61 := fun_mk (st := s__law_row_words) l61 c61 k61
  have b61 := F61.binds (ps := []) fun _ _ _ _ _ _ us hl => match us, hl with | [], _ => rfl
  have F62 := fun_mk (st := s__law_prices) l62 c62 k62
  have b62 := F62.binds (ps := ["_law_state"]) fun _ _ _ _ _ _ us hl => match us, hl with | [_], _ => rfl
  have F63 := fun_mk (st := s__law_no_prices) l63 c63 k63
  have b63 := F63.binds (ps := ["_law_state"]) fun _ _ _ _ _ _ us hl => match us, hl with | [_], _ => rfl
  have F64 := fun_mk (st := s__law_agree) l64 c64 k64
  have b64 := F64.binds (ps := ["_law_found", "_law_due"]) fun _ _ _ _ _ _ us hl => match us, hl with | [_, _], _ => rfl
  have F65 := fun_mk (st := s__law_costs) l65 c65 k65
  have b65 := F65.binds (ps := ["_law_form", "_law_told", "_law_table"]) fun _ _ _ _ _ _ us hl => match us, hl with | [_, _, _], _ => rfl
  have F66 := fun_mk (st := s__law_refuses) l66 c66 k66
  have b66 := F66.binds (ps := ["_law_form", "_law_prices_here"]) fun _ _ _ _ _ _ us hl => match us, hl with | [_, _], _ => rfl
  have F67 := fun_mk (st := s__law_case) l67 c67 k67
  have b67 := F67.binds (ps := ["_law_state"]) fun _ _ _ _ _ _ us hl => match us, hl with | [_], _ => rfl
  have F68 := fun_mk (st := s_law) l68 c68 k68
  refine ⟨PySem.W.fnOf "law" "law" (defArgs s_law) (defBody s_law) (defScope s_law) .none kV68 dc68 pm68 an68 cd68 ct68, fun s v => .of_eq rfl, fun base _ _ => ?_⟩
  have Q_NoPrices : XCls K c_NoPrices f1 "found" := ⟨xe_NoPrices, xs_NoPrices, xm_NoPrices, xn_NoPrices, xf_NoPrices, xk_NoPrices⟩
  have X_NoPrices : XHas l.prog w K mg base 1 "NoPrices" c_NoPrices "found" := ⟨_, _, _, _, ok_NoPrices___init__ F1 T Q_NoPrices, b1, Q_NoPrices, PySem.W.mg_of X G aC_NoPrices⟩
  have H_is_whole : Has l.prog w K mg base 1 "is_whole" ["thing"] spWholeG := ⟨_, _, ok_is_whole F2 T , b2, k2, PySem.W.mg_of X G a2⟩
  have W_is_whole : Has l.prog w K mg base 1 "is_whole" ["thing"] spWhole := H_is_whole.imp imp_whole
  have H_is_between : Has l.prog w K mg base 2 "is_between" ["thing", "low", "high"] spBtwG := ⟨_, _, ok_is_between F3 T H_is_whole, b3, k3, PySem.W.mg_of X G a3⟩
  have W_is_between : Has l.prog w K mg base 2 "is_between" ["thing", "low", "high"] spBetween := H_is_between.imp imp_between
  have H_is_shift : Has l.prog w K mg base 3 "is_shift" ["thing"] spShf := ⟨_, _, ok_is_shift F23 T W_is_between, b23, k23, PySem.W.mg_of X G a23⟩
  have C_Shifted : CHas l.prog w K mg base 4 c_Shifted "Shifted" ["self", "shift"] (spI0 ⟨c_Form, c_Shifted, c_Scaled, c_Early, c_More, c_Wide, c_Cutting, c_Turned, c_SignedForm, c_NoPrices, c_ROW_WORDS, c_ROWS_AHEAD⟩) := ⟨_, _, ⟨mk_Shifted, a7, i7, kc_Shifted⟩, ok_Shifted___init__ F7 T H_is_shift, b7, PySem.W.mg_of X G aC_Shifted⟩
  have M_Shifted_word : MHas l.prog w K mg base 1 c_Shifted "word" ["self"] (spWd 0) := ⟨T.cl_Shifted, _, _, ⟨a8, i8, k8⟩, ok_Shifted_word F8 T , b8⟩
  have M_Shifted_told : MHas l.prog w K mg base 2 c_Shifted "told" ["self"] (spTold ⟨c_Form, c_Shifted, c_Scaled, c_Early, c_More, c_Wide, c_Cutting, c_Turned, c_SignedForm, c_NoPrices, c_ROW_WORDS, c_ROWS_AHEAD⟩ 0) := ⟨T.cl_Shifted, _, _, ⟨a9, i9, k9⟩, ok_Shifted_told F9 T  M_Shifted_word, b9⟩
  have H_is_factor : Has l.prog w K mg base 3 "is_factor" ["thing"] spFac := ⟨_, _, ok_is_factor F22 T W_is_between, b22, k22, PySem.W.mg_of X G a22⟩
  have C_Scaled : CHas l.prog w K mg base 4 c_Scaled "Scaled" ["self", "factor", "shift"] (spI2 ⟨c_Form, c_Shifted, c_Scaled, c_Early, c_More, c_Wide, c_Cutting, c_Turned, c_SignedForm, c_NoPrices, c_ROW_WORDS, c_ROWS_AHEAD⟩ 1 0) := ⟨_, _, ⟨mk_Scaled, a10, i10, kc_Scaled⟩, ok_Scaled___init__ F10 T H_is_factor H_is_shift, b10, PySem.W.mg_of X G aC_Scaled⟩
  have M_Scaled_word : MHas l.prog w K mg base 1 c_Scaled "word" ["self"] (spWd 1) := ⟨T.cl_Scaled, _, _, ⟨a11, i11, k11⟩, ok_Scaled_word F11 T , b11⟩
  have M_Scaled_told : MHas l.prog w K mg base 2 c_Scaled "told" ["self"] (spTold ⟨c_Form, c_Shifted, c_Scaled, c_Early, c_More, c_Wide, c_Cutting, c_Turned, c_SignedForm, c_NoPrices, c_ROW_WORDS, c_ROWS_AHEAD⟩ 1) := ⟨T.cl_Scaled, _, _, ⟨a12, i12, k12⟩, ok_Scaled_told F12 T  M_Scaled_word, b12⟩
  have C_Early : CHas l.prog w K mg base 4 c_Early "Early" ["self", "early", "factor", "shift"] (spI3 ⟨c_Form, c_Shifted, c_Scaled, c_Early, c_More, c_Wide, c_Cutting, c_Turned, c_SignedForm, c_NoPrices, c_ROW_WORDS, c_ROWS_AHEAD⟩) := ⟨_, _, ⟨mk_Early, a13, i13, kc_Early⟩, ok_Early___init__ F13 T H_is_shift H_is_factor, b13, PySem.W.mg_of X G aC_Early⟩
  have M_Early_word : MHas l.prog w K mg base 1 c_Early "word" ["self"] (spWd 2) := ⟨T.cl_Early, _, _, ⟨a14, i14, k14⟩, ok_Early_word F14 T , b14⟩
  have M_Early_told : MHas l.prog w K mg base 2 c_Early "told" ["self"] (spTold ⟨c_Form, c_Shifted, c_Scaled, c_Early, c_More, c_Wide, c_Cutting, c_Turned, c_SignedForm, c_NoPrices, c_ROW_WORDS, c_ROWS_AHEAD⟩ 2) := ⟨T.cl_Early, _, _, ⟨a15, i15, k15⟩, ok_Early_told F15 T  M_Early_word, b15⟩
  have C_More : CHas l.prog w K mg base 4 c_More "More" ["self", "factor", "shift"] (spI2 ⟨c_Form, c_Shifted, c_Scaled, c_Early, c_More, c_Wide, c_Cutting, c_Turned, c_SignedForm, c_NoPrices, c_ROW_WORDS, c_ROWS_AHEAD⟩ 3 0) := ⟨_, _, ⟨mk_More, a16, i16, kc_More⟩, ok_More___init__ F16 T H_is_factor H_is_shift, b16, PySem.W.mg_of X G aC_More⟩
  have M_More_word : MHas l.prog w K mg base 1 c_More "word" ["self"] (spWd 3) := ⟨T.cl_More, _, _, ⟨a17, i17, k17⟩, ok_More_word F17 T , b17⟩
  have M_More_told : MHas l.prog w K mg base 2 c_More "told" ["self"] (spTold ⟨c_Form, c_Shifted, c_Scaled, c_Early, c_More, c_Wide, c_Cutting, c_Turned, c_SignedForm, c_NoPrices, c_ROW_WORDS, c_ROWS_AHEAD⟩ 3) := ⟨T.cl_More, _, _, ⟨a18, i18, k18⟩, ok_More_told F18 T  M_More_word, b18⟩
  have C_Wide : CHas l.prog w K mg base 4 c_Wide "Wide" ["self", "factor", "shift"] (spI2 ⟨c_Form, c_Shifted, c_Scaled, c_Early, c_More, c_Wide, c_Cutting, c_Turned, c_SignedForm, c_NoPrices, c_ROW_WORDS, c_ROWS_AHEAD⟩ 4 1) := ⟨_, _, ⟨mk_Wide, a19, i19, kc_Wide⟩, ok_Wide___init__ F19 T H_is_factor W_is_between, b19, PySem.W.mg_of X G aC_Wide⟩
  have M_Wide_word : MHas l.prog w K mg base 1 c_Wide "word" ["self"] (spWd 4) := ⟨T.cl_Wide, _, _, ⟨a20, i20, k20⟩, ok_Wide_word F20 T , b20⟩
  have M_Wide_told : MHas l.prog w K mg base 2 c_Wide "told" ["self"] (spTold ⟨c_Form, c_Shifted, c_Scaled, c_Early, c_More, c_Wide, c_Cutting, c_Turned, c_SignedForm, c_NoPrices, c_ROW_WORDS, c_ROWS_AHEAD⟩ 4) := ⟨T.cl_Wide, _, _, ⟨a21, i21, k21⟩, ok_Wide_told F21 T  M_Wide_word, b21⟩
  have C_Cutting : CHas l.prog w K mg base 4 c_Cutting "Cutting" ["self", "factor", "shift"] (spIC ⟨c_Form, c_Shifted, c_Scaled, c_Early, c_More, c_Wide, c_Cutting, c_Turned, c_SignedForm, c_NoPrices, c_ROW_WORDS, c_ROWS_AHEAD⟩) := ⟨_, _, ⟨mk_Cutting, a32, i32, kc_Cutting⟩, ok_Cutting___init__ F32 T H_is_factor H_is_shift, b32, PySem.W.mg_of X G aC_Cutting⟩
  have M_Cutting_word : MHas l.prog w K mg base 1 c_Cutting "word" ["self"] (spWdS 0) := ⟨T.cl_Cutting, _, _, ⟨a33, i33, k33⟩, ok_Cutting_word F33 T , b33⟩
  have M_Cutting_told : MHas l.prog w K mg base 3 c_Cutting "told" ["self"] (spSTold ⟨c_Form, c_Shifted, c_Scaled, c_Early, c_More, c_Wide, c_Cutting, c_Turned, c_SignedForm, c_NoPrices, c_ROW_WORDS, c_ROWS_AHEAD⟩ 0) := ⟨T.cl_Cutting, _, _, ⟨a34, i34, k34⟩, ok_Cutting_told F34 T  M_Cutting_word, b34⟩
  have M_Cutting_row_list : MHas l.prog w K mg base 3 c_Cutting "row_list" ["self"] (spRL ⟨c_Form, c_Shifted, c_Scaled, c_Early, c_More, c_Wide, c_Cutting, c_Turned, c_SignedForm, c_NoPrices, c_ROW_WORDS, c_ROWS_AHEAD⟩ 0) := ⟨T.cl_Cutting, _, _, ⟨a35, i35, k35⟩, ok_Cutting_row_list F35 T , b35⟩
  have C_Turned : CHas l.prog w K mg base 1 c_Turned "Turned" ["self", "form"] (spIT ⟨c_Form, c_Shifted, c_Scaled, c_Early, c_More, c_Wide, c_Cutting, c_Turned, c_SignedForm, c_NoPrices, c_ROW_WORDS, c_ROWS_AHEAD⟩) := ⟨_, _, ⟨mk_Turned, a36, i36, kc_Turned⟩, ok_Turned___init__ F36 T , b36, PySem.W.mg_of X G aC_Turned⟩
  have M_Turned_word : MHas l.prog w K mg base 1 c_Turned "word" ["self"] (spWdS 1) := ⟨T.cl_Turned, _, _, ⟨a37, i37, k37⟩, ok_Turned_word F37 T , b37⟩
  have MW : ∀ i, i < 5 → MHas l.prog w K mg base 1 (fOf ⟨c_Form, c_Shifted, c_Scaled, c_Early, c_More, c_Wide, c_Cutting, c_Turned, c_SignedForm, c_NoPrices, c_ROW_WORDS, c_ROWS_AHEAD⟩ i) "word" ["self"] (spWd i) := fun i hi => by
    rcases (by omega : i = 0 ∨ i = 1 ∨ i = 2 ∨ i = 3 ∨ i = 4) with rfl | rfl | rfl | rfl | rfl
    · exact M_Shifted_word
    · exact M_Scaled_word
    · exact M_Early_word
    · exact M_More_word
    · exact M_Wide_word
  have RA : RowsA K l.prog w c_ROWS_AHEAD := by
    refine ⟨fun i => match i with | 0 => kD0_ROWS_AHEAD | 1 => kD1_ROWS_AHEAD | 2 => kD2_ROWS_AHEAD | 3 => kD3_ROWS_AHEAD | _ => kD4_ROWS_AHEAD, fun i => match i with | 0 => vD0_ROWS_AHEAD | 1 => vD1_ROWS_AHEAD | 2 => vD2_ROWS_AHEAD | 3 => vD3_ROWS_AHEAD | _ => vD4_ROWS_AHEAD, gd_mk lW_ROWS_AHEAD (ents_nd _ _) ⟨rfl, rfl, rfl⟩, fun i hi H => ?_⟩
    rcases (by omega : i = 0 ∨ i = 1 ∨ i = 2 ∨ i = 3 ∨ i = 4) with rfl | rfl | rfl | rfl | rfl
    · exact .inr ⟨_, _, _, lD0_ROWS_AHEAD, rfl, rfl, (by show 0 ≤ sizeLine; decide), .nil⟩
    · exact .inr ⟨_, _, _, lD1_ROWS_AHEAD, rfl, rfl, (by show 2 ≤ sizeLine; decide), .cons ⟨_, rfl⟩ (.cons ⟨_, rfl⟩ (.nil))⟩
    · exact .inr ⟨_, _, _, lD2_ROWS_AHEAD, rfl, rfl, (by show 3 ≤ sizeLine; decide), .cons ⟨_, rfl⟩ (.cons ⟨_, rfl⟩ (.cons ⟨_, rfl⟩ (.nil)))⟩
    · exact .inr ⟨_, _, _, lD3_ROWS_AHEAD, rfl, rfl, (by show 5 ≤ sizeLine; decide), .cons ⟨_, rfl⟩ (.cons ⟨_, rfl⟩ (.cons ⟨_, rfl⟩ (.cons ⟨_, rfl⟩ (.cons ⟨_, rfl⟩ (.nil)))))⟩
    · exact .inr ⟨_, _, _, lD4_ROWS_AHEAD, rfl, rfl, (by show 5 ≤ sizeLine; decide), .cons ⟨_, rfl⟩ (.cons ⟨_, rfl⟩ (.cons ⟨_, rfl⟩ (.cons ⟨_, rfl⟩ (.cons ⟨_, rfl⟩ (.nil)))))⟩
  have MT : ∀ i, i < 5 → MHas l.prog w K mg base 2 (fOf ⟨c_Form, c_Shifted, c_Scaled, c_Early, c_More, c_Wide, c_Cutting, c_Turned, c_SignedForm, c_NoPrices, c_ROW_WORDS, c_ROWS_AHEAD⟩ i) "told" ["self"] (spTold ⟨c_Form, c_Shifted, c_Scaled, c_Early, c_More, c_Wide, c_Cutting, c_Turned, c_SignedForm, c_NoPrices, c_ROW_WORDS, c_ROWS_AHEAD⟩ i) := fun i hi => by
    rcases (by omega : i = 0 ∨ i = 1 ∨ i = 2 ∨ i = 3 ∨ i = 4) with rfl | rfl | rfl | rfl | rfl
    · exact M_Shifted_told
    · exact M_Scaled_told
    · exact M_Early_told
    · exact M_More_told
    · exact M_Wide_told
  have HFW : Has l.prog w K mg base 2 "form_words" ["form"] (spFW ⟨c_Form, c_Shifted, c_Scaled, c_Early, c_More, c_Wide, c_Cutting, c_Turned, c_SignedForm, c_NoPrices, c_ROW_WORDS, c_ROWS_AHEAD⟩) := ⟨_, _, ok_form_words F30 T MW RA, b30, k30, PySem.W.mg_of X G a30⟩
  have MTS : ∀ i, i < 2 → MHas l.prog w K mg base 3 (sOf ⟨c_Form, c_Shifted, c_Scaled, c_Early, c_More, c_Wide, c_Cutting, c_Turned, c_SignedForm, c_NoPrices, c_ROW_WORDS, c_ROWS_AHEAD⟩ i) "told" ["self"] (spSTold ⟨c_Form, c_Shifted, c_Scaled, c_Early, c_More, c_Wide, c_Cutting, c_Turned, c_SignedForm, c_NoPrices, c_ROW_WORDS, c_ROWS_AHEAD⟩ i) := fun i hi => by
    rcases (by omega : i = 0 ∨ i = 1) with rfl | rfl
    · exact M_Cutting_told
    · exact ⟨T.cl_Turned, _, _, ⟨a38, i38, k38⟩, ok_Turned_told F38 T M_Turned_word MT, b38⟩
  have MR : ∀ i, i < 2 → MHas l.prog w K mg base 3 (sOf ⟨c_Form, c_Shifted, c_Scaled, c_Early, c_More, c_Wide, c_Cutting, c_Turned, c_SignedForm, c_NoPrices, c_ROW_WORDS, c_ROWS_AHEAD⟩ i) "row_list" ["self"] (spRL ⟨c_Form, c_Shifted, c_Scaled, c_Early, c_More, c_Wide, c_Cutting, c_Turned, c_SignedForm, c_NoPrices, c_ROW_WORDS, c_ROWS_AHEAD⟩ i) := fun i hi => by
    rcases (by omega : i = 0 ∨ i = 1) with rfl | rfl
    · exact M_Cutting_row_list
    · exact ⟨T.cl_Turned, _, _, ⟨a39, i39, k39⟩, ok_Turned_row_list F39 T HFW, b39⟩
  have H__law_draw : Has l.prog w K mg base 1 "_law_draw" ["_law_state", "_law_size"] spTake := ⟨_, _, ok__law_draw F44 T , b44, k44, PySem.W.mg_of X G a44⟩
  have H__law_divisor : Has l.prog w K mg base 2 "_law_divisor" ["_law_state", "_law_width"] spDiv := ⟨_, _, ok__law_divisor F46 T H__law_draw, b46, k46, PySem.W.mg_of X G a46⟩
  have H__law_signed_divisor : Has l.prog w K mg base 3 "_law_signed_divisor" ["_law_state", "_law_width"] spSDiv := ⟨_, _, ok__law_signed_divisor F47 T H__law_divisor H__law_draw, b47, k47, PySem.W.mg_of X G a47⟩
  have H__law_twos : Has l.prog w K mg base 1 "_law_twos" ["_law_d"] spTwos := ⟨_, _, ok__law_twos F45 T , b45, k45, PySem.W.mg_of X G a45⟩
  have H__law_up : Has l.prog w K mg base 1 "_law_up" ["_law_top", "_law_bottom"] spCeilF := ⟨_, _, ok__law_up F56 T , b56, k56, PySem.W.mg_of X G a56⟩
  have H__law_all : Has l.prog w K mg base 2 "_law_all" ["_law_width", "_law_d"] spAllT := ⟨_, _, ok__law_all F57 T H__law_twos H__law_up, b57, k57, PySem.W.mg_of X G a57⟩
  have H__law_all_signed : Has l.prog w K mg base 3 "_law_all_signed" ["_law_width", "_law_d"] spAllSg := ⟨_, _, ok__law_all_signed F58 T H__law_all, b58, k58, PySem.W.mg_of X G a58⟩
  have H_need_width : Has l.prog w K mg base 3 "need_width" ["width"] spNeedW := ⟨_, _, ok_need_width F4 T W_is_between, b4, k4, PySem.W.mg_of X G a4⟩
  have H_need_signed_divisor : Has l.prog w K mg base 4 "need_signed_divisor" ["width", "d"] spNeedSD := ⟨_, _, ok_need_signed_divisor F31 T H_need_width W_is_between, b31, k31, PySem.W.mg_of X G a31⟩
  have H_need_divisor : Has l.prog w K mg base 4 "need_divisor" ["width", "d"] spNeedD := ⟨_, _, ok_need_divisor F5 T H_need_width W_is_between, b5, k5, PySem.W.mg_of X G a5⟩
  have H_ceiling : Has l.prog w K mg base 1 "ceiling" ["top", "bottom"] spCeilF := ⟨_, _, ok_ceiling F25 T , b25, k25, PySem.W.mg_of X G a25⟩
  have H_scaled_candidates : Has l.prog w K mg base 6 "scaled_candidates" ["width", "d"] (spScC ⟨c_Form, c_Shifted, c_Scaled, c_Early, c_More, c_Wide, c_Cutting, c_Turned, c_SignedForm, c_NoPrices, c_ROW_WORDS, c_ROWS_AHEAD⟩) := ⟨_, _, ok_scaled_candidates F27 T H_ceiling C_Scaled, b27, k27, PySem.W.mg_of X G a27⟩
  have H_twos_in : Has l.prog w K mg base 1 "twos_in" ["d"] spTwos := ⟨_, _, ok_twos_in F6 T , b6, k6, PySem.W.mg_of X G a6⟩
  have H_early_candidates : Has l.prog w K mg base 7 "early_candidates" ["width", "d"] (spEaC ⟨c_Form, c_Shifted, c_Scaled, c_Early, c_More, c_Wide, c_Cutting, c_Turned, c_SignedForm, c_NoPrices, c_ROW_WORDS, c_ROWS_AHEAD⟩) := ⟨_, _, ok_early_candidates F28 T H_twos_in H_scaled_candidates C_Early, b28, k28, PySem.W.mg_of X G a28⟩
  have H_more_candidates : Has l.prog w K mg base 6 "more_candidates" ["width", "d"] (spMoC ⟨c_Form, c_Shifted, c_Scaled, c_Early, c_More, c_Wide, c_Cutting, c_Turned, c_SignedForm, c_NoPrices, c_ROW_WORDS, c_ROWS_AHEAD⟩) := ⟨_, _, ok_more_candidates F29 T C_More, b29, k29, PySem.W.mg_of X G a29⟩
  have H_candidates : Has l.prog w K mg base 8 "candidates" ["width", "d"] (spCand ⟨c_Form, c_Shifted, c_Scaled, c_Early, c_More, c_Wide, c_Cutting, c_Turned, c_SignedForm, c_NoPrices, c_ROW_WORDS, c_ROWS_AHEAD⟩) := ⟨_, _, ok_candidates F26 T H_need_divisor H_scaled_candidates H_early_candidates H_more_candidates H_ceiling C_Shifted C_Wide, b26, k26, PySem.W.mg_of X G a26⟩
  have H_signed_candidates : Has l.prog w K mg base 9 "signed_candidates" ["width", "d"] (spSCand ⟨c_Form, c_Shifted, c_Scaled, c_Early, c_More, c_Wide, c_Cutting, c_Turned, c_SignedForm, c_NoPrices, c_ROW_WORDS, c_ROWS_AHEAD⟩) := ⟨_, _, ok_signed_candidates F40 T H_need_signed_divisor H_candidates C_Turned C_Cutting, b40, k40, PySem.W.mg_of X G a40⟩
  have H__law_corners : Has l.prog w K mg base 1 "_law_corners" ["_law_last", "_law_d"] spCorners := ⟨_, _, ok__law_corners F49 T , b49, k49, PySem.W.mg_of X G a49⟩
  have H__law_signed_corners : Has l.prog w K mg base 2 "_law_signed_corners" ["_law_up_here", "_law_down", "_law_d"] spSC := ⟨_, _, ok__law_signed_corners F54 T H__law_corners, b54, k54, PySem.W.mg_of X G a54⟩
  have H__law_row_words : Has l.prog w K mg base 1 "_law_row_words" [] spRW := ⟨_, _, ok__law_row_words F61 T , b61, k61, PySem.W.mg_of X G a61⟩
  have H__law_prices : Has l.prog w K mg base 2 "_law_prices" ["_law_state"] spPr := ⟨_, _, ok__law_prices F62 T H__law_draw H__law_row_words, b62, k62, PySem.W.mg_of X G a62⟩
  have H__law_agree : Has l.prog w K mg base 4 "_law_agree" ["_law_found", "_law_due"] (spAgrS ⟨c_Form, c_Shifted, c_Scaled, c_Early, c_More, c_Wide, c_Cutting, c_Turned, c_SignedForm, c_NoPrices, c_ROW_WORDS, c_ROWS_AHEAD⟩) := ⟨_, _, ok__law_agree F64 T  MTS, b64, k64, PySem.W.mg_of X G a64⟩
  have H_need_prices : HasY l.prog w K mg base 3 "need_prices" ["prices"] (spNP ⟨c_Form, c_Shifted, c_Scaled, c_Early, c_More, c_Wide, c_Cutting, c_Turned, c_SignedForm, c_NoPrices, c_ROW_WORDS, c_ROWS_AHEAD⟩) := ⟨_, _, ok_need_prices F24 T H_is_between X_NoPrices, b24, k24, PySem.W.mg_of X G a24⟩
  have H_signed_words : Has l.prog w K mg base 4 "signed_words" ["form"] (spSW ⟨c_Form, c_Shifted, c_Scaled, c_Early, c_More, c_Wide, c_Cutting, c_Turned, c_SignedForm, c_NoPrices, c_ROW_WORDS, c_ROWS_AHEAD⟩) := ⟨_, _, ok_signed_words F41 T  MR, b41, k41, PySem.W.mg_of X G a41⟩
  have H_price_of_signed : HasY l.prog w K mg base 5 "price_of_signed" ["form", "prices"] (spPS ⟨c_Form, c_Shifted, c_Scaled, c_Early, c_More, c_Wide, c_Cutting, c_Turned, c_SignedForm, c_NoPrices, c_ROW_WORDS, c_ROWS_AHEAD⟩) := ⟨_, _, ok_price_of_signed F42 T H_need_prices H_signed_words, b42, k42, PySem.W.mg_of X G a42⟩
  have H__law_refuses : Has l.prog w K mg base 6 "_law_refuses" ["_law_form", "_law_prices_here"] (spRefuS ⟨c_Form, c_Shifted, c_Scaled, c_Early, c_More, c_Wide, c_Cutting, c_Turned, c_SignedForm, c_NoPrices, c_ROW_WORDS, c_ROWS_AHEAD⟩) := ⟨_, _, ok__law_refuses F66 T H_price_of_signed, b66, k66, PySem.W.mg_of X G a66⟩
  have H__law_made_of : Has l.prog w K mg base 1 "_law_made_of" ["_law_told"] spMO := ⟨_, _, ok__law_made_of F59 T , b59, k59, PySem.W.mg_of X G a59⟩
  have H__law_made_signed : Has l.prog w K mg base 2 "_law_made_signed" ["_law_told"] spMS := ⟨_, _, ok__law_made_signed F60 T H__law_made_of, b60, k60, PySem.W.mg_of X G a60⟩
  have H__law_whole : Has l.prog w K mg base 1 "_law_whole" ["_law_found"] spWholeG := ⟨_, _, ok__law_whole F48 T , b48, k48, PySem.W.mg_of X G a48⟩
  have H__law_costs : Has l.prog w K mg base 6 "_law_costs" ["_law_form", "_law_told", "_law_table"] (spCostS ⟨c_Form, c_Shifted, c_Scaled, c_Early, c_More, c_Wide, c_Cutting, c_Turned, c_SignedForm, c_NoPrices, c_ROW_WORDS, c_ROWS_AHEAD⟩) := ⟨_, _, ok__law_costs F65 T H__law_made_signed H_signed_words H_price_of_signed H__law_whole, b65, k65, PySem.W.mg_of X G a65⟩
  have H__law_no_prices : Has l.prog w K mg base 3 "_law_no_prices" ["_law_state"] spNoPr := ⟨_, _, ok__law_no_prices F63 T H__law_prices H__law_draw H__law_row_words, b63, k63, PySem.W.mg_of X G a63⟩
  have H__law_brought : Has l.prog w K mg base 1 "_law_brought" ["_law_numbers_here", "_law_x"] spBroG := ⟨_, _, ok__law_brought F50 T , b50, k50, PySem.W.mg_of X G a50⟩
  have H__law_numbers : Has l.prog w K mg base 1 "_law_numbers" ["_law_told", "_law_width"] spNumb := ⟨_, _, ok__law_numbers F51 T , b51, k51, PySem.W.mg_of X G a51⟩
  have H__law_signed_quotient : Has l.prog w K mg base 2 "_law_signed_quotient" ["_law_told", "_law_width", "_law_x"] spSQ := ⟨_, _, ok__law_signed_quotient F53 T H__law_brought H__law_numbers, b53, k53, PySem.W.mg_of X G a53⟩
  have H__law_cut : Has l.prog w K mg base 1 "_law_cut" ["_law_x", "_law_d"] spCut := ⟨_, _, ok__law_cut F52 T , b52, k52, PySem.W.mg_of X G a52⟩
  have H__law_all_right : Has l.prog w K mg base 3 "_law_all_right" ["_law_told", "_law_width", "_law_d", "_law_counts"] spAllS := ⟨_, _, ok__law_all_right F55 T H__law_signed_quotient H__law_cut, b55, k55, PySem.W.mg_of X G a55⟩
  have H__law_case : Has l.prog w K mg base 10 "_law_case" ["_law_state"] (spCase23 ⟨c_Form, c_Shifted, c_Scaled, c_Early, c_More, c_Wide, c_Cutting, c_Turned, c_SignedForm, c_NoPrices, c_ROW_WORDS, c_ROWS_AHEAD⟩) := ⟨_, _, ok__law_case F67 T H__law_signed_divisor H__law_all_signed H_signed_candidates H__law_signed_corners H__law_draw H__law_prices H__law_agree H__law_refuses H__law_costs H__law_no_prices H__law_all_right, b67, k67, PySem.W.mg_of X G a67⟩
  have H__law_start : Has l.prog w K mg base 1 "_law_start" ["_law_script", "_law_k"] (spStart K) := ⟨_, _, ok__law_start F43 T , b43, k43, PySem.W.mg_of X G a43⟩
  exact ok_law F68 T H__law_case H__law_start
theorem walk {l : PySem.W.OpenLaw} {q : Program} {loose : List Str} {XP : (Str → Option Value) → Heap → Prop} {YP : World → Heap → Prop} {d : DefRec} {K : Params → PySem.W.Frag} (hn : l.most = some 63) (hdf : d.params.defaults = [])
    (hY : ∀ (w : World) (h : Heap), YP w h → (K w.params).In h)
    (F : ∀ (w : World) (mg : Str → Option Value) (fa : Addr) (h : Heap), (K w.params).In h → h.Ns mainGlobals mg → mg d.name = some (.ref fa) →
      ∃ fd : FuncData, (∀ (s : Shared) (u : Value), BindsTo s fd ⟨[u], []⟩ [("_law_script", u)]) ∧ ∀ base : Heap, (K w.params).In base → base.Ns mainGlobals mg → FnOk l.prog w (K w.params) mg base CX0 11 fa fd ["_law_script"] (spLaw (K w.params))) :
    PySem.W.WalkO q loose XP YP l.row.toRowW d [] (fun f vs => PySem.call f vs) :=
  L2.walk_of (n := 63) (k := 11) (x := "_law_script") (CX := fun _ => CX0) (sp := fun w => spLaw (K w.params)) hn (by decide) hdf ⟨rfl, by decide, by decide, rfl⟩ hY F (fun _ _ a ns hl _ hS => ⟨a, ns, rfl, hS, hl, fun _ => rfl⟩) fun _ _ _ _ _ z => z
end Ow
open PySem PySem.W PyProof.Rows
def PySem.W.Fast.tw9696203942869487756 : Nat := 0
def PySem.W.Fast.tw7963327511481137055 : Nat := 0
def PySem.W.Fast.tw412347889783628553 : Nat := 0
def PySem.W.Fast.tw10019610165262095303 : Nat := 0
def PySem.W.Fast.tw6099301255752934548 : Nat := 0
def PySem.W.Fast.tw2810235484834534748 : Nat := 0
def PySem.W.Fast.tw13675176249097630082 : Nat := 0
def PySem.W.Fast.tw9167923703344442955 : Nat := 0
def PySem.W.Fast.tw14805049305296644767 : Nat := 0
def PySem.W.Fast.tw4747157920488257916 : Nat := 0
def PySem.W.Fast.tw2815269125084093695 : Nat := 0
def PySem.W.Fast.tw15683976001947012934 : Nat := 0
def PySem.W.Fast.tw6320834626014139063 : Nat := 0
def PySem.W.Fast.tw12778281282559432298 : Nat := 0
def PySem.W.Fast.tw10988527363687150282 : Nat := 0
def PySem.W.Fast.tw10679311557098707918 : Nat := 0
def PySem.W.Fast.tw10717013977098309922 : Nat := 0
def PySem.W.Fast.tw17026388257599651957 : Nat := 0
def PySem.W.Fast.tw11929683475559544471 : Nat := 0
def PySem.W.Fast.tw11201407730243540306 : Nat := 0
def PySem.W.Fast.tw6905796912191984405 : Nat := 0
def PySem.W.Fast.tw540581112145981517 : Nat := 0
def PySem.W.Fast.tw1785975166275087089 : Nat := 0
def PySem.W.Fast.tw40937697661332080 : Nat := 0
def PySem.W.Fast.tw15529291590245889748 : Nat := 0
def PySem.W.Fast.tw6854684184889472460 : Nat := 0
def PySem.W.Fast.tw6577024837513514967 : Nat := 0
def PySem.W.Fast.tw17161777723273856212 : Nat := 0
def PySem.W.Fast.tw7463070768819502702 : Nat := 0
def PySem.W.Fast.tw17739526509184305818 : Nat := 0
def PySem.W.Fast.tw6613570114091417638 : Nat := 0
def PySem.W.Fast.tw2522754299648510384 : Nat := 0
def PySem.W.Fast.tw13242235838820023501 : Nat := 0
def PySem.W.Fast.tw8337945222763759160 : Nat := 0
def PySem.W.Fast.tw14092752336958660697 : Nat := 0
def PySem.W.Fast.tw5680000571844199574 : Nat := 0
def PySem.W.Fast.tw18194770558074000423 : Nat := 0
def PySem.W.Fast.tw12621462045000999051 : Nat := 0
def PySem.W.Fast.tw16581529836064817953 : Nat := 0
def PySem.W.Fast.tw14306490022347076468 : Nat := 0
def PySem.W.Fast.tw9673820912813428096 : Nat := 0
def PySem.W.Fast.tw2532459940274448933 : Nat := 0
set_option maxRecDepth 100000 in
set_option maxHeartbeats 0 in
theorem PySem.Challenge.cw_overwise_k36_signed_candidates_holds : PySem.Challenge.rw_overwise_k36_signed_candidates.Holds := by
  w_on; o_law; k_head; (case hw => w_witness2)
  k_fill
  refine Ow.walk (l := PySem.Challenge.rw_overwise_k36_signed_candidates) rfl rfl (fun w h Y => PySem.W.kIn_of Y) ?F
  case F =>
    intro w mg fa h KX G hmg
    refine' Ow.all_mk KX G hmg ?a1 ?i1 ?l1 ?c1 ?k1 ?a2 ?l2 ?c2 ?k2 ?a3 ?l3 ?c3 ?k3 ?a4 ?l4 ?c4 ?k4 ?a5 ?l5 ?c5 ?k5 ?a6 ?l6 ?c6 ?k6 ?a7 ?i7 ?l7 ?c7 ?k7 ?a8 ?i8 ?l8 ?c8 ?k8 ?a9 ?i9 ?l9 ?c9 ?k9 ?a10 ?i10 ?l10 ?c10 ?k10 ?a11 ?i11 ?l11 ?c11 ?k11 ?a12 ?i12 ?l12 ?c12 ?k12 ?a13 ?i13 ?l13 ?c13 ?k13 ?a14 ?i14 ?l14 ?c14 ?k14 ?a15 ?i15 ?l15 ?c15 ?k15 ?a16 ?i16 ?l16 ?c16 ?k16 ?a17 ?i17 ?l17 ?c17 ?k17 ?a18 ?i18 ?l18 ?c18 ?k18 ?a19 ?i19 ?l19 ?c19 ?k19 ?a20 ?i20 ?l20 ?c20 ?k20 ?a21 ?i21 ?l21 ?c21 ?k21 ?a22 ?l22 ?c22 ?k22 ?a23 ?l23 ?c23 ?k23 ?a24 ?l24 ?c24 ?k24 ?a25 ?l25 ?c25 ?k25 ?a26 ?l26 ?c26 ?k26 ?a27 ?l27 ?c27 ?k27 ?a28 ?l28 ?c28 ?k28 ?a29 ?l29 ?c29 ?k29 ?a30 ?l30 ?c30 ?k30 ?a31 ?l31 ?c31 ?k31 ?a32 ?i32 ?l32 ?c32 ?k32 ?a33 ?i33 ?l33 ?c33 ?k33 ?a34 ?i34 ?l34 ?c34 ?k34 ?a35 ?i35 ?l35 ?c35 ?k35 ?a36 ?i36 ?l36 ?c36 ?k36 ?a37 ?i37 ?l37 ?c37 ?k37 ?a38 ?i38 ?l38 ?c38 ?k38 ?a39 ?i39 ?l39 ?c39 ?k39 ?a40 ?l40 ?c40 ?k40 ?a41 ?l41 ?c41 ?k41 ?a42 ?l42 ?c42 ?k42 ?a43 ?l43 ?c43 ?k43 ?a44 ?l44 ?c44 ?k44 ?a45 ?l45 ?c45 ?k45 ?a46 ?l46 ?c46 ?k46 ?a47 ?l47 ?c47 ?k47 ?a48 ?l48 ?c48 ?k48 ?a49 ?l49 ?c49 ?k49 ?a50 ?l50 ?c50 ?k50 ?a51 ?l51 ?c51 ?k51 ?a52 ?l52 ?c52 ?k52 ?a53 ?l53 ?c53 ?k53 ?a54 ?l54 ?c54 ?k54 ?a55 ?l55 ?c55 ?k55 ?a56 ?l56 ?c56 ?k56 ?a57 ?l57 ?c57 ?k57 ?a58 ?l58 ?c58 ?k58 ?a59 ?l59 ?c59 ?k59 ?a60 ?l60 ?c60 ?k60 ?a61 ?l61 ?c61 ?k61 ?a62 ?l62 ?c62 ?k62 ?a63 ?l63 ?c63 ?k63 ?a64 ?l64 ?c64 ?k64 ?a65 ?l65 ?c65 ?k65 ?a66 ?l66 ?c66 ?k66 ?a67 ?l67 ?c67 ?k67 ?a68 ?l68 ?c68 ?k68 ?aC_Form ?pg_Form ?hd_Form ?po_Form ?sa_Form ?aC_Shifted ?pg_Shifted ?hd_Shifted ?po_Shifted ?sa_Shifted ?mk_Shifted ?kc_Shifted ?na_Shifted_shift ?aC_Scaled ?pg_Scaled ?hd_Scaled ?po_Scaled ?sa_Scaled ?mk_Scaled ?kc_Scaled ?na_Scaled_factor ?na_Scaled_shift ?aC_Early ?pg_Early ?hd_Early ?po_Early ?sa_Early ?mk_Early ?kc_Early ?na_Early_early ?na_Early_factor ?na_Early_shift ?aC_More ?pg_More ?hd_More ?po_More ?sa_More ?mk_More ?kc_More ?na_More_factor ?na_More_shift ?aC_Wide ?pg_Wide ?hd_Wide ?po_Wide ?sa_Wide ?mk_Wide ?kc_Wide ?na_Wide_factor ?na_Wide_shift ?aC_Cutting ?pg_Cutting ?hd_Cutting ?po_Cutting ?sa_Cutting ?mk_Cutting ?kc_Cutting ?na_Cutting_factor ?na_Cutting_shift ?aC_Turned ?pg_Turned ?hd_Turned ?po_Turned ?sa_Turned ?mk_Turned ?kc_Turned ?na_Turned_form ?aC_SignedForm ?pg_SignedForm ?hd_SignedForm ?po_SignedForm ?sa_SignedForm ?aC_NoPrices ?xe_NoPrices ?xs_NoPrices ?xm_NoPrices ?xn_NoPrices ?xf_NoPrices ?xk_NoPrices ?aW_ROW_WORDS ?lW_ROW_WORDS ?aW_ROWS_AHEAD ?lW_ROWS_AHEAD ?lD0_ROWS_AHEAD ?lD1_ROWS_AHEAD ?lD2_ROWS_AHEAD ?lD3_ROWS_AHEAD ?lD4_ROWS_AHEAD ?kf_kc ?kf_kt ?kf_og ?kf_ot ?kf_dc_Shifted ?kf_dc_Scaled ?kf_dc_Early ?kf_dc_More ?kf_dc_Wide ?kf_mo_Shifted ?kf_mo_Scaled ?kf_mo_Early ?kf_mo_More ?kf_mo_Wide ?kf_ik_Shifted ?kf_ik_Scaled ?kf_ik_Early ?kf_ik_More ?kf_ik_Wide ?kf_ga ?kf_gn ?kf_gc ?kf_mo ?kf_mb ?kf_hd ?kf_nf ?kf_xc ?kf_xt ?kf_xm ?kf_xb ?kf_dc_Cutting ?kf_mo_Cutting ?kf_dc_Turned ?kf_mo_Turned ?kf_kc_Cutting ?kf_kt_Cutting ?kf_kc_Turned ?kf_kt_Turned ?kf_kc_SignedForm ?kf_kt_SignedForm ?kf_m_Cutting_Cutting ?kf_m_Cutting_Turned ?kf_m_Cutting_SignedForm ?kf_m_Turned_Cutting ?kf_m_Turned_Turned ?kf_m_Turned_SignedForm ?z_isinstance ?z_int ?z_bool ?z_str ?z_list ?z_dict ?z_len ?z_max ?z_min ?z_range ?z_sorted ?z_zip ?z_repr ?z_sum ?z_abs
    (case aC_NoPrices => k_is)
    (case aW_ROW_WORDS => k_is); (case lW_ROW_WORDS => k_is)
    (case aW_ROWS_AHEAD => k_is); (case lW_ROWS_AHEAD => k_is); (case lD0_ROWS_AHEAD => k_is); (case lD1_ROWS_AHEAD => k_is); (case lD2_ROWS_AHEAD => k_is); (case lD3_ROWS_AHEAD => k_is); (case lD4_ROWS_AHEAD => k_is)
    (case aC_Form => k_is); (case pg_Form => k_is); (case hd_Form => k_is); (case po_Form => k_is); (case sa_Form => k_is)
    (case aC_Shifted => k_is); (case pg_Shifted => k_is); (case hd_Shifted => k_is); (case po_Shifted => k_is); (case sa_Shifted => k_is)
    (case mk_Shifted => k_is); (case kc_Shifted => k_is)
    (case na_Shifted_shift => k_is)
    (case aC_Scaled => k_is); (case pg_Scaled => k_is); (case hd_Scaled => k_is); (case po_Scaled => k_is); (case sa_Scaled => k_is)
    (case mk_Scaled => k_is); (case kc_Scaled => k_is)
    (case na_Scaled_factor => k_is)
    (case na_Scaled_shift => k_is)
    (case aC_Early => k_is); (case pg_Early => k_is); (case hd_Early => k_is); (case po_Early => k_is); (case sa_Early => k_is)
    (case mk_Early => k_is); (case kc_Early => k_is)
    (case na_Early_early => k_is)
    (case na_Early_factor => k_is)
    (case na_Early_shift => k_is)
    (case aC_More => k_is); (case pg_More => k_is); (case hd_More => k_is); (case po_More => k_is); (case sa_More => k_is)
    (case mk_More => k_is); (case kc_More => k_is)
    (case na_More_factor => k_is)
    (case na_More_shift => k_is)
    (case aC_Wide => k_is); (case pg_Wide => k_is); (case hd_Wide => k_is); (case po_Wide => k_is); (case sa_Wide => k_is)
    (case mk_Wide => k_is); (case kc_Wide => k_is)
    (case na_Wide_factor => k_is)
    (case na_Wide_shift => k_is)
    (case aC_Cutting => k_is); (case pg_Cutting => k_is); (case hd_Cutting => k_is); (case po_Cutting => k_is); (case sa_Cutting => k_is)
    (case mk_Cutting => k_is); (case kc_Cutting => k_is)
    (case na_Cutting_factor => k_is)
    (case na_Cutting_shift => k_is)
    (case aC_Turned => k_is); (case pg_Turned => k_is); (case hd_Turned => k_is); (case po_Turned => k_is); (case sa_Turned => k_is)
    (case mk_Turned => k_is); (case kc_Turned => k_is)
    (case na_Turned_form => k_is)
    (case aC_SignedForm => k_is); (case pg_SignedForm => k_is); (case hd_SignedForm => k_is); (case po_SignedForm => k_is); (case sa_SignedForm => k_is)
    (case a1 => k_is); (case i1 => k_is); (case l1 => k_is); (case c1 => k_is); (case k1 => k_is)
    (case a2 => k_is); (case l2 => k_is); (case c2 => k_is); (case k2 => k_is)
    (case a3 => k_is); (case l3 => k_is); (case c3 => k_is); (case k3 => k_is)
    (case a4 => k_is); (case l4 => k_is); (case c4 => k_is); (case k4 => k_is)
    (case a5 => k_is); (case l5 => k_is); (case c5 => k_is); (case k5 => k_is)
    (case a6 => k_is); (case l6 => k_is); (case c6 => k_is); (case k6 => k_is)
    (case a7 => k_is); (case i7 => k_is); (case l7 => k_is); (case c7 => k_is); (case k7 => k_is)
    (case a8 => k_is); (case i8 => k_is); (case l8 => k_is); (case c8 => k_is); (case k8 => k_is)
    (case a9 => k_is); (case i9 => k_is); (case l9 => k_is); (case c9 => k_is); (case k9 => k_is)
    (case a10 => k_is); (case i10 => k_is); (case l10 => k_is); (case c10 => k_is); (case k10 => k_is)
    (case a11 => k_is); (case i11 => k_is); (case l11 => k_is); (case c11 => k_is); (case k11 => k_is)
    (case a12 => k_is); (case i12 => k_is); (case l12 => k_is); (case c12 => k_is); (case k12 => k_is)
    (case a13 => k_is); (case i13 => k_is); (case l13 => k_is); (case c13 => k_is); (case k13 => k_is)
    (case a14 => k_is); (case i14 => k_is); (case l14 => k_is); (case c14 => k_is); (case k14 => k_is)
    (case a15 => k_is); (case i15 => k_is); (case l15 => k_is); (case c15 => k_is); (case k15 => k_is)
    (case a16 => k_is); (case i16 => k_is); (case l16 => k_is); (case c16 => k_is); (case k16 => k_is)
    (case a17 => k_is); (case i17 => k_is); (case l17 => k_is); (case c17 => k_is); (case k17 => k_is)
    (case a18 => k_is); (case i18 => k_is); (case l18 => k_is); (case c18 => k_is); (case k18 => k_is)
    (case a19 => k_is); (case i19 => k_is); (case l19 => k_is); (case c19 => k_is); (case k19 => k_is)
    (case a20 => k_is); (case i20 => k_is); (case l20 => k_is); (case c20 => k_is); (case k20 => k_is)
    (case a21 => k_is); (case i21 => k_is); (case l21 => k_is); (case c21 => k_is); (case k21 => k_is)
    (case a22 => k_is); (case l22 => k_is); (case c22 => k_is); (case k22 => k_is)
    (case a23 => k_is); (case l23 => k_is); (case c23 => k_is); (case k23 => k_is)
    (case a24 => k_is); (case l24 => k_is); (case c24 => k_is); (case k24 => k_is)
    (case a25 => k_is); (case l25 => k_is); (case c25 => k_is); (case k25 => k_is)
    (case a26 => k_is); (case l26 => k_is); (case c26 => k_is); (case k26 => k_is)
    (case a27 => k_is); (case l27 => k_is); (case c27 => k_is); (case k27 => k_is)
    (case a28 => k_is); (case l28 => k_is); (case c28 => k_is); (case k28 => k_is)
    (case a29 => k_is); (case l29 => k_is); (case c29 => k_is); (case k29 => k_is)
    (case a30 => k_is); (case l30 => k_is); (case c30 => k_is); (case k30 => k_is)
    (case a31 => k_is); (case l31 => k_is); (case c31 => k_is); (case k31 => k_is)
    (case a32 => k_is); (case i32 => k_is); (case l32 => k_is); (case c32 => k_is); (case k32 => k_is)
    (case a33 => k_is); (case i33 => k_is); (case l33 => k_is); (case c33 => k_is); (case k33 => k_is)
    (case a34 => k_is); (case i34 => k_is); (case l34 => k_is); (case c34 => k_is); (case k34 => k_is)
    (case a35 => k_is); (case i35 => k_is); (case l35 => k_is); (case c35 => k_is); (case k35 => k_is)
    (case a36 => k_is); (case i36 => k_is); (case l36 => k_is); (case c36 => k_is); (case k36 => k_is)
    (case a37 => k_is); (case i37 => k_is); (case l37 => k_is); (case c37 => k_is); (case k37 => k_is)
    (case a38 => k_is); (case i38 => k_is); (case l38 => k_is); (case c38 => k_is); (case k38 => k_is)
    (case a39 => k_is); (case i39 => k_is); (case l39 => k_is); (case c39 => k_is); (case k39 => k_is)
    (case a40 => k_is); (case l40 => k_is); (case c40 => k_is); (case k40 => k_is)
    (case a41 => k_is); (case l41 => k_is); (case c41 => k_is); (case k41 => k_is)
    (case a42 => k_is); (case l42 => k_is); (case c42 => k_is); (case k42 => k_is)
    (case a43 => k_is); (case l43 => k_is); (case c43 => k_is); (case k43 => k_is)
    (case a44 => k_is); (case l44 => k_is); (case c44 => k_is); (case k44 => k_is)
    (case a45 => k_is); (case l45 => k_is); (case c45 => k_is); (case k45 => k_is)
    (case a46 => k_is); (case l46 => k_is); (case c46 => k_is); (case k46 => k_is)
    (case a47 => k_is); (case l47 => k_is); (case c47 => k_is); (case k47 => k_is)
    (case a48 => k_is); (case l48 => k_is); (case c48 => k_is); (case k48 => k_is)
    (case a49 => k_is); (case l49 => k_is); (case c49 => k_is); (case k49 => k_is)
    (case a50 => k_is); (case l50 => k_is); (case c50 => k_is); (case k50 => k_is)
    (case a51 => k_is); (case l51 => k_is); (case c51 => k_is); (case k51 => k_is)
    (case a52 => k_is); (case l52 => k_is); (case c52 => k_is); (case k52 => k_is)
    (case a53 => k_is); (case l53 => k_is); (case c53 => k_is); (case k53 => k_is)
    (case a54 => k_is); (case l54 => k_is); (case c54 => k_is); (case k54 => k_is)
    (case a55 => k_is); (case l55 => k_is); (case c55 => k_is); (case k55 => k_is)
    (case a56 => k_is); (case l56 => k_is); (case c56 => k_is); (case k56 => k_is)
    (case a57 => k_is); (case l57 => k_is); (case c57 => k_is); (case k57 => k_is)
    (case a58 => k_is); (case l58 => k_is); (case c58 => k_is); (case k58 => k_is)
    (case a59 => k_is); (case l59 => k_is); (case c59 => k_is); (case k59 => k_is)
    (case a60 => k_is); (case l60 => k_is); (case c60 => k_is); (case k60 => k_is)
    (case a61 => k_is); (case l61 => k_is); (case c61 => k_is); (case k61 => k_is)
    (case a62 => k_is); (case l62 => k_is); (case c62 => k_is); (case k62 => k_is)
    (case a63 => k_is); (case l63 => k_is); (case c63 => k_is); (case k63 => k_is)
    (case a64 => k_is); (case l64 => k_is); (case c64 => k_is); (case k64 => k_is)
    (case a65 => k_is); (case l65 => k_is); (case c65 => k_is); (case k65 => k_is)
    (case a66 => k_is); (case l66 => k_is); (case c66 => k_is); (case k66 => k_is)
    (case a67 => k_is); (case l67 => k_is); (case c67 => k_is); (case k67 => k_is)
    (case a68 => k_is); (case l68 => k_is); (case c68 => k_is); (case k68 => k_is)
    (case xe_NoPrices => kernel_rfl); (case xs_NoPrices => k_is); (case xm_NoPrices => k_is); (case xn_NoPrices => k_is); (case xf_NoPrices => k_is); (case xk_NoPrices => k_is)
    (case kf_kc => k_is)
    (case kf_kt => k_is)
    (case kf_og => k_is)
    (case kf_ot => k_is)
    (case kf_dc_Shifted => k_is)
    (case kf_dc_Scaled => k_is)
    (case kf_dc_Early => k_is)
    (case kf_dc_More => k_is)
    (case kf_dc_Wide => k_is)
    (case kf_mo_Shifted => k_is)
    (case kf_mo_Scaled => k_is)
    (case kf_mo_Early => k_is)
    (case kf_mo_More => k_is)
    (case kf_mo_Wide => k_is)
    (case kf_ik_Shifted => k_is)
    (case kf_ik_Scaled => k_is)
    (case kf_ik_Early => k_is)
    (case kf_ik_More => k_is)
    (case kf_ik_Wide => k_is)
    (case kf_ga => k_is)
    (case kf_gn => k_is)
    (case kf_gc => k_is)
    (case kf_mo => k_is)
    (case kf_mb => k_is)
    (case kf_hd => k_is)
    (case kf_nf => k_is)
    (case kf_xc => k_is)
    (case kf_xt => k_is)
    (case kf_xm => k_is)
    (case kf_xb => k_is)
    (case kf_dc_Cutting => k_is)
    (case kf_mo_Cutting => k_is)
    (case kf_dc_Turned => k_is)
    (case kf_mo_Turned => k_is)
    (case kf_kc_Cutting => k_is)
    (case kf_kt_Cutting => k_is)
    (case kf_kc_Turned => k_is)
    (case kf_kt_Turned => k_is)
    (case kf_kc_SignedForm => k_is)
    (case kf_kt_SignedForm => k_is)
    (case kf_m_Cutting_Cutting => k_is)
    (case kf_m_Cutting_Turned => k_is)
    (case kf_m_Cutting_SignedForm => k_is)
    (case kf_m_Turned_Cutting => k_is)
    (case kf_m_Turned_Turned => k_is)
    (case kf_m_Turned_SignedForm => k_is)
    (case z_isinstance => k_is)
    (case z_int => k_is)
    (case z_bool => k_is)
    (case z_str => k_is)
    (case z_list => k_is)
    (case z_dict => k_is)
    (case z_len => k_is)
    (case z_max => k_is)
    (case z_min => k_is)
    (case z_range => k_is)
    (case z_sorted => k_is)
    (case z_zip => k_is)
    (case z_repr => k_is)
    (case z_sum => k_is)
    (case z_abs => k_is)

