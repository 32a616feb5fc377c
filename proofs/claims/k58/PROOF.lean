import PyProof.Rows.All
import Wide.All
import OpenK.AllK
import Wide.FinOn
import Lean
import PyProof.EqAt
import PyProof.EqKinds
import PyProof.TupleCall
import KE.BitLaws
import KE.IntBitsLaws
import KE.KIntText
import PySem.Challenge.RW_overwise_k58_refused_everywhere
set_option Elab.async false
set_option linter.all false
set_option maxRecDepth 100000
/-! THE HAND LAYER, for ints, bools, texts, own classes, LISTS and tuples (index, slices, in, append, pop ..), calls, loops. Paste it whole ahead of your own text; what your proof does not reach may be deleted. -/
namespace L2
open PySem PySem.Spec PyProof.Rows

/-- a key: an int or a str -/
abbrev Key := Sum Int Str
def keyIs : Key → Value → Bool
  | .inl k, v => Value.isInt k v
  | .inr x, v => Value.isStrOf x v
def keyH (w : World) : Key → Int
  | .inl k => hashInt k
  | .inr x => hashStr w x
theorem keyIs_shape : ∀ {k : Key} {v : Value}, keyIs k v = true → (∃ i t, k = Sum.inl i ∧ v = Value.int i t) ∨ (∃ x t, k = Sum.inr x ∧ v = Value.str x t)
  | .inl i, v, h => by
    obtain ⟨t, e⟩ := Value.isInt_shape (k := i) (v := v) h
    exact .inl ⟨i, t, rfl, e⟩
  | .inr x, v, h => by
    obtain ⟨t, e⟩ := Value.isStrOf_shape (x := x) (v := v) h
    exact .inr ⟨x, t, rfl, e⟩
theorem keyIs_str (x : Str) (t : Tok) : keyIs (.inr x) (.str x t) = true := by simp [keyIs, Value.isStrOf]
theorem key_ll (a b : Int) : decide ((Sum.inl a : Key) = Sum.inl b) = (a == b) := by
  by_cases e : a = b
  · subst e; simp
  · have h : ¬ (Sum.inl a : Key) = Sum.inl b := fun q => e (Sum.inl.inj q)
    rw [decide_eq_false h]
    exact (beq_eq_false_iff_ne.mpr e).symm
theorem key_rr (a b : Str) : decide ((Sum.inr a : Key) = Sum.inr b) = decide (a = b) := by
  by_cases e : a = b
  · subst e; simp
  · have h : ¬ (Sum.inr a : Key) = Sum.inr b := fun q => e (Sum.inr.inj q)
    rw [decide_eq_false h, decide_eq_false e]
theorem key_lr (a : Int) (b : Str) : decide ((Sum.inl a : Key) = Sum.inr b) = false := decide_eq_false (fun q => nomatch q)
theorem key_rl (a : Str) (b : Int) : decide ((Sum.inr a : Key) = Sum.inl b) = false := decide_eq_false (fun q => nomatch q)

def mixKind (prog : Program) (w : World) : PySem.KeyKind prog w Key where
  is := keyIs
  hash := keyH w
  inj := fun v a b ha hb => by
    rcases keyIs_shape ha with ⟨i, t, rfl, rfl⟩ | ⟨x, t, rfl, rfl⟩
    · rcases keyIs_shape hb with ⟨j, u, rfl, e⟩ | ⟨y, u, rfl, e⟩
      · injection e with e1 _; rw [e1]
      · exact nomatch e
    · rcases keyIs_shape hb with ⟨j, u, rfl, e⟩ | ⟨y, u, rfl, e⟩
      · exact nomatch e
      · injection e with e1 _; rw [e1]
  byValue := fun k v h => by
    rcases keyIs_shape h with ⟨i, t, rfl, rfl⟩ | ⟨x, t, rfl, rfl⟩ <;> rfl
  pyHash := fun hv h => by
    rcases keyIs_shape hv with ⟨i, t, rfl, rfl⟩ | ⟨x, t, rfl, rfl⟩
    · exact wpAny_pyHash_int h
    · exact wpAny_pyHash_str h
  eqBool := fun hu hv h => by
    rcases keyIs_shape hu with ⟨i, t, rfl, rfl⟩ | ⟨x, t, rfl, rfl⟩
    · rcases keyIs_shape hv with ⟨j, u, rfl, rfl⟩ | ⟨y, u, rfl, rfl⟩
      · rw [key_ll] at h; exact wpAny_eqBool_int h
      · rw [key_lr] at h; exact SeqAt.EqAt.int_str i t y u _ _ _ _ h
    · rcases keyIs_shape hv with ⟨j, u, rfl, rfl⟩ | ⟨y, u, rfl, rfl⟩
      · rw [key_rl] at h; exact SeqAt.EqAt.str_int x t j u _ _ _ _ h
      · rw [key_rr] at h; exact wpAny_eqBool_str h
  «strs» := fun k x t v h => by
    rcases keyIs_shape h with ⟨i, u, rfl, e⟩ | ⟨y, u, rfl, e⟩
    · exact nomatch e
    · injection e with e1 _
      subst e1
      cases v <;> rfl

theorem mixKind_str (prog : Program) (w : World) (x : Str) (t : Tok) : (mixKind prog w).is (.inr x) (.str x t) = true := keyIs_str x t
end L2

namespace L2
open PySem PySem.Spec PyProof.Rows

/-- a value, without the heap -/
inductive V where
  | non | bl (b : Bool) | int (i : Int) | str (x : Str) | byt (b : Array UInt8) | flt (b : UInt64) | ref (a : Addr) | ty (n : String)
  deriving DecidableEq

def RelV : V → Value → Prop
  | .non, u => u = Value.none
  | .bl b, u => u = Value.bool b
  | .int i, u => ∃ t, u = Value.int i t
  | .str x, u => ∃ t, u = Value.str x t
  | .byt b, u => ∃ t, u = Value.bytes b t
  | .flt b, u => ∃ t, u = Value.float b t
  | .ref a, u => u = Value.ref a
  | .ty n, u => u = Value.type n

abbrev Vals : List V → List Value → Prop := Paired RelV
theorem Vals.length {xs : List V} {us : List Value} (r : Vals xs us) : xs.length = us.length := Paired.length r
theorem Vals.get : ∀ {xs : List V} {us : List Value} {i : Nat} {x : V}, Vals xs us → xs[i]? = some x → ∃ u, us[i]? = some u ∧ RelV x u
  | _, _, _, _, .nil, e => by simp at e
  | _, _, 0, _, .cons r _, e => by simp at e; subst e; exact ⟨_, rfl, r⟩
  | _, _, i + 1, x, .cons _ t, e => by
    obtain ⟨u, h1, h2⟩ := Vals.get (i := i) (x := x) t (by simpa using e)
    exact ⟨u, by simpa using h1, h2⟩
theorem Vals.set {x : V} {u : Value} (r : RelV x u) : ∀ {xs : List V} {us : List Value} (i : Nat), Vals xs us → Vals (xs.set i x) (us.set i u)
  | _, _, _, .nil => .nil
  | _, _, 0, .cons _ t => .cons r t
  | _, _, i + 1, .cons q t => .cons q (Vals.set r i t)
theorem Vals.append : ∀ {xs ys : List V} {us ws : List Value}, Vals xs us → Vals ys ws → Vals (xs ++ ys) (us ++ ws)
  | _, _, _, _, .nil, s => s
  | _, _, _, _, .cons r t, s => .cons r (Vals.append t s)
theorem Vals.take : ∀ {xs : List V} {us : List Value} (n : Nat), Vals xs us → Vals (xs.take n) (us.take n)
  | _, _, 0, _ => .nil
  | _, _, _ + 1, .nil => .nil
  | _, _, n + 1, .cons r t => .cons r (Vals.take n t)
theorem Vals.drop : ∀ {xs : List V} {us : List Value} (n : Nat), Vals xs us → Vals (xs.drop n) (us.drop n)
  | _, _, 0, r => r
  | _, _, _ + 1, .nil => .nil
  | _, _, n + 1, .cons _ t => Vals.drop n t
theorem Vals.none_of : ∀ {xs : List V} {us : List Value} {i : Nat}, Vals xs us → xs[i]? = none → us[i]? = none := fun {xs us i} r e => by
  have h1 := r.length
  have h2 : xs.length ≤ i := List.getElem?_eq_none_iff.mp e
  exact List.getElem?_eq_none_iff.mpr (by omega)

def RelO : Option V → Option Value → Prop
  | some v, some u => RelV v u
  | none, none => True
  | _, _ => False
def KV {κ : Type} : List (κ × V) → List (κ × Value) → Prop := Paired fun (p : κ × V) (q : κ × Value) => p.1 = q.1 ∧ RelV p.2 q.2

/-- a key of a dict (00_mix): an int or a text -/
def kV : Key → V
  | .inl i => .int i
  | .inr x => .str x

/-- what stands at a tracked address -/
inductive HO where
  /-- a list -/
  | lst (xs : List V)
  /-- a tuple (never changes) -/
  | tup (xs : List V)
  /-- a dict whose keys are ints and texts; one whose keys are tuples of ints and texts (the empty one is both) -/
  | dK (kvs : List (Key × V)) | dT (kvs : List (List Key × V))
  /-- a set of ints: its members, its size -/
  | set (S : Int → Bool) (n : Nat)
  /-- an instance of the class at C, its dict at dx, its attributes -/
  | ins (C dx : Addr) (fs : List (Str × V))
  /-- the dict of the instance at x -/
  | own (x : Addr)
  /-- the dict of an exception -/
  | xd (fs : List (Str × V))
  /-- a bound method, f of x -/
  | met (f x : Addr)
  /-- a range object lo, lo + 1, .. below hi -/
  | rng (lo hi : Int)
  /-- a thing that is known to the object (the script; a dict while a loop walks it): read, never written while it is so -/
  | frz (o : Obj) (u : HO)
  /-- a code object's table -/
  | tbl (ps : Array Value)
  /-- any other thing, by what is true of its one object (a def of one's own: SetO a S n := HO.ext fun h => ..) -/
  | ext (φ : Heap → Prop)

abbrev Hp := Addr → Option HO
def upd (H : Hp) (a : Addr) (o : HO) : Hp := fun b => if b = a then some o else H b
theorem upd_same {H : Hp} {a : Addr} {o : HO} : upd H a o a = some o := by unfold upd; rw [if_pos rfl]
theorem upd_ne {H : Hp} {a b : Addr} {o : HO} (h : b ≠ a) : upd H a o b = H b := by unfold upd; rw [if_neg h]
theorem ne_of_none {H : Hp} {a b : Addr} {o : HO} (h : H a = some o) (h' : H b = none) : a ≠ b := by
  intro e; subst e; rw [h] at h'; cases h'

section
variable (P : Program) (w : World)
def ObjOk (H : Hp) (h : Heap) (a : Addr) : HO → Prop
  | .lst xs => xs.length ≤ sizeLine ∧ ∃ (its : List Value) (n : Nat), Vals xs its ∧ h.get? a = some { cls := .type "list", data := .seq its.toArray n }
  | .tup xs => xs.length ≤ sizeLine ∧ ∃ its : List Value, Vals xs its ∧ IsTup h a its.toArray
  | .dK kvs => kvs.length ≤ sizeLine ∧ (a == sysModules) = false ∧ ∃ vs, KV kvs vs ∧ h.DictOf (mixKind P w) a vs
  | .dT kvs => kvs.length ≤ sizeLine ∧ (a == sysModules) = false ∧ ∃ xs : List (List Key × Addr × Value),
      Paired (fun (p : List Key × V) (q : List Key × Addr × Value) => p.1 = q.1 ∧ H q.2.1 = some (.tup (p.1.map kV)) ∧ RelV p.2 q.2.2) kvs xs ∧
      ∃ o es ep, h.get? a = some o ∧ o.ExactDict ∧ o.data = .dict es ep ∧ es.toList = xs.map (entryOfKey (tupleKind (mixKind P w))) ∧ (xs.map (·.1)).Nodup
  | .set S n => h.SetOf (intKind P w) a S n
  | .ins C dx fs => H dx = some (.own a) ∧ fs.length ≤ 1000 ∧ dx ≠ a ∧ h.get? a = some (PySem.W.instObj C dx) ∧
      ∃ mA, h.Ns1 dx mA ∧ (∀ f, RelO (fs.lookup f) (mA f)) ∧ PySem.Within mA (fs.map (·.1))
  | .own _ => ∃ o, h.get? a = some o
  | .xd fs => ∃ mA, h.Ns1 a mA ∧ ∀ f, RelO (fs.lookup f) (mA f)
  | .rng lo hi => ∃ t u v, h.get? a = some { cls := .type "range", data := .fields #[.int lo t, .int hi u, .int 1 v] }
  | .frz o u => h.get? a = some o ∧ ObjOk H h a u
  | .tbl ps => h.get? a = some { cls := .none, data := .fields ps }
  | .met f x => h.get? a = some (PySem.W.methodObj (.ref f) (.ref x))
  | .ext φ => φ h ∧ (∃ o, h.get? a = some o) ∧ ∀ h1 h2 : Heap, φ h1 → (∀ o, h1.get? a = some o → h2.get? a = some o) → φ h2
/-- the abstract heap is held -/
def HOk (H : Hp) (h : Heap) : Prop := ∀ a o, H a = some o → ObjOk P w H h a o
end

section
variable {P : Program} {w : World} {H H' : Hp} {h h' : Heap} {a : Addr} {o : HO}
theorem ObjOk.lt (x : ObjOk P w H h a o) : a < h.objs.size := by
  cases o with
  | lst xs => obtain ⟨_, _, _, _, e⟩ := x; exact Heap.lt_size e
  | tup xs => obtain ⟨_, _, _, p⟩ := x; exact p.lt
  | dK kvs => obtain ⟨_, _, _, _, o, _, _, e, _⟩ := x; exact Heap.lt_size e
  | dT kvs => obtain ⟨_, _, _, _, o, _, _, e, _⟩ := x; exact Heap.lt_size e
  | set S n => obtain ⟨o, _, _, _, e, _⟩ := x; exact Heap.lt_size e
  | ins C dx fs => obtain ⟨_, _, _, e, _⟩ := x; exact Heap.lt_size e
  | own y => obtain ⟨_, e⟩ := x; exact Heap.lt_size e
  | xd fs => obtain ⟨_, ⟨_, _, _, e, _⟩, _⟩ := x; exact Heap.lt_size e
  | rng lo hi => obtain ⟨_, _, _, e⟩ := x; exact Heap.lt_size e
  | frz ob u => obtain ⟨e, _⟩ := x; exact Heap.lt_size e
  | tbl ps => exact Heap.lt_size (show h.get? a = some _ from x)
  | met f y => exact Heap.lt_size (show h.get? a = some _ from x)
  | ext φ => obtain ⟨_, ⟨_, e⟩, _⟩ := x; exact Heap.lt_size e
theorem Paired.mapP {α β : Type} {F G : α → β → Prop} : ∀ {l₁ : List α} {l₂ : List β}, Paired F l₁ l₂ → (∀ a b, F a b → G a b) → Paired G l₁ l₂
  | _, _, .nil, _ => .nil
  | _, _, .cons r t, f => .cons (f _ _ r) (Paired.mapP t f)
/-- what an object's description leans on: its own object, its own dict, the tuples -/
theorem ObjOk.stay (x : ObjOk P w H h a o) (k : ∀ b u, (b = a ∨ H b = some (.own a)) → h.get? b = some u → h'.get? b = some u)
    (ho : ∀ b, H b = some (.own a) → H' b = some (.own a)) (ht : ∀ b xs, H b = some (.tup xs) → H' b = some (.tup xs)) : ObjOk P w H' h' a o := by
  induction o with
  | lst xs => obtain ⟨z, its, n, r, e⟩ := x; exact ⟨z, its, n, r, k _ _ (.inl rfl) e⟩
  | tup xs => obtain ⟨z, its, r, ob, e, c⟩ := x; exact ⟨z, its, r, ob, k _ _ (.inl rfl) e, c⟩
  | dK kvs => obtain ⟨z, y, vs, r, ob, es, ep, e, c⟩ := x; exact ⟨z, y, vs, r, ob, es, ep, k _ _ (.inl rfl) e, c⟩
  | dT kvs =>
    obtain ⟨z, y, xs, r, ob, es, ep, e, c⟩ := x
    exact ⟨z, y, xs, Paired.mapP r fun p q z => ⟨z.1, ht _ _ z.2.1, z.2.2⟩, ob, es, ep, k _ _ (.inl rfl) e, c⟩
  | set S n => obtain ⟨ob, es, ep, t, e, c⟩ := x; exact ⟨ob, es, ep, t, k _ _ (.inl rfl) e, c⟩
  | ins C dx fs =>
    obtain ⟨d, z, ne, e, mA, ⟨od, es, ep, e2, c⟩, r⟩ := x
    exact ⟨ho _ d, z, ne, k _ _ (.inl rfl) e, mA, ⟨od, es, ep, k _ _ (.inr d) e2, c⟩, r⟩
  | own y => obtain ⟨ob, e⟩ := x; exact ⟨ob, k _ _ (.inl rfl) e⟩
  | xd fs => obtain ⟨mA, ⟨od, es, ep, e, c⟩, r⟩ := x; exact ⟨mA, ⟨od, es, ep, k _ _ (.inl rfl) e, c⟩, r⟩
  | rng lo hi => obtain ⟨t, u, v, e⟩ := x; exact ⟨t, u, v, k _ _ (.inl rfl) e⟩
  | frz ob u ih => obtain ⟨e, q⟩ := x; exact ⟨k _ _ (.inl rfl) e, ih q⟩
  | tbl ps =>
    have e : h.get? a = some { cls := .none, data := .fields ps } := x
    show h'.get? a = some { cls := .none, data := .fields ps }
    exact k a _ (.inl rfl) e
  | met f y =>
    have e : h.get? a = some (PySem.W.methodObj (.ref f) (.ref y)) := x
    show h'.get? a = some (PySem.W.methodObj (.ref f) (.ref y))
    exact k a _ (.inl rfl) e
  | ext φ => obtain ⟨p, ⟨o, e⟩, st⟩ := x; exact ⟨st _ _ p fun o q => k _ _ (.inl rfl) q, ⟨o, k _ _ (.inl rfl) e⟩, st⟩
theorem HOk.lt (x : HOk P w H h) (e : H a = some o) : a < h.objs.size := (x a o e).lt
theorem HOk.fresh (x : HOk P w H h) (e : h.objs.size ≤ a) : H a = none := by
  cases q : H a with
  | none => rfl
  | some u => exact absurd (Nat.lt_of_lt_of_le (x.lt q) e) (Nat.lt_irrefl _)
/-- every object of the heap is kept -/
theorem HOk.kept (x : HOk P w H h) (k : ∀ b u, h.get? b = some u → h'.get? b = some u) : HOk P w H h' := fun a o e =>
  (x a o e).stay (fun b u _ q => k b u q) (fun _ q => q) fun _ _ q => q
/-- a new object is laid and tracked -/
theorem HOk.laid (x : HOk P w H h) (k : ∀ b u, h.get? b = some u → h'.get? b = some u) (hp : h.objs.size ≤ a) (new : ObjOk P w (upd H a o) h' a o) : HOk P w (upd H a o) h' := fun b u e => by
  have hn := x.fresh hp
  by_cases hb : b = a
  · subst hb; rw [upd_same] at e; cases e; exact new
  · rw [upd_ne hb] at e
    exact (x b u e).stay (fun c v _ q => k c v q) (fun c q => by rw [upd_ne (ne_of_none q hn)]; exact q) fun c xs q => by rw [upd_ne (ne_of_none q hn)]; exact q
end

/-- what may be read as u: it is u, or a known u -/
def Rd (H : Hp) (a : Addr) (u : HO) : Prop := H a = some u ∨ ∃ o, H a = some (.frz o u)
theorem Rd.of {H : Hp} {a : Addr} {u : HO} (h : H a = some u) : Rd H a u := .inl h
theorem Rd.ok {P : Program} {w : World} {H : Hp} {h : Heap} {a : Addr} {u : HO} (r : Rd H a u) (x : HOk P w H h) : ObjOk P w H h a u := by
  rcases r with r | ⟨o, r⟩
  · exact x a u r
  · obtain ⟨_, q⟩ := x a _ r
    exact q
/-- what may be written -/
def Mut : Option HO → Prop
  | some (.lst _) => True
  | some (.dK _) => True
  | some (.dT _) => True
  | some (.set _ _) => True
  | some (.ins _ _ _) => True
  | some (.ext _) => True
  | _ => False
section
variable {P : Program} {w : World} {H : Hp} {h h' : Heap} {x e : Addr} {o' : HO}
/-- the object at e is changed: x itself, or the dict of the instance x -/
theorem HOk.write (ok : HOk P w H h) (mu : Mut (H x)) (he : e = x ∨ H e = some (.own x)) (k : ∀ b u, b ≠ e → h.get? b = some u → h'.get? b = some u) (heo : ∃ u, h'.get? e = some u)
    (new : ObjOk P w (upd H x o') h' x o') : HOk P w (upd H x o') h' := fun b u q => by
  have nown : ∀ c y, H c = some (.own y) → c ≠ x := fun c y r z => by subst z; rw [r] at mu; exact mu
  have ntup : ∀ c xs, H c = some (.tup xs) → c ≠ x := fun c xs r z => by subst z; rw [r] at mu; exact mu
  by_cases hb : b = x
  · subst hb; rw [upd_same] at q; cases q; exact new
  · rw [upd_ne hb] at q
    by_cases hbe : b = e
    · have q' : H b = some (.own x) := by
        rcases he with z | z
        · exact absurd (hbe.trans z) hb
        · rw [hbe]; exact z
      rw [q] at q'; cases q'
      obtain ⟨v, hv⟩ := heo
      exact ⟨v, by rw [hbe]; exact hv⟩
    · refine (ok b u q).stay (fun c v hc r => k c v ?_ r) (fun c r => by rw [upd_ne (nown c b r)]; exact r) fun c xs r => by rw [upd_ne (ntup c xs r)]; exact r
      rcases hc with rfl | hc
      · exact hbe
      · rintro rfl
        rcases he with z | z
        · exact nown c b hc z
        · rw [hc] at z; cases z; exact hb rfl
end

/-! ### kept unless tracked; of the frames at fs (the callers') the slots may change (an exception that passes writes there); of the records at ex (iterators) nothing is said -/
structure Un (fs ex : List Addr) (H H' : Hp) (h h' : Heap) : Prop where
  keep : ∀ b o, h.get? b = some o → H b = none → b ∉ fs → b ∉ ex → h'.get? b = some o
  slot : ∀ b o, h.get? b = some o → H b = none → b ∈ fs → b ∉ ex → ∃ sl, h'.get? b = some { o with slots := sl }
  free : ∀ b o, h.get? b = some o → H b = none → b ∉ ex → H' b = none
  there : ∀ b o, h.get? b = some o → b ∉ ex → ∃ o', h'.get? b = some o'
  tups : ∀ b xs, H b = some (.tup xs) → H' b = some (.tup xs)
  frzs : ∀ b o u, H b = some (.frz o u) → H' b = some (.frz o u)
  tbls : ∀ b ps, H b = some (.tbl ps) → ∃ more, H' b = some (.tbl (ps ++ more))
section
variable {fs fs' ex ex' : List Addr} {H H1 H2 : Hp} {h h1 h2 h' : Heap} {a x e : Addr} {o : HO}
theorem Un.any (u : Un fs ex H H1 h h1) {b : Addr} {ob : Obj} (q : h.get? b = some ob) (n : H b = none) (hx : b ∉ ex) : ∃ sl, h1.get? b = some { ob with slots := sl } := by
  by_cases hb : b ∈ fs
  · exact u.slot b ob q n hb hx
  · exact ⟨ob.slots, u.keep b ob q n hb hx⟩
theorem Un.trans (a : Un fs ex H H1 h h1) (b : Un fs ex H1 H2 h1 h2) : Un fs ex H H2 h h2 where
  keep := fun c ob q n hc hx => b.keep c ob (a.keep c ob q n hc hx) (a.free c ob q n hx) hc hx
  slot := fun c ob q n hc hx => by
    obtain ⟨sl, e1⟩ := a.slot c ob q n hc hx
    obtain ⟨sl', e2⟩ := b.slot c _ e1 (a.free c ob q n hx) hc hx
    exact ⟨sl', e2⟩
  free := fun c ob q n hx => by
    obtain ⟨o', e1⟩ := a.there c ob q hx
    exact b.free c o' e1 (a.free c ob q n hx) hx
  there := fun c ob q hx => by
    obtain ⟨o', e1⟩ := a.there c ob q hx
    exact b.there c o' e1 hx
  tups := fun c xs q => b.tups c xs (a.tups c xs q)
  frzs := fun c ob xs q => b.frzs c ob xs (a.frzs c ob xs q)
  tbls := fun c ps q => by
    obtain ⟨m1, e1⟩ := a.tbls c ps q
    obtain ⟨m2, e2⟩ := b.tbls c _ e1
    exact ⟨m1 ++ m2, by rw [e2, Array.append_assoc]⟩
theorem Un.kept (k : ∀ b u, h.get? b = some u → h'.get? b = some u) : Un fs ex H H h h' :=
  ⟨fun b ob q _ _ _ => k b ob q, fun b ob q _ _ _ => ⟨ob.slots, k b ob q⟩, fun _ _ _ n _ => n, fun b ob q _ => ⟨ob, k b ob q⟩, fun _ _ q => q, fun _ _ _ q => q, fun _ ps q => ⟨#[], by rw [q]; simp⟩⟩
theorem Un.refl : Un fs ex H H h h := Un.kept fun _ _ q => q
theorem Un.laid (k : ∀ b u, h.get? b = some u → h'.get? b = some u) (hp : h.objs.size ≤ a) (hn : H a = none) : Un fs ex H (upd H a o) h h' where
  keep := fun b u q _ _ _ => k b u q
  slot := fun b u q _ _ _ => ⟨u.slots, k b u q⟩
  free := fun b u q n _ => by rw [upd_ne (Nat.ne_of_lt (Nat.lt_of_lt_of_le (Heap.lt_size q) hp))]; exact n
  there := fun b u q _ => ⟨u, k b u q⟩
  tups := fun b xs q => by rw [upd_ne (ne_of_none q hn)]; exact q
  frzs := fun b u xs q => by rw [upd_ne (ne_of_none q hn)]; exact q
  tbls := fun b ps q => ⟨#[], by rw [upd_ne (ne_of_none q hn), q]; simp⟩
theorem Un.write (mu : Mut (H x)) (he : e = x ∨ H e = some (.own x)) (k : ∀ b u, b ≠ e → h.get? b = some u → h'.get? b = some u) (heo : ∃ u, h'.get? e = some u) : Un fs ex H (upd H x o) h h' := by
  have hx : ∀ b, H b = none → b ≠ x := fun b n z => by subst z; rw [n] at mu; exact mu
  have hb : ∀ b, H b = none → b ≠ e := fun b n z => by
    subst z
    rcases he with r | r
    · exact hx b n r
    · rw [n] at r; cases r
  have hm : ∀ b u, H b = some u → ¬ Mut (some u) → b ≠ x := fun b u q nm z => by subst z; rw [q] at mu; exact nm mu
  refine ⟨fun b u q n _ _ => k b u (hb b n) q, fun b u q n _ _ => ⟨u.slots, k b u (hb b n) q⟩, fun b u q n _ => by rw [upd_ne (hx b n)]; exact n, fun b u q _ => ?_,
    fun b xs q => by rw [upd_ne (hm b _ q fun z => z)]; exact q, fun b u xs q => by rw [upd_ne (hm b _ q fun z => z)]; exact q, fun b ps q => ⟨#[], by rw [upd_ne (hm b _ q fun z => z), q]; simp⟩⟩
  by_cases hbe : b = e
  · subst hbe; exact heo
  · exact ⟨u, k b u hbe q⟩
theorem Un.mono (u : Un fs ex H H1 h h1) (hs : ∀ b ∈ fs, b ∈ fs') (hx : ∀ b ∈ ex, b ∈ ex') : Un fs' ex' H H1 h h1 :=
  ⟨fun b ob q n hb he => u.keep b ob q n (fun z => hb (hs b z)) fun z => he (hx b z), fun _ _ q n _ he => u.any q n fun z => he (hx _ z), fun b ob q n he => u.free b ob q n fun z => he (hx b z), fun b ob q he => u.there b ob q fun z => he (hx b z), u.tups, u.frzs, u.tbls⟩
end

/-! ### the heap without what is tracked -/
def trk (h : Heap) (H : Hp) : List Addr := (List.range h.objs.size).filter fun a => (H a).isSome
def hidT (h : Heap) (H : Hp) : Heap := PySem.W.hideAll h (trk h H)
theorem hidT_size (h : Heap) (H : Hp) : (hidT h H).objs.size = h.objs.size := PySem.W.hideAll_size _ _
theorem hidT_get {h : Heap} {H : Hp} {b : Addr} {o : Obj} (e : h.get? b = some o) (n : H b = none) : (hidT h H).get? b = some o :=
  PySem.W.hideAll_get _ e fun hm => by
    have q : (H b).isSome = true := (List.mem_filter.mp hm).2
    rw [n] at q; simp at q
theorem of_hidT {h : Heap} {H : Hp} {b : Addr} {o : Obj} (e : (hidT h H).get? b = some o) : h.get? b = some o ∧ H b = none := by
  have e' : h.get? b = some o := PySem.W.of_hideAll (trk h H) e
  refine ⟨e', ?_⟩
  cases q : H b with
  | none => rfl
  | some x =>
    have hm : b ∈ trk h H := List.mem_filter.mpr ⟨List.mem_range.mpr (Heap.lt_size e'), by simp [q]⟩
    have z : (hidT h H).get? b = none := PySem.W.hideAll_none (trk h H) hm
    rw [z] at e; cases e

/-! ### OpenK's ledger, filled with every new object but one -/
def allNews (g h : Heap) (L : Addr) : List (Addr × Obj) := (List.range h.objs.size).filterMap fun a => if a = L ∨ (g.get? a).isSome = true then none else (h.get? a).map fun o => (a, o)
def rest (g h : Heap) (L d : Addr) : List (Addr × Obj) := (allNews g h L).filter fun p => decide (p.1 ≠ d)
end L2

namespace L2
open PySem PySem.Spec PyProof.Rows

/-- the module's facts, over the base: the heap at the law's entry without what is tracked there -/
structure Mod (K : PySem.W.Frag) (mg : Str → Option Value) (base : Heap) : Prop where
  kin : K.In base
  glob : base.Ns mainGlobals mg
  blt : ∃ mb, base.Ns builtinsNs mb ∧ ∀ x : Str, x ≠ "__name__" → mb x = bootBuiltins x
  nolimit : base.NoLimit

/-- the context: a def's body (or a comprehension's block) running. base: fixed through the whole law; s₀, H₀: the entry; outer: the frames whose slots others may change (a def's callers); stack: all frames that run;
   ex: iterators that were made ahead of the entry and are walked here (a comprehension's); fn: the names whose cells were made at the entry (a def: all; a comprehension's block: its own); calm: not within an except suite; pn: pins that every state bears; xe: what is wanted of an exception that leaves the code -/
structure Cx where
  prog : Program
  w : World
  K : PySem.W.Frag
  mg : Str → Option Value
  base : Heap
  A : Around
  N : List Str
  s₀ : Shared
  H₀ : Hp
  env : Env
  outer : List Env
  stack : List Env
  ex : List Addr
  fn : Str → Bool
  calm : Bool
  pn : List (Addr × Obj)
  xe : Value → Shared → Prop
/-- the callers' frames -/
def frs (l : List Env) : List Addr := l.filterMap (·.frame)
abbrev Cx.fs (X : Cx) : List Addr := frs X.outer

def Vis (sc : Scope) (x : Str) : Prop := sc.names.lookup x = some .local ∨ sc.names.lookup x = some .cell ∨ sc.names.lookup x = some .free
def Loc (sc : Scope) (x : Str) : Prop := sc.names.lookup x = some .local ∨ sc.names.lookup x = some .cell
def Look (env : Env) (h : Heap) (m : Str → Option Value) (x : Str) (u : Value) : Prop :=
  (env.kindOf x = some .local ∧ m x = some u) ∨ ((env.kindOf x = some .cell ∨ env.kindOf x = some .free) ∧ ∃ c, env.cells.lookup x = some c ∧ h.IsCell c (some u))

structure Cx.Ok (X : Cx) : Prop where
  mod : Mod X.K X.mg X.base
  kind : X.env.scope.kind = .function
  glob : X.env.globals = mainGlobals
  blt : X.env.builtins = builtinsNs
  above : X.s₀.heap.objs.size ≤ X.env.locals
  inj : ∀ x y c, X.env.cells.lookup x = some c → X.env.cells.lookup y = some c → x = y
  has : ∀ x, (X.env.kindOf x = some .cell ∨ X.env.kindOf x = some .free) → ∃ c, X.env.cells.lookup x = some c
  cab : ∀ x c, X.fn x = true → X.env.cells.lookup x = some c → X.s₀.heap.objs.size ≤ c
  hd : X.calm = true → X.A.handled = none
  frames : X.A.frames = some X.stack
  stk : X.stack = X.outer ∨ (X.stack = X.env :: X.outer ∧ X.env.frame = some X.env.locals)
  exf : ∀ b ∈ X.ex, b ≠ X.env.locals ∧ ∀ x c, X.env.cells.lookup x = some c → c ≠ b
  bs : ∀ b o, X.base.get? b = some o → X.s₀.heap.get? b = some o ∧ X.H₀ b = none
  bsz : X.base.objs.size ≤ X.s₀.heap.objs.size
  noex : ∀ b o, X.base.get? b = some o → b ∉ X.ex
  exfs : ∀ b ∈ X.ex, b ∉ X.fs
  funs : X.s₀.heap.FunFrames X.base X.outer
  frf : ∀ b ∈ X.fs, X.H₀ b = none

structure Inv (X : Cx) (pins : List (Addr × Obj)) (σ : List (Option V)) (H : Hp) (s : Shared) : Prop where
  ok : X.Ok
  os : s.os = X.s₀.os
  bare : AllBare s.gens
  base : Un X.fs X.ex X.H₀ H X.s₀.heap s.heap
  loc : ∃ m, s.heap.Ns X.env.locals m ∧ ∀ (i : Nat) (x : Str) (v : V), X.N[i]? = some x → σ[i]? = some (some v) → Vis X.env.scope x → ∃ u, RelV v u ∧ Look X.env s.heap m x u
  cell : ∀ x c, X.env.cells.lookup x = some c → ∃ v, s.heap.IsCell c v
  free : H X.env.locals = none
  freeC : ∀ x c, X.env.cells.lookup x = some c → H c = none
  pin : ∀ p ∈ X.pn ++ pins, s.heap.get? p.1 = some p.2 ∧ H p.1 = none ∧ p.1 ≠ X.env.locals ∧ p.1 ∉ X.fs ∧ ∀ v, p.2.data ≠ .cell v
  hok : HOk X.prog X.w H s.heap
  len : σ.length = X.N.length

section
variable {X : Cx} {pins : List (Addr × Obj)} {σ : List (Option V)} {H H' : Hp} {s : Shared} {h' : Heap}

theorem Cx.Ok.nofr (ok : X.Ok) {b : Addr} {o : Obj} (e : X.base.get? b = some o) : b ∉ X.fs := fun hb => by
  have := (ok.funs.mem hb).1
  rw [e] at this; cases this
theorem Inv.bs (I : Inv X pins σ H s) : ∀ b o, X.base.get? b = some o → s.heap.get? b = some o ∧ H b = none := fun b o e =>
  ⟨I.base.keep b o (I.ok.bs b o e).1 (I.ok.bs b o e).2 (I.ok.nofr e) (I.ok.noex b o e), I.base.free b o (I.ok.bs b o e).1 (I.ok.bs b o e).2 (I.ok.noex b o e)⟩
theorem Inv.bk (I : Inv X pins σ H s) : ∀ b o, X.base.get? b = some o → s.heap.get? b = some o := fun b o e => (I.bs b o e).1
theorem Inv.mod (I : Inv X pins σ H s) : Mod X.K X.mg X.base := I.ok.mod
theorem Inv.kIn (I : Inv X pins σ H s) : X.K.In s.heap := I.ok.mod.kin.keeps I.bk
theorem Inv.nolimit (I : Inv X pins σ H s) : s.heap.NoLimit := I.ok.mod.nolimit.keeps I.bk
/-- the frame over the base: for OpenK's rules (K.In X.base is I.mod.kin) -/
theorem Inv.fr (I : Inv X pins σ H s) : ∃ m, Fr X.base X.env.locals s.heap m :=
  let ⟨m, hn, _⟩ := I.loc
  ⟨m, hn, I.bk, Nat.le_trans I.ok.bsz I.ok.above⟩
theorem Inv.lt (I : Inv X pins σ H s) : X.env.locals < s.heap.objs.size := let ⟨_, hn, _⟩ := I.loc; hn.lt
theorem Inv.sz (I : Inv X pins σ H s) : X.s₀.heap.objs.size ≤ s.heap.objs.size := Nat.le_trans I.ok.above (Nat.le_of_lt I.lt)
theorem Inv.nofs (I : Inv X pins σ H s) {a : Addr} (h : s.heap.objs.size ≤ a) : a ∉ X.fs := fun hb => by
  obtain ⟨_, o, ho, _⟩ := I.ok.funs.mem hb
  exact absurd (Nat.lt_of_lt_of_le (Heap.lt_size ho) (Nat.le_trans I.sz h)) (Nat.lt_irrefl _)
theorem Inv.cne (I : Inv X pins σ H s) : ∀ x c, X.env.cells.lookup x = some c → c ≠ X.env.locals := fun x c e z => by
  obtain ⟨v, o, ho, hd⟩ := I.cell x c e
  obtain ⟨m, ⟨o', es, ep, ho', hd', _⟩, _⟩ := I.loc
  rw [z, ho'] at ho; cases ho; rw [hd'] at hd; cases hd
theorem Inv.funs (I : Inv X pins σ H s) : s.heap.FunFrames X.base X.outer := by
  have all : ∀ (l : List Env), (∀ b ∈ frs l, b ∈ X.fs) → X.s₀.heap.FunFrames X.base l → s.heap.FunFrames X.base l := by
    intro l
    induction l with
    | nil => intro _ _; trivial
    | cons env r ih =>
      intro hs hl
      obtain ⟨hk, ⟨L, o, hf, hn, ho, hd⟩, hr⟩ := hl
      have hL : L ∈ X.fs := hs L (by unfold frs; rw [List.filterMap_cons, hf]; exact List.mem_cons_self)
      obtain ⟨sl, e⟩ := I.base.slot L o ho (I.ok.frf L hL) hL fun z => I.ok.exfs L z hL
      exact ⟨hk, ⟨L, _, hf, hn, e, hd⟩, ih (fun b hb => hs b (by unfold frs; rw [List.filterMap_cons, hf]; exact List.mem_cons_of_mem _ hb)) hr⟩
  exact all X.outer (fun _ hb => hb) I.ok.funs

/-- the frames that run, for a call -/
theorem Inv.stack (I : Inv X pins σ H s) : s.heap.FunFrames X.base X.stack := by
  rcases I.ok.stk with e | ⟨e, hf⟩
  · rw [e]; exact I.funs
  · rw [e]
    obtain ⟨m, hn, _⟩ := I.loc
    refine .cons (by rw [I.ok.kind]; decide) hf hn ?_ I.funs
    exact Heap.get?_none_of_le (Nat.le_trans I.ok.bsz I.ok.above)
theorem Inv.stkSub (I : Inv X pins σ H s) : ∀ b ∈ frs X.stack, b ∈ X.env.locals :: X.fs := fun b hb => by
  rcases I.ok.stk with e | ⟨e, hf⟩
  · rw [e] at hb; exact List.mem_cons_of_mem _ hb
  · rw [e] at hb
    unfold frs at hb
    rw [List.filterMap_cons, hf] at hb
    exact hb
theorem Inv.stkFree (I : Inv X pins σ H s) : ∀ b ∈ frs X.stack, H b = none := fun b hb => by
  rcases List.mem_cons.mp (I.stkSub b hb) with e | hb
  · rw [e]; exact I.free
  · obtain ⟨_, o, ho, _⟩ := I.ok.funs.mem hb
    exact I.base.free b o ho (I.ok.frf b hb) fun z => I.ok.exfs b z hb

/-- THE STEP: the untracked objects but the frame and the records at ch are kept (the callers' frames up to slots), the frame's map is kept, the new abstract heap is held -/
theorem Inv.step {g' : Array GenState} {t' : Nat} {d' : Drawn} {ch : List Addr} (I : Inv X pins σ H s)
    (hch : ∀ b ∈ ch, (b ∈ X.ex ∨ X.s₀.heap.objs.size ≤ b) ∧ b ≠ X.env.locals ∧ (∀ x c, X.env.cells.lookup x = some c → c ≠ b) ∧ ∀ p ∈ X.pn ++ pins, p.1 ≠ b)
    (keep : ∀ b o, b ≠ X.env.locals → b ∉ X.fs → b ∉ ch → s.heap.get? b = some o → H b = none → h'.get? b = some o)
    (slot : ∀ b o, b ≠ X.env.locals → b ∈ X.fs → b ∉ ch → s.heap.get? b = some o → H b = none → ∃ sl, h'.get? b = some { o with slots := sl }) (free : ∀ b o, b ∉ ch → s.heap.get? b = some o → H b = none → H' b = none)
    (there : ∀ b o, b ∉ ch → s.heap.get? b = some o → ∃ o', h'.get? b = some o')
    (tups : ∀ b xs, H b = some (.tup xs) → H' b = some (.tup xs)) (frzs : ∀ b o u, H b = some (.frz o u) → H' b = some (.frz o u)) (tbls : ∀ b ps, H b = some (.tbl ps) → ∃ more, H' b = some (.tbl (ps ++ more)))
    (ns : ∀ m, s.heap.Ns X.env.locals m → h'.Ns X.env.locals m) (hok : HOk X.prog X.w H' h') (hg : AllBare g') :
    Inv X pins σ H' { s with heap := h', gens := g', drawn := d', toks := t' } := by
  have neL : ∀ b o, X.s₀.heap.get? b = some o → b ≠ X.env.locals := fun b o e => Nat.ne_of_lt (Nat.lt_of_lt_of_le (Heap.lt_size e) I.ok.above)
  have neC : ∀ b o, X.s₀.heap.get? b = some o → b ∉ X.ex → b ∉ ch := fun b o e hx hb => by
    rcases (hch b hb).1 with z | z
    · exact hx z
    · exact absurd (Nat.lt_of_lt_of_le (Heap.lt_size e) z) (Nat.lt_irrefl _)
  have cellK : ∀ x c, X.env.cells.lookup x = some c → ∀ v, s.heap.IsCell c v → h'.IsCell c v := fun x c e v ⟨o, ho, hd⟩ => by
    have nch : c ∉ ch := fun z => (hch c z).2.2.1 x c e rfl
    by_cases hc : c ∈ X.fs
    · obtain ⟨sl, q⟩ := slot c o (I.cne x c e) hc nch ho (I.freeC x c e)
      exact ⟨_, q, hd⟩
    · exact ⟨o, keep c o (I.cne x c e) hc nch ho (I.freeC x c e), hd⟩
  refine ⟨I.ok, I.os, hg, ⟨fun b o e n hb hx => ?_, fun b o e n hb hx => ?_, fun b o e n hx => ?_, fun b o e hx => ?_, fun b xs e => tups b xs (I.base.tups b xs e), fun b o xs e => frzs b o xs (I.base.frzs b o xs e), fun b ps e => ?_⟩, ?_, fun x c e => ?_, ?_, fun x c e => ?_, fun p hp => ?_, hok, I.len⟩
  · exact keep b o (neL b o e) hb (neC b o e hx) (I.base.keep b o e n hb hx) (I.base.free b o e n hx)
  · obtain ⟨sl, e1⟩ := I.base.slot b o e n hb hx
    obtain ⟨sl', e2⟩ := slot b _ (neL b o e) hb (neC b o e hx) e1 (I.base.free b o e n hx)
    exact ⟨sl', e2⟩
  · obtain ⟨o', e1⟩ := I.base.there b o e hx
    exact free b o' (neC b o e hx) e1 (I.base.free b o e n hx)
  · obtain ⟨o', e1⟩ := I.base.there b o e hx
    exact there b o' (neC b o e hx) e1
  · obtain ⟨m1, e1⟩ := I.base.tbls b ps e
    obtain ⟨m2, e2⟩ := tbls b _ e1
    exact ⟨m1 ++ m2, by rw [e2, Array.append_assoc]⟩
  · obtain ⟨m, hn, hl⟩ := I.loc
    refine ⟨m, ns m hn, fun i x v e1 e2 e3 => ?_⟩
    obtain ⟨u, r, l⟩ := hl i x v e1 e2 e3
    refine ⟨u, r, ?_⟩
    rcases l with l | ⟨k, c, e, z⟩
    · exact .inl l
    · exact .inr ⟨k, c, e, cellK x c e _ z⟩
  · obtain ⟨v, z⟩ := I.cell x c e
    exact ⟨v, cellK x c e v z⟩
  · obtain ⟨m, ⟨o, _, _, ho, _⟩, _⟩ := I.loc
    exact free _ o (fun z => (hch _ z).2.1 rfl) ho I.free
  · obtain ⟨v, o, ho, hd⟩ := I.cell x c e
    exact free c o (fun z => (hch c z).2.2.1 x c e rfl) ho (I.freeC x c e)
  · obtain ⟨e, n, ne, nf, d⟩ := I.pin p hp
    have nch : p.1 ∉ ch := fun z => (hch p.1 z).2.2.2 p hp rfl
    exact ⟨keep p.1 p.2 ne nf nch e n, free p.1 p.2 nch e n, ne, nf, d⟩
/-- .. where the frame's own object is kept too -/
theorem Inv.un {t' : Nat} (I : Inv X pins σ H s) (u : Un X.fs [] H H' s.heap h') (hok : HOk X.prog X.w H' h') : Inv X pins σ H' { s with heap := h', toks := t' } := by
  obtain ⟨m, ⟨o, es, ep, ho, r⟩, _⟩ := id I.loc
  obtain ⟨sl, hL⟩ := u.any ho I.free (by simp)
  exact I.step (g' := s.gens) (d' := s.drawn) (ch := []) (fun _ z => nomatch z) (fun b o _ hb _ e n => u.keep b o e n hb (by simp)) (fun b o _ hb _ e n => u.slot b o e n hb (by simp)) (fun b o _ e n => u.free b o e n (by simp)) (fun b o _ e => u.there b o e (by simp)) u.tups u.frzs u.tbls (fun m' hm => by
    obtain ⟨o', es', ep', ho', r'⟩ := hm
    rw [ho] at ho'; cases ho'
    exact ⟨_, es', ep', hL, r'⟩) hok I.bare
/-- behind a call (or a comprehension's block): the slots of this frame may have changed too, the records at ch may have turned -/
theorem Inv.call {g' : Array GenState} {t' : Nat} {d' : Drawn} {ch : List Addr} (I : Inv X pins σ H s) (u : Un (frs X.stack) ch H H' s.heap h') (hok : HOk X.prog X.w H' h') (hg : AllBare g')
    (hch : ∀ b ∈ ch, (b ∈ X.ex ∨ X.s₀.heap.objs.size ≤ b) ∧ b ≠ X.env.locals ∧ (∀ x c, X.env.cells.lookup x = some c → c ≠ b) ∧ ∀ p ∈ X.pn ++ pins, p.1 ≠ b) :
    Inv X pins σ H' { s with heap := h', gens := g', drawn := d', toks := t' } := by
  obtain ⟨m, ⟨o, es, ep, ho, r⟩, _⟩ := id I.loc
  obtain ⟨sl, hL⟩ := u.any ho I.free fun z => (hch _ z).2.1 rfl
  exact I.step (ch := ch) hch (fun b o hL hb hc e n => u.keep b o e n (fun z => (List.mem_cons.mp (I.stkSub b z)).elim hL hb) hc) (fun b o _ _ hc e n => u.any e n hc) (fun b o hc e n => u.free b o e n hc) (fun b o hc e => u.there b o e hc) u.tups u.frzs u.tbls (fun m' hm => by
    obtain ⟨o', es', ep', ho', r'⟩ := hm
    rw [ho] at ho'; cases ho'
    exact ⟨_, es', ep', hL, r'⟩) hok hg
/-- an untracked record of ours (an iterator) has turned -/
theorem Inv.turned {t' : Nat} {it : Addr} (I : Inv X pins σ H s) (k : ∀ b o, b ≠ it → s.heap.get? b = some o → h'.get? b = some o) (hn : H it = none) (hL : it ≠ X.env.locals)
    (h1 : it ∈ X.ex ∨ X.s₀.heap.objs.size ≤ it) (h2 : ∀ x c, X.env.cells.lookup x = some c → c ≠ it) (h3 : ∀ p ∈ X.pn ++ pins, p.1 ≠ it) : Inv X pins σ H { s with heap := h', toks := t' } := by
  have nit : ∀ b u, H b = some u → b ≠ it := fun b u e z => by rw [z, hn] at e; cases e
  refine I.step (g' := s.gens) (d' := s.drawn) (ch := [it]) (fun b hb => ?_) (fun b o _ _ hc e _ => k b o (fun z => hc (by simp [z])) e) (fun b o _ _ hc e _ => ⟨o.slots, k b o (fun z => hc (by simp [z])) e⟩) (fun _ _ _ _ n => n)
    (fun b o hc e => ⟨o, k b o (fun z => hc (by simp [z])) e⟩) (fun _ _ e => e) (fun _ _ _ e => e) (fun b ps e => ⟨#[], by rw [e]; simp⟩) (fun m hm => ?_) (fun b u e => ?_) I.bare
  · have e : b = it := by simpa using hb
    subst e
    exact ⟨h1, hL, h2, h3⟩
  · obtain ⟨o, es, ep, ho, r⟩ := hm
    exact ⟨o, es, ep, k _ o (Ne.symm hL) ho, r⟩
  · refine (I.hok b u e).stay (fun c v hc q => k c v ?_ q) (fun _ q => q) fun _ _ q => q
    rcases hc with z | z
    · rw [z]; exact nit b u e
    · exact nit c _ z
theorem Inv.tok (I : Inv X pins σ H s) (t : Nat) : Inv X pins σ H { s with toks := t } := I.un (h' := s.heap) (t' := t) Un.refl I.hok
/-- all objects kept -/
theorem Inv.kept {t' : Nat} (I : Inv X pins σ H s) (k : ∀ b u, s.heap.get? b = some u → h'.get? b = some u) : Inv X pins σ H { s with heap := h', toks := t' } := I.un (Un.kept k) (I.hok.kept k)
/-- a new object laid and tracked -/
theorem Inv.laid {a : Addr} {o : HO} {t' : Nat} (I : Inv X pins σ H s) (k : ∀ b u, s.heap.get? b = some u → h'.get? b = some u) (hp : s.heap.objs.size ≤ a) (new : ObjOk X.prog X.w (upd H a o) h' a o) :
    Inv X pins σ (upd H a o) { s with heap := h', toks := t' } := I.un (Un.laid k hp (I.hok.fresh hp)) (I.hok.laid k hp new)
/-- an object written -/
theorem Inv.write {x e : Addr} {o : HO} {t' : Nat} (I : Inv X pins σ H s) (mu : Mut (H x)) (he : e = x ∨ H e = some (.own x)) (k : ∀ b u, b ≠ e → s.heap.get? b = some u → h'.get? b = some u) (heo : ∃ u, h'.get? e = some u)
    (new : ObjOk X.prog X.w (upd H x o) h' x o) : Inv X pins σ (upd H x o) { s with heap := h', toks := t' } := I.un (Un.write mu he k heo) (I.hok.write mu he k heo new)
theorem Inv.pins_of {pins' : List (Addr × Obj)} (I : Inv X pins σ H s) (h : ∀ p ∈ pins', s.heap.get? p.1 = some p.2 ∧ H p.1 = none ∧ p.1 ≠ X.env.locals ∧ p.1 ∉ X.fs ∧ ∀ v, p.2.data ≠ .cell v) : Inv X pins' σ H s :=
  ⟨I.ok, I.os, I.bare, I.base, I.loc, I.cell, I.free, I.freeC, fun p hp => (List.mem_append.mp hp).elim (fun z => I.pin p (List.mem_append_left _ z)) (h p), I.hok, I.len⟩

theorem nodup_ix {N : List Str} (hN : N.Nodup) {i j : Nat} {x : Str} (a : N[i]? = some x) (b : N[j]? = some x) : i = j := by
  obtain ⟨h1, e1⟩ := List.getElem?_eq_some_iff.mp a
  obtain ⟨h2, e2⟩ := List.getElem?_eq_some_iff.mp b
  exact (List.getElem_inj hN).mp (e1.trans e2.symm)

/-- a name is stored; what changed -/
theorem store_ok2 {M : Model} {A : Around} {E : Value → Shared → Prop} {i : Nat} {x : Str} {v : V} {u : Value} {Q : Unit → Shared → Prop} (I : Inv X pins σ H s) (hN : X.N.Nodup) (hi : X.N[i]? = some x) (hx : Loc X.env.scope x) (r : RelV v u)
    (h : ∀ s', Inv X pins (σ.set i (some v)) H s' → (∃ a, Heap.SameBut a s.heap s'.heap ∧ (a = X.env.locals ∨ X.env.cells.lookup x = some a)) → Q () s') (hf : X.fn x = true ∨ X.env.scope.names.lookup x = some .local := by first | exact .inl rfl | exact .inr rfl | assumption) : wpAny M A (storeName X.env x u) Q E s := by
  obtain ⟨m, hn, hl⟩ := id I.loc
  have hcls : (X.env.scope.kind == .class || (X.env.scope.kind == .module && X.env.locals != X.env.globals)) = false := by rw [I.ok.kind]; rfl
  have hiσ : i < σ.length := by rw [I.len]; exact (List.getElem?_eq_some_iff.mp hi).1
  have cne := I.cne
  have tracked : ∀ {a : Addr} {h' : Heap}, (∃ o, s.heap.get? a = some o ∧ H a = none) → Heap.SameBut a s.heap h' → HOk X.prog X.w H h' := fun {a h'} ha hs b ob e => by
    obtain ⟨_, _, hfree⟩ := ha
    refine (I.hok b ob e).stay (fun c w' hc q => (hs.2 c ?_).trans q) (fun _ q => q) fun _ _ q => q
    rintro rfl
    rcases hc with rfl | hc
    · rw [hfree] at e; cases e
    · rw [hfree] at hc; cases hc
  rcases hx with hk | hk
  · refine wpAny_storeName_local hk hn (fun h' hn' hs => ?_) hcls
    obtain ⟨oL, _, _, hoL, _⟩ := id hn
    refine h _ ⟨I.ok, I.os, I.bare, ⟨fun b o e n hb hx => ?_, fun b o e n hb hx => ?_, I.base.free, fun b o e hx => ?_, I.base.tups, I.base.frzs, I.base.tbls⟩, ⟨_, hn', fun j y v' e1 e2 e3 => ?_⟩, fun y c e => ?_, I.free, I.freeC, fun p hp => ?_, tracked ⟨oL, hoL, I.free⟩ hs, by simpa using I.len⟩ ⟨_, hs, .inl rfl⟩
    · exact (hs.2 b (Nat.ne_of_lt (Nat.lt_of_lt_of_le (Heap.lt_size e) I.ok.above))).trans (I.base.keep b o e n hb hx)
    · obtain ⟨sl, e1⟩ := I.base.slot b o e n hb hx
      exact ⟨sl, (hs.2 b (Nat.ne_of_lt (Nat.lt_of_lt_of_le (Heap.lt_size e) I.ok.above))).trans e1⟩
    · obtain ⟨o', e1⟩ := I.base.there b o e hx
      exact ⟨o', (hs.2 b (Nat.ne_of_lt (Nat.lt_of_lt_of_le (Heap.lt_size e) I.ok.above))).trans e1⟩
    · by_cases hj : j = i
      · subst hj
        rw [hi] at e1; cases e1
        rw [List.getElem?_set_self hiσ] at e2
        cases e2
        exact ⟨u, r, .inl ⟨hk, by simp⟩⟩
      · rw [List.getElem?_set_ne (Ne.symm hj)] at e2
        obtain ⟨u', r', q⟩ := hl j y v' e1 e2 e3
        refine ⟨u', r', ?_⟩
        rcases q with ⟨k, e⟩ | ⟨k, c, e, z⟩
        · refine .inl ⟨k, ?_⟩
          have : y ≠ x := fun e => hj (nodup_ix hN e1 (e ▸ hi))
          simp [this, e]
        · exact .inr ⟨k, c, e, z.sameBut hs (cne y c e)⟩
    · obtain ⟨w', z⟩ := I.cell y c e
      exact ⟨w', z.sameBut hs (cne y c e)⟩
    · obtain ⟨e, n, ne, nf, d⟩ := I.pin p hp
      exact ⟨(hs.2 p.1 ne).trans e, n, ne, nf, d⟩
  · have hfn : X.fn x = true := by
      rcases hf with z | z
      · exact z
      · rw [z] at hk; cases hk
    obtain ⟨c, hc⟩ := I.ok.has x (.inl hk)
    obtain ⟨w', z⟩ := I.cell x c hc
    refine wpAny_storeName_cell I.ok.kind hk hc z (fun h' hc' hs => ?_)
    obtain ⟨oc, hoc, hocd⟩ := id z
    refine h { s with heap := h' } ⟨I.ok, I.os, I.bare, ⟨fun b o e n hb hx => ?_, fun b o e n hb hx => ?_, I.base.free, fun b o e hx => ?_, I.base.tups, I.base.frzs, I.base.tbls⟩, ⟨m, hn.sameBut hs (Ne.symm (cne x c hc)), fun j y v' e1 e2 e3 => ?_⟩, fun y c' e => ?_, I.free, I.freeC, fun p hp => ?_, tracked ⟨oc, hoc, I.freeC x c hc⟩ hs, by simpa using I.len⟩ ⟨c, hs, .inr hc⟩
    · exact (hs.2 b (Nat.ne_of_lt (Nat.lt_of_lt_of_le (Heap.lt_size e) (I.ok.cab x c hfn hc)))).trans (I.base.keep b o e n hb hx)
    · obtain ⟨sl, e1⟩ := I.base.slot b o e n hb hx
      exact ⟨sl, (hs.2 b (Nat.ne_of_lt (Nat.lt_of_lt_of_le (Heap.lt_size e) (I.ok.cab x c hfn hc)))).trans e1⟩
    · obtain ⟨o', e1⟩ := I.base.there b o e hx
      exact ⟨o', (hs.2 b (Nat.ne_of_lt (Nat.lt_of_lt_of_le (Heap.lt_size e) (I.ok.cab x c hfn hc)))).trans e1⟩
    · by_cases hj : j = i
      · subst hj
        rw [hi] at e1; cases e1
        rw [List.getElem?_set_self hiσ] at e2
        cases e2
        exact ⟨u, r, .inr ⟨.inl hk, c, hc, hc'⟩⟩
      · rw [List.getElem?_set_ne (Ne.symm hj)] at e2
        obtain ⟨u', r', q⟩ := hl j y v' e1 e2 e3
        refine ⟨u', r', ?_⟩
        rcases q with q | ⟨k, c', e, z'⟩
        · exact .inl q
        · refine .inr ⟨k, c', e, z'.sameBut hs ?_⟩
          rintro rfl
          exact hj (nodup_ix hN e1 (I.ok.inj _ _ _ e hc ▸ hi))
    · by_cases hcc : c' = c
      · subst hcc; exact ⟨_, hc'⟩
      · obtain ⟨w2, z2⟩ := I.cell y c' e
        exact ⟨w2, z2.sameBut hs hcc⟩
    · obtain ⟨e, n, ne, nf, d⟩ := I.pin p hp
      refine ⟨(hs.2 p.1 ?_).trans e, n, ne, nf, d⟩
      intro q
      rw [q, hoc] at e
      have q' : oc = p.2 := Option.some.inj e
      exact d w' (by rw [← q']; exact hocd)
theorem store_ok {M : Model} {A : Around} {E : Value → Shared → Prop} {i : Nat} {x : Str} {v : V} {u : Value} {Q : Unit → Shared → Prop} (I : Inv X pins σ H s) (hN : X.N.Nodup) (hi : X.N[i]? = some x) (hx : Loc X.env.scope x) (r : RelV v u)
    (h : ∀ s', Inv X pins (σ.set i (some v)) H s' → Q () s') (hf : X.fn x = true ∨ X.env.scope.names.lookup x = some .local := by first | exact .inl rfl | exact .inr rfl | assumption) : wpAny M A (storeName X.env x u) Q E s :=
  store_ok2 I hN hi hx r (fun s' I' _ => h s' I') hf
/-- behind a call or a block, the state as it is -/
theorem Inv.call' {s' : Shared} {ch : List Addr} (I : Inv X pins σ H s) (ho : s'.os = s.os) (u : Un (frs X.stack) ch H H' s.heap s'.heap) (hok : HOk X.prog X.w H' s'.heap) (hg : AllBare s'.gens)
    (hch : ∀ b ∈ ch, (b ∈ X.ex ∨ X.s₀.heap.objs.size ≤ b) ∧ b ≠ X.env.locals ∧ (∀ x c, X.env.cells.lookup x = some c → c ≠ b) ∧ ∀ p ∈ X.pn ++ pins, p.1 ≠ b) : Inv X pins σ H' s' := by
  obtain ⟨h', g', d', t', o'⟩ := s'
  have e : o' = s.os := ho
  subst e
  exact I.call (g' := g') (t' := t') (d' := d') u hok hg hch
end

/-! ### the judgements -/
/-- an exception: its class, its own dict's address (where it has one), the abstract heap behind it -/
abbrev XK := Value → Option Addr → Hp → Prop
abbrev St := List (Option V)
abbrev VK := V → Hp → Prop
/-- an expression's reading; a test's; an argument list's -/
abbrev TE := St → Hp → VK → Prop
abbrev TT := St → Hp → (Bool → Hp → Prop) → Prop
abbrev TA := St → Hp → (List V → Hp → Prop) → Prop
/-- what is wanted behind a statement -/
structure Ends where
  nx : St → Hp → Prop
  rt : VK
  bk : St → Hp → Prop := fun _ _ => False
  ct : St → Hp → Prop := fun _ _ => False
abbrev TS := Ends → St → Hp → Prop

def EP (X : Cx) (pins : List (Addr × Obj)) (σ : St) (Q : VK) (u : Value) (s' : Shared) : Prop := ∃ v H', Inv X pins σ H' s' ∧ RelV v u ∧ Q v H'
def TP (X : Cx) (pins : List (Addr × Obj)) (σ : St) (Q : Bool → Hp → Prop) (b : Bool) (s' : Shared) : Prop := ∃ H', Inv X pins σ H' s' ∧ Q b H'
def AP (X : Cx) (pins : List (Addr × Obj)) (σ : St) (Q : List V → Hp → Prop) (us : List Value) (s' : Shared) : Prop := ∃ vs H', Inv X pins σ H' s' ∧ Vals vs us ∧ Q vs H'
def SP (X : Cx) (pins : List (Addr × Obj)) (D : Ends) (f : Flow) (s' : Shared) : Prop :=
  match f with
  | .next => ∃ σ' H', Inv X pins σ' H' s' ∧ D.nx σ' H'
  | .brk => ∃ σ' H', Inv X pins σ' H' s' ∧ D.bk σ' H'
  | .cont => ∃ σ' H', Inv X pins σ' H' s' ∧ D.ct σ' H'
  | .ret u => ∃ v σ' H', Inv X pins σ' H' s' ∧ RelV v u ∧ D.rt v H'

def PE (X : Cx) (e : Expr) (t : TE) : Prop :=
  ∀ (pins : List (Addr × Obj)) (s : Shared) (σ : St) (H : Hp) (Q : VK), Inv X pins σ H s → t σ H Q → wpAny (model X.prog X.w) X.A (eval e X.env) (EP X pins σ Q) X.xe s
def PT (X : Cx) (e : Expr) (t : TT) : Prop :=
  ∀ (pins : List (Addr × Obj)) (s : Shared) (σ : St) (H : Hp) (Q : Bool → Hp → Prop), Inv X pins σ H s → t σ H Q → wpAny (model X.prog X.w) X.A (isTrue e X.env (eval e X.env)) (TP X pins σ Q) X.xe s
/-- a test whatever its 'whole' is (and, or) -/
def PW (X : Cx) (e : Expr) (t : TT) : Prop :=
  ∀ (whole : Sem Value) (pins : List (Addr × Obj)) (s : Shared) (σ : St) (H : Hp) (Q : Bool → Hp → Prop), Inv X pins σ H s → t σ H Q → wpAny (model X.prog X.w) X.A (isTrue e X.env whole) (TP X pins σ Q) X.xe s
theorem PW.pt {X : Cx} {e : Expr} {t : TT} (h : PW X e t) : PT X e t := h _
/-- an argument list (no star), from the left -/
def PA (X : Cx) (es : List Expr) (t : TA) : Prop :=
  ∀ (pos : Pos) (pins : List (Addr × Obj)) (s : Shared) (σ : St) (H : Hp) (Q : List V → Hp → Prop), Inv X pins σ H s → t σ H Q → wpAny (model X.prog X.w) X.A (spliced (backTo pos (starEach es X.env))) (AP X pins σ Q) X.xe s
def PS (X : Cx) (st : Stmt) (t : TS) : Prop :=
  ∀ (pins : List (Addr × Obj)) (s : Shared) (σ : St) (H : Hp) (D : Ends), Inv X pins σ H s → t D σ H → wpAny (model X.prog X.w) X.A (exec st X.env) (SP X pins D) X.xe s
def PSs (X : Cx) (st : List Stmt) (t : TS) : Prop :=
  ∀ (pins : List (Addr × Obj)) (s : Shared) (σ : St) (H : Hp) (D : Ends), Inv X pins σ H s → t D σ H → wpAny (model X.prog X.w) X.A (execs st X.env) (SP X pins D) X.xe s
/-- weaken the end -/
theorem thn {α : Type} {t : Sem α} {Q Q' : α → Shared → Prop} {M : Model} {A : Around} {E : Value → Shared → Prop} {s : Shared} (h : wpAny M A t Q E s) (hQ : ∀ a s, Q a s → Q' a s) : wpAny M A t Q' E s := wpAny_mono h hQ fun _ _ x => x
end L2

namespace L2
open PySem PySem.Spec PyProof.Rows
section
variable {X : Cx}

/-! ### names and constants -/
def tVar (i : Nat) : TE := fun σ H Q => ∃ v, σ[i]? = some (some v) ∧ Q v H
def tC (v : V) : TE := fun _ H Q => Q v H
theorem pe_var {i : Nat} {x : Str} {pos : Pos} (hN : X.N[i]? = some x) (hv : Vis X.env.scope x) (hd : (x == ("__debug__" : Str)) = false := by decide) (hcd : (x == ("__classdict__" : Str)) = false := by decide) : PE X (.Name x pos) (tVar i) := by
  intro pins s σ H Q I h
  obtain ⟨v, e, h⟩ := h
  obtain ⟨m, hn, hl⟩ := I.loc
  obtain ⟨u, r, l⟩ := hl i x v hN e hv
  have fin : EP X pins σ Q u s := ⟨v, H, I, r, h⟩
  rcases l with ⟨hk, hm⟩ | ⟨hk, c, hc, hcell⟩
  · exact wpAny_Name (wpAny_loadName_local I.ok.kind hk hn hm fin) hd
  · rcases hk with hk | hk
    · exact wpAny_Name (wpAny_loadName_cell I.ok.kind hk hc hcell fin) hd
    · exact wpAny_Name (wpAny_loadName_free I.ok.kind hk hc hcell fin hcd) hd
theorem pe_int {i j pos} : PE X (.Constant (.int i) j pos) (tC (.int i)) := fun _ _ _ H _ I h => wpAny_Constant_int ⟨.int i, H, I.tok _, ⟨_, rfl⟩, h⟩
theorem pe_bl {b j pos} : PE X (.Constant (.bool b) j pos) (tC (.bl b)) := fun _ _ _ H _ I h => Constant_bool ⟨.bl b, H, I, rfl, h⟩
theorem pe_non {j pos} : PE X (.Constant .none j pos) (tC .non) := fun _ _ _ H _ I h => Constant_none ⟨.non, H, I, rfl, h⟩
theorem pe_str {x j pos} : PE X (.Constant (.str x) j pos) (tC (.str x)) := fun _ _ _ H _ I h => Calls.Constant_str ⟨.str x, H, I.tok _, ⟨_, rfl⟩, h⟩

/-- a global name of the def -/
def Gl (X : Cx) (x : Str) : Prop := X.env.kindOf x = some .globalImplicit
theorem ld_glob {E : Value → Shared → Prop} {pins : List (Addr × Obj)} {s : Shared} {σ : St} {H : Hp} {x : Str} {u : Value} {pos : Pos} {Q : Value → Shared → Prop} (I : Inv X pins σ H s) (hg : Gl X x) (hm : X.mg x = some u) (h : Q u s)
    (hd : (x == ("__debug__" : Str)) = false := by decide) : wpAny (model X.prog X.w) X.A (eval (.Name x pos) X.env) Q E s :=
  Calls.Name_function_global I.ok.kind hg (Calls.loadGlobal_global (by rw [I.ok.glob]; exact I.mod.glob.keeps I.bk) hm h) hd
theorem ld_blt {E : Value → Shared → Prop} {pins : List (Addr × Obj)} {s : Shared} {σ : St} {H : Hp} {x : Str} {u : Value} {pos : Pos} {Q : Value → Shared → Prop} (I : Inv X pins σ H s) (hg : Gl X x) (hm : X.mg x = none) (hv : bootBuiltins x = some u) (h : Q u s)
    (hn : x ≠ "__name__" := by decide) (hd : (x == ("__debug__" : Str)) = false := by decide) : wpAny (model X.prog X.w) X.A (eval (.Name x pos) X.env) Q E s := by
  obtain ⟨mb, h1, h2⟩ := I.mod.blt
  exact Calls.Name_function_global I.ok.kind hg (Calls.loadGlobal_builtin (by rw [I.ok.glob]; exact I.mod.glob.keeps I.bk) hm (by rw [I.ok.blt]; exact h1.keeps I.bk) ((h2 x hn).trans hv) h) hd
/-- a module's constant, a class, a function, as a value -/
theorem pe_glob {x : Str} {v : V} {u : Value} {pos : Pos} (hg : Gl X x) (hm : X.mg x = some u) (r : RelV v u) (hd : (x == ("__debug__" : Str)) = false := by decide) : PE X (.Name x pos) (tC v) :=
  fun _ _ _ H _ I h => ld_glob I hg hm ⟨v, H, I, r, h⟩ hd
theorem pe_bltn {x : Str} {v : V} {u : Value} {pos : Pos} (hg : Gl X x) (hm : X.mg x = none) (hv : bootBuiltins x = some u) (r : RelV v u) (hn : x ≠ "__name__" := by decide) (hd : (x == ("__debug__" : Str)) = false := by decide) : PE X (.Name x pos) (tC v) :=
  fun _ _ _ H _ I h => ld_blt I hg hm hv ⟨v, H, I, r, h⟩ hn hd

/-! ### arithmetic -/
/-- two ints -/
def t2I (ta tb : TE) (k : Int → Int → Hp → Prop) : St → Hp → Prop := fun σ H => ta σ H fun x H1 => tb σ H1 fun y H2 => ∃ i j, x = .int i ∧ y = .int j ∧ k i j H2
def tAdd (ta tb : TE) : TE := fun σ H Q => t2I ta tb (fun i j H2 => Q (.int (i + j)) H2) σ H
def tSub (ta tb : TE) : TE := fun σ H Q => t2I ta tb (fun i j H2 => Q (.int (i - j)) H2) σ H
/-- the left factor below 2^64 -/
def tMul (ta tb : TE) : TE := fun σ H Q => t2I ta tb (fun i j H2 => (-(2 ^ 64) < i ∧ i < 2 ^ 64) ∧ Q (.int (i * j)) H2) σ H
variable {a b : Expr} {ta tb : TE} {pos : Pos}
/-! ### comparisons -/
def PC (X : Cx) (op : CmpOp) (a b : Expr) (t : TE) : Prop :=
  ∀ (pins : List (Addr × Obj)) (s : Shared) (σ : St) (H : Hp) (Q : VK), Inv X pins σ H s → t σ H Q →
    wpAny (model X.prog X.w) X.A (eval a X.env) (fun v s₁ => wpAny (model X.prog X.w) X.A (eval b X.env) (fun u s₂ => wpAny (model X.prog X.w) X.A (compareOp op v u) (EP X pins σ Q) X.xe s₂) X.xe s₁) X.xe s
def tCmp (p : Int → Int → Bool) (ta tb : TE) : TE := fun σ H Q => t2I ta tb (fun i j H2 => Q (.bl (p i j)) H2) σ H
abbrev tLt : TE → TE → TE := tCmp fun i j => decide (i < j)
abbrev tLe : TE → TE → TE := tCmp fun i j => decide (i ≤ j)
abbrev tGt : TE → TE → TE := tCmp fun i j => decide (j < i)
abbrev tGe : TE → TE → TE := tCmp fun i j => decide (j ≤ i)
abbrev tEqI : TE → TE → TE := tCmp fun i j => decide (i = j)
abbrev tNeI : TE → TE → TE := tCmp fun i j => !decide (i = j)
/-- is None -/
def tIsN (ta : TE) : TE := fun σ H Q => ta σ H fun x H1 => Q (.bl (decide (x = .non))) H1
def tNotN (ta : TE) : TE := fun σ H Q => ta σ H fun x H1 => Q (.bl (!decide (x = .non))) H1
/-- a comparison as a value, as a test -/
def tB (t : TE) : TT := fun σ H Q => t σ H fun x H1 => ∃ c, x = .bl c ∧ Q c H1
/-- an expression whose value is a bool, as a test -/
theorem pt_val {e : Expr} {t : TE} (h : PE X e t) (he : ∀ whole, isTrue e X.env whole = (do let v ← whole; standAt e.pos; holding [v] (truthy v)) := by intro _; rfl) : PT X e (tB t) := by
  intro pins s σ H Q I hw
  refine isTrue_plain (thn (h pins s σ H _ I hw) fun v s1 ⟨x, H1, I1, r1, q1⟩ => ?_) (he _)
  obtain ⟨d, rfl, q⟩ := q1
  cases r1
  exact wpAny_truthy_bool ⟨H1, I1, q⟩

/-! ### and, or, not -/
variable {tA tB' : TT} {rest : List Expr}
def tAnd (t u : TT) : TT := fun σ H Q => t σ H fun c H1 => if c = true then u σ H1 Q else Q false H1
def tOr (t u : TT) : TT := fun σ H Q => t σ H fun c H1 => if c = true then Q true H1 else u σ H1 Q
def tNot (t : TT) : TT := fun σ H Q => t σ H fun c H1 => Q (!c) H1
theorem pw_and1 (ha : PT X a tA) : PW X (.BoolOp .And [a] pos) tA := by
  intro wh pins s σ H Q I h
  refine isTrue_and (thn (ha pins s σ H Q I h) fun c s1 e => ?_)
  cases c with
  | true => exact isTrue_and_nil e
  | false => exact e
theorem pw_or1 (ha : PT X a tA) : PW X (.BoolOp .Or [a] pos) tA := by
  intro wh pins s σ H Q I h
  refine isTrue_or (thn (ha pins s σ H Q I h) fun c s1 e => ?_)
  cases c with
  | false => exact isTrue_or_nil e
  | true => exact e
theorem pw_and (ha : PT X a tA) (hb : PW X (.BoolOp .And (b :: rest) pos) tB') : PW X (.BoolOp .And (a :: b :: rest) pos) (tAnd tA tB') := by
  intro wh pins s σ H Q I h
  refine isTrue_and (thn (ha pins s σ H _ I h) fun c s1 ⟨H1, I1, q1⟩ => ?_)
  cases c with
  | true => exact hb wh pins s1 σ H1 Q I1 q1
  | false => exact ⟨H1, I1, q1⟩
theorem pw_or (ha : PT X a tA) (hb : PW X (.BoolOp .Or (b :: rest) pos) tB') : PW X (.BoolOp .Or (a :: b :: rest) pos) (tOr tA tB') := by
  intro wh pins s σ H Q I h
  refine isTrue_or (thn (ha pins s σ H _ I h) fun c s1 ⟨H1, I1, q1⟩ => ?_)
  cases c with
  | true => exact ⟨H1, I1, q1⟩
  | false => exact hb wh pins s1 σ H1 Q I1 q1
theorem pt_not (ha : PT X a tA) : PT X (.UnaryOp .Not a pos) (tNot tA) := by
  intro pins s σ H Q I h
  exact isTrue_not (ha pins s σ H (fun c H1 => Q (!c) H1) I h)
/-- .. as values (bools) -/
def tAndV (ta tb : TE) : TE := fun σ H Q => ta σ H fun x H1 => ∃ c, x = .bl c ∧ if c = true then tb σ H1 Q else Q (.bl false) H1
def tOrV (ta tb : TE) : TE := fun σ H Q => ta σ H fun x H1 => ∃ c, x = .bl c ∧ if c = true then Q (.bl true) H1 else tb σ H1 Q
def tNotV (ta : TE) : TE := fun σ H Q => ta σ H fun x H1 => ∃ c, x = .bl c ∧ Q (.bl (!c)) H1
theorem pe_one {op} {t : TE} (h : PE X a t) : PE X (.BoolOp op [a] pos) t := fun pins s σ H Q I hw => BoolOp_one (h pins s σ H Q I hw)
theorem pe_and (ha : PE X a ta) (hb : PE X (.BoolOp .And (b :: rest) pos) tb) : PE X (.BoolOp .And (a :: b :: rest) pos) (tAndV ta tb) := by
  intro pins s σ H Q I h
  refine BoolOp_and (thn (ha pins s σ H _ I h) fun v s1 ⟨x, H1, I1, r1, q1⟩ => ?_)
  obtain ⟨c, rfl, q1⟩ := q1
  cases r1
  refine wpAny_truthy_bool ?_
  cases c with
  | true => exact hb pins s1 σ H1 Q I1 q1
  | false => exact ⟨.bl false, H1, I1, rfl, q1⟩
theorem pe_or (ha : PE X a ta) (hb : PE X (.BoolOp .Or (b :: rest) pos) tb) : PE X (.BoolOp .Or (a :: b :: rest) pos) (tOrV ta tb) := by
  intro pins s σ H Q I h
  refine BoolOp_or (thn (ha pins s σ H _ I h) fun v s1 ⟨x, H1, I1, r1, q1⟩ => ?_)
  obtain ⟨c, rfl, q1⟩ := q1
  cases r1
  refine wpAny_truthy_bool ?_
  cases c with
  | false => exact hb pins s1 σ H1 Q I1 q1
  | true => exact ⟨.bl true, H1, I1, rfl, q1⟩
theorem pe_not (ha : PE X a ta) : PE X (.UnaryOp .Not a pos) (tNotV ta) := by
  intro pins s σ H Q I h
  refine UnaryOp_ (thn (ha pins s σ H _ I h) fun v s1 ⟨x, H1, I1, r1, q1⟩ => ?_)
  obtain ⟨c, rfl, q1⟩ := q1
  cases r1
  exact not_of (wpAny_truthy_bool ⟨.bl (!c), H1, I1, rfl, q1⟩)
/-- a if t else b -/
def tIf (t : TT) (ta tb : TE) : TE := fun σ H Q => t σ H fun c H1 => if c = true then ta σ H1 Q else tb σ H1 Q
theorem pe_ifExp {c : Expr} (hc : PT X c tA) (ha : PE X a ta) (hb : PE X b tb) : PE X (.IfExp c a b pos) (tIf tA ta tb) := by
  intro pins s σ H Q I h
  refine wpAny_IfExp (thn (hc pins s σ H _ I h) fun d s1 ⟨H1, I1, q1⟩ => ?_)
  cases d with
  | true => exact ha pins s1 σ H1 Q I1 q1
  | false => exact hb pins s1 σ H1 Q I1 q1
end
end L2

namespace L2
open PySem PySem.Spec PyProof.Rows

/-! ### a list, a tuple that is read: tracked, frozen, or an object of the module -/
def SqL (K : PySem.W.Frag) (H : Hp) (a : Addr) (xs : List V) : Prop :=
  Rd H a (.lst xs) ∨
    ∃ (o : Obj) (its : Array Value) (n : Nat), K.lookup a = some o ∧ o.cls = .type "list" ∧ o.dict = none ∧ o.data = .seq its n ∧ its.size ≤ sizeLine ∧ Vals xs its.toList
def SqT (K : PySem.W.Frag) (H : Hp) (a : Addr) (xs : List V) : Prop :=
  Rd H a (.tup xs) ∨
    ∃ (o : Obj) (its : Array Value) (n : Nat), K.lookup a = some o ∧ o.cls = .type "tuple" ∧ o.data = .seq its n ∧ its.size ≤ sizeLine ∧ Vals xs its.toList
def absV : Value → Option V
  | .none => some .non
  | .bool b => some (.bl b)
  | .int i _ => some (.int i)
  | .str x _ => some (.str x)
  | .bytes b _ => some (.byt b)
  | .float b _ => some (.flt b)
  | .ref a => some (.ref a)
  | .type n => some (.ty n)
  | _ => none
theorem RelV.abs {x : V} {u : Value} (r : RelV x u) : absV u = some x := by
  cases x with
  | non => cases r; rfl
  | bl _ => cases r; rfl
  | int _ => obtain ⟨t, rfl⟩ := r; rfl
  | str _ => obtain ⟨t, rfl⟩ := r; rfl
  | byt _ => obtain ⟨t, rfl⟩ := r; rfl
  | flt _ => obtain ⟨t, rfl⟩ := r; rfl
  | ref _ => cases r; rfl
  | ty _ => cases r; rfl
theorem RelV.inj {x y : V} {u : Value} (r : RelV x u) (q : RelV y u) : x = y := Option.some.inj (r.abs.symm.trans q.abs)
theorem Vals.inj : ∀ {xs ys : List V} {us : List Value}, Vals xs us → Vals ys us → xs = ys
  | _, _, _, .nil, .nil => rfl
  | _, _, _, .cons r t, .cons r' t' => by rw [r.inj r', Vals.inj t t']
section
variable {X : Cx} {pins : List (Addr × Obj)} {σ : St} {H : Hp} {s : Shared} {a : Addr} {xs ys : List V}
theorem SqL.of {K : PySem.W.Frag} (h : H a = some (.lst xs)) : SqL K H a xs := .inl (.inl h)
theorem SqT.of {K : PySem.W.Frag} (h : H a = some (.tup xs)) : SqT K H a xs := .inl (.inl h)
theorem Inv.list (I : Inv X pins σ H s) (h : SqL X.K H a xs) : ∃ its : List Value, Vals xs its ∧ PlainL s.heap a its.toArray ∧ xs.length ≤ sizeLine := by
  rcases h with h | ⟨o, its, n, hk, hc, hd, hs, hz, r⟩
  · obtain ⟨z, its, n, r, e⟩ := h.ok I.hok
    exact ⟨its, r, ⟨_, n, e, rfl, rfl, rfl⟩, z⟩
  · refine ⟨its.toList, r, ⟨o, n, I.kIn a o hk, hc, hd, by simpa using hs⟩, ?_⟩
    have e := r.length
    simp only [Array.length_toList] at e
    omega
theorem Inv.tuple (I : Inv X pins σ H s) (h : SqT X.K H a xs) : ∃ its : List Value, Vals xs its ∧ IsTup s.heap a its.toArray ∧ xs.length ≤ sizeLine := by
  rcases h with h | ⟨o, its, n, hk, hc, hs, hz, r⟩
  · obtain ⟨z, its, r, p⟩ := h.ok I.hok
    exact ⟨its, r, p, z⟩
  · refine ⟨its.toList, r, ⟨o, I.kIn a o hk, hc, n, by simpa using hs⟩, ?_⟩
    have e := r.length
    simp only [Array.length_toList] at e
    omega
theorem Inv.list_inj (I : Inv X pins σ H s) (h : SqL X.K H a xs) (h' : SqL X.K H a ys) : xs = ys := by
  obtain ⟨its, r, ⟨o, n, e, _, _, d⟩, _⟩ := I.list h
  obtain ⟨its', r', ⟨o', n', e', _, _, d'⟩, _⟩ := I.list h'
  rw [e] at e'; cases e'
  rw [d] at d'
  injection d' with d1 _
  have : its = its' := by simpa using congrArg Array.toList d1
  subst this
  exact r.inj r'
end

/-! ### another wish about exceptions -/
abbrev Cx.wish (X : Cx) (E : Value → Shared → Prop) : Cx := { X with xe := E }
/-- no exception leaves -/
abbrev Cx.nox (X : Cx) : Cx := X.wish fun _ _ => False
theorem Cx.Ok.wish {X : Cx} (ok : X.Ok) (E : Value → Shared → Prop) : (X.wish E).Ok :=
  ⟨ok.mod, ok.kind, ok.glob, ok.blt, ok.above, ok.inj, ok.has, ok.cab, ok.hd, ok.frames, ok.stk, ok.exf, ok.bs, ok.bsz, ok.noex, ok.exfs, ok.funs, ok.frf⟩
theorem Cx.Ok.unwish {X : Cx} {E : Value → Shared → Prop} (ok : (X.wish E).Ok) : X.Ok :=
  ⟨ok.mod, ok.kind, ok.glob, ok.blt, ok.above, ok.inj, ok.has, ok.cab, ok.hd, ok.frames, ok.stk, ok.exf, ok.bs, ok.bsz, ok.noex, ok.exfs, ok.funs, ok.frf⟩
section
variable {X : Cx} {pins : List (Addr × Obj)} {σ : St} {H : Hp} {s : Shared} {E : Value → Shared → Prop}
theorem Inv.wish (I : Inv X pins σ H s) (E : Value → Shared → Prop) : Inv (X.wish E) pins σ H s := ⟨I.ok.wish E, I.os, I.bare, I.base, I.loc, I.cell, I.free, I.freeC, I.pin, I.hok, I.len⟩
theorem Inv.unwish (I : Inv (X.wish E) pins σ H s) : Inv X pins σ H s := ⟨I.ok.unwish, I.os, I.bare, I.base, I.loc, I.cell, I.free, I.freeC, I.pin, I.hok, I.len⟩
theorem SP.unwish {D : Ends} {f : Flow} {s' : Shared} (h : SP (X.wish E) pins D f s') : SP X pins D f s' := by
  cases f with
  | next => obtain ⟨σ', H', I, q⟩ := h; exact ⟨σ', H', I.unwish, q⟩
  | brk => obtain ⟨σ', H', I, q⟩ := h; exact ⟨σ', H', I.unwish, q⟩
  | cont => obtain ⟨σ', H', I, q⟩ := h; exact ⟨σ', H', I.unwish, q⟩
  | ret u => obtain ⟨v, σ', H', I, r, q⟩ := h; exact ⟨v, σ', H', I.unwish, r, q⟩
theorem PE.nox {e : Expr} {t : TE} (h : PE X.nox e t) : PE X e t := fun pins s σ H Q I hw =>
  wpAny_mono (h pins s σ H Q (I.wish _) hw) (fun _ _ ⟨v, H', I', r, q⟩ => ⟨v, H', I'.unwish, r, q⟩) fun _ _ z => False.elim z
theorem PT.nox {e : Expr} {t : TT} (h : PT X.nox e t) : PT X e t := fun pins s σ H Q I hw =>
  wpAny_mono (h pins s σ H Q (I.wish _) hw) (fun _ _ ⟨H', I', q⟩ => ⟨H', I'.unwish, q⟩) fun _ _ z => False.elim z
theorem PSs.nox {st : List Stmt} {t : TS} (h : PSs X.nox st t) : PSs X st t := fun pins s σ H D I hw =>
  wpAny_mono (h pins s σ H D (I.wish _) hw) (fun _ _ q => q.unwish) fun _ _ z => False.elim z
end

/-! ### blocks and small statements -/
section
variable {X : Cx} {st : Stmt} {rest : List Stmt} {t u : TS} {e : Expr} {te : TE} {pos : Pos}
def tNext : TS := fun D σ H => D.nx σ H
def tSeq (t u : TS) : TS := fun D σ H => t { D with nx := u D } σ H
theorem pss_nil : PSs X [] tNext := fun _ _ σ H _ I h => wpAny_execs_nil ⟨σ, H, I, h⟩
theorem pss_cons (h1 : PS X st t) (h2 : PSs X rest u) : PSs X (st :: rest) (tSeq t u) := by
  intro pins s σ H D I h
  refine wpAny_execs_cons (thn (h1 pins s σ H { D with nx := u D } I h) fun f s1 q => ?_)
  cases f with
  | next =>
    obtain ⟨σ', H', I', q⟩ := q
    exact h2 pins s1 σ' H' D I' q
  | ret v => exact q
  | brk => exact q
  | cont => exact q
theorem pss_one (h1 : PS X st t) : PSs X [st] t := by
  intro pins s σ H D I h
  refine wpAny_execs_cons (thn (h1 pins s σ H D I h) fun f s1 q => ?_)
  cases f with
  | next => exact wpAny_execs_nil q
  | ret v => exact q
  | brk => exact q
  | cont => exact q
def tBreak : TS := fun D σ H => D.bk σ H
def tCont : TS := fun D σ H => D.ct σ H
/-- in a def's body nothing is shown -/
theorem Inv.quiet {pins : List (Addr × Obj)} {σ : St} {H : Hp} {s : Shared} (I : Inv X pins σ H s) : interactive X.env = false := by simp [interactive, I.ok.kind]
/-- an expression whose value is dropped -/
def tDrop (te : TE) : TS := fun D σ H => te σ H fun _ H1 => D.nx σ H1
theorem ps_expr (he : PE X e te) (hs : swapsWith e none pos.line X.env = pure false := by rfl) : PS X (.Expr e pos) (tDrop te) := by
  intro pins s σ H D I h
  exact wpAny_Expr_any (thn (he pins s σ H _ I h) fun v s1 ⟨x, H1, I1, r1, q1⟩ => ⟨σ, H1, I1, q1⟩) I.quiet hs
def tRet (te : TE) : TS := fun D σ H => te σ H D.rt
theorem ps_ret (he : PE X e te) : PS X (.Return (some e) pos) (tRet te) := by
  intro pins s σ H D I h
  exact wpAny_Return_some (thn (he pins s σ H _ I h) fun v s1 ⟨x, H1, I1, r1, q1⟩ => ⟨x, σ, H1, I1, r1, q1⟩)
def tRetN : TS := fun D _ H => D.rt .non H
def tIfS (c : TT) (t u : TS) : TS := fun D σ H => c σ H fun b H1 => if b = true then t D σ H1 else u D σ H1
theorem ps_if {c : Expr} {a b : List Stmt} {tc : TT} (hc : PT X c tc) (ha : PSs X a t) (hb : PSs X b u) : PS X (.If c a b pos) (tIfS tc t u) := by
  intro pins s σ H D I h
  refine wpAny_If (thn (hc pins s σ H _ I h) fun d s1 ⟨H1, I1, q1⟩ => ?_)
  cases d with
  | true => exact ha pins s1 σ H1 D I1 q1
  | false => exact hb pins s1 σ H1 D I1 q1
/-- code that the proof never comes to -/
def tNever : TS := fun _ _ _ => False
theorem pss_never {sts : List Stmt} : PSs X sts tNever := fun _ _ _ _ _ _ h => h.elim
end

/-! ### targets -/
abbrev TG := V → St → Hp → (St → Hp → Prop) → Prop
abbrev TGs := List V → St → Hp → (St → Hp → Prop) → Prop
def PG (X : Cx) (target : Expr) (t : TG) : Prop :=
  ∀ (pins : List (Addr × Obj)) (s : Shared) (σ : St) (H : Hp) (v : V) (u : Value) (Q : St → Hp → Prop), Inv X pins σ H s → RelV v u → t v σ H Q →
    wpAny (model X.prog X.w) X.A (assign target X.env u) (fun _ s' => ∃ σ' H', Inv X pins σ' H' s' ∧ Q σ' H') X.xe s
/-- several targets, one after another -/
def PGs (X : Cx) (ts : List Expr) (t : TGs) : Prop :=
  ∀ (pins : List (Addr × Obj)) (s : Shared) (σ : St) (H : Hp) (vs : List V) (us : List Value) (Q : St → Hp → Prop), Inv X pins σ H s → Vals vs us → t vs σ H Q →
    wpAny (model X.prog X.w) X.A (assignInOrder ((assignEach ts X.env).map (·.2)) us) (fun _ s' => ∃ σ' H', Inv X pins σ' H' s' ∧ Q σ' H') X.xe s
/-- o[i] = v, by values -/
abbrev TSet := V → V → V → Hp → (Hp → Prop) → Prop
def PSet (X : Cx) (t : TSet) : Prop :=
  ∀ (pins : List (Addr × Obj)) (s : Shared) (σ : St) (H : Hp) (o i v : V) (ov iv u : Value) (Q : Hp → Prop), Inv X pins σ H s → RelV o ov → RelV i iv → RelV v u → t o i v H Q →
    wpAny (model X.prog X.w) X.A (setItem ov iv u) (fun _ s' => ∃ H', Inv X pins σ H' s' ∧ Q H') X.xe s
/-- a op= b, by values -/
abbrev TIp := V → V → Hp → VK → Prop
def PIp (X : Cx) (op : Operator) (t : TIp) : Prop :=
  ∀ (pins : List (Addr × Obj)) (s : Shared) (σ : St) (H : Hp) (x y : V) (v u : Value) (Q : VK), Inv X pins σ H s → RelV x v → RelV y u → t x y H Q →
    wpAny (model X.prog X.w) X.A (inplaceOp op v u) (EP X pins σ Q) X.xe s
section
variable {X : Cx} {pos : Pos}
def gName (i : Nat) : TG := fun v σ H Q => Q (σ.set i (some v)) H
theorem pg_name {i : Nat} {x : Str} (hN : X.N.Nodup) (hi : X.N[i]? = some x) (hx : Loc X.env.scope x) (hf : X.fn x = true ∨ X.env.scope.names.lookup x = some .local := by first | exact .inl rfl | exact .inr rfl | assumption) : PG X (.Name x pos) (gName i) := by
  intro pins s σ H v u Q I r h
  exact wpAny_assign_Name (store_ok I hN hi hx r (fun s' I' => ⟨_, H, I', h⟩) hf)
def gNil : TGs := fun vs σ H Q => vs = [] ∧ Q σ H
def gCons (t : TG) (u : TGs) : TGs := fun vs σ H Q => ∃ v r, vs = v :: r ∧ t v σ H fun σ' H' => u r σ' H' Q
theorem pgs_nil : PGs X [] gNil := by
  intro pins s σ H vs us Q I r h
  obtain ⟨e, h⟩ := h
  subst e
  cases r
  exact assignInOrder_nil ⟨σ, H, I, h⟩
theorem pgs_cons {e : Expr} {es : List Expr} {t : TG} {u : TGs} (h1 : PG X e t) (h2 : PGs X es u)
    (hs : (assignEach (e :: es) X.env).map (·.2) = assign e X.env :: (assignEach es X.env).map (·.2) := by rfl) : PGs X (e :: es) (gCons t u) := by
  intro pins s σ H vs us Q I r h
  obtain ⟨v, vr, e1, h⟩ := h
  subst e1
  cases r with
  | cons r rr =>
    rw [hs]
    refine assignInOrder_cons (thn (h1 pins s σ H _ _ _ I r h) fun _ s1 ⟨σ1, H1, I1, q1⟩ => ?_)
    exact h2 pins s1 σ1 H1 _ _ Q I1 rr q1
/-- (a, b, ..) = a tuple of that length -/
def gTup (K : PySem.W.Frag) (n : Nat) (t : TGs) : TG := fun v σ H Q => ∃ a xs, v = .ref a ∧ SqT K H a xs ∧ xs.length = n ∧ t xs σ H Q
theorem pg_tup {es : List Expr} {k : Nat} {t : TGs} {n : Nat} (hc : X.calm = true) (h : PGs X es t)
    (hn : (assignEach es X.env).length = n := by rfl) (hst : (assignEach es X.env).findIdx? (·.1) = none := by rfl) : PG X (.Tuple es k pos) (gTup X.K n t) := by
  intro pins s σ H v u Q I r hw
  obtain ⟨a, xs, e1, hq, hl, hw⟩ := hw
  subst e1
  cases r
  obtain ⟨its, rv, ht, hz⟩ := I.tuple hq
  refine assign_Tuple_tuple (I.ok.hd hc) ht (by simp [hn, ← hl, rv.length]) hst fun h' hx => ?_
  have I1 : Inv X pins σ H { s with heap := h' } := I.kept (t' := s.toks) fun b o e => hx b o (Nat.ne_of_lt (Heap.lt_size e)) e
  exact h pins _ σ H xs _ Q I1 (by simpa using rv) hw
/-- o[i] = .. -/
def gSub (to ti : TE) (t : TSet) : TG := fun v σ H Q => to σ H fun o H1 => ti σ H1 fun i H2 => t o i v H2 fun H3 => Q σ H3
theorem pg_sub {o i : Expr} {to ti : TE} {t : TSet} (ho : PE X o to) (hi : PE X i ti) (hs : PSet X t)
    (ha : ∀ v, assign (.Subscript o i pos) X.env v = (do
      let ov ← holding [v] (eval o X.env)
      let iv ← holding [v, ov] (eval i X.env)
      standAt pos
      holding [v, ov, iv] (setItem ov iv v)
      release [v, ov, iv] []) := by intro _; rfl) : PG X (.Subscript o i pos) (gSub to ti t) := by
  intro pins s σ H v u Q I r h
  rw [ha]
  refine wpAny_bind (wpAny_holding (thn (ho pins s σ H _ I h) fun ov s1 ⟨x, H1, I1, r1, q1⟩ => ?_))
  refine wpAny_bind (wpAny_holding (thn (hi pins s1 σ H1 _ I1 q1) fun iv s2 ⟨y, H2, I2, r2, q2⟩ => ?_))
  refine wpAny_bind (wpAny_standAt (wpAny_bind (wpAny_holding (thn (hs pins s2 σ H2 x y v ov iv u _ I2 r1 r2 r q2) fun _ s3 ⟨H3, I3, q3⟩ => ?_))))
  exact wpAny_release ⟨σ, H3, I3, q3⟩
/-- target = value -/
def tAsg (te : TE) (g : TG) : TS := fun D σ H => te σ H fun x H1 => g x σ H1 D.nx
theorem ps_asg {tg e : Expr} {te : TE} {g : TG} (he : PE X e te) (hg : PG X tg g) (hs : swapsWithSole [tg] e pos.line X.env = pure false := by rfl) (hw : swappedStores [tg] e X.env = pure none := by rfl)
    (h1 : (assignEach [tg] X.env).map (·.2) = [assign tg X.env] := by rfl) : PS X (.Assign [tg] e pos) (tAsg te g) := by
  intro pins s σ H D I h
  refine wpAny_Assign_stores (thn (he pins s σ H _ I h) fun v s1 ⟨x, H1, I1, r1, q1⟩ => ?_) hs hw
  rw [h1]
  exact thn (hg pins s1 σ H1 x v _ I1 r1 q1) fun _ s2 q => q
/-- name = value -/
theorem ps_set {i : Nat} {x : Str} {e : Expr} {te : TE} {pos' : Pos} (hN : X.N.Nodup) (hi : X.N[i]? = some x) (hx : Loc X.env.scope x) (he : PE X e te) (hs : swapsWith e (some (.Name x pos')) pos.line X.env = pure false := by rfl) (hf : X.fn x = true ∨ X.env.scope.names.lookup x = some .local := by first | exact .inl rfl | exact .inr rfl | assumption) :
    PS X (.Assign [.Name x pos'] e pos) (tAsg te (gName i)) := by
  intro pins s σ H D I h
  refine wpAny_Assign_Name (thn (he pins s σ H _ I h) fun v s1 ⟨y, H1, I1, r1, q1⟩ => ?_) hs
  exact store_ok I1 hN hi hx r1 (fun s2 I2 => ⟨_, H1, I2, q1⟩) hf
/-- a, b = x, y with plain local names: stored from the right; the pair itself is not tracked (the opening rows as in PyProof/Rows/TupAssign.lean:23) -/
def tPar (i j : Nat) (ta : TA) : TS := fun D σ H => ta σ H fun vs H1 => ∃ v w, vs = [v, w] ∧ D.nx ((σ.set i (some v)).set j (some w)) H1
/-- name op= e -/
def tAug (i : Nat) (te : TE) (ti : TIp) : TS := fun D σ H => ∃ x, σ[i]? = some (some x) ∧ te σ H fun y H1 => ti x y H1 fun z H2 => D.nx (σ.set i (some z)) H2
/-- o[i] op= e -/
def tAugS (to ti te : TE) (tget : V → V → Hp → VK → Prop) (tip : TIp) (tset : TSet) : TS := fun D σ H => to σ H fun o H1 => ti σ H1 fun i H2 => tget o i H2 fun x H3 => te σ H3 fun y H4 => tip x y H4 fun z H5 => tset o i z H5 fun H6 => D.nx σ H6
/-- o[i], by values -/
def PGet (X : Cx) (t : V → V → Hp → VK → Prop) : Prop :=
  ∀ (pins : List (Addr × Obj)) (s : Shared) (σ : St) (H : Hp) (o i : V) (ov iv : Value) (Q : VK), Inv X pins σ H s → RelV o ov → RelV i iv → t o i H Q →
    wpAny (model X.prog X.w) X.A (getItem ov iv) (EP X pins σ Q) X.xe s
/-- ints -/
def ipI (f : Int → Int → Int) : TIp := fun x y H Q => ∃ i j, x = .int i ∧ y = .int j ∧ Q (.int (f i j)) H
end

/-! ### while -/
section
variable {X : Cx} {pos : Pos}
/-- the invariant W with its measure -/
def tWhile (c : TT) (tb : TS) : TS := fun D σ H => ∃ W : Nat → St → Hp → Prop, (∃ m, W m σ H) ∧ ∀ m σ H, W m σ H →
  c σ H fun b H1 => if b = true then ∃ N : St → Hp → Prop, (∀ σ' H', N σ' H' → ∃ m', m' < m ∧ W m' σ' H') ∧ tb { D with nx := N, ct := N, bk := D.nx } σ H1 else D.nx σ H1
end

/-! ### what a loop or a comprehension walks -/
/-- at turn i: it yields x (the heap may grow), or it stops -/
structure It where
  go : Nat → Hp → Prop
  yld : Nat → Hp → V → Hp → Prop
  stop : Nat → Hp → Prop
/-- the iterator's own objects may turn: they are not the frame's, not pinned, younger than the entry (or a comprehension's own) -/
def FpOk (X : Cx) (pins : List (Addr × Obj)) (H : Hp) (b : Addr) : Prop :=
  H b = none ∧ b ≠ X.env.locals ∧ b ∉ X.fs ∧ (b ∈ X.ex ∨ X.s₀.heap.objs.size ≤ b) ∧ (∀ x c, X.env.cells.lookup x = some c → c ≠ b) ∧ ∀ p ∈ X.pn ++ pins, p.1 ≠ b
theorem Inv.fpOk {X : Cx} {pins : List (Addr × Obj)} {σ : St} {H H' : Hp} {s : Shared} {b : Addr} (I : Inv X pins σ H s) (hb : s.heap.objs.size ≤ b) (hn : H' b = none) : FpOk X pins H' b := by
  refine ⟨hn, Nat.ne_of_gt (Nat.lt_of_lt_of_le I.lt hb), I.nofs hb, .inr (Nat.le_trans I.sz hb), fun x c e z => ?_, fun p hp z => ?_⟩
  · obtain ⟨v, q⟩ := I.cell x c e
    exact absurd (Nat.lt_of_lt_of_le q.lt (by rw [z]; exact hb)) (Nat.lt_irrefl _)
  · exact absurd (Nat.lt_of_lt_of_le (Heap.lt_size (I.pin p hp).1) (by rw [z]; exact hb)) (Nat.lt_irrefl _)
structure Turn (P : Program) (w : World) (K : PySem.W.Frag) (tg : Expr) (J : It) (fp : List Addr) (it : Addr) (tn : Nat → Heap → Prop) : Prop where
  mem : it ∈ fp
  obj : ∀ i h, tn i h → ∀ b ∈ fp, ∃ o, h.get? b = some o ∧ ∀ v, o.data ≠ .cell v
  keep : ∀ i h h', tn i h → (∀ b ∈ fp, ∀ o, h.get? b = some o → h'.get? b = some o) → tn i h'
  item : ∀ (X : Cx), X.prog = P → X.w = w → X.K = K → X.calm = true → ∀ (i : Nat) (pins : List (Addr × Obj)) (s : Shared) (σ : St) (H : Hp) (E : Value → Shared → Prop), Inv X pins σ H s → (∀ b ∈ fp, FpOk X pins H b) → tn i s.heap → J.go i H →
    wpAny (model P w) X.A (pyNext (.ref it)) (fun r s1 => ∃ u, r = some u ∧
      wpAny (model P w) X.A (letOwnedTupleGo tg (.ref it) u) (fun _ s2 => ∃ x H', Inv X pins σ H' s2 ∧ RelV x u ∧ J.yld i H x H' ∧ tn (i + 1) s2.heap ∧ ∀ b ∈ fp, H' b = none) E s1) E s
  done : ∀ (X : Cx), X.prog = P → X.w = w → X.K = K → X.calm = true → ∀ (i : Nat) (pins : List (Addr × Obj)) (s : Shared) (σ : St) (H : Hp) (E : Value → Shared → Prop), Inv X pins σ H s → (∀ b ∈ fp, FpOk X pins H b) → tn i s.heap → J.stop i H →
    wpAny (model P w) X.A (pyNext (.ref it)) (fun r s1 => r = none ∧ Inv X pins σ H s1) E s
  self : ∀ (A : Around) (i : Nat) (s : Shared) (Q : Value → Shared → Prop) (E : Value → Shared → Prop), tn i s.heap → Q (.ref it) s → wpAny (model P w) A (pyIter (.ref it)) Q E s
abbrev TI := St → Hp → (It → Hp → Prop) → Prop
/-- an iterator has come -/
def PIE (X : Cx) (pins : List (Addr × Obj)) (σ : St) (tg : Expr) (R : It → Hp → Prop) (itv : Value) (s2 : Shared) : Prop :=
  ∃ (it : Addr) (fp : List Addr) (tn : Nat → Heap → Prop) (J : It) (H' : Hp), itv = .ref it ∧ Inv X pins σ H' s2 ∧ Turn X.prog X.w X.K tg J fp it tn ∧ tn 0 s2.heap ∧ (∀ b ∈ fp, FpOk X pins H' b) ∧ R J H'
def PI (X : Cx) (tg iter : Expr) (wi : TI) : Prop :=
  ∀ (pins : List (Addr × Obj)) (s : Shared) (σ : St) (H : Hp) (R : It → Hp → Prop), Inv X pins σ H s → wi σ H R →
    wpAny (model X.prog X.w) X.A (eval iter X.env) (fun v s1 => wpAny (model X.prog X.w) X.A (pyIter v) (PIE X pins σ tg R) X.xe s1) X.xe s

/-- the step ahead of the store is nothing for an iterator that keeps no tuple -/
theorem go_of {M : Model} {A : Around} {E : Value → Shared → Prop} {s : Shared} {tg : Expr} {it : Addr} {u : Value} {o : Obj} {n : String} {vs : Array Value} {Q : Unit → Shared → Prop} (ho : s.heap.get? it = some o) (hc : o.cls = .type n) (hd : o.data = .fields vs)
    (hn : ["enumerate", "zip", "dict_itemiterator", "dict_reverseitemiterator", "odict_iterator", "itertools.zip_longest", "itertools.pairwise"].contains n = false) (hQ : Q () s) : wpAny M A (letOwnedTupleGo tg (.ref it) u) Q E s := by
  unfold letOwnedTupleGo
  cases tg <;> first
    | exact wpAny_pure hQ
    | (cases u <;> first
        | exact wpAny_pure hQ
        | (refine wpAny_bind (wpAny_load ho ?_)
           rw [hc, hd]
           show wpAny M A (if (["enumerate", "zip", "dict_itemiterator", "dict_reverseitemiterator", "odict_iterator", "itertools.zip_longest", "itertools.pairwise"].contains n && vs[0]? == some (rawInt _)) = true then _ else _) Q E s
           rw [if_neg (by intro h; rw [hn, Bool.false_and] at h; cases h)]
           exact wpAny_pure hQ))

/-- the list at a, as it stands at each turn (a loop may append to it) -/
def Itl (K : PySem.W.Frag) (a : Addr) : It :=
  ⟨fun i H => ∃ xs x, SqL K H a xs ∧ xs[i]? = some x, fun i H x H' => H' = H ∧ ∀ xs, SqL K H a xs → xs[i]? = some x, fun i H => ∃ xs, SqL K H a xs ∧ xs.length ≤ i⟩
def Itt (K : PySem.W.Frag) (a : Addr) : It :=
  ⟨fun i H => ∃ xs x, SqT K H a xs ∧ xs[i]? = some x, fun i H x H' => H' = H ∧ ∀ xs, SqT K H a xs → xs[i]? = some x, fun i H => ∃ xs, SqT K H a xs ∧ xs.length ≤ i⟩
/-- lo, lo + 1, .. (n of them) -/
def Itr (lo : Int) (n : Nat) : It := ⟨fun i _ => i < n, fun i H x H' => H' = H ∧ x = .int (lo + i), fun i _ => n ≤ i⟩
theorem turn_list {P : Program} {w : World} {K : PySem.W.Frag} {tg : Expr} (a it : Addr) : Turn P w K tg (Itl K a) [it] it (fun i h => h.IsListIter it a i) where
  mem := by simp
  obj := fun i h st b hb => by
    have e : b = it := by simpa using hb
    subst e
    obtain ⟨o, e, c, d⟩ := st
    exact ⟨o, e, fun v z => by rw [d] at z; cases z⟩
  keep := fun i h h' st k => st.at fun o e => k it (by simp) o e
  item := by
    intro X hP hw hK hc i pins s σ H E I hf st hg
    subst hP hw hK
    obtain ⟨xs, x, hq, hx⟩ := hg
    obtain ⟨its, rv, p, hz⟩ := I.list hq
    obtain ⟨u, hu, ru⟩ := rv.get hx
    obtain ⟨f0, f1, f2, f3, f4, f5⟩ := hf it (by simp)
    refine wpAny_pyNext_list_item st p.isList (x := u) (by simpa using hu) fun h' st' sb => ?_
    have I1 : Inv X pins σ H { s with heap := h' } := I.turned (t' := s.toks) (fun b o hb e => (sb.2 b hb).trans e) f0 f1 f3 f4 f5
    obtain ⟨o, e, c, d⟩ := id st'
    exact ⟨u, rfl, go_of (s := { s with heap := h' }) e c d (by decide) ⟨x, H, I1, ru, ⟨rfl, fun ys hy => by rw [I.list_inj hy hq]; exact hx⟩, st', fun b hb => (hf b hb).1⟩⟩
  done := by
    intro X hP hw hK hc i pins s σ H E I hf st hg
    subst hP hw hK
    obtain ⟨xs, hq, hx⟩ := hg
    obtain ⟨its, rv, p, hz⟩ := I.list hq
    obtain ⟨f0, f1, f2, f3, f4, f5⟩ := hf it (by simp)
    have hl := rv.length
    exact wpAny_pyNext_list_end (I.ok.hd hc) st p.isList (by simp; omega) fun h' eb => ⟨rfl, I.turned (t' := s.toks) (fun b o hb e => eb b o hb e) f0 f1 f3 f4 f5⟩
  self := fun _ _ _ _ _ st h => wpAny_pyIter_listiter st h
theorem turn_range {P : Program} {w : World} {K : PySem.W.Frag} {tg : Expr} (it : Addr) (lo : Int) (n : Nat) : Turn P w K tg (Itr lo n) [it] it (fun i h => IsRangeIter h it (lo + (i : Nat) * 1) ((n : Int) - (i : Nat)) 1) where
  mem := by simp
  obj := fun i h st b hb => by
    have e : b = it := by simpa using hb
    subst e
    exact ⟨_, st, fun v z => by
      have z' : Data.fields _ = Data.cell v := z
      cases z'⟩
  keep := fun i h h' st k => k it (by simp) _ st
  item := by
    intro X hP hw hK hc i pins s σ H E I hf st hg
    subst hP hw hK
    obtain ⟨f0, f1, f2, f3, f4, f5⟩ := hf it (by simp)
    have W := Walks.range (prog := X.prog) (w := X.w) (I.ok.hd hc) it lo 1 n
    refine W.item i s _ _ hg st fun v h' tk hv st' kk => ?_
    obtain ⟨t, rfl⟩ := hv
    have I1 : Inv X pins σ H { s with heap := h', toks := tk } := I.turned (fun b o hb e => kk b o (by simpa using hb) e) f0 f1 f3 f4 f5
    refine ⟨_, rfl, go_of (s := { s with heap := h', toks := tk }) (n := "range_iterator") st' rfl rfl (by decide) ⟨.int (lo + i), H, I1, ⟨t, ?_⟩, ⟨rfl, rfl⟩, st', fun b hb => (hf b hb).1⟩⟩
    rw [Int.mul_one]
  done := by
    intro X hP hw hK hc i pins s σ H E I hf st hg
    subst hP hw hK
    obtain ⟨f0, f1, f2, f3, f4, f5⟩ := hf it (by simp)
    exact wpAny_pyNext_range_end (I.ok.hd hc) st (by have : n ≤ i := hg; omega) fun h' eb => ⟨rfl, I.turned (t' := s.toks) (fun b o hb e => eb b o hb e) f0 f1 f3 f4 f5⟩
  self := fun _ _ _ _ _ st h => wpAny_pyIter_rangeiter st h
end L2

namespace L2
open PySem PySem.Spec PyProof.Rows
section
variable {X : Cx} {tg : Expr}
def iList (K : PySem.W.Frag) (tl : TE) : TI := fun σ H R => tl σ H fun x H1 => ∃ a, x = .ref a ∧ (∃ xs, SqL K H1 a xs) ∧ R (Itl K a) H1
def iTup (K : PySem.W.Frag) (tl : TE) : TI := fun σ H R => tl σ H fun x H1 => ∃ a, x = .ref a ∧ (∃ xs, SqT K H1 a xs) ∧ R (Itt K a) H1
theorem pi_list {l : Expr} {tl : TE} (hl : PE X l tl) : PI X tg l (iList X.K tl) := by
  intro pins s σ H R I h
  refine thn (hl pins s σ H _ I h) fun v s1 ⟨x, H1, I1, r1, q1⟩ => ?_
  obtain ⟨a, e, ⟨xs, hq⟩, q⟩ := q1
  subst e
  cases r1
  obtain ⟨its, rv, p, hz⟩ := I1.list hq
  refine wpAny_pyIter_list p.isList ?_
  refine ⟨s1.heap.objs.size, [s1.heap.objs.size], _, _, H1, rfl, I1.kept (t' := s1.toks) fun b o e => Heap.get?_push_of_some _ e, turn_list a _, ⟨_, Heap.get?_push_size _ rfl, rfl, rfl⟩, fun b hb => ?_, q⟩
  have e : b = s1.heap.objs.size := by simpa using hb
  subst e
  exact I1.fpOk (Nat.le_refl _) (I1.hok.fresh (Nat.le_refl _))
/-- a range object just made, walked -/
theorem range_it {pins : List (Addr × Obj)} {σ : St} {H : Hp} {s : Shared} {R : It → Hp → Prop} {E : Value → Shared → Prop} {lo hi : Int} {t u v : Tok} {tk : Nat} (I : Inv X pins σ H s) (h1 : -(2 ^ 62) ≤ lo) (h2 : lo < 2 ^ 62) (h3 : -(2 ^ 62) ≤ hi) (h4 : hi < 2 ^ 62)
    (q : R (Itr lo (hi - lo).toNat) H) : wpAny (model X.prog X.w) X.A (pyIter (.ref s.heap.objs.size)) (PIE X pins σ tg R) E { s with heap := s.heap.push { cls := .type "range", data := .fields #[.int lo t, .int hi u, .int 1 v] }, toks := tk } := by
  refine wpAny_pyIter_range (IsRange.new ..) (small_one h1 h2 h3 h4) ?_
  have I1 : Inv X pins σ H { s with heap := s.heap.push { cls := .type "range", data := .fields #[.int lo t, .int hi u, .int 1 v] }, toks := tk } := I.kept fun b o e => Heap.get?_push_of_some _ e
  refine ⟨(s.heap.push { cls := .type "range", data := .fields #[.int lo t, .int hi u, .int 1 v] }).objs.size, [(s.heap.push { cls := .type "range", data := .fields #[.int lo t, .int hi u, .int 1 v] }).objs.size], _, _, H, rfl,
    I1.kept (t' := tk) fun b o e => Heap.get?_push_of_some _ e, turn_range _ lo (hi - lo).toNat, ?_, fun b hb => ?_, q⟩
  · have e1 : lo + ((0 : Nat) : Int) * 1 = lo := by simp
    have e2 : (((hi - lo).toNat : Nat) : Int) - ((0 : Nat) : Int) = Builtin.Range.rangeSize lo hi 1 := by rw [rangeSize_one]; split <;> omega
    show IsRangeIter _ _ (lo + ((0 : Nat) : Int) * 1) ((((hi - lo).toNat : Nat) : Int) - ((0 : Nat) : Int)) 1
    rw [e1, e2]
    exact Heap.get?_push_size _ rfl
  · have e : b = (s.heap.push { cls := .type "range", data := .fields #[.int lo t, .int hi u, .int 1 v] }).objs.size := by simpa using hb
    subst e
    exact I1.fpOk (Nat.le_refl _) (I1.hok.fresh (Nat.le_refl _))
def iRng1 (ta : TA) : TI := fun σ H R => ta σ H fun vs H1 => ∃ j : Int, vs = [.int j] ∧ -(2 ^ 62) ≤ j ∧ j < 2 ^ 62 ∧ R (Itr 0 j.toNat) H1
def iRng2 (ta : TA) : TI := fun σ H R => ta σ H fun vs H1 => ∃ i j : Int, vs = [.int i, .int j] ∧ (-(2 ^ 62) ≤ i ∧ i < 2 ^ 62 ∧ -(2 ^ 62) ≤ j ∧ j < 2 ^ 62) ∧ R (Itr i (j - i).toNat) H1
theorem pi_range1 {a : Expr} {ta : TA} {p pos : Pos} (hg : Gl X "range") (hm : X.mg "range" = none) (ha : PA X [a] ta) (hs : starEach [a] X.env = [(false, eval a X.env)] := by rfl) : PI X tg (.Call (.Name "range" p) [a] [] pos) (iRng1 ta) := by
  intro pins s σ H R I h
  refine Call_ (ld_blt I hg hm boot_range (PyProof.Rows.callWith_type1 (thn (ha pos pins s σ H _ I h) fun us s1 ⟨vs, H1, I1, r1, q1⟩ => ?_) hs rfl))
  obtain ⟨j, e, q1, q2, q⟩ := q1
  subst e
  cases r1 with
  | cons r rr =>
    cases rr
    obtain ⟨t, rfl⟩ := r
    exact call_range_1 (range_it I1 (by omega) (by omega) q1 q2 (by simpa using q))
/-! ### for -/
/-- W: the invariant by the turn and a measure; N: what the body is to reach -/
def tFor (wi : TI) (g : TG) (tb : TS) : TS := fun D σ H => wi σ H fun J H1 => ∃ W : Nat → Nat → St → Hp → Prop, (∃ m, W 0 m σ H1) ∧ ∀ i m σ H, W i m σ H →
  (J.stop i H ∧ D.nx σ H) ∨ (J.go i H ∧ ∃ N : St → Hp → Prop, (∀ σ' H', N σ' H' → ∃ m', m' < m ∧ W (i + 1) m' σ' H') ∧ ∀ x H', J.yld i H x H' → g x σ H' fun σ2 H2 => tb { D with nx := N, ct := N, bk := D.nx } σ2 H2)
/-- the records at fp as they stand -/
def pinsAt (fp : List Addr) (h : Heap) : List (Addr × Obj) := fp.filterMap fun b => (h.get? b).map fun o => (b, o)
theorem mem_pinsAt {fp : List Addr} {h : Heap} {b : Addr} {o : Obj} (hb : b ∈ fp) (e : h.get? b = some o) : (b, o) ∈ pinsAt fp h := List.mem_filterMap.mpr ⟨b, hb, by rw [e]; rfl⟩
theorem of_pinsAt {fp : List Addr} {h : Heap} {p : Addr × Obj} (hp : p ∈ pinsAt fp h) : p.1 ∈ fp ∧ h.get? p.1 = some p.2 := by
  obtain ⟨b, hb, e⟩ := List.mem_filterMap.mp hp
  cases q : h.get? b with
  | none => rw [q] at e; cases e
  | some o =>
    rw [q] at e
    have e' : (b, o) = p := Option.some.inj e
    subst e'
    exact ⟨hb, q⟩
theorem Inv.pinned {pins : List (Addr × Obj)} {σ : St} {H : Hp} {s : Shared} {fp : List Addr} (I : Inv X pins σ H s) (hf : ∀ b ∈ fp, FpOk X pins H b) (ho : ∀ b ∈ fp, ∃ o, s.heap.get? b = some o ∧ ∀ v, o.data ≠ .cell v) : Inv X (pins ++ pinsAt fp s.heap) σ H s :=
  I.pins_of fun p hp => (List.mem_append.mp hp).elim (fun z => I.pin p (List.mem_append_right _ z)) fun z => by
    obtain ⟨hb, e⟩ := of_pinsAt z
    obtain ⟨f0, f1, f2, _⟩ := hf p.1 hb
    obtain ⟨o, e', d⟩ := ho p.1 hb
    rw [e] at e'; cases e'
    exact ⟨e, f0, f1, f2, d⟩
theorem Inv.unpinned {pins pl : List (Addr × Obj)} {σ : St} {H : Hp} {s : Shared} (I : Inv X (pins ++ pl) σ H s) : Inv X pins σ H s := I.pins_of fun p hp => I.pin p (List.mem_append_right _ (List.mem_append_left _ hp))
theorem ps_for {iter : Expr} {body : List Stmt} {wi : TI} {g : TG} {tb : TS} {pos : Pos} (hp : PassesOwn (model X.prog X.w) X.A X.env X.xe) (hc : X.calm = true) (hi : PI X tg iter wi) (hg : PG X tg g) (hb : PSs X body tb)
    (hs : ∀ x, foldedSetIterable iter X.env x = pure x := by intro _; rfl) : PS X (.For tg iter body [] pos) (tFor wi g tb) := by
  intro pins s σ H D I h
  refine wpAny_For (thn (hi pins s σ H _ I h) fun v s1 h1 => thn h1 fun itv s2 h2 => ?_) hs
  obtain ⟨it, fp, tn, J, H2, e, I2, T, st2, f2, W, ⟨m0, w0⟩, turn⟩ := h2
  subst e
  -- what stays true of the iterator's objects through the loop
  have stat : ∀ {H' : Hp}, (∀ b ∈ fp, H' b = none) → ∀ b ∈ fp, FpOk X pins H' b := fun hn b hb => ⟨hn b hb, (f2 b hb).2⟩
  refine codeAny_forLoop_any (fun n s' => ∃ i σ' H', Inv X pins σ' H' s' ∧ tn i s'.heap ∧ (∀ b ∈ fp, H' b = none) ∧ W i n σ' H') ?_ m0 ⟨0, σ, H2, I2, st2, fun b hb => (f2 b hb).1, w0⟩
  rintro n s3 ⟨i, σ3, H3, I3, st3, fr3, w3⟩
  rcases turn i n σ3 H3 w3 with ⟨stop, qn⟩ | ⟨go, N, hN, step⟩
  · refine wpAny_passesOwn hp (thn (T.done X rfl rfl rfl hc i pins s3 σ3 H3 X.xe I3 (stat fr3) st3 stop) fun r s4 ⟨hr, I4⟩ => ?_)
    subst hr
    exact wpAny_execs_nil ⟨σ3, H3, I4, qn⟩
  · refine wpAny_passesOwn hp (thn (T.item X rfl rfl rfl hc i pins s3 σ3 H3 X.xe I3 (stat fr3) st3 go) fun r s4 ⟨u, hr, h4⟩ => ?_)
    subst hr
    refine wpAny_passesOwn hp (thn h4 fun _ s5 ⟨x, H5, I5, r5, y5, st5, fr5⟩ => ?_)
    have I5' := I5.pinned (stat fr5) (T.obj _ _ st5)
    refine wpAny_passesOwn hp (thn (hg _ s5 σ3 H5 x u _ I5' r5 (step x H5 y5)) fun _ s6 ⟨σ6, H6, I6, q6⟩ => ?_)
    refine wpAny_passesOwn hp (thn (hb _ s6 σ6 H6 _ I6 q6) fun f s7 q7 => ?_)
    have again : ∀ {σ7 : St} {H7 : Hp}, Inv X (pins ++ pinsAt fp s5.heap) σ7 H7 s7 → N σ7 H7 → ∃ m, m < n ∧ ∃ i σ' H', Inv X pins σ' H' s7 ∧ tn i s7.heap ∧ (∀ b ∈ fp, H' b = none) ∧ W i m σ' H' := fun {σ7 H7} I7 n7 => by
      obtain ⟨m', hm, w7⟩ := hN σ7 H7 n7
      refine ⟨m', hm, i + 1, σ7, H7, I7.unpinned, T.keep _ _ _ st5 fun b hb o e => (I7.pin (b, o) (List.mem_append_right _ (List.mem_append_right _ (mem_pinsAt hb e)))).1, fun b hb => ?_, w7⟩
      obtain ⟨o, e, d⟩ := T.obj _ _ st5 b hb
      exact (I7.pin (b, o) (List.mem_append_right _ (List.mem_append_right _ (mem_pinsAt hb e)))).2.1
    cases f with
    | next => obtain ⟨σ7, H7, I7, n7⟩ := q7; exact again I7 n7
    | cont => obtain ⟨σ7, H7, I7, n7⟩ := q7; exact again I7 n7
    | brk => obtain ⟨σ7, H7, I7, q7⟩ := q7; exact ⟨σ7, H7, I7.unpinned, q7⟩
    | ret v => obtain ⟨x7, σ7, H7, I7, r7, q7⟩ := q7; exact ⟨x7, σ7, H7, I7.unpinned, r7, q7⟩
end

/-! ### the forms one uses -/
/-- over a list that the body leaves as it is -/
theorem for_list {K : PySem.W.Frag} {a : Addr} {xs : List V} {g : TG} {tb : TS} {D : Ends} {σ : St} {H : Hp} (Pv : Nat → St → Hp → Prop) (h0 : Pv 0 σ H) (hl : ∀ i σ H, i ≤ xs.length → Pv i σ H → SqL K H a xs)
    (hs : ∀ i x σ H, xs[i]? = some x → Pv i σ H → g x σ H fun σ2 H2 => tb { D with nx := Pv (i + 1), ct := Pv (i + 1), bk := D.nx } σ2 H2) (hd : ∀ σ H, Pv xs.length σ H → D.nx σ H) :
    ∃ W : Nat → Nat → St → Hp → Prop, (∃ m, W 0 m σ H) ∧ ∀ i m σ H, W i m σ H →
      ((Itl K a).stop i H ∧ D.nx σ H) ∨ ((Itl K a).go i H ∧ ∃ N : St → Hp → Prop, (∀ σ' H', N σ' H' → ∃ m', m' < m ∧ W (i + 1) m' σ' H') ∧ ∀ x H', (Itl K a).yld i H x H' → g x σ H' fun σ2 H2 => tb { D with nx := N, ct := N, bk := D.nx } σ2 H2) := by
  refine ⟨fun i m σ H => m = xs.length - i ∧ i ≤ xs.length ∧ Pv i σ H, ⟨xs.length, by simp, Nat.zero_le _, h0⟩, ?_⟩
  rintro i m σ H ⟨rfl, hi, p⟩
  have q := hl i σ H hi p
  by_cases hlt : i < xs.length
  · refine .inr ⟨⟨xs, xs[i], q, by simp [hlt]⟩, Pv (i + 1), fun σ' H' p' => ⟨xs.length - (i + 1), by omega, rfl, hlt, p'⟩, fun x H' y => ?_⟩
    obtain ⟨e, y⟩ := y
    subst e
    exact hs i x σ _ (y xs q) p
  · have e : i = xs.length := by omega
    subst e
    exact .inl ⟨⟨xs, q, Nat.le_refl _⟩, hd σ H p⟩
theorem for_range {lo : Int} {n : Nat} {g : TG} {tb : TS} {D : Ends} {σ : St} {H : Hp} (Pv : Nat → St → Hp → Prop) (h0 : Pv 0 σ H)
    (hs : ∀ i σ H, i < n → Pv i σ H → g (.int (lo + i)) σ H fun σ2 H2 => tb { D with nx := Pv (i + 1), ct := Pv (i + 1), bk := D.nx } σ2 H2) (hd : ∀ σ H, Pv n σ H → D.nx σ H) :
    ∃ W : Nat → Nat → St → Hp → Prop, (∃ m, W 0 m σ H) ∧ ∀ i m σ H, W i m σ H →
      ((Itr lo n).stop i H ∧ D.nx σ H) ∨ ((Itr lo n).go i H ∧ ∃ N : St → Hp → Prop, (∀ σ' H', N σ' H' → ∃ m', m' < m ∧ W (i + 1) m' σ' H') ∧ ∀ x H', (Itr lo n).yld i H x H' → g x σ H' fun σ2 H2 => tb { D with nx := N, ct := N, bk := D.nx } σ2 H2) := by
  refine ⟨fun i m σ H => m = n - i ∧ i ≤ n ∧ Pv i σ H, ⟨n, by simp, Nat.zero_le _, h0⟩, ?_⟩
  rintro i m σ H ⟨rfl, hi, p⟩
  by_cases hlt : i < n
  · refine .inr ⟨hlt, Pv (i + 1), fun σ' H' p' => ⟨n - (i + 1), by omega, rfl, hlt, p'⟩, fun x H' y => ?_⟩
    obtain ⟨e, y⟩ := y
    subst e y
    exact hs i σ _ hlt p
  · have e : i = n := by omega
    subst e
    exact .inl ⟨Nat.le_refl _, hd σ H p⟩
end L2

namespace L2
open PySem PySem.Spec PyProof.Rows

abbrev R2 := V → V → Hp → VK → Prop
/-- a two-place operation on values: f is binaryOp op, inplaceOp op or compareOp op -/
def OpR (X : Cx) (f : Value → Value → Sem Value) (r : R2) : Prop :=
  ∀ (pins : List (Addr × Obj)) (s : Shared) (σ : St) (H : Hp) (x y : V) (v u : Value) (Q : VK), Inv X pins σ H s → RelV x v → RelV y u → r x y H Q →
    wpAny (model X.prog X.w) X.A (f v u) (EP X pins σ Q) X.xe s
/-- a one-place operation -/
def UnR (X : Cx) (f : Value → Sem Value) (r : V → Hp → VK → Prop) : Prop :=
  ∀ (pins : List (Addr × Obj)) (s : Shared) (σ : St) (H : Hp) (x : V) (v : Value) (Q : VK), Inv X pins σ H s → RelV x v → r x H Q →
    wpAny (model X.prog X.w) X.A (f v) (EP X pins σ Q) X.xe s
/-- a call of a value that is known (a builtin, a type) with values -/
def CallR (X : Cx) (f : Value) (r : List V → Hp → VK → Prop) : Prop :=
  ∀ (pins : List (Addr × Obj)) (s : Shared) (σ : St) (H : Hp) (xs : List V) (us : List Value) (Q : VK), Inv X pins σ H s → Vals xs us → r xs H Q →
    wpAny (model X.prog X.w) X.A (call f us) (EP X pins σ Q) X.xe s
/-- a value's truth -/
def TruR (X : Cx) (r : V → Hp → (Bool → Hp → Prop) → Prop) : Prop :=
  ∀ (pins : List (Addr × Obj)) (s : Shared) (σ : St) (H : Hp) (x : V) (v : Value) (Q : Bool → Hp → Prop), Inv X pins σ H s → RelV x v → r x H Q →
    wpAny (model X.prog X.w) X.A (truthy v) (TP X pins σ Q) X.xe s

def tOp (r : R2) (ta tb : TE) : TE := fun σ H Q => ta σ H fun x H1 => tb σ H1 fun y H2 => r x y H2 Q
def tUn (r : V → Hp → VK → Prop) (ta : TE) : TE := fun σ H Q => ta σ H fun x H1 => r x H1 Q
/-- ints in, under C, and a value out -/
def rI (C : Int → Int → Prop) (g : Int → Int → V) : R2 := fun x y H Q => ∃ i j, x = .int i ∧ y = .int j ∧ C i j ∧ Q (g i j) H
def rI0 (g : Int → Int → V) : R2 := fun x y H Q => ∃ i j, x = .int i ∧ y = .int j ∧ Q (g i j) H
def rU (g : Int → V) : V → Hp → VK → Prop := fun x H Q => ∃ i, x = .int i ∧ Q (g i) H

section
variable {X : Cx} {a b c : Expr} {ta tb tc : TE} {pos : Pos}

theorem binT (ha : PE X a ta) (hb : PE X b tb) {pins : List (Addr × Obj)} {s : Shared} {σ : St} {H : Hp} {R : V → V → Hp → Prop} (I : Inv X pins σ H s)
    (h : ta σ H fun x H1 => tb σ H1 fun y H2 => R x y H2) {Q : Value → Shared → Prop} {f : Value → Value → Sem Value}
    (hf : ∀ v u s2 x y H2, Inv X pins σ H2 s2 → RelV x v → RelV y u → R x y H2 → wpAny (model X.prog X.w) X.A (f v u) Q X.xe s2) :
    wpAny (model X.prog X.w) X.A (eval a X.env) (fun v s₁ => wpAny (model X.prog X.w) X.A (eval b X.env) (fun u s₂ => wpAny (model X.prog X.w) X.A (f v u) Q X.xe s₂) X.xe s₁) X.xe s := by
  refine thn (ha pins s σ H _ I h) fun v s1 ⟨x, H1, I1, r1, q1⟩ => ?_
  refine thn (hb pins s1 σ H1 _ I1 q1) fun u s2 ⟨y, H2, I2, r2, q2⟩ => ?_
  exact hf v u s2 x y H2 I2 r1 r2 q2

theorem pe_op {op : Operator} {r : R2} (ho : OpR X (binaryOp op) r) (ha : PE X a ta) (hb : PE X b tb) : PE X (.BinOp a op b pos) (tOp r ta tb) := by
  intro pins s σ H Q I h
  exact wpAny_BinOp (binT ha hb I h fun v u s2 x y H2 I2 rx ry q => ho pins s2 σ H2 x y v u Q I2 rx ry q)
theorem pe_un {op : UnaryOp} {r : V → Hp → VK → Prop} (ho : UnR X (unaryOp op) r) (ha : PE X a ta) : PE X (.UnaryOp op a pos) (tUn r ta) := by
  intro pins s σ H Q I h
  exact UnaryOp_ (thn (ha pins s σ H _ I h) fun v s1 ⟨x, H1, I1, r1, q1⟩ => ho pins s1 σ H1 x v Q I1 r1 q1)
/-! ### ints -/
theorem opI {f : Value → Value → Sem Value} {C : Int → Int → Prop} {g : Int → Int → Int}
    (rule : ∀ (i j : Int) (t u : Tok) (s : Shared) (Q : Value → Shared → Prop) (E : Value → Shared → Prop), C i j → Q (.int (g i j) s.toks) { s with toks := s.toks + 1 } → wpAny (model X.prog X.w) X.A (f (.int i t) (.int j u)) Q E s) :
    OpR X f (rI C fun i j => .int (g i j)) := by
  intro pins s σ H x y v u Q I rx ry h
  obtain ⟨i, j, rfl, rfl, hc, q⟩ := h
  obtain ⟨t, rfl⟩ := rx
  obtain ⟨t', rfl⟩ := ry
  exact rule i j t t' s _ _ hc ⟨.int (g i j), H, I.tok _, ⟨_, rfl⟩, q⟩
theorem opI0 {f : Value → Value → Sem Value} {g : Int → Int → Int}
    (rule : ∀ (i j : Int) (t u : Tok) (s : Shared) (Q : Value → Shared → Prop) (E : Value → Shared → Prop), Q (.int (g i j) s.toks) { s with toks := s.toks + 1 } → wpAny (model X.prog X.w) X.A (f (.int i t) (.int j u)) Q E s) :
    OpR X f (rI0 fun i j => .int (g i j)) := by
  intro pins s σ H x y v u Q I rx ry h
  obtain ⟨i, j, rfl, rfl, q⟩ := h
  obtain ⟨t, rfl⟩ := rx
  obtain ⟨t', rfl⟩ := ry
  exact rule i j t t' s _ _ ⟨.int (g i j), H, I.tok _, ⟨_, rfl⟩, q⟩
theorem opB0 {f : Value → Value → Sem Value} {g : Int → Int → Bool}
    (rule : ∀ (i j : Int) (t u : Tok) (s : Shared) (Q : Value → Shared → Prop) (E : Value → Shared → Prop), Q (.bool (g i j)) s → wpAny (model X.prog X.w) X.A (f (.int i t) (.int j u)) Q E s) :
    OpR X f (rI0 fun i j => .bl (g i j)) := by
  intro pins s σ H x y v u Q I rx ry h
  obtain ⟨i, j, rfl, rfl, q⟩ := h
  obtain ⟨t, rfl⟩ := rx
  obtain ⟨t', rfl⟩ := ry
  exact rule i j t t' s _ _ ⟨.bl (g i j), H, I, rfl, q⟩

def CDiv (i j : Int) : Prop := 0 < j ∧ j < 1073741824
def CDivN (i j : Int) : Prop := j ≠ 0 ∧ j.natAbs < 1073741824
def CPow (i j : Int) : Prop := 0 ≤ j ∧ j ≤ 1000000 ∧ i.natAbs < 2 ^ 64
def CMul (i j : Int) : Prop := (-(2 ^ 64) < i ∧ i < 2 ^ 64) ∨ (-(2 ^ 64) < j ∧ j < 2 ^ 64)
theorem CMul.ok {i j : Int} (h : CMul i j) : IntMulOk i j := by
  rcases h with ⟨h1, h2⟩ | ⟨h1, h2⟩
  · exact .of_left (intBits_le_64 h1 h2)
  · exact .of_right (intBits_le_64 h1 h2)
theorem op_add : OpR X (binaryOp .Add) (rI0 fun i j => .int (i + j)) := opI0 fun _ _ _ _ _ _ _ q => add_int q
theorem op_sub : OpR X (binaryOp .Sub) (rI0 fun i j => .int (i - j)) := opI0 fun _ _ _ _ _ _ _ q => sub_int q
theorem op_mul : OpR X (binaryOp .Mult) (rI CMul fun i j => .int (i * j)) := opI fun _ _ _ _ _ _ _ hc q => mul_int q hc.ok
/-- % by a positive divisor of any size -/
theorem op_mod : OpR X (binaryOp .Mod) (rI (fun _ j => 0 < j) fun i j => .int (i % j)) := opI fun i j _ _ _ _ _ hc q => by
  have h1 : (0 : Int) < j := hc
  exact mod_int' (by omega) (by rw [Int.fmod_eq_emod_of_nonneg i (by omega)]; exact q)
theorem op_pow : OpR X (binaryOp .Pow) (rI CPow fun i j => .int (i ^ j.toNat)) := opI fun _ _ _ _ _ _ _ hc q => pow_int_small hc.1 hc.2.1 hc.2.2 q
theorem op_shl : OpR X (binaryOp .LShift) (rI CPow fun i j => .int (i * 2 ^ j.toNat)) := opI fun _ _ _ _ _ _ _ hc q => lshift_int_small hc.1 hc.2.1 hc.2.2 q
theorem unI {f : Value → Sem Value} {g : Int → Int}
    (rule : ∀ (i : Int) (t : Tok) (s : Shared) (Q : Value → Shared → Prop) (E : Value → Shared → Prop), Q (.int (g i) s.toks) { s with toks := s.toks + 1 } → wpAny (model X.prog X.w) X.A (f (.int i t)) Q E s) :
    UnR X f (rU fun i => .int (g i)) := by
  intro pins s σ H x v Q I rx h
  obtain ⟨i, rfl, q⟩ := h
  obtain ⟨t, rfl⟩ := rx
  exact rule i t s _ _ ⟨.int (g i), H, I.tok _, ⟨_, rfl⟩, q⟩
theorem un_neg : UnR X (unaryOp .USub) (rU fun i => .int (-i)) := unI fun _ _ _ _ _ q => neg_int q
/-! ### bools among ints: n += (a < b) -/
end

/-! ### comparisons -/
/-- the scalars that == tells apart as data does -/
def scal : V → V → Bool
  | .non, .non => true | .non, .int _ => true | .int _, .non => true | .non, .bl _ => true | .bl _, .non => true | .non, .str _ => true | .str _, .non => true
  | .int _, .int _ => true | .bl _, .bl _ => true | .str _, .str _ => true | .byt _, .byt _ => true
  | .int _, .str _ => true | .str _, .int _ => true | .bl _, .str _ => true | .str _, .bl _ => true
  | _, _ => false
def rEq : R2 := fun x y H Q => scal x y = true ∧ Q (.bl (decide (x = y))) H
def rNe : R2 := fun x y H Q => scal x y = true ∧ Q (.bl (!decide (x = y))) H

theorem dec_int {i j : Int} : decide (V.int i = V.int j) = (i == j) := by
  rw [Bool.eq_iff_iff]
  simp
theorem dec_bl {i j : Bool} : decide (V.bl i = V.bl j) = (i == j) := by
  rw [Bool.eq_iff_iff]
  simp
theorem dec_str {i j : Str} : decide (V.str i = V.str j) = (i == j) := by
  rw [Bool.eq_iff_iff]
  simp
theorem dec_byt {i j : Array UInt8} : decide (V.byt i = V.byt j) = (i.toList == j.toList) := by
  rw [Bool.eq_iff_iff]
  cases i
  cases j
  simp

section
variable {X : Cx} {a b c : Expr} {ta tb tc : TE} {pos : Pos}
theorem fin_bl {pins : List (Addr × Obj)} {σ : St} {H : Hp} {s : Shared} {Q : VK} {k k' : Bool} (I : Inv X pins σ H s) (q : Q (.bl k) H) (e : k = k') : EP X pins σ Q (.bool k') s := by
  subst e
  exact ⟨.bl k, H, I, rfl, q⟩
theorem op_eq : OpR X (compareOp .Eq) rEq := by
  intro pins s σ H x y v u Q I rx ry h
  obtain ⟨hs, q⟩ := h
  cases x with
  | non =>
    cases rx
    cases y with
    | non => cases ry; exact PySem.EqNone.eq_none_none (fin_bl I q (by simp))
    | bl j => cases ry; exact PySem.EqNone.eq_none_bool (fin_bl I q (by simp))
    | int j => obtain ⟨t', rfl⟩ := ry; exact PySem.EqNone.eq_none_int (fin_bl I q (by simp))
    | str j => obtain ⟨t', rfl⟩ := ry; exact PySem.EqNone.eq_none_str (fin_bl I q (by simp))
    | _ => exact absurd (show false = true from hs) Bool.false_ne_true
  | bl i =>
    cases rx
    cases y with
    | non => cases ry; exact PySem.EqNone.eq_bool_none (fin_bl I q (by simp))
    | bl j => cases ry; exact eq_bool (fin_bl I q dec_bl)
    | str j => obtain ⟨t', rfl⟩ := ry; exact PySem.EqMixed.eq_bool_str (fin_bl I q (by simp))
    | _ => exact absurd (show false = true from hs) Bool.false_ne_true
  | int i =>
    obtain ⟨t, rfl⟩ := rx
    cases y with
    | non => cases ry; exact PySem.EqNone.eq_int_none (fin_bl I q (by simp))
    | int j => obtain ⟨t', rfl⟩ := ry; exact eq_int (fin_bl I q dec_int)
    | str j => obtain ⟨t', rfl⟩ := ry; exact PySem.EqMixed.eq_int_str (fin_bl I q (by simp))
    | _ => exact absurd (show false = true from hs) Bool.false_ne_true
  | str i =>
    obtain ⟨t, rfl⟩ := rx
    cases y with
    | non => cases ry; exact PySem.EqNone.eq_str_none (fin_bl I q (by simp))
    | bl j => cases ry; exact PySem.EqMixed.eq_str_bool (fin_bl I q (by simp))
    | int j => obtain ⟨t', rfl⟩ := ry; exact PySem.EqMixed.eq_str_int (fin_bl I q (by simp))
    | str j => obtain ⟨t', rfl⟩ := ry; exact eq_str (fin_bl I q dec_str)
    | _ => exact absurd (show false = true from hs) Bool.false_ne_true
  | byt i =>
    obtain ⟨t, rfl⟩ := rx
    cases y with
    | byt j => obtain ⟨t', rfl⟩ := ry; exact PySem.W.eq_bytes (fin_bl I q dec_byt)
    | _ => exact absurd (show false = true from hs) Bool.false_ne_true
  | _ => cases y <;> exact absurd (show false = true from hs) Bool.false_ne_true
theorem op_ne : OpR X (compareOp .NotEq) rNe := by
  intro pins s σ H x y v u Q I rx ry h
  obtain ⟨hs, q⟩ := h
  cases x with
  | non =>
    cases rx
    cases y with
    | non => cases ry; exact PySem.EqNone.ne_none_none (fin_bl I q (by simp))
    | bl j => cases ry; exact PySem.EqNone.ne_none_bool (fin_bl I q (by simp))
    | int j => obtain ⟨t', rfl⟩ := ry; exact PySem.EqNone.ne_none_int (fin_bl I q (by simp))
    | str j => obtain ⟨t', rfl⟩ := ry; exact PySem.EqNone.ne_none_str (fin_bl I q (by simp))
    | _ => exact absurd (show false = true from hs) Bool.false_ne_true
  | bl i =>
    cases rx
    cases y with
    | non => cases ry; exact PySem.EqNone.ne_bool_none (fin_bl I q (by simp))
    | bl j => cases ry; exact ne_bool (fin_bl I q (congrArg not dec_bl))
    | str j => obtain ⟨t', rfl⟩ := ry; exact PySem.EqMixed.ne_bool_str (fin_bl I q (by simp))
    | _ => exact absurd (show false = true from hs) Bool.false_ne_true
  | int i =>
    obtain ⟨t, rfl⟩ := rx
    cases y with
    | non => cases ry; exact PySem.EqNone.ne_int_none (fin_bl I q (by simp))
    | int j => obtain ⟨t', rfl⟩ := ry; exact ne_int (fin_bl I q (congrArg not dec_int))
    | str j => obtain ⟨t', rfl⟩ := ry; exact PySem.EqMixed.ne_int_str (fin_bl I q (by simp))
    | _ => exact absurd (show false = true from hs) Bool.false_ne_true
  | str i =>
    obtain ⟨t, rfl⟩ := rx
    cases y with
    | non => cases ry; exact PySem.EqNone.ne_str_none (fin_bl I q (by simp))
    | bl j => cases ry; exact PySem.EqMixed.ne_str_bool (fin_bl I q (by simp))
    | int j => obtain ⟨t', rfl⟩ := ry; exact PySem.EqMixed.ne_str_int (fin_bl I q (by simp))
    | str j => obtain ⟨t', rfl⟩ := ry; exact ne_str (fin_bl I q (congrArg not dec_str))
    | _ => exact absurd (show false = true from hs) Bool.false_ne_true
  | byt i =>
    obtain ⟨t, rfl⟩ := rx
    cases y with
    | byt j => obtain ⟨t', rfl⟩ := ry; exact PySem.W.ne_bytes (fin_bl I q (congrArg not dec_byt))
    | _ => exact absurd (show false = true from hs) Bool.false_ne_true
  | _ => cases y <;> exact absurd (show false = true from hs) Bool.false_ne_true

theorem op_lt : OpR X (compareOp .Lt) (rI0 fun i j => .bl (decide (i < j))) := opB0 fun _ _ _ _ _ _ _ q => lt_int q
theorem op_le : OpR X (compareOp .LtE) (rI0 fun i j => .bl (decide (i ≤ j))) := opB0 fun _ _ _ _ _ _ _ q => le_int q
theorem op_gt : OpR X (compareOp .Gt) (rI0 fun i j => .bl (decide (j < i))) := opB0 fun _ _ _ _ _ _ _ q => gt_int q
theorem op_ge : OpR X (compareOp .GtE) (rI0 fun i j => .bl (decide (j ≤ i))) := opB0 fun _ _ _ _ _ _ _ q => ge_int q
/-- is, is not of two objects that are tracked lists or instances -/
def isObj : HO → Bool
  | .lst _ => true
  | .ins _ _ _ => true
  | _ => false
theorem obj_there {pins : List (Addr × Obj)} {s : Shared} {σ : St} {H : Hp} {a : Addr} {o : HO} (I : Inv X pins σ H s) (h : H a = some o) (p : isObj o = true) : ∃ ob, s.heap.get? a = some ob ∧ ob.cls ≠ .type "tuple" := by
  cases o with
  | lst xs =>
    obtain ⟨_, its, n, _, e⟩ : xs.length ≤ sizeLine ∧ ∃ (its : List Value) (n : Nat), Vals xs its ∧ s.heap.get? a = some { cls := .type "list", data := .seq its.toArray n } := I.hok a _ h
    exact ⟨_, e, (by show Value.type "list" ≠ .type "tuple"; decide +kernel)⟩
  | ins C dx fs =>
    have x := I.hok a _ h
    obtain ⟨_, _, _, e, _⟩ := x
    exact ⟨_, e, (by show Value.ref C ≠ .type "tuple"; exact fun z => by cases z)⟩
  | _ => exact absurd (show false = true from p) Bool.false_ne_true
/-- two rules for one operation: by cases -/
theorem OpR.or {f : Value → Value → Sem Value} {r r' : R2} (h : OpR X f r) (h' : OpR X f r') : OpR X f (fun x y H Q => r x y H Q ∨ r' x y H Q) := by
  intro pins s σ H x y v u Q I rx ry q
  rcases q with q | q
  · exact h pins s σ H x y v u Q I rx ry q
  · exact h' pins s σ H x y v u Q I rx ry q

theorem nomark (b : Expr) {op : CmpOp} (h : op ≠ .In := by decide) (h2 : op ≠ .NotIn := by decide) : behindInMarks op b = false := by
  have e1 : (op == CmpOp.In) = false := by cases op <;> first | rfl | exact absurd rfl h
  have e2 : (op == CmpOp.NotIn) = false := by cases op <;> first | rfl | exact absurd rfl h2
  cases b <;> simp [behindInMarks, e1, e2]
/-- a comparison as a value; hm: nomark b, or (for in, not in) by with_unfolding_all rfl -/
theorem pe_cmpR {op : CmpOp} {r : R2} (ho : OpR X (compareOp op) r) (ha : PE X a ta) (hb : PE X b tb) (hm : behindInMarks op b = false) : PE X (.Compare a [op] [b] pos) (tOp r ta tb) := by
  intro pins s σ H Q I h
  exact wpAny_Compare1 (binT ha hb I h fun v u s2 x y H2 I2 rx ry q => ho pins s2 σ H2 x y v u Q I2 rx ry q) hm
/-- a reading of a value as a test -/
def tTest (t : TE) : TT := fun σ H Q => t σ H fun x H' => ∃ k, x = .bl k ∧ Q k H'
theorem pt_cmpR {op : CmpOp} {r : R2} (ho : OpR X (compareOp op) r) (ha : PE X a ta) (hb : PE X b tb) (hm : behindInMarks op b = false) : PT X (.Compare a [op] [b] pos) (tTest (tOp r ta tb)) := by
  intro pins s σ H Q I h
  refine wpAny_isTrue_Compare1 (thn (ha pins s σ H _ I h) fun v s1 ⟨x, H1, I1, r1, q1⟩ => thn (hb pins s1 σ H1 _ I1 q1) fun u s2 ⟨y, H2, I2, r2, q2⟩ =>
    thn (ho pins s2 σ H2 x y v u _ I2 r1 r2 q2) fun c s3 ⟨z, H3, I3, r3, k, e, q3⟩ => ?_) hm
  subst e
  cases r3
  exact wpAny_truthy_bool ⟨H3, I3, q3⟩
/-- a op1 b op2 c -/
def tChain (r r' : R2) (ta tb tc : TE) : TE := fun σ H Q => ta σ H fun x H1 => tb σ H1 fun y H2 => r x y H2 fun z H3 => ∃ k, z = .bl k ∧
  (if k = true then tc σ H3 fun w' H4 => r' y w' H4 Q else Q (.bl false) H3)
theorem pe_chain {op op' : CmpOp} {r r' : R2} (ho : OpR X (compareOp op) r) (ho' : OpR X (compareOp op') r') (ha : PE X a ta) (hb : PE X b tb) (hc : PE X c tc)
    (hm : lastMarks [op, op'] [b, c] = false := by with_unfolding_all rfl) : PE X (.Compare a [op, op'] [b, c] pos) (tChain r r' ta tb tc) := by
  intro pins s σ H Q I h
  refine Compare_chain (thn (ha pins s σ H _ I h) fun v s1 ⟨x, H1, I1, r1, q1⟩ => chain_link (thn (hb pins s1 σ H1 _ I1 q1) fun u s2 ⟨y, H2, I2, r2, q2⟩ =>
    thn (ho pins s2 σ H2 x y v u _ I2 r1 r2 q2) fun d s3 ⟨z, H3, I3, r3, k, e, q3⟩ => ?_)) hm
  subst e
  cases r3
  refine wpAny_truthy_bool ?_
  cases k with
  | false => exact ite_ff ⟨.bl false, H3, I3, rfl, q3⟩
  | true => exact ite_tt (chain_last (thn (hc pins s3 σ H3 _ I3 q3) fun w' s4 ⟨z', H4, I4, r4, q4⟩ => ho' pins s4 σ H4 y z' u w' Q I4 r2 r4 q4))
/-! ### truth -/
/-- a value's truth by the abstract heap -/
def TruV (K : PySem.W.Frag) (x : V) (H : Hp) (k : Bool) : Prop :=
  match x with
  | .non => k = false
  | .bl b => k = b
  | .int i => k = (i != 0)
  | .str y => y.length ≤ sizeLine ∧ k = ((y.length : Int) != 0)
  | .byt y => y.size ≤ sizeLine ∧ k = ((y.size : Int) != 0)
  | .ref p => (∃ xs, SqL K H p xs ∧ k = !xs.isEmpty) ∨ (∃ xs, SqT K H p xs ∧ k = !xs.isEmpty) ∨ ∃ kvs, H p = some (.dK kvs) ∧ k = !kvs.isEmpty
  | _ => False
theorem line63 : (sizeLine : Nat) < 2 ^ 63 := by rw [sizeLine_eq]; decide
/-! ### strs and bytes -/
theorem op_add_str : OpR X (binaryOp .Add) (fun x y H Q => ∃ i j, x = .str i ∧ y = .str j ∧ i.length + j.length ≤ sizeLine ∧ Q (.str (i ++ j)) H) := by
  intro pins s σ H x y v u Q I rx ry h
  obtain ⟨i, j, rfl, rfl, hz, q⟩ := h
  obtain ⟨t, rfl⟩ := rx
  obtain ⟨t', rfl⟩ := ry
  exact add_str (fun t' tk => ⟨.str (i ++ j), H, I.tok _, ⟨_, rfl⟩, q⟩) hz
def PlainIxT (b : Expr) : Prop := ∀ o i, subscripted b false o i = operate [o, i] (getItem o i)
/-! ### scalar builtins, by CallR -/
theorem vals1 {x : V} {us : List Value} (r : Vals [x] us) : ∃ u, us = [u] ∧ RelV x u := by
  cases r with
  | cons r1 r2 => cases r2; exact ⟨_, rfl, r1⟩
theorem vals2 {x y : V} {us : List Value} (r : Vals [x, y] us) : ∃ u w', us = [u, w'] ∧ RelV x u ∧ RelV y w' := by
  cases r with
  | cons r1 r2 =>
    cases r2 with
    | cons r3 r4 => cases r4; exact ⟨_, _, rfl, r1, r3⟩
theorem call_min2 (hc : X.calm = true) : CallR X (.builtin "min") (fun xs H Q => ∃ i j, xs = [.int i, .int j] ∧ Q (.int (if j < i then j else i)) H) := by
  intro pins s σ H xs us Q I r h
  obtain ⟨i, j, rfl, q⟩ := h
  obtain ⟨u, w', rfl, ⟨t, rfl⟩, ⟨t', rfl⟩⟩ := vals2 r
  refine min_two_ints (I.ok.hd hc) fun h' tk k => ⟨_, H, I.kept k, ?_, q⟩
  by_cases hj : j < i
  · rw [if_pos hj, if_pos hj]; exact ⟨_, rfl⟩
  · rw [if_neg hj, if_neg hj]; exact ⟨_, rfl⟩
/-- len of a str, a bytes, a list, a tuple -/
def LenV (K : PySem.W.Frag) (x : V) (H : Hp) (n : Nat) : Prop :=
  match x with
  | .str y => y.length ≤ sizeLine ∧ n = y.length
  | .byt y => y.size ≤ sizeLine ∧ n = y.size
  | .ref p => (∃ xs, SqL K H p xs ∧ n = xs.length) ∨ ∃ xs, SqT K H p xs ∧ n = xs.length
  | _ => False
end
end L2

namespace L2
open PySem PySem.Spec PyProof.Rows

/-! ### an instance, its attributes a map -/
structure ObjM (h : Heap) (x dx C : Addr) (mA : Str → Option Value) : Prop where
  obj : h.get? x = some (PySem.W.instObj C dx)
  ns : h.Ns1 dx mA
  ne : dx ≠ x

theorem lookIn_ns {h : Heap} {dx : Addr} {mA : Str → Option Value} (n : h.Ns1 dx mA) : ∃ od, h.get? dx = some od ∧ ∀ name, PySem.W.lookIn name od = some (mA name) := by
  obtain ⟨o, es, ep, ho, hd, hk, _, hm⟩ := n
  refine ⟨o, ho, fun name => ?_⟩
  have e := hm name
  unfold nsFind findBy at e
  rw [← Array.find?_toList] at e
  unfold PySem.W.lookIn
  rw [hd]
  dsimp only
  split
  · rename_i y q
    rw [q] at e
    exact congrArg some e
  · rename_i q
    rw [q] at e
    have a : es.toList.any (·.refKey) = false := by
      rw [List.any_eq_false]
      intro y hy
      obtain ⟨z, t, hkey⟩ := hk y (Array.mem_toList_iff.mp hy)
      simp [DictEntry.refKey, hkey]
    have a' : ¬ es.toList.any (·.refKey) = true := by rw [a]; exact Bool.false_ne_true
    rw [if_neg a']
    exact congrArg some e

theorem ObjM.look {h : Heap} {x dx C : Addr} {mA : Str → Option Value} (I : ObjM h x dx C mA) : ∃ od, PySem.W.InstAt h x (PySem.W.instObj C dx) C (some od) ∧ ∀ name, PySem.W.lookIn name od = some (mA name) :=
  let ⟨od, ho, hl⟩ := lookIn_ns I.ns
  ⟨od, ⟨I.obj, rfl, rfl, ho⟩, hl⟩

section
variable {prog : Program} {w : World} {A : Around} {E : Value → Shared → Prop} {s : Shared} {K : PySem.W.Frag} {x dx C f : Addr} {mA : Str → Option Value} {name : Str} {v : Value}

end

/-! ### the attributes as a list of pairs -/
def putF (f : Str) (v : V) : List (Str × V) → List (Str × V)
  | [] => [(f, v)]
  | (g, x) :: r => if g = f then (g, v) :: r else (g, x) :: putF f v r
theorem RelO.some_of {v : V} {o : Option Value} (r : RelO (some v) o) : ∃ u, o = some u ∧ RelV v u := by
  cases o with
  | none => exact (show False from r).elim
  | some u => exact ⟨u, rfl, r⟩
theorem RelO.none_of {o : Option Value} (r : RelO none o) : o = none := by
  cases o with
  | none => rfl
  | some u => exact (show False from r).elim
theorem handed_of {v : V} {u : Value} (r : RelV v u) : PySem.W.handedIn u = true := by
  cases v with
  | non => cases (show u = Value.none from r); rfl
  | bl b => cases (show u = Value.bool b from r); rfl
  | int i => obtain ⟨t, e⟩ := (show ∃ t, u = Value.int i t from r); cases e; rfl
  | str x => obtain ⟨t, e⟩ := (show ∃ t, u = Value.str x t from r); cases e; rfl
  | byt b => obtain ⟨t, e⟩ := (show ∃ t, u = Value.bytes b t from r); cases e; rfl
  | flt b => obtain ⟨t, e⟩ := (show ∃ t, u = Value.float b t from r); cases e; rfl
  | ref a => cases (show u = Value.ref a from r); rfl
  | ty n => cases (show u = Value.type n from r); rfl

section
variable {P : Program} {w : World} {H H' : Hp} {h h' : Heap} {a C dx : Addr} {fs fs' : List (Str × V)}
theorem ins_get (hok : HOk P w H h) (e : H a = some (.ins C dx fs)) : ∃ mA, ObjM h a dx C mA ∧ (∀ f, RelO (fs.lookup f) (mA f)) ∧ PySem.Within mA (fs.map (·.1)) ∧ fs.length ≤ 1000 ∧ H dx = some (.own a) := by
  obtain ⟨d, z, ne, ob, mA, n, r, q⟩ := (show ObjOk P w H h a (.ins C dx fs) from hok a _ e)
  exact ⟨mA, ⟨ob, n, ne⟩, r, q, z, d⟩
end

/-! ### what of the text a class must have -/
structure Cls (K : PySem.W.Frag) (C : Addr) : Prop where
  pg : PySem.W.plainGet K C Str.empty = true
  hd : PySem.W.hasDictIn K C = true
  po : PySem.W.plainOver K C = true
  sa : PySem.W.findIn K (.ref C) "__setattr__" = some (some (.builtin "object.__setattr__"))
theorem Cls.get {K : PySem.W.Frag} {C : Addr} (c : Cls K C) (f : Str) : PySem.W.plainGet K C f = true := c.pg
/-- no class of it has the name -/
def NoAttr (K : PySem.W.Frag) (C : Addr) (f : Str) : Prop := PySem.W.findIn K (.ref C) f = some none
/-- a constant of the class -/
structure Con (K : PySem.W.Frag) (C : Addr) (f : Str) (v : V) (u : Value) : Prop where
  at_ : PySem.W.findIn K (.ref C) f = some (some u)
  rel : RelV v u
  get : PySem.W.specialIn K u "__get__" = some none
  cp : PySem.W.copiedNames.contains f = false
/-- a method: a plain def of the class or of one above it -/
structure Meth (K : PySem.W.Frag) (C : Addr) (m : Str) (f : Addr) : Prop where
  at_ : PySem.W.findIn K (.ref C) m = some (some (.ref f))
  fn : PySem.W.isFn K (.ref f) = true
  kp : PySem.W.keepIn K (.ref f) = true

section
variable {X : Cx} {pins : List (Addr × Obj)} {σ : St} {H : Hp} {s : Shared} {a C dx : Addr} {fs : List (Str × V)} {f : Str} {v : V} {A : Around} {E : Value → Shared → Prop}

/-- a new instance, tracked, without attributes -/
theorem Inv.made (I : Inv X pins σ H s) : Inv X pins σ (upd (upd H s.heap.objs.size (.own (s.heap.objs.size + 1))) (s.heap.objs.size + 1) (.ins C s.heap.objs.size []))
    { s with heap := (s.heap.push PySem.W.emptyDict).push (PySem.W.instObj C s.heap.objs.size) } := by
  have e1 : (s.heap.push PySem.W.emptyDict).get? s.heap.objs.size = some PySem.W.emptyDict := Heap.get?_push_size s.heap rfl
  have e2 : ((s.heap.push PySem.W.emptyDict).push (PySem.W.instObj C s.heap.objs.size)).get? (s.heap.objs.size + 1) = some (PySem.W.instObj C s.heap.objs.size) := by
    have := Heap.get?_push_size (s.heap.push PySem.W.emptyDict) (o := PySem.W.instObj C s.heap.objs.size) rfl
    rwa [Heap.size_push] at this
  have e3 : (s.heap.push PySem.W.emptyDict).Ns s.heap.objs.size (fun _ => none) := ⟨PySem.W.emptyDict, #[], _, e1, rfl, (fun e he => absurd he (by simp)), fun _ => rfl⟩
  have I1 := I.laid (a := s.heap.objs.size) (o := .own (s.heap.objs.size + 1)) (h' := s.heap.push PySem.W.emptyDict) (t' := s.toks) (fun b u q => Heap.get?_push_of_some _ q) (Nat.le_refl _) ⟨_, e1⟩
  refine I1.laid (a := s.heap.objs.size + 1) (o := .ins C s.heap.objs.size []) (t' := s.toks) (fun b u q => Heap.get?_push_of_some _ q) (Nat.le_of_eq (Heap.size_push _ _)) ?_
  have ne : s.heap.objs.size ≠ s.heap.objs.size + 1 := Nat.ne_of_lt (Nat.lt_succ_self _)
  refine ⟨by rw [upd_ne ne, upd_same], Nat.zero_le _, ne, e2, fun _ => none, (Heap.Ns1.of_empty e3).at fun o q => Heap.get?_push_of_some _ q, fun _ => True.intro, fun y hy => absurd rfl hy⟩

/-- e.f where nothing but the object is asked: through attributeBase (super) and the last hold -/
theorem attr_of {prog : Program} {w : World} {env : Env} {e : Expr} {f : Str} {pos : Pos} {s : Shared} {Q : Value → Shared → Prop} (hb : attributeBase e f env (eval e env) = eval e env)
    (h : wpAny (model prog w) A (eval e env) (fun o s₁ => wpAny (model prog w) A (getAttr o f true) Q E s₁) E s) : wpAny (model prog w) A (eval (.Attribute e f pos) env) Q E s :=
  Attribute_any_ h (by rw [arm_eval_Attribute, hb])
end

/-! ### readings and rules -/
/-- e.f, an attribute of the instance -/
def tFld (K : PySem.W.Frag) (ta : TE) (f : Str) : TE := fun σ H Q => ta σ H fun x H1 => ∃ a C dx fs v, x = .ref a ∧ H1 a = some (.ins C dx fs) ∧ Cls K C ∧ NoAttr K C f ∧ fs.lookup f = some v ∧ Q v H1
/-- e.f, a constant of the class -/
def tCon (K : PySem.W.Frag) (ta : TE) (f : Str) : TE := fun σ H Q => ta σ H fun x H1 => ∃ a C dx fs v u, x = .ref a ∧ H1 a = some (.ins C dx fs) ∧ Cls K C ∧ Con K C f v u ∧ fs.lookup f = none ∧ Q v H1
/-- e.f = value -/
def sFld (K : PySem.W.Frag) (ta tv : TE) (f : Str) : TS := fun D σ H => tv σ H fun y H1 => ta σ H1 fun x H2 => ∃ a C dx fs, x = .ref a ∧ H2 a = some (.ins C dx fs) ∧ Cls K C ∧ NoAttr K C f ∧ fs.length < 1000 ∧
  D.nx σ (upd H2 a (.ins C dx (putF f y fs)))
/-- an augmented operator on two values -/
def InOp (X : Cx) (op : Operator) (rd : V → V → Hp → VK → Prop) : Prop :=
  ∀ (pins : List (Addr × Obj)) (s : Shared) (σ : St) (H : Hp) (x y : V) (u v : Value) (Q : VK), Inv X pins σ H s → RelV x u → RelV y v → rd x y H Q → wpAny (model X.prog X.w) X.A (inplaceOp op u v) (EP X pins σ Q) X.xe s
/-- e.f op= value -/
def sFldAug (K : PySem.W.Frag) (ta tv : TE) (rd : V → V → Hp → VK → Prop) (f : Str) : TS := fun D σ H => ta σ H fun x H1 => ∃ a C dx fs v, x = .ref a ∧ H1 a = some (.ins C dx fs) ∧ Cls K C ∧ NoAttr K C f ∧ fs.lookup f = some v ∧
  tv σ H1 fun y H2 => rd v y H2 fun z H3 => ∃ dx' fs', H3 a = some (.ins C dx' fs') ∧ fs'.length < 1000 ∧ D.nx σ (upd H3 a (.ins C dx' (putF f z fs')))

section
variable {X : Cx} {o e value : Expr} {f : Str} {pos pos' tpos : Pos} {ta tv : TE}
def rAdd : V → V → Hp → VK → Prop := fun x y H Q => ∃ i j, x = .int i ∧ y = .int j ∧ Q (.int (i + j)) H
def rSub : V → V → Hp → VK → Prop := fun x y H Q => ∃ i j, x = .int i ∧ y = .int j ∧ Q (.int (i - j)) H
end

/-! ### isinstance -/
section
variable {X : Cx} {pins : List (Addr × Obj)} {σ : St} {H : Hp} {s : Shared} {A : Around} {E : Value → Shared → Prop} {Q : Value → Shared → Prop} {c : Value} {b : Bool}
/-- the type of a value, as the fragment's deciders take it; for an instance its class -/
inductive TyOf (K : PySem.W.Frag) (H : Hp) : V → Value → Prop where
  | non : TyOf K H .non (.type "NoneType")
  | bl (x : Bool) : TyOf K H (.bl x) (.type "bool")
  | int (i : Int) : TyOf K H (.int i) (.type "int")
  | str (x : Str) : TyOf K H (.str x) (.type "str")
  | flt (x : UInt64) : TyOf K H (.flt x) (.type "float")
  | lst {a : Addr} {xs : List V} (e : H a = some (.lst xs)) : TyOf K H (.ref a) (.type "list")
  | frz {a : Addr} {o : Obj} {xs : List V} (e : H a = some (.frz o (.lst xs))) : TyOf K H (.ref a) (.type "list")
  | tup {a : Addr} {xs : List V} (e : H a = some (.tup xs)) : TyOf K H (.ref a) (.type "tuple")
  | dK {a : Addr} {kvs : List (Key × V)} (e : H a = some (.dK kvs)) : TyOf K H (.ref a) (.type "dict")
  | dT {a : Addr} {kvs : List (List Key × V)} (e : H a = some (.dT kvs)) : TyOf K H (.ref a) (.type "dict")
  | ins {a C dx : Addr} {fs : List (Str × V)} (e : H a = some (.ins C dx fs)) (cl : Cls K C) (ha : PySem.W.findIn K (.ref C) "__class__" = some (some (.builtin "object.__class__")))
      (hn : PySem.W.specialIn K (.builtin "object.__class__") "__get__" = some (some (.builtin "getset_descriptor.__get__"))) (htk : PySem.W.takesIn K (.builtin "object.__class__") = some true)
      (hm : PySem.W.mroIn K C (.type "object") = some true) : TyOf K H (.ref a) (.ref C)
/-- isinstance(x, c) for one class c, a built-in or an own one: kitOne's answer -/
theorem isinst_ok {x : V} {u t : Value} (I : Inv X pins σ H s) (rx : RelV x u) (ty : TyOf X.K H x t) (e : PySem.W.kitOne X.K t c = some b) (h : ∀ tk, Q (.bool b) { s with toks := tk }) :
    wpAny (model X.prog X.w) A (call (.builtin "isinstance") [u, c]) Q E s := by
  cases ty with
  | non => cases (show u = Value.none from rx); exact PySem.W.kia_one PySem.W.kitx_none I.kIn True.intro e (fun z => nomatch z) h
  | bl y => cases (show u = Value.bool y from rx); exact PySem.W.kia_one PySem.W.kitx_bool I.kIn True.intro e (fun z => nomatch z) h
  | int i => obtain ⟨t, q⟩ := (show ∃ t, u = Value.int i t from rx); cases q; exact PySem.W.kia_one PySem.W.kitx_int I.kIn True.intro e (fun z => nomatch z) h
  | str y => obtain ⟨t, q⟩ := (show ∃ t, u = Value.str y t from rx); cases q; exact PySem.W.kia_one PySem.W.kitx_str I.kIn True.intro e (fun z => nomatch z) h
  | flt y => obtain ⟨t, q⟩ := (show ∃ t, u = Value.float y t from rx); cases q; exact PySem.W.kia_one PySem.W.kitx_float I.kIn True.intro e (fun z => nomatch z) h
  | @lst a xs ea =>
    cases (show u = Value.ref a from rx)
    obtain ⟨_, _, n, _, h1⟩ := (show ObjOk X.prog X.w H s.heap a (.lst xs) from I.hok a _ ea)
    exact PySem.W.kia_one PySem.W.kitx_list I.kIn ⟨_, h1, rfl⟩ e (fun z => nomatch z) h
  | @frz a ob xs ea =>
    cases (show u = Value.ref a from rx)
    obtain ⟨_, _, _, n, _, h1⟩ := (show ObjOk X.prog X.w H s.heap a (.frz ob (.lst xs)) from I.hok a _ ea)
    exact PySem.W.kia_one PySem.W.kitx_list I.kIn ⟨_, h1, rfl⟩ e (fun z => nomatch z) h
  | @tup a xs ea =>
    cases (show u = Value.ref a from rx)
    obtain ⟨_, _, _, p⟩ := (show ObjOk X.prog X.w H s.heap a (.tup xs) from I.hok a _ ea)
    obtain ⟨o, h1, h2, _⟩ := p
    exact PySem.W.kia_one PySem.W.kitx_tuple I.kIn ⟨o, h1, h2⟩ e (fun z => nomatch z) h
  | @dK a kvs ea =>
    cases (show u = Value.ref a from rx)
    obtain ⟨_, _, vs, _, p⟩ := (show ObjOk X.prog X.w H s.heap a (.dK kvs) from I.hok a _ ea)
    obtain ⟨o, es, ep, h1, h2, _⟩ := p
    exact PySem.W.kia_one PySem.W.kitx_dict I.kIn ⟨o, h1, h2.1⟩ e (fun z => nomatch z) h
  | @dT a kvs ea =>
    cases (show u = Value.ref a from rx)
    obtain ⟨_, _, xs, _, o, es, ep, h1, h2, _⟩ := (show ObjOk X.prog X.w H s.heap a (.dT kvs) from I.hok a _ ea)
    exact PySem.W.kia_one PySem.W.kitx_dict I.kIn ⟨o, h1, h2.1⟩ e (fun z => nomatch z) h
  | @ins a C dx fs ea cl ha hn htk hm =>
    cases (show u = Value.ref a from rx)
    obtain ⟨mA, O, _⟩ := ins_get I.hok ea
    obtain ⟨od, J, _⟩ := O.look
    exact PySem.W.kia_one (PySem.W.kitx_own (cl.get _) cl.hd ha hn htk hm) I.kIn J e (fun z => nomatch z) h
end
end L2

namespace L2
open PySem PySem.Spec PyProof.Rows

/-! ### room -/
structure Room (k : Nat) (A : Around) : Prop where
  hd : A.handled = none
  dp : A.depth + 3 * k + 5 < recursionLimit
  un : A.units + 16 * k + 200 < cLine
  gd : A.guards = some []
theorem Room.mono {j k : Nat} {A : Around} (r : Room k A) (h : j ≤ k) : Room j A := ⟨r.hd, by have := r.dp; omega, by have := r.un; omega, r.gd⟩
theorem Room.deeper {k : Nat} {A : Around} (r : Room (k + 1) A) (env : Env) : Room k (A.deeper env) :=
  ⟨r.hd, by have := r.dp; show A.depth + 1 + 3 * k + 5 < _; omega, by have := r.un; show A.units + 3 + 16 * k + 200 < _; omega, r.gd⟩
theorem Room.in1 {k : Nat} {A : Around} (r : Room (k + 1) A) : Room k A.in1 :=
  ⟨r.hd, by have := r.dp; show A.depth + 3 * k + 5 < _; omega, by have := r.un; show A.units + 1 + 16 * k + 200 < _; omega, r.gd⟩
theorem make_depth {A : Around} {C : Addr} {us : List Value} {kw : List (Str × Value)} : (A.under (.builtin "type.__call__" ⟨.ref C :: us, kw⟩)).depth = A.depth + 1 := by
  first | rfl | simp [Around.under, Code.weight, Code.isCreation, Code.isGuard, Code.isCaller, Code.frames, Code.isFrame, guardIds]
theorem make_units {A : Around} {C : Addr} {us : List Value} {kw : List (Str × Value)} : (A.under (.builtin "type.__call__" ⟨.ref C :: us, kw⟩)).units = A.units + 1 := by
  first | rfl | simp [Around.under, Code.cUnits, Code.frames, Code.isFrame]
theorem Room.make {k : Nat} {A : Around} (r : Room (k + 1) A) (C : Addr) (us : List Value) (kw : List (Str × Value)) : Room k (A.under (.builtin "type.__call__" ⟨.ref C :: us, kw⟩)) :=
  ⟨r.hd, by have := r.dp; rw [make_depth]; omega, by have := r.un; rw [make_units]; omega, r.gd⟩
theorem Room.depth {k : Nat} {A : Around} (r : Room k A) : A.depth < recursionLimit := by have := r.dp; omega
theorem Room.units {k : Nat} {A : Around} (r : Room k A) : A.units + 64 < cLine := by have := r.un; omega
/-! ### argument lists and displays -/
def tNil : TA := fun _ H Q => Q [] H
def tCons (ta : TE) (tr : TA) : TA := fun σ H Q => ta σ H fun x H1 => tr σ H1 fun xs H2 => Q (x :: xs) H2
section
variable {X : Cx} {e : Expr} {es : List Expr} {te : TE} {t : TA} {pos : Pos}
theorem pa_nil : PA X [] tNil := fun _ _ _ _ H Q I h => Calls.spliced_nil ⟨[], H, I, .nil, h⟩
theorem pa_cons (ha : PE X e te) (hr : PA X es t) (hs : starEach (e :: es) X.env = (false, eval e X.env) :: starEach es X.env := by rfl) : PA X (e :: es) (tCons te t) := by
  intro pos pins s σ H Q I h
  rw [hs]
  show wpAny _ _ (spliced ((false, eval e X.env) :: backTo pos (starEach es X.env))) _ _ s
  refine Calls.spliced_cons (thn (ha pins s σ H _ I h) fun u s1 ⟨x, H1, I1, r1, q1⟩ => ?_)
  exact thn (hr pos pins s1 σ H1 _ I1 q1) fun us s2 ⟨xs, H2, I2, r2, q2⟩ => ⟨x :: xs, H2, I2, .cons r1 r2, q2⟩

/-- a tuple, a list of written items -/
def tTup (t : TA) : TE := fun σ H Q => t σ H fun xs H1 => xs.length ≤ sizeLine ∧ ∀ p, H1 p = none → Q (.ref p) (upd H1 p (.tup xs))
def tLst (t : TA) : TE := fun σ H Q => t σ H fun xs H1 => xs.length ≤ sizeLine ∧ ∀ p, H1 p = none → Q (.ref p) (upd H1 p (.lst xs))
theorem pe_tup {x1} (h : PA X es t) : PE X (.Tuple es x1 pos) (tTup t) := by
  intro pins s σ H Q I hq
  refine wpAny_Tuple_spliced (thn (h pos pins s σ H _ I hq) fun us s1 ⟨xs, H1, I1, r, z, q⟩ => ⟨by rw [← r.length]; exact z, ?_⟩)
  have hf : H1 s1.heap.objs.size = none := I1.hok.fresh (Nat.le_refl _)
  refine ⟨.ref s1.heap.objs.size, upd H1 s1.heap.objs.size (.tup xs), I1.laid (t' := s1.toks) (fun b u e => Heap.get?_push_of_some _ e) (Nat.le_refl _) ?_, rfl, q _ hf⟩
  exact ⟨z, us, r, ⟨_, Heap.get?_push_size _ rfl, rfl, _, rfl⟩⟩
theorem pe_lst (h : PA X es t) : PE X (.List es pos) (tLst t) := by
  intro pins s σ H Q I hq
  refine wpAny_List_spliced (thn (h pos pins s σ H _ I hq) fun us s1 ⟨xs, H1, I1, r, z, q⟩ => ⟨by rw [← r.length]; exact z, ?_⟩)
  have hf : H1 s1.heap.objs.size = none := I1.hok.fresh (Nat.le_refl _)
  refine ⟨.ref s1.heap.objs.size, upd H1 s1.heap.objs.size (.lst xs), I1.laid (t' := s1.toks) (fun b u e => Heap.get?_push_of_some _ e) (Nat.le_refl _) ?_, rfl, q _ hf⟩
  exact ⟨z, us, 0, r, Heap.get?_push_size _ rfl⟩
end

/-! ### what a def promises -/
/-- a def's promise: the bound arguments in the parameters' order, the heap, the wanted end, the wanted exception -/
abbrev Sp := List V → Hp → VK → XK → Prop
/-- how an exception lies behind a call (file 08 gives it): the callers' frames, abstract heap and state ahead of the call, the wish, the exception, the state -/
abbrev CXT := List Env → Hp → Shared → XK → Value → Shared → Prop

/-- the state at a call -/
structure Env0 (P : Program) (w : World) (K : PySem.W.Frag) (mg : Str → Option Value) (base : Heap) (A : Around) (outer : List Env) (s : Shared) (H : Hp) : Prop where
  frames : A.frames = some outer
  mod : Mod K mg base
  bs : ∀ b o, base.get? b = some o → s.heap.get? b = some o ∧ H b = none
  bsz : base.objs.size ≤ s.heap.objs.size
  funs : s.heap.FunFrames base outer
  frf : ∀ b ∈ frs outer, H b = none
  hok : HOk P w H s.heap
  bare : AllBare s.gens
/-- a call's end -/
def CE (outer : List Env) (P : Program) (w : World) (H : Hp) (s : Shared) (Q : VK) (u : Value) (s' : Shared) : Prop :=
  ∃ v H', s'.os = s.os ∧ AllBare s'.gens ∧ Un (frs outer) [] H H' s.heap s'.heap ∧ HOk P w H' s'.heap ∧ RelV v u ∧ Q v H'
def CR (CX : CXT) (outer : List Env) (P : Program) (w : World) (H : Hp) (s : Shared) (Q : VK) (E : XK) (r : Result) (s' : Shared) : Prop :=
  match r with
  | .ok (.ret u) => CE outer P w H s Q u s'
  | .ok _ => False
  | .error e => CX outer H s E e s'
structure FnOk (P : Program) (w : World) (K : PySem.W.Frag) (mg : Str → Option Value) (base : Heap) (CX : CXT) (k : Nat) (f : Addr) (fd : FuncData) (ps : List Str) (sp : Sp) : Prop where
  len : ∀ vs H Q E, sp vs H Q E → vs.length = ps.length
  run : ∀ (A : Around) (outer : List Env) (s : Shared) (H : Hp) (args : Args) (us : List Value) (vs : List V) (Q : VK) (E : XK), Room k A → Env0 P w K mg base A outer s H → BindsTo s fd args (ps.zip us) → Vals vs us → sp vs H Q E →
    codeAny (model P w) A (.call (.ref f) args) (CR CX outer P w H s Q E) s
theorem FnOk.mono {P : Program} {w : World} {K : PySem.W.Frag} {mg : Str → Option Value} {base : Heap} {CX : CXT} {j k : Nat} {f : Addr} {fd : FuncData} {ps : List Str} {sp : Sp} (F : FnOk P w K mg base CX j f fd ps sp) (h : j ≤ k) :
    FnOk P w K mg base CX k f fd ps sp := ⟨F.len, fun A outer s H args us vs Q E hr => F.run A outer s H args us vs Q E (hr.mono h)⟩
/-- a weaker promise -/
theorem FnOk.imp {P : Program} {w : World} {K : PySem.W.Frag} {mg : Str → Option Value} {base : Heap} {CX : CXT} {k : Nat} {f : Addr} {fd : FuncData} {ps : List Str} {sp sp' : Sp} (F : FnOk P w K mg base CX k f fd ps sp)
    (h : ∀ vs H Q E, sp' vs H Q E → sp vs H Q E) : FnOk P w K mg base CX k f fd ps sp' :=
  ⟨fun vs H Q E q => F.len vs H Q E (h _ _ _ _ q), fun A outer s H args us vs Q E hr he hb hv hs => F.run A outer s H args us vs Q E hr he hb hv (h _ _ _ _ hs)⟩

theorem Env0.make {P : Program} {w : World} {K : PySem.W.Frag} {mg : Str → Option Value} {base : Heap} {A : Around} {outer : List Env} {s : Shared} {H : Hp} (e : Env0 P w K mg base A outer s H) (C : Addr) (us : List Value) (kw : List (Str × Value)) :
    Env0 P w K mg base (A.under (.builtin "type.__call__" ⟨.ref C :: us, kw⟩)) outer s H := ⟨by first | exact e.frames | (simpa [Around.under, Code.envs, Code.isFrame, pushEnvs] using e.frames), e.mod, e.bs, e.bsz, e.funs, e.frf, e.hok, e.bare⟩
theorem Env0.in1 {P : Program} {w : World} {K : PySem.W.Frag} {mg : Str → Option Value} {base : Heap} {A : Around} {outer : List Env} {s : Shared} {H : Hp} (e : Env0 P w K mg base A outer s H) :
    Env0 P w K mg base A.in1 outer s H := ⟨e.frames, e.mod, e.bs, e.bsz, e.funs, e.frf, e.hok, e.bare⟩

section
variable {X : Cx} {pins : List (Addr × Obj)} {σ : St} {H : Hp} {s s' : Shared}
/-- from a body: what a callee wants -/
theorem Inv.env0 (I : Inv X pins σ H s) : Env0 X.prog X.w X.K X.mg X.base X.A X.stack s H :=
  ⟨I.ok.frames, I.ok.mod, I.bs, Nat.le_trans I.ok.bsz I.sz, I.stack, I.stkFree, I.hok, I.bare⟩
/-- behind a call -/
theorem Inv.after {Q : VK} {u : Value} (I : Inv X pins σ H s) (h : CE X.stack X.prog X.w H s Q u s') : EP X pins σ Q u s' := by
  obtain ⟨v, H', os, bare, un, hok, r, q⟩ := h
  obtain ⟨hh, g, d, t, os'⟩ := s'
  obtain rfl : os' = s.os := os
  exact ⟨v, H', I.call (h' := hh) (g' := g) (d' := d) (t' := t) (ch := []) un hok bare (fun b z => absurd z (by simp)), r, q⟩
end

/-! ### calls -/
/-- f(..): the written arguments, then the defaults dvs; E: what is wanted of an exception -/
def tCall (sp : Sp) (dvs : List V) (E : XK) (t : TA) : TE := fun σ H Q => t σ H fun vs H1 => sp (vs ++ dvs) H1 Q E
/-- o.m(..) of an instance of the class at C -/
def tMeth (C : Addr) (m : Str) (sp : Sp) (dvs : List V) (E : XK) (ta : TE) (t : TA) : TE := fun σ H Q => ta σ H fun x H1 => ∃ a dx fs, x = .ref a ∧ H1 a = some (.ins C dx fs) ∧ fs.lookup m = none ∧
  t σ H1 fun vs H2 => sp (x :: (vs ++ dvs)) H2 Q E
/-- C(..): a new instance and its dict, then __init__ -/
def tMake (C : Addr) (sp : Sp) (dvs : List V) (E : XK) (t : TA) : TE := fun σ H Q => t σ H fun vs H1 => ∀ x dx, H1 x = none → H1 dx = none → dx ≠ x →
  sp (.ref x :: (vs ++ dvs)) (upd (upd H1 dx (.own x)) x (.ins C dx [])) (fun v H2 => v = .non ∧ Q (.ref x) H2) E

/-- how the parameters are bound: us the positional arguments, kw the keywords' values by name, ds the defaults that fill up -/
def Binds (K : PySem.W.Frag) (fd : FuncData) (ps : List Str) (ds : List Value) : Prop :=
  ∀ (s : Shared) (us : List Value), K.In s.heap → (us ++ ds).length = ps.length → BindsTo s fd ⟨us, []⟩ (ps.zip (us ++ ds))
/-- every parameter is given -/
theorem Binds.all {K : PySem.W.Frag} {fd : FuncData} {ps : List Str} (h : ∀ us : List Value, us.length = ps.length → bindArgs fd ⟨us, []⟩ = pure (ps.zip us)) : Binds K fd ps [] := fun s us _ hl => by
  rw [List.append_nil] at hl ⊢
  exact .of_eq (h us hl)

/-- an exception of a callee reaches what this body wants of exceptions -/
def Passes (CX : CXT) (X : Cx) (E : XK) : Prop := ∀ (pins : List (Addr × Obj)) (σ : St) (H : Hp) (s : Shared) (e : Value) (s' : Shared), Inv X pins σ H s → CX X.stack H s E e s' → X.xe e s'

section
variable {X : Cx} {CX : CXT} {k : Nat} {f C : Addr} {fd : FuncData} {ps : List Str} {sp : Sp} {dvs : List V} {ds : List Value} {E : XK} {x m : Str} {p pos apos : Pos} {e o : Expr} {es : List Expr} {ta : TE} {t : TA}

/-- the callee runs -/
theorem run_fn {pins : List (Addr × Obj)} {σ : St} {H : Hp} {s : Shared} {Q : VK} {us : List Value} {vs : List V} (F : FnOk X.prog X.w X.K X.mg X.base CX k f fd ps sp) (hr : Room k X.A) (hb : Binds X.K fd ps ds) (hd : Vals dvs ds) (hx : Passes CX X E)
    (I : Inv X pins σ H s) (r : Vals vs us) (h : sp (vs ++ dvs) H Q E) : wpAny (model X.prog X.w) X.A (call (.ref f) us) (EP X pins σ Q) X.xe s := by
  have r2 : Vals (vs ++ dvs) (us ++ ds) := r.append hd
  have hl : (us ++ ds).length = ps.length := by rw [← r2.length]; exact F.len _ _ _ _ h
  refine wpAny_call (codeAny_mono (F.run X.A X.stack s H ⟨us, []⟩ (us ++ ds) (vs ++ dvs) Q E hr I.env0 (hb s us I.kIn hl) r2 h) fun r s' hq => ?_)
  cases r with
  | error e => exact hx pins σ H s e s' I hq
  | ok fl =>
    cases fl with
    | ret u => exact I.after hq
    | next => exact False.elim hq
    | brk => exact False.elim hq
    | cont => exact False.elim hq

theorem pe_call (F : FnOk X.prog X.w X.K X.mg X.base CX k f fd ps sp) (hr : Room k X.A) (hg : Gl X x) (hm : X.mg x = some (.ref f)) (hk : PySem.W.keepIn X.K (.ref f) = true) (hb : Binds X.K fd ps ds) (hd : Vals dvs ds) (hx : Passes CX X E)
    (ha : PA X (e :: es) t) (hdb : (x == ("__debug__" : Str)) = false := by decide) (he : starEach (e :: es) X.env = (false, eval e X.env) :: starEach es X.env := by rfl) (hpl : (backTo pos (starEach es X.env)).any (·.1) = false := by rfl) :
    PE X (.Call (.Name x p) (e :: es) [] pos) (tCall sp dvs E t) := by
  intro pins s σ H Q I h
  refine wpAny_Call_Name_kw (ld_glob I hg hm ?_ hdb)
  refine PySem.W.callWith_K (h₀ := X.base) I.ok.mod.kin hk (thn (ha pos pins s σ H _ I h) fun us s1 ⟨vs, H1, I1, r, q⟩ => ⟨I1.kIn, ?_⟩) he hpl
  exact run_fn F hr hb hd hx I1 r q
/-- what a class must have to be made -/
structure Mk (K : PySem.W.Frag) (C f : Addr) : Prop where
  makes : PySem.W.makesIn K C = true
  init : PySem.W.findIn K (.ref C) "__init__" = some (some (.ref f))
  fn : PySem.W.isFn K (.ref f) = true
  kp : PySem.W.keepIn K (.ref C) = true

end

/-! ### keywords -/
/-- the values of the keywords, from the left -/
def PK (X : Cx) (kws : List Keyword) (t : TA) : Prop :=
  ∀ (pos : Pos) (pins : List (Addr × Obj)) (s : Shared) (σ : St) (H : Hp) (Q : List V → Hp → Prop), Inv X pins σ H s → t σ H Q → wpAny (model X.prog X.w) X.A (evalAll ((backToKw pos (keywordEach kws X.env)).map (·.2))) (AP X pins σ Q) X.xe s
section
variable {X : Cx} {CX : CXT} {k : Nat} {f C : Addr} {fd : FuncData} {ps ks : List Str} {sp : Sp} {E : XK} {x m : Str} {p pos apos kpos : Pos} {e o : Expr} {es : List Expr} {kws : List Keyword} {te ta : TE} {t tk : TA} {nm : Option Str}
/-- how a call with keywords binds: g puts the positional values us and the keywords' values ws (names ks) in the parameters' order, defaults among them -/
structure KBinds (K : PySem.W.Frag) (fd : FuncData) (ps ks : List Str) (g : List Value → List Value → List Value) (gV : List V → List V → List V) : Prop where
  to : ∀ (s : Shared) (us ws : List Value), K.In s.heap → (g us ws).length = ps.length → BindsTo s fd ⟨us, ks.zip ws⟩ (ps.zip (g us ws))
  rel : ∀ {vs : List V} {us : List Value} {zs : List V} {ws : List Value}, Vals vs us → Vals zs ws → Vals (gV vs zs) (g us ws)
def tCallK (sp : Sp) (gV : List V → List V → List V) (E : XK) (t tk : TA) : TE := fun σ H Q => t σ H fun vs H1 => tk σ H1 fun zs H2 => sp (gV vs zs) H2 Q E
variable {g : List Value → List Value → List Value} {gV : List V → List V → List V}
end

/-! ### a def's body keeps its promise -/
/-- names: the parameters first -/
structure FnScope (N P : List Str) (sc : Scope) : Prop where
  kind : sc.kind = .function
  co : sc.isCoroutine = false
  gen : sc.isGenerator = false
  nd : N.Nodup
  pre : N.take P.length = P
  par : ∀ x ∈ P, sc.names.lookup x = some .local ∨ sc.names.lookup x = some .cell
  nofree : ∀ y ∈ sc.names, y.2 ≠ .free

theorem bindL_out {kindOf : Str → Option NameKind} {x : Str} : ∀ {binds : List (Str × Value)} {m : Str → Option Value}, (∀ v, (x, v) ∉ binds) → bindL kindOf binds m x = m x
  | [], _, _ => rfl
  | (n, v) :: r, m, h => by
    unfold bindL
    rw [bindL_out fun w hw => h w (List.mem_cons_of_mem _ hw)]
    split
    · have : x ≠ n := by rintro rfl; exact h v List.mem_cons_self
      simp [this]
    · rfl
theorem bindC_out {kindOf : Str → Option NameKind} {x : Str} : ∀ {binds : List (Str × Value)} {m : Str → Option Value}, (∀ v, (x, v) ∉ binds) → bindC kindOf binds m x = m x
  | [], _, _ => rfl
  | (n, v) :: r, m, h => by
    unfold bindC
    rw [bindC_out fun w hw => h w (List.mem_cons_of_mem _ hw)]
    split
    · rfl
    · have : x ≠ n := by rintro rfl; exact h v List.mem_cons_self
      simp [this]
theorem bindL_get {kindOf : Str → Option NameKind} {x : Str} {v : Value} : ∀ {P : List Str} {vs : List Value} {i : Nat} {m : Str → Option Value}, P.Nodup → P[i]? = some x → vs[i]? = some v → kindOf x = some .local →
    bindL kindOf (P.zip vs) m x = some v
  | [], _, _, _, _, h, _, _ => by simp at h
  | _ :: _, [], _, _, _, _, h, _ => by simp at h
  | p :: P, w :: vs, 0, m, nd, h1, h2, hk => by
    simp at h1 h2; subst h1; subst h2
    show bindL kindOf ((p, w) :: P.zip vs) m p = _
    unfold bindL
    rw [bindL_out fun v hv => (List.nodup_cons.mp nd).1 (List.of_mem_zip hv).1, if_pos hk]
    simp
  | p :: P, w :: vs, i + 1, m, nd, h1, h2, hk => by
    show bindL kindOf ((p, w) :: P.zip vs) m x = _
    unfold bindL
    exact bindL_get (i := i) (List.nodup_cons.mp nd).2 (by simpa using h1) (by simpa using h2) hk
theorem bindC_get {kindOf : Str → Option NameKind} {x : Str} {v : Value} : ∀ {P : List Str} {vs : List Value} {i : Nat} {m : Str → Option Value}, P.Nodup → P[i]? = some x → vs[i]? = some v → kindOf x ≠ some .local →
    bindC kindOf (P.zip vs) m x = some v
  | [], _, _, _, _, h, _, _ => by simp at h
  | _ :: _, [], _, _, _, _, h, _ => by simp at h
  | p :: P, w :: vs, 0, m, nd, h1, h2, hk => by
    simp at h1 h2; subst h1; subst h2
    show bindC kindOf ((p, w) :: P.zip vs) m p = _
    unfold bindC
    rw [bindC_out fun v hv => (List.nodup_cons.mp nd).1 (List.of_mem_zip hv).1, if_neg hk]
    simp
  | p :: P, w :: vs, i + 1, m, nd, h1, h2, hk => by
    show bindC kindOf ((p, w) :: P.zip vs) m x = _
    unfold bindC
    exact bindC_get (i := i) (List.nodup_cons.mp nd).2 (by simpa using h1) (by simpa using h2) hk

/-- the names' values at the entry -/
def start (N : List Str) (vs : List V) : St := vs.map some ++ List.replicate (N.length - vs.length) none

/-- the context of a def's body, at its entry; an exception leaves the frame, then lies as CX says -/
def cxOf (CX : CXT) (P : Program) (w : World) (K : PySem.W.Frag) (mg : Str → Option Value) (base : Heap) (N : List Str) (qual : Str) (scope : Scope) (f : Addr) (cd : Value) (A : Around) (outer : List Env) (s : Shared) (H : Hp) (E : XK) : Cx where
  prog := P
  w := w
  K := K
  mg := mg
  base := base
  A := A.deeper (envOfC qual scope s.heap.objs.size f cd)
  N := N
  s₀ := s
  H₀ := H
  env := envOfC qual scope s.heap.objs.size f cd
  outer := outer
  stack := envOfC qual scope s.heap.objs.size f cd :: outer
  ex := []
  calm := true
  fn := fun _ => true
  pn := []
  xe := fun e s' => wpAny (model P w) (A.deeper (envOfC qual scope s.heap.objs.size f cd)) (leaving (envOfC qual scope s.heap.objs.size f cd) e) (fun _ s'' => CX outer H s E e s'') (fun e' s'' => CX outer H s E e' s'') s'

theorem cell_has {sc : Scope} {n : Nat} {x : Str} (h : sc.names.lookup x = some .cell) : ∃ c, (cellsFrom n sc.names []).lookup x = some c := by
  have q := PySem.W.cellsFrom_some sc.names n [] (.inl h)
  exact Option.isSome_iff_exists.mp q

theorem inv_start {CX : CXT} {P : Program} {w : World} {K : PySem.W.Frag} {mg : Str → Option Value} {base : Heap} {N ps : List Str} {qual : Str} {scope : Scope} {f : Addr} {cd : Value} {A : Around} {outer : List Env} {s s1 : Shared} {H : Hp} {E : XK} {us : List Value} {vs : List V}
    (S : FnScope N ps scope) (hd : A.handled = none) (e0 : Env0 P w K mg base A outer s H) (hl : vs.length = ps.length) (r : Vals vs us)
    (x : InCallC s s.heap.objs.size (bindL (envOfC qual scope s.heap.objs.size f cd).kindOf (ps.zip us) fun _ => none) (cellsFrom (s.heap.objs.size + 1) scope.names []) (bindC (envOfC qual scope s.heap.objs.size f cd).kindOf (ps.zip us) fun _ => none) s1) :
    Inv (cxOf CX P w K mg base N qual scope f cd A outer s H E) [] (start N vs) H s1 := by
  have hpl : ps.length ≤ N.length := by have := congrArg List.length S.pre; rw [List.length_take] at this; omega
  obtain ⟨h1, tk, rfl, hk⟩ := x.done
  have noA : ∀ b : Addr, b ∉ (cxOf CX P w K mg base N qual scope f cd A outer s H E).ex := fun b z => absurd (show b ∈ ([] : List Addr) from z) (by simp)
  refine ⟨⟨e0.mod, S.kind, rfl, rfl, Nat.le_refl _, fun y z c h1 h2 => ?_, fun y hy => ?_, fun y c _ h => ?_, fun _ => hd, Around.frames_deeper e0.frames, .inr ⟨rfl, rfl⟩, fun b z => absurd z (noA b), e0.bs, e0.bsz, fun b _ _ => noA b, fun b z => absurd z (noA b), e0.funs, e0.frf⟩,
    rfl, e0.bare, Un.kept hk, ⟨_, x.toInCall.ns, fun i y v h1 h2 h3 => ?_⟩, fun y c h => ⟨_, x.cell y c h⟩, e0.hok.fresh (Nat.le_refl _), fun y c h => ?_, fun p hp => absurd (show p ∈ ([] : List (Addr × Obj)) from hp) (by simp), e0.hok.kept hk, ?_⟩
  · exact name_of_addr x.apart (PySem.mem_of_lookup h1) (PySem.mem_of_lookup h2)
  · have hy : scope.names.lookup y = some .cell ∨ scope.names.lookup y = some .free := hy
    rcases hy with hy | hy
    · exact cell_has hy
    · exact absurd rfl (S.nofree _ (PySem.mem_of_lookup hy))
  · exact Nat.le_of_lt (x.above y c (PySem.mem_of_lookup h))
  · have hi : i < vs.length := by
      unfold start at h2
      by_cases hi : i < vs.length
      · exact hi
      · rw [List.getElem?_append_right (by simpa using hi)] at h2
        rw [List.getElem?_replicate] at h2
        split at h2 <;> cases h2
    have ha : vs[i]? = some v := by
      unfold start at h2
      rw [List.getElem?_append_left (by simpa using hi), List.getElem?_map] at h2
      cases e : vs[i]? with
      | none => rw [e] at h2; cases h2
      | some a => rw [e] at h2; cases h2; rfl
    obtain ⟨u, hu, rv⟩ := r.get ha
    have hp : ps[i]? = some y := by
      rw [← S.pre, List.getElem?_take_of_lt (by omega)]; exact h1
    have ndP : ps.Nodup := by rw [← S.pre]; exact S.nd.sublist (List.take_sublist _ _)
    refine ⟨u, rv, ?_⟩
    rcases S.par y (List.mem_of_getElem? hp) with k | k
    · exact .inl ⟨k, bindL_get ndP hp hu k⟩
    · obtain ⟨c, e⟩ := cell_has (n := s.heap.objs.size + 1) k
      refine .inr ⟨.inl k, c, e, ?_⟩
      have q := x.cell y c e
      rw [bindC_get ndP hp hu (by show scope.names.lookup y ≠ _; rw [k]; decide)] at q
      exact q
  · exact e0.hok.fresh (Nat.le_of_lt (x.above y c (PySem.mem_of_lookup h)))
  · unfold start
    show _ = N.length
    rw [List.length_append, List.length_map, List.length_replicate]
    omega

/-- THE RULE: a def (or a method) of the text, by its body. The body's reading t is chosen for each entry; it is run at the parameters' values -/
theorem fn_of {CX : CXT} {P : Program} {w : World} {K : PySem.W.Frag} {mg : Str → Option Value} {base : Heap} {k : Nat} {f : Addr} {name qual : Str} {params : Arguments} {body : List Stmt} {scope : Scope} {dV kV doc pm cdv ct oc : Value} {an od : Option Addr}
    {osl : Array (Option Value)} {N ps : List Str} {sp : Sp} (lk : K.lookup f = some ⟨oc, od, .func (PySem.W.fnOf name qual params body scope dV kV doc pm an cdv ct), osl⟩) (hcd : PySem.W.codeIn K cdv qual = true) (S : FnScope N ps scope)
    (len : ∀ vs H Q E, sp vs H Q E → vs.length = ps.length)
    (hbody : ∀ (A : Around) (outer : List Env) (s : Shared) (H : Hp) (vs : List V) (Q : VK) (E : XK), Room k (A.deeper (envOfC qual scope s.heap.objs.size f cdv)) → sp vs H Q E →
      ∃ t, PSs (cxOf CX P w K mg base N qual scope f cdv A outer s H E) body t ∧ t { nx := fun _ H' => Q .non H', rt := Q } (start N vs) H) :
    FnOk P w K mg base CX (k + 1) f (PySem.W.fnOf name qual params body scope dV kV doc pm an cdv ct) ps sp := by
  refine ⟨len, fun A outer s H args us vs Q E hr e0 hb r hsp => ?_⟩
  have hl := len _ _ _ _ hsp
  have KX : K.In s.heap := e0.mod.kin.keeps fun b o e => (e0.bs b o e).1
  have lim : s.heap.NoLimit := e0.mod.nolimit.keeps fun b o e => (e0.bs b o e).1
  have hkind : ∀ y ∈ ps.zip us, scope.names.lookup y.1 = some .local ∨ (scope.names.lookup y.1 = some .cell ∧ ((cellsFrom (s.heap.objs.size + 1) scope.names []).lookup y.1).isSome = true) := fun ⟨n, v⟩ hy => by
    rcases S.par n (List.of_mem_zip hy).1 with q | q
    · exact .inl q
    · exact .inr ⟨q, PySem.W.cellsFrom_some _ _ _ (.inl q)⟩
  refine codeAny_call_function hr.depth (KX _ _ lk) rfl S.co S.gen rfl (PySem.W.codeRec_of KX hcd) (hb _ _ _ _ ?_)
  refine wpAny_newFunctionEnv_cells S.kind hkind fun env he s1 x => ?_
  subst he
  refine ⟨lim.keeps x.toInCall.keep, codeAny_func ?_⟩
  obtain ⟨t, ht, hq⟩ := hbody A outer s H vs Q E (hr.deeper _) hsp
  have I : Inv (cxOf CX P w K mg base N qual scope f cdv A outer s H E) [] (start N vs) H s1 := inv_start S hr.hd e0 hl r x
  refine wpAny_mono (ht [] s1 (start N vs) H _ I hq) (fun fl s' hs => ?_) fun e s' hs => hs
  have fin : ∀ {σ' : St} {H' : Hp} {v : V} {u : Value}, Inv (cxOf CX P w K mg base N qual scope f cdv A outer s H E) [] σ' H' s' → RelV v u → Q v H' → CE outer P w H s Q u s' :=
    fun {σ' H' v u} J rv q => ⟨v, H', J.os, J.bare, J.base, J.hok, rv, q⟩
  cases fl with
  | ret u =>
    obtain ⟨v, σ', H', J, rv, q⟩ := hs
    exact fin J rv q
  | next =>
    obtain ⟨σ', H', J, q⟩ := hs
    exact fin (v := V.non) (u := Value.none) J rfl q
  | brk =>
    obtain ⟨_, _, _, q⟩ := hs
    exact False.elim q
  | cont =>
    obtain ⟨_, _, _, q⟩ := hs
    exact False.elim q
end L2

namespace L2
open PySem PySem.Spec PyProof.Rows
section
variable {X : Cx} {x : Str} {p pos : Pos} {e : Expr} {es : List Expr} {t : TA} {id T : String} {r : List V → Hp → VK → Prop}

def tCB (r : List V → Hp → VK → Prop) (t : TA) : TE := fun σ H Q => t σ H fun vs H1 => r vs H1 Q
/-- f(e, ..), f a built-in function -/
theorem pe_callB (hc : CallR X (.builtin id) r) (hg : Gl X x) (hm : X.mg x = none) (hv : bootBuiltins x = some (.builtin id)) (ha : PA X (e :: es) t) (hn : x ≠ "__name__" := by decide) (hdb : (x == ("__debug__" : Str)) = false := by decide)
    (he : starEach (e :: es) X.env = (false, eval e X.env) :: starEach es X.env := by rfl) (hpl : (backTo pos (starEach es X.env)).any (·.1) = false := by rfl) : PE X (.Call (.Name x p) (e :: es) [] pos) (tCB r t) := by
  intro pins s σ H Q I h
  refine wpAny_Call_Name_kw (ld_blt I hg hm hv ?_ hn hdb)
  exact PyProof.Rows.callWith_builtin1 (thn (ha pos pins s σ H _ I h) fun us s1 ⟨vs, H1, I1, r1, q1⟩ => hc pins s1 σ H1 vs us Q I1 r1 q1) he hpl
/-- T(e, ..), T a built-in type -/
theorem pe_callTy (hc : CallR X (.type T) r) (hg : Gl X x) (hm : X.mg x = none) (hv : bootBuiltins x = some (.type T)) (ha : PA X (e :: es) t) (hn : x ≠ "__name__" := by decide) (hdb : (x == ("__debug__" : Str)) = false := by decide)
    (he : starEach (e :: es) X.env = (false, eval e X.env) :: starEach es X.env := by rfl) (hpl : (backTo pos (starEach es X.env)).any (·.1) = false := by rfl) : PE X (.Call (.Name x p) (e :: es) [] pos) (tCB r t) := by
  intro pins s σ H Q I h
  refine wpAny_Call_Name_kw (ld_blt I hg hm hv ?_ hn hdb)
  exact PyProof.Rows.callWith_type1 (thn (ha pos pins s σ H _ I h) fun us s1 ⟨vs, H1, I1, r1, q1⟩ => hc pins s1 σ H1 vs us Q I1 r1 q1) he hpl
end
end L2

namespace HT
open PySem PyProof.Rows

/-- t < u of tuples of ints -/
def lexLt : List Int → List Int → Bool
  | [], [] => false
  | [], _ :: _ => true
  | _ :: _, [] => false
  | x :: xs, y :: ys => if x = y then lexLt xs ys else decide (x < y)
section
open PySem.SeqAt
open PySem.AutoSeq1 (wpAny_loadPart')
open PySem.MeetsSeq PySem.MeetsSeq2 PySem.MeetsSeq3

end

section
variable {prog : Program} {w : World} {A : Around} {E : Value → Shared → Prop} {s : Shared}

/-! ### t[a:b], not the whole -/
/-- a slice's bound as a place among n (d where it is left out) -/
def sIx (n d : Nat) : Option Int → Nat
  | none => d
  | some v => if v < 0 then (v + (n : Int)).toNat else min v.toNat n
end
end HT

namespace L2
open PySem PySem.Spec PyProof.Rows

/-! ### the parts of a slice -/
abbrev TO := St → Hp → (Option Int → Hp → Prop) → Prop
/-- a slice's part (left out, or an int) -/
def PO (X : Cx) (e : Option Expr) (t : TO) : Prop :=
  ∀ (pins : List (Addr × Obj)) (s : Shared) (σ : St) (H : Hp) (Q : Option Int → Hp → Prop), Inv X pins σ H s → t σ H Q →
    wpAny (model X.prog X.w) X.A (evalPart e X.env) (fun u s' => ∃ o H', Inv X pins σ H' s' ∧ IsPart u o ∧ Q o H') X.xe s
def tNoPart : TO := fun _ H Q => Q none H
def tPart (t : TE) : TO := fun σ H Q => t σ H fun x H1 => ∃ i, x = .int i ∧ Q (some i) H1

section
variable {X : Cx} {e : Expr} {te : TE} {lo hi : Option Expr} {tl th : TO} {pos p2 : Pos}

theorem po_none : PO X none tNoPart := by
  intro pins s σ H Q I h
  rw [evalPart_none]
  exact wpAny_pure ⟨none, H, I, .none, h⟩
theorem po_some (h : PE X e te) : PO X (some e) (tPart te) := by
  intro pins s σ H Q I hw
  rw [evalPart_some]
  refine thn (h pins s σ H _ I hw) fun u s1 ⟨x, H1, I1, r1, q1⟩ => ?_
  obtain ⟨i, rfl, q⟩ := q1
  obtain ⟨t, rfl⟩ := r1
  exact ⟨some i, H1, I1, .int i t, q⟩

/-- what a slice of a value is, by values: the slice object stands at sl -/
def SlR (X : Cx) (r : V → Option Int → Option Int → Hp → VK → Prop) : Prop :=
  ∀ (pins : List (Addr × Obj)) (s : Shared) (σ : St) (H : Hp) (x : V) (v vl vu : Value) (lo hi : Option Int) (sl : Addr) (Q : VK), Inv X pins σ H s → RelV x v → s.heap.IsSliceOf sl vl vu .none → IsPart vl lo → IsPart vu hi → r x lo hi H Q →
    ∃ T id, typeLookup (.type T) "__getitem__" = pure (some (.builtin id)) ∧ s.TypeIs v T ∧ wpAny (model X.prog X.w) X.A (getItem v (.ref sl)) (EP X pins σ Q) X.xe s
theorem SlR.or {r r' : V → Option Int → Option Int → Hp → VK → Prop} (h : SlR X r) (h' : SlR X r') : SlR X (fun x lo hi H Q => r x lo hi H Q ∨ r' x lo hi H Q) := by
  intro pins s σ H x v vl vu lo hi sl Q I rx hs pl pu q
  rcases q with q | q
  · exact h pins s σ H x v vl vu lo hi sl Q I rx hs pl pu q
  · exact h' pins s σ H x v vl vu lo hi sl Q I rx hs pl pu q
def tSl (r : V → Option Int → Option Int → Hp → VK → Prop) (te : TE) (tl th : TO) : TE := fun σ H Q => te σ H fun x H1 => tl σ H1 fun l H2 => th σ H2 fun u H3 => r x l u H3 Q
/-- a[lo:hi], any a -/
theorem pe_slice {r : V → Option Int → Option Int → Hp → VK → Prop} (hr : SlR X r) (he : PE X e te) (hl : PO X lo tl) (hu : PO X hi th) : PE X (.Subscript e (.Slice lo hi none p2) pos) (tSl r te tl th) := by
  intro pins s σ H Q I h
  refine Subscript_ (thn (he pins s σ H _ I h) fun v s1 ⟨x, H1, I1, r1, q1⟩ => ?_)
  refine wpAny_Slice (thn (hl pins s1 σ H1 _ I1 q1) fun vl s2 ⟨l, H2, I2, pl, q2⟩ => thn (hu pins s2 σ H2 _ I2 q2) fun vu s3 ⟨u, H3, I3, pu, q3⟩ => ?_)
  rw [evalPart_none]
  refine wpAny_pure ?_
  have I4 : Inv X pins σ H3 { s3 with heap := s3.heap.push { cls := .type "slice", data := .fields #[vl, vu, .none] } } := I3.kept (t' := s3.toks) fun b ob q => Heap.get?_push_of_some _ q
  obtain ⟨T, id, hT, ht, hg⟩ := hr pins { s3 with heap := s3.heap.push { cls := .type "slice", data := .fields #[vl, vu, .none] } } σ H3 x v vl vu l u s3.heap.objs.size Q I4 r1 (Heap.IsSliceOf.new ..) pl pu q3
  show wpAny (model X.prog X.w) X.A (subscriptTail e (.Slice lo hi none p2) v (.ref s3.heap.objs.size)) (EP X pins σ Q) X.xe { s3 with heap := s3.heap.push { cls := .type "slice", data := .fields #[vl, vu, .none] } }
  exact tail_any (ops := [.ref s3.heap.objs.size, v]) ht hT hg (by with_unfolding_all rfl)

/-- the items of xs[lo:hi] -/
def cutV (xs : List V) (lo hi : Option Int) : List V := (xs.drop (HT.sIx xs.length 0 lo)).take (HT.sIx xs.length xs.length hi - HT.sIx xs.length 0 lo)
theorem cutV_length (xs : List V) (lo hi : Option Int) : (cutV xs lo hi).length ≤ xs.length := by
  unfold cutV
  rw [List.length_take, List.length_drop]
  omega
/-- t[lo:hi], not the whole of it (the whole would be t itself) -/
def rSlT (K : PySem.W.Frag) : V → Option Int → Option Int → Hp → VK → Prop := fun x lo hi H Q => ∃ a xs, x = .ref a ∧ SqT K H a xs ∧
  ¬ (HT.sIx xs.length 0 lo = 0 ∧ HT.sIx xs.length xs.length hi = xs.length) ∧ ∀ p, H p = none → Q (.ref p) (upd H p (.tup (cutV xs lo hi)))
/-! ### t < u, t + u -/
def rLtT (K : PySem.W.Frag) : R2 := fun x y H Q => ∃ a b ns ms, x = .ref a ∧ y = .ref b ∧ SqT K H a (ns.map V.int) ∧ SqT K H b (ms.map V.int) ∧ Q (.bl (HT.lexLt ns ms)) H
/-- t + u, t not empty: u empty gives t itself -/
def rCatT (K : PySem.W.Frag) : R2 := fun x y H Q => ∃ a b xs ys, x = .ref a ∧ y = .ref b ∧ SqT K H a xs ∧ SqT K H b ys ∧ xs ≠ [] ∧ xs.length + ys.length ≤ sizeLine ∧
  (ys = [] → Q (.ref a) H) ∧ (ys ≠ [] → ∀ p, H p = none → Q (.ref p) (upd H p (.tup (xs ++ ys))))
end
end L2

namespace L2
open PySem PySem.Spec PyProof.Rows

/-! ### places -/
/-- the place that an index of any sign means -/
def ixN (n : Nat) (i : Int) : Option Nat := if 0 ≤ i then (if i < n then some i.toNat else none) else if -(n : Int) ≤ i then some (i + n).toNat else none
def atI {α : Type} (xs : List α) (i : Int) : Option α := (ixN xs.length i).bind fun j => xs[j]?
theorem ixN_seq {n : Nat} {i : Int} {j : Nat} (h : ixN n i = some j) : seqIndex? i n = some j ∧ j < n ∧ -(n : Int) ≤ i ∧ i < n := by
  unfold ixN at h
  by_cases h0 : 0 ≤ i
  · rw [if_pos h0] at h
    by_cases h1 : i < n
    · rw [if_pos h1] at h
      have e : i.toNat = j := Option.some.inj h
      exact ⟨by rw [seqIndex_of h0 h1, e], by omega, by omega, h1⟩
    · rw [if_neg h1] at h; cases h
  · rw [if_neg h0] at h
    by_cases h1 : -(n : Int) ≤ i
    · rw [if_pos h1] at h
      have e : (i + n).toNat = j := Option.some.inj h
      exact ⟨by rw [seqIndex_neg (by omega) h1, e], by omega, h1, by omega⟩
    · rw [if_neg h1] at h; cases h
theorem atI_get {α : Type} {xs : List α} {i : Int} {v : α} (h : atI xs i = some v) : ∃ j, seqIndex? i xs.length = some j ∧ xs[j]? = some v ∧ j < xs.length ∧ -(xs.length : Int) ≤ i ∧ i < xs.length := by
  unfold atI at h
  cases e : ixN xs.length i with
  | none => rw [e] at h; cases h
  | some j =>
    rw [e] at h
    obtain ⟨h1, h2, h3, h4⟩ := ixN_seq e
    exact ⟨j, h1, h, h2, h3, h4⟩
theorem atI_nat {α : Type} {xs : List α} {j : Nat} {v : α} (h : xs[j]? = some v) : atI xs (j : Int) = some v := by
  have hj : j < xs.length := (List.getElem?_eq_some_iff.mp h).1
  have e : ixN xs.length (j : Int) = some j := by
    unfold ixN
    rw [if_pos (by omega), if_pos (by omega)]; simp
  unfold atI; rw [e]; exact h
theorem atI_last {α : Type} (xs : List α) (v : α) : atI (xs ++ [v]) (-1) = some v := by
  have hl : (xs ++ [v]).length = xs.length + 1 := by simp
  have e : ixN (xs ++ [v]).length (-1) = some xs.length := by
    unfold ixN
    rw [hl, if_neg (by decide), if_pos (by omega)]
    congr 1
    omega
  unfold atI
  rw [e]
  show (xs ++ [v])[xs.length]? = some v
  simp

/-! ### what may be subscripted -/
/-- what stands as an index of a plain subscript -/
def PlainIx (b : Expr) : Prop := ∀ o i, subscripted b false o i = operate [o, i] (getItem o i)
/-- a subscript by values -/
def IxR (X : Cx) (r : R2) : Prop :=
  ∀ (value slice : Expr) (pins : List (Addr × Obj)) (s : Shared) (σ : St) (H : Hp) (x y : V) (v u : Value) (Q : VK), Inv X pins σ H s → RelV x v → RelV y u → r x y H Q →
    subscripted slice false v u = operate [v, u] (getItem v u) → wpAny (model X.prog X.w) X.A (subscriptTail value slice v u) (EP X pins σ Q) X.xe s
/-- a call of a builtin's method by values: the receiver, the arguments -/
def MtR (X : Cx) (id : String) (r : V → List V → Hp → VK → Prop) : Prop :=
  ∀ (pins : List (Addr × Obj)) (s : Shared) (σ : St) (H : Hp) (x : V) (xs : List V) (v : Value) (us : List Value) (Q : VK), Inv X pins σ H s → RelV x v → Vals xs us → r x xs H Q →
    wpAny (model X.prog X.w) X.A (call (.builtin id) (v :: us)) (EP X pins σ Q) X.xe s
section
variable {X : Cx} {a b : Expr} {ta tb : TE} {pos : Pos}
theorem IxR.or {r r' : R2} (h : IxR X r) (h' : IxR X r') : IxR X (fun x y H Q => r x y H Q ∨ r' x y H Q) := by
  intro value slice pins s σ H x y v u Q I rx ry q hs
  rcases q with q | q
  · exact h value slice pins s σ H x y v u Q I rx ry q hs
  · exact h' value slice pins s σ H x y v u Q I rx ry q hs
theorem MtR.or {id : String} {r r' : V → List V → Hp → VK → Prop} (h : MtR X id r) (h' : MtR X id r') : MtR X id (fun x xs H Q => r x xs H Q ∨ r' x xs H Q) := by
  intro pins s σ H x xs v us Q I rx rs q
  rcases q with q | q
  · exact h pins s σ H x xs v us Q I rx rs q
  · exact h' pins s σ H x xs v us Q I rx rs q
/-- a[b] -/
theorem pe_ix {r : R2} (hr : IxR X r) (ha : PE X a ta) (hb : PE X b tb) (hs : PlainIx b) : PE X (.Subscript a b pos) (tOp r ta tb) := by
  intro pins s σ H Q I h
  exact Subscript_ (binT ha hb I h fun v u s2 x y H2 I2 rx ry q => hr a b pins s2 σ H2 x y v u Q I2 rx ry q (hs _ _))

def rIxL (K : PySem.W.Frag) : R2 := fun x y H Q => ∃ p xs i v, x = .ref p ∧ y = .int i ∧ SqL K H p xs ∧ atI xs i = some v ∧ Q v H
def rIxT (K : PySem.W.Frag) : R2 := fun x y H Q => ∃ p xs i v, x = .ref p ∧ y = .int i ∧ SqT K H p xs ∧ atI xs i = some v ∧ Q v H
def rIxS : R2 := fun x y H Q => ∃ z i c, x = .str z ∧ y = .int i ∧ z.length ≤ sizeLine ∧ atI z.cps.toList i = some c ∧ Q (.str ⟨#[c]⟩) H
theorem ix_list : IxR X (rIxL X.K) := by
  intro value slice pins s σ H x y v u Q I rx ry h hs
  obtain ⟨p, xs, i, z, rfl, rfl, hq, he, q⟩ := h
  cases rx
  obtain ⟨t, rfl⟩ := ry
  obtain ⟨its, r, pl, hz⟩ := I.list hq
  obtain ⟨j, h1, h2, h3, h4, h5⟩ := atI_get he
  obtain ⟨w, ew, rw'⟩ := r.get h2
  have hl := r.length
  have hn := line63
  have fin : EP X pins σ Q w s := ⟨z, H, I, rw', q⟩
  by_cases h0 : 0 ≤ i
  · have hj : i.toNat = j := by
      rw [seqIndex_of h0 h5] at h1
      exact Option.some.inj h1
    exact item_listR pl.isList h0 (by omega) (by rw [hj]; simpa using ew) fin hs
  · have hj : (i + (its.toArray.size : Int)).toNat = j := by
      rw [seqIndex_neg (by omega) h4] at h1
      rw [List.size_toArray, ← hl]
      exact Option.some.inj h1
    exact subscriptTail_builtinR (x := w) pl.isList.typeIs slot_list_getitem.lookup
      (wpAny_getItem_list_neg (Q := fun r s' => r = w ∧ EP X pins σ Q r s') pl.isList (by omega) (by rw [List.size_toArray] <;> omega) (by omega) (by rw [hj]; simpa using ew) ⟨rfl, fin⟩) hs
theorem ix_tup : IxR X (rIxT X.K) := by
  intro value slice pins s σ H x y v u Q I rx ry h hs
  obtain ⟨p, xs, i, z, rfl, rfl, hq, he, q⟩ := h
  cases rx
  obtain ⟨t, rfl⟩ := ry
  obtain ⟨its, r, pl, hz⟩ := I.tuple hq
  obtain ⟨j, h1, h2, h3, h4, h5⟩ := atI_get he
  obtain ⟨w, ew, rw'⟩ := r.get h2
  have hl := r.length
  have hn := line63
  have fin : EP X pins σ Q w s := ⟨z, H, I, rw', q⟩
  exact subscriptTail_builtinR (x := w) pl.typeIs slot_tuple_getitem.lookup
    (getItem_tuple (j := j) (Q := fun r s' => r = w ∧ EP X pins σ Q r s') pl (by omega) (by omega) (by rw [List.size_toArray, ← hl]; exact h1) (by simpa using ew) ⟨rfl, fin⟩) hs
/-- list, tuple or str -/
def rIx (K : PySem.W.Frag) : R2 := fun x y H Q => rIxL K x y H Q ∨ rIxT K x y H Q ∨ rIxS x y H Q
/-! ### xs[i] = v, any sign -/
/-- the list's object behind a store -/
theorem mapSeq_set (its : List Value) (n j : Nat) (u : Value) : Obj.mapSeq (·.setIfInBounds j u) { cls := .type "list", data := .seq its.toArray n } = { cls := .type "list", data := .seq (its.set j u).toArray n } := by
  simp [Obj.mapSeq]
theorem Inv.lst {pins : List (Addr × Obj)} {σ : St} {H : Hp} {s : Shared} {p : Addr} {xs : List V} (I : Inv X pins σ H s) (h : H p = some (.lst xs)) :
    ∃ (its : List Value) (n : Nat), Vals xs its ∧ s.heap.get? p = some { cls := .type "list", data := .seq its.toArray n } ∧ xs.length ≤ sizeLine := by
  obtain ⟨z, its, n, r, e⟩ := I.hok p _ h
  exact ⟨its, n, r, e, z⟩
/-- the list at p is written by an update of its object -/
theorem Inv.lstUpd {pins : List (Addr × Obj)} {σ : St} {H : Hp} {s : Shared} {p : Addr} {xs ys : List V} {its its' : List Value} {n n' : Nat} {f : Obj → Obj} (I : Inv X pins σ H s) (h : H p = some (.lst xs))
    (ho : s.heap.get? p = some { cls := .type "list", data := .seq its.toArray n }) (hf : f { cls := .type "list", data := .seq its.toArray n } = { cls := .type "list", data := .seq its'.toArray n' }) (r : Vals ys its') (hz : ys.length ≤ sizeLine) (t : Nat) :
    Inv X pins σ (upd H p (.lst ys)) { s with heap := s.heap.update p f, toks := t } := by
  have e : (s.heap.update p f).get? p = some { cls := .type "list", data := .seq its'.toArray n' } := by
    rw [Heap.get?_update_self f ho (by rw [hf] <;> rfl), hf]
  refine I.write (x := p) (e := p) (by rw [h]; trivial) (.inl rfl) (fun b u hb q => (Heap.get?_update_other _ _ (Ne.symm hb)).trans q) ⟨_, e⟩ ?_
  exact ⟨hz, its', n', r, e⟩
def rSetL : V → V → V → Hp → (Hp → Prop) → Prop := fun o i v H Q => ∃ p xs k j, o = .ref p ∧ i = .int k ∧ H p = some (.lst xs) ∧ ixN xs.length k = some j ∧ Q (upd H p (.lst (xs.set j v)))
theorem set_list : PSet X rSetL := by
  intro pins s σ H o i v ov iv u Q I ro ri rv h
  obtain ⟨p, xs, k, j, rfl, rfl, hp, hj, q⟩ := h
  cases ro
  obtain ⟨t, rfl⟩ := ri
  obtain ⟨its, n, r, ho, hz⟩ := I.lst hp
  obtain ⟨h1, h2, h3, h4⟩ := ixN_seq hj
  have hl := r.length
  have hn := line63
  have I' : Inv X pins σ (upd H p (.lst (xs.set j v))) { s with heap := s.heap.update p (Obj.mapSeq (·.setIfInBounds j u)) } :=
    I.lstUpd hp ho (mapSeq_set its n j u) (r.set rv j) (by rw [List.length_set]; exact hz) s.toks
  by_cases h0 : 0 ≤ k
  · have hk : k.toNat = j := by
      rw [seqIndex_of h0 h4] at h1
      exact Option.some.inj h1
    exact PySem.W.ki_setAt ho h0 (by omega) (by rw [List.size_toArray, ← hl]; exact h4) (by rw [hk]; exact ⟨_, I', q⟩)
  · have hk : (k + (its.toArray.size : Int)).toNat = j := by
      rw [seqIndex_neg (by omega) h3] at h1
      rw [List.size_toArray, ← hl]
      exact Option.some.inj h1
    exact PySem.W.ki_setBack ho (by omega) (by rw [List.size_toArray, ← hl]; exact h3) (by omega) (by rw [hk]; exact ⟨_, I', q⟩)

/-! ### slices -/
theorem slice_bounds (lo hi : Option Int) (n : Nat) : (sliceBounds lo hi none n).1 = ((HT.sIx n 0 lo : Nat) : Int) ∧ (sliceBounds lo hi none n).2.1 = ((HT.sIx n n hi : Nat) : Int) ∧ (sliceBounds lo hi none n).2.2 = 1 := by
  refine ⟨?_, ?_, rfl⟩
  · cases lo with
    | none => simp [sliceBounds, HT.sIx]
    | some i =>
      simp only [sliceBounds, HT.sIx, Option.getD_none, show (1 : Int) > 0 by decide, if_true]
      by_cases h : i < 0
      · simp only [h, if_true] <;> omega
      · simp only [h, if_false] <;> omega
  · cases hi with
    | none => simp [sliceBounds, HT.sIx]
    | some i =>
      simp only [sliceBounds, HT.sIx, Option.getD_none, show (1 : Int) > 0 by decide, if_true]
      by_cases h : i < 0
      · simp only [h, if_true] <;> omega
      · simp only [h, if_false] <;> omega
theorem slicePick_cut (its : List Value) (lo hi : Option Int) : slicePick its.toArray lo hi none = ((its.drop (HT.sIx its.length 0 lo)).take (HT.sIx its.length its.length hi - HT.sIx its.length 0 lo)).toArray := by
  obtain ⟨h1, h2, h3⟩ := slice_bounds lo hi its.toArray.size
  unfold slicePick
  rw [h1, h2, h3]
  simp only [sliceRange_one, pick_run, List.size_toArray] <;> rfl
/-- xs[lo:hi] of a list: a new list -/
def rSlL (K : PySem.W.Frag) : V → Option Int → Option Int → Hp → VK → Prop := fun x lo hi H Q => ∃ a xs, x = .ref a ∧ SqL K H a xs ∧ ∀ p, H p = none → Q (.ref p) (upd H p (.lst (cutV xs lo hi)))
theorem sl_list : SlR X (rSlL X.K) := by
  intro pins s σ H x v vl vu lo hi sl Q I rx hs pl pu h
  obtain ⟨a, xs, rfl, hx, q⟩ := h
  cases rx
  obtain ⟨its, r, ht, hz⟩ := I.list hx
  have hlen := r.length
  refine ⟨"list", _, slot_list_getitem.lookup, ht.isList.typeIs, ?_⟩
  refine wpAny_getItem_list_slice ht.isList hs pl pu .none (by simp) ?_ (by rw [List.size_toArray] <;> omega)
  rw [slicePick_cut, ← hlen]
  refine ⟨.ref s.heap.objs.size, _, I.laid (t' := s.toks) (o := .lst (cutV xs lo hi)) (fun b ob q => Heap.get?_push_of_some _ q) (Nat.le_refl _) ?_, rfl, q _ (I.hok.fresh (Nat.le_refl _))⟩
  exact ⟨Nat.le_trans (cutV_length xs lo hi) hz, _, 0, (r.drop (HT.sIx xs.length 0 lo)).take (HT.sIx xs.length xs.length hi - HT.sIx xs.length 0 lo), Heap.get?_push_size _ rfl⟩

/-! ### in, not in: flat items -/
def flatV : V → Bool
  | .non => true
  | .bl _ => true
  | .int _ => true
  | .str _ => true
  | _ => false
/-- == of flat values -/
def eqV : V → V → Bool
  | .non, .non => true
  | .bl a, .bl b => a == b
  | .bl a, .int b => (if a then 1 else 0) == b
  | .int a, .bl b => a == (if b then 1 else 0)
  | .int a, .int b => a == b
  | .str a, .str b => a == b
  | _, _ => false
theorem eqAt_V {A : Around} {s : Shared} {y x : V} {u v : Value} (ry : RelV y u) (rx : RelV x v) (fy : flatV y = true) (fx : flatV x = true) : SeqAt.EqAt A s u v (eqV y x) := by
  cases y with
  | non =>
    cases ry
    cases x with
    | non => cases rx; exact SeqAt.EqAt.same _
    | bl b => cases rx; exact SeqAt.EqAt.none_bool b
    | int b => obtain ⟨t, rfl⟩ := rx; exact SeqAt.EqAt.none_int b t
    | str b => obtain ⟨t, rfl⟩ := rx; exact SeqAt.EqAt.none_str b t
    | _ => exact absurd (show false = true from fx) Bool.false_ne_true
  | bl a =>
    cases ry
    cases x with
    | non => cases rx; exact SeqAt.EqAt.bool_none a
    | bl b => cases rx; exact SeqAt.EqAt.bool_bool a b
    | int b => obtain ⟨t, rfl⟩ := rx; exact SeqAt.EqAt.bool_int a b t
    | str b => obtain ⟨t, rfl⟩ := rx; exact SeqAt.EqAt.bool_str a b t
    | _ => exact absurd (show false = true from fx) Bool.false_ne_true
  | int a =>
    obtain ⟨t', rfl⟩ := ry
    cases x with
    | non => cases rx; exact SeqAt.EqAt.int_none a t'
    | bl b => cases rx; exact SeqAt.EqAt.int_bool a t' b
    | int b => obtain ⟨t, rfl⟩ := rx; exact SeqAt.EqAt.int_int a t' b t
    | str b => obtain ⟨t, rfl⟩ := rx; exact SeqAt.EqAt.int_str a t' b t
    | _ => exact absurd (show false = true from fx) Bool.false_ne_true
  | str a =>
    obtain ⟨t', rfl⟩ := ry
    cases x with
    | non => cases rx; exact SeqAt.EqAt.str_none a t'
    | bl b => cases rx; exact SeqAt.EqAt.str_bool a t' b
    | int b => obtain ⟨t, rfl⟩ := rx; exact SeqAt.EqAt.str_int a t' b t
    | str b => obtain ⟨t, rfl⟩ := rx; exact SeqAt.EqAt.str_str a t' b t
    | _ => exact absurd (show false = true from fx) Bool.false_ne_true
  | _ => exact absurd (show false = true from fy) Bool.false_ne_true
/-- the items' answers, read off the values (a value's own answer does not lean on its token) -/
def eqU (x : V) (u : Value) : Bool := match u with
  | .none => eqV .non x
  | .bool b => eqV (.bl b) x
  | .int i _ => eqV (.int i) x
  | .str z _ => eqV (.str z) x
  | _ => false
def inV (x : V) (xs : List V) : Bool := xs.any fun y => eqV y x
/-- x in a list or tuple of flat items -/
def rIn (K : PySem.W.Frag) (neg : Bool) : R2 := fun x y H Q => ∃ p xs, y = .ref p ∧ (SqL K H p xs ∨ SqT K H p xs) ∧ flatV x = true ∧ xs.all flatV = true ∧ Q (.bl (if neg then !inV x xs else inV x xs)) H
/-! ### len, list(x), tuple(x) of any list or tuple that is read -/
theorem call_len_seq : CallR X (.builtin "len") (fun xs H Q => ∃ p ys, xs = [.ref p] ∧ (SqL X.K H p ys ∨ SqT X.K H p ys) ∧ Q (.int ys.length) H) := by
  intro pins s σ H xs us Q I r h
  obtain ⟨p, ys, rfl, hq, q⟩ := h
  obtain ⟨u, rfl, rx⟩ := vals1 r
  cases rx
  have hn := line63
  rcases hq with hq | hq
  · obtain ⟨its, r', pl, hz⟩ := I.list hq
    have hlen := r'.length
    exact Calls.call_len_list pl.isList (by simp only [List.size_toArray] <;> omega) ⟨.int ys.length, H, I.tok _, ⟨s.toks + 1, by rw [List.size_toArray, hlen]⟩, q⟩
  · obtain ⟨its, r', pl, hz⟩ := I.tuple hq
    have hlen := r'.length
    exact len_tuple pl (by simp only [List.size_toArray] <;> omega) ⟨.int ys.length, H, I.tok _, ⟨s.toks + 1, by rw [List.size_toArray, hlen]⟩, q⟩
theorem CallR.or {f : Value} {r r' : List V → Hp → VK → Prop} (h : CallR X f r) (h' : CallR X f r') : CallR X f (fun xs H Q => r xs H Q ∨ r' xs H Q) := by
  intro pins s σ H xs us Q I rs q
  rcases q with q | q
  · exact h pins s σ H xs us Q I rs q
  · exact h' pins s σ H xs us Q I rs q
theorem call_list_of : CallR X (.type "list") (fun xs H Q => ∃ p ys, xs = [.ref p] ∧ (SqL X.K H p ys ∨ SqT X.K H p ys) ∧ ∀ l, H l = none → Q (.ref l) (upd H l (.lst ys))) := by
  intro pins s σ H xs us Q I r h
  obtain ⟨p, ys, rfl, hq, q⟩ := h
  obtain ⟨u, rfl, rx⟩ := vals1 r
  cases rx
  have fin : ∀ (its : List Value), Vals ys its → ys.length ≤ sizeLine → ∀ (h' : Heap) (c' : Nat), (∀ b o', s.heap.get? b = some o' → h'.get? b = some o') →
      h'.get? s.heap.objs.size = some { cls := .type "list", dict := none, data := .seq its.toArray c', slots := #[] } → EP X pins σ Q (.ref s.heap.objs.size) { s with heap := h' } := fun its r' hz h' c' kp e =>
    ⟨.ref s.heap.objs.size, _, I.laid (t' := s.toks) kp (Nat.le_refl _) (show ObjOk X.prog X.w _ h' _ (.lst ys) from ⟨hz, its, c', r', e⟩), rfl, q _ (I.hok.fresh (Nat.le_refl _))⟩
  rcases hq with hq | hq
  · obtain ⟨its, r', pl, hz⟩ := I.list hq
    have hlen := r'.length
    obtain ⟨o, ho, hc, n, hd⟩ := pl.isList
    exact call_list_seq p (.inl rfl) ho hc hd (fun h' c' kp e => fin its r' hz h' c' kp e) (by simp only [List.size_toArray] <;> omega)
  · obtain ⟨its, r', pl, hz⟩ := I.tuple hq
    have hlen := r'.length
    obtain ⟨o, ho, hc, n, hd⟩ := pl
    exact call_list_seq p (.inr rfl) ho hc hd (fun h' c' kp e => fin its r' hz h' c' kp e) (by simp only [List.size_toArray] <;> omega)
/-! ### the call of a builtin's method: o.m(..) -/
/-- the value is of that builtin type -/
def tyV (K : PySem.W.Frag) (T : String) (x : V) (H : Hp) : Prop := match x with
  | .str _ => T = "str"
  | .int _ => T = "int"
  | .ref p => (T = "list" ∧ ∃ xs, SqL K H p xs) ∨ (T = "tuple" ∧ ∃ o, K.lookup p = some o ∧ o.cls = .type "tuple" ∧ o.dict = none) ∨
      (T = "dict" ∧ ((∃ kvs, H p = some (.dK kvs)) ∨ ∃ kvs, H p = some (.dT kvs))) ∨ (T = "set" ∧ ∃ S n, H p = some (.set S n))
  | _ => False
theorem tyV_is {pins : List (Addr × Obj)} {σ : St} {H : Hp} {s : Shared} {T : String} {x : V} {v : Value} (I : Inv X pins σ H s) (r : RelV x v) (ty : tyV X.K T x H) :
    s.TypeIs v T ∧ ∀ a, v = .ref a → ∃ ob, s.heap.get? a = some ob ∧ ob.dict = none := by
  cases x with
  | str z =>
    obtain ⟨t, rfl⟩ := r
    cases (show T = "str" from ty)
    exact ⟨typeIs_str s z t, fun _ e => nomatch e⟩
  | int i =>
    obtain ⟨t, rfl⟩ := r
    cases (show T = "int" from ty)
    exact ⟨typeIs_int s i t, fun _ e => nomatch e⟩
  | ref p =>
    cases r
    rcases ty with ⟨rfl, xs, hq⟩ | ⟨rfl, o, hk, hc, hd⟩ | ⟨rfl, hk⟩ | ⟨rfl, S, n, hk⟩
    · obtain ⟨its, _, pl, _⟩ := I.list hq
      refine ⟨pl.isList.typeIs, fun a e => ?_⟩
      cases e
      obtain ⟨o, n, e, c, hd, _⟩ := pl
      exact ⟨o, e, hd⟩
    · refine ⟨⟨o, I.kIn p o hk, hc⟩, fun a e => ?_⟩
      cases e
      exact ⟨o, I.kIn _ o hk, hd⟩
    · have z : ∃ o, s.heap.get? p = some o ∧ o.ExactDict := by
        rcases hk with ⟨kvs, hk⟩ | ⟨kvs, hk⟩
        · obtain ⟨_, _, _, _, o, _, _, e, ex, _⟩ := I.hok p _ hk
          exact ⟨o, e, ex⟩
        · obtain ⟨_, _, _, _, o, _, _, e, ex, _⟩ := I.hok p _ hk
          exact ⟨o, e, ex⟩
      obtain ⟨o, e, ex⟩ := z
      refine ⟨⟨o, e, ex.1⟩, fun a e2 => ?_⟩
      cases e2
      exact ⟨o, e, ex.2.1⟩
    · obtain ⟨o, _, _, _, e, ex, _⟩ := I.hok p _ hk
      refine ⟨⟨o, e, ex.1⟩, fun a e2 => ?_⟩
      cases e2
      exact ⟨o, e, ex.2.1⟩
  | _ => exact False.elim ty
def tBM0 (K : PySem.W.Frag) (T : String) (r : V → List V → Hp → VK → Prop) (to : TE) : TE := fun σ H Q => to σ H fun x H1 => tyV K T x H1 ∧ r x [] H1 Q
def tBM (K : PySem.W.Frag) (T : String) (r : V → List V → Hp → VK → Prop) (to : TE) (t : TA) : TE := fun σ H Q => to σ H fun x H1 => tyV K T x H1 ∧ t σ H1 fun xs H2 => r x xs H2 Q
variable {o e : Expr} {es : List Expr} {to : TE} {t : TA} {name : Str} {apos cpos : Pos} {T id : String} {r : V → List V → Hp → VK → Prop}
theorem pe_bm (pa : PlainAttrs T) (slot : Slot T name id) (hty : typeOf (.builtin id) = pure (.type "method_descriptor")) (hm : MtR X id r) (ho : PE X o to) (ha : PA X (e :: es) t)
    (hbase : attributeBase o name X.env (eval o X.env) = eval o X.env := by rfl)
    (hfew : ((backTo cpos (starEach (e :: es) X.env)).all (fun x => !x.1) && (backToKw cpos (keywordEach [] X.env)).all (fun x => x.1.isSome)
      && decide ((e :: es).length + ([] : List Keyword).length + (if ([] : List Keyword).isEmpty then 0 else 1) < 30)) = true := by rfl)
    (hline : (apos.endLine == cpos.line) = true := by rfl) (hs : starEach (e :: es) X.env = (false, eval e X.env) :: starEach es X.env := by rfl) (hplain : (backTo cpos (starEach es X.env)).any (·.1) = false := by rfl) :
    PE X (.Call (.Attribute o name apos) (e :: es) [] cpos) (tBM X.K T r to t) := by
  intro pins s σ H Q I h
  refine wpAny_Call_method_late hbase hfew hline rfl (thn (ho pins s σ H _ I h) fun v s1 ⟨x, H1, I1, r1, ty, q1⟩ => ?_)
  obtain ⟨h1, h2⟩ := tyV_is I1 r1 ty
  refine ⟨T, id, pa, slot, hty, h1, h2, ?_⟩
  have hA := ha cpos pins s1 σ H1 _ I1 q1
  rw [hs] at hA ⊢
  refine Calls.callWith_builtin (by show (false || (backTo cpos (starEach es X.env)).any (·.1)) = false; rw [hplain] <;> rfl) (Calls.evalArgs_plain ?_)
  exact thn hA fun us s2 ⟨vs, H2, I2, r2, q2⟩ => hm pins s2 σ H2 x vs v us Q I2 r1 r2 q2
/- xs.append(e), list.index on a module's tuple .. are MtR facts of 06m -/
end
end L2

namespace L2
open PySem PySem.Spec PyProof.Rows

def MtM (X : Cx) (id : String) (r : V → List V → Hp → VK → Prop) : Prop :=
  ∀ (pins : List (Addr × Obj)) (s : Shared) (σ : St) (H : Hp) (x : V) (xs : List V) (v : Value) (us : List Value) (Q : VK), Inv X pins σ H s → RelV x v → Vals xs us → r x xs H Q →
    wpAny (model X.prog X.w) X.A (call (.builtin id) (v :: us)) (EP X pins σ Q) X.xe s

/-! ### lists of values -/
theorem Vals.one : ∀ {x : V} {us : List Value}, Vals [x] us → ∃ u, us = [u] ∧ RelV x u
  | _, _, .cons r .nil => ⟨_, rfl, r⟩
theorem Vals.two : ∀ {x y : V} {us : List Value}, Vals [x, y] us → ∃ u v, us = [u, v] ∧ RelV x u ∧ RelV y v
  | _, _, _, .cons r (.cons q .nil) => ⟨_, _, rfl, r, q⟩
theorem Vals.zero : ∀ {us : List Value}, Vals [] us → us = []
  | _, .nil => rfl
theorem Vals.dropLast {xs : List V} {us : List Value} (h : Vals xs us) : Vals xs.dropLast us.dropLast := by
  induction h with
  | nil => exact .nil
  | cons r t ih =>
    cases t with
    | nil => exact .nil
    | cons q t' => exact .cons r ih
theorem Vals.eraseIdx : ∀ {xs : List V} {us : List Value} (i : Nat), Vals xs us → Vals (xs.eraseIdx i) (us.eraseIdx i)
  | _, _, _, .nil => .nil
  | _, _, 0, .cons _ t => t
  | _, _, i + 1, .cons r t => .cons r (Vals.eraseIdx i t)
theorem Vals.reverse {xs : List V} {us : List Value} (h : Vals xs us) : Vals xs.reverse us.reverse := by
  induction h with
  | nil => exact .nil
  | cons r t ih => rw [List.reverse_cons, List.reverse_cons]; exact Vals.append ih (.cons r .nil)
theorem Vals.rep {xs : List V} {us : List Value} (h : Vals xs us) : ∀ k : Nat, Vals (List.replicate k xs).flatten (List.replicate k us).flatten
  | 0 => .nil
  | k + 1 => by
    rw [List.replicate_succ, List.replicate_succ, List.flatten_cons, List.flatten_cons]
    exact Vals.append h (Vals.rep h k)
theorem foldl_rep (its : List Value) : ∀ (k : Nat) (acc : List Value),
    List.foldl (fun x1 x2 => x1 ++ x2) acc.toArray (List.replicate k its.toArray) = (acc ++ (List.replicate k its).flatten).toArray
  | 0, acc => by simp
  | k + 1, acc => by
    have e : acc.toArray ++ its.toArray = (acc ++ its).toArray := by simp
    have e2 : (acc ++ its) ++ (List.replicate k its).flatten = acc ++ (List.replicate (k + 1) its).flatten := by
      rw [List.replicate_succ, List.flatten_cons, List.append_assoc]
    rw [← e2, ← foldl_rep its k (acc ++ its), ← e, List.replicate_succ, List.foldl_cons]

section
variable {X : Cx} {pins : List (Addr × Obj)} {σ : St} {H : Hp} {s : Shared} {l b : Addr} {xs ys zs : List V}

/-! ### the two steps: a tracked list is rewritten, a new list is laid -/
theorem Inv.lset {its its' : List Value} {n : Nat} {f : Array Value → Array Value} {t' : Nat} (I : Inv X pins σ H s) (hH : H l = some (.lst xs))
    (e : s.heap.get? l = some { cls := .type "list", data := .seq its.toArray n }) (hf : f its.toArray = its'.toArray) (hv : Vals ys its') (hz : ys.length ≤ sizeLine) :
    Inv X pins σ (upd H l (.lst ys)) { s with heap := s.heap.update l (Obj.mapSeq f), toks := t' } := by
  have q := PySem.IsL.update e f
  rw [hf] at q
  refine I.write (x := l) (e := l) (by rw [hH]; exact trivial) (.inl rfl) (fun b' u hb hu => (Heap.get?_update_other s.heap (Obj.mapSeq f) (Ne.symm hb)).trans hu) ⟨_, q⟩ ?_
  exact ⟨hz, its', _, hv, q⟩
theorem Inv.lnew {its : List Value} {t' : Nat} (I : Inv X pins σ H s) (hv : Vals ys its) (hz : ys.length ≤ sizeLine) :
    Inv X pins σ (upd H s.heap.objs.size (.lst ys)) { s with heap := s.heap.push { cls := .type "list", data := .seq its.toArray }, toks := t' } :=
  I.laid (fun _ _ q => Heap.get?_push_of_some _ q) (Nat.le_refl _) ⟨hz, its, 0, hv, Heap.get?_push_size _ rfl⟩
theorem Inv.fresh (I : Inv X pins σ H s) : H s.heap.objs.size = none := I.hok.fresh (Nat.le_refl _)
theorem Inv.lstM (I : Inv X pins σ H s) (hH : H l = some (.lst xs)) : xs.length ≤ sizeLine ∧ ∃ (its : List Value) (n : Nat), Vals xs its ∧ xs.length = its.length ∧ s.heap.get? l = some { cls := .type "list", data := .seq its.toArray n } := by
  obtain ⟨z, its, n, r, e⟩ := I.hok l _ hH
  exact ⟨z, its, n, r, r.length, e⟩

theorem notLongL {n : Nat} (h : n ≤ sizeLine) : Builtin.List.listTooLong n = false := by
  unfold Builtin.List.listTooLong
  exact decide_eq_false (by omega)
end

section
variable {X : Cx}

/-! ### methods -/
def rAppend : V → List V → Hp → VK → Prop := fun x vs H Q => ∃ l xs y, x = .ref l ∧ vs = [y] ∧ H l = some (.lst xs) ∧ xs.length < sizeLine ∧ Q .non (upd H l (.lst (xs ++ [y])))
theorem mt_append : MtM X "list.append" rAppend := by
  intro pins s σ H x vs v us Q I rx rv h
  obtain ⟨l, xs, y, rfl, rfl, hH, hz, q⟩ := h
  cases rx
  obtain ⟨u, rfl, ru⟩ := rv.one
  obtain ⟨z, its, n, r, hl, e⟩ := I.lstM hH
  refine call_meets F.slot_list_append ⟨_, e, rfl⟩ F.entry_list_append (F.args_list_append_2 _ _) (PySem.list_append l its.toArray n u (by rw [List.size_toArray]; omega)) ⟨e, ?_⟩
  refine ⟨.non, _, I.lset (its' := its ++ [u]) hH e (by simp) (r.append (.cons ru .nil)) ?_, rfl, q⟩
  rw [List.length_append, List.length_singleton]
  omega

def rExtend : V → List V → Hp → VK → Prop := fun x vs H Q => ∃ l b xs zs, x = .ref l ∧ vs = [.ref b] ∧ H l = some (.lst xs) ∧ H b = some (.lst zs) ∧ xs.length + zs.length ≤ sizeLine ∧ Q .non (upd H l (.lst (xs ++ zs)))
def rPop : V → List V → Hp → VK → Prop := fun x vs H Q => ∃ l xs y, x = .ref l ∧ vs = [] ∧ H l = some (.lst xs) ∧ xs[xs.length - 1]? = some y ∧ Q y (upd H l (.lst xs.dropLast))
def rPopAt : V → List V → Hp → VK → Prop := fun x vs H Q => ∃ l xs i k y, x = .ref l ∧ vs = [.int i] ∧ H l = some (.lst xs) ∧ -(2 ^ 63) ≤ i ∧ i < 2 ^ 63 ∧ seqIndex? i xs.length = some k ∧ xs[k]? = some y ∧ Q y (upd H l (.lst (xs.eraseIdx k)))
def rReverse : V → List V → Hp → VK → Prop := fun x vs H Q => ∃ l xs, x = .ref l ∧ vs = [] ∧ H l = some (.lst xs) ∧ Q .non (upd H l (.lst xs.reverse))
def rClear : V → List V → Hp → VK → Prop := fun x vs H Q => ∃ l xs, x = .ref l ∧ vs = [] ∧ H l = some (.lst xs) ∧ Q .non (upd H l (.lst []))
/-! ### list + list, list += list, list * int -/
def rCat : R2 := fun x y H Q => ∃ l b xs zs, x = .ref l ∧ y = .ref b ∧ H l = some (.lst xs) ∧ H b = some (.lst zs) ∧ xs.length + zs.length ≤ sizeLine ∧ ∀ p, H p = none → Q (.ref p) (upd H p (.lst (xs ++ zs)))
/-- a list times an int (a negative one is nothing) -/
def rRep : R2 := fun x y H Q => ∃ l k xs, x = .ref l ∧ y = .int k ∧ H l = some (.lst xs) ∧ -(2 ^ 63) ≤ k ∧ k < 2 ^ 63 ∧ xs.length * k.toNat ≤ sizeLine ∧
  ∀ p, H p = none → Q (.ref p) (upd H p (.lst (List.replicate k.toNat xs).flatten))
theorem len_rep {α : Type} (xs : List α) (k : Nat) : (List.replicate k xs).flatten.length = k * xs.length := by
  induction k with
  | zero => simp
  | succ k ih => rw [List.replicate_succ, List.flatten_cons, List.length_append, ih, Nat.succ_mul, Nat.add_comm]
theorem op_rep : OpR X (binaryOp .Mult) rRep := by
  intro pins s σ H x y v u Q I rx ry h
  obtain ⟨l, k, xs, rfl, rfl, hH, h1, h2, hz, q⟩ := h
  cases rx
  obtain ⟨t, rfl⟩ := ry
  obtain ⟨z, its, n, r, hl, e⟩ := I.lstM hH
  have hlen : its.toArray.size * k.toNat ≤ sizeLine := by rw [List.size_toArray, ← hl]; exact hz
  have hcap : ¬ its.toArray.size * k.toNat > (2 ^ 63 - 1) / 8 := by
    have : (sizeLine : Nat) ≤ (2 ^ 63 - 1) / 8 := by decide
    omega
  have hfit : ¬ (!Builtin.List.listFitsIndex k) = true := by
    rw [fitsIndex_both h1 h2]
    exact Bool.false_ne_true
  have hlong : ¬ Builtin.List.listTooLong (its.toArray.size * k.toNat) = true := by
    rw [notLongL hlen]
    exact Bool.false_ne_true
  have hnew : List.foldl (fun x1 x2 => x1 ++ x2) #[] (List.replicate (if its.toArray.isEmpty = true then 0 else k.toNat) its.toArray) = (List.replicate k.toNat its).flatten.toArray := by
    have f0 : ∀ m : Nat, List.foldl (fun x1 x2 => x1 ++ x2) #[] (List.replicate m its.toArray) = (List.replicate m its).flatten.toArray := fun m => by
      have := foldl_rep its m []
      rw [List.nil_append] at this
      exact this
    rw [f0]
    cases its with
    | nil => simp
    | cons a r' => rw [if_neg (by simp)]
  refine wpAny_binaryOp_repeat_ref (T := "list") (U := "int") (by decide) ⟨_, e, rfl⟩ (fun s' => typeIs_int s' k t) noFill_list_mul F.fills_int_mul F.slot_int_rmul repeat_list F.slot_int_index.lookup
    (call_meets F.slot_int_rmul (typeIs_int s k t) F.entry_int_rmul (F.args_int_rmul_2 _ _) (int___rmul___int_list k t l its.toArray n)
      ⟨e, rfl, ⟨_, e, rfl⟩, call_meets F.slot_list_mul ⟨_, e, rfl⟩ F.entry_list_mul (F.args_list_mul_2 _ _) (AutoListH.list___mul___list_int_3 l its.toArray n k t hfit hcap hlong) ⟨e, ?_⟩⟩)
  rw [hnew]
  exact ⟨.ref _, _, I.lnew (t' := s.toks) (r.rep k.toNat) (by rw [len_rep, Nat.mul_comm]; exact hz), rfl, q _ I.fresh⟩

/-! ### del xs[i] -/
end

/-! ### xs[a:b] = ys -/
section
variable {prog : Program} {w : World} {A : Around} {E : Value → Shared → Prop} {s : Shared}
set_option maxRecDepth 100000 in
end

section
variable {X : Cx}
end
end L2

namespace Att
open PySem PySem.W PySem.Calls PyProof.Rows

/-! ### the script -/
theorem ints_of_wellAll {P : Params} {h : Heap} : ∀ (ns : List Int) (vs : List Value), WellAll P h vs (ns.map WData.int) → IntsAre vs ns := by
  intro ns
  induction ns with
  | nil =>
    intro vs w
    rw [List.map_nil] at w
    cases w
    exact .nil
  | cons n ns ih =>
    intro vs w
    rw [List.map_cons] at w
    cases w with
    | cons a b =>
      cases a
      exact .cons _ _ (ih _ b)

theorem script_of {l : OpenLaw} {n : Nat} (hn : l.most = some n) {P : Params} {h : Heap} {args : List WData} {vals : List Value}
    (hpre : l.row.toRowW.claim.pre args = true) (hwl : WellAll P h vals args) :
    ∃ a vs ns, vals = [Value.ref a] ∧ args = [WData.list (ns.map WData.int)] ∧ h.get? a = some { cls := .type "list", data := .seq vs.toArray } ∧ IntsAre vs ns ∧ ns.length ≤ n := by
  have hsh : WShape.hasAll [] args [.list .int] = true := (pre_splitW hpre).1
  have hc : l.pre.holds [] { args := args } = true := (pre_splitW hpre).2
  obtain ⟨d, r, rfl, h1, h2⟩ := hasAllW_cons hsh
  obtain rfl := hasAllW_nil h2
  obtain ⟨xs, rfl, h3⟩ := hasW_list h1
  obtain ⟨ns, rfl⟩ := items_int h3
  have hlen : ns.length ≤ n := by
    unfold OpenLaw.pre at hc
    have h4 : (WTm.not (.lt (.lit (.int (n : Int))) (.len (.arg 0)))).holds [] { args := [.list (ns.map .int)] } = true := by
      have h4 := (holds_andW hc).1
      rw [hn] at h4
      exact h4
    have h5 := condW_of h4 (w_not (w_lt w_lit (w_len_list (w_arg rfl))))
    rw [List.length_map] at h5
    refine Nat.le_of_not_lt fun q => ?_
    have q' : (n : Int) < ((ns.length : Nat) : Int) := by omega
    first
      | (rw [decide_eq_true q'] at h5; exact absurd h5 (by decide))
      | (simp at h5; omega)
  cases hwl with
  | cons w1 w2 =>
    cases w2
    cases w1 with
    | list ho hall => exact ⟨_, _, ns, rfl, rfl, ho, ints_of_wellAll ns _ hall, hlen⟩

theorem post_true (l : OpenLaw) (args : List WData) : l.row.toRowW.claim.post args (.bool true) args = true :=
  postW_of (r := l.row.toRowW) (X := (true == true))
    (show WShape.has [] (.bool true) .bool = true by first | rfl | decide | simp [WShape.has, WShape.arms, WShape.armsAll])
    (show (WTm.eq .res (.lit (.bool true))).value [] { args := args, res := some (.bool true), after := args } = some (.bool (true == true)) from w_eq_bool (w_res rfl) w_lit) rfl

/-! ### the attachment: holds_open's last premise (the goal 'hc' behind k_head) from a wpAny of the law's body -/
/-- the same from a codeAny of the CALL (for a layer whose function contracts speak of calls) -/
theorem attach_call {l : OpenLaw} {n : Nat} {q : Program} {loose : List Str} {XP : (Str → Option Value) → Heap → Prop} {YP : World → Heap → Prop} {d : DefRec}
    (hn : l.most = some n) (hdf : d.params.defaults = [])
    (call : ∀ (w : World) (s₀ s₁ : Shared) (mg mb : Str → Option Value) (fa : Addr) (o : Obj) (pm cd doc : Value) (a : Addr) (vs : List Value) (ns : List Int),
      Ground q loose [] XP w s₀ mg mb s₁.heap → YP w s₁.heap →
      s₁.heap.get? fa = some o → o.data = .func (docDef d.name d.params d.body d.scope pm cd doc) → s₁.heap.CodeRec cd d.name → mg d.name = some (.ref fa) →
      s₁.heap.get? a = some { cls := .type "list", data := .seq vs.toArray } → IntsAre vs ns → ns.length ≤ n → s₁.gens = #[] →
      codeAny (model l.prog w) callerA (.call (.ref fa) ⟨[.ref a], []⟩) (fun r s' => r = .ok (.ret (.bool true)) ∧ OldK s₁.heap s'.heap ∧ s'.os = s₁.os ∧ AllBare s'.gens) s₁) :
    WalkO q loose XP YP l.row.toRowW d [] (fun f vs => PySem.call f vs) := by
  intro w s₀ s₁ mg mb G Y fa o pm cd doc dV kV ho hd hcd hD hmg hg args vals as hpre hlay hrd hwl hlo
  obtain rfl : dV = .none := Dflts.none hD hdf
  obtain rfl : kV = .none := Dflts.noKw hD
  obtain ⟨a, vs, ns, rfl, rfl, hobj, hints, hlen⟩ := script_of hn hpre hwl
  refine enter_call (codeAny_mono (call w s₀ s₁ mg mb fa o pm cd doc a vs ns G Y ho (fd_plain hd) hcd hmg hobj hints hlen hg) fun r s' hq => ?_)
  obtain ⟨rfl, h2, h3, h4⟩ := hq
  exact ⟨.inl ⟨.bool true, .bool true, [], rfl, fun _ => rfl, .bool true, post_true l _, fun _ => ⟨List.Pairwise.nil, fun _ hm => (nomatch hm)⟩⟩, h2, h3, h4⟩

/-! ### rules over ANY heap (no ledger) from facts about the written part K: the library's own take a ledger (News) for what they write -/
section
variable {prog : Program} {w : World} {A : Around} {E : Value → Shared → Prop} {s : Shared} {K : Frag}

/-! the whole heap as the ledger: makes every rule that writes through a ledger a rule over any heap -/
def noObjs (h : Heap) : Heap := { h with objs := #[] }
def ledger (h : Heap) (L d : Addr) : List (Addr × Obj) := (List.range h.objs.size).filterMap fun a => if a = L ∨ a = d then none else (h.get? a).map fun o => (a, o)
end
end Att

namespace L2
open PySem PySem.Spec PyProof.Rows

theorem vals_ints : ∀ {vs : List Value} {ns : List Int}, IntsAre vs ns → Vals (ns.map V.int) vs
  | _, _, .nil => .nil
  | _, _, .cons n t h => .cons ⟨t, rfl⟩ (vals_ints h)

/-- nothing is tracked but the script, known to the object (or it is an object of the module) -/
def Only (H : Hp) : Prop := ∀ b, H b = none ∨ ∃ o xs, H b = some (.frz o (.lst xs))

/-- THE HEAD: the law's promise, at the heap behind the top. F, the promise of the law's def, may use that base is part of the heap (so K.In base, base.Ns mainGlobals mg stand in Mod) -/
theorem law_call {P : Program} {w : World} {K : PySem.W.Frag} {mg mb : Str → Option Value} {CX : CXT} {k : Nat} {fa a : Addr} {fd : FuncData} {x : Str} {sp : Sp} {s₁ : Shared} {vs : List Value} {ns : List Int}
    (KX : K.In s₁.heap) (hns : s₁.heap.Ns mainGlobals mg) (hb : s₁.heap.Ns builtinsNs mb) (hbb : ∀ x : Str, x ≠ "__name__" → mb x = bootBuiltins x) (hlim : s₁.heap.NoLimit) (hg : s₁.gens = #[])
    (ha : s₁.heap.get? a = some { cls := .type "list", data := .seq vs.toArray }) (hi : IntsAre vs ns) (hl : ns.length ≤ sizeLine) (hr : Room k callerA)
    (F : ∀ base : Heap, K.In base → base.Ns mainGlobals mg → FnOk P w K mg base CX k fa fd [x] sp) (hbind : ∀ (s : Shared) (u : Value), BindsTo s fd ⟨[u], []⟩ [(x, u)])
    (hsp : ∀ H : Hp, Only H → SqL K H a (ns.map V.int) → sp [.ref a] H (fun v _ => v = .bl true) fun _ _ _ => False)
    (hCX : ∀ H e s', CX [] H s₁ (fun _ _ _ => False) e s' → False) :
    codeAny (model P w) callerA (.call (.ref fa) ⟨[.ref a], []⟩) (fun r s' => r = .ok (.ret (.bool true)) ∧ OldK s₁.heap s'.heap ∧ s'.os = s₁.os ∧ AllBare s'.gens) s₁ := by
  have rv := vals_ints hi
  have lenV := hi.length
  -- from an abstract heap in which nothing but the script may be tracked
  have core : ∀ H : Hp, Only H → SqL K H a (ns.map V.int) → HOk P w H s₁.heap → (∀ b, H b ≠ none → b = a) → (H a ≠ none → K.lookup a = none) →
      codeAny (model P w) callerA (.call (.ref fa) ⟨[.ref a], []⟩) (fun r s' => r = .ok (.ret (.bool true)) ∧ OldK s₁.heap s'.heap ∧ s'.os = s₁.os ∧ AllBare s'.gens) s₁ := by
    intro H hO hS hok hA hK
    have base_of : ∀ {b : Addr} {o : Obj}, s₁.heap.get? b = some o → H b = none → (hidT s₁.heap H).get? b = some o := fun e n => hidT_get e n
    have noA : ∀ {b : Addr} {o : Obj} {es : Array DictEntry} {ep : Nat}, s₁.heap.get? b = some o → o.data = .dict es ep → H b = none := fun {b o es ep} e d => by
      cases q : H b with
      | none => rfl
      | some u =>
        have e' : b = a := hA b (by rw [q]; simp)
        subst e'
        rw [ha] at e; cases e
        have d' : Data.seq vs.toArray _ = Data.dict es ep := d
        cases d'
    have nsK : ∀ {b : Addr} {m : Str → Option Value}, s₁.heap.Ns b m → (hidT s₁.heap H).Ns b m := fun {b m} ⟨o, es, ep, e, d, r⟩ => ⟨o, es, ep, base_of e (noA e d), d, r⟩
    have hKb : K.In (hidT s₁.heap H) := fun b o e => base_of (KX b o e) (by
      cases q : H b with
      | none => rfl
      | some u =>
        have e' : b = a := hA b (by rw [q]; simp)
        subst e'
        rw [hK (by rw [q]; simp)] at e; cases e)
    have hM : Mod K mg (hidT s₁.heap H) := ⟨hKb, nsK hns, ⟨mb, nsK hb, hbb⟩, let ⟨mc, h1, h2⟩ := hlim; ⟨mc, nsK h1, h2⟩⟩
    have e0 : Env0 P w K mg (hidT s₁.heap H) callerA [] s₁ H := ⟨rfl, hM, fun b o e => of_hidT e, Nat.le_of_eq (hidT_size _ _), trivial, fun b hb => absurd (show b ∈ ([] : List Addr) from hb) (by simp), hok, .of_eq hg⟩
    refine codeAny_mono ((F _ hKb (nsK hns)).run callerA [] s₁ H ⟨[.ref a], []⟩ [.ref a] [.ref a] _ _ hr e0 (hbind s₁ (.ref a)) (.cons rfl .nil) (hsp H hO hS)) fun r s' h => ?_
    cases r with
    | error e => exact (hCX H e s' h).elim
    | ok fl =>
      cases fl with
      | next => exact False.elim h
      | brk => exact False.elim h
      | cont => exact False.elim h
      | ret u =>
        obtain ⟨v, H', os, bare, un, hok', r', q⟩ := h
        have q' : v = .bl true := q
        subst q'
        obtain rfl : u = Value.bool true := r'
        refine ⟨rfl, OldK.of_keep fun b o e => ?_, os, bare⟩
        cases q : H b with
        | none => exact un.keep b o e q (by intro z; exact absurd (show b ∈ ([] : List Addr) from z) (by simp)) (by simp)
        | some u =>
          rcases hO b with z | ⟨ob, xs, z⟩
          · rw [q] at z; cases z
          · have z2 := un.frzs b ob _ z
            obtain ⟨e1, _⟩ := hok b _ z
            obtain ⟨e2, _⟩ := hok' b _ z2
            rw [e] at e1; cases e1
            exact e2
  cases hk : K.lookup a with
  | some o =>
    -- the script is one of the module's own objects
    have e := KX a o hk
    rw [ha] at e
    cases e
    refine core (fun _ => none) (fun _ => .inl rfl) (.inr ⟨_, vs.toArray, _, hk, rfl, rfl, rfl, by rw [List.size_toArray, lenV]; exact hl, by simpa using rv⟩) (fun b u z => by have z' : (none : Option HO) = some u := z; cases z') (fun b z => absurd rfl z) fun z => absurd rfl z
  | none =>
    refine core (fun b => if b = a then some (.frz { cls := .type "list", data := .seq vs.toArray } (.lst (ns.map V.int))) else none) (fun b => ?_) (.inl (.inr ⟨{ cls := .type "list", data := .seq vs.toArray }, if_pos rfl⟩)) (fun b u z => ?_) (fun b z => ?_) fun _ => hk
    · by_cases hb : b = a
      · exact .inr ⟨_, _, if_pos hb⟩
      · exact .inl (if_neg hb)
    · by_cases hb : b = a
      · have z' := (if_pos hb).symm.trans z
        cases z'
        subst hb
        exact ⟨ha, by rw [List.length_map]; exact hl, vs, _, rv, ha⟩
      · have z' := (if_neg hb).symm.trans z
        cases z'
    · by_cases hb : b = a
      · exact hb
      · exact absurd (if_neg hb) z
end L2

namespace L2
open PySem PySem.Spec PyProof.Rows

abbrev KOf {K : PySem.W.Frag} {h : Heap} (_ : K.In h) : PySem.W.Frag := K

/-- the goal that k_head leaves (case hc), from the law's promise. F gives the function object fd (K's own) once, then the promise over every base -/
theorem walk_of {l : PySem.W.OpenLaw} {n k : Nat} {q : Program} {loose : List Str} {XP : (Str → Option Value) → Heap → Prop} {YP : World → Heap → Prop} {d : DefRec} {K : Params → PySem.W.Frag} {CX : World → CXT} {sp : World → Sp} {x : Str}
    (hn : l.most = some n) (hn2 : n ≤ sizeLine) (hdf : d.params.defaults = []) (hr : Room k callerA)
    (hY : ∀ (w : World) (h : Heap), YP w h → (K w.params).In h)
    (F : ∀ (w : World) (mg : Str → Option Value) (fa : Addr) (h : Heap), (K w.params).In h → h.Ns mainGlobals mg → mg d.name = some (.ref fa) →
      ∃ fd : FuncData, (∀ (s : Shared) (u : Value), BindsTo s fd ⟨[u], []⟩ [(x, u)]) ∧
        ∀ base : Heap, (K w.params).In base → base.Ns mainGlobals mg → FnOk l.prog w (K w.params) mg base (CX w) k fa fd [x] (sp w))
    (hsp : ∀ (w : World) (H : Hp) (a : Addr) (ns : List Int), ns.length ≤ n → Only H → SqL (K w.params) H a (ns.map V.int) → sp w [.ref a] H (fun v _ => v = .bl true) fun _ _ _ => False)
    (hCX : ∀ (w : World) (H : Hp) (s : Shared) (e : Value) (s' : Shared), CX w [] H s (fun _ _ _ => False) e s' → False) :
    PySem.W.WalkO q loose XP YP l.row.toRowW d [] (fun f vs => PySem.call f vs) := by
  refine Att.attach_call hn hdf fun w s₀ s₁ mg mb fa o pm cd doc a vs ns G Y ho hd hcd hmg hobj hints hlen hg => ?_
  have KX := hY w _ Y
  obtain ⟨fd, hb, hF⟩ := F w mg fa _ KX G.T.g hmg
  exact law_call KX G.T.g G.T.b G.T.builtins G.T.nolimit hg hobj hints (Nat.le_trans hlen hn2) hr hF hb (fun H hO hS => hsp w H a ns hlen hO hS) fun H e s' => hCX w H s₁ e s'
end L2



/-! SHORT WORDS over the layer: a def of the text, its body, what a loop and a test want. -/
namespace L2
open PySem PySem.Spec PyProof.Rows

/-! ### the text by places -/
/-- the j-th statement of a class's body -/
def inClass (s : Stmt) (j : Nat) : Stmt := match s with
  | .ClassDef _ _ _ body _ _ _ _ _ _ _ => body.getD j (.Pass ⟨0, 0, 0, 0⟩)
  | _ => .Pass ⟨0, 0, 0, 0⟩
def defArgs (s : Stmt) : Arguments := match s with
  | .FunctionDef _ a _ _ _ _ _ _ _ _ => a
  | _ => { posonlyargs := [], args := [], vararg := none, kwonlyargs := [], kw_defaults := [], kwarg := none, defaults := [] }
def defBody (s : Stmt) : List Stmt := match s with
  | .FunctionDef _ _ b _ _ _ _ _ _ _ => b
  | _ => []
def defScope (s : Stmt) : Scope := match s with
  | .FunctionDef _ _ _ _ _ _ sc _ _ _ => sc
  | _ => { kind := .function, names := [], isGenerator := false, isCoroutine := false }

/-! ### no exception leaves a def -/
abbrev CX0 : CXT := fun _ _ _ _ _ _ => False
abbrev E0 : XK := fun _ _ _ => False
theorem pass0 {X : Cx} : Passes CX0 X E0 := fun _ _ _ _ _ _ _ h => h.elim

/-! ### a def (or method) of the text as it stands behind the top -/
structure Fun (K : PySem.W.Frag) (x qual : Str) (st : Stmt) (f : Addr) (fd : FuncData) : Prop where
  ex : ∃ (oc : Value) (od : Option Addr) (kV doc pm : Value) (an : Option Addr) (cdv ct : Value) (osl : Array (Option Value)),
    fd = PySem.W.fnOf x qual (defArgs st) (defBody st) (defScope st) .none kV doc pm an cdv ct ∧ K.lookup f = some ⟨oc, od, .func fd, osl⟩ ∧ PySem.W.codeIn K cdv qual = true
  kp : PySem.W.keepIn K (.ref f) = true
section
variable {P : Program} {w : World} {K : PySem.W.Frag} {mg : Str → Option Value} {base : Heap}
/-- THE RULE for a def: its body as a term of rules, and the reading of that term -/
theorem Fun.ok {x qual : Str} {st : Stmt} {f : Addr} {fd : FuncData} {N ps : List Str} {k : Nat} {sp : Sp} (F : Fun K x qual st f fd) (S : FnScope N ps (defScope st)) (len : ∀ vs H Q E, sp vs H Q E → vs.length = ps.length)
    (hbody : ∀ (cdv : Value) (A : Around) (outer : List Env) (s : Shared) (H : Hp) (vs : List V) (Q : VK) (E : XK), Room k (A.deeper (envOfC qual (defScope st) s.heap.objs.size f cdv)) → sp vs H Q E →
      ∃ t, PSs (cxOf CX0 P w K mg base N qual (defScope st) f cdv A outer s H E).nox (defBody st) t ∧ t { nx := fun _ H' => Q .non H', rt := Q } (start N vs) H) : FnOk P w K mg base CX0 (k + 1) f fd ps sp := by
  obtain ⟨oc, od, kV, doc, pm, an, cdv, ct, osl, rfl, lk, hcd⟩ := F.ex
  refine fn_of lk hcd S len fun A outer s H vs Q E hr hsp => ?_
  obtain ⟨t, h, q⟩ := hbody cdv A outer s H vs Q E hr hsp
  exact ⟨t, h.nox, q⟩
/-- how its arguments bind (no defaults): h is «fun _ _ _ _ _ _ us hl => match us, hl with | [_, _], _ => rfl», one _ a parameter -/
theorem Fun.binds {x qual : Str} {st : Stmt} {f : Addr} {fd : FuncData} {ps : List Str} (F : Fun K x qual st f fd)
    (h : ∀ (kV doc pm : Value) (an : Option Addr) (cdv ct : Value) (us : List Value), us.length = ps.length → bindArgs (PySem.W.fnOf x qual (defArgs st) (defBody st) (defScope st) .none kV doc pm an cdv ct) ⟨us, []⟩ = pure (ps.zip us)) : Binds K fd ps [] := by
  obtain ⟨oc, od, kV, doc, pm, an, cdv, ct, osl, rfl, lk, hcd⟩ := F.ex
  exact .all (h kV doc pm an cdv ct)
theorem fun_mk {x qual : Str} {st : Stmt} {f : Addr} {oc : Value} {od an : Option Addr} {osl : Array (Option Value)} {kV doc pm cdv ct : Value} (l : K.lookup f = some ⟨oc, od, .func (PySem.W.fnOf x qual (defArgs st) (defBody st) (defScope st) .none kV doc pm an cdv ct), osl⟩)
    (c : PySem.W.codeIn K cdv qual = true) (k : PySem.W.keepIn K (.ref f) = true) : Fun K x qual st f (PySem.W.fnOf x qual (defArgs st) (defBody st) (defScope st) .none kV doc pm an cdv ct) := ⟨⟨oc, od, kV, doc, pm, an, cdv, ct, osl, rfl, l, c⟩, k⟩
end
theorem hu_of {A : Around} {k : Nat} (hr : Room k A) : A.units + 1 < cLine := Nat.lt_of_le_of_lt (Nat.add_le_add_left (by decide : 1 ≤ 64) _) hr.units
/-! ### expressions in short: the name that stands in the i-th slot -/
section
variable {X : Cx}
theorem pv (i : Nat) {x : Str} {pos : Pos} (hN : X.N[i]? = some x := by rfl) (hv : Vis X.env.scope x := by first | exact Or.inl rfl | exact Or.inr (Or.inl rfl) | exact Or.inr (Or.inr rfl)) (hd : (x == ("__debug__" : Str)) = false := by decide)
    (hcd : (x == ("__classdict__" : Str)) = false := by decide) : PE X (.Name x pos) (tVar i) := pe_var hN hv hd hcd
end

/-! ### tests -/
theorem iteF {A B : Prop} (h : B) : if false = true then A else B := by
  rw [if_neg Bool.false_ne_true]
  exact h
theorem iteT {A B : Prop} (h : A) : if true = true then A else B := by
  rw [if_pos rfl]
  exact h
theorem ite2 {c A B : Prop} [Decidable c] (h1 : c → A) (h2 : ¬ c → B) : if c then A else B := by
  by_cases h : c
  · rw [if_pos h]
    exact h1 h
  · rw [if_neg h]
    exact h2 h
theorem iteNS {c A B : Prop} [Decidable c] (hc : c) (h : B) : if (!decide c) = true then A else B := by
  rw [decide_eq_true hc]
  exact iteF h

/-! ### heaps -/
/-- all that was tracked is as it was -/
def Same (H H' : Hp) : Prop := ∀ b o, H b = some o → H' b = some o
theorem Same.refl (H : Hp) : Same H H := fun _ _ h => h
theorem Same.trans {H H1 H2 : Hp} (a : Same H H1) (b : Same H1 H2) : Same H H2 := fun c o h => b c o (a c o h)
theorem Same.free {H H' : Hp} (e : Same H H') {l : Addr} (h : H' l = Option.none) : H l = Option.none := by
  cases q : H l with
  | none => rfl
  | some o =>
    rw [e l o q] at h
    cases h
theorem Same.seq {K : PySem.W.Frag} {H H' : Hp} {a : Addr} {xs : List V} (e : Same H H') (h : SqL K H a xs) : SqL K H' a xs := by
  rcases h with (h | ⟨o, h⟩) | h
  · exact .inl (.inl (e _ _ h))
  · exact .inl (.inr ⟨o, e _ _ h⟩)
  · exact .inr h

end L2

set_option maxHeartbeats 4000000
/-! ## Own words over the layer -/
namespace Ow
open PySem PySem.Spec PyProof.Rows L2
/-- a def of the text that keeps its promise, by its name -/
structure Has (P : Program) (w : World) (K : PySem.W.Frag) (mg : Str → Option Value) (base : Heap) (k : Nat) (x : Str) (ps : List Str) (sp : Sp) : Prop where
  ex : ∃ (f : Addr) (fd : FuncData), FnOk P w K mg base CX0 k f fd ps sp ∧ Binds K fd ps [] ∧ PySem.W.keepIn K (.ref f) = true ∧ mg x = some (.ref f)
section
variable {X : Cx} {k : Nat} {x : Str} {ps : List Str} {sp : Sp} {p pos : Pos} {e : Expr} {es : List Expr} {t : TA}
theorem pe_fn (h : Has X.prog X.w X.K X.mg X.base k x ps sp) (hr : Room k X.A) (hg : Gl X x) (ha : PA X (e :: es) t) (hdb : (x == ("__debug__" : Str)) = false := by decide)
    (he : starEach (e :: es) X.env = (false, eval e X.env) :: starEach es X.env := by rfl) (hpl : (backTo pos (starEach es X.env)).any (·.1) = false := by rfl) :
    PE X (.Call (.Name x p) (e :: es) [] pos) (tCall sp [] E0 t) := by
  obtain ⟨f, fd, F, b, kp, m⟩ := h.ex
  exact pe_call F hr hg m kp b .nil pass0 ha hdb he hpl
/-- a built-in type as a value -/
theorem pe_ty {T : String} (hg : Gl X x) (hm : X.mg x = none) (hv : bootBuiltins x = some (.type T)) (hn : x ≠ "__name__" := by decide) (hd : (x == ("__debug__" : Str)) = false := by decide) : PE X (.Name x pos) (tC (.ty T)) := pe_bltn (v := .ty T) hg hm hv rfl hn hd
/-- a class of the text as a value -/
theorem pe_cls {C : Addr} (hg : Gl X x) (hm : X.mg x = some (.ref C)) (hd : (x == ("__debug__" : Str)) = false := by decide) : PE X (.Name x pos) (tC (.ref C)) := pe_glob (v := .ref C) hg hm rfl hd
/-- a class as isinstance takes it -/
def clsV : V → Option Value
  | .ty n => some (.type n)
  | .ref C => some (.ref C)
  | _ => none
theorem clsV_rel {c : V} {u cv : Value} (r : RelV c u) (h : clsV c = some cv) : u = cv := by
  cases c with
  | ty n => cases h; exact r
  | ref C => cases h; exact r
  | _ => cases h
theorem call_isinst : CallR X (.builtin "isinstance") (fun xs H Q => ∃ x c t cv b, xs = [x, c] ∧ clsV c = some cv ∧ TyOf X.K H x t ∧ PySem.W.kitOne X.K t cv = some b ∧ Q (.bl b) H) := by
  intro pins s σ H xs us Q I r h
  obtain ⟨x, c, t, cv, b, rfl, hc, ty, e, q⟩ := h
  obtain ⟨u, u', rfl, rx, rc⟩ := vals2 r
  cases clsV_rel rc hc
  exact isinst_ok I rx ty e fun tk => ⟨.bl b, H, I.tok _, rfl, q⟩
/-- // by a positive divisor below 2 ^ 8000 -/
theorem op_fdivB : OpR X (binaryOp .FloorDiv) (rI (fun _ j => 0 < j ∧ j.natAbs.log2 < 9000) fun i j => .int (i / j)) := opI fun i j _ _ _ _ _ hc q => by
  have h1 : (0 : Int) < j := hc.1
  exact floordiv_int (by omega) (by rw [Int.fdiv_eq_ediv_of_nonneg i (by omega)]; exact q) (.inl (PyProof.noPylong_of_log2 hc.2))
end
theorem kit_int_int (K : PySem.W.Frag) : PySem.W.kitOne K (.type "int") (.type "int") = some true := rfl
theorem kit_int_bool (K : PySem.W.Frag) : PySem.W.kitOne K (.type "int") (.type "bool") = some false := by with_unfolding_all rfl
theorem kit_bl_int (K : PySem.W.Frag) : PySem.W.kitOne K (.type "bool") (.type "int") = some true := by with_unfolding_all rfl
theorem kit_bl_bl (K : PySem.W.Frag) : PySem.W.kitOne K (.type "bool") (.type "bool") = some true := rfl
/-! ### tests -/
theorem iteD {c A B : Prop} [Decidable c] (hc : c) (h : A) : if decide c = true then A else B := by
  rw [if_pos (decide_eq_true hc)]
  exact h
theorem iteDN {c A B : Prop} [Decidable c] (hc : ¬ c) (h : B) : if decide c = true then A else B := by
  rw [if_neg (by rw [decide_eq_false hc]; decide)]
  exact h
/-- a test that two values are alike, and they are not -/
theorem iteN {c A B : Prop} [Decidable c] (hc : ¬ c) (h : A) : if (!decide c) = true then A else B := by
  rw [decide_eq_false hc]
  exact iteT h
/-! ### powers -/
theorem p1_pos (n : Nat) : (0 : Int) < 1 * 2 ^ n := by
  rw [Int.one_mul]
  exact Int.pow_pos (by decide)
theorem p_pos (n : Nat) : (0 : Int) < 2 ^ n := Int.pow_pos (by decide)
theorem p_mono {m n : Nat} (h : m ≤ n) : (2 : Int) ^ m ≤ 2 ^ n := by
  have e : n = m + (n - m) := by omega
  rw [e, Int.pow_add]
  have h1 := p_pos m
  have h2 : (1 : Int) ≤ 2 ^ (n - m) := p_pos (n - m)
  have h3 := Int.mul_le_mul_of_nonneg_left h2 (Int.le_of_lt h1)
  rw [Int.mul_one] at h3
  exact h3
/-! ### heaps: all but the thing at p is as it was -/
def SameX (p : Addr) (H H' : Hp) : Prop := ∀ b o, b ≠ p → H b = some o → H' b = some o
theorem SameX.refl (p : Addr) (H : Hp) : SameX p H H := fun _ _ _ h => h
theorem SameX.trans {p : Addr} {H H1 H2 : Hp} (a : SameX p H H1) (b : SameX p H1 H2) : SameX p H H2 := fun c o n h => b c o n (a c o n h)
theorem SameX.of {p : Addr} {H H' : Hp} (a : Same H H') : SameX p H H' := fun c o _ h => a c o h
theorem SameX.upd {p : Addr} {H : Hp} {o : HO} : SameX p H (upd H p o) := fun c u n h => by rw [upd_ne n]; exact h
theorem same_new {H : Hp} {p : Addr} (h : H p = none) (o : HO) : Same H (L2.upd H p o) := fun b u q => by rw [upd_ne (ne_of_none q h)]; exact q
/-- a new thing at p, changed or not: what stood before stands -/
theorem SameX.fresh {p : Addr} {H H1 : Hp} (h : H p = none) (a : SameX p H H1) : Same H H1 := fun b o q => a b o (ne_of_none q h) q
/-- three ints in a list: a box of draws -/
def Box (H : Hp) (p : Addr) : Prop := ∃ r s c : Int, H p = some (.lst [.int r, .int s, .int c])
theorem Box.same {H H' : Hp} {p : Addr} (b : Box H p) (s : Same H H') : Box H' p := by
  obtain ⟨r, s', c, h⟩ := b
  exact ⟨r, s', c, s _ _ h⟩
theorem getI (ns : List Int) (k : Nat) (h : k < ns.length) : atI (ns.map V.int) (k : Int) = some (.int ns[k]) := atI_nat (by rw [List.getElem?_map, List.getElem?_eq_getElem h] <;> rfl)
end Ow
/-! ## Own words for classes -/
namespace Ow
open PySem PySem.Spec PyProof.Rows L2
/-- a method of a class that keeps its promise -/
structure MHas (P : Program) (w : World) (K : PySem.W.Frag) (mg : Str → Option Value) (base : Heap) (k : Nat) (C : Addr) (m : Str) (ps : List Str) (sp : Sp) : Prop where
  cl : Cls K C
  ex : ∃ (f : Addr) (fd : FuncData), Meth K C m f ∧ FnOk P w K mg base CX0 k f fd ps sp ∧ Binds K fd ps []
/-- o.m(..), whatever the class of o is -/
def tMethP (X : Cx) (k : Nat) (m : Str) (ta : TE) (t : TA) : TE := fun σ H Q => ta σ H fun x H1 => ∃ (a C dx : Addr) (fs : List (Str × V)) (ps : List Str) (sp : Sp), x = .ref a ∧ H1 a = some (.ins C dx fs) ∧ fs.lookup m = none ∧
  MHas X.prog X.w X.K X.mg X.base k C m ps sp ∧ t σ H1 fun vs H2 => sp (x :: (vs ++ [])) H2 Q E0
/-- what a class without __init__ must have to be made -/
structure Mk0 (K : PySem.W.Frag) (C : Addr) : Prop where
  makes : PySem.W.makesIn K C = true
  init : PySem.W.findIn K (.ref C) "__init__" = some (some (.builtin "object.__init__"))
  kp : PySem.W.keepIn K (.ref C) = true
def tMk0 (C : Addr) : TE := fun _ H Q => ∀ x dx, H x = none → H dx = none → dx ≠ x → Q (.ref x) (upd (upd H dx (.own x)) x (.ins C dx []))
section
variable {X : Cx} {k : Nat} {x m : Str} {C : Addr} {p pos apos : Pos} {o e : Expr} {es : List Expr} {ta : TE} {t : TA}
/-- (a, b, ..) = a list of that length -/
def gTupL (K : PySem.W.Frag) (n : Nat) (t : TGs) : TG := fun v σ H Q => ∃ a xs, v = .ref a ∧ SqL K H a xs ∧ xs.length = n ∧ t xs σ H Q
end
end Ow
/-! ## A list comprehension: one clause over a name, no test -/
namespace Ow
open PySem PySem.Spec PyProof.Rows L2
/-- the block of a comprehension that runs within X; N: its own name first, then those that it sees -/
def cxComp (X : Cx) (N : List Str) (scope : Scope) (cl : List (Str × Addr)) (C : Addr) (s2 : Shared) (H2 : Hp) (fp : List Addr) : Cx where
  prog := X.prog
  w := X.w
  K := X.K
  mg := X.mg
  base := X.base
  A := X.A
  N := N
  s₀ := s2
  H₀ := H2
  env := compEnvC scope cl C X.env
  outer := X.stack
  stack := X.stack
  ex := fp
  calm := true
  fn := fun _ => false
  pn := []
  xe := fun _ _ => False
/-- what a comprehension asks: W, the word by the turn, a measure and the heap; D: the list that grows; cap: the values that the block sees -/
def tComp (wi : TI) (te : TE) (cap : L2.St → L2.St) : TE := fun σ H Q => wi σ H fun J H1 => ∀ D, H1 D = none → ∃ W : Nat → Nat → Hp → Prop, (∃ m, W 0 m (upd H1 D (.lst []))) ∧ ∀ i m H, W i m H →
  (J.stop i H ∧ Q (.ref D) H) ∨ (J.go i H ∧ ∀ x H', J.yld i H x H' → te (some x :: cap σ) H' fun y H2 => ∃ ys, H2 D = some (.lst ys) ∧ ys.length < sizeLine ∧ ∃ m', m' < m ∧ W (i + 1) m' (upd H2 D (.lst (ys ++ [y]))))
section
variable {X : Cx} {elt iter : Expr} {x : Str} {px pos : Pos} {scope : Scope} {wi : TI} {te : TE} {N : List Str} {cl : List (Str × Addr)} {cap : L2.St → L2.St}
theorem pe_comp (hc : X.calm = true) (hclos : closureFor scope X.env = pure cl) (hsub : ∀ n c, cl.lookup n = some c → X.env.cells.lookup n = some c)
    (hcell : ∀ y ∈ scope.names, y.2 ≠ .cell) (hkind : scope.kind = .function) (hnames : ∀ y ∈ scope.names, y.2 = .local → scope.names.lookup y.1 = some .local) (hx : scope.names.lookup x = some .local)
    (hhas : ∀ y, (Env.kindOf (compEnvC scope cl 0 X.env) y = some .cell ∨ Env.kindOf (compEnvC scope cl 0 X.env) y = some .free) → ∃ c, cl.lookup y = some c)
    (hN : (x :: N).Nodup) (hcapl : ∀ σ, (cap σ).length = N.length)
    (hcap : ∀ (σ : L2.St) (i : Nat) (y : Str) (v : V), σ.length = X.N.length → N[i]? = some y → (cap σ)[i]? = some (some v) → (Env.kindOf (compEnvC scope cl 0 X.env) y = some .cell ∨ Env.kindOf (compEnvC scope cl 0 X.env) y = some .free) ∧ X.env.kindOf y = some .cell ∧ ∃ j : Nat, X.N[j]? = some y ∧ σ[j]? = some (some v))
    (hi : PI X (.Name x px) iter wi) (he : ∀ C s2 H2 fp, PE (cxComp X (x :: N) scope cl C s2 H2 fp) elt te)
    (hs : ∀ z, foldedSetIterable iter X.env z = pure z := by intro _; rfl) :
    PE X (.ListComp elt [⟨.Name x px, iter, [], 0⟩] scope pos) (tComp wi te cap) := by
  intro pins s σ H Q I h
  rw [eval_ListComp]
  refine wpAny_comprehension_free (use := none) rfl hs hclos hkind hnames (thn (hi pins s σ H _ I h) fun xv s1 h1 => thn h1 fun itv s2 h2 => ?_)
  obtain ⟨it, fp, tn, J, H2, e, I2, T, st2, f2, hW⟩ := h2
  subst e
  have hD : H2 s2.heap.objs.size = none := I2.hok.fresh (Nat.le_refl _)
  obtain ⟨W, ⟨m0, w0⟩, turn⟩ := hW s2.heap.objs.size hD
  refine wpAny_newObj_type (wpAny_newFunctionEnv hcell (by intro y hy; simp at hy) (fun h4 hns4 hsb4 => ?_) hkind) (by show 0 ≤ sizeLine; decide)
  dsimp only at hns4 hsb4 ⊢
  generalize hH3 : s2.heap.push { cls := .type "list", dict := none, data := .seq ([] : List Value).toArray } = H3 at hns4 hsb4 ⊢
  have hCz : H3.objs.size = s2.heap.objs.size + 1 := by rw [← hH3, Heap.size_push]
  have old3 : ∀ b o, s2.heap.get? b = some o → H3.get? b = some o := fun b o e => hH3 ▸ Heap.get?_push_of_some _ e
  have eD3 : H3.get? s2.heap.objs.size = some { cls := .type "list", dict := none, data := .seq ([] : List Value).toArray } := hH3 ▸ Heap.get?_push_size _ rfl
  have old4 : ∀ b o, H3.get? b = some o → h4.get? b = some o := fun b o e => hsb4.extBut b o (Nat.ne_of_lt (Heap.lt_size e)) (Heap.get?_push_of_some _ e)
  have old : ∀ b o, s2.heap.get? b = some o → h4.get? b = some o := fun b o e => old4 b o (old3 b o e)
  have szC : s2.heap.objs.size < H3.objs.size := by rw [hCz]; exact Nat.lt_succ_self _
  have fpC : ∀ b ∈ fp, b ≠ H3.objs.size := fun b hb => by
    obtain ⟨o, ho, _⟩ := T.obj 0 _ st2 b hb
    exact Nat.ne_of_lt (Nat.lt_trans (Heap.lt_size ho) szC)
  -- the block's context
  have ok' : (cxComp X (x :: N) scope cl H3.objs.size s2 H2 fp).Ok := by
    refine ⟨I2.ok.mod, hkind, I2.ok.glob, I2.ok.blt, (Nat.le_of_lt szC), fun a b c e1 e2 => I2.ok.inj a b c (hsub a c e1) (hsub b c e2), fun y hy => hhas y hy, fun y c z _ => absurd (show false = true from z) (by decide),
      fun _ => I2.ok.hd hc, I2.ok.frames, .inl rfl, fun b hb => ⟨fpC b hb, fun y c e => (f2 b hb).2.2.2.2.1 y c (hsub y c e)⟩, I2.bs, Nat.le_trans I2.ok.bsz I2.sz, fun b o e hb => ?_, fun b hb z => ?_, I2.stack, I2.stkFree⟩
    · rcases (f2 b hb).2.2.2.1 with q | q
      · exact I2.ok.noex b o e q
      · exact absurd (Nat.lt_of_lt_of_le (Heap.lt_size e) (Nat.le_trans I2.ok.bsz q)) (Nat.lt_irrefl _)
    · rcases List.mem_cons.mp (I2.stkSub b z) with q | q
      · exact (f2 b hb).2.1 q
      · exact (f2 b hb).2.2.1 q
  have okD : ObjOk X.prog X.w (upd H2 s2.heap.objs.size (.lst [])) h4 s2.heap.objs.size (.lst []) := ⟨Nat.zero_le _, [], 0, .nil, old4 _ _ eD3⟩
  have I4 : Inv (cxComp X (x :: N) scope cl H3.objs.size s2 H2 fp) [] (none :: cap σ) (upd H2 s2.heap.objs.size (.lst [])) { s2 with heap := h4, toks := s2.toks + ([] : List (Str × Value)).length } := by
    refine ⟨ok', rfl, I2.bare, Un.laid old (Nat.le_refl _) hD, ⟨_, hns4, fun i y v e1 e2 _ => ?_⟩, fun y c e => ?_, ?_, fun y c e => ?_, fun p hp => absurd hp (by show p ∉ ([] ++ [] : List (Addr × Obj)); simp), I2.hok.laid old (Nat.le_refl _) okD, ?_⟩
    · cases i with
      | zero => simp at e2
      | succ i =>
        obtain ⟨k1, k2, j, e3, e4⟩ := hcap σ i y v I2.len (show N[i]? = some y from e1) (show (cap σ)[i]? = some (some v) from e2)
        obtain ⟨m, _, hl⟩ := I2.loc
        obtain ⟨u, ru, lk⟩ := hl j y v e3 e4 (.inr (.inl k2))
        refine ⟨u, ru, .inr ⟨k1, ?_⟩⟩
        rcases lk with ⟨z, _⟩ | ⟨_, c, e5, hcl⟩
        · rw [k2] at z; cases z
        · obtain ⟨c', e6⟩ := hhas y k1
          have : c' = c := by
            have := hsub y c' e6
            rw [e5] at this
            exact (Option.some.inj this).symm
          subst this
          obtain ⟨oc, ho, hd⟩ := hcl
          exact ⟨c', e6, oc, old _ _ ho, hd⟩
    · obtain ⟨v, oc, ho, hd⟩ := I2.cell y c (hsub y c e)
      exact ⟨v, oc, old _ _ ho, hd⟩
    · show upd H2 s2.heap.objs.size (.lst []) H3.objs.size = none
      rw [upd_ne (Nat.ne_of_gt szC)]
      exact I2.hok.fresh (Nat.le_of_lt szC)
    · have h1 := I2.freeC y c (hsub y c e)
      obtain ⟨v, oc, ho, _⟩ := I2.cell y c (hsub y c e)
      rw [upd_ne (Nat.ne_of_lt (Heap.lt_size ho))]
      exact h1
    · show (none :: cap σ).length = (x :: N).length
      simp [hcapl]
  have stat : ∀ {H' : Hp}, (∀ b ∈ fp, H' b = none) → ∀ b ∈ fp, FpOk (cxComp X (x :: N) scope cl H3.objs.size s2 H2 fp) [] H' b := fun {H'} hn b hb =>
    ⟨hn b hb, (ok'.exf b hb).1, ok'.exfs b hb, .inl hb, (ok'.exf b hb).2, fun p hp => absurd hp (by show p ∉ ([] ++ [] : List (Addr × Obj)); simp)⟩
  have loop : codeAny (model X.prog X.w) X.A (.compLoop (.ListComp elt [⟨.Name x px, iter, [], 0⟩] scope pos) 0 (.ref it) (.ref s2.heap.objs.size) (compEnvC scope cl H3.objs.size X.env))
      (compPost (model X.prog X.w) X.A X.xe none (EP X pins σ Q) (.ref s2.heap.objs.size) H3.objs.size) { s2 with heap := h4, toks := s2.toks + ([] : List (Str × Value)).length } := by
    refine codeAny_compLoop_list (fun n s' => ∃ (i : Nat) (z0 : Option V) (H' : Hp), Inv (cxComp X (x :: N) scope cl H3.objs.size s2 H2 fp) [] (z0 :: cap σ) H' s' ∧ tn i s'.heap ∧ (∀ b ∈ fp, H' b = none) ∧ W i n H') ?_ m0
      ⟨0, none, _, I4, T.keep 0 _ _ st2 (fun b _ o e => old b o e), fun b hb => ?_, w0⟩
    · rintro n s5 ⟨i, z0, H5, I5, st5, fr5, w5⟩
      rcases turn i n H5 w5 with ⟨stop, qn⟩ | ⟨go, step⟩
      · refine wpAny_mono (T.done (cxComp X (x :: N) scope cl H3.objs.size s2 H2 fp) rfl rfl rfl rfl i [] s5 _ H5 _ I5 (stat fr5) st5 stop) (fun r s6 ⟨hr, I6⟩ => ?_) fun _ _ z => z
        subst hr
        obtain ⟨m, hn6, _⟩ := id I6.loc
        refine ⟨m, hn6, fun h' sb => ⟨.ref s2.heap.objs.size, H5, ?_, rfl, qn⟩⟩
        have kp : ∀ b o, b ≠ H3.objs.size → s6.heap.get? b = some o → h'.get? b = some o := fun b o hb e => sb.extBut b o hb e
        have nC : ∀ b o, s2.heap.get? b = some o → b ≠ H3.objs.size := fun b o e => Nat.ne_of_lt (Nat.lt_trans (Heap.lt_size e) szC)
        have fC : H5 H3.objs.size = none := I6.free
        refine I2.call' (ch := fp) (s' := { s6 with heap := h' }) I6.os ?_ ?_ I6.bare fun b hb => ⟨(f2 b hb).2.2.2.1, (f2 b hb).2.1, (f2 b hb).2.2.2.2.1, (f2 b hb).2.2.2.2.2⟩
        · have U : Un (frs X.stack) fp H2 H5 s2.heap s6.heap := I6.base
          exact ⟨fun b o e n1 n2 n3 => kp b o (nC b o e) (U.keep b o e n1 n2 n3), fun b o e n1 n2 n3 => by
              obtain ⟨sl, q⟩ := U.slot b o e n1 n2 n3
              exact ⟨sl, kp b _ (nC b o e) q⟩, U.free, fun b o e n3 => by
              obtain ⟨o', q⟩ := U.there b o e n3
              exact ⟨o', kp b _ (nC b o e) q⟩, U.tups, U.frzs, U.tbls⟩
        · intro b u e
          refine (I6.hok b u e).stay (fun c v hc q => kp c v (fun z => ?_) q) (fun _ q => q) fun _ _ q => q
          rcases hc with y | y
          · rw [← y, z, fC] at e
            cases e
          · rw [z, fC] at y
            cases y
      · refine wpAny_mono (T.item (cxComp X (x :: N) scope cl H3.objs.size s2 H2 fp) rfl rfl rfl rfl i [] s5 _ H5 _ I5 (stat fr5) st5 go) (fun r s6 ⟨u, hr, h6⟩ => ?_) fun _ _ z => z
        subst hr
        have key : (letOwnedTupleGo (.Name x px) (.ref it) u >>= fun _ => assign (.Name x px) (compEnvC scope cl H3.objs.size X.env) u) = assign (.Name x px) (compEnvC scope cl H3.objs.size X.env) u := by first | rfl | exact pure_bind _ _
        dsimp only
        rw [← key]
        refine wpAny_bind (wpAny_mono h6 (fun _ s7 ⟨v, H7, I7, r7, y7, st7, fr7⟩ => ?_) fun _ _ z => z)
        have I7' := I7.pinned (stat fr7) (T.obj _ _ st7)
        refine wpAny_assign_Name (store_ok (i := 0) I7' hN rfl (.inl (lookup_relabel_local hx)) r7 (fun s8 I8 => ?_) (.inr (lookup_relabel_local hx)))
        refine wpAny_mono (he H3.objs.size s2 H2 fp _ s8 (some v :: cap σ) H7 _ I8 (step v H7 y7)) (fun w9 s9 ⟨y, H9, I9, r9, ys, hys, hlt, m', hm, w9'⟩ => ?_) fun _ _ z => z.elim
        refine wpAny_mono (mt_append (X := cxComp X (x :: N) scope cl H3.objs.size s2 H2 fp) _ s9 _ H9 (.ref s2.heap.objs.size) [y] _ [w9] (fun _ Hn => Hn = upd H9 s2.heap.objs.size (.lst (ys ++ [y]))) I9 rfl (.cons r9 .nil) ⟨_, ys, y, rfl, rfl, hys, hlt, rfl⟩) (fun _ s10 ⟨_, H10, I10, _, e10⟩ => ?_) fun _ _ z => z.elim
        subst e10
        refine ⟨m', hm, i + 1, some v, _, I10.unpinned, T.keep _ _ _ st7 fun b hb o e => (I10.pin (b, o) (List.mem_append_right _ (List.mem_append_right _ (mem_pinsAt hb e)))).1, fun b hb => ?_, w9'⟩
        obtain ⟨o, e, d⟩ := T.obj _ _ st7 b hb
        exact (I10.pin (b, o) (List.mem_append_right _ (List.mem_append_right _ (mem_pinsAt hb e)))).2.1
    · obtain ⟨o, ho, _⟩ := T.obj 0 _ st2 b hb
      rw [upd_ne (Nat.ne_of_lt (Heap.lt_size ho))]
      exact (f2 b hb).1
  exact codeAny_compStart_list loop (T.self X.A 0 _ _ _ (T.keep 0 _ _ st2 (fun b _ o e => old b o e)) loop)
/-- over a list that the block leaves as it is -/
theorem comp_list {K : PySem.W.Frag} {a D : Addr} {xs : List V} {te' : TE} {tl : L2.St} {G : Hp → Prop} {H1 : Hp} (Pv : Nat → Hp → Prop) (h0 : Pv 0 (upd H1 D (.lst []))) (hl : ∀ i H, i ≤ xs.length → Pv i H → SqL K H a xs)
    (hs : ∀ i x H, xs[i]? = some x → Pv i H → te' (some x :: tl) H fun y H2 => ∃ ys, H2 D = some (.lst ys) ∧ ys.length < sizeLine ∧ ∃ m', m' < xs.length - i ∧ (m' = xs.length - (i + 1) ∧ i + 1 ≤ xs.length ∧ Pv (i + 1) (upd H2 D (.lst (ys ++ [y])))))
    (hd : ∀ H, Pv xs.length H → G H) :
    ∃ W : Nat → Nat → Hp → Prop, (∃ m, W 0 m (upd H1 D (.lst []))) ∧ ∀ i m H, W i m H →
      ((Itl K a).stop i H ∧ G H) ∨ ((Itl K a).go i H ∧ ∀ x H', (Itl K a).yld i H x H' → te' (some x :: tl) H' fun y H2 => ∃ ys, H2 D = some (.lst ys) ∧ ys.length < sizeLine ∧ ∃ m', m' < m ∧ W (i + 1) m' (upd H2 D (.lst (ys ++ [y])))) := by
  refine ⟨fun i m H => m = xs.length - i ∧ i ≤ xs.length ∧ Pv i H, ⟨xs.length, by simp, Nat.zero_le _, h0⟩, ?_⟩
  rintro i m H ⟨rfl, hi, p⟩
  have q := hl i H hi p
  by_cases hlt : i < xs.length
  · refine .inr ⟨⟨xs, xs[i], q, by simp [hlt]⟩, fun x H' y => ?_⟩
    obtain ⟨e, y⟩ := y
    subst e
    exact hs i x _ (y xs q) p
  · have e : i = xs.length := by omega
    subst e
    exact .inl ⟨⟨xs, q, Nat.le_refl _⟩, hd H p⟩
end
/-- two statements, with a word J between them: both ways of the first come to J -/
def tJoin (t u : TS) : TS := fun D σ H => ∃ J : L2.St → Hp → Prop, t { D with nx := J } σ H ∧ ∀ σ' H', J σ' H' → u D σ' H'
theorem pss_join {X : Cx} {st : Stmt} {rest : List Stmt} {t u : TS} (h1 : PS X st t) (h2 : PSs X rest u) : PSs X (st :: rest) (tJoin t u) := by
  intro pins s σ H D I h
  obtain ⟨J, h, hJ⟩ := h
  refine wpAny_execs_cons (thn (h1 pins s σ H { D with nx := J } I h) fun f s1 q => ?_)
  cases f with
  | next =>
    obtain ⟨σ', H', I', q⟩ := q
    exact h2 pins s1 σ' H' D I' (hJ _ _ q)
  | ret v => exact q
  | brk => exact q
  | cont => exact q
end Ow
/-! ## Tuples and lists of flat values, compared -/
namespace Ow
open PySem PySem.Spec PyProof.Rows L2
def eqVs (xs ys : List V) : Bool := (List.range (min xs.length ys.length)).all (fun j => eqV (xs.getD j .non) (ys.getD j .non)) && xs.length == ys.length
section
variable {X : Cx}
theorem vals_at {xs : List V} {us : List Value} (r : Vals xs us) {j : Nat} (h1 : j < us.length) : RelV (xs.getD j .non) us[j] := by
  have hl := r.length
  have hj : j < xs.length := by omega
  obtain ⟨u, hu, ru⟩ := r.get (i := j) (x := xs[j]) (List.getElem?_eq_getElem hj)
  rw [List.getElem?_eq_getElem h1] at hu
  rw [List.getD_eq_getElem?_getD, List.getElem?_eq_getElem hj]
  cases hu
  exact ru
/-- == of two tuples of flat values -/
def rEqT (K : PySem.W.Frag) : R2 := fun x y H Q => ∃ p q xs ys, x = .ref p ∧ y = .ref q ∧ SqT K H p xs ∧ SqT K H q ys ∧ xs.all flatV = true ∧ ys.all flatV = true ∧ Q (.bl (eqVs xs ys)) H
/-- != of two tuples of flat values -/
def rNeT (K : PySem.W.Frag) : R2 := fun x y H Q => ∃ p q xs ys, x = .ref p ∧ y = .ref q ∧ SqT K H p xs ∧ SqT K H q ys ∧ xs.all flatV = true ∧ ys.all flatV = true ∧ Q (.bl (!eqVs xs ys)) H
/-- a list beside the empty list -/
def rEq0 (K : PySem.W.Frag) (neg : Bool) : R2 := fun x y H Q => ∃ p q xs, x = .ref p ∧ y = .ref q ∧ SqL K H p xs ∧ SqL K H q [] ∧ Q (.bl (if neg then !xs.isEmpty else xs.isEmpty)) H
theorem op_eq0 (hu : X.A.units < cLine) : OpR X (compareOp .Eq) (rEq0 X.K false) := by
  intro pins s σ H x y v u Q I rx ry h
  obtain ⟨p, q, xs, rfl, rfl, hp, hq, k⟩ := h
  cases rx
  cases ry
  obtain ⟨its, r, pl, hz⟩ := I.list hp
  obtain ⟨its2, r2, pl2, hz2⟩ := I.list hq
  cases r2
  have hl := r.length
  cases xs with
  | nil =>
    cases r
    exact SeqAt.eq_listAt (e := fun _ => true) pl.isList pl2.isList rfl hu (fun j h1 _ => absurd h1 (by simp)) ⟨.bl _, H, I, rfl, k⟩
  | cons z zs =>
    refine SeqAt.eq_list_lengthsAt pl.isList pl2.isList ?_ hu ⟨.bl _, H, I, rfl, k⟩
    rw [List.length_cons] at hl
    simp only [List.size_toArray, ← hl]
    rfl
/-- xs[::-1]: a new list -/
def tRev (K : PySem.W.Frag) (te : TE) : TE := fun σ H Q => te σ H fun x H1 => ∃ a xs, x = .ref a ∧ SqL K H1 a xs ∧ ∀ p, H1 p = none → Q (.ref p) (upd H1 p (.lst xs.reverse))
/-- a function read off a class of the text: C.m -/
structure ClsFn (K : PySem.W.Frag) (C : Addr) (m : Str) (f : Addr) : Prop where
  reads : PySem.W.readsIn K C (.type "type") = true
  ga : PySem.W.specialIn K (.ref C) "__getattribute__" = some (some (.builtin "type.__getattribute__"))
  fnd : PySem.W.findCls K (.ref C) (.type "type") m = some (.val (.ref f))
  hd : PySem.W.handedIn (.ref f) = true
  kp : PySem.W.keepIn K (.ref f) = true
end
end Ow
/-! ## Lists put together, ranges downwards, things within things compared -/
namespace Ow
open PySem PySem.Spec PyProof.Rows L2
section
variable {X : Cx}
def rAddL (K : PySem.W.Frag) : R2 := fun x y H Q => ∃ a b xs ys, x = .ref a ∧ y = .ref b ∧ SqL K H a xs ∧ SqL K H b ys ∧ xs.length + ys.length ≤ sizeLine ∧ ∀ p, H p = none → Q (.ref p) (upd H p (.lst (xs ++ ys)))
theorem op_addL : OpR X (binaryOp .Add) (rAddL X.K) := by
  intro pins s σ H x y v u Q I rx ry h
  obtain ⟨a, b, xs, ys, rfl, rfl, ha, hb, hz, q⟩ := h
  cases rx
  cases ry
  obtain ⟨its, r, pl, _⟩ := I.list ha
  obtain ⟨its2, r2, pl2, _⟩ := I.list hb
  have hl := r.length
  have hl2 := r2.length
  obtain ⟨⟨cls, dd, data, sl⟩, ho, hc, n, hd⟩ := id pl.isList
  obtain ⟨⟨cls2, dd2, data2, sl2⟩, ho2, hc2, n2, hd2⟩ := id pl2.isList
  simp only at hc hd hc2 hd2
  subst hc hd hc2 hd2
  have e : its.toArray ++ its2.toArray = (its ++ its2).toArray := by simp
  refine concat_meets ⟨_, ho, rfl⟩ ⟨_, ho2, rfl⟩ noFill_list_add seq_list_add PySem.F.slot_list_add PySem.F.entry_list_add (PySem.F.args_list_add_2 _ _) (list_addW a b its.toArray its2.toArray n n2 dd dd2 sl sl2 (by simp; omega)) ⟨ho, ho2, ?_⟩
  rw [e]
  exact ⟨.ref s.heap.objs.size, _, I.lnew (t' := s.toks) (r.append r2) (by rw [List.length_append]; exact hz), rfl, q _ I.fresh⟩
/-- lo, lo - 1, .. (n of them) -/
def Itd (lo : Int) (n : Nat) : It := ⟨fun i _ => i < n, fun i H x H' => H' = H ∧ x = .int (lo - i), fun i _ => n ≤ i⟩
theorem turn_down {P : Program} {w : World} {K : PySem.W.Frag} {tg : Expr} (it : Addr) (lo : Int) (n : Nat) : Turn P w K tg (Itd lo n) [it] it (fun i h => IsRangeIter h it (lo + (i : Nat) * (-1)) ((n : Int) - (i : Nat)) (-1)) where
  mem := by simp
  obj := fun i h st b hb => by
    have e : b = it := by simpa using hb
    subst e
    exact ⟨_, st, fun v z => by
      have z' : Data.fields _ = Data.cell v := z
      cases z'⟩
  keep := fun i h h' st k => k it (by simp) _ st
  item := by
    intro X hP hw hK hc i pins s σ H E I hf st hg
    subst hP hw hK
    obtain ⟨f0, f1, f2, f3, f4, f5⟩ := hf it (by simp)
    have W := Walks.range (prog := X.prog) (w := X.w) (I.ok.hd hc) it lo (-1) n
    refine W.item i s _ _ hg st fun v h' tk hv st' kk => ?_
    obtain ⟨t, rfl⟩ := hv
    have I1 : Inv X pins σ H { s with heap := h', toks := tk } := I.turned (fun b o hb e => kk b o (by simpa using hb) e) f0 f1 f3 f4 f5
    refine ⟨_, rfl, go_of (s := { s with heap := h', toks := tk }) (n := "range_iterator") st' rfl rfl (by decide) ⟨.int (lo - i), H, I1, ⟨t, ?_⟩, ⟨rfl, rfl⟩, st', fun b hb => (hf b hb).1⟩⟩
    rw [Int.mul_neg, Int.mul_one]
    rfl
  done := by
    intro X hP hw hK hc i pins s σ H E I hf st hg
    subst hP hw hK
    obtain ⟨f0, f1, f2, f3, f4, f5⟩ := hf it (by simp)
    exact wpAny_pyNext_range_end (I.ok.hd hc) st (by have : n ≤ i := hg; omega) fun h' eb => ⟨rfl, I.turned (t' := s.toks) (fun b o hb e => eb b o hb e) f0 f1 f3 f4 f5⟩
  self := fun _ _ _ _ _ st h => wpAny_pyIter_rangeiter st h
theorem rangeSize_down {a : Int} (ha : -1 ≤ a) : Builtin.Range.rangeSize a (-1) (-1) = a + 1 := by
  unfold Builtin.Range.rangeSize
  rw [if_neg (by decide)]
  have e : -(-1 : Int) = 1 := by decide
  rw [e, Int.ediv_one]
  split <;> omega
theorem small_down {a : Int} (ha : -1 ≤ a) (ha' : a < 2 ^ 62) : Builtin.Range.small a (-1) (-1) = true := by
  unfold Builtin.Range.small
  rw [rangeSize_down ha]
  simp only [Builtin.Range.rangeFitsLong, Bool.and_eq_true, Bool.or_eq_true, decide_eq_true_eq, beq_iff_eq, show ((-1 : Int) > 0) = False from by simp, if_false]
  omega
variable {tg : Expr}
def iDown (ta : TA) : TI := fun σ H R => ta σ H fun vs H1 => ∃ i : Int, vs = [.int i, .int (-1), .int (-1)] ∧ -1 ≤ i ∧ i < 2 ^ 62 ∧ R (Itd i (i + 1).toNat) H1
theorem down_it {pins : List (Addr × Obj)} {σ : L2.St} {H : Hp} {s : Shared} {R : It → Hp → Prop} {E : Value → Shared → Prop} {lo : Int} {t u v : Tok} {tk : Nat} (I : Inv X pins σ H s) (h1 : -1 ≤ lo) (h2 : lo < 2 ^ 62)
    (q : R (Itd lo (lo + 1).toNat) H) : wpAny (model X.prog X.w) X.A (pyIter (.ref s.heap.objs.size)) (PIE X pins σ tg R) E { s with heap := s.heap.push { cls := .type "range", data := .fields #[.int lo t, .int (-1) u, .int (-1) v] }, toks := tk } := by
  refine wpAny_pyIter_range (IsRange.new ..) (small_down h1 h2) ?_
  have I1 : Inv X pins σ H { s with heap := s.heap.push { cls := .type "range", data := .fields #[.int lo t, .int (-1) u, .int (-1) v] }, toks := tk } := I.kept fun b o e => Heap.get?_push_of_some _ e
  refine ⟨(s.heap.push { cls := .type "range", data := .fields #[.int lo t, .int (-1) u, .int (-1) v] }).objs.size, [(s.heap.push { cls := .type "range", data := .fields #[.int lo t, .int (-1) u, .int (-1) v] }).objs.size], _, _, H, rfl,
    I1.kept (t' := tk) fun b o e => Heap.get?_push_of_some _ e, turn_down _ lo (lo + 1).toNat, ?_, fun b hb => ?_, q⟩
  · have e1 : lo + ((0 : Nat) : Int) * (-1) = lo := by simp
    have e2 : (((lo + 1).toNat : Nat) : Int) - ((0 : Nat) : Int) = Builtin.Range.rangeSize lo (-1) (-1) := by rw [rangeSize_down h1]; omega
    show IsRangeIter _ _ (lo + ((0 : Nat) : Int) * (-1)) ((((lo + 1).toNat : Nat) : Int) - ((0 : Nat) : Int)) (-1)
    rw [e1, e2]
    exact Heap.get?_push_size _ rfl
  · have e : b = (s.heap.push { cls := .type "range", data := .fields #[.int lo t, .int (-1) u, .int (-1) v] }).objs.size := by simpa using hb
    subst e
    exact I1.fpOk (Nat.le_refl _) (I1.hok.fresh (Nat.le_refl _))
theorem pi_down {a b c : Expr} {ta : TA} {p pos : Pos} (hg : Gl X "range") (hm : X.mg "range" = none) (ha : PA X [a, b, c] ta) (hs : starEach [a, b, c] X.env = [(false, eval a X.env), (false, eval b X.env), (false, eval c X.env)] := by rfl) (hs2 : starEach [b, c] X.env = [(false, eval b X.env), (false, eval c X.env)] := by rfl) :
    PI X tg (.Call (.Name "range" p) [a, b, c] [] pos) (iDown ta) := by
  intro pins s σ H R I h
  refine Call_ (ld_blt I hg hm boot_range (PyProof.Rows.callWith_type1 (thn (ha pos pins s σ H _ I h) fun us s1 ⟨vs, H1, I1, r1, q1⟩ => ?_) (by rw [hs, hs2]) (by rw [hs2]; rfl)))
  obtain ⟨i, e, q1, q2, q⟩ := q1
  subst e
  cases r1 with
  | cons r rr =>
    cases rr with
    | cons r' rr =>
      cases rr with
      | cons r'' rr =>
        cases rr
        obtain ⟨t, rfl⟩ := r
        obtain ⟨t', rfl⟩ := r'
        obtain ⟨t'', rfl⟩ := r''
        exact call_range_3 (by decide) (down_it I1 q1 q2 q) (.inl (PyProof.noPylong_of_log2 (by decide)))
theorem for_down {lo : Int} {n : Nat} {g : TG} {tb : TS} {D : Ends} {σ : L2.St} {H : Hp} (Pv : Nat → L2.St → Hp → Prop) (h0 : Pv 0 σ H)
    (hs : ∀ i σ H, i < n → Pv i σ H → g (.int (lo - i)) σ H fun σ2 H2 => tb { D with nx := Pv (i + 1), ct := Pv (i + 1), bk := D.nx } σ2 H2) (hd : ∀ σ H, Pv n σ H → D.nx σ H) :
    ∃ W : Nat → Nat → L2.St → Hp → Prop, (∃ m, W 0 m σ H) ∧ ∀ i m σ H, W i m σ H →
      ((Itd lo n).stop i H ∧ D.nx σ H) ∨ ((Itd lo n).go i H ∧ ∃ N : L2.St → Hp → Prop, (∀ σ' H', N σ' H' → ∃ m', m' < m ∧ W (i + 1) m' σ' H') ∧ ∀ x H', (Itd lo n).yld i H x H' → g x σ H' fun σ2 H2 => tb { D with nx := N, ct := N, bk := D.nx } σ2 H2) := by
  refine ⟨fun i m σ H => m = n - i ∧ i ≤ n ∧ Pv i σ H, ⟨n, by simp, Nat.zero_le _, h0⟩, ?_⟩
  rintro i m σ H ⟨rfl, hi, p⟩
  by_cases hlt : i < n
  · refine .inr ⟨hlt, Pv (i + 1), fun σ' H' p' => ⟨n - (i + 1), by omega, rfl, hlt, p'⟩, fun x H' y => ?_⟩
    obtain ⟨e, y⟩ := y
    subst e y
    exact hs i σ _ hlt p
  · have e : i = n := by omega
    subst e
    exact .inl ⟨Nat.le_refl _, hd σ H p⟩
/-! ### deep equality: of flat things, tuples and lists -/
inductive EqD (K : PySem.W.Frag) (H : Hp) : Nat → V → V → Bool → Prop where
  | flat {d : Nat} {x y : V} (fx : flatV x = true) (fy : flatV y = true) : EqD K H d x y (eqV x y)
  | tup {d : Nat} {p q : Addr} {xs ys : List V} {e : Nat → Bool} (hn : p ≠ q) (hx : SqT K H p xs) (hy : SqT K H q ys) (he : ∀ j, j < xs.length → j < ys.length → EqD K H d (xs.getD j .non) (ys.getD j .non) (e j)) :
      EqD K H (d + 1) (.ref p) (.ref q) ((List.range (min xs.length ys.length)).all e && xs.length == ys.length)
  | lst {d : Nat} {p q : Addr} {xs ys : List V} {e : Nat → Bool} (hn : p ≠ q) (hx : SqL K H p xs) (hy : SqL K H q ys) (hl : xs.length = ys.length) (he : ∀ j, j < xs.length → EqD K H d (xs.getD j .non) (ys.getD j .non) (e j)) :
      EqD K H (d + 1) (.ref p) (.ref q) ((List.range xs.length).all e)
  | same {d : Nat} {p : Addr} : EqD K H d (.ref p) (.ref p) true
theorem EqD.at {pins : List (Addr × Obj)} {σ : L2.St} {H : Hp} {s : Shared} (I : Inv X pins σ H s) : ∀ {d : Nat} {x y : V} {b : Bool} {u v : Value} {A : Around}, EqD X.K H d x y b → RelV x u → RelV y v → A.units + d < cLine → SeqAt.EqAt A s u v b := by
  intro d x y b u v A h
  induction h generalizing u v A with
  | flat fx fy => intro rx ry _; exact eqAt_V rx ry fx fy
  | same => intro rx ry _; cases rx; cases ry; exact SeqAt.EqAt.same _
  | @tup d p q xs ys e hn hx hy he ih =>
    intro rx ry hu
    cases rx
    cases ry
    obtain ⟨its, r, pl, _⟩ := I.tuple hx
    obtain ⟨its2, r2, pl2, _⟩ := I.tuple hy
    have hl := r.length
    have hl2 := r2.length
    have := SeqAt.EqAt.of_refs hn (SeqAt.RcAt.tuples (A := A) (e := e) pl pl2 (by omega) (fun j h1 h2 => by
      have h1' : j < its.length := by simpa using h1
      have h2' : j < its2.length := by simpa using h2
      have z := ih j (by omega) (by omega) (vals_at r h1') (vals_at r2 h2') (A := A.in1) (by show A.units + 1 + d < _; omega)
      simpa using z))
    simp only [List.size_toArray, ← hl, ← hl2] at this
    exact this
  | @lst d p q xs ys e hn hx hy hle he ih =>
    intro rx ry hu
    cases rx
    cases ry
    obtain ⟨its, r, pl, _⟩ := I.list hx
    obtain ⟨its2, r2, pl2, _⟩ := I.list hy
    have hl := r.length
    have hl2 := r2.length
    have := SeqAt.EqAt.of_refs hn (SeqAt.RcAt.lists (A := A) (e := e) pl.isList pl2.isList (by simp only [List.size_toArray]; omega) (by omega) (fun j h1 h2 => by
      have h1' : j < its.length := by simpa using h1
      have h2' : j < its2.length := by simpa using h2
      have z := ih j (by omega) (vals_at r h1') (vals_at r2 h2') (A := A.in1) (by show A.units + 1 + d < _; omega)
      simpa using z))
    simp only [List.size_toArray, ← hl] at this
    exact this
/-- == and != of lists of such things -/
def rEqLD (K : PySem.W.Frag) (d : Nat) (neg : Bool) : R2 := fun x y H Q => ∃ p q xs ys e, x = .ref p ∧ y = .ref q ∧ SqL K H p xs ∧ SqL K H q ys ∧ xs.length = ys.length ∧ (∀ j, j < xs.length → EqD K H d (xs.getD j .non) (ys.getD j .non) (e j)) ∧ Q (.bl (if neg = true then !(List.range xs.length).all e else (List.range xs.length).all e)) H
theorem all_true {n : Nat} {e : Nat → Bool} (h : ∀ j, j < n → e j = true) : (List.range n).all e = true := List.all_eq_true.mpr fun j hj => h j (List.mem_range.mp hj)
/-! ### list(range(n)) -/
def upTo (j : Int) : List V := (List.range j.toNat).map fun k : Nat => V.int (k : Int)
def tRange1 (ta : TA) : TE := fun σ H Q => ta σ H fun vs H1 => ∃ j : Int, vs = [.int j] ∧ ∀ p, H1 p = none → Q (.ref p) (upd H1 p (.rng 0 j))
end
end Ow
/-! ## A list walked from its end; all of a list of truths -/
namespace Ow
open PySem PySem.Spec PyProof.Rows L2
def Itv (K : PySem.W.Frag) (a : Addr) (n : Nat) : It :=
  ⟨fun i H => i < n ∧ ∃ xs x, SqL K H a xs ∧ xs[n - 1 - i]? = some x, fun i H x H' => H' = H ∧ ∀ xs, SqL K H a xs → xs[n - 1 - i]? = some x, fun i _ => i = n⟩
section
variable {X : Cx} {tg : Expr}
def iRev (K : PySem.W.Frag) (ta : TA) : TI := fun σ H R => ta σ H fun vs H1 => ∃ a xs, vs = [.ref a] ∧ SqL K H1 a xs ∧ R (Itv K a xs.length) H1
/-- all of a list of truths -/
theorem call_all_bl (hc : X.calm = true) : CallR X (.builtin "all") (fun xs H Q => ∃ (a : Addr) (bs : List Bool), xs = [.ref a] ∧ SqL X.K H a (bs.map V.bl) ∧ Q (.bl (bs.all id)) H) := by
  intro pins s σ H xs us Q I r h
  obtain ⟨a, bs, rfl, hq, q⟩ := h
  obtain ⟨u, rfl, rx⟩ := vals1 r
  cases rx
  obtain ⟨its, rv, pl, hz⟩ := I.list hq
  have hl := rv.length
  rw [List.length_map] at hl
  refine call_all_walk (wpAny_pyIter_list pl.isList ?_)
  have hne : a ≠ s.heap.objs.size := by
    obtain ⟨o, ho, _⟩ := pl.isList
    exact Nat.ne_of_lt (Heap.lt_size ho)
  refine ⟨s.heap.objs.size, _, _, _, _, _, fun j => bs.getD j false, rfl, Walks.list (A := X.A.in1) (I.ok.hd hc) s.heap.objs.size a hne its.toArray, ⟨⟨_, Heap.get?_push_size _ rfl, rfl, rfl⟩, Heap.IsList.push pl.isList _⟩, ?_, ?_⟩
  · intro i v s' Q' E' hP hQ'
    have hP' : its[i]? = some v := by simpa using hP
    have hi : i < its.length := (List.getElem?_eq_some_iff.mp hP').1
    have hb : (bs.map V.bl)[i]? = some (V.bl (bs.getD i false)) := by
      rw [List.getElem?_map, List.getD_eq_getElem?_getD, List.getElem?_eq_getElem (by omega)]
      rfl
    obtain ⟨u', hu', ru'⟩ := rv.get hb
    rw [hP'] at hu'
    cases hu'
    cases ru'
    exact wpAny_truthy_bool hQ'
  · intro h' tk hk
    refine ⟨.bl _, H, I.kept (t' := tk) fun b o e => hk b o (fun z => ?_) (Heap.get?_push_of_some _ e), ?_, q⟩
    · have z' : b = s.heap.objs.size := by simpa using z
      exact absurd (Heap.lt_size e) (by rw [z']; exact Nat.lt_irrefl _)
    · have e1 : (List.range its.toArray.size).all (fun j => bs.getD j false) = bs.all id := by
        rw [List.size_toArray, ← hl]
        rw [Bool.eq_iff_iff, List.all_eq_true, List.all_eq_true]
        constructor
        · intro h x hx
          obtain ⟨j, hj, e⟩ := List.getElem_of_mem hx
          have := h j (List.mem_range.mpr hj)
          rw [List.getD_eq_getElem?_getD, List.getElem?_eq_getElem hj] at this
          show x = true
          rw [← e]
          exact this
        · intro h j hj
          have hj' := List.mem_range.mp hj
          rw [List.getD_eq_getElem?_getD, List.getElem?_eq_getElem hj']
          exact h _ (List.getElem_mem hj')
      rw [e1]
      rfl
/-! ### a comprehension whose block sees names of the def -/
variable {elt iter : Expr} {x : Str} {px pos : Pos} {scope : Scope} {wi : TI} {te : TE} {cl : List (Str × Addr)}
theorem pe_compC (js : List Nat) (ns : List Str) (hc : X.calm = true) (hclos : closureFor scope X.env = pure cl) (hcls : cl.map (·.1) = ns) (hsub : ∀ p ∈ cl, X.env.cells.lookup p.1 = some p.2)
    (hno : ∀ p ∈ scope.names, p.2 ≠ .cell ∧ (p.2 = .free → p.1 ∈ ns)) (hkind : scope.kind = .function) (hnames : ∀ y ∈ scope.names, y.2 = .local → scope.names.lookup y.1 = some .local) (hx : scope.names.lookup x = some .local)
    (hN : (x :: ns).Nodup) (hkd : ∀ y ∈ ns, (Env.kindOf (compEnvC scope cl 0 X.env) y = some .cell ∨ Env.kindOf (compEnvC scope cl 0 X.env) y = some .free) ∧ X.env.kindOf y = some .cell)
    (hjl : js.length = ns.length) (hj : js.map (fun j => X.N[j]?) = ns.map some)
    (hi : PI X (.Name x px) iter wi) (he : ∀ C s2 H2 fp, PE (cxComp X (x :: ns) scope cl C s2 H2 fp) elt te)
    (hs : ∀ z, foldedSetIterable iter X.env z = pure z := by intro _; rfl) :
    PE X (.ListComp elt [⟨.Name x px, iter, [], 0⟩] scope pos) (tComp wi te fun σ => js.map fun j => (σ[j]?).getD none) := by
  refine pe_comp (N := ns) (cl := cl) hc hclos (fun n c e => hsub (n, c) (PySem.mem_of_lookup e)) (fun y hy => (hno y hy).1) hkind hnames hx (fun y hy => ?_) hN (fun σ => by rw [List.length_map]; exact hjl) (fun σ i y v _ e1 e2 => ?_) hi he hs
  · have sub : ∀ (l : List (Str × NameKind)), (∀ p ∈ l, p.2 ≠ .cell ∧ (p.2 = .free → p.1 ∈ ns)) → ∀ p ∈ (l.map fun (n, k) => if (k == NameKind.free && X.env.scope.kind == ScopeKind.function && X.env.kindOf n == some NameKind.cell) then (n, NameKind.cell) else (n, k)), (p.2 = .cell ∨ p.2 = .free) → p.1 ∈ ns := by
      intro l hl p hp hk
      obtain ⟨q, hq, e⟩ := List.mem_map.mp hp
      have h1 := hl q hq
      obtain ⟨n, k⟩ := q
      dsimp only at e
      by_cases hf : k = .free
      · have h2 := h1.2 hf
        split at e
        · rw [← e]; exact h2
        · rw [← e]; exact h2
      · have hf' : (k == NameKind.free) = false := by
          cases k <;> first | rfl | exact absurd rfl hf
        rw [hf', Bool.false_and, Bool.false_and, if_neg (by decide)] at e
        rw [← e] at hk
        rcases hk with z | z
        · exact absurd z h1.1
        · exact absurd z hf
    have hy' : y ∈ ns := by
      rcases hy with z | z
      · exact sub scope.names hno (y, .cell) (PySem.mem_of_lookup z) (.inl rfl)
      · exact sub scope.names hno (y, .free) (PySem.mem_of_lookup z) (.inr rfl)
    rw [← hcls] at hy'
    have key : ∀ l : List (Str × Addr), y ∈ l.map (·.1) → ∃ c, l.lookup y = some c := by
      intro l
      induction l with
      | nil => intro h; simp at h
      | cons p r ih =>
        intro h
        by_cases e : y = p.1
        · exact ⟨p.2, by obtain ⟨p1, p2⟩ := p; dsimp only at e; subst e; simp [List.lookup]⟩
        · have h' : y ∈ r.map (·.1) := by
            rw [List.map_cons] at h
            exact (List.mem_cons.mp h).resolve_left e
          obtain ⟨c, hc'⟩ := ih h'
          refine ⟨c, ?_⟩
          obtain ⟨p1, p2⟩ := p
          have : (y == p1) = false := by simpa using e
          rw [List.lookup_cons, this]
          exact hc'
    exact key cl hy'
  · have hm : y ∈ ns := List.mem_of_getElem? e1
    refine ⟨(hkd y hm).1, (hkd y hm).2, ?_⟩
    rw [List.getElem?_map] at e2
    cases hji : js[i]? with
    | none => rw [hji] at e2; cases e2
    | some j =>
      rw [hji] at e2
      have e3 : (σ[j]?).getD none = some v := by
        have := Option.some.inj e2
        exact this
      have e4 := congrArg (fun l => l[i]?) hj
      rw [List.getElem?_map, List.getElem?_map, hji, e1] at e4
      have e5 : X.N[j]? = some y := by
        have := Option.some.inj e4
        exact this
      refine ⟨j, e5, ?_⟩
      cases hσ : σ[j]? with
      | none => rw [hσ] at e3; cases e3
      | some o =>
        rw [hσ] at e3
        have e6 : o = some v := e3
        rw [e6]
/-! ### classes with an __init__, and a base's __init__ called by name -/
structure CHas (P : Program) (w : World) (K : PySem.W.Frag) (mg : Str → Option Value) (base : Heap) (k : Nat) (C : Addr) (x : Str) (ps : List Str) (sp : Sp) : Prop where
  ex : ∃ (f : Addr) (fd : FuncData), Mk K C f ∧ FnOk P w K mg base CX0 k f fd ps sp ∧ Binds K fd ps [] ∧ mg x = some (.ref C)
structure BHas (P : Program) (w : World) (K : PySem.W.Frag) (mg : Str → Option Value) (base : Heap) (k : Nat) (x m : Str) (ps : List Str) (sp : Sp) : Prop where
  ex : ∃ (C f : Addr) (fd : FuncData), ClsFn K C m f ∧ FnOk P w K mg base CX0 k f fd ps sp ∧ Binds K fd ps [] ∧ mg x = some (.ref C)
end
end Ow
/-! ## is, of truths; a name put to a comprehension that sees names of the def -/
namespace Ow
open PySem PySem.Spec PyProof.Rows L2
section
variable {X : Cx}
theorem op_notB : OpR X (compareOp .IsNot) (fun x y H Q => ∃ a b : Bool, x = .bl a ∧ y = .bl b ∧ Q (.bl (!(a == b))) H) := by
  intro pins s σ H x y v u Q I rx ry h
  obtain ⟨a, b, rfl, rfl, q⟩ := h
  cases rx
  cases ry
  refine wpAny_isNot_plain rfl ⟨.bl (!(a == b)), H, I, ?_, q⟩
  cases a <;> cases b <;> rfl
variable {elt iter : Expr} {x : Str} {px pos : Pos} {scope : Scope} {wi : TI} {te : TE} {cl : List (Str × Addr)}
end
end Ow
/-! ## exceptions of own classes: raised by a def, caught by its caller -/
namespace Ow
open PySem PySem.Spec PyProof.Rows L2
/-- the ground beneath a flying exception: the module's base, all that is tracked, and what was there ahead of the call, the frames aside -/
structure Gnd (P : Program) (w : World) (base : Heap) (fs : List Addr) (H H' : Hp) (h B : Heap) : Prop where
  st : base.StaysIn B
  keep : ∀ b o, h.get? b = some o → H b = none → b ∉ fs → B.get? b = some o
  free : ∀ b o, h.get? b = some o → H b = none → H' b = none
  there : ∀ b o, h.get? b = some o → b ∉ fs → ∃ o', B.get? b = some o'
  tups : ∀ b xs, H b = some (.tup xs) → H' b = some (.tup xs)
  frzs : ∀ b o u, H b = some (.frz o u) → H' b = some (.frz o u)
  tbls : ∀ b ps, H b = some (.tbl ps) → ∃ more, H' b = some (.tbl (ps ++ more))
  hok : HOk P w H' B
def Slots (fs : List Addr) (h h' : Heap) : Prop := ∀ b ∈ fs, ∀ o, h.get? b = some o → ∃ sl, h'.get? b = some { o with slots := sl }
/-- an exception in flight over the frames of the callers -/
def CX1 (P : Program) (w : World) (base : Heap) : CXT := fun outer H s E e s' =>
  ∃ (a : Addr) (cls a0 : Value) (B : Heap) (H' : Hp), e = .ref a ∧ s'.os = s.os ∧ AllBare s'.gens ∧ Gnd P w base (frs outer) H H' s.heap B ∧ Slots (frs outer) s.heap s'.heap ∧ Heap.FlyingW B outer a cls a0 s'.heap ∧ H' a = none ∧ E cls none H'
section
variable {P : Program} {w : World} {base h h1 h2 B : Heap} {fs : List Addr} {H H' : Hp} {l : List Env}
theorem Gnd.un (G : Gnd P w base fs H H' h B) (sb : B.StaysIn h1) (sl : Slots fs h h1) : Un fs [] H H' h h1 where
  keep := fun b o q n hb _ => sb _ _ (G.keep b o q n hb)
  slot := fun b o q _ hb _ => sl b hb o q
  free := fun b o q n _ => G.free b o q n
  there := fun b o q _ => by
    by_cases hb : b ∈ fs
    · obtain ⟨s, e⟩ := sl b hb o q
      exact ⟨_, e⟩
    · obtain ⟨o', e⟩ := G.there b o q hb
      exact ⟨o', sb _ _ e⟩
  tups := G.tups
  frzs := G.frzs
  tbls := G.tbls
theorem Slots.on (x : Slots (frs l) h h1) (hl : h1.FunFrames B l) (u : h1.UpToSlots h2) : Slots (frs l) h h2 := fun b hb o q => by
  obtain ⟨sl, e⟩ := x b hb o q
  obtain ⟨_, o1, e1, d1⟩ := hl.mem hb
  rw [e] at e1
  cases e1
  obtain ⟨s2, e2⟩ := u b _ e d1
  exact ⟨s2, e2⟩
theorem obj_there {a : Addr} {o : HO} (x : ObjOk P w H h a o) : ∃ ob, h.get? a = some ob := by
  induction o with
  | lst xs => obtain ⟨_, _, _, _, e⟩ := x; exact ⟨_, e⟩
  | tup xs => obtain ⟨_, _, _, o, e, _⟩ := x; exact ⟨_, e⟩
  | dK kvs => obtain ⟨_, _, _, _, o, _, _, e, _⟩ := x; exact ⟨_, e⟩
  | dT kvs => obtain ⟨_, _, _, _, o, _, _, e, _⟩ := x; exact ⟨_, e⟩
  | set S n => obtain ⟨o, _, _, _, e, _⟩ := x; exact ⟨_, e⟩
  | ins C dx fs => obtain ⟨_, _, _, e, _⟩ := x; exact ⟨_, e⟩
  | own y => exact x
  | xd fs => obtain ⟨_, ⟨_, _, _, e, _⟩, _⟩ := x; exact ⟨_, e⟩
  | met f y => exact ⟨_, x⟩
  | rng lo hi => obtain ⟨_, _, _, e⟩ := x; exact ⟨_, e⟩
  | frz ob u ih => exact ⟨_, x.1⟩
  | tbl ps => exact ⟨_, x⟩
  | ext φ => exact x.2.1
/-- the class's own object, of what the fragment tells -/
theorem exc_obj {K : PySem.W.Frag} {C : Addr} {bmB : List Value} {nid : String} (X : K.In h) (q : PySem.W.excIn K C bmB nid = true) :
    ∃ bm N nm qn bs hd sn sub ab col dd k0 k1 k2 k3 k5 mN, h.get? C = some (excClassObj nm qn C N bs bm hd sn sub ab col dd k0 k1 k2 k3 k5 nid) ∧ h.Ns N mN ∧ mN "__init__" = none ∧ OwnTail h bmB bm := by
  unfold PySem.W.excIn at q
  split at q
  · next d0 c0 s0 e0 =>
    split at q
    · next C1 m1 y0 y1 y2 y3 n1 y5 em es =>
      simp only [beq_iff_eq, Bool.not_eq_true', Bool.and_eq_true] at q
      obtain ⟨⟨⟨⟨⟨eC, en⟩, ed⟩, et⟩, eo⟩, ei⟩ := q
      subst eC en
      obtain ⟨a1, a2, a3, a4, a5, a6, a7, a8, a9, a10, a11⟩ := c0
      dsimp only at em ed eo ei
      subst em ed
      obtain ⟨l0⟩ := s0
      have es' : l0 = [y0, y1, y2, y3, some (Value.builtin n1), y5] := es
      subst es'
      exact ⟨m1, a4, a1, a5, a2, a6, a7, a8, a9, a10, d0, y0, y1, y2, y3, y5, _, X _ _ e0, .of_isNs (PySem.W.isNs_of_in X eo), PySem.W.nsMap_none_of_in X eo ei, PySem.W.tail_of_in X et⟩
    · cases q
  · cases q
end
abbrev VE : List Value := [.type "ValueError", .type "Exception", .type "BaseException", .type "object"]
section
variable {P : Program} {w : World} {K : PySem.W.Frag} {mg : Str → Option Value} {base : Heap} {N : List Str} {qual : Str} {scope : Scope} {f : Addr} {cdv : Value} {A : Around} {outer : List Env} {s₀ : Shared} {H₀ : Hp} {E : XK}
/-- a def that may raise -/
theorem Fun.okX {x qual : Str} {st : Stmt} {f : Addr} {fd : FuncData} {N ps : List Str} {k : Nat} {sp : Sp} (F : Fun K x qual st f fd) (S : FnScope N ps (defScope st)) (len : ∀ vs H Q E, sp vs H Q E → vs.length = ps.length)
    (hbody : ∀ (cdv : Value) (A : Around) (outer : List Env) (s : Shared) (H : Hp) (vs : List V) (Q : VK) (E : XK), Room k (A.deeper (envOfC qual (defScope st) s.heap.objs.size f cdv)) → sp vs H Q E →
      ∃ t, PSs (cxOf (CX1 P w base) P w K mg base N qual (defScope st) f cdv A outer s H E) (defBody st) t ∧ t { nx := fun _ H' => Q .non H', rt := Q } (start N vs) H) : FnOk P w K mg base (CX1 P w base) (k + 1) f fd ps sp := by
  obtain ⟨oc, od, kV, doc, pm, an, cdv, ct, osl, e1, lk, hcd⟩ := F.ex
  subst e1
  exact fn_of lk hcd S len fun A outer s H vs Q E hr hsp => hbody cdv A outer s H vs Q E hr hsp
end
structure HasX (P : Program) (w : World) (K : PySem.W.Frag) (mg : Str → Option Value) (base : Heap) (k : Nat) (x : Str) (ps : List Str) (sp : Sp) : Prop where
  ex : ∃ (f : Addr) (fd : FuncData), FnOk P w K mg base (CX1 P w base) k f fd ps sp ∧ Binds K fd ps [] ∧ PySem.W.keepIn K (.ref f) = true ∧ mg x = some (.ref f)
/-- the caller's context within the suite that has caught the exception at a -/
def caught (X : Cx) (a : Addr) (oe : Obj) : Cx := { X with A := X.A.mark (some (.ref a)), calm := false, pn := (a, oe) :: X.pn }
section
variable {X : Cx} {pins : List (Addr × Obj)} {σ : L2.St} {H : Hp} {s : Shared} {a : Addr} {oe : Obj}
theorem caught_inv (I : Inv X pins σ H s) (e : s.heap.get? a = some oe) (n : H a = none) (hl : a ≠ X.env.locals) (hf : a ∉ X.fs) (hd : ∀ v, oe.data ≠ .cell v) : Inv (caught X a oe) pins σ H s :=
  ⟨⟨I.ok.mod, I.ok.kind, I.ok.glob, I.ok.blt, I.ok.above, I.ok.inj, I.ok.has, I.ok.cab, (fun z => nomatch z), I.ok.frames, I.ok.stk, I.ok.exf, I.ok.bs, I.ok.bsz, I.ok.noex, I.ok.exfs, I.ok.funs, I.ok.frf⟩,
    I.os, I.bare, I.base, I.loc, I.cell, I.free, I.freeC, fun p hp => by
      rcases List.mem_cons.mp (show p ∈ (a, oe) :: (X.pn ++ pins) from hp) with rfl | hp
      · exact ⟨e, n, hl, hf, hd⟩
      · exact I.pin p hp, I.hok, I.len⟩
/-- behind the suite the names of the frame are forgotten -/
theorem suite_end {h' : Heap} {m' : Str → Option Value} {t' : Nat} (I : Inv (caught X a oe) pins σ H s) (okX : X.Ok) (hn : h'.Ns X.env.locals m') (hs : Heap.SameBut X.env.locals s.heap h') :
    Inv X pins (List.replicate X.N.length none) H { s with heap := h', toks := t' } := by
  have neL : ∀ b o, X.s₀.heap.get? b = some o → b ≠ X.env.locals := fun b o e => Nat.ne_of_lt (Nat.lt_of_lt_of_le (Heap.lt_size e) okX.above)
  refine ⟨okX, I.os, I.bare, ⟨fun b o e n hb hx => ?_, fun b o e n hb hx => ?_, I.base.free, fun b o e hx => ?_, I.base.tups, I.base.frzs, I.base.tbls⟩, ⟨m', hn, fun i x v e1 e2 e3 => ?_⟩, fun x c e => ?_, I.free, I.freeC, fun p hp => ?_, fun b ob e => ?_, List.length_replicate ..⟩
  · exact (hs.2 b (neL b o e)).trans (I.base.keep b o e n hb hx)
  · obtain ⟨sl, e1⟩ := I.base.slot b o e n hb hx
    exact ⟨sl, (hs.2 b (neL b o e)).trans e1⟩
  · obtain ⟨o', e1⟩ := I.base.there b o e hx
    exact ⟨o', (hs.2 b (neL b o e)).trans e1⟩
  · rw [List.getElem?_replicate] at e2
    split at e2 <;> cases e2
  · obtain ⟨v, z⟩ := I.cell x c e
    exact ⟨v, z.sameBut hs (I.cne x c e)⟩
  · obtain ⟨e, n, ne, nf, d⟩ := I.pin p (List.mem_cons_of_mem _ hp)
    exact ⟨(hs.2 p.1 ne).trans e, n, ne, nf, d⟩
  · refine (I.hok b ob e).stay (fun c w' hc z => (hs.2 c ?_).trans z) (fun _ z => z) fun _ _ z => z
    have fr : H X.env.locals = none := I.free
    rintro rfl
    rcases hc with rfl | hc
    · rw [fr] at e; cases e
    · rw [fr] at hc; cases hc
end
/-- y = f(..) under a try that catches a class by its name and ends with a return -/
def tTry (K : PySem.W.Frag) (C₁ : Addr) (i j : Nat) (sp : Sp) (ta : TA) (tb : Addr → Obj → TS) : TS := fun D σ H => ta σ H fun vs H1 => sp (vs ++ []) H1 (fun v H2 => D.nx (σ.set i (some v)) H2)
  (fun cls _ H2 => PySem.W.exmOne K cls (.ref C₁) = some true ∧ ∀ (a : Addr) (oe : Obj), oe.cls = cls → H2 a = none → tb a oe { nx := fun _ _ => False, rt := D.rt } (σ.set j (some (.ref a))) H2)
section
variable {X : Cx} {k i j : Nat} {f y n c : Str} {ps : List Str} {sp : Sp} {e : Expr} {es : List Expr} {ta : TA} {C₁ : Addr} {b₀ : Stmt} {suite : List Stmt} {tb : Addr → Obj → TS} {py p pos apos np hpos tpos : Pos}
end
/-! ### isinstance of a caught exception -/
structure ExF (K : PySem.W.Frag) (C : Addr) : Prop where
  ga : PySem.W.findIn K (.ref C) "__getattribute__" = some (some (.builtin "BaseException.__getattribute__"))
  gn : PySem.W.findIn K (.ref C) "__getattr__" = some none
  gc : PySem.W.findIn K (.ref C) "__class__" = some (some (.builtin "object.__class__"))
  mo : PySem.W.mroIn K C (.type "object") = some true
  mb : PySem.W.mroIn K C (.type "BaseException") = some true
section
variable {prog : Program} {w : World} {A : Around} {E : Value → Shared → Prop} {h : Heap} {g : Array GenState} {d : Drawn} {t : Nat} {os : OsState} {K : PySem.W.Frag} {a C : Addr} {o : Obj}
theorem exc_get {R : Result → Shared → Prop} (X : K.In h) (f : ExF K C) (hx : h.get? a = some o) (hc : o.cls = .ref C) (hq : R (.ok (.ret (.ref C))) ⟨h, g, d, t, os⟩) :
    codeAny (model prog w) A (.call (.builtin "getset_descriptor.__get__") ⟨[.builtin "object.__class__", .ref a, .ref C], []⟩) R ⟨h, g, d, t, os⟩ := by
  have hT5 : (⟨h, g, d, t, os⟩ : Shared).TypeIs (.builtin "object.__class__") "getset_descriptor" := F.typeOf_object_class
  have L1 : PySem.W.Looks (model prog w) h (isSubtype (.ref C) (.type (".".intercalate ("object.__class__".cutAt '.').dropLast))) true := by
    rw [F.owner_object_class]
    exact PySem.W.looks_mroIn X f.mo
  refine codeAny_call_builtin F.slot_gs_get.plain F.entry_gs_get (F.slot_gs_get.check _ _ _ _ _ _ _ _ hT5 (F.args_gs_get _ _ _) ?_)
  repeat (any_goals (first | assumption | (with_reducible refine wpAny_loadPart_at hx ?_; rw [hc]) | with_reducible refine L1.at ?_ | wp_step))
  refine ⟨Code.quiet_builtin _ (by decide +kernel), codeAny_builtin F.entry_object_class ?_⟩
  repeat (any_goals (first | assumption | (with_reducible refine wpAny_loadPart_at hx ?_; rw [hc]) | wp_step))
theorem exc_entry {tk : Tok} {Q : Fin → Shared → Prop} (X : K.In h) (f : ExF K C) (hx : h.get? a = some o) (hc : o.cls = .ref C) (hq : Q (.done (.ret (.ref C))) ⟨h, g, d, t, os⟩) :
    wpAny (model prog w) A (Builtin.«object.__getattribute__» ⟨[.ref a, .str "__class__" tk], []⟩) Q E ⟨h, g, d, t, os⟩ := by
  have hT5 : (⟨h, g, d, t, os⟩ : Shared).TypeIs (.builtin "object.__class__") "getset_descriptor" := F.typeOf_object_class
  have L1 := PySem.W.looks_findIn (M := model prog w) X f.gc
  have f5 := F.typeOf_object_class
  have f6 := F.slot_gs_get.lookup
  have f7 := F.slot_gs_set.lookup
  repeat (any_goals (first | assumption | (with_reducible refine wpAny_loadPart_at hx ?_; rw [hc]) | with_reducible refine L1.at ?_ | wp_step))
  refine exc_get X f hx hc ?_
  repeat (any_goals (first | assumption | wp_step))
theorem exc_check {M : Model} {nv : Value} {Q : Unit → Shared → Prop} (X : K.In h) (f : ExF K C) (hx : h.get? a = some o) (hc : o.cls = .ref C) (hq : Q () ⟨h, g, d, t, os⟩) :
    wpAny M A (checkBuiltinCall "BaseException.__getattribute__" ⟨[.ref a, nv], []⟩) Q E ⟨h, g, d, t, os⟩ := by
  have k1 : builtinKind "BaseException.__getattribute__" = some .slot := by decide +kernel
  have k2 : splitId "BaseException.__getattribute__" = some ("BaseException", "__getattribute__") := by decide +kernel
  have L1 := PySem.W.looks_mroIn (M := M) X f.mb
  have k3 := F.args_bexc_ga (.ref a) nv
  simp only [checkBuiltinCall, k1, k2]
  refine wpAny_bind ?_
  unfold isInstance
  repeat (first | (with_reducible refine wpAny_loadPart_at hx ?_; rw [hc]) | with_reducible refine L1.at ?_ | wp_step)
  exact hq
theorem exc_call {tk : Tok} {R : Result → Shared → Prop} (X : K.In h) (f : ExF K C) (hx : h.get? a = some o) (hc : o.cls = .ref C) (hq : R (.ok (.ret (.ref C))) ⟨h, g, d, t, os⟩) :
    codeAny (model prog w) A (.call (.builtin "BaseException.__getattribute__") ⟨[.ref a, .str "__class__" tk], []⟩) R ⟨h, g, d, t, os⟩ :=
  codeAny_call_builtin F.attr_ValueError.ga.plain F.entry_bexc_ga (exc_check X f hx hc (exc_entry X f hx hc hq))
theorem exc_by {tk : Tok} {fill : Bool} {Q : Value → Shared → Prop} (X : K.In h) (f : ExF K C) (hx : h.get? a = some o) (hc : o.cls = .ref C) (hq : Q (.ref C) ⟨h, g, d, t, os⟩) :
    wpAny (model prog w) A (getAttrBy (.ref a) (.str "__class__" tk) fill) Q E ⟨h, g, d, t, os⟩ := by
  have f3 := F.attr_ValueError.ga.bind (.ref a)
  have L1 := PySem.W.looks_findIn (M := model prog w) X f.ga
  have L2 := PySem.W.looks_findIn (M := model prog w) X f.gn
  have hx2 : (Value.builtin "BaseException.__getattribute__" == Value.builtin "object.__getattribute__") = false := by decide +kernel
  have hx1 : (onTheHeap (Value.ref C) && Value.builtin "BaseException.__getattribute__" == Value.builtin "object.__getattribute__") = false := by rw [hx2]; rfl
  have hx0 : (false && onTheHeap (Value.builtin "BaseException.__getattribute__")) = false := rfl
  repeat (any_goals (first | assumption | (with_reducible refine wpAny_loadPart_at hx ?_; rw [hc]) | with_reducible refine L1.at ?_ | with_reducible refine L2.at ?_ | wp_step))
  refine exc_call X f hx hc ?_
  repeat (any_goals (first | assumption | wp_step))
theorem exc_class {Q : Option Value → Shared → Prop} (X : K.In h) (f : ExF K C) (hx : h.get? a = some o) (hc : o.cls = .ref C) (hq : Q (some (.ref C)) ⟨h, g, d, t + 1, os⟩) :
    wpAny (model prog w) A (getAttr? (.ref a) "__class__") Q E ⟨h, g, d, t, os⟩ := by
  unfold getAttr? getAttrBy?
  refine wpAny_bind (wpAny_mkText (wpAny_bind (wpAny_attempt (exc_by X f hx hc ?_))))
  exact wpAny_pure hq
end
theorem kitx_exc {K : PySem.W.Frag} {a C : Addr} (f : ExF K C) : PySem.W.KitX K (.ref a) (.ref C) (fun h => ∃ o, h.get? a = some o ∧ o.cls = .ref C) where
  ty := fun M h _ p => by
    obtain ⟨o, e1, e2⟩ := p
    exact e2 ▸ (PySem.W.Looks.ld e1).andThen .now
  it := fun M h X _ => by
    obtain ⟨cd, e1, _⟩ := Option.bind_eq_some_iff.mp f.mo
    unfold PySem.W.clsIn at e1
    split at e1
    · next c' d' cd' sl' e0 =>
      intro A' Q' E' s' k q
      unfold isType loadHead
      exact wpAny_bind (wpAny_loadPart (k _ _ (X _ _ e0)) (wpAny_pure q))
    · cases e1
  ne := fun h tp dd its n sl X htp => by
    obtain ⟨cd, e1, _⟩ := Option.bind_eq_some_iff.mp f.mo
    refine Bool.eq_false_iff.mpr fun q => ?_
    have e : C = tp := Value.ref.inj (beq_iff_eq.mp q)
    subst e
    unfold PySem.W.clsIn at e1
    split at e1
    · next c' d' cd' sl' e0 =>
      have z := (X _ _ e0).symm.trans htp
      cases z
    · cases e1
  ca := fun {prog w A E Q s} X p k => by
    obtain ⟨hh, g, d, t, os⟩ := s
    obtain ⟨o, e1, e2⟩ := p
    exact exc_class X f e1 e2 k
/-- an own class as the second of isinstance and of except -/
theorem kitc_of {K : PySem.W.Frag} {C D : Addr} {b : Bool} (h1 : PySem.W.isClsIn K D = true) (h2 : PySem.W.typeIn K (.ref D) = some (.type "type")) (h3 : PySem.W.mroIn K C (.ref D) = some b) : PySem.W.kitCls K (.ref C) (.ref D) = some b := by
  unfold PySem.W.kitCls
  have e : ((PySem.W.clsIn K D).isSome && PySem.W.typeIn K (.ref D) == some (.type "type")) = true := by
    rw [h2]
    have h1' : (PySem.W.clsIn K D).isSome = true := h1
    rw [h1', Bool.true_and]
    exact beq_self_eq_true _
  show (if ((PySem.W.clsIn K D).isSome && PySem.W.typeIn K (.ref D) == some (.type "type")) = true then PySem.W.subIn K (.ref C) (.ref D) else none) = _
  rw [if_pos e]
  exact h3
theorem exm_of {K : PySem.W.Frag} {C D : Addr} (h1 : PySem.W.isClsIn K D = true) (h2 : PySem.W.typeIn K (.ref D) = some (.type "type")) (h3 : PySem.W.mroIn K C (.ref D) = some true) (h4 : PySem.W.mroIn K D (.type "BaseException") = some true) : PySem.W.exmOne K (.ref C) (.ref D) = some true := by
  unfold PySem.W.exmOne
  have e : PySem.W.subIn K (.ref D) (.type "BaseException") = some true := h4
  rw [e, if_pos (by rw [beq_self_eq_true])]
  exact kitc_of h1 h2 h3
theorem kit_apart {K : PySem.W.Frag} {C D : Addr} (h1 : PySem.W.isClsIn K D = true) (h2 : PySem.W.typeIn K (.ref D) = some (.type "type")) (h3 : PySem.W.mroIn K C (.ref D) = some false) (h4 : PySem.W.mroIn K D (.ref D) = some true) : PySem.W.kitOne K (.ref C) (.ref D) = some false := by
  unfold PySem.W.kitOne
  split
  · next q =>
    have e : C = D := Value.ref.inj (beq_iff_eq.mp q)
    subst e
    rw [h3] at h4
    cases h4
  · exact kitc_of h1 h2 h3
end Ow
/-! ## exceptions that pass a def on their way, and a try over several rows -/
namespace Ow
open PySem PySem.Spec PyProof.Rows L2
section
variable {P : Program} {w : World} {K : PySem.W.Frag} {mg : Str → Option Value} {base : Heap} {N : List Str} {qual : Str} {scope : Scope} {f : Addr} {cdv : Value} {A : Around} {outer : List Env} {s₀ : Shared} {H₀ : Hp} {E : XK}
end
/-- the context of a try's rows: an exception that leaves them lies as CX1 says, over a state of this frame -/
def pinned (X : Cx) (pins : List (Addr × Obj)) : Cx := { X with pn := X.pn ++ pins }
def tryCx (X : Cx) (pins : List (Addr × Obj)) (E : L2.St → XK) : Cx := (pinned X pins).wish fun e s' => ∃ (pins' : List (Addr × Obj)) (σ' : L2.St) (H : Hp) (s : Shared), Inv (pinned X pins) pins' σ' H s ∧ CX1 X.prog X.w X.base X.stack H s (E σ') e s'
section
variable {X : Cx} {pins pins' : List (Addr × Obj)} {σ : L2.St} {H : Hp} {s : Shared} {E : L2.St → XK}
theorem to_pinned (I : Inv X pins σ H s) : Inv (pinned X pins) [] σ H s :=
  ⟨⟨I.ok.mod, I.ok.kind, I.ok.glob, I.ok.blt, I.ok.above, I.ok.inj, I.ok.has, I.ok.cab, I.ok.hd, I.ok.frames, I.ok.stk, I.ok.exf, I.ok.bs, I.ok.bsz, I.ok.noex, I.ok.exfs, I.ok.funs, I.ok.frf⟩,
    I.os, I.bare, I.base, I.loc, I.cell, I.free, I.freeC, fun p hp => I.pin p (by
      rw [List.append_nil] at hp
      exact hp), I.hok, I.len⟩
theorem of_pinned (okX : X.Ok) (I : Inv (pinned X pins) pins' σ H s) : Inv X pins σ H s :=
  ⟨okX, I.os, I.bare, I.base, I.loc, I.cell, I.free, I.freeC, fun p hp => I.pin p (List.mem_append_left _ hp), I.hok, I.len⟩
def tCallT (sp : Sp) (E : L2.St → XK) (t : TA) : TE := fun σ H Q => t σ H fun vs H1 => sp (vs ++ []) H1 Q (E σ)
end
def wishT (K : PySem.W.Frag) (C₁ : Addr) (j : Nat) (ts : Addr → Obj → TS) (D : Ends) : L2.St → XK := fun σ' cls _ H2 => PySem.W.exmOne K cls (.ref C₁) = some true ∧ ∀ (a : Addr) (oe : Obj), oe.cls = cls → H2 a = none → ts a oe { nx := fun _ _ => False, rt := D.rt } (σ'.set j (some (.ref a))) H2
def tTryG (K : PySem.W.Frag) (C₁ : Addr) (j : Nat) (tb : (L2.St → XK) → TS) (ts : Addr → Obj → TS) : TS := fun D σ H => tb (wishT K C₁ j ts D) D σ H
/-- a built-in class as the second of isinstance -/
theorem kit_base {K : PySem.W.Frag} {C : Addr} {T : String} (h0 : PySem.W.kitMeta T = true) (h1 : PySem.W.mroIn K C (.type T) = some true) : PySem.W.kitOne K (.ref C) (.type T) = some true := by
  unfold PySem.W.kitOne
  rw [if_neg (by intro z; cases (beq_iff_eq.mp z))]
  show (if PySem.W.kitMeta T = true then PySem.W.subIn K (.ref C) (.type T) else none) = _
  rw [if_pos h0]
  exact h1
/-- == and != of lists of ints, of any lengths -/
def rEqLI (K : PySem.W.Frag) (neg : Bool) : R2 := fun x y H Q => ∃ (p q : Addr) (as bs : List Int), x = .ref p ∧ y = .ref q ∧ SqL K H p (as.map V.int) ∧ SqL K H q (bs.map V.int) ∧ Q (.bl (if neg = true then !decide (as = bs) else decide (as = bs))) H
end Ow
/-! ## a try whose except suite goes on behind; methods of ints and lists -/
namespace Ow
open PySem PySem.Spec PyProof.Rows L2
theorem PS.nox {X : Cx} {st : Stmt} {t : TS} (h : PS X.nox st t) : PS X st t := fun pins s σ H D I hw =>
  wpAny_mono (h pins s σ H D (I.wish _) hw) (fun _ _ q => q.unwish) fun _ _ z => False.elim z
section
variable {X : Cx} {pins : List (Addr × Obj)} {σ : L2.St} {H : Hp} {s : Shared} {a : Addr} {oe : Obj} {j : Nat} {n : Str}
/-- behind the suite the name of the exception is forgotten, the others stay -/
theorem suite_endK {h' : Heap} {m : Str → Option Value} {v' : Option Value} {t' : Nat} (I : Inv (caught X a oe) pins σ H s) (okX : X.Ok) (hN : X.N.Nodup) (hj : X.N[j]? = some n)
    (hl : ∀ (i : Nat) (x : Str) (v : V), X.N[i]? = some x → σ[i]? = some (some v) → Vis X.env.scope x → ∃ u, RelV v u ∧ Look X.env s.heap m x u)
    (hn : h'.Ns X.env.locals (fun x => if x = n then v' else m x)) (hs : Heap.SameBut X.env.locals s.heap h') :
    Inv X pins (σ.set j none) H { s with heap := h', toks := t' } := by
  have neL : ∀ b o, X.s₀.heap.get? b = some o → b ≠ X.env.locals := fun b o e => Nat.ne_of_lt (Nat.lt_of_lt_of_le (Heap.lt_size e) okX.above)
  refine ⟨okX, I.os, I.bare, ⟨fun b o e n hb hx => ?_, fun b o e n hb hx => ?_, I.base.free, fun b o e hx => ?_, I.base.tups, I.base.frzs, I.base.tbls⟩, ⟨_, hn, fun i x v e1 e2 e3 => ?_⟩, fun x c e => ?_, I.free, I.freeC, fun p hp => ?_, fun b ob e => ?_, by rw [List.length_set]; exact I.len⟩
  · exact (hs.2 b (neL b o e)).trans (I.base.keep b o e n hb hx)
  · obtain ⟨sl, e1⟩ := I.base.slot b o e n hb hx
    exact ⟨sl, (hs.2 b (neL b o e)).trans e1⟩
  · obtain ⟨o', e1⟩ := I.base.there b o e hx
    exact ⟨o', (hs.2 b (neL b o e)).trans e1⟩
  · by_cases hij : i = j
    · subst hij
      have hi : i < σ.length := by have z : σ.length = X.N.length := I.len; rw [z]; exact (List.getElem?_eq_some_iff.mp hj).1
      rw [List.getElem?_set_self hi] at e2
      cases e2
    · rw [List.getElem?_set_ne (Ne.symm hij)] at e2
      obtain ⟨u', r', q⟩ := hl i x v e1 e2 e3
      refine ⟨u', r', ?_⟩
      rcases q with ⟨k, e⟩ | ⟨k, c, e, z⟩
      · refine .inl ⟨k, ?_⟩
        have : x ≠ n := fun e => hij (nodup_ix hN e1 (e ▸ hj))
        simp [this, e]
      · exact .inr ⟨k, c, e, z.sameBut hs (I.cne x c e)⟩
  · obtain ⟨v, z⟩ := I.cell x c e
    exact ⟨v, z.sameBut hs (I.cne x c e)⟩
  · obtain ⟨e, n, ne, nf, d⟩ := I.pin p (List.mem_cons_of_mem _ hp)
    exact ⟨(hs.2 p.1 ne).trans e, n, ne, nf, d⟩
  · refine (I.hok b ob e).stay (fun c w' hc z => (hs.2 c ?_).trans z) (fun _ z => z) fun _ _ z => z
    have fr : H X.env.locals = none := I.free
    rintro rfl
    rcases hc with rfl | hc
    · rw [fr] at e; cases e
    · rw [fr] at hc; cases hc
end
def endsK (j : Nat) (D : Ends) : Ends := { nx := fun σ H => D.nx (σ.set j none) H, rt := D.rt }
section
variable {X : Cx} {j : Nat} {n c : Str} {C₁ : Addr} {b₀ : Stmt} {suite : List Stmt} {tb : Addr → Obj → TS} {np hpos : Pos}
end
def wishK (K : PySem.W.Frag) (C₁ : Addr) (j : Nat) (ts : Addr → Obj → TS) (D : Ends) : L2.St → XK := fun σ' cls _ H2 => PySem.W.exmOne K cls (.ref C₁) = some true ∧ ∀ (a : Addr) (oe : Obj), oe.cls = cls → H2 a = none → ts a oe (endsK j D) (σ'.set j (some (.ref a))) H2
def tTryK (K : PySem.W.Frag) (C₁ : Addr) (j : Nat) (tb : (L2.St → XK) → TS) (ts : Addr → Obj → TS) : TS := fun D σ H => tb (wishK K C₁ j ts D) D σ H
/-- i.bit_length() -/
def rBits : V → List V → Hp → VK → Prop := fun x vs H Q => ∃ i : Int, x = .int i ∧ vs = [] ∧ Q (.int ((Builtin.Int.intBits i : Nat) : Int)) H
theorem ty_int {K : PySem.W.Frag} {i : Int} {H : Hp} : tyV K "int" (.int i) H := rfl
/-- xs.insert(0, y) -/
def rIns0 : V → List V → Hp → VK → Prop := fun x vs H Q => ∃ l xs y, x = .ref l ∧ vs = [.int 0, y] ∧ H l = some (.lst xs) ∧ xs.length < sizeLine ∧ Q .non (upd H l (.lst (y :: xs)))
end Ow
/-! ## exceptions that bear a field of their own: made by their class's __init__, raised, in flight, caught, read -/
namespace Ow
open PySem PySem.Spec PyProof.Rows L2
/-- no exception stands behind it -/
def Ctx0 (o : Obj) : Prop := ∃ vs, o.data = .fields vs ∧ vs[2]? = some .none
/-- the exception's own dict -/
def OwnD (c : Bool) (h : Heap) (e : Addr) (d : Option Addr) : Prop := ∃ o, h.get? e = some o ∧ o.dict = d ∧ (c = true → Ctx0 o)
theorem mapF_dict (f : Array Value → Array Value) (o : Obj) : (Obj.mapFields f o).dict = o.dict := by
  obtain ⟨c, d, dt, sl⟩ := o
  cases dt <;> rfl
section
variable {M : Model} {A : Around} {E : Value → Shared → Prop} {s : Shared} {bs : Heap} {en : Env} {out : List Env} {L e : Addr} {c : Bool}
theorem entry_own {oe : Obj} {vs : Array Value} {hd0 a0 : Value} {nx : Bool} {Q : Unit → Shared → Prop} (fr : A.frames = some (en :: out)) (ff : s.heap.FunFrames bs (en :: out)) (fl : en.frame = some L)
    (ge : s.heap.get? e = some oe) (st : bs.StaysIn s.heap) (ne : bs.get? e = none) (dt : oe.data = .fields vs) (z1 : 1 < vs.size) (z0 : vs[0]? = some a0) (z2 : c = true → vs[2]? = some .none)
    (k : ∀ h', Heap.NotedW bs (en :: out) e oe.cls a0 (rawInt L) s.heap h' → OwnD c h' e oe.dict → Q () { s with heap := h' }) :
    wpAny M A (do let a ← frameOf en; let pl ← entryPlaceOf L nx; let b ← EntryCells.newEntry hd0 a .none (rawInt L) .none pl; setField (.ref e) 1 b) Q E s := by
  have nf : e ∉ (en :: out).filterMap (·.frame) := fun hm => by
    obtain ⟨_, o, g1, g2⟩ := ff.mem hm
    rw [ge] at g1
    cases g1
    exact g2 _ dt
  refine wpAny_bind (wpAny_frameOf_fun fr ff fl fun h1 so => wpAny_bind (wpAny_entryPlaceOf fun pl hpl => ?_))
  unfold EntryCells.newEntry newFields
  refine wpAny_bind (wpAny_newObj_type ?_ (hpl.sizeOk5 _ _ _ _ _))
  generalize hT : (([hd0, Value.ref L, Value.none, rawInt L, Value.none] ++ (if pl.isEmpty then List.replicate 6 Value.none else pl)).toArray : Array Value) = ts
  have t3 : ts[3]? = some (rawInt L) := by
    rw [← hT]
    rfl
  have g1 : h1.get? e = some oe := (so.2.1 e nf).trans ge
  have g2 : (h1.push { cls := .type "traceback", dict := none, data := .fields ts }).get? e = some oe := Heap.get?_push_of_some _ g1
  have neT : h1.objs.size ≠ e := Nat.ne_of_gt (Heap.lt_size g1)
  have st1 : bs.StaysIn h1 := fun b o hb => (so.2.1 b fun hm => by rw [(ff.mem hm).1] at hb; cases hb).trans (st b o hb)
  refine wpAny_setField g2 dt z1 (k _ ?_ ?_)
  · have g3 := Heap.get?_update_self (Obj.mapFields (·.setIfInBounds 1 (Value.ref h1.objs.size))) g2 (Obj.isFreed_of_fields (Obj.data_mapFields dt _))
    have kp : ∀ b o, b ≠ e → h1.get? b = some o → ((h1.push { cls := .type "traceback", dict := none, data := .fields ts }).update e (Obj.mapFields (·.setIfInBounds 1 (Value.ref h1.objs.size)))).get? b = some o := fun b o hb q => by
      rw [Heap.get?_update_other _ _ (Ne.symm hb)]
      exact Heap.get?_push_of_some _ q
    have nr : ∀ b o, s.heap.get? b = some o → (∀ us, o.data ≠ .fields us) → b ≠ e := fun b o q hn z => by
      subst z
      rw [ge] at q
      cases q
      exact hn _ dt
    refine ⟨fun b o hb => kp b o (fun z => by rw [z, ne] at hb; cases hb) (st1 b o hb), ff.of_keeps fun b o q hn => ?_, ⟨_, _, h1.objs.size, ⟨.type "traceback", none, .fields ts, #[]⟩, ts, g3, ⟨Obj.cls_mapFields _ _, ?_⟩, Obj.data_mapFields dt _, ?_, st1.fresh, neT, ?_, rfl, t3⟩, fun b o q hn => ?_⟩
    · obtain ⟨sl, e1⟩ := so.2.2 b o q
      exact ⟨_, kp b _ (nr b o q hn) e1, rfl⟩
    · rw [Array.getElem?_setIfInBounds_ne (by decide)]
      exact z0
    · rw [Array.getElem?_setIfInBounds_self_of_lt z1]
    · exact (Heap.get?_update_other _ _ (Ne.symm neT)).trans (Heap.get?_push_size h1 rfl)
    · obtain ⟨sl, e1⟩ := so.2.2 b o q
      exact ⟨sl, kp b _ (nr b o q hn) e1⟩
  · exact ⟨_, Heap.get?_update_self _ g2 (Obj.isFreed_of_fields (Obj.data_mapFields dt _)), mapF_dict _ _, fun hc => ⟨_, Obj.data_mapFields dt _, by rw [Array.getElem?_setIfInBounds_ne (by decide)]; exact z2 hc⟩⟩
/-- a frame is noted in an exception that flies -/
theorem note_own {cls a0 : Value} {d : Option Addr} {Q : Unit → Shared → Prop} (fr : A.frames = some (en :: out)) (fl : en.frame = some L) (F : Heap.FlyingW bs (en :: out) e cls a0 s.heap) (D : OwnD c s.heap e d)
    (k : ∀ h', Heap.HeldW bs (en :: out) e cls a0 L h' → OwnD c h' e d → s.heap.UpToSlots h' → Q () { s with heap := h' }) : wpAny M A (noteFrame (.ref e) en) Q E s := by
  obtain ⟨st, ne, ff, oe, vs, T, oT, ts, ge, ⟨rfl, z0⟩, dt, z1, nT, neT, gT, dT, t3⟩ := F
  obtain ⟨o1, g1, rfl, hc⟩ := D
  cases ge.symm.trans g1
  unfold noteFrame
  simp only [fl]
  refine wpAny_bind (wpAny_field ge dt z1 ?_)
  rw [if_pos (show (Value.ref T != Value.none) = true from rfl)]
  refine wpAny_bind (wpAny_field gT dT t3 ?_)
  rw [if_neg (show ¬ ((Value.none == rawInt L) = true) from fun z => by cases z)]
  refine wpAny_bind (wpAny_setField gT dT (Array.getElem?_eq_some_iff.mp t3).1 ?_)
  have ot : ∀ b, b ≠ T → (s.heap.update T (Obj.mapFields (·.setIfInBounds 3 Value.none))).get? b = s.heap.get? b := fun b hb => Heap.get?_update_other _ _ (Ne.symm hb)
  have nr : ∀ b o, s.heap.get? b = some o → (∀ us, o.data ≠ .fields us) → b ≠ T := fun b o q hn z => by
    subst z
    rw [gT] at q
    cases q
    exact hn _ dT
  refine entry_own (s := { s with heap := s.heap.update T (Obj.mapFields (·.setIfInBounds 3 Value.none)) }) fr (ff.of_keeps fun b o q hn => ⟨o, (ot b (nr b o q hn)).trans q, rfl⟩) fl ((ot e (Ne.symm neT)).trans ge) (fun b o q => (ot b fun z => by subst z; rw [nT] at q; cases q).trans (st b o q)) ne dt
    (Array.getElem?_eq_some_iff.mp z1).1 z0 (fun h => by obtain ⟨vs', q1, q2⟩ := hc h; rw [dt] at q1; cases q1; exact q2) fun h' ⟨x1, x2, x3, x4⟩ D' => k h' ⟨x1, ne, x2, x3⟩ D' fun b o q hn => x4 b o ((ot b (nr b o q hn)).trans q) hn
theorem flight_own {l : List Env} {cls a0 fv : Value} {d : Option Addr} {Q : Unit → Shared → Prop} (st : bs.StaysIn s.heap) (ne : bs.get? e = none) (ff : s.heap.FunFrames bs l) (tr : s.heap.TracedAtW bs e cls a0 fv) (D : OwnD c s.heap e d)
    (k : ∀ h', Heap.FlyingW bs l e cls a0 h' → OwnD c h' e d → s.heap.UpToSlots h' → Q () { s with heap := h' }) : wpAny M A (setFlight (.ref e) none) Q E s := by
  obtain ⟨oe, vs, T, oT, ts, ge, hc, dt, z1, nT, neT, gT, dT, t3⟩ := tr
  have ot : ∀ b, b ≠ T → (s.heap.update T (Obj.mapFields (·.setIfInBounds 3 ((none : Option Addr).elim Value.none fun f => rawInt f)))).get? b = s.heap.get? b := fun b hb => Heap.get?_update_other _ _ (Ne.symm hb)
  have nr : ∀ b o, s.heap.get? b = some o → (∀ us, o.data ≠ .fields us) → b ≠ T := fun b o q hn z => by
    subst z
    rw [gT] at q
    cases q
    exact hn _ dT
  have z3 := (Array.getElem?_eq_some_iff.mp t3).1
  unfold setFlight
  refine wpAny_bind (wpAny_field ge dt z1 ?_)
  rw [if_pos (show (Value.ref T != Value.none) = true from rfl)]
  refine wpAny_setField gT dT z3 (k _ ⟨fun b o q => (ot b fun z => by subst z; rw [nT] at q; cases q).trans (st b o q), ne, ff.of_keeps fun b o q hn => ⟨o, (ot b (nr b o q hn)).trans q, rfl⟩,
    oe, vs, T, _, _, (ot e (Ne.symm neT)).trans ge, hc, dt, z1, nT, neT, Heap.get?_update_self _ gT (Obj.isFreed_of_fields (Obj.data_mapFields dT _)), Obj.data_mapFields dT _, Array.getElem?_setIfInBounds_self_of_lt z3⟩ ?_ fun b o q hn => ⟨o.slots, (ot b (nr b o q hn)).trans q⟩)
  obtain ⟨o1, g1, hd⟩ := D
  exact ⟨o1, (ot e (Ne.symm neT)).trans g1, hd⟩
/-- the exception leaves one more frame -/
theorem leave_own {cls a0 : Value} {d : Option Addr} {Q : Unit → Shared → Prop} (fr : A.frames = some (en :: out)) (fl : en.frame = some L) (F : Heap.FlyingW bs (en :: out) e cls a0 s.heap) (D : OwnD c s.heap e d)
    (k : ∀ h', Heap.FlyingW bs out e cls a0 h' → OwnD c h' e d → s.heap.UpToSlots h' → Q () { s with heap := h' }) : wpAny M A (leaving en (.ref e)) Q E s := by
  unfold leaving
  refine wpAny_bind (note_own fr fl F D fun h1 ⟨x1, x2, x3, x4⟩ D1 u1 => flight_own (s := { s with heap := h1 }) x1 x2 x3 x4 D1 fun h2 ⟨y1, y2, y3, y4⟩ D2 u2 => ?_)
  obtain ⟨_, _, y3'⟩ := y3
  exact k h2 ⟨y1, y2, y3', y4⟩ D2 (u1.trans u2)
/-- the exception leaves the frame that raised it -/
theorem leave_first {oe : Obj} {vs : Array Value} {a0 : Value} {Q : Unit → Shared → Prop} (fr : A.frames = some (en :: out)) (ff : s.heap.FunFrames bs (en :: out)) (fl : en.frame = some L)
    (ge : s.heap.get? e = some oe) (st : bs.StaysIn s.heap) (ne : bs.get? e = none) (dt : oe.data = .fields vs) (z1 : vs[1]? = some .none) (z0 : vs[0]? = some a0) (z2 : c = true → vs[2]? = some .none)
    (k : ∀ h', Heap.FlyingW bs out e oe.cls a0 h' → OwnD c h' e oe.dict → s.heap.UpToSlots h' → Q () { s with heap := h' }) : wpAny M A (leaving en (.ref e)) Q E s := by
  unfold leaving noteFrame
  simp only [fl]
  refine wpAny_bind (wpAny_bind (wpAny_field ge dt z1 ?_))
  rw [if_neg (by decide)]
  refine entry_own fr ff fl ge st ne dt (Array.getElem?_eq_some_iff.mp z1).1 z0 z2 fun h1 ⟨x1, x2, x3, x4⟩ D1 => flight_own (s := { s with heap := h1 }) x1 ne x2 x3 D1 fun h2 ⟨y1, y2, y3, y4⟩ D2 u2 => ?_
  obtain ⟨_, _, y3'⟩ := y3
  exact k h2 ⟨y1, y2, y3', y4⟩ D2 (Heap.UpToSlots.trans x4 u2)
end
end Ow
namespace Ow
open PySem PySem.Spec PyProof.Rows L2
theorem refuse_tail {h : Heap} {l : List Value} (self : Value) (T : OwnTail h VE l) : refuseLoop self "__setattr__" l = pure () := by
  induction T with
  | base => exact PySem.F.store_ValueError.passes self
  | own _ _ _ _ ih => rw [refuseLoop_ref]; exact ih
section
variable {prog : Program} {w : World} {A : Around} {E : Value → Shared → Prop} {s : Shared} {K : PySem.W.Frag} {x C N : Addr} {fs : Array Value} {sl : Array (Option Value)} {name : Str} {v : Value}
variable {nm qn : Str} {bs bm : List Value} {sn : List Str} {sub : List Value} {ab : Bool} {col : Option Bool} {dd : Option Addr} {k0 k1 k2 k3 k5 : Option Value} {nid : String}
/-- an attribute is laid down in an exception that has none yet -/
theorem set_exc {Q : Unit → Shared → Prop} (X : K.In s.heap) (hx : s.heap.get? x = some ⟨.ref C, none, .fields fs, sl⟩) (hC : s.heap.get? C = some (excClassObj nm qn C N bs bm true sn sub ab col dd k0 k1 k2 k3 k5 nid)) (T : OwnTail s.heap VE bm)
    (sa : PySem.W.findIn K (.ref C) "__setattr__" = some (some (.builtin "object.__setattr__"))) (na : PySem.W.findIn K (.ref C) name = some none) (mo : PySem.W.mroIn K C (.type "object") = some true)
    (k : ∀ h' t', h'.get? x = some ⟨.ref C, some s.heap.objs.size, .fields fs, sl⟩ → h'.Ns1 s.heap.objs.size (fun y => if y = name then some v else none) → (∀ b o, b ≠ x → s.heap.get? b = some o → h'.get? b = some o) → Q () { s with heap := h', toks := t' }) :
    wpAny (model prog w) A (setAttr (.ref x) name v) Q E s := by
  have I : PySem.W.InstAt s.heap x ⟨.ref C, none, .fields fs, sl⟩ C none := ⟨hx, rfl, rfl, True.intro⟩
  have SF := PySem.F.store_object
  have su : PySem.W.Looks (model prog w) s.heap (isInstance (.ref x) (.type "object")) true := I.type.andThen (PySem.W.looks_mroIn X mo)
  refine PySem.W.set_plain X I sa (codeAny_call_builtin SF.slot.plain SF.entry (@PySem.W.check_slot (model prog w) _ _ { s with toks := s.toks + 1 } "object.__setattr__" "object" "__setattr__" (.ref x) [.str name s.toks, v] [] _ SF.kind SF.split su (SF.args (.ref x) (.str name s.toks) v) ?_))
  rw [PySem.W.osa_eq, refuse_eq]
  refine wpAny_bind (wpAny_bind (PySem.W.Looks.here (s := { s with toks := s.toks + 1 }) I.type (wpAny_bind (wpAny_mroOf_exc hC ?_))))
  rw [refuseLoop_ref, refuse_tail _ T]
  refine wpAny_pure (wpAny_bind (PySem.W.Looks.here (s := { s with toks := s.toks + 1 }) I.type (wpAny_bind (PySem.W.Looks.here (s := { s with toks := s.toks + 1 }) (PySem.W.looks_findIn X na) (wpAny_bind (wpAny_pure ?_))))))
  show wpAny _ _ (Builtin.ObjectAttr.storeInOwnDict (.ref x) (.ref C) (.str name s.toks) name v false) _ _ _
  have L1 : PySem.W.Looks (model prog w) s.heap (classData C) _ := (PySem.W.Looks.ld (part := none) hC).andThen .now
  have xs : x ≠ s.heap.objs.size := Nat.ne_of_lt (Heap.lt_size hx)
  have hx1 : (s.heap.push { cls := .type "dict", data := .dict #[] }).get? x = some ⟨.ref C, none, .fields fs, sl⟩ := Heap.get?_push_of_some _ hx
  have up : ∀ f : Obj → Obj, f ⟨.ref C, none, .fields fs, sl⟩ = ⟨.ref C, some s.heap.objs.size, .fields fs, sl⟩ → ((s.heap.push { cls := .type "dict", data := .dict #[] }).update x f).get? x = some ⟨.ref C, some s.heap.objs.size, .fields fs, sl⟩ := fun f ef => by
    rw [Heap.get?_update_self f hx1 (by rw [ef]; rfl), ef]
  refine wpAny_bind (wpAny_pure (wpAny_bind (wpAny_bind (wpAny_loadPart hx (wpAny_bind (PySem.W.Looks.here (s := { s with toks := s.toks + 1 }) L1 ?_))))))
  refine wpAny_bind (wpAny_alloc' (wpAny_bind (wpAny_update' hx1 (wpAny_pure ?_))))
  have gd : ((s.heap.push { cls := .type "dict", data := .dict #[] }).update x fun o => { o with dict := some s.heap.objs.size }).get? s.heap.objs.size = some { cls := .type "dict", data := .dict #[] } :=
    (Heap.get?_update_other _ _ xs).trans (Heap.get?_push_size _ rfl)
  have nd : ((s.heap.push { cls := .type "dict", data := .dict #[] }).update x fun o => { o with dict := some s.heap.objs.size }).Ns s.heap.objs.size (fun _ => none) := ⟨_, #[], _, gd, rfl, fun e he => absurd he (by simp), fun _ => rfl⟩
  refine wpAny_bind (wpAny_pure (wpAny_bind (wpAny_nsSet1 (Heap.Ns1.of_empty nd) fun h' n2 sb => ?_)))
  obtain ⟨oD, eD, pD, gD, dD, cD⟩ := n2.count (PySem.Within.cons name v PySem.Within.nil)
  refine wpAny_bind (wpAny_lookBehind gD (by rw [dD]; exact pastItsLine_dict (Nat.le_trans cD (by rw [List.length_cons, List.length_nil, sizeLine_eq]; omega))) ?_)
  refine wpAny_pure (k h' _ ?_ ?_ fun b o hb q => ?_)
  · exact (sb.2 x xs).trans (up _ rfl)
  · exact n2
  · exact (sb.2 b (Nat.ne_of_lt (Heap.lt_size q))).trans ((Heap.get?_update_other _ _ (Ne.symm hb)).trans (Heap.get?_push_of_some _ q))
end
end Ow
namespace Ow
open PySem PySem.Spec PyProof.Rows L2
/-- the fields of an exception that was just made -/
abbrev exF (t : Addr) : Array Value := #[.ref t, .none, .none, .none, .bool false, .none]
abbrev exT (v : Value) : Obj := { cls := .type "tuple", data := .seq [v].toArray }
section
variable {prog : Program} {w : World} {A : Around} {E : Value → Shared → Prop} {h : Heap} {g : Array GenState} {d : Drawn} {t : Nat} {os : OsState} {C N fI : Addr} {v : Value} {oI : Obj} {mN : Str → Option Value}
variable {nm qn : Str} {bs bm : List Value} {hdc : Bool} {sn : List Str} {sub : List Value} {ab : Bool} {col : Option Bool} {dd : Option Addr} {k0 k1 k2 k3 k5 : Option Value}
/-- C(v): the tuple of its arguments at the heap's end, the exception behind it; then its own __init__ -/
theorem made_exc {Q : Fin → Shared → Prop} (T : OwnTail h VE bm) (hC : h.get? C = some (excClassObj nm qn C N bs bm hdc sn sub ab col dd k0 k1 k2 k3 k5 "ValueError.__new__")) (hn : h.Ns N mN) (hi : mN "__init__" = some (.ref fI))
    (gf : h.get? fI = some oI) (cf : oI.cls = .type "function")
    (k : wpAny (model prog w) A (call (.ref fI) [.ref (h.objs.size + 1), v]) (fun r s' => r = .none ∧ Q (.done (.ret (.ref (h.objs.size + 1)))) s') E ⟨(h.push (exT v)).push { cls := .ref C, data := .fields (exF h.objs.size) }, g, d, t, os⟩) :
    wpAny (model prog w) A (Builtin.«type.__call__» ⟨[.ref C, v], []⟩) Q E ⟨h, g, d, t, os⟩ := by
  have F := PySem.F.excBase_ValueError
  have st : ∀ b o, h.get? b = some o → ((h.push (exT v)).push { cls := .ref C, data := .fields (exF h.objs.size) }).get? b = some o := fun b o e => Heap.get?_push_of_some _ (Heap.get?_push_of_some _ e)
  have ge : ((h.push (exT v)).push { cls := .ref C, data := .fields (exF h.objs.size) }).get? (h.objs.size + 1) = some { cls := .ref C, data := .fields (exF h.objs.size) } := by
    have z := Heap.get?_push_size (h.push (exT v)) (o := { cls := .ref C, data := .fields (exF h.objs.size) }) rfl
    rwa [Heap.size_push] at z
  have cc : (Value.ref C :: bm).contains (.ref C) = true := by rw [List.contains_cons, beq_self_eq_true, Bool.true_or]
  repeat (first | with_reducible refine wpAny_loadPart_at hC ?_ | with_reducible refine wpAny_madeBy_exc hC ?_ | wp_step)
  refine codeAny_call_builtin_code (Code.quiet_builtin _ F.quiet) (wpAny_check_new_subT F T hC (codeAny_exc_new_subT F T hC (rest := [v]) ?_))
  show wpAny _ _ _ _ _ _
  unfold isInstance
  repeat (first | with_reducible refine wpAny_loadPart_at ge ?_ | (with_reducible refine wpAny_isSubtype_exc (st _ _ hC) ?_; rw [cc]) | wp_step)
  show wpAny _ _ (typeLookup (.ref C) _) _ _ _
  refine wpAny_typeLookup_tail (st _ _ hC) (hn.keeps st) (T.keeps st) F.mroIs F.init.lookup ?_
  rw [hi]
  refine wpAny_holding (wpAny_bind ?_)
  unfold bindSpecial
  refine wpAny_bind (wpAny_typeOf (T := "function") ⟨_, st _ _ gf, cf⟩ ?_)
  rw [if_pos (by decide)]
  refine wpAny_pure (wpAny_bind (wpAny_mono k (fun r s' q => ?_) fun _ _ z => z))
  obtain ⟨rfl, q⟩ := q
  wp_walk
  exact q
theorem call_exc {Q : Value → Shared → Prop} (T : OwnTail h VE bm) (hC : h.get? C = some (excClassObj nm qn C N bs bm hdc sn sub ab col dd k0 k1 k2 k3 k5 "ValueError.__new__")) (hn : h.Ns N mN) (hi : mN "__init__" = some (.ref fI))
    (gf : h.get? fI = some oI) (cf : oI.cls = .type "function")
    (k : wpAny (model prog w) (A.under (.builtin "type.__call__" ⟨[.ref C, v], []⟩)) (call (.ref fI) [.ref (h.objs.size + 1), v]) (fun r s' => r = .none ∧ Q (.ref (h.objs.size + 1)) s') E ⟨(h.push (exT v)).push { cls := .ref C, data := .fields (exF h.objs.size) }, g, d, t, os⟩) :
    wpAny (model prog w) A (call (.ref C) [v]) Q E ⟨h, g, d, t, os⟩ := by
  have f1 := tc_lookup
  have f2 := tc_bind (.ref C)
  have tT : (⟨h, g, d, t, os⟩ : Shared).TypeIs (.ref C) "type" := ⟨_, hC, rfl⟩
  refine wpAny_call (codeAny_of_tree ?_)
  show wpAny _ _ (callAny (.ref C) _) _ _ _
  repeat (any_goals (first | assumption | with_reducible refine wpAny_loadPart_at hC ?_ | wp_step))
  exact ⟨rfl, codeAny_call_builtin_at (Code.quiet_builtin _ (by decide +kernel)) entry_typeCall (wpAny_check_type_call_sub hC (made_exc T hC hn hi gf cf k))⟩
end
/-- raise x, x an instance of an own exception class -/
theorem raise_inst {M : Model} {A : Around} {E : Value → Shared → Prop} {s : Shared} {env : Env} {C N : Addr} {nm qn : Str} {bs bm : List Value} {hdc : Bool} {sn : List Str} {sub : List Value} {ab : Bool} {col : Option Bool} {dd : Option Addr} {k0 k1 k2 k3 k5 : Option Value} {nid : String}
    {x : Sem Value} {Q : Flow → Shared → Prop} (hb : bm.contains (.type "BaseException") = true) (hh : A.handled = none)
    (k : wpAny M A x (fun v s1 => ∃ (e t : Addr) (od : Option Addr), v = .ref e ∧ s1.heap.get? C = some (excClassObj nm qn C N bs bm hdc sn sub ab col dd k0 k1 k2 k3 k5 nid) ∧ s1.heap.get? e = some ⟨.ref C, od, .fields (exF t), #[]⟩ ∧ E (.ref e) s1) E s) :
    wpAny M A (raiseStmt env (some x) none) Q E s := by
  have cb : (Value.ref C :: bm).contains (.type "BaseException") = true := by rw [List.contains_cons, hb, Bool.or_true]
  unfold raiseStmt
  refine wpAny_bind (wpAny_mono k (fun v s1 q => ?_) fun _ _ z => z)
  obtain ⟨e, t, od, rfl, gC, ge, q⟩ := q
  obtain ⟨hp, g, d, tk, os⟩ := s1
  repeat (first | with_reducible refine wpAny_loadPart_at ge ?_ | with_reducible refine wpAny_loadPart_at gC ?_ | (with_reducible refine wpAny_isSubtype_exc gC ?_; rw [cb]) | wp_step)
  exact wpAny_raiseNew_none hh q
end Ow
namespace Ow
open PySem PySem.Spec PyProof.Rows L2
/-- an exception class of the program with an __init__ of its own, two rows beneath ValueError -/
def excFn (K : PySem.W.Frag) (C f : Addr) : Bool :=
  match K.lookup C with
  | some ⟨.type "type", _, .cls c, q⟩ =>
    (match c.mro, q.toList with
    | .ref D :: tl, [_, _, _, _, some (.builtin n), _] => D == C && (n == "ValueError.__new__" && (!c.hasDel && (c.hasDict && (PySem.W.tailIn K VE tl && (PySem.W.nsOkIn K c.ns && PySem.W.nsIn K c.ns "__init__" == some (some (.ref f)))))))
    | _, _ => false)
  | _ => false
theorem ns_some {K : PySem.W.Frag} {h : Heap} {N : Addr} {m : Str → Option Value} {n : Str} {v : Value} (X : K.In h) (G : h.Ns N m) (e : PySem.W.nsIn K N n = some (some v)) : m n = some v := by
  obtain ⟨o, es, ep, go, hd, _, hf⟩ := G
  unfold PySem.W.nsIn at e
  split at e
  · next q =>
    have z := X _ _ q
    rw [go] at z
    cases z
    cases hd
    split at e
    · next he =>
      cases e
      rw [← hf]
      unfold nsFind findBy
      rw [← Array.find?_toList, he]
      rfl
    · split at e <;> cases e
  · cases e
theorem exc_fn {K : PySem.W.Frag} {h : Heap} {C f : Addr} (X : K.In h) (q : excFn K C f = true) :
    ∃ bm N nm qn bs sn sub ab col dd k0 k1 k2 k3 k5 mN, h.get? C = some (excClassObj nm qn C N bs bm true sn sub ab col dd k0 k1 k2 k3 k5 "ValueError.__new__") ∧ h.Ns N mN ∧ mN "__init__" = some (.ref f) ∧ OwnTail h VE bm := by
  unfold excFn at q
  split at q
  · next d0 c0 s0 e0 =>
    split at q
    · next D m1 y0 y1 y2 y3 n1 y5 em es =>
      simp only [beq_iff_eq, Bool.not_eq_true', Bool.and_eq_true] at q
      obtain ⟨eC, en, ed, eh, et, eo, ei⟩ := q
      subst eC en
      obtain ⟨a1, a2, a3, a4, a5, a6, a7, a8, a9, a10, a11⟩ := c0
      dsimp only at em ed eo ei eh
      subst em ed eh
      obtain ⟨l0⟩ := s0
      have es' : l0 = [y0, y1, y2, y3, some (Value.builtin "ValueError.__new__"), y5] := es
      subst es'
      have G : h.Ns a4 _ := .of_isNs (PySem.W.isNs_of_in X eo)
      exact ⟨m1, a4, a1, a5, a2, a7, a8, a9, a10, d0, y0, y1, y2, y3, y5, _, X _ _ e0, G, ns_some X G ei, PySem.W.tail_of_in X et⟩
    · cases q
  · cases q
/-- the exception at e while its class's __init__ runs and until it is raised -/
def xO (e C t : Addr) (od : Option Addr) : HO := .ext fun h => h.get? e = some ⟨.ref C, od, .fields (exF t), #[]⟩
def drop (H : Hp) (e : Addr) : Hp := fun b => if b = e then none else H b
theorem drop_ne {H : Hp} {e b : Addr} (h : b ≠ e) : drop H e b = H b := if_neg h
theorem drop_same {H : Hp} {e : Addr} : drop H e e = none := if_pos rfl
theorem xO_ok {P : Program} {w : World} {H : Hp} {h : Heap} {e C t : Addr} {od : Option Addr} (g : h.get? e = some ⟨.ref C, od, .fields (exF t), #[]⟩) : ObjOk P w H h e (xO e C t od) := ⟨g, ⟨_, g⟩, fun _ _ a b => b _ a⟩
/-- an exception in flight over the frames of the callers, with its own dict -/
def CX2c (c : Bool) (P : Program) (w : World) (base : Heap) : CXT := fun outer H s E e s' =>
  ∃ (a : Addr) (cls a0 : Value) (B : Heap) (H' : Hp) (dd : Option Addr), e = .ref a ∧ s'.os = s.os ∧ AllBare s'.gens ∧ Gnd P w base (frs outer) H H' s.heap B ∧ Slots (frs outer) s.heap s'.heap ∧ Heap.FlyingW B outer a cls a0 s'.heap ∧ H' a = none ∧ OwnD c s'.heap a dd ∧ E cls dd H'
abbrev CX2 (P : Program) (w : World) (base : Heap) : CXT := CX2c true P w base
section
variable {P : Program} {w : World} {K : PySem.W.Frag} {mg : Str → Option Value} {base : Heap} {N : List Str} {qual : Str} {scope : Scope} {f : Addr} {cdv : Value} {A : Around} {outer : List Env} {s₀ : Shared} {H₀ : Hp} {E : XK}
theorem leaves_own {pins : List (Addr × Obj)} {σ : L2.St} {H : Hp} {s : Shared} {e C t : Addr} {od : Option Addr} (I : Inv (cxOf (CX2 P w base) P w K mg base N qual scope f cdv A outer s₀ H₀ E) pins σ H s)
    (he : H e = some (xO e C t od)) (hn : s₀.heap.get? e = none) (q : E (.ref C) od (drop H e)) : (cxOf (CX2 P w base) P w K mg base N qual scope f cdv A outer s₀ H₀ E).xe (.ref e) s := by
  have ge : s.heap.get? e = some ⟨.ref C, od, .fields (exF t), #[]⟩ := (I.hok e _ he).1
  have hst := I.stack
  have nof : ∀ b o, s₀.heap.get? b = some o → b ∉ frs outer → b ∉ e :: frs (envOfC qual scope s₀.heap.objs.size f cdv :: outer) := fun b o e1 nb hm => by
    rcases List.mem_cons.mp hm with z | hm
    · rw [z, hn] at e1
      cases e1
    rcases List.mem_cons.mp (I.stkSub b hm) with z | z
    · exact Nat.lt_irrefl _ (Nat.lt_of_lt_of_le (z ▸ Heap.lt_size e1) I.ok.above)
    · exact nb z
  have nx : ∀ b : Addr, b ∉ ([] : List Addr) := fun b z => nomatch z
  have ne : ∀ b u, H b = some u → (∀ φ, u ≠ .ext φ) → b ≠ e := fun b u e1 hk z => by
    rw [z, he] at e1
    cases e1
    exact hk _ rfl
  have dr : ∀ b u, H b = some u → (∀ φ, u ≠ .ext φ) → drop H e b = some u := fun b u e1 hk => by rw [drop_ne (ne b u e1 hk)]; exact e1
  refine leave_first (c := true) (bs := PySem.W.hideAll s.heap (e :: frs (envOfC qual scope s₀.heap.objs.size f cdv :: outer))) (a0 := .ref t) I.ok.frames
    (PySem.W.funFrames_hide hst fun e1 he1 b hb => List.mem_cons_of_mem _ (List.mem_filterMap.mpr ⟨e1, he1, hb⟩)) rfl ge (fun b o e1 => PySem.W.of_hideAll _ e1) (PySem.W.hideAll_none _ (List.mem_cons_self ..)) rfl rfl rfl (fun _ => rfl) fun h2 fl D up => ?_
  refine ⟨e, _, .ref t, _, drop H e, od, rfl, I.os, I.bare, ⟨fun b o e1 => PySem.W.hideAll_get _ (I.bk b o e1) fun hm => ?_, fun b o e1 n nb => PySem.W.hideAll_get _ (I.base.keep b o e1 n nb (nx b)) (nof b o e1 nb), fun b o e1 n => ?_,
    fun b o e1 nb => ?_, fun b xs z => dr b _ (I.base.tups b xs z) (fun _ z => nomatch z), fun b o u z => dr b _ (I.base.frzs b o u z) (fun _ z => nomatch z), fun b ps z => ?_, fun b u e1 => ?_⟩, fun b hb o e1 => ?_, fl, drop_same, D, q⟩
  · rcases List.mem_cons.mp hm with z | hm
    · have z2 := (I.bs b o e1).2
      rw [z, he] at z2
      cases z2
    · have z := (hst.mem hm).1
      exact nomatch (show (some o : Option Obj) = none from e1.symm.trans z)
  · by_cases hb : b = e
    · rw [hb, drop_same]
    · rw [drop_ne hb]
      exact I.base.free b o e1 n (nx b)
  · obtain ⟨o', e2⟩ := I.base.there b o e1 (nx b)
    exact ⟨o', PySem.W.hideAll_get _ e2 (nof b o e1 nb)⟩
  · obtain ⟨more, z2⟩ := I.base.tbls b ps z
    exact ⟨more, dr b _ z2 (fun _ z => nomatch z)⟩
  · have hb : b ≠ e := fun z => by
      rw [z, drop_same] at e1
      cases e1
    rw [drop_ne hb] at e1
    refine (I.hok b u e1).stay (fun c v hc e2 => PySem.W.hideAll_get _ e2 fun hm => ?_) (fun c z => dr c _ z (fun _ z => nomatch z)) fun c xs z => dr c _ z (fun _ z => nomatch z)
    rcases List.mem_cons.mp hm with z | hm
    · rcases hc with hc | hc
      · exact hb (hc.symm.trans z)
      · rw [z, he] at hc
        cases hc
    · have z := I.stkFree c hm
      rcases hc with rfl | hc
      · rw [e1] at z; cases z
      · rw [hc] at z; cases z
  · obtain ⟨sl, e2⟩ := I.base.slot b o e1 (I.ok.frf b hb) hb (nx b)
    obtain ⟨_, o1, e3, d⟩ := I.funs.mem hb
    rw [e2] at e3
    cases e3
    obtain ⟨s2, e4⟩ := up b _ e2 d
    exact ⟨s2, e4⟩
end
end Ow
namespace Ow
open PySem PySem.Spec PyProof.Rows L2
structure XCls (K : PySem.W.Frag) (C fI : Addr) (f : Str) : Prop where
  ef : excFn K C fI = true
  sa : PySem.W.findIn K (.ref C) "__setattr__" = some (some (.builtin "object.__setattr__"))
  mo : PySem.W.mroIn K C (.type "object") = some true
  na : PySem.W.findIn K (.ref C) f = some none
  fn : PySem.W.typeIn K (.ref fI) = some (.type "function")
  kp : PySem.W.keepIn K (.ref C) = true
def sXset (K : PySem.W.Frag) (ta tv : TE) (f : Str) : TS := fun D σ H => tv σ H fun y H1 => ta σ H1 fun x H2 => ∃ e C t fI, x = .ref e ∧ H2 e = some (xO e C t none) ∧ XCls K C fI f ∧ ∀ d, H2 d = none → d ≠ e → D.nx σ (upd (upd H2 d (.xd [(f, y)])) e (xO e C t (some d)))
section
variable {X : Cx} {f : Str} {o value : Expr} {ta tv : TE} {pos pos' : Pos}
theorem ps_xset (ha : PE X o ta) (hv : PE X value tv) (hs : swapsWith value (some (.Attribute o f pos')) pos.line X.env = pure false) : PS X (.Assign [.Attribute o f pos'] value pos) (sXset X.K ta tv f) := by
  intro pins s σ H D I h
  refine plainObj_wpAny_Assign_Attribute (thn (hv pins s σ H _ I h) fun u s1 ⟨y, H1, I1, ry, q⟩ => thn (ha pins s1 σ H1 _ I1 q) fun ov s2 ⟨x, H2, I2, rx, e, C, t, fI, ex, he, c, q2⟩ => ?_) hs
  subst ex
  obtain rfl : ov = Value.ref e := rx
  have ge : s2.heap.get? e = some ⟨.ref C, none, .fields (exF t), #[]⟩ := (I2.hok e _ he).1
  obtain ⟨bm, N, nm, qn, bs, sn, sub, ab, col, dd, k0, k1, k2, k3, k5, mN, gC, _, _, T⟩ := exc_fn I2.kIn c.ef
  refine set_exc I2.kIn ge gC T c.sa c.na c.mo fun h' t' g1 n1 kp => ?_
  have hd : H2 s2.heap.objs.size = none := I2.hok.fresh (Nat.le_refl _)
  have dne : s2.heap.objs.size ≠ e := fun z => by rw [z, he] at hd; cases hd
  obtain ⟨od, es, ep, gd, hda, rest⟩ := n1
  have gd1 : (s2.heap.push od).get? s2.heap.objs.size = some od := Heap.get?_push_size _ (by
    obtain ⟨c1, c2, c3, c4⟩ := od
    cases (show c3 = .dict es ep from hda)
    rfl)
  have I3 := I2.laid (a := s2.heap.objs.size) (o := .xd [(f, y)]) (h' := s2.heap.push od) (t' := s2.toks) (fun b u q => Heap.get?_push_of_some _ q) (Nat.le_refl _) ⟨_, ⟨od, es, ep, gd1, hda, rest⟩, fun g => by
    by_cases hg : g = f
    · subst hg
      rw [if_pos rfl, List.lookup_cons_self]
      exact ry
    · rw [if_neg hg, List.lookup_cons, beq_eq_false_iff_ne.mpr hg]
      exact True.intro⟩
  have I4 := I3.write (x := e) (e := e) (o := xO e C t (some s2.heap.objs.size)) (h' := h') (t' := t') (by rw [upd_ne (Ne.symm dne), he]; exact True.intro) (.inl rfl) (fun b v hb z => by
    by_cases hz : b = s2.heap.objs.size
    · subst hz
      have z1 := gd1.symm.trans z
      cases z1
      exact gd
    · rw [Heap.get?_push_ne _ _ _ hz] at z
      exact kp b v hb z) ⟨_, g1⟩ (xO_ok g1)
  exact ⟨σ, _, I4, q2 _ hd dne⟩
end
end Ow
namespace Ow
open PySem PySem.Spec PyProof.Rows L2
/-- what an __init__ that lays one field down promises -/
def spXI (f : Str) (C : Addr) : Sp := fun vs H Q _ => ∃ (e t : Addr) (v : V), vs = [.ref e, v] ∧ H e = some (xO e C t none) ∧ ∀ d, H d = none → d ≠ e → Q .non (upd (upd H d (.xd [(f, v)])) e (xO e C t (some d)))
structure XHas (P : Program) (w : World) (K : PySem.W.Frag) (mg : Str → Option Value) (base : Heap) (k : Nat) (x : Str) (C : Addr) (f : Str) : Prop where
  ex : ∃ (fI : Addr) (fd : FuncData) (p1 p2 : Str), FnOk P w K mg base CX0 k fI fd [p1, p2] (spXI f C) ∧ Binds K fd [p1, p2] [] ∧ XCls K C fI f ∧ mg x = some (.ref C)
section
variable {P : Program} {w : World} {K : PySem.W.Frag} {mg : Str → Option Value} {base : Heap} {N : List Str} {qual : Str} {scope : Scope} {fa : Addr} {cdv : Value} {A : Around} {outer : List Env} {s₀ : Shared} {H₀ : Hp} {E : XK}
def tRaise1 (C : Addr) (f : Str) (E : XK) (ta : TA) : TS := fun _ σ H => ta σ H fun vs H1 => ∃ v, vs = [v] ∧ ∀ d, H1 d = none → E (.ref C) (some d) (upd H1 d (.xd [(f, v)]))
/-- raise C(v), C with an own __init__ that lays one field down -/
theorem ps_raise1 {k : Nat} {x f : Str} {C : Addr} {np cpos pos : Pos} {e1 : Expr} {ta : TA} (h : XHas P w K mg base k x C f) (hr : Room (k + 1) (cxOf (CX2 P w base) P w K mg base N qual scope fa cdv A outer s₀ H₀ E).A) (hg : Gl (cxOf (CX2 P w base) P w K mg base N qual scope fa cdv A outer s₀ H₀ E) x)
    (ha : PA (cxOf (CX2 P w base) P w K mg base N qual scope fa cdv A outer s₀ H₀ E) [e1] ta) (hdb : (x == ("__debug__" : Str)) = false := by decide)
    (hst : starEach [e1] (cxOf (CX2 P w base) P w K mg base N qual scope fa cdv A outer s₀ H₀ E).env = (false, eval e1 (cxOf (CX2 P w base) P w K mg base N qual scope fa cdv A outer s₀ H₀ E).env) :: starEach [] (cxOf (CX2 P w base) P w K mg base N qual scope fa cdv A outer s₀ H₀ E).env := by rfl) :
    PS (cxOf (CX2 P w base) P w K mg base N qual scope fa cdv A outer s₀ H₀ E) (.Raise (some (.Call (.Name x np) [e1] [] cpos)) none pos) (tRaise1 C f E ta) := by
  intro pins s σ H D I ht
  obtain ⟨fI, fd, p1, p2, F, hb, c, hm⟩ := h.ex
  obtain ⟨bm, N', nm, qn, bs, sn, sub, ab, col, dd, k0, k1, k2, k3, k5, mN, gC, gN, gi, T⟩ := exc_fn I.ok.mod.kin c.ef
  rw [arm_exec_Raise]
  refine wpAny_bind (wpAny_standAt (raise_inst (C := C) (nm := nm) (qn := qn) (N := N') (bs := bs) (bm := bm) (hdc := true) (sn := sn) (sub := sub) (ab := ab) (col := col) (dd := dd) (k0 := k0) (k1 := k1) (k2 := k2) (k3 := k3) (k5 := k5) (nid := "ValueError.__new__")
    (T.hasType PySem.F.excBase_ValueError.hasBase) (I.ok.hd rfl) (wpAny_bind (wpAny_mono (Q := fun v s1 => ∃ (e t : Addr) (od : Option Addr), v = .ref e ∧ s1.heap.get? C = some (excClassObj nm qn C N' bs bm true sn sub ab col dd k0 k1 k2 k3 k5 "ValueError.__new__") ∧ s1.heap.get? e = some ⟨.ref C, od, .fields (exF t), #[]⟩ ∧ (cxOf (CX2 P w base) P w K mg base N qual scope fa cdv A outer s₀ H₀ E).xe (.ref e) s1) ?_ (fun v s3 h3 => wpAny_bind (wpAny_standAt (wpAny_pure h3))) fun _ _ z => z))))
  refine wpAny_Call_Name_kw (ld_glob I hg hm ?_ hdb)
  refine PySem.W.callWith_K (h₀ := base) I.ok.mod.kin c.kp (thn (ha cpos pins s σ H _ I ht) fun us s1 ⟨vs, H1, I1, r1, v, ev, q1⟩ => ⟨I1.kIn, ?_⟩) hst rfl
  subst ev
  obtain ⟨u, rfl, ru⟩ := r1.one
  have st1 := I1.bk
  have gf : ∃ oI, s1.heap.get? fI = some oI ∧ oI.cls = .type "function" := by
    obtain ⟨oI, e1, e2⟩ := Option.map_eq_some_iff.mp c.fn
    exact ⟨oI, I1.kIn _ _ e1, e2⟩
  obtain ⟨oI, gf, cf⟩ := gf
  obtain ⟨hh, g, dr, tk, os⟩ := s1
  have ge : ((hh.push (exT u)).push { cls := .ref C, data := .fields (exF hh.objs.size) }).get? (hh.objs.size + 1) = some { cls := .ref C, data := .fields (exF hh.objs.size) } := by
    have z := Heap.get?_push_size (hh.push (exT u)) (o := { cls := .ref C, data := .fields (exF hh.objs.size) }) rfl
    rwa [Heap.size_push] at z
  have He : H1 (hh.objs.size + 1) = none := I1.hok.fresh (Nat.le_succ _)
  have I2 := I1.laid (a := hh.objs.size + 1) (o := xO (hh.objs.size + 1) C hh.objs.size none) (h' := (hh.push (exT u)).push { cls := .ref C, data := .fields (exF hh.objs.size) }) (t' := tk) (fun b o q => Heap.get?_push_of_some _ (Heap.get?_push_of_some _ q)) (Nat.le_succ _) (xO_ok ge)
  refine call_exc (T.keeps st1) (st1 _ _ gC) (gN.keeps st1) gi gf cf (wpAny_call (codeAny_mono (F.run _ (cxOf (CX2 P w base) P w K mg base N qual scope fa cdv A outer s₀ H₀ E).stack _ _ ⟨[.ref (hh.objs.size + 1), u], []⟩ [.ref (hh.objs.size + 1), u] [.ref (hh.objs.size + 1), v]
    (fun y H3 => y = .non ∧ ∃ d, upd H1 (hh.objs.size + 1) (xO (hh.objs.size + 1) C hh.objs.size none) d = none ∧ d ≠ hh.objs.size + 1 ∧ H3 = upd (upd (upd H1 (hh.objs.size + 1) (xO (hh.objs.size + 1) C hh.objs.size none)) d (.xd [(f, v)])) (hh.objs.size + 1) (xO (hh.objs.size + 1) C hh.objs.size (some d))) E0 (hr.make C [u] [])
    (I2.env0.make C [u] []) (hb _ _ I2.kIn rfl) (.cons rfl (.cons ru .nil)) ⟨_, _, v, rfl, upd_same .., fun d hd ne => ⟨rfl, d, hd, ne, rfl⟩⟩) fun r s' hq => ?_))
  cases r with
  | error e => exact False.elim hq
  | ok fl =>
    cases fl with
    | ret u' =>
      obtain ⟨y, H3, I3, ry, rfl, d, hd, ne, rfl⟩ := I2.after hq
      refine ⟨ry, hh.objs.size + 1, hh.objs.size, some d, rfl, I3.bk _ _ gC, (I3.hok _ _ (upd_same ..)).1, ?_⟩
      rw [upd_ne ne] at hd
      refine leaves_own I3 (upd_same ..) ?_ ?_
      · refine Heap.get?_none_of_le (Nat.le_trans I1.sz (Nat.le_succ _))
      · have e3 : drop (upd (upd (upd H1 (hh.objs.size + 1) (xO (hh.objs.size + 1) C hh.objs.size none)) d (.xd [(f, v)])) (hh.objs.size + 1) (xO (hh.objs.size + 1) C hh.objs.size (some d))) (hh.objs.size + 1) = upd H1 d (.xd [(f, v)]) := by
          funext b
          by_cases hb : b = hh.objs.size + 1
          · rw [hb, drop_same, upd_ne (Ne.symm ne), He]
          · rw [drop_ne hb, upd_ne hb]
            by_cases hbd : b = d
            · rw [hbd, upd_same, upd_same]
            · rw [upd_ne hbd, upd_ne hb, upd_ne hbd]
        rw [e3]
        exact q1 d hd
    | next => exact False.elim hq
    | brk => exact False.elim hq
    | cont => exact False.elim hq
end
end Ow
namespace Ow
open PySem PySem.Spec PyProof.Rows L2
section
variable {P : Program} {w : World} {K : PySem.W.Frag} {mg : Str → Option Value} {base : Heap} {N : List Str} {qual : Str} {scope : Scope} {f : Addr} {cdv : Value} {A : Around} {outer : List Env} {s₀ : Shared} {H₀ : Hp} {E : XK}
/-- a def that may raise, its exception's own dict known -/
theorem Fun.okY {x qual : Str} {st : Stmt} {f : Addr} {fd : FuncData} {N ps : List Str} {k : Nat} {sp : Sp} (F : Fun K x qual st f fd) (S : FnScope N ps (defScope st)) (len : ∀ vs H Q E, sp vs H Q E → vs.length = ps.length)
    (hbody : ∀ (cdv : Value) (A : Around) (outer : List Env) (s : Shared) (H : Hp) (vs : List V) (Q : VK) (E : XK), Room k (A.deeper (envOfC qual (defScope st) s.heap.objs.size f cdv)) → sp vs H Q E →
      ∃ t, PSs (cxOf (CX2 P w base) P w K mg base N qual (defScope st) f cdv A outer s H E) (defBody st) t ∧ t { nx := fun _ H' => Q .non H', rt := Q } (start N vs) H) : FnOk P w K mg base (CX2 P w base) (k + 1) f fd ps sp := by
  obtain ⟨oc, od, kV, doc, pm, an, cdv, ct, osl, e1, lk, hcd⟩ := F.ex
  subst e1
  exact fn_of lk hcd S len fun A outer s H vs Q E hr hsp => hbody cdv A outer s H vs Q E hr hsp
/-- raise C(), C without an __init__ of its own -/
theorem leaves_bare {pins : List (Addr × Obj)} {σ : L2.St} {H : Hp} {s : Shared} {h' : Heap} {e : Addr} {cls : Value} {vs : List Value} (I : Inv (cxOf (CX2 P w base) P w K mg base N qual scope f cdv A outer s₀ H₀ E) pins σ H s)
    (hx : Heap.MadeExcOf s.heap h' e cls vs) (q : E cls none H) : (cxOf (CX2 P w base) P w K mg base N qual scope f cdv A outer s₀ H₀ E).xe (.ref e) { s with heap := h' } := by
  have hst := I.stack
  obtain ⟨t, ge, nt, gt⟩ := hx.there
  have nof : ∀ b o, s₀.heap.get? b = some o → b ∉ frs outer → b ∉ frs (envOfC qual scope s₀.heap.objs.size f cdv :: outer) := fun b o e1 nb hm => by
    rcases List.mem_cons.mp (I.stkSub b hm) with z | z
    · exact Nat.lt_irrefl _ (Nat.lt_of_lt_of_le (z ▸ Heap.lt_size e1) I.ok.above)
    · exact nb z
  have nx : ∀ b : Addr, b ∉ ([] : List Addr) := fun b z => nomatch z
  have up0 : ∀ b o, (PySem.W.hideAll s.heap (frs (envOfC qual scope s₀.heap.objs.size f cdv :: outer))).get? b = some o → h'.get? b = some o := fun b o e1 => hx.keeps _ _ (PySem.W.of_hideAll _ e1)
  refine leave_first (c := true) (s := { s with heap := h' }) (bs := PySem.W.hideAll s.heap (frs (envOfC qual scope s₀.heap.objs.size f cdv :: outer))) (a0 := .ref t) I.ok.frames
    ((PySem.W.funFrames_hide hst fun e1 he b hb => List.mem_filterMap.mpr ⟨e1, he, hb⟩).of_keeps fun b o e1 _ => ⟨o, hx.keeps _ _ e1, rfl⟩) rfl ge up0 (by
      cases z : (PySem.W.hideAll s.heap (frs (envOfC qual scope s₀.heap.objs.size f cdv :: outer))).get? e with
      | none => rfl
      | some o =>
        have z2 := PySem.W.of_hideAll _ z
        rw [hx.new] at z2
        cases z2) rfl rfl rfl (fun _ => rfl) fun h2 fl D up => ?_
  refine ⟨e, cls, .ref t, _, H, none, rfl, I.os, I.bare, ⟨fun b o e1 => PySem.W.hideAll_get _ (I.bk b o e1) fun hm => ?_, fun b o e1 n nb => PySem.W.hideAll_get _ (I.base.keep b o e1 n nb (nx b)) (nof b o e1 nb), fun b o e1 n => I.base.free b o e1 n (nx b),
    fun b o e1 nb => ?_, I.base.tups, I.base.frzs, I.base.tbls, fun b u e1 => (I.hok b u e1).stay (fun c v hc e2 => PySem.W.hideAll_get _ e2 fun hm => ?_) (fun _ z => z) fun _ _ z => z⟩, fun b hb o e1 => ?_, fl, ?_, D, q⟩
  · have z := (hst.mem hm).1
    exact nomatch (show (some o : Option Obj) = none from e1.symm.trans z)
  · obtain ⟨o', e2⟩ := I.base.there b o e1 (nx b)
    exact ⟨o', PySem.W.hideAll_get _ e2 (nof b o e1 nb)⟩
  · have z := I.stkFree c hm
    rcases hc with rfl | hc
    · rw [e1] at z; cases z
    · rw [hc] at z; cases z
  · obtain ⟨sl, e2⟩ := I.base.slot b o e1 (I.ok.frf b hb) hb (nx b)
    obtain ⟨_, o1, e3, d⟩ := I.funs.mem hb
    rw [e2] at e3
    cases e3
    obtain ⟨s2, e4⟩ := up b _ (hx.keeps _ _ e2) d
    exact ⟨s2, e4⟩
  · cases z : H e with
    | none => rfl
    | some u =>
      obtain ⟨ob, e1⟩ := obj_there (I.hok e u z)
      rw [hx.new] at e1
      cases e1
theorem ps_raiseY0 {x : Str} {C : Addr} {np cpos pos : Pos} (hg : Gl (cxOf (CX2 P w base) P w K mg base N qual scope f cdv A outer s₀ H₀ E) x) (hm : mg x = some (.ref C)) (hC : PySem.W.excIn K C VE "ValueError.__new__" = true)
    (hdb : (x == ("__debug__" : Str)) = false := by decide) : PS (cxOf (CX2 P w base) P w K mg base N qual scope f cdv A outer s₀ H₀ E) (.Raise (some (.Call (.Name x np) [] [] cpos)) none pos) (fun _ _ H => E (.ref C) none H) := by
  intro pins s σ H D I h
  obtain ⟨bm, N', nm, qn, bs, hd, sn, sub, ab, col, dd, k0, k1, k2, k3, k5, mN, eC, eN, ni, T⟩ := exc_obj I.kIn hC
  exact wpAny_Raise_call_subT (C := C) (N := N') (bm := bm) PySem.F.excBase_ValueError (mN := mN) (T.hasType PySem.F.excBase_ValueError.hasBase) (I.ok.hd rfl) rfl ni
    (ld_glob I hg hm ⟨rfl, evalArgs_empty ⟨rfl, Nat.zero_le _, eC, eN, T, fun h' e hx => leaves_bare I hx h⟩⟩ hdb)
/-- the exception of a callee passes a def that may raise -/
theorem passY : Passes (CX2 P w base) (cxOf (CX2 P w base) P w K mg base N qual scope f cdv A outer s₀ H₀ E) E := by
  intro pins σ H s e s' I hq
  obtain ⟨a, cls, a0, B, H2, dd, rfl, hos, hba, G, sl, fl, ha0, D, hw⟩ := hq
  have nof : ∀ b o, s₀.heap.get? b = some o → b ∉ frs outer → b ∉ frs (envOfC qual scope s₀.heap.objs.size f cdv :: outer) := fun b o e1 nb hm => by
    rcases List.mem_cons.mp (I.stkSub b hm) with z | z
    · exact Nat.lt_irrefl _ (Nat.lt_of_lt_of_le (z ▸ Heap.lt_size e1) I.ok.above)
    · exact nb z
  have nx : ∀ b : Addr, b ∉ ([] : List Addr) := fun b z => nomatch z
  have sub : ∀ b ∈ frs outer, b ∈ frs (envOfC qual scope s₀.heap.objs.size f cdv :: outer) := fun b hb => by
    obtain ⟨en, he, hf⟩ := List.mem_filterMap.mp hb
    exact List.mem_filterMap.mpr ⟨en, List.mem_cons_of_mem _ he, hf⟩
  refine leave_own I.ok.frames rfl fl D fun h2 fl2 D2 up => ?_
  refine ⟨a, cls, a0, B, H2, dd, rfl, hos.trans I.os, hba, ⟨G.st, fun b o e1 n nb => G.keep b o (I.base.keep b o e1 n nb (nx b)) (I.base.free b o e1 n (nx b)) (nof b o e1 nb), fun b o e1 n => ?_, fun b o e1 nb => ?_,
    fun b xs z => G.tups b xs (I.base.tups b xs z), fun b o u z => G.frzs b o u (I.base.frzs b o u z), fun b ps z => ?_, G.hok⟩, fun b hb o e1 => ?_, fl2, ha0, D2, hw⟩
  · obtain ⟨o', e2⟩ := I.base.there b o e1 (nx b)
    exact G.free b o' e2 (I.base.free b o e1 n (nx b))
  · obtain ⟨o', e2⟩ := I.base.there b o e1 (nx b)
    exact G.there b o' e2 (nof b o e1 nb)
  · obtain ⟨m1, e1⟩ := I.base.tbls b ps z
    obtain ⟨m2, e2⟩ := G.tbls b _ e1
    exact ⟨m1 ++ m2, by rw [e2, Array.append_assoc]⟩
  · obtain ⟨l1, e2⟩ := I.base.slot b o e1 (I.ok.frf b hb) hb (nx b)
    obtain ⟨l2, e3⟩ := sl b (sub b hb) _ e2
    obtain ⟨_, o1, e4, d⟩ := fl.2.2.1.mem (sub b hb)
    rw [e3] at e4
    cases e4
    obtain ⟨l3, e5⟩ := up b _ e3 d
    exact ⟨l3, e5⟩
end
structure HasY (P : Program) (w : World) (K : PySem.W.Frag) (mg : Str → Option Value) (base : Heap) (k : Nat) (x : Str) (ps : List Str) (sp : Sp) : Prop where
  ex : ∃ (f : Addr) (fd : FuncData), FnOk P w K mg base (CX2 P w base) k f fd ps sp ∧ Binds K fd ps [] ∧ PySem.W.keepIn K (.ref f) = true ∧ mg x = some (.ref f)
section
variable {P : Program} {w : World} {K : PySem.W.Frag} {mg : Str → Option Value} {base : Heap} {N : List Str} {qual : Str} {scope : Scope} {f : Addr} {cdv : Value} {A : Around} {outer : List Env} {s₀ : Shared} {H₀ : Hp} {E : XK}
theorem pe_fnYX {k : Nat} {x : Str} {ps : List Str} {sp : Sp} {p pos : Pos} {e : Expr} {es : List Expr} {t : TA} (h : HasY P w K mg base k x ps sp) (hr : Room k (cxOf (CX2 P w base) P w K mg base N qual scope f cdv A outer s₀ H₀ E).A)
    (hg : Gl (cxOf (CX2 P w base) P w K mg base N qual scope f cdv A outer s₀ H₀ E) x) (ha : PA (cxOf (CX2 P w base) P w K mg base N qual scope f cdv A outer s₀ H₀ E) (e :: es) t) (hdb : (x == ("__debug__" : Str)) = false := by decide)
    (he : starEach (e :: es) (cxOf (CX2 P w base) P w K mg base N qual scope f cdv A outer s₀ H₀ E).env = (false, eval e (cxOf (CX2 P w base) P w K mg base N qual scope f cdv A outer s₀ H₀ E).env) :: starEach es (cxOf (CX2 P w base) P w K mg base N qual scope f cdv A outer s₀ H₀ E).env := by rfl)
    (hpl : (backTo pos (starEach es (cxOf (CX2 P w base) P w K mg base N qual scope f cdv A outer s₀ H₀ E).env)).any (·.1) = false := by rfl) :
    PE (cxOf (CX2 P w base) P w K mg base N qual scope f cdv A outer s₀ H₀ E) (.Call (.Name x p) (e :: es) [] pos) (tCall sp [] E t) := by
  obtain ⟨fa, fd, F, b, kp, m⟩ := h.ex
  exact pe_call F hr hg m kp b .nil passY ha hdb he hpl
end
theorem passYN {X : Cx} : Passes (CX2 X.prog X.w X.base) X E0 := fun _ _ _ _ _ _ _ hq => by
  obtain ⟨_, _, _, _, _, _, _, _, _, _, _, _, _, _, hw⟩ := hq
  exact hw.elim
theorem pe_fnYN {X : Cx} {k : Nat} {x : Str} {ps : List Str} {sp : Sp} {p pos : Pos} {e : Expr} {es : List Expr} {t : TA} (h : HasY X.prog X.w X.K X.mg X.base k x ps sp) (hr : Room k X.A) (hg : Gl X x) (ha : PA X (e :: es) t) (hdb : (x == ("__debug__" : Str)) = false := by decide)
    (he : starEach (e :: es) X.env = (false, eval e X.env) :: starEach es X.env := by rfl) (hpl : (backTo pos (starEach es X.env)).any (·.1) = false := by rfl) : PE X (.Call (.Name x p) (e :: es) [] pos) (tCall sp [] E0 t) := by
  obtain ⟨fa, fd, F, b, kp, m⟩ := h.ex
  exact pe_call F hr hg m kp b .nil passYN ha hdb he hpl
/-- the rows of a try -/
def tryCy (X : Cx) (pins : List (Addr × Obj)) (E : L2.St → XK) : Cx := (pinned X pins).wish fun e s' => ∃ (pins' : List (Addr × Obj)) (σ' : L2.St) (H : Hp) (s : Shared), Inv (pinned X pins) pins' σ' H s ∧ CX2 X.prog X.w X.base X.stack H s (E σ') e s'
theorem pe_fnYT {X : Cx} {pins : List (Addr × Obj)} {E : L2.St → XK} {k : Nat} {x : Str} {ps : List Str} {sp : Sp} {p pos : Pos} {e : Expr} {es : List Expr} {t : TA} (h : HasY X.prog X.w X.K X.mg X.base k x ps sp) (hr : Room k X.A) (hg : Gl X x) (ha : PA (tryCy X pins E) (e :: es) t) (hdb : (x == ("__debug__" : Str)) = false := by decide)
    (he : starEach (e :: es) X.env = (false, eval e X.env) :: starEach es X.env := by rfl) (hpl : (backTo pos (starEach es X.env)).any (·.1) = false := by rfl) :
    PE (tryCy X pins E) (.Call (.Name x p) (e :: es) [] pos) (tCallT sp E t) := by
  intro pins2 s σ H Q I ht
  obtain ⟨fa, fd, F, hbi, hk, hm⟩ := h.ex
  refine wpAny_Call_Name_kw (ld_glob I hg hm ?_ hdb)
  refine PySem.W.callWith_K (h₀ := X.base) I.ok.mod.kin hk (thn (ha pos pins2 s σ H _ I ht) fun us s1 ⟨vs, H1, I1, r1, q1⟩ => ⟨I1.kIn, ?_⟩) he hpl
  have r2 : Vals (vs ++ []) us := by rw [List.append_nil]; exact r1
  have hl : us.length = ps.length := by rw [← r2.length]; exact F.len _ _ _ _ q1
  have bd := hbi s1 us I1.kIn (by rw [List.append_nil]; exact hl)
  rw [List.append_nil] at bd
  refine wpAny_call (codeAny_mono (F.run X.A X.stack s1 H1 ⟨us, []⟩ us (vs ++ []) _ _ hr I1.env0 bd r2 q1) fun r s' hq => ?_)
  cases r with
  | error ev => exact ⟨pins2, σ, H1, s1, I1.unwish, hq⟩
  | ok fl =>
    cases fl with
    | ret u => exact I1.after hq
    | next => exact False.elim hq
    | brk => exact False.elim hq
    | cont => exact False.elim hq
section
variable {X : Cx} {j : Nat} {n c : Str} {C₁ : Addr} {b₀ : Stmt} {suite : List Stmt} {tb : Addr → Obj → TS} {np hpos : Pos}
/-- from the flight to the suite, behind which it goes on -/
theorem landY {cb : Bool} {pins : List (Addr × Obj)} {σ : L2.St} {H1 : Hp} {s1 s' : Shared} {D : Ends} {E : XK} {ev : Value} (I : Inv X pins σ H1 s1) (hq : CX2c cb X.prog X.w X.base X.stack H1 s1 E ev s') (hst : X.stack = X.env :: X.outer) (hfr : X.env.frame = some X.env.locals)
    (hN : X.N.Nodup) (hgc : Gl X c) (hmc : X.mg c = some (.ref C₁)) (hj : X.N[j]? = some n) (hnl : X.env.scope.names.lookup n = some .local) (hb : ∀ (a : Addr) (oe : Obj), (cb = true → Ctx0 oe) → PSs (caught X a oe) (b₀ :: suite) (tb a oe)) (hno : X.xe = fun _ _ => False)
    (hE : ∀ cls dd H2, E cls dd H2 → PySem.W.exmOne X.K cls (.ref C₁) = some true ∧ ∀ (a : Addr) (oe : Obj), oe.cls = cls → oe.dict = dd → PySem.W.notCls oe = true → H2 a = none → tb a oe (endsK j D) (σ.set j (some (.ref a))) H2) (hdc : (c == ("__debug__" : Str)) = false) :
    wpAny (model X.prog X.w) X.A (noteFrame ev X.env) (fun _ s₂ => wpAny (model X.prog X.w) X.A (setFlight ev none) (fun _ s₃ => wpAny (model X.prog X.w) X.A (handleBy ev X.env [.ExceptHandler (some (.Name c np)) (some n) (b₀ :: suite) hpos]) (SP X pins D) X.xe s₃) X.xe s₂) X.xe s' := by
  obtain ⟨a, cls, a0, B, H2, dd, rfl, hos, hba, G, sl, fl, ha0, D0, hw⟩ := hq
  obtain ⟨hm, hsu⟩ := hE cls dd H2 hw
  have frm : X.A.frames = some (X.env :: X.outer) := hst ▸ I.ok.frames
  rw [hst] at fl
  have sl' : Slots (frs (X.env :: X.outer)) s1.heap s'.heap := hst ▸ sl
  refine note_own frm hfr fl D0 fun h4 hd4 D4 up4 => ?_
  refine flight_own hd4.1 hd4.2.1 hd4.2.2.1 hd4.2.2.2 D4 fun h5 fl5 D5 up5 => ?_
  have sl5 := (sl'.on fl.2.2.1 up4).on hd4.2.2.1 up5
  have inv : ∀ (hh : Heap) (sx : Shared), sx.heap = hh → sx.os = s1.os → AllBare sx.gens → B.StaysIn hh → Slots (frs (X.env :: X.outer)) s1.heap hh → Inv X pins σ H2 sx := fun hh sx e1 e2 e3 e4 e5 => by
    refine I.call' (ch := []) e2 ?_ ?_ e3 fun b z => nomatch z
    · rw [e1]; exact G.un e4 (hst ▸ e5)
    · rw [e1]; exact G.hok.kept e4
  have I5 : Inv X pins σ H2 { s' with heap := h5 } := inv h5 _ rfl hos hba fl5.1 sl5
  have noT : ∀ hh : Heap, Heap.FlyingW B (X.env :: X.outer) a cls a0 hh → a ≠ X.env.locals ∧ a ∉ X.fs := fun hh flx => by
    obtain ⟨oe, ws, e1, _, e2, _⟩ := flx.first
    have key : ∀ b ∈ frs (X.env :: X.outer), a ≠ b := fun b hb z => by
      obtain ⟨_, o, e3, d⟩ := flx.2.2.1.mem hb
      rw [← z, e1] at e3
      cases e3
      exact d _ e2
    have mL : X.env.locals ∈ frs (X.env :: X.outer) := List.mem_filterMap.mpr ⟨X.env, List.mem_cons_self .., hfr⟩
    refine ⟨key _ mL, fun z => key a ?_ rfl⟩
    obtain ⟨en, he, hf⟩ := List.mem_filterMap.mp z
    exact List.mem_filterMap.mpr ⟨en, List.mem_cons_of_mem _ he, hf⟩
  obtain ⟨o5, ob5, oc5⟩ := fl5.there
  obtain ⟨_, w5, ob5', _, od5, _⟩ := fl5.first
  have I5c : Inv (caught X a o5) pins σ H2 { s' with heap := h5 } := caught_inv I5 ob5 ha0 (noT h5 fl5).1 (noT h5 fl5).2 (fun v z => by
    rw [ob5] at ob5'
    cases ob5'
    rw [od5] at z
    cases z)
  refine wpAny_handleBy_cons (codeAny_handlers_test (ld_glob I5c hgc hmc ?_ hdc)) (by intro z; cases z)
  have LT : PySem.W.Looks (model X.prog X.w) h5 (typeOf (.ref a)) cls := oc5 ▸ (PySem.W.Looks.ld ob5).andThen .now
  refine (PySem.W.exm_one (K := X.K) I5.kIn LT hm).here ?_
  refine codeAny_handlers_suite_as ?_
  refine flight_own (s := { s' with heap := h5 }) fl5.1 fl5.2.1 fl5.2.2.1 fl5.2.2.2 D5 fun h6 fl6 D6 up6 => ?_
  have I6 : Inv X pins σ H2 { s' with heap := h6 } := inv h6 _ rfl hos hba fl6.1 (sl5.on fl5.2.2.1 up6)
  obtain ⟨o6, w6, ob6, oc6, od6, _⟩ := fl6.first
  obtain ⟨dd6, cc6⟩ : o6.dict = dd ∧ (cb = true → Ctx0 o6) := by
    obtain ⟨o7, e7, d7, c7⟩ := D6
    rw [ob6] at e7
    cases e7
    exact ⟨d7, c7⟩
  have I6c : Inv (caught X a o6) pins σ H2 { s' with heap := h6 } := caught_inv I6 ob6 ha0 (noT h6 fl6).1 (noT h6 fl6).2 (fun v z => by rw [od6] at z; cases z)
  refine store_ok (X := caught X a o6) I6c hN hj (.inl hnl) (v := .ref a) rfl (fun s7 I7 => ?_) (.inr hnl)
  refine wpAny_mono (hb a o6 cc6 pins s7 _ H2 _ I7 (hsu a o6 oc6 dd6 (by unfold PySem.W.notCls; rw [od6]) ha0)) (fun fw s8 q8 => ?_) fun ex s8 q8 => ?_
  · cases fw with
    | ret u =>
      obtain ⟨v, σ8, H8, I8, r8, q8⟩ := q8
      obtain ⟨m8, n8, _⟩ := I8.loc
      refine wpAny_nameGoes (env := X.env) hnl n8 (by rw [I.ok.kind]; rfl) fun h9 m9 n9 sb => ?_
      exact ⟨v, _, H8, suite_end I8 I.ok n9 sb, r8, q8⟩
    | next =>
      obtain ⟨σ8, H8, I8, q8⟩ := q8
      obtain ⟨m8, n8, l8⟩ := I8.loc
      refine wpAny_nameGoes_keeps (env := X.env) hnl n8 (by rw [I.ok.kind]; rfl) fun h9 v9 n9 sb => ?_
      exact ⟨_, H8, suite_endK I8 I.ok hN hj l8 n9 sb, q8⟩
    | brk => obtain ⟨_, _, _, z⟩ := q8; exact False.elim z
    | cont => obtain ⟨_, _, _, z⟩ := q8; exact False.elim z
  · have z : X.xe ex s8 := q8
    rw [hno] at z
    exact False.elim z
end
def wishY (K : PySem.W.Frag) (C₁ : Addr) (j : Nat) (ts : Addr → Obj → TS) (D : Ends) : L2.St → XK := fun σ' cls dd H2 => PySem.W.exmOne K cls (.ref C₁) = some true ∧ ∀ (a : Addr) (oe : Obj), oe.cls = cls → oe.dict = dd → PySem.W.notCls oe = true → H2 a = none → ts a oe (endsK j D) (σ'.set j (some (.ref a))) H2
def tTryY (K : PySem.W.Frag) (C₁ : Addr) (j : Nat) (tb : (L2.St → XK) → TS) (ts : Addr → Obj → TS) : TS := fun D σ H => tb (wishY K C₁ j ts D) D σ H
/-- try: rows, one of which may raise; except C as n: rows -/
theorem ps_tryYC {X : Cx} {j : Nat} {n c : Str} {C₁ : Addr} {b₀ : Stmt} {body suite : List Stmt} {tb : (L2.St → XK) → TS} {ts : Addr → Obj → TS} {np hpos tpos : Pos} (hbd : ∀ pins E, PSs (tryCy X pins E) body (tb E)) (hN : X.N.Nodup) (hgc : Gl X c) (hmc : X.mg c = some (.ref C₁))
    (hj : X.N[j]? = some n) (hnl : X.env.scope.names.lookup n = some .local) (hb : ∀ (a : Addr) (oe : Obj), Ctx0 oe → PSs (caught X a oe) (b₀ :: suite) (ts a oe)) (hno : X.xe = fun _ _ => False := by rfl) (hst : X.stack = X.env :: X.outer := by rfl) (hfr : X.env.frame = some X.env.locals := by rfl)
    (hdc : (c == ("__debug__" : Str)) = false := by decide) : PS X (.Try body [.ExceptHandler (some (.Name c np)) (some n) (b₀ :: suite) hpos] [] [] tpos) (tTryY X.K C₁ j tb ts) := by
  intro pins s σ H D I ht
  refine wpAny_Try_except (wpAny_mono (hbd pins (wishY X.K C₁ j ts D) [] s σ H D ((to_pinned I).wish _) ht) (fun fl s1 q => ?_) fun ev s1 q => ?_)
  · cases fl with
    | next => obtain ⟨σ', H', I', q⟩ := q; exact wpAny_execs_nil ⟨σ', H', of_pinned I.ok I'.unwish, q⟩
    | brk => obtain ⟨σ', H', I', q⟩ := q; exact ⟨σ', H', of_pinned I.ok I'.unwish, q⟩
    | cont => obtain ⟨σ', H', I', q⟩ := q; exact ⟨σ', H', of_pinned I.ok I'.unwish, q⟩
    | ret u => obtain ⟨v, σ', H', I', r, q⟩ := q; exact ⟨v, σ', H', of_pinned I.ok I'.unwish, r, q⟩
  · obtain ⟨pins2, σ2, H2, s2, I2, hq⟩ := q
    exact landY (of_pinned I.ok I2) hq hst hfr hN hgc hmc hj hnl (fun a oe h => hb a oe (h rfl)) hno (fun cls dd H3 z => z) hdc
theorem ps_tryY {X : Cx} {j : Nat} {n c : Str} {C₁ : Addr} {b₀ : Stmt} {body suite : List Stmt} {tb : (L2.St → XK) → TS} {ts : Addr → Obj → TS} {np hpos tpos : Pos} (hbd : ∀ pins E, PSs (tryCy X pins E) body (tb E)) (hN : X.N.Nodup) (hgc : Gl X c) (hmc : X.mg c = some (.ref C₁))
    (hj : X.N[j]? = some n) (hnl : X.env.scope.names.lookup n = some .local) (hb : ∀ (a : Addr) (oe : Obj), PSs (caught X a oe) (b₀ :: suite) (ts a oe)) (hno : X.xe = fun _ _ => False := by rfl) (hst : X.stack = X.env :: X.outer := by rfl) (hfr : X.env.frame = some X.env.locals := by rfl)
    (hdc : (c == ("__debug__" : Str)) = false := by decide) : PS X (.Try body [.ExceptHandler (some (.Name c np)) (some n) (b₀ :: suite) hpos] [] [] tpos) (tTryY X.K C₁ j tb ts) :=
  ps_tryYC hbd hN hgc hmc hj hnl (fun a oe _ => hb a oe) hno hst hfr hdc
end Ow
namespace Ow
open PySem PySem.Spec PyProof.Rows L2
section
variable {prog : Program} {w : World} {A : Around} {E : Value → Shared → Prop} {h : Heap} {g : Array GenState} {d : Drawn} {t : Nat} {os : OsState} {K : PySem.W.Frag} {a C D : Addr} {o od : Obj} {name : Str} {v : Value}
theorem xat (hx : h.get? a = some o) (hc : o.cls = .ref C) (hd : o.dict = some D) (hn : PySem.W.notCls o = true) (gd : h.get? D = some od) : PySem.W.InstAt h a o C (some od) := ⟨hx, hc, hn, by rw [hd]; exact gd⟩
theorem getx_entry {tk : Tok} {Q : Fin → Shared → Prop} (X : K.In h) (I : PySem.W.InstAt h a o C (some od)) (hf : PySem.W.findObj K C (some od) name = some (.value v)) (hq : Q (.done (.ret v)) ⟨h, g, d, t, os⟩) :
    wpAny (model prog w) A (Builtin.«object.__getattribute__» ⟨[.ref a, .str name tk], []⟩) Q E ⟨h, g, d, t, os⟩ := by
  have L0 := I.type (M := model prog w)
  have L1 := PySem.W.looks_find (M := model prog w) X I hf
  refine wpAny_bind (wpAny_pure (wpAny_bind (wpAny_pure (wpAny_bind (L0.at (wpAny_bind (L1.at ?_)))))))
  exact wpAny_pure hq
theorem getx_by {tk : Tok} {fill ex : Bool} {Q : Value → Shared → Prop} (X : K.In h) (f : ExF K C) (I : PySem.W.InstAt h a o C (some od)) (hf : PySem.W.findObj K C (some od) name = some (.value v)) (hv : PySem.W.handedIn v = true) (hq : Q v ⟨h, g, d, t, os⟩) :
    wpAny (model prog w) A (getAttrBy (.ref a) (.str name tk) fill ex) Q E ⟨h, g, d, t, os⟩ := by
  have hx := I.at_
  have hc := I.cls
  have f3 := F.attr_ValueError.ga.bind (.ref a)
  have L1 := PySem.W.looks_findIn (M := model prog w) X f.ga
  have L2 := PySem.W.looks_findIn (M := model prog w) X f.gn
  have hx2 : (Value.builtin "BaseException.__getattribute__" == Value.builtin "object.__getattribute__") = false := by decide +kernel
  have hx1 : (onTheHeap (Value.ref C) && Value.builtin "BaseException.__getattribute__" == Value.builtin "object.__getattribute__") = false := by rw [hx2]; rfl
  have hx0 : (ex && onTheHeap (Value.builtin "BaseException.__getattribute__")) = false := by cases ex <;> rfl
  have hho := PySem.W.handedOut_of hv
  repeat (any_goals (first | assumption | (with_reducible refine wpAny_loadPart_at hx ?_; rw [hc]) | with_reducible refine L1.at ?_ | with_reducible refine L2.at ?_ | wp_step))
  refine codeAny_call_builtin F.attr_ValueError.ga.plain F.entry_bexc_ga (exc_check X f hx hc (getx_entry X I hf ?_))
  repeat (any_goals (first | assumption | wp_step))
theorem getx {ex : Bool} {Q : Value → Shared → Prop} (X : K.In h) (f : ExF K C) (I : PySem.W.InstAt h a o C (some od)) (hf : PySem.W.findObj K C (some od) name = some (.value v)) (hv : PySem.W.handedIn v = true) (hq : Q v ⟨h, g, d, t + 1, os⟩) :
    wpAny (model prog w) A (getAttr (.ref a) name ex) Q E ⟨h, g, d, t, os⟩ := by
  unfold getAttr
  exact wpAny_bind (wpAny_mkText (getx_by X f I hf hv hq))
end
/-- e.f of a caught exception: the field that its __init__ laid down -/
def tXf (K : PySem.W.Frag) (ta : TE) (a : Addr) (oe : Obj) (f : Str) : TE := fun σ H Q => ta σ H fun x H1 => ∃ C D fs v, x = .ref a ∧ oe.cls = .ref C ∧ oe.dict = some D ∧ PySem.W.notCls oe = true ∧ ExF K C ∧ PySem.W.hasDictIn K C = true ∧ NoAttr K C f ∧ H1 D = some (.xd fs) ∧ fs.lookup f = some v ∧ Q v H1
theorem pe_xf {X : Cx} {a : Addr} {oe : Obj} {f : Str} {e : Expr} {ta : TE} {pos : Pos} (hp : (a, oe) ∈ X.pn) (he : PE X e ta) (hb : attributeBase e f X.env (eval e X.env) = eval e X.env) : PE X (.Attribute e f pos) (tXf X.K ta a oe f) := by
  intro pins s σ H Q I h
  refine attr_of hb (thn (he pins s σ H _ I h) fun u s1 ⟨x, H1, I1, rx, C, D, fs, v, ex, hc, hd, hn, f1, f2, f3, hD, hl, q⟩ => ?_)
  subst ex
  obtain rfl : u = Value.ref a := rx
  have pa := I1.pin _ (List.mem_append_left _ hp)
  obtain ⟨mA, ns, r⟩ := I1.hok D _ hD
  obtain ⟨od, gd, hlk⟩ := lookIn_ns ns
  obtain ⟨v', hv, rv⟩ := RelO.some_of (v := v) (o := mA f) (by rw [← hl]; exact r f)
  obtain ⟨hh, g, d, t, os⟩ := s1
  exact getx I1.kIn f1 (xat pa.1 hc hd hn gd) (PySem.W.findObj_own f2 f3 rfl (by rw [hlk, hv])) (handed_of rv) ⟨v, H1, I1.tok _, rv, q⟩
end Ow
namespace Ow
open PySem PySem.Spec PyProof.Rows L2
theorem Has.imp {P : Program} {w : World} {K : PySem.W.Frag} {mg : Str → Option Value} {base : Heap} {k : Nat} {x : Str} {ps : List Str} {sp sp' : Sp} (h : Has P w K mg base k x ps sp) (i : ∀ vs H Q E, sp' vs H Q E → sp vs H Q E) : Has P w K mg base k x ps sp' := by
  obtain ⟨f, fd, F, b, kp, m⟩ := h.ex
  exact ⟨f, fd, F.imp i, b, kp, m⟩
/-! ### an empty dict -/
theorem dk_none {P : Program} {w : World} {H : Hp} (h : Heap) (hb : sysModules < h.objs.size) : ObjOk P w H (h.push { cls := .type "dict", data := .dict #[] }) h.objs.size (.dK []) :=
  ⟨Nat.zero_le _, beq_eq_false_iff_ne.mpr (Ne.symm (Nat.ne_of_lt hb)), [], .nil, Heap.DictOf.new h⟩
theorem inv_big {X : Cx} {pins : List (Addr × Obj)} {σ : L2.St} {H : Hp} {s : Shared} (I : Inv X pins σ H s) : sysModules < s.heap.objs.size := by
  have h1 := I.ok.mod.glob.lt
  have h2 := Nat.le_trans I.ok.bsz I.sz
  exact Nat.lt_of_lt_of_le (Nat.lt_of_le_of_lt (by decide) h1) h2
def tDNew : TE := fun _ H Q => ∀ p, H p = none → Q (.ref p) (upd H p (.dK []))
theorem pe_dnewK {X : Cx} {pos : Pos} : PE X (.Dict [] [] pos) tDNew := fun pins s σ H Q I h =>
  wpAny_Dict_empty ⟨.ref s.heap.objs.size, _, I.laid (a := s.heap.objs.size) (o := .dK []) (t' := s.toks) (fun _ _ q => Heap.get?_push_of_some _ q) (Nat.le_refl _) (dk_none s.heap (inv_big I)), rfl, h _ (I.hok.fresh (Nat.le_refl _))⟩
/-! ### things of any kind -/
inductive Th (H : Hp) : V → Prop where
  | int (i : Int) : Th H (.int i)
  | bl (b : Bool) : Th H (.bl b)
  | str (x : Str) : Th H (.str x)
  | non : Th H .non
  | lst {a : Addr} {xs : List V} (h : H a = some (.lst xs)) : Th H (.ref a)
  | tup {a : Addr} {xs : List V} (h : H a = some (.tup xs)) : Th H (.ref a)
  | dct {a : Addr} {kvs : List (Key × V)} (h : H a = some (.dK kvs)) : Th H (.ref a)
theorem Th.same {H H' : Hp} {x : V} (t : Th H x) (s : Same H H') : Th H' x := by
  cases t with
  | int i => exact .int i
  | bl b => exact .bl b
  | str x => exact .str x
  | non => exact .non
  | lst h => exact .lst (s _ _ h)
  | tup h => exact .tup (s _ _ h)
  | dct h => exact .dct (s _ _ h)
theorem Th.updN {H : Hp} {x : V} {l : Addr} {o : HO} (t : Th H x) (n : x ≠ .ref l) : Th (upd H l o) x := by
  cases t with
  | int i => exact .int i
  | bl b => exact .bl b
  | str x => exact .str x
  | non => exact .non
  | lst h => exact .lst (by rw [upd_ne (fun z => n (by rw [z]))]; exact h)
  | tup h => exact .tup (by rw [upd_ne (fun z => n (by rw [z]))]; exact h)
  | dct h => exact .dct (by rw [upd_ne (fun z => n (by rw [z]))]; exact h)
theorem Th.exc {H H' : Hp} {x : V} {p : Addr} (t : Th H x) (s : SameX p H H') (hp : ∃ xs, H' p = some (.lst xs)) : Th H' x := by
  obtain ⟨ys, hp⟩ := hp
  cases t with
  | int i => exact .int i
  | bl b => exact .bl b
  | str x => exact .str x
  | non => exact .non
  | @lst a xs h =>
    by_cases e : a = p
    · rw [e]; exact .lst hp
    · exact .lst (s _ _ e h)
  | @tup a xs h =>
    by_cases e : a = p
    · rw [e]; exact .lst hp
    · exact .tup (s _ _ e h)
  | @dct a xs h =>
    by_cases e : a = p
    · rw [e]; exact .lst hp
    · exact .dct (s _ _ e h)
def isI : V → Bool
  | .int _ => true
  | _ => false
def btw (x : V) (lo hi : Int) : Bool := match x with
  | .int i => decide (lo ≤ i) && decide (i ≤ hi)
  | _ => false
theorem btw_not {x : V} {lo hi : Int} (h : isI x = false) : btw x lo hi = false := by
  cases x <;> first | rfl | cases h
theorem kit_str_int (K : PySem.W.Frag) : PySem.W.kitOne K (.type "str") (.type "int") = some false := by with_unfolding_all rfl
theorem kit_non_int (K : PySem.W.Frag) : PySem.W.kitOne K (.type "NoneType") (.type "int") = some false := by with_unfolding_all rfl
theorem kit_lst_int (K : PySem.W.Frag) : PySem.W.kitOne K (.type "list") (.type "int") = some false := by with_unfolding_all rfl
theorem kit_tup_int (K : PySem.W.Frag) : PySem.W.kitOne K (.type "tuple") (.type "int") = some false := by with_unfolding_all rfl
theorem kit_dct_int (K : PySem.W.Frag) : PySem.W.kitOne K (.type "dict") (.type "int") = some false := by with_unfolding_all rfl
def spWholeG : Sp := fun vs H Q _ => ∃ x : V, vs = [x] ∧ Th H x ∧ Q (.bl (isI x)) H
def spBtwG : Sp := fun vs H Q _ => ∃ (x : V) (lo hi : Int), vs = [x, .int lo, .int hi] ∧ Th H x ∧ Q (.bl (btw x lo hi)) H
def spWordG : Sp := fun vs H Q _ => ∃ (w : Int) (x : V), vs = [.int w, x] ∧ 4 ≤ w ∧ w ≤ 32 ∧ Th H x ∧ Q (.bl (btw x 0 (1 * 2 ^ w.toNat - 1))) H
/-- a list that grows, of things, beside a box -/
structure Tg (p l : Addr) (H0 H : Hp) (xs : List V) : Prop where
  at_ : H l = some (.lst xs)
  th : ∀ y ∈ xs, Th H y ∧ y ≠ .ref l
  sx : SameX p H0 H
  fr : H0 l = none
  np : l ≠ p
theorem Tg.push {p l : Addr} {H0 H : Hp} {xs : List V} (t : Tg p l H0 H xs) {y : V} (h : Th H y) (n : y ≠ .ref l) : Tg p l H0 (upd H l (.lst (xs ++ [y]))) (xs ++ [y]) :=
  ⟨upd_same, fun z hz => by
    rcases List.mem_append.mp hz with hz | hz
    · exact ⟨(t.th z hz).1.updN (t.th z hz).2, (t.th z hz).2⟩
    · rw [List.mem_singleton.mp hz]; exact ⟨h.updN n, n⟩, fun b o hb e => by rw [upd_ne (ne_of_none e t.fr)]; exact t.sx b o hb e, t.fr, t.np⟩
theorem Tg.exc {p l : Addr} {H0 H H' : Hp} {xs : List V} (t : Tg p l H0 H xs) (b : ∃ ys, H' p = some (.lst ys)) (x : SameX p H H') : Tg p l H0 H' xs :=
  ⟨x _ _ t.np t.at_, fun y hy => ⟨(t.th y hy).1.exc x b, (t.th y hy).2⟩, t.sx.trans x, t.fr, t.np⟩
theorem Tg.new {p l : Addr} {H0 H H' : Hp} {xs : List V} (t : Tg p l H0 H xs) (s : Same H H') : Tg p l H0 H' xs :=
  ⟨s _ _ t.at_, fun y hy => ⟨(t.th y hy).1.same s, (t.th y hy).2⟩, t.sx.trans (SameX.of s), t.fr, t.np⟩
end Ow
/-! ## A list comprehension with one test -/
namespace Ow
open PySem PySem.Spec PyProof.Rows L2
def tCompT (wi : TI) (tc : TT) (te : TE) (cap : L2.St → L2.St) : TE := fun σ H Q => wi σ H fun J H1 => ∀ D, H1 D = none → ∃ W : Nat → Nat → Hp → Prop, (∃ m, W 0 m (upd H1 D (.lst []))) ∧ ∀ i m H, W i m H →
  (J.stop i H ∧ Q (.ref D) H) ∨ (J.go i H ∧ ∀ x H', J.yld i H x H' → tc (some x :: cap σ) H' fun b HA => if b = true then te (some x :: cap σ) HA (fun y H2 => ∃ ys, H2 D = some (.lst ys) ∧ ys.length < sizeLine ∧ ∃ m', m' < m ∧ W (i + 1) m' (upd H2 D (.lst (ys ++ [y])))) else ∃ m', m' < m ∧ W (i + 1) m' HA)
section
variable {X : Cx} {elt iter cc : Expr} {x : Str} {px pos : Pos} {scope : Scope} {wi : TI} {tc : TT} {te : TE} {N : List Str} {cl : List (Str × Addr)} {cap : L2.St → L2.St}
end
end Ow
/-! ### list(range(a, b)) -/
namespace Ow
open PySem PySem.Spec PyProof.Rows L2
section
variable {X : Cx}
def fromTo (a b : Int) : List V := (List.range (b - a).toNat).map fun k : Nat => V.int (a + (k : Int))
def tRange2 (ta : TA) : TE := fun σ H Q => ta σ H fun vs H1 => ∃ i j : Int, vs = [.int i, .int j] ∧ ∀ p, H1 p = none → Q (.ref p) (upd H1 p (.rng i j))
end
end Ow
/-! ### a method called within a comprehension's block; isinstance of an own class -/
namespace Ow
open PySem PySem.Spec PyProof.Rows L2
def tMethQ (P : Program) (w : World) (K : PySem.W.Frag) (mg : Str → Option Value) (base : Heap) (k : Nat) (m : Str) (ta : TE) (t : TA) : TE := fun σ H Q => ta σ H fun x H1 => ∃ (a C dx : Addr) (fs : List (Str × V)) (ps : List Str) (sp : Sp), x = .ref a ∧ H1 a = some (.ins C dx fs) ∧ fs.lookup m = none ∧
  MHas P w K mg base k C m ps sp ∧ t σ H1 fun vs H2 => sp (x :: (vs ++ [])) H2 Q E0
theorem kit_of {K : PySem.W.Frag} {C D : Addr} (h1 : PySem.W.isClsIn K D = true) (h2 : PySem.W.typeIn K (.ref D) = some (.type "type")) (h3 : PySem.W.mroIn K C (.ref D) = some true) : PySem.W.kitOne K (.ref C) (.ref D) = some true := by
  unfold PySem.W.kitOne
  split
  · rfl
  · unfold PySem.W.kitCls
    have e : ((PySem.W.clsIn K D).isSome && PySem.W.typeIn K (.ref D) == some (.type "type")) = true := by
      rw [h2]
      have h1' : (PySem.W.clsIn K D).isSome = true := h1
      rw [h1', Bool.true_and]
      exact beq_self_eq_true _
    show (if ((PySem.W.clsIn K D).isSome && PySem.W.typeIn K (.ref D) == some (.type "type")) = true then PySem.W.subIn K (.ref C) (.ref D) else none) = _
    rw [if_pos e]
    exact h3
end Ow
/-! ## xs[i::k]: some of its items -/
namespace Ow
open PySem PySem.Spec PyProof.Rows L2
/-- the places of xs[i::k] -/
def stepIx (i k : Int) (n : Nat) : List Nat := sliceRange (sliceBounds (some i) none (some k) n).1 (sliceBounds (some i) none (some k) n).2.1 (sliceBounds (some i) none (some k) n).2.2
def stepV (xs : List V) (i k : Int) : List V := (stepIx i k xs.length).filterMap (xs[·]?)
def tStep (K : PySem.W.Frag) (te tl tk : TE) : TE := fun σ H Q => te σ H fun x H1 => tl σ H1 fun y H2 => tk σ H2 fun z H3 => ∃ a xs i k, x = .ref a ∧ y = .int i ∧ z = .int k ∧ 0 ≤ i ∧ 1 ≤ k ∧ SqL K H3 a xs ∧ ∀ p, H3 p = none → Q (.ref p) (upd H3 p (.lst (stepV xs i k)))
end Ow
/-! ## texts: slices, join, repeat, walked sign by sign, int(text); == of tuples, deep -/
namespace Ow
open PySem PySem.Spec PyProof.Rows L2
section
variable {X : Cx}
/-- sep.join(list of texts) -/
def rJoin (K : PySem.W.Frag) : V → List V → Hp → VK → Prop := fun x xs H Q => ∃ sep p ys, x = .str sep ∧ xs = [.ref p] ∧ SqL K H p (ys.map V.str) ∧ (ys.map (·.length)).sum + ys.length * sep.length ≤ 16777216 ∧ Q (.str (Txt.join sep ys)) H
end
/-- a text walked -/
def Its (z : Str) : It where
  go := fun i _ => i < z.cps.size
  yld := fun i H x H' => H' = H ∧ ∃ c, z.cps[i]? = some c ∧ x = .str ⟨#[c]⟩
  stop := fun i _ => z.cps.size ≤ i
def iStr (tl : TE) : TI := fun σ H R => tl σ H fun x H1 => ∃ z, x = .str z ∧ R (Its z) H1
/-- == of tuples, deep -/
def rEqTD (K : PySem.W.Frag) (d : Nat) (neg : Bool) : R2 := fun x y H Q => ∃ p q xs ys e, x = .ref p ∧ y = .ref q ∧ SqT K H p xs ∧ SqT K H q ys ∧ (∀ j, j < xs.length → j < ys.length → EqD K H d (xs.getD j .non) (ys.getD j .non) (e j)) ∧ Q (.bl (if neg = true then !((List.range (min xs.length ys.length)).all e && xs.length == ys.length) else ((List.range (min xs.length ys.length)).all e && xs.length == ys.length))) H
end Ow
/-! ## repr of things; == of a thing with itself, and with a text; list.index -/
namespace Ow
open PySem PySem.Spec PyProof.Rows L2
/-- what a thing is as data: flat things, lists and tuples of such -/
inductive RD (H : Hp) : V → PyData → Prop where
  | non : RD H .non .none
  | bl (b : Bool) : RD H (.bl b) (.bool b)
  | int (i : Int) : RD H (.int i) (.int i)
  | str (x : Str) : RD H (.str x) (.str x)
  | lst {a : Addr} {xs : List V} {ds : List PyData} (h : H a = some (.lst xs)) (hl : xs.length = ds.length) (hi : ∀ (i : Nat) x d, xs[i]? = some x → ds[i]? = some d → RD H x d) : RD H (.ref a) (.list ds)
  | tup {a : Addr} {xs : List V} {ds : List PyData} (h : H a = some (.tup xs)) (hl : xs.length = ds.length) (hi : ∀ (i : Nat) x d, xs[i]? = some x → ds[i]? = some d → RD H x d) : RD H (.ref a) (.tuple ds)
theorem RD.same {H H' : Hp} {x : V} {d : PyData} (r : RD H x d) (s : Same H H') : RD H' x d := by
  induction r with
  | non => exact .non
  | bl b => exact .bl b
  | int i => exact .int i
  | str x => exact .str x
  | lst h hl _ ih => exact .lst (s _ _ h) hl ih
  | tup h hl _ ih => exact .tup (s _ _ h) hl ih
theorem readsAll {h : Heap} : ∀ {xs : List V} {us : List Value} {ds : List PyData}, Vals xs us → xs.length = ds.length → (∀ (i : Nat) x d, xs[i]? = some x → ds[i]? = some d → ∀ u, RelV x u → ∃ as, Reads h u d as) → ∃ as, ReadsAll h us ds as
  | _, _, [], .nil, _, _ => ⟨_, .nil⟩
  | _, _, _ :: _, .nil, hl, _ => absurd hl (by simp)
  | _, _, [], .cons _ _, hl, _ => absurd hl (by simp)
  | _, _, d :: ds, .cons r rr, hl, hi => by
    obtain ⟨as, h1⟩ := hi 0 _ _ rfl rfl _ r
    obtain ⟨bs, h2⟩ := readsAll rr (by simpa using hl) fun i x d' e1 e2 => hi (i + 1) x d' (by simpa using e1) (by simpa using e2)
    exact ⟨_, .cons h1 h2⟩
theorem RD.reads {X : Cx} {pins : List (Addr × Obj)} {σ : L2.St} {H : Hp} {s : Shared} (I : Inv X pins σ H s) {x : V} {d : PyData} (r : RD H x d) : ∀ u, RelV x u → ∃ as, Reads s.heap u d as := by
  induction r with
  | non => intro u ru; cases ru; exact ⟨_, .none⟩
  | bl b => intro u ru; cases ru; exact ⟨_, .bool b⟩
  | int i => intro u ru; obtain ⟨t, rfl⟩ := ru; exact ⟨_, .int i t⟩
  | str x => intro u ru; obtain ⟨t, rfl⟩ := ru; exact ⟨_, .str x t⟩
  | @lst a xs ds h hl _ ih =>
    intro u ru
    cases (show u = Value.ref a from ru)
    obtain ⟨_, its, n, r, g⟩ := I.hok a _ h
    obtain ⟨as, q⟩ := readsAll r hl ih
    exact ⟨_, .list g rfl rfl q⟩
  | @tup a xs ds h hl _ ih =>
    intro u ru
    cases (show u = Value.ref a from ru)
    obtain ⟨_, its, r, o, g, c, n, e⟩ := I.hok a _ h
    obtain ⟨as, q⟩ := readsAll r hl ih
    exact ⟨_, .tuple g c e q⟩
/-- repr(x) -/
theorem call_repr {X : Cx} (hg : X.A.guards = some []) (hu : X.A.units + 64 < cLine) : CallR X (.builtin "repr") (fun xs H Q => ∃ x d, xs = [x] ∧ RD H x d ∧ d.showable = true ∧ d.hasDict = false ∧ d.depth ≤ 20 ∧ d.shown.length ≤ sizeLine ∧ Q (.str d.shown) H) := by
  intro pins s σ H xs us Q I r h
  obtain ⟨x, d, rfl, rd, sh, hd, dp, hz, q⟩ := h
  obtain ⟨u, rfl, ru⟩ := r.one
  have rr := rd.reads I u ru
  cases rd with
  | non => cases ru; exact P.repr_of_none ⟨.str _, H, I.tok _, ⟨_, rfl⟩, q⟩
  | bl b => cases ru; exact P.repr_of_bool ⟨.str _, H, I.tok _, ⟨_, rfl⟩, q⟩
  | int i => obtain ⟨t, rfl⟩ := ru; exact P.repr_of_int (by simpa [PyData.showable] using sh) ⟨.str _, H, I.tok _, ⟨_, rfl⟩, q⟩
  | str x => obtain ⟨t, rfl⟩ := ru; exact P.repr_of_str ⟨.str _, H, I.tok _, ⟨_, rfl⟩, q⟩ hz
  | @lst a xs ds h hl hi =>
    cases (show u = Value.ref a from ru)
    obtain ⟨as, q1⟩ := rr
    exact repr_of_reads' q1 sh (PyData.noDict_hsm hd) hg (by omega) (fun _ _ e => e) (fun h' u tk hk => ⟨.str _, H, I.kept (t' := tk) hk, ⟨_, rfl⟩, q⟩) hz
  | @tup a xs ds h hl hi =>
    cases (show u = Value.ref a from ru)
    obtain ⟨as, q1⟩ := rr
    exact repr_of_reads' q1 sh (PyData.noDict_hsm hd) hg (by omega) (fun _ _ e => e) (fun h' u tk hk => ⟨.str _, H, I.kept (t' := tk) hk, ⟨_, rfl⟩, q⟩) hz
end Ow
/-! ## == of any thing with a text and with itself; a dict's repr; dict display; list.index -/
namespace Ow
open PySem PySem.Spec PyProof.Rows L2
section
variable {prog : Program} {w : World} {K : Type} [DecidableEq K] {knd : KeyKind prog w K} {A : Around} {E : Value → Shared → Prop} {s : Shared}
theorem dict_eq_body {d : Addr} {kvs : List (K × Value)} {Q : Value → Shared → Prop} (hd : (d == sysModules) = false) (hm : s.heap.DictOf knd d kvs) (h1 : kvs.length ≤ 1)
    (hv : ∀ kv ∈ kvs, SeqAt.EqAt A s kv.2 kv.2 true) (q : Q (.bool true) s) :
    wpAny (model prog w) A (Builtin.«dict.__eq__» ⟨[.ref d, .ref d], []⟩) (fun fin s' => ∃ v, fin = .done (.ret v) ∧ Q v s') E s := by
  obtain ⟨o, es, ep, ho, ed, hda, hk, hp, nd⟩ := id hm
  show wpAny _ _ (isInstance (.ref d) (.type "dict") >>= _) _ _ s
  refine wpAny_bind (wpAny_isInstance (b := true) hm.typeIs (by rw [isSubtype_type]; kernel_rfl) ?_)
  show wpAny _ _ (Builtin.Dict.samePairs _ d d >>= _) _ _ s
  refine wpAny_bind ?_
  unfold Builtin.Dict.samePairs
  have sa : Builtin.Dict.showsAll d = pure () := by unfold Builtin.Dict.showsAll; rw [hd]; rfl
  rw [sa]
  refine wpAny_bind (wpAny_pure (wpAny_bind (wpAny_pure ?_)))
  refine wpAny_bind (wpAny_dictEntries ho hda ?_)
  refine wpAny_bind (wpAny_dictEntries ho hda ?_)
  simp only [bne_self_eq_false, Bool.false_eq_true, if_false]
  refine wpAny_bind (wpAny_dictEpoch ho hda ?_)
  have hen : es.size = kvs.length := by rw [← hp.length, Array.length_toList]
  have vv : ∀ e, e ∈ es → SeqAt.EqAt A s e.val e.val true := by
    intro e he
    obtain ⟨kv, hkv, ev⟩ : ∃ kv ∈ kvs, e.val = kv.2 := by
      clear hv q hm h1 hen nd
      have he' : e ∈ es.toList := he.1
      generalize es.toList = L at hp he'
      induction hp with
      | nil => cases he'
      | cons a1 a2 a3 ih =>
        rcases List.mem_cons.mp he' with rfl | h
        · exact ⟨_, List.mem_cons_self .., a2⟩
        · obtain ⟨kv, m, z⟩ := ih h
          exact ⟨kv, List.mem_cons_of_mem _ m, z⟩
    rw [ev]; exact hv kv hkv
  refine wpAny_bind ?_
  rw [Std.Legacy.Range.forIn_eq_forIn_range']
  refine wpAny_forIn_list _ (fun l (b : Option Bool × Unit) s' => (∀ x ∈ l, x = 0 ∧ 0 < es.size) ∧ b = (none, ()) ∧ s' = s) _ ?_ ?_ _ _ ⟨?_, rfl, rfl⟩
  · rintro x rest b s' ⟨hx, rfl, rfl⟩
    obtain ⟨rfl, hx0⟩ := hx x (List.mem_cons_self ..)
    refine wpAny_bind (wpAny_dictEntries ho hda ?_)
    have e0 : es[0]? = some es[0] := Array.getElem?_eq_getElem hx0
    rw [e0]
    obtain ⟨k', ke, kh⟩ := hk es[0] (Array.getElem_mem hx0)
    refine wpAny_bind (wpAny_holding (wpAny_bind ?_))
    rw [kh]
    refine wpAny_dictFind_of (knd := knd) ke ho hda hk ?_
    have ef : (es.findIdx? fun e => knd.is k' e.key) = some 0 := by
      rw [Array.findIdx?_eq_some_iff_getElem]
      exact ⟨hx0, ke, fun j hj => absurd hj (Nat.not_lt_zero _)⟩
    rw [ef]
    refine wpAny_bind (wpAny_dictEntries ho hda ?_)
    rw [e0]
    refine wpAny_holding (vv _ (Array.getElem_mem hx0) prog w E _ ?_)
    simp only [Bool.not_true, Bool.false_eq_true, if_false]
    refine wpAny_bind (wpAny_dictEpoch ho hda ?_)
    simp only [bne_self_eq_false, Bool.false_eq_true, if_false]
    exact wpAny_pure ⟨fun y hy => hx y (List.mem_cons_of_mem _ hy), rfl, rfl⟩
  · rintro b s' ⟨_, rfl, rfl⟩
    exact wpAny_pure (wpAny_pure ⟨_, rfl, q⟩)
  · intro x hx
    have := List.mem_range'_1.mp hx
    simp only [Std.Legacy.Range.size] at this
    omega
end
section
variable {prog : Program} {w : World} {A : Around} {E : Value → Shared → Prop} {s : Shared}
end
section
variable {X : Cx}
theorem dk_at {pins : List (Addr × Obj)} {σ : L2.St} {H : Hp} {s : Shared} (I : Inv X pins σ H s) {a : Addr} {kvs : List (Key × V)} (e : H a = some (.dK kvs)) : kvs.length ≤ sizeLine ∧ (a == sysModules) = false ∧ ∃ vs, KV kvs vs ∧ s.heap.DictOf (mixKind X.prog X.w) a vs := I.hok a _ e
/-- == of any thing with a text -/
def rEqS : R2 := fun x y H Q => ∃ t, y = .str t ∧ Th H x ∧ Q (.bl (decide (x = .str t))) H
/-- == of a thing with itself -/
def Sm1 (H : Hp) (x : V) : Prop := ∀ a kvs, x = .ref a → H a = some (.dK kvs) → kvs.length ≤ 1
def rEqM : R2 := fun x y H Q => x = y ∧ Th H x ∧ Sm1 H x ∧ Q (.bl true) H
theorem op_eqM (hu : X.A.units < cLine) : OpR X (compareOp .Eq) rEqM := by
  intro pins s σ H x y v u Q I rx ry h
  obtain ⟨rfl, th, sm, q⟩ := h
  cases th with
  | int i => exact op_eq pins s σ H _ _ v u Q I rx ry ⟨rfl, by simpa using q⟩
  | bl i => exact op_eq pins s σ H _ _ v u Q I rx ry ⟨rfl, by simpa using q⟩
  | str i => exact op_eq pins s σ H _ _ v u Q I rx ry ⟨rfl, by simpa using q⟩
  | non => exact op_eq pins s σ H _ _ v u Q I rx ry ⟨rfl, by simpa using q⟩
  | @lst a xs h =>
    cases rx
    cases ry
    obtain ⟨its, r, pl, _⟩ := I.list (SqL.of h)
    refine SeqAt.eq_listAt (e := fun _ => true) pl.isList pl.isList rfl hu (fun j h1 h2 => SeqAt.EqAt.same _) ⟨.bl true, H, I, ?_, q⟩
    show _ = _
    rw [all_true fun _ _ => rfl]
  | @tup a xs h =>
    cases rx
    cases ry
    obtain ⟨its, r, pl, _⟩ := I.tuple (SqT.of h)
    refine SeqAt.eq_tupleAt (e := fun _ => true) pl pl hu (fun j h1 h2 => SeqAt.EqAt.same _) ⟨.bl true, H, I, ?_, q⟩
    show _ = _
    rw [all_true fun _ _ => rfl, beq_self_eq_true]
    rfl
  | @dct a kvs h =>
    cases rx
    cases ry
    obtain ⟨z0, hs, vs, r, dd⟩ := dk_at I h
    have hl : vs.length ≤ 1 := by
      have h1 := sm a kvs rfl h
      have h2 : kvs.length = vs.length := by
        clear h dd h1 sm z0
        unfold KV at r
        induction r with
        | nil => rfl
        | cons _ _ ih => simp [ih]
      omega
    refine wpAny_richCompare_same_room (op := .Eq) (T := "dict") (id := "dict.__eq__") dd.typeIs dd.typeIs F.slot_dict_eq ?_ hu
    refine wpAny_call_entry F.slot_dict_eq dd.typeIs F.entry_dict_eq ?_ (F.args_dict_eq_2 _ _)
    refine dict_eq_body (knd := mixKind X.prog X.w) hs dd hl (fun _ _ => SeqAt.EqAt.same _) ?_
    exact ⟨(fun z => nomatch z), .bl true, H, I, rfl, q⟩
/-- repr of a dict with at most one pair, of flat things -/
def kD : Key → PyData
  | .inl i => .int i
  | .inr x => .str x
theorem keyReads {h : Heap} : ∀ (k : Key) (key : Value), (mixKind X.prog X.w).is k key = true → Reads h key (kD k) [] := by
  intro k key e
  rcases keyIs_shape e with ⟨i, t, rfl, rfl⟩ | ⟨x, t, rfl, rfl⟩
  · exact .int i t
  · exact .str x t
inductive FD : V → PyData → Prop where
  | non : FD .non .none
  | bl (b : Bool) : FD (.bl b) (.bool b)
  | int (i : Int) : FD (.int i) (.int i)
  | str (x : Str) : FD (.str x) (.str x)
theorem FD.reads {h : Heap} {x : V} {d : PyData} {u : Value} (f : FD x d) (r : RelV x u) : Reads h u d [] := by
  cases f with
  | non => cases r; exact .none
  | bl b => cases r; exact .bool b
  | int i => obtain ⟨t, rfl⟩ := r; exact .int i t
  | str i => obtain ⟨t, rfl⟩ := r; exact .str i t
inductive FDs : List (Key × V) → List (PyData × PyData) → Prop where
  | nil : FDs [] []
  | cons {k : Key} {v : V} {d : PyData} {kvs : List (Key × V)} {D : List (PyData × PyData)} : FD v d → FDs kvs D → FDs ((k, v) :: kvs) ((kD k, d) :: D)
theorem FDs.reads {h : Heap} {kvs : List (Key × V)} {D : List (PyData × PyData)} (f : FDs kvs D) : ∀ {vs : List (Key × Value)}, KV kvs vs → PyProof.V.PairsRead h kD vs D [] := by
  induction f with
  | nil => intro vs r; cases r; exact .nil
  | @cons k v d kvs D f _ ih =>
    intro vs r
    cases r with
    | @cons _ b _ bs h1 h2 =>
      obtain ⟨bk, bv⟩ := b
      obtain ⟨e1, e2⟩ := h1
      cases (show k = bk from e1)
      exact .cons (as := []) (bs := []) (f.reads e2) (ih h2)
theorem call_reprD (hg : X.A.guards = some []) (hu : X.A.units + 64 < cLine) : CallR X (.builtin "repr") (fun xs H Q => ∃ x d, xs = [x] ∧ (RD H x d ∧ d.hasDict = false ∨ ∃ a kvs D, x = .ref a ∧ H a = some (.dK kvs) ∧ FDs kvs D ∧ d = .dict D) ∧ d.showable = true ∧ d.depth ≤ 20 ∧ d.shown.length ≤ sizeLine ∧ Q (.str d.shown) H) := by
  intro pins s σ H xs us Q I r h
  obtain ⟨x, d, rfl, rd | ⟨a, kvs, D, rfl, e, f, rfl⟩, sh, dp, hz, q⟩ := h
  · exact call_repr hg hu pins s σ H [x] us Q I r ⟨x, d, rfl, rd.1, sh, rd.2, dp, hz, q⟩
  · obtain ⟨u, rfl, ru⟩ := r.one
    cases (show u = Value.ref a from ru)
    obtain ⟨_, hs, vs, r, dd⟩ := dk_at I e
    have rr := PyProof.V.reads_dictOf (enc := kD) keyReads dd (f.reads r)
    refine repr_of_reads' rr sh (fun _ hm => ?_) hg (by omega) (fun _ _ e => e) (fun h' u tk hk => ⟨.str _, H, I.kept (t' := tk) hk, ⟨_, rfl⟩, q⟩) hz
    cases List.mem_singleton.mp hm
    rw [beq_self_eq_true] at hs
    cases hs
/-- {k: v}, with a text as its key -/
def tDisp1 (tk tv : TE) : TE := fun σ H Q => ∀ p, H p = none → tk σ (upd H p (.dK [])) fun kx H1 => tv σ H1 fun y H2 => ∃ x, kx = .str x ∧ H2 p = some (.dK []) ∧ Q (.ref p) (upd H2 p (.dK [(.inr x, y)]))
theorem pe_disp1 {pos : Pos} {k v : Expr} {tk tv : TE} (hk : PE X k tk) (hv : PE X v tv) : PE X (.Dict [some k] [v] pos) (tDisp1 tk tv) := by
  intro pins s σ H Q I q
  have hn := I.hok.fresh (Nat.le_refl s.heap.objs.size)
  have I1 := I.laid (a := s.heap.objs.size) (o := .dK []) (h' := s.heap.push { cls := .type "dict", data := .dict #[] }) (t' := s.toks) (fun _ _ q => Heap.get?_push_of_some _ q) (Nat.le_refl _) (dk_none s.heap (inv_big I))
  refine wpAny_Dict_walk (knd := mixKind X.prog X.w) rfl rfl nofun (by show 1 ≤ 15; decide) (pairTrees_cons_walk (thn (hk pins _ σ _ _ I1 (q _ hn)) fun u s1 ⟨kx, H1, I2, rk, q1⟩ => thn (hv pins s1 σ H1 _ I2 q1) fun w2 s2 ⟨y, H2, I3, ry, x, ek, e, q2⟩ => pairTrees_nil_walk ?_))
  subst ek
  obtain ⟨t, rfl⟩ := rk
  obtain ⟨z, hd, vs0, r0, dd⟩ := dk_at I3 e
  cases r0
  refine ⟨[(.inr x, w2)], ⟨mixKind_str _ _ x t, rfl, True.intro⟩, dd, fun h' dd' hs => ⟨.ref s.heap.objs.size, _, ?_, rfl, q2⟩⟩
  have he : ∃ q, h'.get? s.heap.objs.size = some q := let ⟨q, _, _, hq, _⟩ := dd'; ⟨q, hq⟩
  exact I3.write (x := s.heap.objs.size) (e := s.heap.objs.size) (by rw [e]; exact True.intro) (.inl rfl) (fun b q hb z => (hs.2 b hb).trans z) he ⟨(by show 1 ≤ sizeLine; decide), hd, [(.inr x, w2)], .cons ⟨rfl, ry⟩ .nil, dd'⟩
/-- list.index of a text -/
def isT (t : Str) : Value → Bool
  | .str y _ => y == t
  | _ => false
end
theorem hu64 {A : Around} {k : Nat} (hr : Room k A) : A.units + 64 < cLine := by have := hr.un; omega
/-! the guide's rule for a list of arguments asks rfl to see that no item is starred; in a long display that takes minutes -/
def noStar : Expr → Bool
  | .Starred _ _ => false
  | _ => true
theorem star_cons {e : Expr} (h : noStar e = true) (rest : List Expr) (env : Env) : starEach (e :: rest) env = (false, eval e env) :: starEach rest env := by
  cases e <;> first | rfl | cases h
theorem pa_consN {X : Cx} {e : Expr} {es : List Expr} {te : TE} {t : TA} (ha : PE X e te) (hr : PA X es t) (hn : noStar e = true := by rfl) : PA X (e :: es) (tCons te t) := pa_cons ha hr (star_cons hn es X.env)
/-! a rule's goal unfolds into the run of the text; where that is long (a display of many things), the elaborator must not see through it -/
structure Sl (p : Prop) : Prop where
  out : p
section
variable {X : Cx}
theorem pss_consS {rest : List Stmt} {st : Stmt} {t u : TS} (h1 : Sl (PS X st t)) (h2 : PSs X rest u) : Sl (PSs X (st :: rest) (tSeq t u)) := ⟨pss_cons h1.out h2⟩
theorem ps_setS {i : Nat} {x : Str} {e : Expr} {te : TE} {pos pos' : Pos} (hN : X.N.Nodup) (hi : X.N[i]? = some x) (hx : Loc X.env.scope x) (he : Sl (PE X e te)) (hs : swapsWith e (some (.Name x pos')) pos.line X.env = pure false := by rfl) (hf : X.fn x = true ∨ X.env.scope.names.lookup x = some .local := by first | exact .inl rfl | exact .inr rfl | assumption) :
    Sl (PS X (.Assign [.Name x pos'] e pos) (tAsg te (gName i))) := ⟨ps_set hN hi hx he.out hs hf⟩
theorem pe_lstS {es : List Expr} {t : TA} {pos : Pos} (h : Sl (PA X es t)) : Sl (PE X (.List es pos) (tLst t)) := ⟨pe_lst h.out⟩
theorem pa_consS {e : Expr} {es : List Expr} {te : TE} {t : TA} (ha : PE X e te) (hr : Sl (PA X es t)) (hn : noStar e = true := by rfl) : Sl (PA X (e :: es) (tCons te t)) := ⟨pa_consN ha hr.out hn⟩
theorem pa_nilS : Sl (PA X [] tNil) := ⟨pa_nil⟩
end
end Ow
namespace L2
open PySem PySem.Spec PyProof.Rows

/-! ### lists of pairs as tables -/
section
variable {κ : Type} [DecidableEq κ]
def valV (kvs : List (κ × V)) (k : κ) : Option V := (kvs.find? fun kv => decide (kv.1 = k)).map (·.2)
/-- in its place, or at the end -/
def putK (kvs : List (κ × V)) (k : κ) (v : V) : List (κ × V) :=
  if (kvs.any fun kv => decide (kv.1 = k)) = true then kvs.map (fun kv => if kv.1 = k then (kv.1, v) else kv) else kvs ++ [(k, v)]
def dropK (kvs : List (κ × V)) (k : κ) : List (κ × V) := kvs.filter fun kv => decide (kv.1 ≠ k)

theorem valV_pos {p : κ × V} {r : List (κ × V)} {k : κ} (e : p.1 = k) : valV (p :: r) k = some p.2 := by simp [valV, List.find?_cons, e]
theorem valV_neg {p : κ × V} {r : List (κ × V)} {k : κ} (e : ¬ p.1 = k) : valV (p :: r) k = valV r k := by simp [valV, List.find?_cons, e]
theorem valV_any (k : κ) : ∀ kvs : List (κ × V), (kvs.any fun kv => decide (kv.1 = k)) = (valV kvs k).isSome
  | [] => rfl
  | p :: r => by
    rw [List.any_cons]
    by_cases e : p.1 = k
    · simp only [valV_pos e, decide_eq_true e, Bool.true_or, Option.isSome_some]
    · rw [valV_neg e, decide_eq_false e, Bool.false_or]; exact valV_any k r
theorem RelO.isSome_eq {o : Option V} {u : Option Value} (r : RelO o u) : o.isSome = u.isSome := by
  cases o with
  | none => cases u with
    | none => rfl
    | some _ => exact (show False from r).elim
  | some _ => cases u with
    | none => exact (show False from r).elim
    | some _ => rfl
theorem RelO.getD {o : Option V} {u : Option Value} {d : V} {d' : Value} (r : RelO o u) (rd : RelV d d') : RelV (o.getD d) (u.getD d') := by
  cases o with
  | none => cases u with
    | none => exact rd
    | some _ => exact (show False from r).elim
  | some _ => cases u with
    | none => exact (show False from r).elim
    | some _ => exact r

/-- raw tables of the same keys -/
theorem KV.val {kvs : List (κ × V)} {vs : List (κ × Value)} (r : KV kvs vs) (k : κ) : RelO (valV kvs k) (valueAt vs k) := by
  unfold KV at r
  induction r with
  | nil => exact True.intro
  | @cons p q ps qs h t ih =>
    obtain ⟨h1, h2⟩ := h
    by_cases e : p.1 = k
    · have e' : q.1 = k := h1.symm.trans e
      have b : valueAt (q :: qs) k = some q.2 := by simp [valueAt, List.find?_cons, e']
      rw [valV_pos e, b]; exact h2
    · have e' : ¬ q.1 = k := fun z => e (h1.trans z)
      have b : valueAt (q :: qs) k = valueAt qs k := by simp [valueAt, List.find?_cons, e']
      rw [valV_neg e, b]; exact ih
theorem KV.any {kvs : List (κ × V)} {vs : List (κ × Value)} (r : KV kvs vs) (k : κ) : (kvs.any fun kv => decide (kv.1 = k)) = vs.any fun kv => decide (kv.1 = k) := by
  unfold KV at r
  induction r with
  | nil => rfl
  | cons h t ih => rw [List.any_cons, List.any_cons, ih, h.1]
theorem KV.repl {kvs : List (κ × V)} {vs : List (κ × Value)} (r : KV kvs vs) (k : κ) {y : V} {u : Value} (ry : RelV y u) :
    KV (kvs.map fun kv => if kv.1 = k then (kv.1, y) else kv) (vs.map fun kv => if kv.1 = k then (kv.1, u) else kv) := by
  unfold KV at r ⊢
  induction r with
  | nil => exact .nil
  | @cons p q ps qs h t ih =>
    rw [List.map_cons, List.map_cons]
    refine .cons ?_ ih
    obtain ⟨h1, h2⟩ := h
    by_cases e : p.1 = k
    · rw [if_pos e, if_pos (h1.symm.trans e)]; exact ⟨h1, ry⟩
    · rw [if_neg e, if_neg (fun z => e (h1.trans z))]; exact ⟨h1, h2⟩
theorem KV.put {kvs : List (κ × V)} {vs : List (κ × Value)} (r : KV kvs vs) (k : κ) {y : V} {u : Value} (ry : RelV y u) : KV (putK kvs k y) (stored vs k u) := by
  unfold putK stored
  rw [r.any k]
  by_cases e : (vs.any fun kv => decide (kv.1 = k)) = true
  · rw [if_pos e, if_pos e]; exact r.repl k ry
  · rw [if_neg e, if_neg e]; exact Paired.snoc r ⟨rfl, ry⟩
theorem KV.drop {kvs : List (κ × V)} {vs : List (κ × Value)} (r : KV kvs vs) (k : κ) : KV (dropK kvs k) (without vs k) := by
  unfold KV at r ⊢
  unfold dropK without
  induction r with
  | nil => exact .nil
  | @cons p q ps qs h t ih =>
    obtain ⟨h1, h2⟩ := h
    rw [List.filter_cons, List.filter_cons]
    by_cases e : p.1 = k
    · have a : ¬ decide (p.1 ≠ k) = true := by simp [e]
      have b : ¬ decide (q.1 ≠ k) = true := by simp [h1.symm.trans e]
      rw [if_neg a, if_neg b]; exact ih
    · have e' : ¬ q.1 = k := fun z => e (h1.trans z)
      have a : decide (p.1 ≠ k) = true := by simp [e]
      have b : decide (q.1 ≠ k) = true := by simp [e']
      rw [if_pos a, if_pos b]; exact .cons ⟨h1, h2⟩ ih
theorem KV.keys {kvs : List (κ × V)} {vs : List (κ × Value)} (r : KV kvs vs) : kvs.map (·.1) = vs.map (·.1) := by
  unfold KV at r
  induction r with
  | nil => rfl
  | cons h t ih => rw [List.map_cons, List.map_cons, ih, h.1]
theorem KV.length {kvs : List (κ × V)} {vs : List (κ × Value)} (r : KV kvs vs) : kvs.length = vs.length := Paired.length r
end


/-! ### a tracked dict, its keys ints and texts or tuples of these -/
/-- raw entries of a dict with tuple keys -/
abbrev KT (H : Hp) : List (List Key × V) → List (List Key × Addr × Value) → Prop := Paired fun p q => p.1 = q.1 ∧ H q.2.1 = some (.tup (p.1.map kV)) ∧ RelV p.2 q.2.2
theorem KT.val {H : Hp} {kvs : List (List Key × V)} {xs : List (List Key × Addr × Value)} (r : KT H kvs xs) (k : List Key) : RelO (valV kvs k) ((atKey xs k).map (·.2)) := by
  induction r with
  | nil => exact True.intro
  | @cons p q ps qs h t ih =>
    obtain ⟨h1, _, h2⟩ := h
    by_cases e : p.1 = k
    · have e' : q.1 = k := h1.symm.trans e
      have b : atKey (q :: qs) k = some q.2 := by simp [atKey, List.find?_cons, e']
      rw [valV_pos e, b]; exact h2
    · have e' : ¬ q.1 = k := fun z => e (h1.trans z)
      have b : atKey (q :: qs) k = atKey qs k := by simp [atKey, List.find?_cons, e']
      rw [valV_neg e, b]; exact ih
theorem KT.repl {H : Hp} {kvs : List (List Key × V)} {xs : List (List Key × Addr × Value)} (r : KT H kvs xs) (k : List Key) {y : V} {u : Value} (ry : RelV y u) :
    KT H (kvs.map fun kv => if kv.1 = k then (kv.1, y) else kv) (xs.map (putAt k u)) := by
  induction r with
  | nil => exact .nil
  | @cons p q ps qs h t ih =>
    rw [List.map_cons, List.map_cons]
    refine .cons ?_ ih
    obtain ⟨h1, h2, h3⟩ := h
    unfold putAt
    by_cases e : p.1 = k
    · rw [if_pos e, if_pos (h1.symm.trans e)]; exact ⟨h1, h2, ry⟩
    · rw [if_neg e, if_neg (fun z => e (h1.trans z))]; exact ⟨h1, h2, h3⟩
theorem KT.put {H : Hp} {kvs : List (List Key × V)} {xs : List (List Key × Addr × Value)} (r : KT H kvs xs) (k : List Key) {b : Addr} {y : V} {u : Value} (hb : H b = some (.tup (k.map kV))) (ry : RelV y u) :
    KT H (putK kvs k y) (storedH xs k b u) := by
  have e : (kvs.any fun kv => decide (kv.1 = k)) = (atKey xs k).isSome := by
    rw [valV_any, (r.val k).isSome_eq, Option.isSome_map]
  unfold putK storedH
  rw [e]
  by_cases q : (atKey xs k).isSome = true
  · rw [if_pos q, if_pos q]; exact r.repl k ry
  · rw [if_neg q, if_neg q]; exact Paired.snoc r ⟨rfl, hb, ry⟩
theorem KT.keeps {H H' : Hp} {kvs : List (List Key × V)} {xs : List (List Key × Addr × Value)} (r : KT H kvs xs) (ht : ∀ b ys, H b = some (.tup ys) → H' b = some (.tup ys)) : KT H' kvs xs :=
  Paired.mapP r fun _ _ z => ⟨z.1, ht _ _ z.2.1, z.2.2⟩

section
variable {P : Program} {w : World} {H : Hp} {h : Heap} {a : Addr}
end

/-- what the dict at a holds at the key y -/
def DGet (H : Hp) (a : Addr) (y : V) (r : Option V) : Prop :=
  (∃ kvs k, Rd H a (.dK kvs) ∧ y = kV k ∧ r = valV kvs k) ∨ ∃ kvs k b, Rd H a (.dT kvs) ∧ y = .ref b ∧ H b = some (.tup (k.map kV)) ∧ r = valV kvs k
/-- the heap behind a[y] = v -/
def DPut (H : Hp) (a : Addr) (y v : V) (H' : Hp) : Prop :=
  (∃ kvs k, H a = some (.dK kvs) ∧ y = kV k ∧ kvs.length < sizeLine ∧ H' = upd H a (.dK (putK kvs k v))) ∨
  ∃ kvs k b, H a = some (.dT kvs) ∧ y = .ref b ∧ H b = some (.tup (k.map kV)) ∧ kvs.length < sizeLine ∧ H' = upd H a (.dT (putK kvs k v))
theorem DGet.k {H : Hp} {a : Addr} {kvs : List (Key × V)} {k : Key} (e : H a = some (.dK kvs)) : DGet H a (kV k) (valV kvs k) := .inl ⟨kvs, k, .inl e, rfl, rfl⟩
theorem DGet.t {H : Hp} {a b : Addr} {kvs : List (List Key × V)} {k : List Key} (e : H a = some (.dT kvs)) (eb : H b = some (.tup (k.map kV))) : DGet H a (.ref b) (valV kvs k) := .inr ⟨kvs, k, b, .inl e, rfl, eb, rfl⟩
theorem DPut.k {H : Hp} {a : Addr} {kvs : List (Key × V)} {k : Key} {v : V} (e : H a = some (.dK kvs)) (hl : kvs.length < sizeLine) : DPut H a (kV k) v (upd H a (.dK (putK kvs k v))) := .inl ⟨kvs, k, e, rfl, hl, rfl⟩
theorem DPut.t {H : Hp} {a b : Addr} {kvs : List (List Key × V)} {k : List Key} {v : V} (e : H a = some (.dT kvs)) (eb : H b = some (.tup (k.map kV))) (hl : kvs.length < sizeLine) :
    DPut H a (.ref b) v (upd H a (.dT (putK kvs k v))) := .inr ⟨kvs, k, b, e, rfl, eb, hl, rfl⟩


section
variable {X : Cx} {pins : List (Addr × Obj)} {σ : St} {H : Hp} {s : Shared} {a : Addr} {y v : V} {u r : Value} {o : Option V} {A : Around} {E : Value → Shared → Prop}

theorem Inv.big (I : Inv X pins σ H s) : sysModules < s.heap.objs.size := by
  have h : mainGlobals < s.heap.objs.size := (I.mod.glob.keeps I.bk).lt
  exact Nat.lt_trans (by decide) h

end

section
variable {X : Cx} {pins : List (Addr × Obj)} {σ : St} {H : Hp} {s : Shared} {a : Addr} {kvs : List (Key × V)} {k : Key} {u : Value} {A : Around} {E : Value → Shared → Prop}
end


/-! ### readings and rules -/
/-- the element of a subscription, not a slice -/
def NoSl (i : Expr) : Prop := ∀ ov iv, subscripted i false ov iv = operate [ov, iv] (getItem ov iv)
/-- d[y] -/
def tDGet (td ty : TE) : TE := fun σ H Q => td σ H fun x H1 => ty σ H1 fun y H2 => ∃ a v, x = .ref a ∧ DGet H2 a y (some v) ∧ Q v H2
/-- y in d, y not in d -/
def tDIn (ty td : TE) : TE := fun σ H Q => ty σ H fun y H1 => td σ H1 fun x H2 => ∃ a o, x = .ref a ∧ DGet H2 a y o ∧ Q (.bl o.isSome) H2
def tDNotIn (ty td : TE) : TE := fun σ H Q => ty σ H fun y H1 => td σ H1 fun x H2 => ∃ a o, x = .ref a ∧ DGet H2 a y o ∧ Q (.bl (!o.isSome)) H2
/-- d[y] = v -/
def sDPut (td ty tv : TE) : TS := fun D σ H => tv σ H fun v H1 => td σ H1 fun x H2 => ty σ H2 fun y H3 => ∃ a H4, x = .ref a ∧ DPut H3 a y v H4 ∧ D.nx σ H4
/-- d[y] op= v -/
def sDAug (td ty tv : TE) (rd : V → V → Hp → VK → Prop) : TS := fun D σ H => td σ H fun x H1 => ty σ H1 fun y H2 => ∃ a v, x = .ref a ∧ DGet H2 a y (some v) ∧
  tv σ H2 fun y2 H3 => rd v y2 H3 fun z H4 => ∃ H5, DPut H4 a y z H5 ∧ D.nx σ H5
/-- del d[y] -/
def sDDel (td ty : TE) : TS := fun D σ H => td σ H fun x H1 => ty σ H1 fun y H2 => ∃ a kvs k, x = .ref a ∧ H2 a = some (.dK kvs) ∧ y = kV k ∧ (valV kvs k).isSome = true ∧ D.nx σ (upd H2 a (.dK (dropK kvs k)))

section
variable {X : Cx} {o i e value : Expr} {pos pos' tpos : Pos} {td ty tv : TE}
end


/-! ### displays -/
theorem dk_empty {P : Program} {w : World} {H : Hp} (h : Heap) (hb : sysModules < h.objs.size) : ObjOk P w H (h.push { cls := .type "dict", data := .dict #[] }) h.objs.size (.dK []) :=
  ⟨Nat.zero_le _, beq_eq_false_iff_ne.mpr (Ne.symm (Nat.ne_of_lt hb)), [], .nil, Heap.DictOf.new h⟩
/-- {}, to be a dict of the kind that is wanted -/
def tDNewK : TE := fun _ H Q => ∀ p, H p = none → Q (.ref p) (upd H p (.dK []))
def tDNewT : TE := fun _ H Q => ∀ p, H p = none → Q (.ref p) (upd H p (.dT []))
section
variable {X : Cx} {pos : Pos}
theorem pe_dnewK : PE X (.Dict [] [] pos) tDNewK := fun pins s σ H Q I h =>
  wpAny_Dict_empty ⟨.ref s.heap.objs.size, _, I.laid (a := s.heap.objs.size) (o := .dK []) (t' := s.toks) (fun _ _ q => Heap.get?_push_of_some _ q) (Nat.le_refl _) (dk_empty s.heap I.big), rfl, h _ (I.hok.fresh (Nat.le_refl _))⟩
end

/-- the pairs of a display, from the left -/
def tPairs : List (TE × TE) → St → Hp → (List (V × V) → Hp → Prop) → Prop
  | [], _, H, Q => Q [] H
  | (tk, tv) :: r, σ, H, Q => tk σ H fun x H1 => tv σ H1 fun y H2 => tPairs r σ H2 fun ps H3 => Q ((x, y) :: ps) H3
abbrev VV : List (V × V) → List (Value × Value) → Prop := Paired fun p q => RelV p.1 q.1 ∧ RelV p.2 q.2
def PPs (X : Cx) (pos : Pos) (keys : List (Option Expr)) (values : List Expr) (trs : List (TE × TE)) : Prop :=
  ∀ (pins : List (Addr × Obj)) (s : Shared) (σ : St) (H : Hp) (Q : List (V × V) → Hp → Prop), Inv X pins σ H s → tPairs trs σ H Q →
    wpAny (model X.prog X.w) X.A (evalPairs (pairTrees keys values X.env pos)) (fun vs s' => ∃ ps H', Inv X pins σ H' s' ∧ VV ps vs ∧ Q ps H') X.xe s
def mergeK (kvs more : List (Key × V)) : List (Key × V) := more.foldl (fun acc kv => putK acc kv.1 kv.2) kvs
/-- {k: v, ..} with keys ints and texts; the new dict stands empty while the pairs are made -/
def tDisp (trs : List (TE × TE)) : TE := fun σ H Q => ∀ p, H p = none → tPairs trs σ (upd H p (.dK [])) fun ps H2 => H2 p = some (.dK []) ∧ ∃ kvs : List (Key × V), ps = kvs.map (fun kv => (kV kv.1, kv.2)) ∧ kvs.length ≤ 15 ∧ Q (.ref p) (upd H2 p (.dK (mergeK [] kvs)))
/-! ### methods -/
/-- a method call o.m(e) of a built-in, with one argument: what must be seen of the text -/
structure M1 (X : Cx) (o : Expr) (m : Str) (apos : Pos) (e : Expr) (cpos : Pos) : Prop where
  base : attributeBase o m X.env (eval o X.env) = eval o X.env
  few : ((backTo cpos (starEach [e] X.env)).all (fun x => !x.1) && (backToKw cpos (keywordEach [] X.env)).all (fun x => x.1.isSome)
    && decide (([e] : List Expr).length + ([] : List Keyword).length + (if ([] : List Keyword).isEmpty then 0 else 1) < 30)) = true
  line : (apos.endLine == cpos.line) = true
  trees : backTo cpos (starEach [e] X.env) = [(false, eval e X.env)]
structure M2 (X : Cx) (o : Expr) (m : Str) (apos : Pos) (e f : Expr) (cpos : Pos) : Prop where
  base : attributeBase o m X.env (eval o X.env) = eval o X.env
  few : ((backTo cpos (starEach [e, f] X.env)).all (fun x => !x.1) && (backToKw cpos (keywordEach [] X.env)).all (fun x => x.1.isSome)
    && decide (([e, f] : List Expr).length + ([] : List Keyword).length + (if ([] : List Keyword).isEmpty then 0 else 1) < 30)) = true
  line : (apos.endLine == cpos.line) = true
  trees : backTo cpos (starEach [e, f] X.env) = [(false, eval e X.env), (false, eval f X.env)]

/-- a is a dict, whatever its keys -/
def IsD (H : Hp) (a : Addr) : Prop := (∃ kvs, Rd H a (.dK kvs)) ∨ ∃ kvs, Rd H a (.dT kvs)
section
variable {X : Cx} {pins : List (Addr × Obj)} {σ : St} {H : Hp} {s : Shared} {a : Addr} {y d : V} {u r : Value} {o : Option V} {A : Around} {E : Value → Shared → Prop}
end

def tDGet1 (td ty : TE) : TE := fun σ H Q => td σ H fun x H1 => ∃ a, x = .ref a ∧ IsD H1 a ∧ ty σ H1 fun y H2 => ∃ o, DGet H2 a y o ∧ Q (o.getD .non) H2
def tDGet2 (td ty tx : TE) : TE := fun σ H Q => td σ H fun x H1 => ∃ a, x = .ref a ∧ IsD H1 a ∧ ty σ H1 fun y H2 => tx σ H2 fun z H3 => ∃ o, DGet H3 a y o ∧ Q (o.getD z) H3
/-- d.pop(k): there; d.pop(k, x): there or not -/
def tDPop1 (td ty : TE) : TE := fun σ H Q => td σ H fun x H1 => ∃ a, x = .ref a ∧ IsD H1 a ∧ ty σ H1 fun y H2 => ∃ kvs k v, H2 a = some (.dK kvs) ∧ y = kV k ∧ valV kvs k = some v ∧ Q v (upd H2 a (.dK (dropK kvs k)))
def tDPop2 (td ty tx : TE) : TE := fun σ H Q => td σ H fun x H1 => ∃ a, x = .ref a ∧ IsD H1 a ∧ ty σ H1 fun y H2 => tx σ H2 fun z H3 => ∃ kvs k, H3 a = some (.dK kvs) ∧ y = kV k ∧
  (∀ v, valV kvs k = some v → Q v (upd H3 a (.dK (dropK kvs k)))) ∧ (valV kvs k = none → Q z H3)
section
variable {X : Cx} {o e f : Expr} {apos cpos : Pos} {td ty tx : TE}
end

/-! ### dict(d): a copy -/
section
variable {X : Cx} {pins : List (Addr × Obj)} {σ : St} {H : Hp} {s : Shared} {a : Addr} {kvs : List (Key × V)} {A : Around} {E : Value → Shared → Prop}
end


section
variable {X : Cx} {pins : List (Addr × Obj)} {σ : St} {H : Hp} {s : Shared} {a : Addr} {y : V} {u : Value} {A : Around} {E : Value → Shared → Prop}
end
end L2
namespace L2
open PySem PySem.Spec PyProof.Rows
/-! ### a dict's pairs: keys that differ -/
section
variable {κ : Type} [DecidableEq κ]
end
end L2
/-! ## dicts walked; sum, split, str -/
namespace Ow
open PySem PySem.Spec PyProof.Rows L2
section
variable {X : Cx} {pins : List (Addr × Obj)} {σ : L2.St} {H : Hp} {s : Shared}
end
/-- the keys of the dict at a -/
def Itk (a : Addr) (o : Obj) (kvs : List (Key × V)) : It :=
  ⟨fun i H => H a = some (.frz o (.dK kvs)) ∧ i < kvs.length, fun i H x H' => H' = H ∧ ∃ kv, kvs[i]? = some kv ∧ x = kV kv.1, fun i H => H a = some (.frz o (.dK kvs)) ∧ i = kvs.length⟩
section
variable {X : Cx} {tg : Expr}
def iDict (tl : TE) : TI := fun σ H R => tl σ H fun x H1 => ∃ a kvs, x = .ref a ∧ H1 a = some (.dK kvs) ∧ ∀ o, R (Itk a o kvs) (upd H1 a (.frz o (.dK kvs)))
/-- behind a walk the dict may change again -/
def tThaw (H₀ : Hp) (te : TE) : TE := fun σ H Q => te σ H fun v H1 => ∃ a o kvs, H1 a = some (.frz o (.dK kvs)) ∧ (∀ o u, H₀ a ≠ some (.frz o u)) ∧ Q v (upd H1 a (.dK kvs))
def sThaw (H₀ : Hp) (ts : TS) : TS := fun D σ H => ts { D with nx := fun σ' H1 => ∃ a o kvs, H1 a = some (.frz o (.dK kvs)) ∧ (∀ o u, H₀ a ≠ some (.frz o u)) ∧ D.nx σ' (upd H1 a (.dK kvs)) } σ H
end
theorem FDs.flat {kvs : List (Key × V)} {D : List (PyData × PyData)} (f : FDs kvs D) : ∀ {vs : List (Key × Value)}, KV kvs vs → PyProof.V.FlatPairs kD vs D := by
  induction f with
  | nil => intro vs r; cases r; exact .nil
  | cons a _ ih =>
    intro vs r
    cases r with
    | cons h1 h2 =>
      rename_i y ys
      obtain ⟨k', u⟩ := y
      obtain ⟨e, ru⟩ := h1
      cases (show _ = k' from e)
      exact .cons (fun h => a.reads ru) (ih h2)
theorem FDs.len {kvs : List (Key × V)} {D : List (PyData × PyData)} (f : FDs kvs D) : D.length = kvs.length := by
  induction f with
  | nil => rfl
  | cons _ _ ih => rw [List.length_cons, List.length_cons, ih]
/-! ### a dict of the module: texts to things of the module -/
structure GD (K : PySem.W.Frag) (P : Program) (w : World) (a : Addr) (vs : List (Key × Value)) : Prop where
  ex : ∃ o es ep, K.lookup a = some o ∧ o.ExactDict ∧ o.data = .dict es ep ∧ PySem.KeysOf (mixKind P w) es ∧ Pairs (mixKind P w) es.toList vs ∧ (vs.map (·.1)).Nodup
def gEnt (p : Params) (x : Str × Tok × Addr) : DictEntry := ⟨PyData.keyHash p x.1, .str x.1 x.2.1, .ref x.2.2⟩
def gVal (x : Str × Tok × Addr) : Key × Value := (.inr x.1, .ref x.2.2)
def tGD (a : Addr) (vs : List (Key × Value)) (tO ti : TE) : TE := fun σ H Q => tO σ H fun x H1 => ti σ H1 fun y H2 => ∃ k b, x = .ref a ∧ y = .str k ∧ valueAt vs (.inr k) = some (.ref b) ∧ Q (.ref b) H2
/-! ### sealed displays of dicts -/
section
variable {X : Cx}
end
/-- out of the seal -/
theorem slO {p : Prop} (h : Sl p) : p := h.out
end Ow
/-! ## defs that are called, and exceptions that are raised, while another exception is being handled -/
namespace Ow
open PySem PySem.Spec PyProof.Rows L2
end Ow
namespace Ow
open PySem PySem.Spec PyProof.Rows L2
def calmA (A : Around) : Around := { A with handled := none }
/-- is no exception being handled -/
def hn (A : Around) : Bool := A.handled.isNone
theorem hn_none {A : Around} (h : A.handled = none) : hn A = true := by
  unfold hn
  rw [h]
  rfl
theorem room_calm {k : Nat} {A : Around} (r : Room k A) : Room k (calmA A) := ⟨rfl, r.dp, r.un, r.gd⟩
/-- the exception that is being handled, if one is: it lies there, with nothing behind it -/
def HdOk (A : Around) (h : Heap) (H : Hp) (fs : List Addr) : Prop := A.handled = none ∨ ∃ (a : Addr) (o : Obj), A.handled = some (.ref a) ∧ h.get? a = some o ∧ Ctx0 o ∧ H a = none ∧ a ∉ fs
/-- a def that keeps its promise also while an exception is being handled; r: it may raise -/
structure FnOkR (P : Program) (w : World) (K : PySem.W.Frag) (mg : Str → Option Value) (base : Heap) (CX : Bool → CXT) (r : Bool) (k : Nat) (f : Addr) (fd : FuncData) (ps : List Str) (sp : Sp) : Prop where
  len : ∀ vs H Q E, sp vs H Q E → vs.length = ps.length
  run : ∀ (A : Around) (outer : List Env) (s : Shared) (H : Hp) (args : Args) (us : List Value) (vs : List V) (Q : VK) (E : XK), Room k (calmA A) → (r = true → HdOk A s.heap H (frs outer)) → Env0 P w K mg base A outer s H → BindsTo s fd args (ps.zip us) → Vals vs us → sp vs H Q E →
    codeAny (model P w) A (.call (.ref f) args) (CR (CX (hn A)) outer P w H s Q E) s
theorem FnOkR.mono {P : Program} {w : World} {K : PySem.W.Frag} {mg : Str → Option Value} {base : Heap} {CX : Bool → CXT} {r : Bool} {j k : Nat} {f : Addr} {fd : FuncData} {ps : List Str} {sp : Sp} (F : FnOkR P w K mg base CX r j f fd ps sp) (h : j ≤ k) :
    FnOkR P w K mg base CX r k f fd ps sp := ⟨F.len, fun A outer s H args us vs Q E hr => F.run A outer s H args us vs Q E (hr.mono h)⟩
/-- where no exception is being handled it is a def like any other -/
theorem FnOkR.ok {P : Program} {w : World} {K : PySem.W.Frag} {mg : Str → Option Value} {base : Heap} {CX : Bool → CXT} {r : Bool} {k : Nat} {f : Addr} {fd : FuncData} {ps : List Str} {sp : Sp} (F : FnOkR P w K mg base CX r k f fd ps sp) : FnOk P w K mg base (CX true) k f fd ps sp :=
  ⟨F.len, fun A outer s H args us vs Q E hr e0 hb rv h => by
    have z := F.run A outer s H args us vs Q E (room_calm hr) (fun _ => .inl hr.hd) e0 hb rv h
    rw [hn_none hr.hd] at z
    exact z⟩
/-- the context of such a def's body -/
def cxR (CX : Bool → CXT) (P : Program) (w : World) (K : PySem.W.Frag) (mg : Str → Option Value) (base : Heap) (N : List Str) (qual : Str) (scope : Scope) (f : Addr) (cd : Value) (A : Around) (outer : List Env) (s : Shared) (H : Hp) (E : XK) : Cx :=
  { cxOf (CX (hn A)) P w K mg base N qual scope f cd A outer s H E with calm := false }
theorem inv_startR {CX : Bool → CXT} {P : Program} {w : World} {K : PySem.W.Frag} {mg : Str → Option Value} {base : Heap} {N ps : List Str} {qual : Str} {scope : Scope} {f : Addr} {cd : Value} {A : Around} {outer : List Env} {s s1 : Shared} {H : Hp} {E : XK} {us : List Value} {vs : List V}
    (S : FnScope N ps scope) (e0 : Env0 P w K mg base A outer s H) (hl : vs.length = ps.length) (r : Vals vs us)
    (x : InCallC s s.heap.objs.size (bindL (envOfC qual scope s.heap.objs.size f cd).kindOf (ps.zip us) fun _ => none) (cellsFrom (s.heap.objs.size + 1) scope.names []) (bindC (envOfC qual scope s.heap.objs.size f cd).kindOf (ps.zip us) fun _ => none) s1) :
    Inv (cxR CX P w K mg base N qual scope f cd A outer s H E) [] (start N vs) H s1 := by
  have I : Inv (cxOf (CX (hn A)) P w K mg base N qual scope f cd (calmA A) outer s H E) [] (start N vs) H s1 := inv_start S rfl ⟨e0.frames, e0.mod, e0.bs, e0.bsz, e0.funs, e0.frf, e0.hok, e0.bare⟩ hl r x
  exact ⟨⟨I.ok.mod, I.ok.kind, I.ok.glob, I.ok.blt, I.ok.above, I.ok.inj, I.ok.has, I.ok.cab, (fun z => nomatch z), I.ok.frames, I.ok.stk, I.ok.exf, I.ok.bs, I.ok.bsz, I.ok.noex, I.ok.exfs, I.ok.funs, I.ok.frf⟩,
    I.os, I.bare, I.base, I.loc, I.cell, I.free, I.freeC, I.pin, I.hok, I.len⟩
/-- in every state of this context the exception that is being handled lies there -/
def HdX (X : Cx) : Prop := ∀ (pins : List (Addr × Obj)) (σ : L2.St) (H : Hp) (s : Shared), Inv X pins σ H s → HdOk X.A s.heap H (frs X.stack)
section
variable {P : Program} {w : World} {K : PySem.W.Frag} {mg : Str → Option Value} {base : Heap}
end
/-- what a callee raises, this context wants: the wish may lean on the names' values -/
def PassAt (CX : CXT) (X : Cx) (E : L2.St → XK) : Prop := ∀ (pins : List (Addr × Obj)) (σ : L2.St) (H : Hp) (s : Shared) (e : Value) (s' : Shared), Inv X pins σ H s → CX X.stack H s (E σ) e s' → X.xe e s'
structure HasR (P : Program) (w : World) (K : PySem.W.Frag) (mg : Str → Option Value) (base : Heap) (CX : Bool → CXT) (r : Bool) (k : Nat) (x : Str) (ps : List Str) (sp : Sp) : Prop where
  ex : ∃ (f : Addr) (fd : FuncData), FnOkR P w K mg base CX r k f fd ps sp ∧ Binds K fd ps [] ∧ PySem.W.keepIn K (.ref f) = true ∧ mg x = some (.ref f)
structure MHasR (P : Program) (w : World) (K : PySem.W.Frag) (mg : Str → Option Value) (base : Heap) (CX : Bool → CXT) (r : Bool) (k : Nat) (C : Addr) (m : Str) (ps : List Str) (sp : Sp) : Prop where
  cl : Cls K C
  ex : ∃ (f : Addr) (fd : FuncData), Meth K C m f ∧ FnOkR P w K mg base CX r k f fd ps sp ∧ Binds K fd ps []
structure CHasR (P : Program) (w : World) (K : PySem.W.Frag) (mg : Str → Option Value) (base : Heap) (CX : Bool → CXT) (r : Bool) (k : Nat) (C : Addr) (x : Str) (ps : List Str) (sp : Sp) : Prop where
  ex : ∃ (f : Addr) (fd : FuncData), Mk K C f ∧ FnOkR P w K mg base CX r k f fd ps sp ∧ Binds K fd ps [] ∧ mg x = some (.ref C)
theorem HasR.has {P : Program} {w : World} {K : PySem.W.Frag} {mg : Str → Option Value} {base : Heap} {r : Bool} {k : Nat} {x : Str} {ps : List Str} {sp : Sp} (h : HasR P w K mg base (fun _ => CX0) r k x ps sp) : Has P w K mg base k x ps sp := by
  obtain ⟨f, fd, F, b, c, d⟩ := h.ex
  exact ⟨f, fd, F.ok, b, c, d⟩
theorem MHasR.has {P : Program} {w : World} {K : PySem.W.Frag} {mg : Str → Option Value} {base : Heap} {r : Bool} {k : Nat} {C : Addr} {x : Str} {ps : List Str} {sp : Sp} (h : MHasR P w K mg base (fun _ => CX0) r k C x ps sp) : MHas P w K mg base k C x ps sp := by
  obtain ⟨f, fd, m, F, b⟩ := h.ex
  exact ⟨h.cl, f, fd, m, F.ok, b⟩
section
variable {X : Cx} {CX : Bool → CXT} {r : Bool} {k : Nat} {f C : Addr} {fd : FuncData} {ps : List Str} {sp : Sp} {E : L2.St → XK} {x m : Str} {p pos apos : Pos} {e o : Expr} {es : List Expr} {ta : TE} {t : TA}
def tMethG (X : Cx) (CX : Bool → CXT) (r : Bool) (k : Nat) (m : Str) (E : L2.St → XK) (ta : TE) (t : TA) : TE := fun σ H Q => ta σ H fun x H1 => ∃ (a C dx : Addr) (fs : List (Str × V)) (ps : List Str) (sp : Sp), x = .ref a ∧ H1 a = some (.ins C dx fs) ∧ fs.lookup m = none ∧
  MHasR X.prog X.w X.K X.mg X.base CX r k C m ps sp ∧ t σ H1 fun vs H2 => sp (x :: (vs ++ [])) H2 Q (E σ)
def tMakeG (C : Addr) (sp : Sp) (E : L2.St → XK) (t : TA) : TE := fun σ H Q => t σ H fun vs H1 => ∀ x dx, H1 x = none → H1 dx = none → dx ≠ x →
  sp (.ref x :: (vs ++ [])) (upd (upd H1 dx (.own x)) x (.ins C dx [])) (fun v H2 => v = .non ∧ Q (.ref x) H2) (E σ)
end
end Ow
namespace Ow
open PySem PySem.Spec PyProof.Rows L2
section
variable {P : Program} {w : World} {K : PySem.W.Frag} {mg : Str → Option Value} {base : Heap} {N : List Str} {qual : Str} {scope : Scope} {f : Addr} {cdv : Value} {A : Around} {outer : List Env} {s₀ : Shared} {H₀ : Hp} {E : XK}
/-- the context of a def that may raise exceptions that bear a field -/
abbrev cxRY (P : Program) (w : World) (K : PySem.W.Frag) (mg : Str → Option Value) (base : Heap) (N : List Str) (qual : Str) (scope : Scope) (f : Addr) (cd : Value) (A : Around) (outer : List Env) (s : Shared) (H : Hp) (E : XK) : Cx := cxR (fun c => CX2c c P w base) P w K mg base N qual scope f cd A outer s H E
structure XHasR (P : Program) (w : World) (K : PySem.W.Frag) (mg : Str → Option Value) (base : Heap) (k : Nat) (x : Str) (C : Addr) (f : Str) : Prop where
  ex : ∃ (fI : Addr) (fd : FuncData) (p1 p2 : Str), FnOkR P w K mg base (fun _ => CX0) false k fI fd [p1, p2] (spXI f C) ∧ Binds K fd [p1, p2] [] ∧ XCls K C fI f ∧ mg x = some (.ref C)
end
/-- the rows of a try, an exception perhaps being handled -/
def tryR (X : Cx) (pins : List (Addr × Obj)) (E : L2.St → XK) : Cx := (pinned X pins).wish fun e s' => ∃ (pins' : List (Addr × Obj)) (σ' : L2.St) (H : Hp) (s : Shared), Inv (pinned X pins) pins' σ' H s ∧ CX2c (hn X.A) X.prog X.w X.base X.stack H s (E σ') e s'
end Ow
namespace Ow
open PySem PySem.Spec PyProof.Rows L2
theorem room_any {k : Nat} {A B : Around} (r : Room k A) (h1 : B.depth = A.depth) (h2 : B.units = A.units) (h3 : B.guards = A.guards) : Room k (calmA B) :=
  ⟨rfl, by have := r.dp; show B.depth + 3 * k + 5 < _; omega, by have := r.un; show B.units + 16 * k + 200 < _; omega, h3.trans r.gd⟩
/-- a flat thing, or an empty dict -/
inductive FE (H : Hp) : V → PyData → Prop where
  | fl {x : V} {d : PyData} : FD x d → FE H x d
  | dc {a : Addr} : H a = some (.dK []) → FE H (.ref a) (.dict [])
section
variable {X : Cx}
theorem FE.reads {pins : List (Addr × Obj)} {σ : L2.St} {H : Hp} {s : Shared} (I : Inv X pins σ H s) {x : V} {d : PyData} (f : FE H x d) (u : Value) (ru : RelV x u) : ∃ as, Reads s.heap u d as ∧ sysModules ∉ as := by
  cases f with
  | fl f => exact ⟨_, f.reads ru, fun z => nomatch z⟩
  | @dc a e =>
    cases (show u = Value.ref a from ru)
    obtain ⟨_, hs, vs, r, dd⟩ := dk_at I e
    refine ⟨_, PyProof.V.reads_dictOf (enc := kD) keyReads dd (FDs.nil.reads r), fun hm => ?_⟩
    cases List.mem_singleton.mp hm
    rw [beq_self_eq_true] at hs
    cases hs
theorem readsAllE {h : Heap} : ∀ {xs : List V} {us : List Value} {ds : List PyData}, Vals xs us → xs.length = ds.length → (∀ (i : Nat) x d, xs[i]? = some x → ds[i]? = some d → ∀ u, RelV x u → ∃ as, Reads h u d as ∧ sysModules ∉ as) → ∃ as, ReadsAll h us ds as ∧ sysModules ∉ as
  | _, _, [], .nil, _, _ => ⟨_, .nil, fun z => nomatch z⟩
  | _, _, _ :: _, .nil, hl, _ => absurd hl (by simp)
  | _, _, [], .cons _ _, hl, _ => absurd hl (by simp)
  | _, _, d :: ds, .cons r rr, hl, hi => by
    obtain ⟨as, h1, n1⟩ := hi 0 _ _ rfl rfl _ r
    obtain ⟨bs, h2, n2⟩ := readsAllE rr (by simpa using hl) fun i x d' e1 e2 => hi (i + 1) x d' (by simpa using e1) (by simpa using e2)
    exact ⟨_, .cons h1 h2, fun z => (List.mem_append.mp z).elim n1 n2⟩
/-- what repr is asked for: a thing without a dict, a dict of flat things, a tuple of flat things and empty dicts -/
def Rp (H : Hp) (x : V) (d : PyData) : Prop := RD H x d ∧ d.hasDict = false ∨ (∃ a kvs D, x = .ref a ∧ H a = some (.dK kvs) ∧ FDs kvs D ∧ d = .dict D) ∨ ∃ a xs ds, x = .ref a ∧ H a = some (.tup xs) ∧ xs.length = ds.length ∧ (∀ (i : Nat) y e, xs[i]? = some y → ds[i]? = some e → FE H y e) ∧ d = .tuple ds
theorem call_reprE (hg : X.A.guards = some []) (hu : X.A.units + 64 < cLine) : CallR X (.builtin "repr") (fun xs H Q => ∃ x d, xs = [x] ∧ Rp H x d ∧ d.showable = true ∧ d.depth ≤ 20 ∧ d.shown.length ≤ sizeLine ∧ Q (.str d.shown) H) := by
  intro pins s σ H xs us Q I r h
  obtain ⟨x, d, rfl, rd | rd | ⟨a, xs, ds, rfl, e, hl, hi, rfl⟩, sh, dp, hz, q⟩ := h
  · exact call_reprD hg hu pins s σ H [x] us Q I r ⟨x, d, rfl, .inl rd, sh, dp, hz, q⟩
  · exact call_reprD hg hu pins s σ H [x] us Q I r ⟨x, d, rfl, .inr rd, sh, dp, hz, q⟩
  · obtain ⟨u, rfl, ru⟩ := r.one
    cases (show u = Value.ref a from ru)
    obtain ⟨_, its, r, o, g, c, n, e'⟩ := I.hok a _ e
    obtain ⟨as, q1, nm⟩ := readsAllE r hl fun i y e h1 h2 u ru => (hi i y e h1 h2).reads I u ru
    exact repr_of_reads' (.tuple g c e' q1) sh (fun _ => nm) hg (by omega) (fun _ _ e => e) (fun h' u tk hk => ⟨.str _, H, I.kept (t' := tk) hk, ⟨_, rfl⟩, q⟩) hz
end
end Ow
namespace Ow
open PySem PySem.Spec PyProof.Rows L2
/-- o.m(e, ..) where the term may not speak of the context -/
def tMethH (P : Program) (w : World) (K : PySem.W.Frag) (mg : Str → Option Value) (base : Heap) (CX : Bool → CXT) (r : Bool) (k : Nat) (m : Str) (E : L2.St → XK) (ta : TE) (t : TA) : TE := fun σ H Q => ta σ H fun x H1 => ∃ (a C dx : Addr) (fs : List (Str × V)) (ps : List Str) (sp : Sp), x = .ref a ∧ H1 a = some (.ins C dx fs) ∧ fs.lookup m = none ∧
  MHasR P w K mg base CX r k C m ps sp ∧ t σ H1 fun vs H2 => sp (x :: (vs ++ [])) H2 Q (E σ)
end Ow
/-! ### small additions: weaker promises, a sealed display behind any statement -/
namespace Ow
open PySem PySem.Spec PyProof.Rows L2
theorem FnOkR.imp {P : Program} {w : World} {K : PySem.W.Frag} {mg : Str → Option Value} {base : Heap} {CX : Bool → CXT} {r : Bool} {k : Nat} {f : Addr} {fd : FuncData} {ps : List Str} {sp sp' : Sp} (F : FnOkR P w K mg base CX r k f fd ps sp) (i : ∀ vs H Q E, sp' vs H Q E → sp vs H Q E) :
    FnOkR P w K mg base CX r k f fd ps sp' := ⟨fun vs H Q E h => F.len vs H Q E (i _ _ _ _ h), fun A outer s H args us vs Q E hr hh e0 hb rv h => F.run A outer s H args us vs Q E hr hh e0 hb rv (i _ _ _ _ h)⟩
theorem MHasR.imp {P : Program} {w : World} {K : PySem.W.Frag} {mg : Str → Option Value} {base : Heap} {CX : Bool → CXT} {r : Bool} {k : Nat} {C : Addr} {m : Str} {ps : List Str} {sp sp' : Sp} (h : MHasR P w K mg base CX r k C m ps sp) (i : ∀ vs H Q E, sp' vs H Q E → sp vs H Q E) : MHasR P w K mg base CX r k C m ps sp' := by
  obtain ⟨f, fd, hm, F, b⟩ := h.ex
  exact ⟨h.cl, f, fd, hm, F.imp i, b⟩
theorem MHasR.mono {P : Program} {w : World} {K : PySem.W.Frag} {mg : Str → Option Value} {base : Heap} {CX : Bool → CXT} {r : Bool} {j k : Nat} {C : Addr} {m : Str} {ps : List Str} {sp : Sp} (h : MHasR P w K mg base CX r j C m ps sp) (i : j ≤ k) : MHasR P w K mg base CX r k C m ps sp := by
  obtain ⟨f, fd, hm, F, b⟩ := h.ex
  exact ⟨h.cl, f, fd, hm, F.mono i, b⟩
section
variable {X : Cx}
theorem pss_consT {rest : List Stmt} {st : Stmt} {t u : TS} (h1 : PS X st t) (h2 : Sl (PSs X rest u)) : PSs X (st :: rest) (tSeq t u) := pss_cons h1 h2.out
theorem pe_ixS {a b : Expr} {r : R2} {ta tb : TE} {pos : Pos} (hr : IxR X r) (ha : Sl (PE X a ta)) (hb : PE X b tb) (hs : PlainIx b) : Sl (PE X (.Subscript a b pos) (tOp r ta tb)) := ⟨pe_ix hr ha.out hb hs⟩
end
end Ow
/-! ### a def that is handed the exception that is being handled -/
namespace Ow
open PySem PySem.Spec PyProof.Rows L2
/-- the exception a, of this class, is being handled; it lies there, untracked -/
def Zx (a : Addr) (cls : Value) (A : Around) (h : Heap) (H : Hp) (fs : List Addr) : Prop := ∃ o : Obj, A.handled = some (.ref a) ∧ h.get? a = some o ∧ o.cls = cls ∧ H a = none ∧ a ∉ fs
structure FnOkE (P : Program) (w : World) (K : PySem.W.Frag) (mg : Str → Option Value) (base : Heap) (a : Addr) (cls : Value) (k : Nat) (f : Addr) (fd : FuncData) (ps : List Str) (sp : Sp) : Prop where
  len : ∀ vs H Q E, sp vs H Q E → vs.length = ps.length
  run : ∀ (A : Around) (outer : List Env) (s : Shared) (H : Hp) (args : Args) (us : List Value) (vs : List V) (Q : VK) (E : XK), Room k (calmA A) → Zx a cls A s.heap H (frs outer) → Env0 P w K mg base A outer s H → BindsTo s fd args (ps.zip us) → Vals vs us → sp vs H Q E →
    codeAny (model P w) A (.call (.ref f) args) (CR CX0 outer P w H s Q E) s
/-- in every state of this context it lies there -/
def HdE (X : Cx) (a : Addr) (cls : Value) : Prop := ∀ (pins : List (Addr × Obj)) (σ : L2.St) (H : Hp) (s : Shared), Inv X pins σ H s → ∃ o, s.heap.get? a = some o ∧ o.cls = cls
theorem hde_in {CX : Bool → CXT} {P : Program} {w : World} {K : PySem.W.Frag} {mg : Str → Option Value} {base : Heap} {N : List Str} {qual : Str} {scope : Scope} {f : Addr} {cd : Value} {A : Around} {outer : List Env} {s : Shared} {H : Hp} {E : XK} {a : Addr} {cls : Value}
    (h0 : Zx a cls A s.heap H (frs outer)) : HdE (cxR CX P w K mg base N qual scope f cd A outer s H E).nox a cls := by
  intro pins σ H1 s1 I
  obtain ⟨o, e, g, c0, n, nf⟩ := h0
  have nx : a ∉ ([] : List Addr) := fun z => nomatch z
  have I' : Inv (cxR CX P w K mg base N qual scope f cd A outer s H E) pins σ H1 s1 := I.unwish
  exact ⟨o, I'.base.keep a o g n nf nx, c0⟩
theorem fn_ofE {xa : Addr} {xc : Value} {P : Program} {w : World} {K : PySem.W.Frag} {mg : Str → Option Value} {base : Heap} {k : Nat} {f : Addr} {name qual : Str} {params : Arguments} {body : List Stmt} {scope : Scope} {dV kV doc pm cdv ct oc : Value} {an od : Option Addr}
    {osl : Array (Option Value)} {N ps : List Str} {sp : Sp} (lk : K.lookup f = some ⟨oc, od, .func (PySem.W.fnOf name qual params body scope dV kV doc pm an cdv ct), osl⟩) (hcd : PySem.W.codeIn K cdv qual = true) (S : FnScope N ps scope)
    (len : ∀ vs H Q E, sp vs H Q E → vs.length = ps.length)
    (hbody : ∀ (A : Around) (outer : List Env) (s : Shared) (H : Hp) (vs : List V) (Q : VK) (E : XK), Room k (calmA (A.deeper (envOfC qual scope s.heap.objs.size f cdv))) → Zx xa xc A s.heap H (frs outer) → sp vs H Q E →
      ∃ t, PSs (cxR (fun _ => CX0) P w K mg base N qual scope f cdv A outer s H E) body t ∧ t { nx := fun _ H' => Q .non H', rt := Q } (start N vs) H) :
    FnOkE P w K mg base xa xc (k + 1) f (PySem.W.fnOf name qual params body scope dV kV doc pm an cdv ct) ps sp := by
  refine ⟨len, fun A outer s H args us vs Q E hr hh e0 hb r hsp => ?_⟩
  have hl := len _ _ _ _ hsp
  have KX : K.In s.heap := e0.mod.kin.keeps fun b o e => (e0.bs b o e).1
  have lim : s.heap.NoLimit := e0.mod.nolimit.keeps fun b o e => (e0.bs b o e).1
  have hkind : ∀ y ∈ ps.zip us, scope.names.lookup y.1 = some .local ∨ (scope.names.lookup y.1 = some .cell ∧ ((cellsFrom (s.heap.objs.size + 1) scope.names []).lookup y.1).isSome = true) := fun ⟨n, v⟩ hy => by
    rcases S.par n (List.of_mem_zip hy).1 with q | q
    · exact .inl q
    · exact .inr ⟨q, PySem.W.cellsFrom_some _ _ _ (.inl q)⟩
  refine codeAny_call_function (show A.depth < recursionLimit from hr.depth) (KX _ _ lk) rfl S.co S.gen rfl (PySem.W.codeRec_of KX hcd) (hb _ _ _ _ ?_)
  refine wpAny_newFunctionEnv_cells S.kind hkind fun env he s1 x => ?_
  subst he
  refine ⟨lim.keeps x.toInCall.keep, codeAny_func ?_⟩
  obtain ⟨t, ht, hq⟩ := hbody A outer s H vs Q E (hr.deeper _) hh hsp
  have I : Inv (cxR (fun _ => CX0) P w K mg base N qual scope f cdv A outer s H E) [] (start N vs) H s1 := inv_startR S e0 hl r x
  refine wpAny_mono (ht [] s1 (start N vs) H _ I hq) (fun fl s' hs => ?_) fun e s' hs => hs
  have fin : ∀ {σ' : L2.St} {H' : Hp} {v : V} {u : Value}, Inv (cxR (fun _ => CX0) P w K mg base N qual scope f cdv A outer s H E) [] σ' H' s' → RelV v u → Q v H' → CE outer P w H s Q u s' :=
    fun {σ' H' v u} J rv q => ⟨v, H', J.os, J.bare, J.base, J.hok, rv, q⟩
  cases fl with
  | ret u =>
    obtain ⟨v, σ', H', J, rv, q⟩ := hs
    exact fin J rv q
  | next =>
    obtain ⟨σ', H', J, q⟩ := hs
    exact fin (v := V.non) (u := Value.none) J rfl q
  | brk =>
    obtain ⟨_, _, _, q⟩ := hs
    exact False.elim q
  | cont =>
    obtain ⟨_, _, _, q⟩ := hs
    exact False.elim q
section
variable {P : Program} {w : World} {K : PySem.W.Frag} {mg : Str → Option Value} {base : Heap}
theorem Fun.okE {xa : Addr} {xc : Value} {x qual : Str} {st : Stmt} {f : Addr} {fd : FuncData} {N ps : List Str} {k : Nat} {sp : Sp} (F : Fun K x qual st f fd) (S : FnScope N ps (defScope st)) (len : ∀ vs H Q E, sp vs H Q E → vs.length = ps.length)
    (hbody : ∀ (cdv : Value) (A : Around) (outer : List Env) (s : Shared) (H : Hp) (vs : List V) (Q : VK) (E : XK), Room k (calmA (A.deeper (envOfC qual (defScope st) s.heap.objs.size f cdv))) → Zx xa xc A s.heap H (frs outer) → sp vs H Q E →
      ∃ t, PSs (cxR (fun _ => CX0) P w K mg base N qual (defScope st) f cdv A outer s H E).nox (defBody st) t ∧ t { nx := fun _ H' => Q .non H', rt := Q } (start N vs) H) : FnOkE P w K mg base xa xc (k + 1) f fd ps sp := by
  obtain ⟨oc, od, kV, doc, pm, an, cdv, ct, osl, e1, lk, hcd⟩ := F.ex
  subst e1
  exact fn_ofE lk hcd S len fun A outer s H vs Q E hr hh hsp => by
    obtain ⟨t, h, q⟩ := hbody cdv A outer s H vs Q E hr hh hsp
    exact ⟨t, h.nox, q⟩
end
structure HasE (P : Program) (w : World) (K : PySem.W.Frag) (mg : Str → Option Value) (base : Heap) (k : Nat) (x : Str) (ps : List Str) (sp : Addr → Value → Sp) : Prop where
  ex : ∃ (f : Addr) (fd : FuncData), (∀ a cls, FnOkE P w K mg base a cls k f fd ps (sp a cls)) ∧ Binds K fd ps [] ∧ PySem.W.keepIn K (.ref f) = true ∧ mg x = some (.ref f)
section
variable {X : Cx} {k : Nat} {ps : List Str} {sp : Addr → Value → Sp} {x : Str} {p pos : Pos} {e : Expr} {es : List Expr} {t : TA} {a : Addr} {oe : Obj}
/-- within the suite of an except: f(e, ..), f being handed the caught one -/
theorem pe_fnE (h : HasE X.prog X.w X.K X.mg X.base k x ps sp) (hr : Room k (calmA (caught X a oe).A)) (hg : Gl (caught X a oe) x) (ha : PA (caught X a oe) (e :: es) t) (hst : X.stack = X.env :: X.outer := by rfl) (hfr : X.env.frame = some X.env.locals := by rfl)
    (hdb : (x == ("__debug__" : Str)) = false := by decide) (he : starEach (e :: es) X.env = (false, eval e X.env) :: starEach es X.env := by rfl) (hpl : (backTo pos (starEach es X.env)).any (·.1) = false := by rfl) :
    PE (caught X a oe) (.Call (.Name x p) (e :: es) [] pos) (tCallT (sp a oe.cls) (fun _ => E0) t) := by
  intro pins s σ H Q I h1
  obtain ⟨f, fd, F, hb, hk, hm⟩ := h.ex
  refine wpAny_Call_Name_kw (ld_glob I hg hm ?_ hdb)
  refine PySem.W.callWith_K (h₀ := X.base) I.ok.mod.kin hk (thn (ha pos pins s σ H _ I h1) fun us s1 ⟨vs, H1, I1, r, q⟩ => ⟨I1.kIn, ?_⟩) he hpl
  have r2 : Vals (vs ++ []) (us ++ []) := r.append .nil
  have hl : (us ++ []).length = ps.length := by rw [← r2.length]; exact (F a oe.cls).len _ _ _ _ q
  obtain ⟨e1, n1, nl, nf, _⟩ := I1.pin (a, oe) (List.mem_append_left _ (List.mem_cons_self ..))
  have nfs : a ∉ frs (caught X a oe).stack := fun hm => by
    have hm' : a ∈ frs (X.env :: X.outer) := hst ▸ hm
    obtain ⟨en, he, hf⟩ := List.mem_filterMap.mp hm'
    rcases List.mem_cons.mp he with rfl | he
    · rw [hfr] at hf
      cases hf
      exact nl rfl
    · exact nf (List.mem_filterMap.mpr ⟨en, he, hf⟩)
  refine wpAny_call (codeAny_mono ((F a oe.cls).run (caught X a oe).A (caught X a oe).stack s1 H1 ⟨us, []⟩ (us ++ []) (vs ++ []) Q E0 hr ⟨oe, rfl, e1, rfl, n1, nfs⟩ I1.env0 (hb s1 us I1.kIn hl) r2 q) fun r s' hq => ?_)
  cases r with
  | error e => exact False.elim hq
  | ok fl =>
    cases fl with
    | ret u => exact I1.after hq
    | next => exact False.elim hq
    | brk => exact False.elim hq
    | cont => exact False.elim hq
/-- isinstance of the exception that was handed in -/
theorem call_isinstE {cls : Value} (hd : HdE X a cls) : CallR X (.builtin "isinstance") (fun xs H Q => ∃ (C : Addr) (c : V) (cv : Value) (b : Bool), xs = [.ref a, c] ∧ cls = .ref C ∧ ExF X.K C ∧ clsV c = some cv ∧ PySem.W.kitOne X.K (.ref C) cv = some b ∧ Q (.bl b) H) := by
  intro pins s σ H xs us Q I r h
  obtain ⟨C, c, cv, b, rfl, hc, f, hcv, e, q⟩ := h
  obtain ⟨u, u', rfl, rx, rc⟩ := vals2 r
  cases clsV_rel rc hcv
  cases (show u = Value.ref a from rx)
  obtain ⟨o, g, oc⟩ := hd pins σ H s I
  exact PySem.W.kia_one (kitx_exc f) I.kIn ⟨o, g, oc.trans hc⟩ e (fun z => nomatch z) fun tk => ⟨.bl b, H, I.tok _, rfl, q⟩
end
end Ow

namespace Ow
open PySem PySem.Spec PyProof.Rows L2
open Builtin.Int (intBits)
/-! ### the text by places -/
def top (i : Nat) : Stmt := PySem.Challenge.pw_overwise_k58_refused_everywhere.main.body.getD i (.Pass ⟨0, 0, 0, 0⟩)
abbrev s_NoWidth___init__ : Stmt := inClass (top 2) 0
theorem sc_NoWidth___init__ : FnScope ["self", "found"] ["self", "found"] (defScope s_NoWidth___init__) := ⟨rfl, rfl, rfl, by decide +kernel, rfl, by decide +kernel, by decide +kernel⟩
abbrev s_NoWord___init__ : Stmt := inClass (top 3) 0
theorem sc_NoWord___init__ : FnScope ["self", "found"] ["self", "found"] (defScope s_NoWord___init__) := ⟨rfl, rfl, rfl, by decide +kernel, rfl, by decide +kernel, by decide +kernel⟩
abbrev s_NoDivisor___init__ : Stmt := inClass (top 4) 0
theorem sc_NoDivisor___init__ : FnScope ["self", "found"] ["self", "found"] (defScope s_NoDivisor___init__) := ⟨rfl, rfl, rfl, by decide +kernel, rfl, by decide +kernel, by decide +kernel⟩
abbrev s_NoLong___init__ : Stmt := inClass (top 5) 0
theorem sc_NoLong___init__ : FnScope ["self", "found"] ["self", "found"] (defScope s_NoLong___init__) := ⟨rfl, rfl, rfl, by decide +kernel, rfl, by decide +kernel, by decide +kernel⟩
abbrev s_is_whole : Stmt := top 9
theorem sc_is_whole : FnScope ["thing"] ["thing"] (defScope s_is_whole) := ⟨rfl, rfl, rfl, by decide +kernel, rfl, by decide +kernel, by decide +kernel⟩
abbrev s_is_between : Stmt := top 10
theorem sc_is_between : FnScope ["thing", "low", "high"] ["thing", "low", "high"] (defScope s_is_between) := ⟨rfl, rfl, rfl, by decide +kernel, rfl, by decide +kernel, by decide +kernel⟩
abbrev s_need_width : Stmt := top 11
theorem sc_need_width : FnScope ["width"] ["width"] (defScope s_need_width) := ⟨rfl, rfl, rfl, by decide +kernel, rfl, by decide +kernel, by decide +kernel⟩
abbrev s_is_word : Stmt := top 12
theorem sc_is_word : FnScope ["width", "thing"] ["width", "thing"] (defScope s_is_word) := ⟨rfl, rfl, rfl, by decide +kernel, rfl, by decide +kernel, by decide +kernel⟩
abbrev s_has_long : Stmt := top 14
theorem sc_has_long : FnScope ["width", "thing"] ["width", "thing"] (defScope s_has_long) := ⟨rfl, rfl, rfl, by decide +kernel, rfl, by decide +kernel, by decide +kernel⟩
abbrev s_is_long : Stmt := top 15
theorem sc_is_long : FnScope ["width", "thing"] ["width", "thing"] (defScope s_is_long) := ⟨rfl, rfl, rfl, by decide +kernel, rfl, by decide +kernel, by decide +kernel⟩
abbrev s_need_long : Stmt := top 16
theorem sc_need_long : FnScope ["width", "one"] ["width", "one"] (defScope s_need_long) := ⟨rfl, rfl, rfl, by decide +kernel, rfl, by decide +kernel, by decide +kernel⟩
abbrev s_need_longs : Stmt := top 17
theorem sc_need_longs : FnScope ["width", "one", "other"] ["width", "one", "other"] (defScope s_need_longs) := ⟨rfl, rfl, rfl, by decide +kernel, rfl, by decide +kernel, by decide +kernel⟩
abbrev s_long_of : Stmt := top 20
theorem sc_long_of : FnScope ["width", "number", "words"] ["width", "number"] (defScope s_long_of) := ⟨rfl, rfl, rfl, by decide +kernel, rfl, by decide +kernel, by decide +kernel⟩
abbrev s_number_of : Stmt := top 21
theorem sc_number_of : FnScope ["width", "one", "number", "word"] ["width", "one"] (defScope s_number_of) := ⟨rfl, rfl, rfl, by decide +kernel, rfl, by decide +kernel, by decide +kernel⟩
abbrev s_long_sum : Stmt := top 23
theorem sc_long_sum : FnScope ["width", "one", "other"] ["width", "one", "other"] (defScope s_long_sum) := ⟨rfl, rfl, rfl, by decide +kernel, rfl, by decide +kernel, by decide +kernel⟩
abbrev s_carries : Stmt := top 24
theorem sc_carries : FnScope ["width", "one", "other"] ["width", "one", "other"] (defScope s_carries) := ⟨rfl, rfl, rfl, by decide +kernel, rfl, by decide +kernel, by decide +kernel⟩
abbrev s_need_gap : Stmt := top 26
theorem sc_need_gap : FnScope ["width", "one", "other"] ["width", "one", "other"] (defScope s_need_gap) := ⟨rfl, rfl, rfl, by decide +kernel, rfl, by decide +kernel, by decide +kernel⟩
abbrev s_long_gap : Stmt := top 27
theorem sc_long_gap : FnScope ["width", "one", "other"] ["width", "one", "other"] (defScope s_long_gap) := ⟨rfl, rfl, rfl, by decide +kernel, rfl, by decide +kernel, by decide +kernel⟩
abbrev s_borrows : Stmt := top 28
theorem sc_borrows : FnScope ["width", "one", "other"] ["width", "one", "other"] (defScope s_borrows) := ⟨rfl, rfl, rfl, by decide +kernel, rfl, by decide +kernel, by decide +kernel⟩
abbrev s_compared : Stmt := top 29
theorem sc_compared : FnScope ["one", "other", "place"] ["one", "other"] (defScope s_compared) := ⟨rfl, rfl, rfl, by decide +kernel, rfl, by decide +kernel, by decide +kernel⟩
abbrev s_long_compare : Stmt := top 30
theorem sc_long_compare : FnScope ["width", "one", "other"] ["width", "one", "other"] (defScope s_long_compare) := ⟨rfl, rfl, rfl, by decide +kernel, rfl, by decide +kernel, by decide +kernel⟩
abbrev s_times_word : Stmt := top 32
theorem sc_times_word : FnScope ["width", "one", "word"] ["width", "one", "word"] (defScope s_times_word) := ⟨rfl, rfl, rfl, by decide +kernel, rfl, by decide +kernel, by decide +kernel⟩
abbrev s_long_product : Stmt := top 33
theorem sc_long_product : FnScope ["width", "one", "other", "product", "word"] ["width", "one", "other"] (defScope s_long_product) := ⟨rfl, rfl, rfl, by decide +kernel, rfl, by decide +kernel, by decide +kernel⟩
abbrev s_long_left : Stmt := top 36
theorem sc_long_left : FnScope ["width", "one", "many"] ["width", "one", "many"] (defScope s_long_left) := ⟨rfl, rfl, rfl, by decide +kernel, rfl, by decide +kernel, by decide +kernel⟩
abbrev s_long_right : Stmt := top 37
theorem sc_long_right : FnScope ["width", "one", "many"] ["width", "one", "many"] (defScope s_long_right) := ⟨rfl, rfl, rfl, by decide +kernel, rfl, by decide +kernel, by decide +kernel⟩
abbrev s_turn_of : Stmt := top 40
theorem sc_turn_of : FnScope ["width", "bottom"] ["width", "bottom"] (defScope s_turn_of) := ⟨rfl, rfl, rfl, by decide +kernel, rfl, by decide +kernel, by decide +kernel⟩
abbrev s_need_division : Stmt := top 41
theorem sc_need_division : FnScope ["width", "top", "bottom"] ["width", "top", "bottom"] (defScope s_need_division) := ⟨rfl, rfl, rfl, by decide +kernel, rfl, by decide +kernel, by decide +kernel⟩
abbrev s_steps_ahead : Stmt := top 43
theorem sc_steps_ahead : FnScope ["width", "top", "bottom"] ["width", "top", "bottom"] (defScope s_steps_ahead) := ⟨rfl, rfl, rfl, by decide +kernel, rfl, by decide +kernel, by decide +kernel⟩
abbrev s_bits_ahead : Stmt := top 44
theorem sc_bits_ahead : FnScope ["width", "top", "bottom"] ["width", "top", "bottom"] (defScope s_bits_ahead) := ⟨rfl, rfl, rfl, by decide +kernel, rfl, by decide +kernel, by decide +kernel⟩
abbrev s_need_guess : Stmt := top 45
theorem sc_need_guess : FnScope ["width", "high", "low", "word"] ["width", "high", "low", "word"] (defScope s_need_guess) := ⟨rfl, rfl, rfl, by decide +kernel, rfl, by decide +kernel, by decide +kernel⟩
abbrev s_guess_rows : Stmt := top 46
theorem sc_guess_rows : FnScope ["width", "high", "low", "word", "rows", "rest", "place", "bit"] ["width", "high", "low", "word"] (defScope s_guess_rows) := ⟨rfl, rfl, rfl, by decide +kernel, rfl, by decide +kernel, by decide +kernel⟩
abbrev s_guess_of : Stmt := top 47
theorem sc_guess_of : FnScope ["width", "high", "low", "word", "guess", "row"] ["width", "high", "low", "word"] (defScope s_guess_of) := ⟨rfl, rfl, rfl, by decide +kernel, rfl, by decide +kernel, by decide +kernel⟩
abbrev s_long_divided : Stmt := top 49
theorem sc_long_divided : FnScope ["width", "top", "bottom", "steps", "turn", "lower", "upper", "rest", "rows", "digits", "place", "step"] ["width", "top", "bottom"] (defScope s_long_divided) := ⟨rfl, rfl, rfl, by decide +kernel, rfl, by decide +kernel, by decide +kernel⟩
abbrev s_is_division : Stmt := top 52
theorem sc_is_division : FnScope ["width", "top", "bottom", "quotient", "rest", "rows", "steps", "turn", "lower", "upper", "remains", "place", "row", "digits"] ["width", "top", "bottom", "quotient", "rest", "rows"] (defScope s_is_division) := ⟨rfl, rfl, rfl, by decide +kernel, rfl, by decide +kernel, by decide +kernel⟩
abbrev s_worst : Stmt := top 53
theorem sc_worst : FnScope ["width", "half"] ["width"] (defScope s_worst) := ⟨rfl, rfl, rfl, by decide +kernel, rfl, by decide +kernel, by decide +kernel⟩
abbrev s__law_drawn : Stmt := top 55
theorem sc__law_drawn : FnScope ["_law_cell", "_law_sizes", "_law_found", "_law_many", "_law_one_here", "_law_other"] ["_law_cell", "_law_sizes"] (defScope s__law_drawn) := ⟨rfl, rfl, rfl, by decide +kernel, rfl, by decide +kernel, by decide +kernel⟩
abbrev s__law_long : Stmt := top 56
theorem sc__law_long : FnScope ["_law_draws", "_law_at", "_law_many", "_law_width", "_law_big", "_law_menu", "_law_words_here", "_law_k", "_law_kind", "_law_raw"] ["_law_draws", "_law_at", "_law_many", "_law_width"] (defScope s__law_long) := ⟨rfl, rfl, rfl, by decide +kernel, rfl, by decide +kernel, by decide +kernel⟩
abbrev s__law_one : Stmt := top 57
theorem sc__law_one : FnScope ["_law_which", "_law_width", "_law_one_here"] ["_law_which", "_law_width", "_law_one_here"] (defScope s__law_one) := ⟨rfl, rfl, rfl, by decide +kernel, rfl, by decide +kernel, by decide +kernel⟩
abbrev s__law_two : Stmt := top 58
theorem sc__law_two : FnScope ["_law_which", "_law_width", "_law_one_here", "_law_other"] ["_law_which", "_law_width", "_law_one_here", "_law_other"] (defScope s__law_two) := ⟨rfl, rfl, rfl, by decide +kernel, rfl, by decide +kernel, by decide +kernel⟩
abbrev s__law_else : Stmt := top 59
theorem sc__law_else : FnScope ["_law_which", "_law_width", "_law_thing"] ["_law_which", "_law_width", "_law_thing"] (defScope s__law_else) := ⟨rfl, rfl, rfl, by decide +kernel, rfl, by decide +kernel, by decide +kernel⟩
abbrev s__law_asked : Stmt := top 60
theorem sc__law_asked : FnScope ["_law_door", "_law_which", "_law_width", "_law_one_here", "_law_other"] ["_law_door", "_law_which", "_law_width", "_law_one_here", "_law_other"] (defScope s__law_asked) := ⟨rfl, rfl, rfl, by decide +kernel, rfl, by decide +kernel, by decide +kernel⟩
abbrev s__law_named : Stmt := top 61
theorem sc__law_named : FnScope ["_law_e", "_law_found"] ["_law_e"] (defScope s__law_named) := ⟨rfl, rfl, rfl, by decide +kernel, rfl, by decide +kernel, by decide +kernel⟩
abbrev s__law_refused : Stmt := top 62
theorem sc__law_refused : FnScope ["_law_ask", "_law_word", "_law_thing", "_law_door", "_law_which", "_law_width", "_law_one_here", "_law_other", "_law_e"] ["_law_ask", "_law_word", "_law_thing"] (defScope s__law_refused) := ⟨rfl, rfl, rfl, by decide +kernel, rfl, by decide +kernel, by decide +kernel⟩
abbrev s__law_bad_long : Stmt := top 63
theorem sc__law_bad_long : FnScope ["_law_at", "_law_width", "_law_big", "_law_menu"] ["_law_at", "_law_width"] (defScope s__law_bad_long) := ⟨rfl, rfl, rfl, by decide +kernel, rfl, by decide +kernel, by decide +kernel⟩
abbrev s__law_bad_word : Stmt := top 64
theorem sc__law_bad_word : FnScope ["_law_at", "_law_width"] ["_law_at", "_law_width"] (defScope s__law_bad_word) := ⟨rfl, rfl, rfl, by decide +kernel, rfl, by decide +kernel, by decide +kernel⟩
abbrev s__law_bad_width : Stmt := top 65
theorem sc__law_bad_width : FnScope ["_law_at"] ["_law_at"] (defScope s__law_bad_width) := ⟨rfl, rfl, rfl, by decide +kernel, rfl, by decide +kernel, by decide +kernel⟩
abbrev s__law_longs : Stmt := top 66
theorem sc__law_longs : FnScope ["_law_width", "_law_bad", "_law_good", "_law_behind", "_law_which", "_law_one_here", "_law_other"] ["_law_width", "_law_bad", "_law_good", "_law_behind"] (defScope s__law_longs) := ⟨rfl, rfl, rfl, by decide +kernel, rfl, by decide +kernel, by decide +kernel⟩
abbrev s__law_widths : Stmt := top 67
theorem sc__law_widths : FnScope ["_law_wide", "_law_bad", "_law_good", "_law_which", "_law_thing"] ["_law_wide", "_law_bad", "_law_good"] (defScope s__law_widths) := ⟨rfl, rfl, rfl, by decide +kernel, rfl, by decide +kernel, by decide +kernel⟩
abbrev s__law_words : Stmt := top 68
theorem sc__law_words : FnScope ["_law_width", "_law_bad", "_law_number", "_law_low", "_law_half", "_law_which", "_law_under", "_law_more", "_law_things", "_law_word", "_law_high"] ["_law_width", "_law_bad", "_law_number", "_law_low"] (defScope s__law_words) := ⟨rfl, rfl, rfl, by decide +kernel, rfl, by decide +kernel, by decide +kernel⟩
abbrev s_law : Stmt := top 69
theorem sc_law : FnScope ["_law_script", "_law_cell", "_law_draws", "_law_width", "_law_good", "_law_bad", "_law_number"] ["_law_script"] (defScope s_law) := ⟨rfl, rfl, rfl, by decide +kernel, rfl, by decide +kernel, by decide +kernel⟩
structure Ad where
  NoWidth : Addr
  NoWord : Addr
  NoDivisor : Addr
  NoLong : Addr
  Lesser : Addr
  NothingBy : Addr
  WiseError : Addr
structure Txt (K : PySem.W.Frag) (mg : Str → Option Value) (c : Ad) : Prop where
  n_isinstance : mg "isinstance" = none
  n_int : mg "int" = none
  n_bool : mg "bool" = none
  n_list : mg "list" = none
  n_len : mg "len" = none
  n_max : mg "max" = none
  n_min : mg "min" = none
  n_range : mg "range" = none
  n_all : mg "all" = none
  n_reversed : mg "reversed" = none
  n_repr : mg "repr" = none
  n_ValueError : mg "ValueError" = none
  g_NoWidth : mg "NoWidth" = some (.ref c.NoWidth)
  g_NoWord : mg "NoWord" = some (.ref c.NoWord)
  g_NoDivisor : mg "NoDivisor" = some (.ref c.NoDivisor)
  g_NoLong : mg "NoLong" = some (.ref c.NoLong)
  g_Lesser : mg "Lesser" = some (.ref c.Lesser)
  g_NothingBy : mg "NothingBy" = some (.ref c.NothingBy)
  g_WiseError : mg "WiseError" = some (.ref c.WiseError)
  kf_if__NoWidth : PySem.W.isClsIn K c.NoWidth = true
  kf_tf_NoWidth : PySem.W.typeIn K (.ref c.NoWidth) = some (.type "type")
  kf_mf_NoWidth : PySem.W.mroIn K c.NoWidth (.ref c.NoWidth) = some true
  kf_wb_NoWidth : PySem.W.mroIn K c.NoWidth (.type "BaseException") = some true
  kf_ga_NoWidth : PySem.W.findIn K (.ref c.NoWidth) "__getattribute__" = some (some (.builtin "BaseException.__getattribute__"))
  kf_gn_NoWidth : PySem.W.findIn K (.ref c.NoWidth) "__getattr__" = some none
  kf_gc_NoWidth : PySem.W.findIn K (.ref c.NoWidth) "__class__" = some (some (.builtin "object.__class__"))
  kf_mo_NoWidth : PySem.W.mroIn K c.NoWidth (.type "object") = some true
  kf_mb_NoWidth : PySem.W.mroIn K c.NoWidth (.type "BaseException") = some true
  kf_hd_NoWidth : PySem.W.hasDictIn K c.NoWidth = true
  kf_nf_NoWidth : PySem.W.findIn K (.ref c.NoWidth) "found" = some none
  kf_mw_NoWidth : PySem.W.mroIn K c.NoWidth (.ref c.WiseError) = some true
  kf_mv_NoWidth : PySem.W.mroIn K c.NoWidth (.type "ValueError") = some true
  kf_m_NoWidth_NoWord : PySem.W.mroIn K c.NoWidth (.ref c.NoWord) = some false
  kf_m_NoWidth_NoDivisor : PySem.W.mroIn K c.NoWidth (.ref c.NoDivisor) = some false
  kf_m_NoWidth_NoLong : PySem.W.mroIn K c.NoWidth (.ref c.NoLong) = some false
  kf_m_NoWidth_Lesser : PySem.W.mroIn K c.NoWidth (.ref c.Lesser) = some false
  kf_m_NoWidth_NothingBy : PySem.W.mroIn K c.NoWidth (.ref c.NothingBy) = some false
  kf_if__NoWord : PySem.W.isClsIn K c.NoWord = true
  kf_tf_NoWord : PySem.W.typeIn K (.ref c.NoWord) = some (.type "type")
  kf_mf_NoWord : PySem.W.mroIn K c.NoWord (.ref c.NoWord) = some true
  kf_wb_NoWord : PySem.W.mroIn K c.NoWord (.type "BaseException") = some true
  kf_ga_NoWord : PySem.W.findIn K (.ref c.NoWord) "__getattribute__" = some (some (.builtin "BaseException.__getattribute__"))
  kf_gn_NoWord : PySem.W.findIn K (.ref c.NoWord) "__getattr__" = some none
  kf_gc_NoWord : PySem.W.findIn K (.ref c.NoWord) "__class__" = some (some (.builtin "object.__class__"))
  kf_mo_NoWord : PySem.W.mroIn K c.NoWord (.type "object") = some true
  kf_mb_NoWord : PySem.W.mroIn K c.NoWord (.type "BaseException") = some true
  kf_hd_NoWord : PySem.W.hasDictIn K c.NoWord = true
  kf_nf_NoWord : PySem.W.findIn K (.ref c.NoWord) "found" = some none
  kf_mw_NoWord : PySem.W.mroIn K c.NoWord (.ref c.WiseError) = some true
  kf_mv_NoWord : PySem.W.mroIn K c.NoWord (.type "ValueError") = some true
  kf_m_NoWord_NoWidth : PySem.W.mroIn K c.NoWord (.ref c.NoWidth) = some false
  kf_m_NoWord_NoDivisor : PySem.W.mroIn K c.NoWord (.ref c.NoDivisor) = some false
  kf_m_NoWord_NoLong : PySem.W.mroIn K c.NoWord (.ref c.NoLong) = some false
  kf_m_NoWord_Lesser : PySem.W.mroIn K c.NoWord (.ref c.Lesser) = some false
  kf_m_NoWord_NothingBy : PySem.W.mroIn K c.NoWord (.ref c.NothingBy) = some false
  kf_if__NoDivisor : PySem.W.isClsIn K c.NoDivisor = true
  kf_tf_NoDivisor : PySem.W.typeIn K (.ref c.NoDivisor) = some (.type "type")
  kf_mf_NoDivisor : PySem.W.mroIn K c.NoDivisor (.ref c.NoDivisor) = some true
  kf_wb_NoDivisor : PySem.W.mroIn K c.NoDivisor (.type "BaseException") = some true
  kf_ga_NoDivisor : PySem.W.findIn K (.ref c.NoDivisor) "__getattribute__" = some (some (.builtin "BaseException.__getattribute__"))
  kf_gn_NoDivisor : PySem.W.findIn K (.ref c.NoDivisor) "__getattr__" = some none
  kf_gc_NoDivisor : PySem.W.findIn K (.ref c.NoDivisor) "__class__" = some (some (.builtin "object.__class__"))
  kf_mo_NoDivisor : PySem.W.mroIn K c.NoDivisor (.type "object") = some true
  kf_mb_NoDivisor : PySem.W.mroIn K c.NoDivisor (.type "BaseException") = some true
  kf_hd_NoDivisor : PySem.W.hasDictIn K c.NoDivisor = true
  kf_nf_NoDivisor : PySem.W.findIn K (.ref c.NoDivisor) "found" = some none
  kf_mw_NoDivisor : PySem.W.mroIn K c.NoDivisor (.ref c.WiseError) = some true
  kf_mv_NoDivisor : PySem.W.mroIn K c.NoDivisor (.type "ValueError") = some true
  kf_m_NoDivisor_NoWidth : PySem.W.mroIn K c.NoDivisor (.ref c.NoWidth) = some false
  kf_m_NoDivisor_NoWord : PySem.W.mroIn K c.NoDivisor (.ref c.NoWord) = some false
  kf_m_NoDivisor_NoLong : PySem.W.mroIn K c.NoDivisor (.ref c.NoLong) = some false
  kf_m_NoDivisor_Lesser : PySem.W.mroIn K c.NoDivisor (.ref c.Lesser) = some false
  kf_m_NoDivisor_NothingBy : PySem.W.mroIn K c.NoDivisor (.ref c.NothingBy) = some false
  kf_if__NoLong : PySem.W.isClsIn K c.NoLong = true
  kf_tf_NoLong : PySem.W.typeIn K (.ref c.NoLong) = some (.type "type")
  kf_mf_NoLong : PySem.W.mroIn K c.NoLong (.ref c.NoLong) = some true
  kf_wb_NoLong : PySem.W.mroIn K c.NoLong (.type "BaseException") = some true
  kf_ga_NoLong : PySem.W.findIn K (.ref c.NoLong) "__getattribute__" = some (some (.builtin "BaseException.__getattribute__"))
  kf_gn_NoLong : PySem.W.findIn K (.ref c.NoLong) "__getattr__" = some none
  kf_gc_NoLong : PySem.W.findIn K (.ref c.NoLong) "__class__" = some (some (.builtin "object.__class__"))
  kf_mo_NoLong : PySem.W.mroIn K c.NoLong (.type "object") = some true
  kf_mb_NoLong : PySem.W.mroIn K c.NoLong (.type "BaseException") = some true
  kf_hd_NoLong : PySem.W.hasDictIn K c.NoLong = true
  kf_nf_NoLong : PySem.W.findIn K (.ref c.NoLong) "found" = some none
  kf_mw_NoLong : PySem.W.mroIn K c.NoLong (.ref c.WiseError) = some true
  kf_mv_NoLong : PySem.W.mroIn K c.NoLong (.type "ValueError") = some true
  kf_m_NoLong_NoWidth : PySem.W.mroIn K c.NoLong (.ref c.NoWidth) = some false
  kf_m_NoLong_NoWord : PySem.W.mroIn K c.NoLong (.ref c.NoWord) = some false
  kf_m_NoLong_NoDivisor : PySem.W.mroIn K c.NoLong (.ref c.NoDivisor) = some false
  kf_m_NoLong_Lesser : PySem.W.mroIn K c.NoLong (.ref c.Lesser) = some false
  kf_m_NoLong_NothingBy : PySem.W.mroIn K c.NoLong (.ref c.NothingBy) = some false
  kf_if__Lesser : PySem.W.isClsIn K c.Lesser = true
  kf_tf_Lesser : PySem.W.typeIn K (.ref c.Lesser) = some (.type "type")
  kf_mf_Lesser : PySem.W.mroIn K c.Lesser (.ref c.Lesser) = some true
  kf_wb_Lesser : PySem.W.mroIn K c.Lesser (.type "BaseException") = some true
  kf_ga_Lesser : PySem.W.findIn K (.ref c.Lesser) "__getattribute__" = some (some (.builtin "BaseException.__getattribute__"))
  kf_gn_Lesser : PySem.W.findIn K (.ref c.Lesser) "__getattr__" = some none
  kf_gc_Lesser : PySem.W.findIn K (.ref c.Lesser) "__class__" = some (some (.builtin "object.__class__"))
  kf_mo_Lesser : PySem.W.mroIn K c.Lesser (.type "object") = some true
  kf_mb_Lesser : PySem.W.mroIn K c.Lesser (.type "BaseException") = some true
  kf_mw_Lesser : PySem.W.mroIn K c.Lesser (.ref c.WiseError) = some true
  kf_mv_Lesser : PySem.W.mroIn K c.Lesser (.type "ValueError") = some true
  kf_m_Lesser_NoWidth : PySem.W.mroIn K c.Lesser (.ref c.NoWidth) = some false
  kf_m_Lesser_NoWord : PySem.W.mroIn K c.Lesser (.ref c.NoWord) = some false
  kf_m_Lesser_NoDivisor : PySem.W.mroIn K c.Lesser (.ref c.NoDivisor) = some false
  kf_m_Lesser_NoLong : PySem.W.mroIn K c.Lesser (.ref c.NoLong) = some false
  kf_m_Lesser_NothingBy : PySem.W.mroIn K c.Lesser (.ref c.NothingBy) = some false
  kf_if__NothingBy : PySem.W.isClsIn K c.NothingBy = true
  kf_tf_NothingBy : PySem.W.typeIn K (.ref c.NothingBy) = some (.type "type")
  kf_mf_NothingBy : PySem.W.mroIn K c.NothingBy (.ref c.NothingBy) = some true
  kf_wb_NothingBy : PySem.W.mroIn K c.NothingBy (.type "BaseException") = some true
  kf_ga_NothingBy : PySem.W.findIn K (.ref c.NothingBy) "__getattribute__" = some (some (.builtin "BaseException.__getattribute__"))
  kf_gn_NothingBy : PySem.W.findIn K (.ref c.NothingBy) "__getattr__" = some none
  kf_gc_NothingBy : PySem.W.findIn K (.ref c.NothingBy) "__class__" = some (some (.builtin "object.__class__"))
  kf_mo_NothingBy : PySem.W.mroIn K c.NothingBy (.type "object") = some true
  kf_mb_NothingBy : PySem.W.mroIn K c.NothingBy (.type "BaseException") = some true
  kf_mw_NothingBy : PySem.W.mroIn K c.NothingBy (.ref c.WiseError) = some true
  kf_mv_NothingBy : PySem.W.mroIn K c.NothingBy (.type "ValueError") = some true
  kf_m_NothingBy_NoWidth : PySem.W.mroIn K c.NothingBy (.ref c.NoWidth) = some false
  kf_m_NothingBy_NoWord : PySem.W.mroIn K c.NothingBy (.ref c.NoWord) = some false
  kf_m_NothingBy_NoDivisor : PySem.W.mroIn K c.NothingBy (.ref c.NoDivisor) = some false
  kf_m_NothingBy_NoLong : PySem.W.mroIn K c.NothingBy (.ref c.NoLong) = some false
  kf_m_NothingBy_Lesser : PySem.W.mroIn K c.NothingBy (.ref c.Lesser) = some false
  kf_exc_Lesser : PySem.W.excIn K c.Lesser [.type "ValueError", .type "Exception", .type "BaseException", .type "object"] "ValueError.__new__" = true
  kf_exc_NothingBy : PySem.W.excIn K c.NothingBy [.type "ValueError", .type "Exception", .type "BaseException", .type "object"] "ValueError.__new__" = true
  kf_if__WiseError : PySem.W.isClsIn K c.WiseError = true
  kf_tf_WiseError : PySem.W.typeIn K (.ref c.WiseError) = some (.type "type")
  kf_wb_WiseError : PySem.W.mroIn K c.WiseError (.type "BaseException") = some true
/-! numbers of several words -/
def num (B : Int) : List Int → Int
  | [] => 0
  | x :: r => x + B * num B r
structure Wds (B : Int) (ws : List Int) : Prop where
  ok : ∀ x ∈ ws, 0 ≤ x ∧ x < B
theorem Wds.left {B : Int} {us vs : List Int} (h : Wds B (us ++ vs)) : Wds B us := ⟨fun x hx => h.ok x (List.mem_append_left _ hx)⟩
theorem Wds.getD {B : Int} (hB : 0 < B) {ws : List Int} (h : Wds B ws) (j : Nat) : 0 ≤ ws.getD j 0 ∧ ws.getD j 0 < B := by
  by_cases hj : j < ws.length
  · rw [List.getD_eq_getElem?_getD, List.getElem?_eq_getElem hj]
    exact h.ok _ (List.getElem_mem hj)
  · rw [List.getD_eq_getElem?_getD, List.getElem?_eq_none (by omega)]
    exact ⟨Int.le_refl _, hB⟩
theorem Wds.nil (B : Int) : Wds B [] := ⟨fun x hx => by simp at hx⟩
/-! ### sizes -/
theorem pw_bounds {w : Int} (h1 : 4 ≤ w) (h2 : w ≤ 32) : 16 ≤ (2 : Int) ^ w.toNat ∧ (2 : Int) ^ w.toNat ≤ 4294967296 := by
  have a : (2 : Int) ^ 4 ≤ 2 ^ w.toNat := p_mono (by omega)
  have b : (2 : Int) ^ w.toNat ≤ 2 ^ 32 := p_mono (by omega)
  exact ⟨a, b⟩
theorem log_small {m : Int} (h0 : 0 < m) (h : m < 2 ^ 64) : m.natAbs.log2 < 9000 := by
  have h1 : m.natAbs ≠ 0 := by omega
  have h2 : m.natAbs < 2 ^ 64 := by omega
  have := (Nat.log2_lt h1).mpr h2
  omega
theorem cpow1 {w : Int} (h1 : 0 ≤ w) (h2 : w ≤ 100000) : CPow 1 w := ⟨h1, by omega, by decide⟩
theorem cmul_mod {x y m : Int} (h0 : 0 < m) (h : m ≤ 2 ^ 64) : CMul (x % m) y := by
  have a := Int.emod_nonneg x (show m ≠ 0 by omega)
  have b := Int.emod_lt_of_pos x h0
  exact .inl ⟨by omega, by omega⟩
theorem cmul_l {x y : Int} (h0 : 0 ≤ x) (h : x < 2 ^ 64) : CMul x y := .inl ⟨by omega, h⟩
def spWhole : Sp := fun vs H Q _ => ∃ i : Int, vs = [.int i] ∧ Q (.bl true) H
def spNeedW : Sp := fun vs H Q _ => ∃ i : Int, vs = [.int i] ∧ 4 ≤ i ∧ i ≤ 32 ∧ Q .non H
def spLaw (K : PySem.W.Frag) : Sp := fun vs H Q _ => ∃ (a : Addr) (ns : List Int), vs = [.ref a] ∧ SqL K H a (ns.map V.int) ∧ ns.length ≤ 63 ∧ ∀ H', Q (.bl true) H'
def DrOk (xs ms : List Int) : Prop := xs.length = ms.length ∧ ∀ (j : Nat) (x m : Int), xs[j]? = some x → ms[j]? = some m → 0 ≤ x ∧ x < m
def spDrawn : Sp := fun vs H Q _ => ∃ (c : Int) (z : Addr) (ms : List Int), vs = [.int c, .ref z] ∧ H z = some (.lst (ms.map V.int)) ∧ (∀ m ∈ ms, 0 < m ∧ m ≤ 4294967296) ∧ ms.length ≤ 1000 ∧ ∀ (l : Addr) (xs : List Int) H', H l = none → H' l = some (.lst (xs.map V.int)) → Same H H' → DrOk xs ms → Q (.ref l) H'
theorem at_last {xs : List Int} {s : Int} (h : xs[xs.length - 1]? = some s) : atI (xs.map V.int) (-1) = some (.int s) := by
  have hl := (List.getElem?_eq_some_iff.mp h).1
  have e : ixN (xs.map V.int).length (-1) = some (xs.length - 1) := by
    unfold ixN
    rw [if_neg (by decide), List.length_map, if_pos (by omega)]
    congr 1
    omega
  unfold atI
  rw [e]
  show (xs.map V.int)[xs.length - 1]? = _
  rw [List.getElem?_map, h]
  rfl
theorem at_nat {xs : List Int} {j : Nat} {s : Int} (h : xs[j]? = some s) : atI (xs.map V.int) (j : Int) = some (.int s) := atI_nat (by rw [List.getElem?_map, h] <;> rfl)
theorem dr_nil : DrOk [] [] := ⟨rfl, fun j x m h _ => by simp at h⟩
theorem dr_snoc {xs ms : List Int} {x m : Int} (d : DrOk xs ms) (h0 : 0 ≤ x) (h1 : x < m) : DrOk (xs ++ [x]) (ms ++ [m]) := by
  obtain ⟨a, b⟩ := d
  refine ⟨by simp [a], fun j y k hy hk => ?_⟩
  by_cases hj : j < xs.length
  · rw [List.getElem?_append_left hj] at hy
    rw [List.getElem?_append_left (by omega)] at hk
    exact b j y k hy hk
  · rw [List.getElem?_append_right (by omega)] at hy
    rw [List.getElem?_append_right (by omega)] at hk
    have e : j - xs.length = 0 := by
      have := (List.getElem?_eq_some_iff.mp hy).1
      simp at this
      omega
    have e2 : j - ms.length = 0 := by omega
    rw [e] at hy
    rw [e2] at hk
    cases hy
    cases hk
    exact ⟨h0, h1⟩
theorem take_snoc {ms : List Int} {j : Nat} {m : Int} (h : ms[j]? = some m) : ms.take (j + 1) = ms.take j ++ [m] := by
  obtain ⟨hj, e⟩ := List.getElem?_eq_some_iff.mp h
  rw [List.take_succ, h]
  rfl
def lastOk : List V → Bool
  | [] => true
  | x :: r => !decide ((x :: r).getLast? = some (V.int 0))
def isL (w : Int) (xs : List V) : Bool := xs.all (fun x => btw x 0 (1 * 2 ^ w.toNat - 1)) && (xs.isEmpty || !decide (xs.getLast? = some (V.int 0)))
def spHasL : Sp := fun vs H Q _ => ∃ (w : Int) (x : V), vs = [.int w, x] ∧ 4 ≤ w ∧ w ≤ 32 ∧ ((∃ (a : Addr) (xs : List V), x = .ref a ∧ H a = some (.lst xs) ∧ (∀ y ∈ xs, Th H y) ∧ xs.length ≤ 1000 ∧ ∀ H', Same H H' → Q (.bl (isL w xs)) H') ∨ ((x = .non ∨ ∃ (a : Addr) (xs : List V), x = .ref a ∧ H a = some (.tup xs)) ∧ Q (.bl false) H))
/-- a number of several words -/
structure Lg (w : Int) (ws : List Int) : Prop where
  wd : Wds (2 ^ w.toNat) ws
  la : ws.getLast? ≠ some 0
  ln : ws.length ≤ 100
def spNeedL : Sp := fun vs H Q _ => ∃ (w : Int) (a : Addr) (ws : List Int), vs = [.int w, .ref a] ∧ 4 ≤ w ∧ w ≤ 32 ∧ H a = some (.lst (ws.map V.int)) ∧ Lg w ws ∧ ∀ H', Same H H' → Q .non H'
def spLongOf : Sp := fun vs H Q _ => ∃ (w : Int) (ws : List Int), vs = [.int w, .int (num (2 ^ w.toNat) ws)] ∧ 4 ≤ w ∧ w ≤ 32 ∧ Lg w ws ∧ ∀ (a : Addr) H', H a = none → H' a = some (.lst (ws.map V.int)) → Same H H' → Q (.ref a) H'
def spNumOf : Sp := fun vs H Q _ => ∃ (w : Int) (a : Addr) (ws : List Int), vs = [.int w, .ref a] ∧ 4 ≤ w ∧ w ≤ 32 ∧ H a = some (.lst (ws.map V.int)) ∧ Lg w ws ∧ ∀ H', Same H H' → Q (.int (num (2 ^ w.toNat) ws)) H'
theorem isL_of {w : Int} {ws : List Int} (h : Lg w ws) : isL w (ws.map V.int) = true := by
  unfold isL
  rw [Bool.and_eq_true]
  constructor
  · rw [List.all_eq_true]
    intro x hx
    obtain ⟨i, hi, rfl⟩ := List.mem_map.mp hx
    have := h.wd.ok i hi
    show (decide (0 ≤ i) && decide (i ≤ 1 * 2 ^ w.toNat - 1)) = true
    rw [decide_eq_true (by omega), decide_eq_true (by omega)]
    rfl
  · cases ws with
    | nil => rfl
    | cons x r =>
      have e : ((x :: r).map V.int).getLast? ≠ some (V.int 0) := by
        rw [List.getLast?_map]
        intro z
        have la := h.la
        cases hl : (x :: r).getLast? with
        | none => rw [hl] at z; cases z
        | some y =>
          rw [hl] at z la
          have : y = 0 := by
            have := Option.some.inj z
            injection this
          exact la (by rw [this])
      rw [decide_eq_false e]
      rfl
theorem Lg.drop {w : Int} {ws : List Int} (h : Lg w ws) (k : Nat) : Wds (2 ^ w.toNat) (ws.drop k) := ⟨fun x hx => h.wd.ok x (List.mem_of_mem_drop hx)⟩
theorem kit_non_lst (K : PySem.W.Frag) : PySem.W.kitOne K (.type "NoneType") (.type "list") = some false := by with_unfolding_all rfl
theorem kit_tup_lst (K : PySem.W.Frag) : PySem.W.kitOne K (.type "tuple") (.type "list") = some false := by with_unfolding_all rfl
def spLNum : Sp := fun vs H Q _ => ∃ (a : Addr) (ws : List Int) (w : Int), vs = [.ref a, .int w] ∧ 4 ≤ w ∧ w ≤ 32 ∧ H a = some (.lst (ws.map V.int)) ∧ Lg w ws ∧ ∀ H', Same H H' → Q (.int (num (2 ^ w.toNat) ws)) H'
def spSame : Sp := fun vs H Q _ => ∃ (a b : Addr) (ws : List Int), vs = [.ref a, .ref b] ∧ H a = some (.lst (ws.map V.int)) ∧ H b = some (.lst (ws.map V.int)) ∧ ws.length ≤ 1000 ∧ Q (.bl true) H
def spRowR : Sp := fun vs H Q _ => ∃ c : Int, vs = [.int c] ∧ ∀ (t a : Addr) (w : Int) (ws : List Int) (pl : Int) H', H t = none → H a = none → H' t = some (.tup [.int w, .ref a, .int pl]) → H' a = some (.lst (ws.map V.int)) → Lg w ws → ws.length ≤ 45 → 4 ≤ w → w ≤ 32 → 0 ≤ pl → Same H H' → Q (.ref t) H'
def spNone : Sp := fun vs H Q _ => ∃ (w : Int) (a : Addr) (ws : List Int) (pl : Int), vs = [.int w, .ref a, .int pl] ∧ 4 ≤ w ∧ w ≤ 32 ∧ H a = some (.lst (ws.map V.int)) ∧ ws.length ≤ 45 ∧ 0 ≤ pl ∧ ∀ H', Same H H' → Q (.bl true) H'
theorem isL_bad {w : Int} {xs : List V} {j : Nat} {x : V} (hj : xs[j]? = some x) (hb : btw x 0 (1 * 2 ^ w.toNat - 1) = false) : isL w xs = false := by
  unfold isL
  have : xs.all (fun x => btw x 0 (1 * 2 ^ w.toNat - 1)) = false := by
    rw [List.all_eq_false]
    exact ⟨x, List.mem_of_getElem? hj, by rw [hb]; decide⟩
  rw [this, Bool.false_and]
theorem isL_zero {w : Int} (xs : List V) : isL w (xs ++ [V.int 0]) = false := by
  unfold isL
  rw [List.getLast?_append, decide_eq_true (by rfl)]
  cases xs <;> (rw [show ([] : List V) = [] from rfl]; simp)
theorem iteC {c A B : Prop} [Decidable c] (h1 : c → A) (h2 : ¬ c → B) : if decide c = true then A else B := by
  by_cases h : c
  · exact iteD h (h1 h)
  · exact iteDN h (h2 h)
theorem iteCN {c A B : Prop} [Decidable c] (h1 : ¬ c → A) (h2 : c → B) : if (!decide c) = true then A else B := by
  by_cases h : c
  · exact iteNS h (h2 h)
  · exact iteN h (h1 h)
theorem iteI {a b : Int} {A B : Prop} (h1 : a = b → A) (h2 : a ≠ b → B) : if decide (V.int a = V.int b) = true then A else B := iteC (fun z => h1 (by injection z)) (fun z => h2 (fun e => z (congrArg V.int e)))
theorem iteIN {a b : Int} {A B : Prop} (h1 : a ≠ b → A) (h2 : a = b → B) : if (!decide (V.int a = V.int b)) = true then A else B := iteCN (fun z => h1 (fun e => z (congrArg V.int e))) (fun z => h2 (by injection z))
/-- the side of a rule -/
local macro_rules | `(tactic| walk_at "s") => `(tactic| first
  | omega | assumption | exact ty_int | exact rfl | (dsimp only; omega) | exact cpow1 (by omega) (by omega) | exact ⟨by decide, by decide⟩ | exact ⟨by omega, log_small (by omega) (by omega)⟩
  | exact .inr ⟨by decide, by decide⟩ | exact .inl ⟨by decide, by decide⟩ | exact .inl ⟨by omega, by omega⟩ | exact .inr ⟨by omega, by omega⟩ | exact ⟨b200 (by omega) (by omega), b200 (by omega) (by omega)⟩
  | exact ⟨by decide, by decide, by decide⟩ | exact Nat.le_of_ble_eq_true rfl)
local macro_rules | `(tactic| walk_at "q") => `(tactic| first | exact SqT.of (by first | assumption | exact upd_same) | exact SqL.of (by first | assumption | exact upd_same) | assumption)
/-- on, as far as nothing is to be told -/
local macro_rules | `(tactic| walk_at "o") => `(tactic| repeat (first
  | refine ⟨_, rfl, ?_⟩ | refine ⟨_, _, rfl, rfl, ?_⟩ | with_reducible refine iteF ?_ | with_reducible refine iteT ?_
  | refine ⟨_, _, _, _, rfl, rfl, (by walk_at "q"), rfl, ?_⟩
  | refine And.intro (by walk_at "s") ?_
  | refine ⟨_, _, rfl, ?_⟩ | refine ⟨_, _, _, rfl, ?_⟩
  | refine ⟨_, _, _, _, _, rfl, rfl, TyOf.int _, kit_int_int _, ?_⟩ | refine ⟨_, _, _, _, _, rfl, rfl, TyOf.int _, kit_int_bool _, ?_⟩
  | refine ⟨_, _, _, _, _, rfl, rfl, TyOf.bl _, rfl, ?_⟩
  | refine ⟨_, _, _, _, _, rfl, rfl, TyOf.tup (by assumption), rfl, ?_⟩
  | refine ⟨_, _, rfl, .inr (SqT.of (by assumption)), ?_⟩ | refine ⟨_, _, rfl, .inl (SqL.of (by assumption)), ?_⟩
  | with_reducible refine iteD (by omega) ?_ | with_reducible refine iteDN (by omega) ?_ | with_reducible refine iteN (by omega) ?_ | with_reducible refine iteNS (by omega) ?_
  | with_reducible refine iteNS rfl ?_))
/-- a way parts -/
local macro_rules | `(tactic| walk_at "c") => `(tactic| first | with_reducible refine iteI ?_ ?_ | with_reducible refine iteIN ?_ ?_ | with_reducible refine iteC ?_ ?_ | with_reducible refine iteCN ?_ ?_ | refine ite2 ?_ ?_)
local macro_rules | `(tactic| walk_at "n") => `(tactic| (intro z; injection z with z; revert z; decide +kernel))
/-! ### small flat things, and how they are shown -/
def Tx (z : Str) : Prop := z.length ≤ 20 ∧ ∀ c ∈ z.cps.toList, c < 128
def FV (v : V) : Prop := v = .non ∨ (∃ b, v = .bl b) ∨ (∃ i : Int, v = .int i ∧ -(2 ^ 80) < i ∧ i < 2 ^ 80) ∨ ∃ x, v = .str x ∧ Tx x
structure SmD (d : PyData) (n m : Nat) : Prop where
  sh : d.showable = true
  lv : PyData.leavesShort 100 d = true
  dp : d.depth ≤ n
  wt : d.weight ≤ m
  hd : d.hasDict = false
theorem int_len {i : Int} (h0 : -(2 ^ 80) < i) (h1 : i < 2 ^ 80) : (Str.ofString (toString i)).length ≤ 100 := by
  cases i with
  | ofNat m =>
    have e : toString (Int.ofNat m) = m.repr := rfl
    rw [e, PySem.ofString_length]
    exact Nat.le_trans (nat_repr_length_le (k := 80) (by decide) (by have : (m : Int) < 2 ^ 80 := h1; omega)) (by decide)
  | negSucc m =>
    have e : toString (Int.negSucc m) = "-" ++ (m + 1).repr := rfl
    rw [e, PySem.ofString_length, String.length_append]
    have := nat_repr_length_le (n := m + 1) (k := 80) (by decide) (by have := Int.negSucc_eq m; omega)
    have e1 : ("-" : String).length = 1 := rfl
    omega
theorem int_log {i : Int} (h0 : -(2 ^ 80) < i) (h1 : i < 2 ^ 80) : i.natAbs.log2 < 80 := by
  by_cases z : i.natAbs = 0
  · rw [z]; decide
  · exact (Nat.log2_lt z).mpr (by omega)
theorem tx_sm {x : Str} (h : Tx x) : SmD (.str x) 0 100 := by
  refine ⟨by simp [PyData.showable], ?_, by simp [PyData.depth], ?_, by simp [PyData.hasDict]⟩
  · rw [PyData.leavesShort.eq_4, List.all_eq_true]
    intro c hc
    exact decide_eq_true (Nat.lt_trans (h.2 c hc) (by decide))
  · rw [PyData.weight.eq_1]
    exact Nat.le_trans h.1 (by decide)
theorem int_sm {i : Int} (h0 : -(2 ^ 80) < i) (h1 : i < 2 ^ 80) : SmD (.int i) 0 100 := by
  have l := int_log h0 h1
  refine ⟨by simp only [PyData.showable]; exact decide_eq_true (by omega), ?_, by simp [PyData.depth], ?_, by simp [PyData.hasDict]⟩
  · rw [PyData.leavesShort.eq_3]
    exact decide_eq_true (by simp only [PyData.shown]; exact int_len h0 h1)
  · rw [PyData.weight.eq_5]
    split <;> omega
theorem FV.sm {v : V} (h : FV v) : ∃ d, FD v d ∧ SmD d 0 100 := by
  rcases h with rfl | ⟨b, rfl⟩ | ⟨i, rfl, h0, h1⟩ | ⟨x, rfl, h⟩
  · exact ⟨_, .non, by simp [PyData.showable], by simp [PyData.leavesShort], by simp [PyData.depth], by simp [PyData.weight], by simp [PyData.hasDict]⟩
  · exact ⟨_, .bl b, by simp [PyData.showable], by simp [PyData.leavesShort], by simp [PyData.depth], by simp [PyData.weight], by simp [PyData.hasDict]⟩
  · exact ⟨_, .int i, int_sm h0 h1⟩
  · exact ⟨_, .str x, tx_sm h⟩
theorem FV.th {v : V} {H : Hp} (h : FV v) : Th H v := by
  rcases h with rfl | ⟨b, rfl⟩ | ⟨i, rfl, _⟩ | ⟨x, rfl, _⟩
  · exact .non
  · exact .bl b
  · exact .int i
  · exact .str x
theorem FD.rd {v : V} {d : PyData} {H : Hp} (h : FD v d) : RD H v d := by
  cases h with
  | non => exact .non
  | bl b => exact .bl b
  | int i => exact .int i
  | str x => exact .str x
/-- lists of small things -/
structure SmL (ds : List PyData) (n m : Nat) : Prop where
  sh : PyData.showableAll ds = true
  lv : PyData.leavesShortAll 100 ds = true
  dp : PyData.depthAll ds ≤ n
  wt : PyData.weightAll ds ≤ m
  hd : PyData.hasDictAll ds = false
theorem SmL.nil {n m : Nat} : SmL [] n m := ⟨by simp [PyData.showableAll], by simp [PyData.leavesShortAll], by simp [PyData.depthAll], by simp [PyData.weightAll], by simp [PyData.hasDictAll]⟩
theorem SmL.cons {d : PyData} {ds : List PyData} {n m k : Nat} (a : SmD d n k) (b : SmL ds n m) : SmL (d :: ds) n (m + k + 1) := by
  refine ⟨by simp [PyData.showableAll, a.sh, b.sh], by simp [PyData.leavesShortAll, a.lv, b.lv], ?_, ?_, by simp [PyData.hasDictAll, a.hd, b.hd]⟩
  · rw [PyData.depthAll.eq_2]; exact Nat.max_le.mpr ⟨a.dp, b.dp⟩
  · rw [PyData.weightAll.eq_2]; have := a.wt; have := b.wt; omega
theorem SmL.list {ds : List PyData} {n m : Nat} (a : SmL ds n m) : SmD (.list ds) (n + 1) m := by
  refine ⟨by simp [PyData.showable, a.sh], by simp [PyData.leavesShort, a.lv], by rw [PyData.depth.eq_1]; exact Nat.succ_le_succ a.dp, by rw [PyData.weight.eq_2]; exact a.wt, by simp [PyData.hasDict, a.hd]⟩
theorem SmL.tup {ds : List PyData} {n m : Nat} (a : SmL ds n m) : SmD (.tuple ds) (n + 1) m := by
  refine ⟨by simp [PyData.showable, a.sh], by simp [PyData.leavesShort, a.lv], by rw [PyData.depth.eq_2]; exact Nat.succ_le_succ a.dp, by rw [PyData.weight.eq_3]; exact a.wt, by simp [PyData.hasDict, a.hd]⟩
theorem sh_fits {d : PyData} {m : Nat} (h : PyData.leavesShort 100 d = true) (w : d.weight ≤ m) (hm : m ≤ 100000) : d.shown.length ≤ sizeLine := by
  have := PyData.shown_le 100 (by decide) d h
  have z : (10300000 : Nat) ≤ sizeLine := by decide
  have : (100 + 2) * d.weight ≤ 102 * 100000 := Nat.mul_le_mul_left 102 (Nat.le_trans w hm)
  omega
/-! ### what is refused, and with what -/
inductive Rz where
  | wd (v : V)
  | lg (v : V)
  | wo (v : V)
  | dv (v : V)
  | le
  | no
def Rz.cls (c : Ad) : Rz → Addr
  | .wd _ => c.NoWidth
  | .lg _ => c.NoLong
  | .wo _ => c.NoWord
  | .dv _ => c.NoDivisor
  | .le => c.Lesser
  | .no => c.NothingBy
def Rz.word : Rz → Str
  | .wd _ => "width"
  | .lg _ => "long"
  | .wo _ => "word"
  | .dv _ => "divisor"
  | .le => "lesser"
  | .no => "nothing"
def Rz.fld : Rz → Option V
  | .wd v => some v
  | .lg v => some v
  | .wo v => some v
  | .dv v => some v
  | .le => none
  | .no => none
def Fld (z : Rz) (od : Option Addr) (H : Hp) : Prop := (∃ v d, z.fld = some v ∧ od = some d ∧ H d = some (.xd [("found", v)])) ∨ (z.fld = none ∧ od = none)
def EXP (c : Ad) (z : Rz) (H : Hp) (E : XK) : Prop := ∀ od H', Same H H' → Fld z od H' → E (.ref (z.cls c)) od H'
theorem EXP.same {c : Ad} {z : Rz} {H H1 : Hp} {E : XK} (h : EXP c z H E) (s : Same H H1) : EXP c z H1 E := fun od H' s' f => h od H' (s.trans s') f
theorem EXP.new {c : Ad} {z : Rz} {H : Hp} {E : XK} (h : EXP c z H E) {v : V} (e : z.fld = some v) (d : Addr) (hd : H d = none) : E (.ref (z.cls c)) (some d) (upd H d (.xd [("found", v)])) := h _ _ (same_new hd _) (.inl ⟨v, d, e, rfl, upd_same⟩)
inductive LV (H : Hp) : V → Option (List V) → Prop where
  | lst {a : Addr} {xs : List V} (h : H a = some (.lst xs)) (t : ∀ y ∈ xs, Th H y) (n : xs.length ≤ 1000) : LV H (.ref a) (some xs)
  | int (i : Int) : LV H (.int i) none
  | bl (b : Bool) : LV H (.bl b) none
  | str (x : Str) : LV H (.str x) none
  | non : LV H .non none
  | tup {a : Addr} {xs : List V} (h : H a = some (.tup xs)) : LV H (.ref a) none
  | dct {a : Addr} {kvs : List (Key × V)} (h : H a = some (.dK kvs)) : LV H (.ref a) none
theorem LV.th {H : Hp} {v : V} {o : Option (List V)} (l : LV H v o) : Th H v := by
  cases l with
  | lst h _ _ => exact .lst h
  | int i => exact .int i
  | bl b => exact .bl b
  | str x => exact .str x
  | non => exact .non
  | tup h => exact .tup h
  | dct h => exact .dct h
theorem LV.same {H H' : Hp} {v : V} {o : Option (List V)} (l : LV H v o) (s : Same H H') : LV H' v o := by
  cases l with
  | lst h t n => exact .lst (s _ _ h) (fun y hy => (t y hy).same s) n
  | int i => exact .int i
  | bl b => exact .bl b
  | str x => exact .str x
  | non => exact .non
  | tup h => exact .tup (s _ _ h)
  | dct h => exact .dct (s _ _ h)
theorem kit_int_lst (K : PySem.W.Frag) : PySem.W.kitOne K (.type "int") (.type "list") = some false := by with_unfolding_all rfl
theorem kit_bl_lst (K : PySem.W.Frag) : PySem.W.kitOne K (.type "bool") (.type "list") = some false := by with_unfolding_all rfl
theorem kit_str_lst (K : PySem.W.Frag) : PySem.W.kitOne K (.type "str") (.type "list") = some false := by with_unfolding_all rfl
theorem kit_dct_lst (K : PySem.W.Frag) : PySem.W.kitOne K (.type "dict") (.type "list") = some false := by with_unfolding_all rfl
theorem LV.parts {K : PySem.W.Frag} {H : Hp} {v : V} {o : Option (List V)} (l : LV H v o) : (∃ a xs, v = .ref a ∧ o = some xs ∧ H a = some (.lst xs) ∧ (∀ y ∈ xs, Th H y) ∧ xs.length ≤ 1000) ∨ (o = none ∧ ∃ ty, TyOf K H v ty ∧ PySem.W.kitOne K ty (.type "list") = some false) := by
  cases l with
  | lst h t n => exact .inl ⟨_, _, rfl, rfl, h, t, n⟩
  | int i => exact .inr ⟨rfl, _, TyOf.int _, kit_int_lst _⟩
  | bl b => exact .inr ⟨rfl, _, TyOf.bl _, kit_bl_lst _⟩
  | str x => exact .inr ⟨rfl, _, TyOf.str _, kit_str_lst _⟩
  | non => exact .inr ⟨rfl, _, TyOf.non, kit_non_lst _⟩
  | tup h => exact .inr ⟨rfl, _, TyOf.tup h, kit_tup_lst _⟩
  | dct h => exact .inr ⟨rfl, _, TyOf.dK h, kit_dct_lst _⟩
def hasO (w : Int) : Option (List V) → Bool
  | none => false
  | some xs => isL w xs
def iv : V → Int
  | .int i => i
  | _ => 0
def vW (v : V) : Option Rz := if btw v 4 32 = true then none else some (.wd v)
def vL (v x : V) (ox : Option (List V)) : Option Rz := if btw v 4 32 = true then (if hasO (iv v) ox = true then none else some (.lg x)) else some (.wd v)
def vLs (v x : V) (ox : Option (List V)) (y : V) (oy : Option (List V)) : Option Rz := match vL v x ox with
  | some z => some z
  | none => vL v y oy
def nilO : Option (List V) → Option Rz
  | some [] => some .no
  | _ => none
def lenO : Option (List V) → Nat
  | some xs => xs.length
  | none => 0
def vDiv (v x : V) (ox : Option (List V)) (y : V) (oy : Option (List V)) : Option Rz := match vLs v x ox y oy with
  | some z => some z
  | none => nilO oy
def vTurn (v x : V) (ox : Option (List V)) : Option Rz := match vL v x ox with
  | some z => some z
  | none => nilO ox
def vGap (v x : V) (ox : Option (List V)) (y : V) (oy : Option (List V)) : Option Rz := match vLs v x ox y oy with
  | some z => some z
  | none => if lenO ox < lenO oy then some .le else none
def wdB (v y : V) : Bool := btw y 0 (1 * 2 ^ (iv v).toNat - 1)
def vTw (v x : V) (ox : Option (List V)) (y : V) : Option Rz := match vL v x ox with
  | some z => some z
  | none => if wdB v y = true then none else some (.wo y)
def vT1 (v y : V) : Option Rz := match vW v with
  | some z => some z
  | none => if wdB v y = true then none else some (.wo y)
def vLo (v x : V) : Option Rz := match vW v with
  | some z => some z
  | none => if isI x && decide (0 ≤ iv x) then none else some (.lg x)
def vG (v hi lo wd : V) : Option Rz := match vW v with
  | some z => some z
  | none => if wdB v hi = false then some (.wo hi) else if wdB v lo = false then some (.wo lo) else if (wdB v wd && decide (1 * 2 ^ (iv v - 1).toNat ≤ iv wd)) = false then some (.dv wd) else if iv hi > iv wd then some (.wo hi) else none
theorem btw_int {v : V} {lo hi : Int} (h : btw v lo hi = true) : ∃ i, v = .int i ∧ lo ≤ i ∧ i ≤ hi := by
  cases v with
  | int i =>
    have h' : (decide (lo ≤ i) && decide (i ≤ hi)) = true := h
    rw [Bool.and_eq_true, decide_eq_true_eq, decide_eq_true_eq] at h'
    exact ⟨i, rfl, h'.1, h'.2⟩
  | _ => cases h
theorem btw_of {i lo hi : Int} (a : lo ≤ i) (b : i ≤ hi) : btw (.int i) lo hi = true := by
  show (decide (lo ≤ i) && decide (i ≤ hi)) = true
  rw [decide_eq_true a, decide_eq_true b]
  rfl
theorem btw_out {i lo hi : Int} (h : i < lo ∨ hi < i) : btw (.int i) lo hi = false := by
  cases e : btw (.int i) lo hi with
  | false => rfl
  | true =>
    obtain ⟨j, ej, a, b⟩ := btw_int e
    cases ej
    omega
theorem vW_bad {v : V} (h : btw v 4 32 = false) : vW v = some (.wd v) := by unfold vW; rw [h]; rfl
theorem vW_ok {v : V} (h : btw v 4 32 = true) : vW v = none := by unfold vW; rw [h]; rfl
theorem vL_badW {v x : V} {ox : Option (List V)} (h : btw v 4 32 = false) : vL v x ox = some (.wd v) := by unfold vL; rw [h]; rfl
theorem vL_bad {w : Int} {x : V} {ox : Option (List V)} (h1 : 4 ≤ w) (h2 : w ≤ 32) (h : hasO w ox = false) : vL (.int w) x ox = some (.lg x) := by unfold vL; rw [btw_of h1 h2, if_pos rfl]; show (if hasO w ox = true then none else _) = _; rw [h]; rfl
theorem vL_ok {w : Int} {x : V} {ox : Option (List V)} (h1 : 4 ≤ w) (h2 : w ≤ 32) (h : hasO w ox = true) : vL (.int w) x ox = none := by unfold vL; rw [btw_of h1 h2, if_pos rfl]; show (if hasO w ox = true then none else _) = _; rw [h]; rfl
theorem vL_none {v x : V} {ox : Option (List V)} (h : vL v x ox = none) : ∃ w, v = .int w ∧ 4 ≤ w ∧ w ≤ 32 ∧ hasO w ox = true := by
  unfold vL at h
  cases b : btw v 4 32 with
  | false => rw [b] at h; cases h
  | true =>
    obtain ⟨w, rfl, h1, h2⟩ := btw_int b
    rw [b, if_pos rfl] at h
    refine ⟨w, rfl, h1, h2, ?_⟩
    cases e : hasO w ox with
    | true => rfl
    | false =>
      have h' : (if hasO w ox = true then none else some (Rz.lg x)) = none := h
      rw [e] at h'
      cases h'
theorem vW_none {v : V} (h : vW v = none) : ∃ w, v = .int w ∧ 4 ≤ w ∧ w ≤ 32 := by
  unfold vW at h
  cases b : btw v 4 32 with
  | false => rw [b] at h; cases h
  | true => exact btw_int b
theorem vL_W {v x : V} {ox : Option (List V)} {z : Rz} (h : vW v = some z) : vL v x ox = some z := by
  cases b : btw v 4 32 with
  | true => rw [vW_ok b] at h; cases h
  | false => rw [vL_badW b, ← vW_bad b]; exact h
theorem vLs_1 {v x y : V} {ox oy : Option (List V)} {z : Rz} (h : vL v x ox = some z) : vLs v x ox y oy = some z := by unfold vLs; rw [h]
theorem vLs_2 {v x y : V} {ox oy : Option (List V)} {u : Option Rz} (h : vL v x ox = none) (h2 : vL v y oy = u) : vLs v x ox y oy = u := by unfold vLs; rw [h]; exact h2
theorem vDiv_1 {v x y : V} {ox oy : Option (List V)} {z : Rz} (h : vLs v x ox y oy = some z) : vDiv v x ox y oy = some z := by unfold vDiv; rw [h]
theorem vDiv_2 {v x y : V} {ox oy : Option (List V)} {u : Option Rz} (h : vLs v x ox y oy = none) (h2 : nilO oy = u) : vDiv v x ox y oy = u := by unfold vDiv; rw [h]; exact h2
theorem vGap_1 {v x y : V} {ox oy : Option (List V)} {z : Rz} (h : vLs v x ox y oy = some z) : vGap v x ox y oy = some z := by unfold vGap; rw [h]
theorem vTurn_1 {v x : V} {ox : Option (List V)} {z : Rz} (h : vL v x ox = some z) : vTurn v x ox = some z := by unfold vTurn; rw [h]
theorem vTw_1 {v x y : V} {ox : Option (List V)} {z : Rz} (h : vL v x ox = some z) : vTw v x ox y = some z := by unfold vTw; rw [h]
theorem vLs_none {v x y : V} {ox oy : Option (List V)} (h : vLs v x ox y oy = none) : vL v x ox = none ∧ vL v y oy = none := by
  unfold vLs at h
  cases e : vL v x ox with
  | some z => rw [e] at h; cases h
  | none => rw [e] at h; exact ⟨rfl, h⟩
theorem nilO_some {o : Option (List V)} {z : Rz} (h : nilO o = some z) : o = some [] ∧ z = .no := by
  unfold nilO at h
  split at h
  · cases h; exact ⟨rfl, rfl⟩
  · cases h
theorem one_ok {w : Int} (h1 : 4 ≤ w) (h2 : w ≤ 32) : hasO w (some [.int 1]) = true := by
  have pb := pw_bounds h1 h2
  show isL w [.int 1] = true
  unfold isL
  rw [show [V.int 1].all (fun x => btw x 0 (1 * 2 ^ w.toNat - 1)) = true by rw [List.all_cons, btw_of (by decide) (by omega)]; rfl]
  rfl
theorem t1_tw {v x y : V} {z : Rz} (h : vT1 v y = some z) : vTw v x (some [.int 1]) y = some z := by
  unfold vT1 at h
  cases b : vW v with
  | some z' => rw [b] at h; cases h; exact vTw_1 (vL_W b)
  | none =>
    rw [b] at h
    obtain ⟨w, rfl, h1, h2⟩ := vW_none b
    unfold vTw
    rw [vL_ok h1 h2 (one_ok h1 h2)]
    exact h
def SPV (c : Ad) (u : Option Rz) (H : Hp) (Q : VK) (E : XK) : Prop := (∀ z, u = some z → EXP c z H E) ∧ (u = none → ∀ H', Same H H' → Q .non H')
theorem SPV.some {c : Ad} {u : Option Rz} {z : Rz} {H : Hp} {Q : VK} {E : XK} (e : u = some z) (q : EXP c z H E) : SPV c u H Q E := ⟨fun z' h => by rw [e] at h; cases h; exact q, fun h => by rw [e] at h; cases h⟩
def spHasO : Sp := fun vs H Q _ => ∃ (w : Int) (x : V) (ox : Option (List V)), vs = [.int w, x] ∧ 4 ≤ w ∧ w ≤ 32 ∧ LV H x ox ∧ ∀ H', Same H H' → Q (.bl (hasO w ox)) H'
def spNW (c : Ad) : Sp := fun vs H Q E => ∃ v : V, vs = [v] ∧ Th H v ∧ (∀ z, vW v = some z → EXP c z H E) ∧ (vW v = none → Q .non H)
def spNL (c : Ad) : Sp := fun vs H Q E => ∃ (v x : V) (ox : Option (List V)), vs = [v, x] ∧ Th H v ∧ LV H x ox ∧ SPV c (vL v x ox) H Q E
def spNLs (c : Ad) : Sp := fun vs H Q E => ∃ (v x y : V) (ox oy : Option (List V)), vs = [v, x, y] ∧ Th H v ∧ LV H x ox ∧ LV H y oy ∧ SPV c (vLs v x ox y oy) H Q E
def spIsL (c : Ad) : Sp := fun vs H Q E => ∃ (v x : V) (ox : Option (List V)), vs = [v, x] ∧ Th H v ∧ LV H x ox ∧ (∀ z, vW v = some z → EXP c z H E) ∧ (∀ w : Int, v = .int w → 4 ≤ w → w ≤ 32 → ∀ H', Same H H' → Q (.bl (hasO w ox)) H')
def spD1 (c : Ad) : Sp := fun vs H _ E => ∃ (v x : V) (ox : Option (List V)) (z : Rz), vs = [v, x] ∧ Th H v ∧ LV H x ox ∧ vL v x ox = some z ∧ EXP c z H E
def spD1k (c : Ad) : Sp := fun vs H _ E => ∃ (v x k : V) (ox : Option (List V)) (z : Rz), vs = [v, x, k] ∧ Th H v ∧ LV H x ox ∧ vL v x ox = some z ∧ EXP c z H E
def spTurn (c : Ad) : Sp := fun vs H _ E => ∃ (v x : V) (ox : Option (List V)) (z : Rz), vs = [v, x] ∧ Th H v ∧ LV H x ox ∧ vTurn v x ox = some z ∧ EXP c z H E
def spTwD (c : Ad) : Sp := fun vs H _ E => ∃ (v x y : V) (ox : Option (List V)) (z : Rz), vs = [v, x, y] ∧ Th H v ∧ LV H x ox ∧ Th H y ∧ vTw v x ox y = some z ∧ EXP c z H E
def spLoD (c : Ad) : Sp := fun vs H _ E => ∃ (v x : V) (z : Rz), vs = [v, x] ∧ Th H v ∧ Th H x ∧ vLo v x = some z ∧ EXP c z H E
def spD2 (c : Ad) : Sp := fun vs H _ E => ∃ (v x y : V) (ox oy : Option (List V)) (z : Rz), vs = [v, x, y] ∧ Th H v ∧ LV H x ox ∧ LV H y oy ∧ vLs v x ox y oy = some z ∧ EXP c z H E
def spGp (c : Ad) : Sp := fun vs H _ E => ∃ (v x y : V) (ox oy : Option (List V)) (z : Rz), vs = [v, x, y] ∧ Th H v ∧ LV H x ox ∧ LV H y oy ∧ vGap v x ox y oy = some z ∧ EXP c z H E
def spDv (c : Ad) : Sp := fun vs H _ E => ∃ (v x y : V) (ox oy : Option (List V)) (z : Rz), vs = [v, x, y] ∧ Th H v ∧ LV H x ox ∧ LV H y oy ∧ vDiv v x ox y oy = some z ∧ EXP c z H E
def spDv6 (c : Ad) : Sp := fun vs H _ E => ∃ (v x y p q r : V) (ox oy : Option (List V)) (z : Rz), vs = [v, x, y, p, q, r] ∧ Th H v ∧ LV H x ox ∧ LV H y oy ∧ vDiv v x ox y oy = some z ∧ EXP c z H E
def spGs (c : Ad) : Sp := fun vs H _ E => ∃ (v hi lo wd : V) (z : Rz), vs = [v, hi, lo, wd] ∧ Th H v ∧ Th H hi ∧ Th H lo ∧ Th H wd ∧ vG v hi lo wd = some z ∧ EXP c z H E
def spWst (c : Ad) : Sp := fun vs H _ E => ∃ (v : V) (z : Rz), vs = [v] ∧ Th H v ∧ vW v = some z ∧ EXP c z H E
def spCmp8 : Sp := fun vs H Q _ => ∃ (a b : Addr) (xs ys : List Int), vs = [.ref a, .ref b] ∧ H a = some (.lst (xs.map V.int)) ∧ H b = some (.lst (ys.map V.int)) ∧ xs.length ≤ 1000 ∧ ys.length ≤ 1000 ∧ ((xs = ys ∧ Q (.int 0) H) ∨ (xs.length < ys.length ∧ Q (.int (-1)) H))
def spLC8 (c : Ad) : Sp := fun vs H Q E => ∃ (v x y : V) (ox oy : Option (List V)), vs = [v, x, y] ∧ Th H v ∧ LV H x ox ∧ LV H y oy ∧ (∀ z, vLs v x ox y oy = some z → EXP c z H E) ∧ (vLs v x ox y oy = none → ox = oy ∧ ∀ H', Same H H' → Q (.int 0) H')
def OneOk (n : Int) (v x : V) (ox : Option (List V)) (z : Rz) : Prop := vL v x ox = some z ∨ (n = 3 ∧ vTurn v x ox = some z)
def TwoOk (n : Int) (v x : V) (ox : Option (List V)) (y : V) (oy : Option (List V)) (z : Rz) : Prop := vLs v x ox y oy = some z ∨ (2 ≤ n ∧ n ≤ 3 ∧ vGap v x ox y oy = some z) ∨ (6 ≤ n ∧ vDiv v x ox y oy = some z)
def ElsOk (H : Hp) (n : Int) (v x : V) (z : Rz) : Prop := (n = 0 ∧ Th H x ∧ vLo v x = some z) ∨ (n = 1 ∧ Th H x ∧ vT1 v x = some z) ∨ ((n = 2 ∨ n = 3) ∧ ∃ (t : Addr) (a b d : V), x = .ref t ∧ H t = some (.tup [a, b, d]) ∧ Th H a ∧ Th H b ∧ Th H d ∧ vG v a b d = some z) ∨ (n = 4 ∧ (∃ ox, LV H x ox) ∧ vW v = some z) ∨ (n = 5 ∧ vW v = some z)
def AskOk (H : Hp) (door n : Int) (v x y : V) (z : Rz) : Prop := Th H v ∧ ((door = 1 ∧ 0 ≤ n ∧ n < 6 ∧ ∃ ox, LV H x ox ∧ OneOk n v x ox z) ∨ (door = 2 ∧ 0 ≤ n ∧ n < 10 ∧ ∃ ox oy, LV H x ox ∧ LV H y oy ∧ TwoOk n v x ox y oy z) ∨ (door = 3 ∧ 0 ≤ n ∧ n < 6 ∧ ElsOk H n v x z))
def spOne (c : Ad) : Sp := fun vs H _ E => ∃ (n : Int) (v x : V) (ox : Option (List V)) (z : Rz), vs = [.int n, v, x] ∧ 0 ≤ n ∧ n < 6 ∧ Th H v ∧ LV H x ox ∧ OneOk n v x ox z ∧ EXP c z H E
def spTwo (c : Ad) : Sp := fun vs H _ E => ∃ (n : Int) (v x y : V) (ox oy : Option (List V)) (z : Rz), vs = [.int n, v, x, y] ∧ 0 ≤ n ∧ n < 10 ∧ Th H v ∧ LV H x ox ∧ LV H y oy ∧ TwoOk n v x ox y oy z ∧ EXP c z H E
def spElse (c : Ad) : Sp := fun vs H _ E => ∃ (n : Int) (v x : V) (z : Rz), vs = [.int n, v, x] ∧ 0 ≤ n ∧ n < 6 ∧ Th H v ∧ ElsOk H n v x z ∧ EXP c z H E
def spAsk (c : Ad) : Sp := fun vs H _ E => ∃ (door n : Int) (v x y : V) (z : Rz), vs = [.int door, .int n, v, x, y] ∧ AskOk H door n v x y z ∧ EXP c z H E
def spNamed (c : Ad) (a : Addr) (cls : Value) : Sp := fun vs H Q _ => ∃ z : Rz, vs = [.ref a] ∧ cls = .ref (z.cls c) ∧ Q (.str z.word) H
/-- a thing that may be compared and shown -/
structure Gt (H : Hp) (v : V) : Prop where
  th : Th H v
  sm : Sm1 H v
  rp : ∃ d : PyData, Rp H v d ∧ d.showable = true ∧ d.depth ≤ 20 ∧ d.shown.length ≤ sizeLine
def GtS (H : Hp) (v : V) : Prop := ∀ H', Same H H' → Gt H' v
theorem GtS.same {H H' : Hp} {v : V} (g : GtS H v) (s : Same H H') : GtS H' v := fun H2 s2 => g H2 (s.trans s2)
def spRef (_ : Ad) : Sp := fun vs H Q _ => ∃ (r : Addr) (door n : Int) (v x y : V) (z : Rz) (th : V), vs = [.ref r, .str z.word, th] ∧ H r = some (.tup [.int door, .int n, v, x, y]) ∧ AskOk H door n v x y z ∧ ((z.fld = some th ∧ GtS H th) ∨ z.fld = none) ∧ ∀ H', Same H H' → Q (.bl true) H'
def BadLo (H : Hp) (w : Int) (v : V) : Prop := (∃ ov, LV H v ov ∧ hasO w ov = false) ∧ GtS H v
theorem BadLo.same {H H' : Hp} {w : Int} {v : V} (b : BadLo H w v) (s : Same H H') : BadLo H' w v := by
  obtain ⟨⟨ov, l, h⟩, g⟩ := b
  exact ⟨⟨ov, l.same s, h⟩, g.same s⟩
def spBadL : Sp := fun vs H Q _ => ∃ n w : Int, vs = [.int n, .int w] ∧ 4 ≤ w ∧ w ≤ 32 ∧ ∀ v H', BadLo H' w v → Same H H' → Q v H'
def BadWo (H : Hp) (w : Int) (v : V) : Prop := btw v 0 (1 * 2 ^ w.toNat - 1) = false ∧ GtS H v
def spBadWd : Sp := fun vs H Q _ => ∃ n w : Int, vs = [.int n, .int w] ∧ 4 ≤ w ∧ w ≤ 32 ∧ ∀ v H', BadWo H' w v → Same H H' → Q v H'
def spBadWi : Sp := fun vs H Q _ => ∃ n : Int, vs = [.int n] ∧ ∀ v H', btw v 4 32 = false → GtS H' v → Same H H' → Q v H'
def GoodL (H : Hp) (w : Int) (a : Addr) (ws : List Int) : Prop := H a = some (.lst (ws.map V.int)) ∧ Lg w ws ∧ ws.length ≤ 20
def spLongs : Sp := fun vs H Q _ => ∃ (w : Int) (b h : V) (a : Addr) (ws : List Int), vs = [.int w, b, .ref a, h] ∧ 4 ≤ w ∧ w ≤ 32 ∧ BadLo H w b ∧ BadLo H w h ∧ GoodL H w a ws ∧ ∀ H', Same H H' → Q (.bl true) H'
def spWidths : Sp := fun vs H Q _ => ∃ (v b : V) (w : Int) (a : Addr) (ws : List Int), vs = [v, b, .ref a] ∧ btw v 4 32 = false ∧ GtS H v ∧ BadLo H w b ∧ GoodL H w a ws ∧ ∀ H', Same H H' → Q (.bl true) H'
def spWordsL : Sp := fun vs H Q _ => ∃ (w : Int) (b x : V) (n : Int), vs = [.int w, b, x, .int n] ∧ 4 ≤ w ∧ w ≤ 32 ∧ BadWo H w b ∧ GtS H x ∧ (isI x && decide (0 ≤ iv x)) = false ∧ 0 ≤ n ∧ n < 4294967296 ∧ ∀ H', Same H H' → Q (.bl true) H'
section
variable {P : Program} {w : World} {K : PySem.W.Frag} {mg : Str → Option Value} {base : Heap} {c : Ad}
theorem ok_is_whole {f : Addr} {fd : FuncData} (F : Fun K "is_whole" "is_whole" s_is_whole f fd) (T : Txt K mg c)  : FnOk P w K mg base CX0 1 f fd ["thing"] spWholeG := by
  refine F.ok sc_is_whole (fun vs H Q E h => ?_) (fun cdv A outer s H vs Q E hr h => ?_)
  · obtain ⟨x, rfl, _⟩ := h
    rfl
  obtain ⟨x, rfl, th, q⟩ := h
  refine ⟨_, (pss_one (ps_ret (pe_and (pe_callB call_isinst rfl T.n_isinstance boot_isinstance (pa_cons (pv 0) (pa_cons (pe_ty rfl T.n_int boot_int) pa_nil))) (pe_one (pe_not (pe_callB call_isinst rfl T.n_isinstance boot_isinstance (pa_cons (pv 0) (pa_cons (pe_ty rfl T.n_bool boot_bool) pa_nil)))))))), ?_⟩
  cases th with
  | int i =>
    refine ⟨_, rfl, _, _, _, _, _, rfl, rfl, TyOf.int _, kit_int_int _, _, rfl, iteT ?_⟩
    exact ⟨_, rfl, _, _, _, _, _, rfl, rfl, TyOf.int _, kit_int_bool _, _, rfl, q⟩
  | bl b =>
    refine ⟨_, rfl, _, _, _, _, _, rfl, rfl, TyOf.bl _, kit_bl_int _, _, rfl, iteT ?_⟩
    exact ⟨_, rfl, _, _, _, _, _, rfl, rfl, TyOf.bl _, kit_bl_bl _, _, rfl, q⟩
  | str x => exact ⟨_, rfl, _, _, _, _, _, rfl, rfl, TyOf.str _, kit_str_int _, _, rfl, iteF q⟩
  | non => exact ⟨_, rfl, _, _, _, _, _, rfl, rfl, TyOf.non, kit_non_int _, _, rfl, iteF q⟩
  | lst h => exact ⟨_, rfl, _, _, _, _, _, rfl, rfl, TyOf.lst h, kit_lst_int _, _, rfl, iteF q⟩
  | tup h => exact ⟨_, rfl, _, _, _, _, _, rfl, rfl, TyOf.tup h, kit_tup_int _, _, rfl, iteF q⟩
  | dct h => exact ⟨_, rfl, _, _, _, _, _, rfl, rfl, TyOf.dK h, kit_dct_int _, _, rfl, iteF q⟩
theorem ok_is_between {f : Addr} {fd : FuncData} (F : Fun K "is_between" "is_between" s_is_between f fd) (T : Txt K mg c) (H_is_whole : Has P w K mg base 1 "is_whole" ["thing"] spWholeG) : FnOk P w K mg base CX0 2 f fd ["thing", "low", "high"] spBtwG := by
  refine F.ok sc_is_between (fun vs H Q E h => ?_) (fun cdv A outer s H vs Q E hr h => ?_)
  · obtain ⟨x, lo, hi, rfl, _⟩ := h
    rfl
  obtain ⟨x, lo, hi, rfl, th, q⟩ := h
  refine ⟨_, (pss_one (ps_ret (pe_and (pe_fn H_is_whole (hr.mono (by omega)) rfl (pa_cons (pv 0) pa_nil)) (pe_one (pe_chain op_le op_le (pv 1) (pv 0) (pv 2)))))), ?_⟩
  refine ⟨_, rfl, x, rfl, th, _, rfl, ?_⟩
  cases hi' : isI x with
  | false =>
    refine iteF ?_
    rw [btw_not hi'] at q
    exact q
  | true =>
    refine iteT ?_
    cases x with
    | int i =>
      refine ⟨_, rfl, _, rfl, _, _, rfl, rfl, _, rfl, ?_⟩
      by_cases c1 : lo ≤ i
      · refine iteD c1 ⟨_, rfl, _, _, rfl, rfl, ?_⟩
        have e : btw (.int i) lo hi = decide (i ≤ hi) := by show (decide (lo ≤ i) && decide (i ≤ hi)) = _; rw [decide_eq_true c1, Bool.true_and]
        rw [e] at q
        exact q
      · refine iteDN c1 ?_
        have e : btw (.int i) lo hi = false := by show (decide (lo ≤ i) && decide (i ≤ hi)) = _; rw [decide_eq_false c1, Bool.false_and]
        rw [e] at q
        exact q
    | _ => cases hi'
theorem ok_is_word {f : Addr} {fd : FuncData} (F : Fun K "is_word" "is_word" s_is_word f fd) (T : Txt K mg c) (H_is_between : Has P w K mg base 2 "is_between" ["thing", "low", "high"] spBtwG) : FnOk P w K mg base CX0 3 f fd ["width", "thing"] spWordG := by
  refine F.ok sc_is_word (fun vs H Q E h => ?_) (fun cdv A outer s H vs Q E hr h => ?_)
  · obtain ⟨i, x, rfl, _⟩ := h
    rfl
  obtain ⟨i, x, rfl, h1, h2, th, q⟩ := h
  refine ⟨_, (pss_one (ps_ret (pe_fn H_is_between (hr.mono (by omega)) rfl (pa_cons (pv 1) (pa_cons pe_int (pa_cons (pe_op op_sub (pe_op op_shl pe_int (pv 0)) pe_int) pa_nil)))))), ?_⟩
  exact ⟨_, rfl, _, rfl, _, _, rfl, rfl, cpow1 (by omega) (by omega), _, _, rfl, rfl, x, _, _, rfl, th, q⟩
theorem ok__law_drawn {f : Addr} {fd : FuncData} (F : Fun K "_law_drawn" "_law_drawn" s__law_drawn f fd) (T : Txt K mg c)  : FnOk P w K mg base CX0 1 f fd ["_law_cell", "_law_sizes"] spDrawn := by
  refine F.ok sc__law_drawn (fun vs H Q E h => ?_) (fun cdv A outer s H vs Q E hr h => ?_)
  · obtain ⟨c, z, ms, rfl, _⟩ := h
    rfl
  obtain ⟨c, z, ms, rfl, hz, hm, hml, q⟩ := h
  refine ⟨_, (pss_cons (ps_set (i := 2) sc__law_drawn.nd rfl (Or.inl rfl) (pe_lst pa_nil))
    (pss_cons (ps_if (pt_cmpR op_ge (pv 0) (pe_op op_pow pe_int pe_int) (nomark _))
      (pss_cons (ps_for PassesOwn.never rfl (pi_list (pv 1)) (pg_name (i := 3) sc__law_drawn.nd rfl (Or.inl rfl))
        (pss_cons (ps_expr (pe_bm PySem.F.plainAttrs_list PySem.F.slot_list_append PySem.F.type_list_append mt_append (pv 2) (pa_cons (pe_op op_mod (pv 0) (pv 3)) pa_nil)))
        (pss_one (ps_set (i := 0) sc__law_drawn.nd rfl (Or.inl rfl) (pe_op op_fdivB (pv 0) (pv 3))))))
      (pss_one (ps_ret (pv 2))))
      pss_nil)
    (pss_cons (ps_set (i := 4) sc__law_drawn.nd rfl (Or.inl rfl) (pe_op op_mod (pe_op op_add (pe_op op_mul (pv 0) pe_int) pe_int) pe_int))
    (pss_cons (ps_set (i := 5) sc__law_drawn.nd rfl (Or.inl rfl) (pe_op op_mod (pe_op op_add (pe_op op_mul (pv 0) pe_int) pe_int) pe_int))
    (pss_cons (ps_set (i := 4) sc__law_drawn.nd rfl (Or.inl rfl) (pe_op op_mod (pe_op op_add (pe_op op_add (pe_op op_mul (pv 4) (pv 4)) (pe_op op_mul pe_int (pv 4))) pe_int) pe_int))
    (pss_cons (ps_for PassesOwn.never rfl (pi_list (pv 1)) (pg_name (i := 3) sc__law_drawn.nd rfl (Or.inl rfl))
      (pss_cons (ps_set (i := 4) sc__law_drawn.nd rfl (Or.inl rfl) (pe_op op_mod (pe_op op_add (pe_op op_add (pe_op op_mul (pv 4) (pv 4)) (pe_op op_mul pe_int (pv 4))) pe_int) pe_int))
      (pss_cons (ps_set (i := 5) sc__law_drawn.nd rfl (Or.inl rfl) (pe_op op_mod (pe_op op_add (pe_op op_add (pe_op op_mul (pv 5) pe_int) (pe_op op_mul pe_int (pe_op op_mod (pv 4) pe_int))) pe_int) pe_int))
      (pss_one (ps_expr (pe_bm PySem.F.plainAttrs_list PySem.F.slot_list_append PySem.F.type_list_append mt_append (pv 2) (pa_cons (pe_op op_mod (pe_op op_add (pe_op op_mul (pv 4) pe_int) (pv 5)) (pv 3)) pa_nil)))))))
    (pss_one (ps_ret (pv 2))))))))), ?_⟩
  refine ⟨(by show 0 ≤ sizeLine; decide), fun l hl => ?_⟩
  have nzl : z ≠ l := ne_of_none hz hl
  have hlen : (ms.map V.int).length = ms.length := List.length_map _
  have big : (2000 : Nat) ≤ sizeLine := by decide
  have getm : ∀ {j : Nat} {x : V}, (ms.map V.int)[j]? = some x → ∃ m : Int, x = .int m ∧ ms[j]? = some m ∧ 0 < m ∧ m ≤ 4294967296 ∧ j < ms.length := by
    intro j x h
    rw [List.getElem?_map] at h
    cases hjx : ms[j]? with
    | none => rw [hjx] at h; cases h
    | some m =>
      rw [hjx] at h
      cases h
      exact ⟨m, rfl, rfl, (hm m (List.mem_of_getElem? hjx)).1, (hm m (List.mem_of_getElem? hjx)).2, (List.getElem?_eq_some_iff.mp hjx).1⟩
  refine ⟨_, rfl, _, _, rfl, rfl, ⟨by decide, by decide, by decide⟩, _, _, rfl, rfl, _, rfl, ?_⟩
  refine ite2 (fun _ => ?_) (fun _ => ?_)
  · refine ⟨_, rfl, z, rfl, ⟨_, SqL.of (same_new hl (.lst []) _ _ hz)⟩, for_list (xs := ms.map V.int) (fun j σ H2 => ∃ (xs : List Int) (c' : Int) (y u v : Option V), σ = [some (.int c'), some (.ref z), some (.ref l), y, u, v] ∧ H2 l = some (.lst (xs.map V.int)) ∧ SameX l H H2 ∧ DrOk xs (ms.take j)) ⟨[], c, _, _, _, rfl, upd_same, SameX.upd, dr_nil⟩ ?_ ?_ ?_⟩
    · rintro j σ H2 hj ⟨xs, c', y, u, v, rfl, hx, x2, dr⟩
      exact SqL.of (x2 _ _ nzl hz)
    · rintro j x σ H2 hj ⟨xs, c', y, u, v, rfl, hx, x2, dr⟩
      obtain ⟨m, rfl, hjm, m0, m1, hjl⟩ := getm hj
      have dl := dr.1
      have tl : (ms.take j).length = j := by rw [List.length_take]; omega
      refine ⟨_, rfl, .inl ⟨rfl, _, SqL.of hx⟩, _, rfl, _, rfl, _, _, rfl, rfl, m0, l, _, _, rfl, rfl, hx, (by rw [List.length_map]; omega), ?_⟩
      refine ⟨_, rfl, _, rfl, _, _, rfl, rfl, ⟨m0, log_small m0 (by omega)⟩, ?_⟩
      refine ⟨xs ++ [c' % m], _, _, _, _, rfl, ?_, x2.trans SameX.upd, ?_⟩
      · rw [upd_same, List.map_append]
        rfl
      · rw [take_snoc hjm]
        exact dr_snoc dr (Int.emod_nonneg _ (by omega)) (Int.emod_lt_of_pos _ m0)
    · rintro σ H2 ⟨xs, c', y, u, v, rfl, hx, x2, dr⟩
      rw [hlen, List.take_length] at dr
      exact ⟨_, rfl, q l xs H2 hl hx (x2.fresh hl) dr⟩
  · refine ⟨_, rfl, _, _, rfl, rfl, .inr ⟨by decide, by decide⟩, _, _, rfl, rfl, _, _, rfl, rfl, (by show (0 : Int) < 2147483647; decide), ?_⟩
    refine ⟨_, rfl, _, _, rfl, rfl, .inr ⟨by decide, by decide⟩, _, _, rfl, rfl, _, _, rfl, rfl, (by show (0 : Int) < 998244353; decide), ?_⟩
    refine ⟨_, rfl, _, rfl, _, _, rfl, rfl, cmul_mod (by decide) (by decide), _, rfl, _, _, rfl, rfl, .inl ⟨by decide, by decide⟩, _, _, rfl, rfl, _, _, rfl, rfl, _, _, rfl, rfl, (by show (0 : Int) < 2147483647; decide), ?_⟩
    have i0 : ∀ y : Int, 0 ≤ y % 2147483647 ∧ y % 2147483647 < 2147483647 := fun y => ⟨by omega, by omega⟩
    refine ⟨_, rfl, z, rfl, ⟨_, SqL.of (same_new hl (.lst []) _ _ hz)⟩, for_list (xs := ms.map V.int) (fun j σ H2 => ∃ (xs : List Int) (a b : Int) (y : Option V), σ = [some (.int c), some (.ref z), some (.ref l), y, some (.int a), some (.int b)] ∧ 0 ≤ a ∧ a < 2147483647 ∧ H2 l = some (.lst (xs.map V.int)) ∧ SameX l H H2 ∧ DrOk xs (ms.take j)) ⟨[], _, _, _, rfl, (i0 _).1, (i0 _).2, upd_same, SameX.upd, dr_nil⟩ ?_ ?_ ?_⟩
    · rintro j σ H2 hj ⟨xs, a, b, y, rfl, a0, a1, hx, x2, dr⟩
      exact SqL.of (x2 _ _ nzl hz)
    · rintro j x σ H2 hj ⟨xs, a, b, y, rfl, a0, a1, hx, x2, dr⟩
      obtain ⟨m, rfl, hjm, m0, m1, hjl⟩ := getm hj
      have dl := dr.1
      have tl : (ms.take j).length = j := by rw [List.length_take]; omega
      refine ⟨_, rfl, _, rfl, _, _, rfl, rfl, cmul_l a0 (by omega), _, rfl, _, _, rfl, rfl, .inl ⟨by decide, by decide⟩, _, _, rfl, rfl, _, _, rfl, rfl, _, _, rfl, rfl, (by show (0 : Int) < 2147483647; decide), ?_⟩
      refine ⟨_, rfl, _, _, rfl, rfl, .inr ⟨by decide, by decide⟩, _, rfl, _, _, rfl, rfl, (by show (0 : Int) < 65536; decide), _, _, rfl, rfl, .inl ⟨by decide, by decide⟩, _, _, rfl, rfl, _, _, rfl, rfl, _, _, rfl, rfl, (by show (0 : Int) < 998244353; decide), ?_⟩
      refine ⟨_, rfl, .inl ⟨rfl, _, SqL.of hx⟩, _, rfl, _, _, rfl, rfl, .inr ⟨by decide, by decide⟩, _, rfl, _, _, rfl, rfl, _, rfl, _, _, rfl, rfl, m0, l, _, _, rfl, rfl, hx, (by rw [List.length_map]; omega), ?_⟩
      refine ⟨xs ++ [(((a * a + 48271 * a + 13) % 2147483647) * 998244353 + (b * 16807 + 48611 * ((a * a + 48271 * a + 13) % 2147483647 % 65536) + 5) % 998244353) % m], _, _, _, rfl, (i0 _).1, (i0 _).2, ?_, x2.trans SameX.upd, ?_⟩
      · rw [upd_same, List.map_append]
        rfl
      · rw [take_snoc hjm]
        exact dr_snoc dr (Int.emod_nonneg _ (by omega)) (Int.emod_lt_of_pos _ m0)
    · rintro σ H2 ⟨xs, a, b, y, rfl, a0, a1, hx, x2, dr⟩
      rw [hlen, List.take_length] at dr
      exact ⟨_, rfl, q l xs H2 hl hx (x2.fresh hl) dr⟩
theorem Wds.snoc {B v : Int} {ws : List Int} (h : Wds B ws) (v0 : 0 ≤ v) (v1 : v < B) : Wds B (ws ++ [v]) := ⟨fun x hx => by
  rcases List.mem_append.mp hx with hx | hx
  · exact h.ok x hx
  · rw [List.mem_singleton.mp hx]
    exact ⟨v0, v1⟩⟩
theorem last_at {ws : List Int} (h : 0 < ws.length) : ∃ s, ws[ws.length - 1]? = some s ∧ ws.getLast? = some s ∧ s ∈ ws := by
  refine ⟨ws[ws.length - 1], List.getElem?_eq_getElem (by omega), ?_, List.getElem_mem _⟩
  rw [List.getLast?_eq_getElem?, List.getElem?_eq_getElem (by omega)]
theorem ix_last {n : Nat} (h : 0 < n) : ixN n (-1) = some (n - 1) := by
  unfold ixN
  rw [if_neg (by decide), if_pos (by omega)]
  congr 1
  omega
theorem set_ints (ws : List Int) (j : Nat) (v : Int) : (ws.map V.int).set j (V.int v) = (ws.set j v).map V.int := List.map_set.symm
theorem last_set {ws : List Int} (h : 0 < ws.length) (v : Int) : (ws.set (ws.length - 1) v).getLast? = some v := by
  rw [List.getLast?_eq_getElem?, List.length_set, List.getElem?_set_self (by omega)]
theorem Wds.set {B v : Int} {ws : List Int} (h : Wds B ws) (j : Nat) (v0 : 0 ≤ v) (v1 : v < B) : Wds B (ws.set j v) := ⟨fun x hx => by
  rcases List.mem_or_eq_of_mem_set hx with hx | rfl
  · exact h.ok x hx
  · exact ⟨v0, v1⟩⟩
def spLLong : Sp := fun vs H Q _ => ∃ (l : Addr) (ds : List Int) (n0 : Nat) (m w : Int), vs = [.ref l, .int (n0 : Int), .int m, .int w] ∧ H l = some (.lst (ds.map V.int)) ∧ n0 + 12 ≤ 20 ∧ 0 ≤ m ∧ m ≤ 6 ∧ ds.length = 20 ∧ 4 ≤ w ∧ w ≤ 32 ∧ ∀ (a : Addr) (ws : List Int) H', H a = none → H' a = some (.lst (ws.map V.int)) → ws.length = m.toNat → Wds (2 ^ w.toNat) ws → ws.getLast? ≠ some 0 → Same H H' → Q (.ref a) H'
theorem ok__law_long {f : Addr} {fd : FuncData} (F : Fun K "_law_long" "_law_long" s__law_long f fd) (T : Txt K mg c)  : FnOk P w K mg base CX0 1 f fd ["_law_draws", "_law_at", "_law_many", "_law_width"] spLLong := by
  refine F.ok sc__law_long (fun vs H Q E h => ?_) (fun cdv A outer s H vs Q E hr h => ?_)
  · obtain ⟨l, ds, n0, m, i, rfl, _⟩ := h
    rfl
  obtain ⟨l, ds, n0, m, i, rfl, hl, hn0, m0, m1, hds, h1, h2, q⟩ := h
  refine ⟨_, (pss_cons (ps_set (i := 4) sc__law_long.nd rfl (Or.inl rfl) (pe_op op_shl pe_int (pv 3)))
    (pss_cons (ps_set (i := 5) sc__law_long.nd rfl (Or.inl rfl) (pe_lst (pa_cons pe_int (pa_cons (pe_op op_sub (pv 4) pe_int) (pa_cons (pe_op op_fdivB (pv 4) pe_int) (pa_cons (pe_op op_sub (pe_op op_fdivB (pv 4) pe_int) pe_int) (pa_cons pe_int pa_nil)))))))
    (pss_cons (ps_set (i := 6) sc__law_long.nd rfl (Or.inl rfl) (pe_lst pa_nil))
    (pss_cons (ps_for PassesOwn.never rfl (pi_range1 rfl T.n_range (pa_cons (pv 2) pa_nil)) (pg_name (i := 7) sc__law_long.nd rfl (Or.inl rfl))
      (pss_cons (ps_set (i := 8) sc__law_long.nd rfl (Or.inl rfl) (pe_op op_mod (pe_ix ix_list (pv 0) (pe_op op_add (pv 1) (pe_op op_mul pe_int (pv 7))) (fun _ _ => rfl)) pe_int))
      (pss_cons (ps_set (i := 9) sc__law_long.nd rfl (Or.inl rfl) (pe_op op_mod (pe_ix ix_list (pv 0) (pe_op op_add (pe_op op_add (pv 1) (pe_op op_mul pe_int (pv 7))) pe_int) (fun _ _ => rfl)) (pv 4)))
      (pss_one (ps_expr (pe_bm PySem.F.plainAttrs_list PySem.F.slot_list_append PySem.F.type_list_append mt_append (pv 6) (pa_cons (pe_ifExp (pt_cmpR op_lt (pv 8) pe_int (nomark _)) (pe_ix ix_list (pv 5) (pv 8) (fun _ _ => rfl)) (pv 9)) pa_nil)))))))
    (pss_join (ps_if (PW.pt (pw_and (pt_cmpR op_gt (pv 2) pe_int (nomark _)) (pw_and1 (pt_cmpR op_eq (pe_ix ix_list (pv 6) (pe_un un_neg pe_int) (fun _ _ => rfl)) pe_int (nomark _)))))
      (pss_one (ps_asg (pe_op op_add pe_int (pe_op op_mod (pe_ix ix_list (pv 0) (pe_op op_sub (pe_op op_add (pv 1) (pe_op op_mul pe_int (pv 2))) pe_int) (fun _ _ => rfl)) (pe_op op_sub (pv 4) pe_int))) (pg_sub (pv 6) (pe_un un_neg pe_int) set_list)))
      pss_nil)
    (pss_one (ps_ret (pv 6)))))))), ?_⟩
  have pb := pw_bounds h1 h2
  have e1 : (1 : Int) * 2 ^ i.toNat = 2 ^ i.toNat := Int.one_mul _
  have big : (1001 : Nat) ≤ sizeLine := by decide
  refine ⟨_, rfl, _, _, rfl, rfl, cpow1 (by omega) (by omega), ?_⟩
  refine ⟨_, rfl, _, _, rfl, rfl, _, rfl, _, _, rfl, rfl, ⟨by decide, by decide⟩, _, rfl, _, _, rfl, rfl, ⟨by decide, by decide⟩, _, _, rfl, rfl, (by show 5 ≤ sizeLine; decide), fun mm hmm => ?_⟩
  have hm0 : (upd H mm (.lst [.int 0, .int (1 * 2 ^ i.toNat - 1), .int (1 * 2 ^ i.toNat / 2), .int (1 * 2 ^ i.toNat / 2 - 1), .int 1])) mm = some (.lst [.int 0, .int (1 * 2 ^ i.toNat - 1), .int (1 * 2 ^ i.toNat / 2), .int (1 * 2 ^ i.toNat / 2 - 1), .int 1]) := upd_same
  have s0 := same_new hmm (.lst [.int 0, .int (1 * 2 ^ i.toNat - 1), .int (1 * 2 ^ i.toNat / 2), .int (1 * 2 ^ i.toNat / 2 - 1), .int 1])
  have hl0 := s0 _ _ hl
  generalize (upd H mm (.lst [.int 0, .int (1 * 2 ^ i.toNat - 1), .int (1 * 2 ^ i.toNat / 2), .int (1 * 2 ^ i.toNat / 2 - 1), .int 1])) = H0 at hm0 s0 hl0 ⊢
  refine ⟨(by show 0 ≤ sizeLine; decide), fun p hp => ?_⟩
  have nlp : l ≠ p := ne_of_none hl0 hp
  have nmp : mm ≠ p := ne_of_none hm0 hp
  have gd : ∀ n : Nat, n < 20 → ∃ d : Int, atI (ds.map V.int) (n : Int) = some (.int d) := fun n hn => ⟨_, getI ds n (by omega)⟩
  refine ⟨_, rfl, _, rfl, by omega, by omega, for_range (fun j σ H1 => ∃ (ws : List Int) (y1 y2 y3 : Option V), σ = [some (.ref l), some (.int (n0 : Int)), some (.int m), some (.int i), some (.int (1 * 2 ^ i.toNat)), some (.ref mm), some (.ref p), y1, y2, y3] ∧ H1 p = some (.lst (ws.map V.int)) ∧ ws.length = j ∧ Wds (2 ^ i.toNat) ws ∧ SameX p H0 H1) ⟨[], _, _, _, rfl, upd_same, rfl, ⟨fun x hx => by simp at hx⟩, SameX.upd⟩ ?_ ?_⟩
  · rintro j σ H1 hj ⟨ws, y1, y2, y3, rfl, hws, hwl, wd, x1⟩
    obtain ⟨d1, g1⟩ := gd (n0 + 2 * j) (by omega)
    obtain ⟨d2, g2⟩ := gd (n0 + 2 * j + 1) (by omega)
    have e3 : ((n0 + 2 * j : Nat) : Int) = (n0 : Int) + 2 * (0 + (j : Int)) := by omega
    have e4 : ((n0 + 2 * j + 1 : Nat) : Int) = (n0 : Int) + 2 * (0 + (j : Int)) + 1 := by omega
    rw [e3] at g1
    rw [e4] at g2
    have hl1 := x1 _ _ nlp hl0
    have hm1 := x1 _ _ nmp hm0
    refine ⟨_, rfl, _, rfl, _, rfl, _, _, rfl, rfl, .inl ⟨by decide, by decide⟩, _, _, rfl, rfl, l, _, _, _, rfl, rfl, SqL.of hl1, g1, _, _, rfl, rfl, (by show (0 : Int) < 9; decide), ?_⟩
    refine ⟨_, rfl, _, rfl, _, rfl, _, _, rfl, rfl, .inl ⟨by decide, by decide⟩, _, _, rfl, rfl, _, _, rfl, rfl, l, _, _, _, rfl, rfl, SqL.of hl1, g2, _, rfl, _, _, rfl, rfl, p1_pos _, ?_⟩
    have fin : ∀ v : Int, 0 ≤ v → v < 2 ^ i.toNat → ∃ (ws' : List Int) (y1 y2 y3 : Option V), [some (V.ref l), some (.int (n0 : Int)), some (.int m), some (.int i), some (.int (1 * 2 ^ i.toNat)), some (.ref mm), some (.ref p), some (.int (0 + (j : Int))), some (.int (d1 % 9)), some (.int (d2 % (1 * 2 ^ i.toNat)))] = [some (.ref l), some (.int (n0 : Int)), some (.int m), some (.int i), some (.int (1 * 2 ^ i.toNat)), some (.ref mm), some (.ref p), y1, y2, y3] ∧ (upd H1 p (.lst (ws.map V.int ++ [.int v]))) p = some (.lst (ws'.map V.int)) ∧ ws'.length = j + 1 ∧ Wds (2 ^ i.toNat) ws' ∧ SameX p H0 (upd H1 p (.lst (ws.map V.int ++ [.int v]))) := fun v v0 v1 => ⟨ws ++ [v], _, _, _, rfl, by rw [upd_same, List.map_append]; rfl, by simp [hwl], wd.snoc v0 v1, x1.trans SameX.upd⟩
    have szl : (ws.map V.int).length < sizeLine := by rw [List.length_map, hwl]; omega
    refine ⟨_, rfl, .inl ⟨rfl, _, SqL.of hws⟩, _, rfl, _, _, rfl, rfl, _, rfl, ?_⟩
    by_cases c5 : d1 % 9 < 5
    · refine iteD c5 ?_
      obtain ⟨v, hv, v0, v1⟩ : ∃ v : Int, atI [V.int 0, .int (1 * 2 ^ i.toNat - 1), .int (1 * 2 ^ i.toNat / 2), .int (1 * 2 ^ i.toNat / 2 - 1), .int 1] (d1 % 9) = some (.int v) ∧ 0 ≤ v ∧ v < 2 ^ i.toNat := by
        have kk0 : 0 ≤ d1 % 9 := Int.emod_nonneg _ (by decide)
        generalize d1 % 9 = k at *
        rcases (by omega : k = 0 ∨ k = 1 ∨ k = 2 ∨ k = 3 ∨ k = 4) with rfl | rfl | rfl | rfl | rfl
        · exact ⟨_, rfl, by omega, by omega⟩
        · exact ⟨_, rfl, by omega, by omega⟩
        · exact ⟨_, rfl, by omega, by omega⟩
        · exact ⟨_, rfl, by omega, by omega⟩
        · exact ⟨_, rfl, by omega, by omega⟩
      exact ⟨_, rfl, _, rfl, mm, _, _, _, rfl, rfl, SqL.of hm1, hv, p, _, _, rfl, rfl, hws, szl, fin v v0 v1⟩
    · refine iteDN c5 ?_
      have r0 := Int.emod_nonneg d2 (Int.ne_of_gt (p1_pos i.toNat))
      have r1 := Int.emod_lt_of_pos d2 (p1_pos i.toNat)
      exact ⟨_, rfl, p, _, _, rfl, rfl, hws, szl, fin _ r0 (by omega)⟩
  rintro σ H1 ⟨ws, y1, y2, y3, rfl, hws, hwl, wd, x1⟩
  have hl1 := x1 _ _ nlp hl0
  refine ⟨fun σ2 H2 => ∃ ws' : List Int, σ2 = [some (.ref l), some (.int (n0 : Int)), some (.int m), some (.int i), some (.int (1 * 2 ^ i.toNat)), some (.ref mm), some (.ref p), y1, y2, y3] ∧ H2 p = some (.lst (ws'.map V.int)) ∧ ws'.length = m.toNat ∧ Wds (2 ^ i.toNat) ws' ∧ ws'.getLast? ≠ some 0 ∧ SameX p H0 H2, ?_, ?_⟩
  · refine ⟨_, rfl, _, _, rfl, rfl, _, rfl, ?_⟩
    by_cases c0 : 0 < m
    · refine iteD c0 ?_
      obtain ⟨s0', a1, a2, a3⟩ := last_at (ws := ws) (by omega)
      refine ⟨_, rfl, _, rfl, p, _, _, _, rfl, rfl, SqL.of hws, at_last a1, rfl, _, rfl, ?_⟩
      by_cases cz : s0' = 0
      · refine iteD (congrArg V.int cz) ?_
        obtain ⟨d3, g3⟩ := gd (n0 + 2 * m.toNat - 1) (by omega)
        have e5 : ((n0 + 2 * m.toNat - 1 : Nat) : Int) = (n0 : Int) + 2 * m - 1 := by omega
        rw [e5] at g3
        refine ⟨_, rfl, _, rfl, _, rfl, _, _, rfl, rfl, .inl ⟨by decide, by decide⟩, _, _, rfl, rfl, _, _, rfl, rfl, l, _, _, _, rfl, rfl, SqL.of hl1, g3, _, rfl, _, _, rfl, rfl, _, _, rfl, rfl, (by omega), _, _, rfl, rfl, _, rfl, _, rfl, p, _, _, _, rfl, rfl, hws, ix_last (by rw [List.length_map]; omega), ?_⟩
        have r0 := Int.emod_nonneg d3 (show (1 * 2 ^ i.toNat - 1 : Int) ≠ 0 by omega)
        have r1 := Int.emod_lt_of_pos d3 (show (0 : Int) < 1 * 2 ^ i.toNat - 1 by omega)
        refine ⟨ws.set (ws.length - 1) (1 + d3 % (1 * 2 ^ i.toNat - 1)), rfl, ?_, by rw [List.length_set]; omega, wd.set _ (by omega) (by omega), ?_, x1.trans SameX.upd⟩
        · rw [upd_same, List.length_map]
          show some (HO.lst ((ws.map V.int).set (ws.length - 1) (V.int (1 + d3 % (1 * 2 ^ i.toNat - 1))))) = _
          rw [set_ints]
        · rw [last_set (by omega)]
          intro z
          have := Option.some.inj z
          omega
      · refine iteDN (fun z => cz (by injection z)) ?_
        exact ⟨ws, rfl, hws, by omega, wd, by rw [a2]; intro z; exact cz (Option.some.inj z), x1⟩
    · refine iteDN c0 ?_
      refine iteF ?_
      have e0 : ws = [] := List.eq_nil_of_length_eq_zero (by omega)
      have la0 : ws.getLast? ≠ some 0 := by rw [e0]; exact fun z => nomatch z
      exact ⟨ws, rfl, hws, by omega, wd, la0, x1⟩
  · rintro σ2 H2 ⟨ws', rfl, hw2, hl2, wd2, la2, x2⟩
    exact ⟨_, rfl, q p ws' H2 (s0.free hp) hw2 hl2 wd2 la2 (fun b o h => x2 b o (ne_of_none (s0 _ _ h) hp) (s0 _ _ h))⟩
theorem ok_NoWidth___init__ {f : Addr} {fd : FuncData} (F : Fun K "__init__" "NoWidth.__init__" s_NoWidth___init__ f fd) (T : Txt K mg c)  (xc : XCls K c.NoWidth f "found") : FnOk P w K mg base CX0 1 f fd ["self", "found"] (spXI "found" c.NoWidth) := by
  refine F.ok sc_NoWidth___init__ (fun vs H Q E h => ?_) (fun cdv A outer s H vs Q E hr h => ?_)
  · obtain ⟨e, t, v, rfl, _⟩ := h
    rfl
  obtain ⟨e, t, v, rfl, he, q⟩ := h
  refine ⟨_, (pss_one (ps_xset (pv 0) (pv 1) rfl)), ?_⟩
  exact ⟨_, rfl, _, rfl, e, c.NoWidth, t, _, rfl, he, xc, fun d hd hne => q d hd hne⟩
theorem ok_NoWord___init__ {f : Addr} {fd : FuncData} (F : Fun K "__init__" "NoWord.__init__" s_NoWord___init__ f fd) (T : Txt K mg c)  (xc : XCls K c.NoWord f "found") : FnOk P w K mg base CX0 1 f fd ["self", "found"] (spXI "found" c.NoWord) := by
  refine F.ok sc_NoWord___init__ (fun vs H Q E h => ?_) (fun cdv A outer s H vs Q E hr h => ?_)
  · obtain ⟨e, t, v, rfl, _⟩ := h
    rfl
  obtain ⟨e, t, v, rfl, he, q⟩ := h
  refine ⟨_, (pss_one (ps_xset (pv 0) (pv 1) rfl)), ?_⟩
  exact ⟨_, rfl, _, rfl, e, c.NoWord, t, _, rfl, he, xc, fun d hd hne => q d hd hne⟩
theorem ok_NoDivisor___init__ {f : Addr} {fd : FuncData} (F : Fun K "__init__" "NoDivisor.__init__" s_NoDivisor___init__ f fd) (T : Txt K mg c)  (xc : XCls K c.NoDivisor f "found") : FnOk P w K mg base CX0 1 f fd ["self", "found"] (spXI "found" c.NoDivisor) := by
  refine F.ok sc_NoDivisor___init__ (fun vs H Q E h => ?_) (fun cdv A outer s H vs Q E hr h => ?_)
  · obtain ⟨e, t, v, rfl, _⟩ := h
    rfl
  obtain ⟨e, t, v, rfl, he, q⟩ := h
  refine ⟨_, (pss_one (ps_xset (pv 0) (pv 1) rfl)), ?_⟩
  exact ⟨_, rfl, _, rfl, e, c.NoDivisor, t, _, rfl, he, xc, fun d hd hne => q d hd hne⟩
theorem ok_NoLong___init__ {f : Addr} {fd : FuncData} (F : Fun K "__init__" "NoLong.__init__" s_NoLong___init__ f fd) (T : Txt K mg c)  (xc : XCls K c.NoLong f "found") : FnOk P w K mg base CX0 1 f fd ["self", "found"] (spXI "found" c.NoLong) := by
  refine F.ok sc_NoLong___init__ (fun vs H Q E h => ?_) (fun cdv A outer s H vs Q E hr h => ?_)
  · obtain ⟨e, t, v, rfl, _⟩ := h
    rfl
  obtain ⟨e, t, v, rfl, he, q⟩ := h
  refine ⟨_, (pss_one (ps_xset (pv 0) (pv 1) rfl)), ?_⟩
  exact ⟨_, rfl, _, rfl, e, c.NoLong, t, _, rfl, he, xc, fun d hd hne => q d hd hne⟩
theorem ok_has_long {f : Addr} {fd : FuncData} (F : Fun K "has_long" "has_long" s_has_long f fd) (T : Txt K mg c) (H_is_word : Has P w K mg base 3 "is_word" ["width", "thing"] spWordG) : FnOk P w K mg base CX0 4 f fd ["width", "thing"] spHasO := by
  refine F.ok sc_has_long (fun vs H Q E h => ?_) (fun cdv A outer s H vs Q E hr h => ?_)
  · obtain ⟨i, x, ox, rfl, _⟩ := h
    rfl
  obtain ⟨i, x, ox, rfl, h1, h2, lv, q⟩ := h
  refine ⟨_, (pss_cons (ps_if (PW.pt (pw_or (pt_not (pt_val (pe_callB call_isinst rfl T.n_isinstance boot_isinstance (pa_cons (pv 1) (pa_cons (pe_ty rfl T.n_list boot_list) pa_nil))))) (pw_or1 (pt_not (pt_val (pe_callB (call_all_bl rfl) rfl T.n_all boot_all (pa_cons (pe_compC [0] ["width"] rfl (by first | rfl | with_unfolding_all rfl) (by rfl) (by exact (List.forall_mem_cons.mpr ⟨rfl, (fun _ h => nomatch h)⟩)) (by decide +kernel) rfl (by decide +kernel) rfl (by decide +kernel) (by exact (List.forall_mem_cons.mpr ⟨⟨by first | exact Or.inl rfl | exact Or.inr rfl, rfl⟩, (fun _ h => nomatch h)⟩)) rfl (by rfl) (pi_list (pv 1)) (fun C s2 H2 fp => (pe_fn H_is_word (hr.mono (by omega)) rfl (pa_cons (pv 1) (pa_cons (pv 0) pa_nil))))) pa_nil)))))))
      (pss_one (ps_ret pe_bl))
      pss_nil)
    (pss_one (ps_ret (pe_or (pe_cmpR (op_eq0 (Nat.lt_of_succ_lt (hu_of hr))) (pv 1) (pe_lst pa_nil) (nomark _)) (pe_one (pe_cmpR op_ne (pe_ix ix_list (pv 1) (pe_un un_neg pe_int) (fun _ _ => rfl)) pe_int (nomark _))))))), ?_⟩
  rcases lv.parts (K := K) with ⟨a, xs, rfl, rfl, ha, hth, hlen⟩ | ⟨rfl, ty, ht1, ht2⟩
  · have q : ∀ H', Same H H' → Q (.bl (isL i xs)) H' := q
    refine ⟨_, rfl, _, _, _, _, _, rfl, rfl, TyOf.lst ha, rfl, _, rfl, iteF ?_⟩
    refine ⟨_, rfl, a, rfl, ⟨_, SqL.of ha⟩, fun D hD => ?_⟩
    have nD : a ≠ D := ne_of_none ha hD
    refine comp_list (K := K) (a := a) (te' := tCall spWordG [] E0 (tCons (tVar 1) (tCons (tVar 0) tNil))) (xs := xs) (fun j H1 => Same H H1 ∧ H1 D = some (.lst ((xs.take j).map fun y => V.bl (btw y 0 (1 * 2 ^ i.toNat - 1))))) ⟨same_new hD _, upd_same⟩ (fun j H1 _ ⟨s1, _⟩ => SqL.of (s1 _ _ ha)) ?_ ?_
    · rintro j y H1 hj ⟨s1, hd1⟩
      have hjl := (List.getElem?_eq_some_iff.mp hj).1
      refine ⟨_, rfl, _, rfl, i, y, rfl, h1, h2, (hth y (List.mem_of_getElem? hj)).same s1, _, hd1, ?_, xs.length - (j + 1), by omega, rfl, by omega, ?_, ?_⟩
      · rw [List.length_map, List.length_take]
        have : (1001 : Nat) ≤ sizeLine := by decide
        omega
      · exact fun b o h => by rw [upd_ne (ne_of_none h hD)]; exact s1 b o h
      · rw [upd_same, List.take_succ, hj, List.map_append]
        rfl
    · rintro H1 ⟨s1, hd1⟩
      rw [List.take_length] at hd1
      have hd2 : H1 D = some (.lst ((xs.map fun y => btw y 0 (1 * 2 ^ i.toNat - 1)).map V.bl)) := by rw [hd1, List.map_map]; rfl
      refine ⟨D, _, rfl, SqL.of hd2, _, rfl, ?_⟩
      have ea : (xs.map fun y => btw y 0 (1 * 2 ^ i.toNat - 1)).all id = xs.all (fun x => btw x 0 (1 * 2 ^ i.toNat - 1)) := by rw [List.all_map]; rfl
      rw [ea]
      cases hal : xs.all (fun x => btw x 0 (1 * 2 ^ i.toNat - 1)) with
      | false =>
        refine iteT ?_
        have e : isL i xs = false := by unfold isL; rw [hal, Bool.false_and]
        rw [e] at q
        exact q H1 s1
      | true =>
        refine iteF ?_
        refine ⟨_, rfl, (by show 0 ≤ sizeLine; decide), fun l0 hl0 => ?_⟩
        have s2 := same_new hl0 (.lst [])
        have ha1 := s1 _ _ ha
        refine ⟨a, l0, xs, rfl, rfl, SqL.of (s2 _ _ ha1), SqL.of upd_same, _, rfl, ?_⟩
        have e : isL i xs = (xs.isEmpty || !decide (xs.getLast? = some (V.int 0))) := by unfold isL; rw [hal, Bool.true_and]
        rw [e] at q
        cases xs with
        | nil =>
          refine iteT ?_
          exact q _ (s1.trans s2)
        | cons y r =>
          refine iteF ?_
          obtain ⟨z, hz⟩ : ∃ z, (y :: r).getLast? = some z := ⟨_, List.getLast?_eq_some_getLast (by simp)⟩
          have hzm : z ∈ y :: r := List.mem_of_getLast? hz
          have hzb := List.all_eq_true.mp hal z hzm
          obtain ⟨zi, rfl⟩ : ∃ zi, z = .int zi := by
            cases z with
            | int zi => exact ⟨zi, rfl⟩
            | _ => cases hzb
          have hat : atI (y :: r) (-1) = some (V.int zi) := by
            have hne : (y :: r) ≠ [] := by simp
            have e := List.dropLast_concat_getLast hne
            have e3 : (y :: r).getLast hne = V.int zi := by
              rw [List.getLast?_eq_some_getLast hne] at hz
              exact Option.some.inj hz
            rw [e3] at e
            rw [← e]
            exact atI_last _ _
          refine ⟨_, rfl, _, rfl, a, _, _, _, rfl, rfl, SqL.of (s2 _ _ ha1), hat, rfl, ?_⟩
          have e2 : (false || !decide ((y :: r).getLast? = some (V.int 0))) = !decide (V.int zi = V.int 0) := by
            rw [Bool.false_or, hz]
            congr 1
            exact decide_eq_decide.mpr ⟨fun z => Option.some.inj z, fun z => congrArg some z⟩
          have q2 := q _ (s1.trans s2)
          rw [show (y :: r).isEmpty = false from rfl, e2] at q2
          exact q2
  · exact ⟨_, rfl, _, _, _, _, _, rfl, rfl, ht1, ht2, _, rfl, iteT (iteT (q H (Same.refl _)))⟩
theorem ok_need_width {f : Addr} {fd : FuncData} (F : Fun K "need_width" "need_width" s_need_width f fd) (T : Txt K mg c) (H_is_between : Has P w K mg base 2 "is_between" ["thing", "low", "high"] spBtwG) (X_NoWidth : XHas P w K mg base 1 "NoWidth" c.NoWidth "found") : FnOk P w K mg base (CX2 P w base) 3 f fd ["width"] (spNW c) := by
  refine Fun.okY F sc_need_width (fun vs H Q E h => ?_) (fun cdv A outer s H vs Q E hr h => ?_)
  · obtain ⟨v, rfl, _⟩ := h
    rfl
  obtain ⟨v, rfl, th, q2, q1⟩ := h
  refine ⟨_, (pss_one (ps_if (pt_not (pt_val (pe_fn H_is_between (hr.mono (by omega)) rfl (pa_cons (pv 0) (pa_cons pe_int (pa_cons pe_int pa_nil))))))
      (pss_one (ps_raise1 X_NoWidth (hr.mono (by omega)) rfl (pa_cons (pv 0) pa_nil)))
      pss_nil)), ?_⟩
  refine ⟨_, rfl, _, _, _, rfl, th, ?_⟩
  cases e : btw v 4 32 with
  | true => exact ⟨_, rfl, iteF (q1 (vW_ok e))⟩
  | false => exact ⟨_, rfl, iteT ⟨_, rfl, _, rfl, fun d hd => (q2 _ (vW_bad e)).new rfl d hd⟩⟩
theorem ok_is_long {f : Addr} {fd : FuncData} (F : Fun K "is_long" "is_long" s_is_long f fd) (T : Txt K mg c) (H_need_width : HasY P w K mg base 3 "need_width" ["width"] (spNW c)) (H_has_long : Has P w K mg base 4 "has_long" ["width", "thing"] spHasO) : FnOk P w K mg base (CX2 P w base) 5 f fd ["width", "thing"] (spIsL c) := by
  refine Fun.okY F sc_is_long (fun vs H Q E h => ?_) (fun cdv A outer s H vs Q E hr h => ?_)
  · obtain ⟨v, x, ox, rfl, _⟩ := h
    rfl
  obtain ⟨v, x, ox, rfl, th, lx, q1, q2⟩ := h
  refine ⟨_, (pss_cons (ps_expr (pe_fnYX H_need_width (hr.mono (by omega)) rfl (pa_cons (pv 0) pa_nil)))
    (pss_one (ps_ret (pe_fn H_has_long (hr.mono (by omega)) rfl (pa_cons (pv 0) (pa_cons (pv 1) pa_nil)))))), ?_⟩
  refine ⟨_, rfl, v, rfl, th, q1, fun n => ?_⟩
  obtain ⟨w, rfl, h1, h2⟩ := vW_none n
  exact ⟨_, rfl, _, rfl, w, x, ox, rfl, h1, h2, lx, q2 w rfl h1 h2⟩
theorem ok_need_long {f : Addr} {fd : FuncData} (F : Fun K "need_long" "need_long" s_need_long f fd) (T : Txt K mg c) (H_need_width : HasY P w K mg base 3 "need_width" ["width"] (spNW c)) (H_has_long : Has P w K mg base 4 "has_long" ["width", "thing"] spHasO) (X_NoLong : XHas P w K mg base 1 "NoLong" c.NoLong "found") : FnOk P w K mg base (CX2 P w base) 5 f fd ["width", "one"] (spNL c) := by
  refine Fun.okY F sc_need_long (fun vs H Q E h => ?_) (fun cdv A outer s H vs Q E hr h => ?_)
  · obtain ⟨v, x, ox, rfl, _⟩ := h
    rfl
  obtain ⟨v, x, ox, rfl, th, lx, q1, q2⟩ := h
  refine ⟨_, (pss_cons (ps_expr (pe_fnYX H_need_width (hr.mono (by omega)) rfl (pa_cons (pv 0) pa_nil)))
    (pss_one (ps_if (pt_not (pt_val (pe_fn H_has_long (hr.mono (by omega)) rfl (pa_cons (pv 0) (pa_cons (pv 1) pa_nil)))))
      (pss_one (ps_raise1 X_NoLong (hr.mono (by omega)) rfl (pa_cons (pv 1) pa_nil)))
      pss_nil))), ?_⟩
  refine ⟨_, rfl, v, rfl, th, fun z hz => q1 z (vL_W hz), fun n => ?_⟩
  obtain ⟨w, rfl, h1, h2⟩ := vW_none n
  refine ⟨_, rfl, _, rfl, w, x, ox, rfl, h1, h2, lx, fun H' s' => ?_⟩
  cases e : hasO w ox with
  | true => exact ⟨_, rfl, iteF (q2 (vL_ok h1 h2 e) H' s')⟩
  | false => exact ⟨_, rfl, iteT ⟨_, rfl, _, rfl, fun d hd => ((q1 _ (vL_bad h1 h2 e)).same s').new rfl d hd⟩⟩
theorem ok_need_longs {f : Addr} {fd : FuncData} (F : Fun K "need_longs" "need_longs" s_need_longs f fd) (T : Txt K mg c) (H_need_long : HasY P w K mg base 5 "need_long" ["width", "one"] (spNL c)) : FnOk P w K mg base (CX2 P w base) 6 f fd ["width", "one", "other"] (spNLs c) := by
  refine Fun.okY F sc_need_longs (fun vs H Q E h => ?_) (fun cdv A outer s H vs Q E hr h => ?_)
  · obtain ⟨v, x, y, ox, oy, rfl, _⟩ := h
    rfl
  obtain ⟨v, x, y, ox, oy, rfl, th, lx, ly, q1, q2⟩ := h
  refine ⟨_, (pss_cons (ps_expr (pe_fnYX H_need_long (hr.mono (by omega)) rfl (pa_cons (pv 0) (pa_cons (pv 1) pa_nil))))
    (pss_one (ps_expr (pe_fnYX H_need_long (hr.mono (by omega)) rfl (pa_cons (pv 0) (pa_cons (pv 2) pa_nil)))))), ?_⟩
  refine ⟨_, rfl, _, rfl, v, x, ox, rfl, th, lx, fun z hz => q1 z (vLs_1 hz), fun n H1 s1 => ?_⟩
  exact ⟨_, rfl, _, rfl, v, y, oy, rfl, th.same s1, ly.same s1, fun z hz => (q1 z (vLs_2 n hz)).same s1, fun n2 H2 s2 => q2 (vLs_2 n n2) H2 (s1.trans s2)⟩
theorem ok_number_of {f : Addr} {fd : FuncData} (F : Fun K "number_of" "number_of" s_number_of f fd) (T : Txt K mg c) (H_need_long : HasY P w K mg base 5 "need_long" ["width", "one"] (spNL c)) : FnOk P w K mg base (CX2 P w base) 6 f fd ["width", "one"] (spD1 c) := by
  refine Fun.okY F sc_number_of (fun vs H Q E h => ?_) (fun cdv A outer s H vs Q E hr h => ?_)
  · obtain ⟨v, x, ox, z, rfl, _⟩ := h
    rfl
  obtain ⟨v, x, ox, z, rfl, th, lx, hz, q⟩ := h
  refine ⟨_, (pss_cons (ps_expr (pe_fnYX H_need_long (hr.mono (by omega)) rfl (pa_cons (pv 0) (pa_cons (pv 1) pa_nil)))) pss_never), ?_⟩
  exact ⟨_, rfl, _, rfl, v, x, ox, rfl, th, lx, SPV.some hz q⟩
theorem ok_long_left {f : Addr} {fd : FuncData} (F : Fun K "long_left" "long_left" s_long_left f fd) (T : Txt K mg c) (H_need_long : HasY P w K mg base 5 "need_long" ["width", "one"] (spNL c)) : FnOk P w K mg base (CX2 P w base) 6 f fd ["width", "one", "many"] (spD1k c) := by
  refine Fun.okY F sc_long_left (fun vs H Q E h => ?_) (fun cdv A outer s H vs Q E hr h => ?_)
  · obtain ⟨v, x, k, ox, z, rfl, _⟩ := h
    rfl
  obtain ⟨v, x, k, ox, z, rfl, th, lx, hz, q⟩ := h
  refine ⟨_, (pss_cons (ps_expr (pe_fnYX H_need_long (hr.mono (by omega)) rfl (pa_cons (pv 0) (pa_cons (pv 1) pa_nil)))) pss_never), ?_⟩
  exact ⟨_, rfl, _, rfl, v, x, ox, rfl, th, lx, SPV.some hz q⟩
theorem ok_long_right {f : Addr} {fd : FuncData} (F : Fun K "long_right" "long_right" s_long_right f fd) (T : Txt K mg c) (H_need_long : HasY P w K mg base 5 "need_long" ["width", "one"] (spNL c)) : FnOk P w K mg base (CX2 P w base) 6 f fd ["width", "one", "many"] (spD1k c) := by
  refine Fun.okY F sc_long_right (fun vs H Q E h => ?_) (fun cdv A outer s H vs Q E hr h => ?_)
  · obtain ⟨v, x, k, ox, z, rfl, _⟩ := h
    rfl
  obtain ⟨v, x, k, ox, z, rfl, th, lx, hz, q⟩ := h
  refine ⟨_, (pss_cons (ps_expr (pe_fnYX H_need_long (hr.mono (by omega)) rfl (pa_cons (pv 0) (pa_cons (pv 1) pa_nil)))) pss_never), ?_⟩
  exact ⟨_, rfl, _, rfl, v, x, ox, rfl, th, lx, SPV.some hz q⟩
theorem ok_long_sum {f : Addr} {fd : FuncData} (F : Fun K "long_sum" "long_sum" s_long_sum f fd) (T : Txt K mg c) (H_need_longs : HasY P w K mg base 6 "need_longs" ["width", "one", "other"] (spNLs c)) : FnOk P w K mg base (CX2 P w base) 7 f fd ["width", "one", "other"] (spD2 c) := by
  refine Fun.okY F sc_long_sum (fun vs H Q E h => ?_) (fun cdv A outer s H vs Q E hr h => ?_)
  · obtain ⟨v, x, y, ox, oy, z, rfl, _⟩ := h
    rfl
  obtain ⟨v, x, y, ox, oy, z, rfl, th, lx, ly, hz, q⟩ := h
  refine ⟨_, (pss_cons (ps_expr (pe_fnYX H_need_longs (hr.mono (by omega)) rfl (pa_cons (pv 0) (pa_cons (pv 1) (pa_cons (pv 2) pa_nil))))) pss_never), ?_⟩
  exact ⟨_, rfl, _, rfl, _, rfl, v, x, y, ox, oy, rfl, th, lx, ly, SPV.some hz q⟩
theorem ok_carries {f : Addr} {fd : FuncData} (F : Fun K "carries" "carries" s_carries f fd) (T : Txt K mg c) (H_need_longs : HasY P w K mg base 6 "need_longs" ["width", "one", "other"] (spNLs c)) : FnOk P w K mg base (CX2 P w base) 7 f fd ["width", "one", "other"] (spD2 c) := by
  refine Fun.okY F sc_carries (fun vs H Q E h => ?_) (fun cdv A outer s H vs Q E hr h => ?_)
  · obtain ⟨v, x, y, ox, oy, z, rfl, _⟩ := h
    rfl
  obtain ⟨v, x, y, ox, oy, z, rfl, th, lx, ly, hz, q⟩ := h
  refine ⟨_, (pss_cons (ps_expr (pe_fnYX H_need_longs (hr.mono (by omega)) rfl (pa_cons (pv 0) (pa_cons (pv 1) (pa_cons (pv 2) pa_nil))))) pss_never), ?_⟩
  exact ⟨_, rfl, _, rfl, _, rfl, v, x, y, ox, oy, rfl, th, lx, ly, SPV.some hz q⟩
theorem ok_long_product {f : Addr} {fd : FuncData} (F : Fun K "long_product" "long_product" s_long_product f fd) (T : Txt K mg c) (H_need_longs : HasY P w K mg base 6 "need_longs" ["width", "one", "other"] (spNLs c)) : FnOk P w K mg base (CX2 P w base) 7 f fd ["width", "one", "other"] (spD2 c) := by
  refine Fun.okY F sc_long_product (fun vs H Q E h => ?_) (fun cdv A outer s H vs Q E hr h => ?_)
  · obtain ⟨v, x, y, ox, oy, z, rfl, _⟩ := h
    rfl
  obtain ⟨v, x, y, ox, oy, z, rfl, th, lx, ly, hz, q⟩ := h
  refine ⟨_, (pss_cons (ps_expr (pe_fnYX H_need_longs (hr.mono (by omega)) rfl (pa_cons (pv 0) (pa_cons (pv 1) (pa_cons (pv 2) pa_nil))))) pss_never), ?_⟩
  exact ⟨_, rfl, _, rfl, _, rfl, v, x, y, ox, oy, rfl, th, lx, ly, SPV.some hz q⟩
theorem Nil0 {H : Hp} {x : V} (l : LV H x (some [])) : ∃ a, x = .ref a ∧ H a = some (.lst []) := by
  cases l with
  | lst h _ _ => exact ⟨_, rfl, h⟩
theorem ok_turn_of {f : Addr} {fd : FuncData} (F : Fun K "turn_of" "turn_of" s_turn_of f fd) (T : Txt K mg c) (H_need_long : HasY P w K mg base 5 "need_long" ["width", "one"] (spNL c)) : FnOk P w K mg base (CX2 P w base) 6 f fd ["width", "bottom"] (spTurn c) := by
  refine Fun.okY F sc_turn_of (fun vs H Q E h => ?_) (fun cdv A outer s H vs Q E hr h => ?_)
  · obtain ⟨v, x, ox, z, rfl, _⟩ := h
    rfl
  obtain ⟨v, x, ox, z, rfl, th, lx, hz, q⟩ := h
  refine ⟨_, (pss_cons (ps_expr (pe_fnYX H_need_long (hr.mono (by omega)) rfl (pa_cons (pv 0) (pa_cons (pv 1) pa_nil)))) (pss_cons (ps_if (pt_cmpR (op_eq0 (Nat.lt_of_succ_lt (hu_of hr))) (pv 1) (pe_lst pa_nil) (nomark _))
      (pss_one (ps_raiseY0 rfl T.g_NothingBy T.kf_exc_NothingBy))
      pss_nil) pss_never)), ?_⟩
  refine ⟨_, rfl, _, rfl, v, x, ox, rfl, th, lx, fun z' hz' => ?_, fun n H1 s1 => ?_⟩
  · rw [vTurn_1 hz'] at hz
    cases hz
    exact q
  · obtain ⟨rfl, rfl⟩ := nilO_some (by unfold vTurn at hz; rw [n] at hz; exact hz)
    obtain ⟨a, rfl, ha⟩ := Nil0 lx
    refine ⟨_, rfl, (by show 0 ≤ sizeLine; decide), fun l0 hl0 => ?_⟩
    have s2 := same_new hl0 (.lst [])
    exact ⟨a, l0, [], rfl, rfl, SqL.of (s2 _ _ (s1 _ _ ha)), SqL.of upd_same, _, rfl, iteT (q none _ (s1.trans s2) (.inr ⟨rfl, rfl⟩))⟩
theorem ok_need_division {f : Addr} {fd : FuncData} (F : Fun K "need_division" "need_division" s_need_division f fd) (T : Txt K mg c) (H_need_longs : HasY P w K mg base 6 "need_longs" ["width", "one", "other"] (spNLs c)) : FnOk P w K mg base (CX2 P w base) 7 f fd ["width", "top", "bottom"] (spDv c) := by
  refine Fun.okY F sc_need_division (fun vs H Q E h => ?_) (fun cdv A outer s H vs Q E hr h => ?_)
  · obtain ⟨v, x, y, ox, oy, z, rfl, _⟩ := h
    rfl
  obtain ⟨v, x, y, ox, oy, z, rfl, th, lx, ly, hz, q⟩ := h
  refine ⟨_, (pss_cons (ps_expr (pe_fnYX H_need_longs (hr.mono (by omega)) rfl (pa_cons (pv 0) (pa_cons (pv 1) (pa_cons (pv 2) pa_nil)))))
    (pss_one (ps_if (pt_cmpR (op_eq0 (Nat.lt_of_succ_lt (hu_of hr))) (pv 2) (pe_lst pa_nil) (nomark _))
      (pss_one (ps_raiseY0 rfl T.g_NothingBy T.kf_exc_NothingBy))
      pss_nil))), ?_⟩
  refine ⟨_, rfl, _, rfl, _, rfl, v, x, y, ox, oy, rfl, th, lx, ly, fun z' hz' => ?_, fun n H1 s1 => ?_⟩
  · rw [vDiv_1 hz'] at hz
    cases hz
    exact q
  · obtain ⟨rfl, rfl⟩ := nilO_some (by unfold vDiv at hz; rw [n] at hz; exact hz)
    obtain ⟨a, rfl, ha⟩ := Nil0 ly
    refine ⟨_, rfl, (by show 0 ≤ sizeLine; decide), fun l0 hl0 => ?_⟩
    have s2 := same_new hl0 (.lst [])
    exact ⟨a, l0, [], rfl, rfl, SqL.of (s2 _ _ (s1 _ _ ha)), SqL.of upd_same, _, rfl, iteT (q none _ (s1.trans s2) (.inr ⟨rfl, rfl⟩))⟩
theorem ok_steps_ahead {f : Addr} {fd : FuncData} (F : Fun K "steps_ahead" "steps_ahead" s_steps_ahead f fd) (T : Txt K mg c) (H_need_division : HasY P w K mg base 7 "need_division" ["width", "top", "bottom"] (spDv c)) : FnOk P w K mg base (CX2 P w base) 8 f fd ["width", "top", "bottom"] (spDv c) := by
  refine Fun.okY F sc_steps_ahead (fun vs H Q E h => ?_) (fun cdv A outer s H vs Q E hr h => ?_)
  · obtain ⟨v, x, y, ox, oy, z, rfl, _⟩ := h
    rfl
  obtain ⟨v, x, y, ox, oy, z, rfl, th, lx, ly, hz, q⟩ := h
  refine ⟨_, (pss_cons (ps_expr (pe_fnYX H_need_division (hr.mono (by omega)) rfl (pa_cons (pv 0) (pa_cons (pv 1) (pa_cons (pv 2) pa_nil))))) pss_never), ?_⟩
  exact ⟨_, rfl, _, rfl, _, rfl, v, x, y, ox, oy, z, rfl, th, lx, ly, hz, q⟩
theorem ok_bits_ahead {f : Addr} {fd : FuncData} (F : Fun K "bits_ahead" "bits_ahead" s_bits_ahead f fd) (T : Txt K mg c) (H_need_division : HasY P w K mg base 7 "need_division" ["width", "top", "bottom"] (spDv c)) : FnOk P w K mg base (CX2 P w base) 8 f fd ["width", "top", "bottom"] (spDv c) := by
  refine Fun.okY F sc_bits_ahead (fun vs H Q E h => ?_) (fun cdv A outer s H vs Q E hr h => ?_)
  · obtain ⟨v, x, y, ox, oy, z, rfl, _⟩ := h
    rfl
  obtain ⟨v, x, y, ox, oy, z, rfl, th, lx, ly, hz, q⟩ := h
  refine ⟨_, (pss_cons (ps_expr (pe_fnYX H_need_division (hr.mono (by omega)) rfl (pa_cons (pv 0) (pa_cons (pv 1) (pa_cons (pv 2) pa_nil))))) pss_never), ?_⟩
  exact ⟨_, rfl, _, rfl, _, rfl, v, x, y, ox, oy, z, rfl, th, lx, ly, hz, q⟩
theorem ok_long_divided {f : Addr} {fd : FuncData} (F : Fun K "long_divided" "long_divided" s_long_divided f fd) (T : Txt K mg c) (H_need_division : HasY P w K mg base 7 "need_division" ["width", "top", "bottom"] (spDv c)) : FnOk P w K mg base (CX2 P w base) 8 f fd ["width", "top", "bottom"] (spDv c) := by
  refine Fun.okY F sc_long_divided (fun vs H Q E h => ?_) (fun cdv A outer s H vs Q E hr h => ?_)
  · obtain ⟨v, x, y, ox, oy, z, rfl, _⟩ := h
    rfl
  obtain ⟨v, x, y, ox, oy, z, rfl, th, lx, ly, hz, q⟩ := h
  refine ⟨_, (pss_cons (ps_expr (pe_fnYX H_need_division (hr.mono (by omega)) rfl (pa_cons (pv 0) (pa_cons (pv 1) (pa_cons (pv 2) pa_nil))))) pss_never), ?_⟩
  exact ⟨_, rfl, _, rfl, _, rfl, v, x, y, ox, oy, z, rfl, th, lx, ly, hz, q⟩
theorem ok_is_division {f : Addr} {fd : FuncData} (F : Fun K "is_division" "is_division" s_is_division f fd) (T : Txt K mg c) (H_need_division : HasY P w K mg base 7 "need_division" ["width", "top", "bottom"] (spDv c)) : FnOk P w K mg base (CX2 P w base) 8 f fd ["width", "top", "bottom", "quotient", "rest", "rows"] (spDv6 c) := by
  refine Fun.okY F sc_is_division (fun vs H Q E h => ?_) (fun cdv A outer s H vs Q E hr h => ?_)
  · obtain ⟨v, x, y, p, q, r, ox, oy, z, rfl, _⟩ := h
    rfl
  obtain ⟨v, x, y, p, q, r, ox, oy, z, rfl, th, lx, ly, hz, qq⟩ := h
  refine ⟨_, (pss_cons (ps_expr (pe_fnYX H_need_division (hr.mono (by omega)) rfl (pa_cons (pv 0) (pa_cons (pv 1) (pa_cons (pv 2) pa_nil))))) pss_never), ?_⟩
  exact ⟨_, rfl, _, rfl, _, rfl, v, x, y, ox, oy, z, rfl, th, lx, ly, hz, qq⟩
theorem ok_worst {f : Addr} {fd : FuncData} (F : Fun K "worst" "worst" s_worst f fd) (T : Txt K mg c) (H_need_width : HasY P w K mg base 3 "need_width" ["width"] (spNW c)) : FnOk P w K mg base (CX2 P w base) 4 f fd ["width"] (spWst c) := by
  refine Fun.okY F sc_worst (fun vs H Q E h => ?_) (fun cdv A outer s H vs Q E hr h => ?_)
  · obtain ⟨v, z, rfl, _⟩ := h
    rfl
  obtain ⟨v, z, rfl, th, hz, q⟩ := h
  refine ⟨_, (pss_cons (ps_expr (pe_fnYX H_need_width (hr.mono (by omega)) rfl (pa_cons (pv 0) pa_nil))) pss_never), ?_⟩
  exact ⟨_, rfl, v, rfl, th, fun z' hz' => by rw [hz] at hz'; cases hz'; exact q, fun n => by rw [hz] at n; cases n⟩
theorem ok_long_of {f : Addr} {fd : FuncData} (F : Fun K "long_of" "long_of" s_long_of f fd) (T : Txt K mg c) (H_need_width : HasY P w K mg base 3 "need_width" ["width"] (spNW c)) (H_is_whole : Has P w K mg base 1 "is_whole" ["thing"] spWholeG) (X_NoLong : XHas P w K mg base 1 "NoLong" c.NoLong "found") : FnOk P w K mg base (CX2 P w base) 4 f fd ["width", "number"] (spLoD c) := by
  refine Fun.okY F sc_long_of (fun vs H Q E h => ?_) (fun cdv A outer s H vs Q E hr h => ?_)
  · obtain ⟨v, x, z, rfl, _⟩ := h
    rfl
  obtain ⟨v, x, z, rfl, th, tx, hz, q⟩ := h
  refine ⟨_, (pss_cons (ps_expr (pe_fnYX H_need_width (hr.mono (by omega)) rfl (pa_cons (pv 0) pa_nil))) (pss_cons (ps_if (PW.pt (pw_or (pt_not (pt_val (pe_fn H_is_whole (hr.mono (by omega)) rfl (pa_cons (pv 1) pa_nil)))) (pw_or1 (pt_cmpR op_lt (pv 1) pe_int (nomark _)))))
      (pss_one (ps_raise1 X_NoLong (hr.mono (by omega)) rfl (pa_cons (pv 1) pa_nil)))
      pss_nil) pss_never)), ?_⟩
  refine ⟨_, rfl, v, rfl, th, fun z' hz' => ?_, fun n => ?_⟩
  · unfold vLo at hz
    rw [hz'] at hz
    cases hz
    exact q
  · unfold vLo at hz
    rw [n] at hz
    have hz : (if (isI x && decide (0 ≤ iv x)) = true then none else some (Rz.lg x)) = some z := hz
    refine ⟨_, rfl, x, rfl, tx, ?_⟩
    cases tx with
    | int i =>
      refine ⟨_, rfl, iteF ?_⟩
      by_cases c0 : i < 0
      · rw [if_neg (by show ¬ (true && decide (0 ≤ i)) = true; rw [Bool.true_and, decide_eq_true_eq]; omega)] at hz
        cases hz
        exact ⟨_, rfl, _, _, rfl, rfl, _, rfl, iteD c0 ⟨_, rfl, _, rfl, fun d hd => q.new rfl d hd⟩⟩
      · rw [if_pos (by show (true && decide (0 ≤ i)) = true; rw [Bool.true_and, decide_eq_true_eq]; omega)] at hz
        cases hz
    | bl b => rw [if_neg (by intro z; cases z)] at hz; cases hz; exact ⟨_, rfl, iteT ⟨_, rfl, _, rfl, fun d hd => q.new rfl d hd⟩⟩
    | str b => rw [if_neg (by intro z; cases z)] at hz; cases hz; exact ⟨_, rfl, iteT ⟨_, rfl, _, rfl, fun d hd => q.new rfl d hd⟩⟩
    | non => rw [if_neg (by decide)] at hz; cases hz; exact ⟨_, rfl, iteT ⟨_, rfl, _, rfl, fun d hd => q.new rfl d hd⟩⟩
    | lst h => rw [if_neg (by intro z; cases z)] at hz; cases hz; exact ⟨_, rfl, iteT ⟨_, rfl, _, rfl, fun d hd => q.new rfl d hd⟩⟩
    | tup h => rw [if_neg (by intro z; cases z)] at hz; cases hz; exact ⟨_, rfl, iteT ⟨_, rfl, _, rfl, fun d hd => q.new rfl d hd⟩⟩
    | dct h => rw [if_neg (by intro z; cases z)] at hz; cases hz; exact ⟨_, rfl, iteT ⟨_, rfl, _, rfl, fun d hd => q.new rfl d hd⟩⟩
theorem ok_times_word {f : Addr} {fd : FuncData} (F : Fun K "times_word" "times_word" s_times_word f fd) (T : Txt K mg c) (H_need_long : HasY P w K mg base 5 "need_long" ["width", "one"] (spNL c)) (H_is_word : Has P w K mg base 3 "is_word" ["width", "thing"] spWordG) (X_NoWord : XHas P w K mg base 1 "NoWord" c.NoWord "found") : FnOk P w K mg base (CX2 P w base) 6 f fd ["width", "one", "word"] (spTwD c) := by
  refine Fun.okY F sc_times_word (fun vs H Q E h => ?_) (fun cdv A outer s H vs Q E hr h => ?_)
  · obtain ⟨v, x, y, ox, z, rfl, _⟩ := h
    rfl
  obtain ⟨v, x, y, ox, z, rfl, th, lx, ty, hz, q⟩ := h
  refine ⟨_, (pss_cons (ps_expr (pe_fnYX H_need_long (hr.mono (by omega)) rfl (pa_cons (pv 0) (pa_cons (pv 1) pa_nil)))) (pss_cons (ps_if (pt_not (pt_val (pe_fn H_is_word (hr.mono (by omega)) rfl (pa_cons (pv 0) (pa_cons (pv 2) pa_nil)))))
      (pss_one (ps_raise1 X_NoWord (hr.mono (by omega)) rfl (pa_cons (pv 2) pa_nil)))
      pss_nil) pss_never)), ?_⟩
  refine ⟨_, rfl, _, rfl, v, x, ox, rfl, th, lx, fun z' hz' => ?_, fun n H1 s1 => ?_⟩
  · rw [vTw_1 hz'] at hz
    cases hz
    exact q
  · unfold vTw at hz
    rw [n] at hz
    have hz : (if wdB v y = true then none else some (Rz.wo y)) = some z := hz
    obtain ⟨w, rfl, h1, h2, _⟩ := vL_none n
    refine ⟨_, rfl, _, rfl, w, y, rfl, h1, h2, ty.same s1, ?_⟩
    cases e : btw y 0 (1 * 2 ^ w.toNat - 1) with
    | true => rw [if_pos (show wdB (.int w) y = true from e)] at hz; cases hz
    | false =>
      rw [if_neg (by show ¬ btw y 0 (1 * 2 ^ w.toNat - 1) = true; rw [e]; decide)] at hz
      cases hz
      exact ⟨_, rfl, iteT ⟨_, rfl, _, rfl, fun d hd => (q.same s1).new rfl d hd⟩⟩
theorem ok_need_guess {f : Addr} {fd : FuncData} (F : Fun K "need_guess" "need_guess" s_need_guess f fd) (T : Txt K mg c) (H_need_width : HasY P w K mg base 3 "need_width" ["width"] (spNW c)) (H_is_word : Has P w K mg base 3 "is_word" ["width", "thing"] spWordG) (X_NoWord : XHas P w K mg base 1 "NoWord" c.NoWord "found") (X_NoDivisor : XHas P w K mg base 1 "NoDivisor" c.NoDivisor "found") : FnOk P w K mg base (CX2 P w base) 4 f fd ["width", "high", "low", "word"] (spGs c) := by
  refine Fun.okY F sc_need_guess (fun vs H Q E h => ?_) (fun cdv A outer s H vs Q E hr h => ?_)
  · obtain ⟨v, hi, lo, wd, z, rfl, _⟩ := h
    rfl
  obtain ⟨v, hi, lo, wd, z, rfl, th, t1, t2, t3, hz, q⟩ := h
  refine ⟨_, (pss_cons (ps_expr (pe_fnYX H_need_width (hr.mono (by omega)) rfl (pa_cons (pv 0) pa_nil)))
    (pss_cons (ps_if (pt_not (pt_val (pe_fn H_is_word (hr.mono (by omega)) rfl (pa_cons (pv 0) (pa_cons (pv 1) pa_nil)))))
      (pss_one (ps_raise1 X_NoWord (hr.mono (by omega)) rfl (pa_cons (pv 1) pa_nil)))
      pss_nil)
    (pss_cons (ps_if (pt_not (pt_val (pe_fn H_is_word (hr.mono (by omega)) rfl (pa_cons (pv 0) (pa_cons (pv 2) pa_nil)))))
      (pss_one (ps_raise1 X_NoWord (hr.mono (by omega)) rfl (pa_cons (pv 2) pa_nil)))
      pss_nil)
    (pss_cons (ps_if (PW.pt (pw_or (pt_not (pt_val (pe_fn H_is_word (hr.mono (by omega)) rfl (pa_cons (pv 0) (pa_cons (pv 3) pa_nil))))) (pw_or1 (pt_cmpR op_lt (pv 3) (pe_op op_shl pe_int (pe_op op_sub (pv 0) pe_int)) (nomark _)))))
      (pss_one (ps_raise1 X_NoDivisor (hr.mono (by omega)) rfl (pa_cons (pv 3) pa_nil)))
      pss_nil)
    (pss_one (ps_if (pt_cmpR op_gt (pv 1) (pv 3) (nomark _))
      (pss_one (ps_raise1 X_NoWord (hr.mono (by omega)) rfl (pa_cons (pv 1) pa_nil)))
      pss_nil)))))), ?_⟩
  refine ⟨_, rfl, v, rfl, th, fun z' hz' => ?_, fun n => ?_⟩
  · unfold vG at hz
    rw [hz'] at hz
    cases hz
    exact q
  · unfold vG at hz
    rw [n] at hz
    dsimp only at hz
    obtain ⟨w, rfl, h1, h2⟩ := vW_none n
    have pb := pw_bounds h1 h2
    refine ⟨_, rfl, _, rfl, w, hi, rfl, h1, h2, t1, ?_⟩
    cases e1 : btw hi 0 (1 * 2 ^ w.toNat - 1) with
    | false =>
      rw [if_pos (show wdB (.int w) hi = false from e1)] at hz
      cases hz
      exact ⟨_, rfl, iteT ⟨_, rfl, _, rfl, fun d hd => q.new rfl d hd⟩⟩
    | true =>
      rw [if_neg (by show ¬ btw hi 0 (1 * 2 ^ w.toNat - 1) = false; rw [e1]; decide)] at hz
      refine ⟨_, rfl, iteF ?_⟩
      refine ⟨_, rfl, _, rfl, w, lo, rfl, h1, h2, t2, ?_⟩
      cases e2 : btw lo 0 (1 * 2 ^ w.toNat - 1) with
      | false =>
        rw [if_pos (show wdB (.int w) lo = false from e2)] at hz
        cases hz
        exact ⟨_, rfl, iteT ⟨_, rfl, _, rfl, fun d hd => q.new rfl d hd⟩⟩
      | true =>
        rw [if_neg (by show ¬ btw lo 0 (1 * 2 ^ w.toNat - 1) = false; rw [e2]; decide)] at hz
        refine ⟨_, rfl, iteF ?_⟩
        refine ⟨_, rfl, _, rfl, w, wd, rfl, h1, h2, t3, ?_⟩
        cases e3 : btw wd 0 (1 * 2 ^ w.toNat - 1) with
        | false =>
          rw [if_pos (by show (btw wd 0 (1 * 2 ^ w.toNat - 1) && _) = false; rw [e3]; rfl)] at hz
          cases hz
          exact ⟨_, rfl, iteT ⟨_, rfl, _, rfl, fun d hd => q.new rfl d hd⟩⟩
        | true =>
          refine ⟨_, rfl, iteF ?_⟩
          obtain ⟨i3, rfl, a3, b3⟩ := btw_int e3
          obtain ⟨i1, rfl, a1, b1⟩ := btw_int e1
          refine ⟨_, rfl, _, rfl, _, _, rfl, rfl, _, _, rfl, rfl, cpow1 (by omega) (by omega), _, _, rfl, rfl, _, rfl, ?_⟩
          by_cases c3 : i3 < 1 * 2 ^ (w - 1).toNat
          · rw [if_pos (by show (btw (.int i3) 0 (1 * 2 ^ w.toNat - 1) && decide (1 * 2 ^ (w - 1).toNat ≤ i3)) = false; rw [e3, Bool.true_and, decide_eq_false_iff_not]; omega)] at hz
            cases hz
            exact iteD c3 ⟨_, rfl, _, rfl, fun d hd => q.new rfl d hd⟩
          · rw [if_neg (by show ¬ (btw (.int i3) 0 (1 * 2 ^ w.toNat - 1) && decide (1 * 2 ^ (w - 1).toNat ≤ i3)) = false; rw [e3, Bool.true_and, decide_eq_false_iff_not]; omega)] at hz
            refine iteDN c3 ?_
            by_cases c4 : i1 > i3
            · rw [if_pos (show iv (.int i1) > iv (.int i3) from c4)] at hz
              cases hz
              exact ⟨_, rfl, _, rfl, _, _, rfl, rfl, _, rfl, iteD c4 ⟨_, rfl, _, rfl, fun d hd => q.new rfl d hd⟩⟩
            · rw [if_neg (show ¬ iv (.int i1) > iv (.int i3) from c4)] at hz
              cases hz
theorem ok_guess_rows {f : Addr} {fd : FuncData} (F : Fun K "guess_rows" "guess_rows" s_guess_rows f fd) (T : Txt K mg c) (H_need_guess : HasY P w K mg base 4 "need_guess" ["width", "high", "low", "word"] (spGs c)) : FnOk P w K mg base (CX2 P w base) 5 f fd ["width", "high", "low", "word"] (spGs c) := by
  refine Fun.okY F sc_guess_rows (fun vs H Q E h => ?_) (fun cdv A outer s H vs Q E hr h => ?_)
  · obtain ⟨v, hi, lo, wd, z, rfl, _⟩ := h
    rfl
  obtain ⟨v, hi, lo, wd, z, rfl, th, t1, t2, t3, hz, q⟩ := h
  refine ⟨_, (pss_cons (ps_expr (pe_fnYX H_need_guess (hr.mono (by omega)) rfl (pa_cons (pv 0) (pa_cons (pv 1) (pa_cons (pv 2) (pa_cons (pv 3) pa_nil)))))) pss_never), ?_⟩
  exact ⟨_, rfl, _, rfl, _, rfl, _, rfl, v, hi, lo, wd, z, rfl, th, t1, t2, t3, hz, q⟩
theorem ok_guess_of {f : Addr} {fd : FuncData} (F : Fun K "guess_of" "guess_of" s_guess_of f fd) (T : Txt K mg c) (H_guess_rows : HasY P w K mg base 5 "guess_rows" ["width", "high", "low", "word"] (spGs c)) : FnOk P w K mg base (CX2 P w base) 6 f fd ["width", "high", "low", "word"] (spGs c) := by
  refine Fun.okY F sc_guess_of (fun vs H Q E h => ?_) (fun cdv A outer s H vs Q E hr h => ?_)
  · obtain ⟨v, hi, lo, wd, z, rfl, _⟩ := h
    rfl
  obtain ⟨v, hi, lo, wd, z, rfl, th, t1, t2, t3, hz, q⟩ := h
  refine ⟨_, (pss_cons (ps_set (i := 4) sc_guess_of.nd rfl (Or.inl rfl) pe_int)
    (pss_cons (ps_for PassesOwn.leaving rfl (pi_list (pe_fnYX H_guess_rows (hr.mono (by omega)) rfl (pa_cons (pv 0) (pa_cons (pv 1) (pa_cons (pv 2) (pa_cons (pv 3) pa_nil)))))) (pg_name (i := 5) sc_guess_of.nd rfl (Or.inl rfl))
      pss_never)
    (pss_one (ps_ret (pv 4))))), ?_⟩
  exact ⟨_, rfl, _, rfl, _, rfl, _, rfl, v, hi, lo, wd, z, rfl, th, t1, t2, t3, hz, q⟩
theorem ok_compared {f : Addr} {fd : FuncData} (F : Fun K "compared" "compared" s_compared f fd) (T : Txt K mg c)  : FnOk P w K mg base CX0 1 f fd ["one", "other"] spCmp8 := by
  refine F.ok sc_compared (fun vs H Q E h => ?_) (fun cdv A outer s H vs Q E hr h => ?_)
  · obtain ⟨a, b, xs, ys, rfl, _⟩ := h
    rfl
  obtain ⟨a, b, xs, ys, rfl, ha, hb, nx, ny, q⟩ := h
  refine ⟨_, (pss_cons (ps_if (pt_cmpR op_ne (pe_callB call_len_seq rfl T.n_len boot_len (pa_cons (pv 0) pa_nil)) (pe_callB call_len_seq rfl T.n_len boot_len (pa_cons (pv 1) pa_nil)) (nomark _))
      (pss_one (ps_ret (pe_ifExp (pt_cmpR op_lt (pe_callB call_len_seq rfl T.n_len boot_len (pa_cons (pv 0) pa_nil)) (pe_callB call_len_seq rfl T.n_len boot_len (pa_cons (pv 1) pa_nil)) (nomark _)) (pe_un un_neg pe_int) pe_int)))
      pss_nil)
    (pss_cons (ps_for PassesOwn.never rfl (pi_down rfl T.n_range (pa_cons (pe_op op_sub (pe_callB call_len_seq rfl T.n_len boot_len (pa_cons (pv 0) pa_nil)) pe_int) (pa_cons (pe_un un_neg pe_int) (pa_cons (pe_un un_neg pe_int) pa_nil)))) (pg_name (i := 2) sc_compared.nd rfl (Or.inl rfl))
      (pss_one (ps_if (pt_cmpR op_ne (pe_ix ix_list (pv 0) (pv 2) (fun _ _ => rfl)) (pe_ix ix_list (pv 1) (pv 2) (fun _ _ => rfl)) (nomark _))
        (pss_one (ps_ret (pe_ifExp (pt_cmpR op_lt (pe_ix ix_list (pv 0) (pv 2) (fun _ _ => rfl)) (pe_ix ix_list (pv 1) (pv 2) (fun _ _ => rfl)) (nomark _)) (pe_un un_neg pe_int) pe_int)))
        pss_nil)))
    (pss_one (ps_ret pe_int)))), ?_⟩
  have hlx : (xs.map V.int).length = xs.length := List.length_map _
  have hly : (ys.map V.int).length = ys.length := List.length_map _
  refine ⟨_, rfl, a, _, rfl, .inl (SqL.of ha), _, rfl, b, _, rfl, .inl (SqL.of hb), rfl, _, rfl, ?_⟩
  rw [hlx, hly]
  rcases q with ⟨rfl, q⟩ | ⟨lt, q⟩
  · refine iteNS rfl ?_
    refine ⟨_, rfl, a, _, rfl, .inl (SqL.of ha), _, _, rfl, rfl, _, rfl, _, rfl, (xs.length : Int) - 1, by rw [hlx], by omega, by omega, ?_⟩
    refine for_down (n := ((xs.length : Int) - 1 + 1).toNat) (fun j σ H1 => ∃ y : Option V, σ = [some (.ref a), some (.ref b), y] ∧ H1 = H) ⟨_, rfl, rfl⟩ ?_ ?_
    · rintro j σ H1 hj ⟨y, rfl, rfl⟩
      have hx : xs.length - 1 - j < xs.length := by omega
      have gx := getI xs _ hx
      have ep : ((xs.length - 1 - j : Nat) : Int) = (xs.length : Int) - 1 - (j : Int) := by omega
      rw [ep] at gx
      exact ⟨_, rfl, _, rfl, a, _, _, _, rfl, rfl, SqL.of ha, gx, _, rfl, _, rfl, b, _, _, _, rfl, rfl, SqL.of hb, gx, rfl, _, rfl, iteNS rfl ⟨_, rfl, rfl⟩⟩
    · rintro σ H1 ⟨y, rfl, rfl⟩
      exact q
  · refine iteN (fun z => ?_) ?_
    · injection z with z
      omega
    refine ⟨_, rfl, a, _, rfl, .inl (SqL.of ha), _, rfl, b, _, rfl, .inl (SqL.of hb), _, _, rfl, rfl, _, rfl, ?_⟩
    rw [hlx, hly]
    exact iteD (by omega) ⟨_, rfl, q⟩
theorem good_ints {w : Int} {xs : List V} (h : hasO w (some xs) = true) : ∃ ws : List Int, xs = ws.map V.int := by
  have h' : isL w xs = true := h
  unfold isL at h'
  have ha := (Bool.and_eq_true _ _ ▸ h').1
  clear h h'
  induction xs with
  | nil => exact ⟨[], rfl⟩
  | cons y r ih =>
    rw [List.all_cons, Bool.and_eq_true] at ha
    obtain ⟨i, rfl, _⟩ := btw_int ha.1
    obtain ⟨ws, rfl⟩ := ih ha.2
    exact ⟨i :: ws, rfl⟩
theorem LV.good {H : Hp} {w : Int} {x : V} {ox : Option (List V)} (l : LV H x ox) (h : hasO w ox = true) : ∃ (a : Addr) (ws : List Int), x = .ref a ∧ ox = some (ws.map V.int) ∧ H a = some (.lst (ws.map V.int)) ∧ ws.length ≤ 1000 := by
  cases l with
  | lst h1 t n =>
    obtain ⟨ws, rfl⟩ := good_ints h
    exact ⟨_, ws, rfl, rfl, h1, by rw [List.length_map] at n; exact n⟩
  | _ => cases h
theorem ok_need_gap {f : Addr} {fd : FuncData} (F : Fun K "need_gap" "need_gap" s_need_gap f fd) (T : Txt K mg c) (H_need_longs : HasY P w K mg base 6 "need_longs" ["width", "one", "other"] (spNLs c)) (H_compared : Has P w K mg base 1 "compared" ["one", "other"] spCmp8) : FnOk P w K mg base (CX2 P w base) 7 f fd ["width", "one", "other"] (spGp c) := by
  refine Fun.okY F sc_need_gap (fun vs H Q E h => ?_) (fun cdv A outer s H vs Q E hr h => ?_)
  · obtain ⟨v, x, y, ox, oy, z, rfl, _⟩ := h
    rfl
  obtain ⟨v, x, y, ox, oy, z, rfl, th, lx, ly, hz, q⟩ := h
  refine ⟨_, (pss_cons (ps_expr (pe_fnYX H_need_longs (hr.mono (by omega)) rfl (pa_cons (pv 0) (pa_cons (pv 1) (pa_cons (pv 2) pa_nil)))))
    (pss_one (ps_if (pt_cmpR op_lt (pe_fn H_compared (hr.mono (by omega)) rfl (pa_cons (pv 1) (pa_cons (pv 2) pa_nil))) pe_int (nomark _))
      (pss_one (ps_raiseY0 rfl T.g_Lesser T.kf_exc_Lesser))
      pss_nil))), ?_⟩
  refine ⟨_, rfl, _, rfl, _, rfl, v, x, y, ox, oy, rfl, th, lx, ly, fun z' hz' => ?_, fun n H1 s1 => ?_⟩
  · rw [vGap_1 hz'] at hz
    cases hz
    exact q
  · obtain ⟨n1, n2⟩ := vLs_none n
    obtain ⟨w, rfl, h1, h2, g1⟩ := vL_none n1
    obtain ⟨w', ew, _, _, g2⟩ := vL_none n2
    cases ew
    obtain ⟨a, xs, rfl, rfl, ha, na⟩ := lx.good g1
    obtain ⟨b, ys, rfl, rfl, hb, nb⟩ := ly.good g2
    unfold vGap at hz
    rw [n] at hz
    have hz : (if (xs.map V.int).length < (ys.map V.int).length then some Rz.le else none) = some z := hz
    rw [List.length_map, List.length_map] at hz
    by_cases c0 : xs.length < ys.length
    · rw [if_pos c0] at hz
      cases hz
      exact ⟨_, rfl, _, rfl, a, b, xs, ys, rfl, s1 _ _ ha, s1 _ _ hb, na, nb, .inr ⟨c0, _, _, rfl, rfl, _, rfl, iteD (by decide) (q none _ s1 (.inr ⟨rfl, rfl⟩))⟩⟩
    · rw [if_neg c0] at hz
      cases hz
theorem ok_long_gap {f : Addr} {fd : FuncData} (F : Fun K "long_gap" "long_gap" s_long_gap f fd) (T : Txt K mg c) (H_need_gap : HasY P w K mg base 7 "need_gap" ["width", "one", "other"] (spGp c)) : FnOk P w K mg base (CX2 P w base) 8 f fd ["width", "one", "other"] (spGp c) := by
  refine Fun.okY F sc_long_gap (fun vs H Q E h => ?_) (fun cdv A outer s H vs Q E hr h => ?_)
  · obtain ⟨v, x, y, ox, oy, z, rfl, _⟩ := h
    rfl
  obtain ⟨v, x, y, ox, oy, z, rfl, th, lx, ly, hz, q⟩ := h
  refine ⟨_, (pss_cons (ps_expr (pe_fnYX H_need_gap (hr.mono (by omega)) rfl (pa_cons (pv 0) (pa_cons (pv 1) (pa_cons (pv 2) pa_nil))))) pss_never), ?_⟩
  exact ⟨_, rfl, _, rfl, _, rfl, v, x, y, ox, oy, z, rfl, th, lx, ly, hz, q⟩
theorem ok_borrows {f : Addr} {fd : FuncData} (F : Fun K "borrows" "borrows" s_borrows f fd) (T : Txt K mg c) (H_need_gap : HasY P w K mg base 7 "need_gap" ["width", "one", "other"] (spGp c)) : FnOk P w K mg base (CX2 P w base) 8 f fd ["width", "one", "other"] (spGp c) := by
  refine Fun.okY F sc_borrows (fun vs H Q E h => ?_) (fun cdv A outer s H vs Q E hr h => ?_)
  · obtain ⟨v, x, y, ox, oy, z, rfl, _⟩ := h
    rfl
  obtain ⟨v, x, y, ox, oy, z, rfl, th, lx, ly, hz, q⟩ := h
  refine ⟨_, (pss_cons (ps_expr (pe_fnYX H_need_gap (hr.mono (by omega)) rfl (pa_cons (pv 0) (pa_cons (pv 1) (pa_cons (pv 2) pa_nil))))) pss_never), ?_⟩
  exact ⟨_, rfl, _, rfl, _, rfl, v, x, y, ox, oy, z, rfl, th, lx, ly, hz, q⟩
theorem ok_long_compare {f : Addr} {fd : FuncData} (F : Fun K "long_compare" "long_compare" s_long_compare f fd) (T : Txt K mg c) (H_need_longs : HasY P w K mg base 6 "need_longs" ["width", "one", "other"] (spNLs c)) (H_compared : Has P w K mg base 1 "compared" ["one", "other"] spCmp8) : FnOk P w K mg base (CX2 P w base) 7 f fd ["width", "one", "other"] (spLC8 c) := by
  refine Fun.okY F sc_long_compare (fun vs H Q E h => ?_) (fun cdv A outer s H vs Q E hr h => ?_)
  · obtain ⟨v, x, y, ox, oy, rfl, _⟩ := h
    rfl
  obtain ⟨v, x, y, ox, oy, rfl, th, lx, ly, q1, q2⟩ := h
  refine ⟨_, (pss_cons (ps_expr (pe_fnYX H_need_longs (hr.mono (by omega)) rfl (pa_cons (pv 0) (pa_cons (pv 1) (pa_cons (pv 2) pa_nil)))))
    (pss_one (ps_ret (pe_fn H_compared (hr.mono (by omega)) rfl (pa_cons (pv 1) (pa_cons (pv 2) pa_nil)))))), ?_⟩
  refine ⟨_, rfl, _, rfl, _, rfl, v, x, y, ox, oy, rfl, th, lx, ly, q1, fun n H1 s1 => ?_⟩
  obtain ⟨n1, n2⟩ := vLs_none n
  obtain ⟨w, rfl, h1, h2, g1⟩ := vL_none n1
  obtain ⟨w', ew, _, _, g2⟩ := vL_none n2
  cases ew
  obtain ⟨eo, q3⟩ := q2 n
  subst eo
  obtain ⟨a, xs, rfl, e1, ha, na⟩ := lx.good g1
  obtain ⟨b, ys, rfl, e2, hb, nb⟩ := ly.good g2
  have e3 : xs.map V.int = ys.map V.int := Option.some.inj (e1.symm.trans e2)
  have e4 : xs = ys := by
    have := congrArg (List.map iv) e3
    rw [List.map_map, List.map_map] at this
    simpa [Function.comp_def, iv] using this
  exact ⟨_, rfl, _, rfl, a, b, xs, ys, rfl, s1 _ _ ha, s1 _ _ hb, na, nb,   .inl ⟨e4, q3 _ s1⟩⟩
theorem ok__law_one {f : Addr} {fd : FuncData} (F : Fun K "_law_one" "_law_one" s__law_one f fd) (T : Txt K mg c) (H_is_division : HasY P w K mg base 8 "is_division" ["width", "top", "bottom", "quotient", "rest", "rows"] (spDv6 c)) (H_number_of : HasY P w K mg base 6 "number_of" ["width", "one"] (spD1 c)) (H_long_left : HasY P w K mg base 6 "long_left" ["width", "one", "many"] (spD1k c)) (H_long_right : HasY P w K mg base 6 "long_right" ["width", "one", "many"] (spD1k c)) (H_turn_of : HasY P w K mg base 6 "turn_of" ["width", "bottom"] (spTurn c)) (H_times_word : HasY P w K mg base 6 "times_word" ["width", "one", "word"] (spTwD c)) : FnOk P w K mg base (CX2 P w base) 9 f fd ["_law_which", "_law_width", "_law_one_here"] (spOne c) := by
  refine Fun.okY F sc__law_one (fun vs H Q E h => ?_) (fun cdv A outer s H vs Q E hr h => ?_)
  · obtain ⟨n, v, x, ox, z, rfl, _⟩ := h
    rfl
  obtain ⟨n, v, x, ox, z, rfl, n0, n6, th, lx, ok, q⟩ := h
  refine ⟨_, (pss_cons (ps_if (pt_cmpR op_eq (pv 0) pe_int (nomark _))
      (pss_one (ps_ret (pe_fnYX H_number_of (hr.mono (by omega)) rfl (pa_cons (pv 1) (pa_cons (pv 2) pa_nil)))))
      pss_nil)
    (pss_cons (ps_if (pt_cmpR op_eq (pv 0) pe_int (nomark _))
      (pss_one (ps_ret (pe_fnYX H_long_left (hr.mono (by omega)) rfl (pa_cons (pv 1) (pa_cons (pv 2) (pa_cons pe_int pa_nil))))))
      pss_nil)
    (pss_cons (ps_if (pt_cmpR op_eq (pv 0) pe_int (nomark _))
      (pss_one (ps_ret (pe_fnYX H_long_right (hr.mono (by omega)) rfl (pa_cons (pv 1) (pa_cons (pv 2) (pa_cons pe_int pa_nil))))))
      pss_nil)
    (pss_cons (ps_if (pt_cmpR op_eq (pv 0) pe_int (nomark _))
      (pss_one (ps_ret (pe_fnYX H_turn_of (hr.mono (by omega)) rfl (pa_cons (pv 1) (pa_cons (pv 2) pa_nil)))))
      pss_nil)
    (pss_cons (ps_if (pt_cmpR op_eq (pv 0) pe_int (nomark _))
      (pss_one (ps_ret (pe_fnYX H_times_word (hr.mono (by omega)) rfl (pa_cons (pv 1) (pa_cons (pv 2) (pa_cons (pe_op op_sub pe_int pe_int) pa_nil))))))
      pss_nil)
    (pss_one (ps_ret (pe_fnYX H_is_division (hr.mono (by omega)) rfl (pa_consN (pv 1) (pa_consN (pv 2) (pa_consN (pe_lst (pa_cons pe_int pa_nil)) (pa_consN (pe_lst pa_nil) (pa_consN (pe_lst pa_nil) (pa_consN (pe_lst pa_nil) pa_nil)))))))))))))), ?_⟩
  have k : n ≠ 3 → vL v x ox = some z := fun h => by
    rcases ok with o | ⟨o, _⟩
    · exact o
    · exact absurd o h
  refine ⟨_, rfl, rfl, _, rfl, iteI (fun c0 => ?_) (fun c0 => ?_)⟩
  · exact ⟨_, rfl, _, rfl, v, x, ox, z, rfl, th, lx, k (by omega), q⟩
  refine ⟨_, rfl, rfl, _, rfl, iteI (fun c1 => ?_) (fun c1 => ?_)⟩
  · exact ⟨_, rfl, _, rfl, v, x, _, ox, z, rfl, th, lx, k (by omega), q⟩
  refine ⟨_, rfl, rfl, _, rfl, iteI (fun c2 => ?_) (fun c2 => ?_)⟩
  · exact ⟨_, rfl, _, rfl, v, x, _, ox, z, rfl, th, lx, k (by omega), q⟩
  refine ⟨_, rfl, rfl, _, rfl, iteI (fun c3 => ?_) (fun c3 => ?_)⟩
  · exact ⟨_, rfl, _, rfl, v, x, ox, z, rfl, th, lx, ok.elim vTurn_1 (fun o => o.2), q⟩
  refine ⟨_, rfl, rfl, _, rfl, iteI (fun c4 => ?_) (fun c4 => ?_)⟩
  · exact ⟨_, rfl, _, rfl, _, _, rfl, rfl, v, x, _, ox, z, rfl, th, lx, .int _, vTw_1 (k (by omega)), q⟩
  refine ⟨_, rfl, _, rfl, (by show 1 ≤ sizeLine; decide), fun l1 h1 => ⟨(by show 0 ≤ sizeLine; decide), fun l2 h2 => ⟨(by show 0 ≤ sizeLine; decide), fun l3 h3 => ⟨(by show 0 ≤ sizeLine; decide), fun l4 h4 => ?_⟩⟩⟩⟩
  have s1 := same_new h1 (.lst [.int 1])
  have s4 := ((same_new h2 (.lst [])).trans (same_new h3 (.lst []))).trans (same_new h4 (.lst []))
  have ss := s1.trans s4
  exact ⟨v, x, .ref l1, _, _, _, ox, some [.int 1], z, rfl, th.same ss, lx.same ss, .lst (s4 _ _ upd_same) (fun y hy => by cases List.mem_singleton.mp hy; exact .int 1) (by show 1 ≤ 1000; decide), vDiv_1 (vLs_1 (k (by omega))), q.same ss⟩
theorem ok__law_two {f : Addr} {fd : FuncData} (F : Fun K "_law_two" "_law_two" s__law_two f fd) (T : Txt K mg c) (H_is_division : HasY P w K mg base 8 "is_division" ["width", "top", "bottom", "quotient", "rest", "rows"] (spDv6 c)) (H_long_sum : HasY P w K mg base 7 "long_sum" ["width", "one", "other"] (spD2 c)) (H_carries : HasY P w K mg base 7 "carries" ["width", "one", "other"] (spD2 c)) (H_long_gap : HasY P w K mg base 8 "long_gap" ["width", "one", "other"] (spGp c)) (H_borrows : HasY P w K mg base 8 "borrows" ["width", "one", "other"] (spGp c)) (H_long_compare : HasY P w K mg base 7 "long_compare" ["width", "one", "other"] (spLC8 c)) (H_long_product : HasY P w K mg base 7 "long_product" ["width", "one", "other"] (spD2 c)) (H_steps_ahead : HasY P w K mg base 8 "steps_ahead" ["width", "top", "bottom"] (spDv c)) (H_bits_ahead : HasY P w K mg base 8 "bits_ahead" ["width", "top", "bottom"] (spDv c)) (H_long_divided : HasY P w K mg base 8 "long_divided" ["width", "top", "bottom"] (spDv c)) : FnOk P w K mg base (CX2 P w base) 9 f fd ["_law_which", "_law_width", "_law_one_here", "_law_other"] (spTwo c) := by
  refine Fun.okY F sc__law_two (fun vs H Q E h => ?_) (fun cdv A outer s H vs Q E hr h => ?_)
  · obtain ⟨n, v, x, y, ox, oy, z, rfl, _⟩ := h
    rfl
  obtain ⟨n, v, x, y, ox, oy, z, rfl, n0, n10, th, lx, ly, ok, q⟩ := h
  refine ⟨_, (pss_cons (ps_if (pt_cmpR op_eq (pv 0) pe_int (nomark _))
      (pss_one (ps_ret (pe_fnYX H_long_sum (hr.mono (by omega)) rfl (pa_cons (pv 1) (pa_cons (pv 2) (pa_cons (pv 3) pa_nil))))))
      pss_nil)
    (pss_cons (ps_if (pt_cmpR op_eq (pv 0) pe_int (nomark _))
      (pss_one (ps_ret (pe_fnYX H_carries (hr.mono (by omega)) rfl (pa_cons (pv 1) (pa_cons (pv 2) (pa_cons (pv 3) pa_nil))))))
      pss_nil)
    (pss_cons (ps_if (pt_cmpR op_eq (pv 0) pe_int (nomark _))
      (pss_one (ps_ret (pe_fnYX H_long_gap (hr.mono (by omega)) rfl (pa_cons (pv 1) (pa_cons (pv 2) (pa_cons (pv 3) pa_nil))))))
      pss_nil)
    (pss_cons (ps_if (pt_cmpR op_eq (pv 0) pe_int (nomark _))
      (pss_one (ps_ret (pe_fnYX H_borrows (hr.mono (by omega)) rfl (pa_cons (pv 1) (pa_cons (pv 2) (pa_cons (pv 3) pa_nil))))))
      pss_nil)
    (pss_cons (ps_if (pt_cmpR op_eq (pv 0) pe_int (nomark _))
      (pss_one (ps_ret (pe_fnYX H_long_compare (hr.mono (by omega)) rfl (pa_cons (pv 1) (pa_cons (pv 2) (pa_cons (pv 3) pa_nil))))))
      pss_nil)
    (pss_cons (ps_if (pt_cmpR op_eq (pv 0) pe_int (nomark _))
      (pss_one (ps_ret (pe_fnYX H_long_product (hr.mono (by omega)) rfl (pa_cons (pv 1) (pa_cons (pv 2) (pa_cons (pv 3) pa_nil))))))
      pss_nil)
    (pss_cons (ps_if (pt_cmpR op_eq (pv 0) pe_int (nomark _))
      (pss_one (ps_ret (pe_fnYX H_steps_ahead (hr.mono (by omega)) rfl (pa_cons (pv 1) (pa_cons (pv 2) (pa_cons (pv 3) pa_nil))))))
      pss_nil)
    (pss_cons (ps_if (pt_cmpR op_eq (pv 0) pe_int (nomark _))
      (pss_one (ps_ret (pe_fnYX H_bits_ahead (hr.mono (by omega)) rfl (pa_cons (pv 1) (pa_cons (pv 2) (pa_cons (pv 3) pa_nil))))))
      pss_nil)
    (pss_cons (ps_if (pt_cmpR op_eq (pv 0) pe_int (nomark _))
      (pss_one (ps_ret (pe_fnYX H_long_divided (hr.mono (by omega)) rfl (pa_cons (pv 1) (pa_cons (pv 2) (pa_cons (pv 3) pa_nil))))))
      pss_nil)
    (pss_one (ps_ret (pe_fnYX H_is_division (hr.mono (by omega)) rfl (pa_consN (pv 1) (pa_consN (pv 2) (pa_consN (pv 3) (pa_consN (pe_lst pa_nil) (pa_consN (pe_lst pa_nil) (pa_consN (pe_lst pa_nil) pa_nil)))))))))))))))))), ?_⟩
  have k1 : n < 2 ∨ n = 4 ∨ n = 5 → vLs v x ox y oy = some z := fun h => by
    rcases ok with o | ⟨o1, o2, _⟩ | ⟨o1, _⟩
    · exact o
    · omega
    · omega
  have k2 : n < 4 → vGap v x ox y oy = some z := fun h => by
    rcases ok with o | ⟨_, _, o⟩ | ⟨o1, _⟩
    · exact vGap_1 o
    · exact o
    · omega
  have k3 : 6 ≤ n → vDiv v x ox y oy = some z := fun h => by
    rcases ok with o | ⟨_, o2, _⟩ | ⟨_, o⟩
    · exact vDiv_1 o
    · omega
    · exact o
  refine ⟨_, rfl, rfl, _, rfl, iteI (fun c0 => ?_) (fun c0 => ?_)⟩
  · exact ⟨_, rfl, _, rfl, _, rfl, v, x, y, ox, oy, z, rfl, th, lx, ly, k1 (by omega), q⟩
  refine ⟨_, rfl, rfl, _, rfl, iteI (fun c1 => ?_) (fun c1 => ?_)⟩
  · exact ⟨_, rfl, _, rfl, _, rfl, v, x, y, ox, oy, z, rfl, th, lx, ly, k1 (by omega), q⟩
  refine ⟨_, rfl, rfl, _, rfl, iteI (fun c2 => ?_) (fun c2 => ?_)⟩
  · exact ⟨_, rfl, _, rfl, _, rfl, v, x, y, ox, oy, z, rfl, th, lx, ly, k2 (by omega), q⟩
  refine ⟨_, rfl, rfl, _, rfl, iteI (fun c3 => ?_) (fun c3 => ?_)⟩
  · exact ⟨_, rfl, _, rfl, _, rfl, v, x, y, ox, oy, z, rfl, th, lx, ly, k2 (by omega), q⟩
  refine ⟨_, rfl, rfl, _, rfl, iteI (fun c4 => ?_) (fun c4 => ?_)⟩
  · exact ⟨_, rfl, _, rfl, _, rfl, v, x, y, ox, oy, rfl, th, lx, ly, (fun z' hz' => by rw [k1 (by omega)] at hz'; cases hz'; exact q), (fun nn => by rw [k1 (by omega)] at nn; cases nn)⟩
  refine ⟨_, rfl, rfl, _, rfl, iteI (fun c5 => ?_) (fun c5 => ?_)⟩
  · exact ⟨_, rfl, _, rfl, _, rfl, v, x, y, ox, oy, z, rfl, th, lx, ly, k1 (by omega), q⟩
  refine ⟨_, rfl, rfl, _, rfl, iteI (fun c6 => ?_) (fun c6 => ?_)⟩
  · exact ⟨_, rfl, _, rfl, _, rfl, v, x, y, ox, oy, z, rfl, th, lx, ly, k3 (by omega), q⟩
  refine ⟨_, rfl, rfl, _, rfl, iteI (fun c7 => ?_) (fun c7 => ?_)⟩
  · exact ⟨_, rfl, _, rfl, _, rfl, v, x, y, ox, oy, z, rfl, th, lx, ly, k3 (by omega), q⟩
  refine ⟨_, rfl, rfl, _, rfl, iteI (fun c8 => ?_) (fun c8 => ?_)⟩
  · exact ⟨_, rfl, _, rfl, _, rfl, v, x, y, ox, oy, z, rfl, th, lx, ly, k3 (by omega), q⟩
  refine ⟨_, rfl, _, rfl, _, rfl, (by show 0 ≤ sizeLine; decide), fun l2 h2 => ⟨(by show 0 ≤ sizeLine; decide), fun l3 h3 => ⟨(by show 0 ≤ sizeLine; decide), fun l4 h4 => ?_⟩⟩⟩
  have ss := ((same_new h2 (.lst [])).trans (same_new h3 (.lst []))).trans (same_new h4 (.lst []))
  exact ⟨v, x, y, _, _, _, ox, oy, z, rfl, th.same ss, lx.same ss, ly.same ss, k3 (by omega), q.same ss⟩
theorem ok__law_else {f : Addr} {fd : FuncData} (F : Fun K "_law_else" "_law_else" s__law_else f fd) (T : Txt K mg c) (H_worst : HasY P w K mg base 4 "worst" ["width"] (spWst c)) (H_long_of : HasY P w K mg base 4 "long_of" ["width", "number"] (spLoD c)) (H_times_word : HasY P w K mg base 6 "times_word" ["width", "one", "word"] (spTwD c)) (H_guess_of : HasY P w K mg base 6 "guess_of" ["width", "high", "low", "word"] (spGs c)) (H_guess_rows : HasY P w K mg base 5 "guess_rows" ["width", "high", "low", "word"] (spGs c)) (H_is_long : HasY P w K mg base 5 "is_long" ["width", "thing"] (spIsL c)) : FnOk P w K mg base (CX2 P w base) 7 f fd ["_law_which", "_law_width", "_law_thing"] (spElse c) := by
  refine Fun.okY F sc__law_else (fun vs H Q E h => ?_) (fun cdv A outer s H vs Q E hr h => ?_)
  · obtain ⟨n, v, x, z, rfl, _⟩ := h
    rfl
  obtain ⟨n, v, x, z, rfl, n0, n6, th, ok, q⟩ := h
  refine ⟨_, (pss_cons (ps_if (pt_cmpR op_eq (pv 0) pe_int (nomark _))
      (pss_one (ps_ret (pe_fnYX H_long_of (hr.mono (by omega)) rfl (pa_cons (pv 1) (pa_cons (pv 2) pa_nil)))))
      pss_nil)
    (pss_cons (ps_if (pt_cmpR op_eq (pv 0) pe_int (nomark _))
      (pss_one (ps_ret (pe_fnYX H_times_word (hr.mono (by omega)) rfl (pa_cons (pv 1) (pa_cons (pe_lst (pa_cons pe_int pa_nil)) (pa_cons (pv 2) pa_nil))))))
      pss_nil)
    (pss_cons (ps_if (pt_cmpR op_eq (pv 0) pe_int (nomark _))
      (pss_one (ps_ret (pe_fnYX H_guess_of (hr.mono (by omega)) rfl (pa_cons (pv 1) (pa_cons (pe_ix ix_tup (pv 2) pe_int (fun _ _ => rfl)) (pa_cons (pe_ix ix_tup (pv 2) pe_int (fun _ _ => rfl)) (pa_cons (pe_ix ix_tup (pv 2) pe_int (fun _ _ => rfl)) pa_nil)))))))
      pss_nil)
    (pss_cons (ps_if (pt_cmpR op_eq (pv 0) pe_int (nomark _))
      (pss_one (ps_ret (pe_fnYX H_guess_rows (hr.mono (by omega)) rfl (pa_cons (pv 1) (pa_cons (pe_ix ix_tup (pv 2) pe_int (fun _ _ => rfl)) (pa_cons (pe_ix ix_tup (pv 2) pe_int (fun _ _ => rfl)) (pa_cons (pe_ix ix_tup (pv 2) pe_int (fun _ _ => rfl)) pa_nil)))))))
      pss_nil)
    (pss_cons (ps_if (pt_cmpR op_eq (pv 0) pe_int (nomark _))
      (pss_one (ps_ret (pe_fnYX H_is_long (hr.mono (by omega)) rfl (pa_cons (pv 1) (pa_cons (pv 2) pa_nil)))))
      pss_nil)
    (pss_one (ps_ret (pe_fnYX H_worst (hr.mono (by omega)) rfl (pa_cons (pv 1) pa_nil))))))))), ?_⟩
  refine ⟨_, rfl, rfl, _, rfl, iteI (fun c0 => ?_) (fun c0 => ?_)⟩
  · rcases ok with ⟨_, tx, hz⟩ | ⟨o, _⟩ | ⟨o, _⟩ | ⟨o, _⟩ | ⟨o, _⟩
    · exact ⟨_, rfl, _, rfl, v, x, z, rfl, th, tx, hz, q⟩
    all_goals omega
  refine ⟨_, rfl, rfl, _, rfl, iteI (fun c1 => ?_) (fun c1 => ?_)⟩
  · rcases ok with ⟨o, _⟩ | ⟨_, tx, hz⟩ | ⟨o, _⟩ | ⟨o, _⟩ | ⟨o, _⟩
    · omega
    · refine ⟨_, rfl, (by show 1 ≤ sizeLine; decide), fun l1 h1 => ⟨_, rfl, ?_⟩⟩
      have s1 := same_new h1 (.lst [.int 1])
      exact ⟨v, .ref l1, x, some [.int 1], z, rfl, th.same s1, .lst upd_same (fun y hy => by cases List.mem_singleton.mp hy; exact .int 1) (by show 1 ≤ 1000; decide), tx.same s1, t1_tw hz, q.same s1⟩
    all_goals omega
  refine ⟨_, rfl, rfl, _, rfl, iteI (fun c2 => ?_) (fun c2 => ?_)⟩
  · rcases ok with ⟨o, _⟩ | ⟨o, _⟩ | ⟨_, t, a, b, d, rfl, ht, ta, tb, td, hz⟩ | ⟨o, _⟩ | ⟨o, _⟩
    · omega
    · omega
    · exact ⟨_, rfl, _, rfl, t, _, _, _, rfl, rfl, SqT.of ht, rfl, _, rfl, t, _, _, _, rfl, rfl, SqT.of ht, rfl, _, rfl, t, _, _, _, rfl, rfl, SqT.of ht, rfl, v, a, b, d, z, rfl, th, ta, tb, td, hz, q⟩
    all_goals omega
  refine ⟨_, rfl, rfl, _, rfl, iteI (fun c3 => ?_) (fun c3 => ?_)⟩
  · rcases ok with ⟨o, _⟩ | ⟨o, _⟩ | ⟨_, t, a, b, d, rfl, ht, ta, tb, td, hz⟩ | ⟨o, _⟩ | ⟨o, _⟩
    · omega
    · omega
    · exact ⟨_, rfl, _, rfl, t, _, _, _, rfl, rfl, SqT.of ht, rfl, _, rfl, t, _, _, _, rfl, rfl, SqT.of ht, rfl, _, rfl, t, _, _, _, rfl, rfl, SqT.of ht, rfl, v, a, b, d, z, rfl, th, ta, tb, td, hz, q⟩
    all_goals omega
  refine ⟨_, rfl, rfl, _, rfl, iteI (fun c4 => ?_) (fun c4 => ?_)⟩
  · rcases ok with ⟨o, _⟩ | ⟨o, _⟩ | ⟨o, _⟩ | ⟨_, ⟨ox, lx⟩, hz⟩ | ⟨o, _⟩
    · omega
    · omega
    · omega
    · exact ⟨_, rfl, _, rfl, v, x, ox, rfl, th, lx, (fun z' hz' => by rw [hz] at hz'; cases hz'; exact q), (fun w ew h1 h2 => by rw [ew, vW_ok (btw_of h1 h2)] at hz; cases hz)⟩
    · omega
  rcases ok with ⟨o, _⟩ | ⟨o, _⟩ | ⟨o, _⟩ | ⟨o, _⟩ | ⟨_, hz⟩
  · omega
  · omega
  · omega
  · omega
  · exact ⟨_, rfl, v, z, rfl, th, hz, q⟩
theorem ok__law_asked {f : Addr} {fd : FuncData} (F : Fun K "_law_asked" "_law_asked" s__law_asked f fd) (T : Txt K mg c) (H__law_else : HasY P w K mg base 7 "_law_else" ["_law_which", "_law_width", "_law_thing"] (spElse c)) (H__law_one : HasY P w K mg base 9 "_law_one" ["_law_which", "_law_width", "_law_one_here"] (spOne c)) (H__law_two : HasY P w K mg base 9 "_law_two" ["_law_which", "_law_width", "_law_one_here", "_law_other"] (spTwo c)) : FnOk P w K mg base (CX2 P w base) 10 f fd ["_law_door", "_law_which", "_law_width", "_law_one_here", "_law_other"] (spAsk c) := by
  refine Fun.okY F sc__law_asked (fun vs H Q E h => ?_) (fun cdv A outer s H vs Q E hr h => ?_)
  · obtain ⟨door, n, v, x, y, z, rfl, _⟩ := h
    rfl
  obtain ⟨door, n, v, x, y, z, rfl, ⟨th, ok⟩, q⟩ := h
  refine ⟨_, (pss_cons (ps_if (pt_cmpR op_eq (pv 0) pe_int (nomark _))
      (pss_one (ps_ret (pe_fnYX H__law_one (hr.mono (by omega)) rfl (pa_cons (pv 1) (pa_cons (pv 2) (pa_cons (pv 3) pa_nil))))))
      pss_nil)
    (pss_cons (ps_if (pt_cmpR op_eq (pv 0) pe_int (nomark _))
      (pss_one (ps_ret (pe_fnYX H__law_two (hr.mono (by omega)) rfl (pa_cons (pv 1) (pa_cons (pv 2) (pa_cons (pv 3) (pa_cons (pv 4) pa_nil)))))))
      pss_nil)
    (pss_one (ps_ret (pe_fnYX H__law_else (hr.mono (by omega)) rfl (pa_cons (pv 1) (pa_cons (pv 2) (pa_cons (pv 3) pa_nil)))))))), ?_⟩
  refine ⟨_, rfl, rfl, _, rfl, iteI (fun c0 => ?_) (fun c0 => ?_)⟩
  · rcases ok with ⟨_, n0, n6, ox, lx, ok⟩ | ⟨o, _⟩ | ⟨o, _⟩
    · exact ⟨_, rfl, _, rfl, _, rfl, n, v, x, ox, z, rfl, n0, n6, th, lx, ok, q⟩
    all_goals omega
  refine ⟨_, rfl, rfl, _, rfl, iteI (fun c1 => ?_) (fun c1 => ?_)⟩
  · rcases ok with ⟨o, _⟩ | ⟨_, n0, n6, ox, oy, lx, ly, ok⟩ | ⟨o, _⟩
    · omega
    · exact ⟨_, rfl, _, rfl, _, rfl, _, rfl, n, v, x, y, ox, oy, z, rfl, n0, n6, th, lx, ly, ok, q⟩
    · omega
  rcases ok with ⟨o, _⟩ | ⟨o, _⟩ | ⟨_, n0, n6, ok⟩
  · omega
  · omega
  · exact ⟨_, rfl, _, rfl, _, rfl, n, v, x, z, rfl, n0, n6, th, ok, q⟩
theorem boot_ValueError : bootBuiltins "ValueError" = some (.type "ValueError") := PyProof.Rows.Boot.«ValueError»
theorem Txt.exf {K : PySem.W.Frag} {mg : Str → Option Value} {c : Ad} (T : Txt K mg c) (z : Rz) : ExF K (z.cls c) ∧ PySem.W.exmOne K (.ref (z.cls c)) (.ref c.WiseError) = some true ∧ PySem.W.kitOne K (.ref (z.cls c)) (.type "ValueError") = some true := by
  cases z with
  | wd v => exact ⟨⟨T.kf_ga_NoWidth, T.kf_gn_NoWidth, T.kf_gc_NoWidth, T.kf_mo_NoWidth, T.kf_mb_NoWidth⟩, exm_of T.kf_if__WiseError T.kf_tf_WiseError T.kf_mw_NoWidth T.kf_wb_WiseError, kit_base rfl T.kf_mv_NoWidth⟩
  | lg v => exact ⟨⟨T.kf_ga_NoLong, T.kf_gn_NoLong, T.kf_gc_NoLong, T.kf_mo_NoLong, T.kf_mb_NoLong⟩, exm_of T.kf_if__WiseError T.kf_tf_WiseError T.kf_mw_NoLong T.kf_wb_WiseError, kit_base rfl T.kf_mv_NoLong⟩
  | wo v => exact ⟨⟨T.kf_ga_NoWord, T.kf_gn_NoWord, T.kf_gc_NoWord, T.kf_mo_NoWord, T.kf_mb_NoWord⟩, exm_of T.kf_if__WiseError T.kf_tf_WiseError T.kf_mw_NoWord T.kf_wb_WiseError, kit_base rfl T.kf_mv_NoWord⟩
  | dv v => exact ⟨⟨T.kf_ga_NoDivisor, T.kf_gn_NoDivisor, T.kf_gc_NoDivisor, T.kf_mo_NoDivisor, T.kf_mb_NoDivisor⟩, exm_of T.kf_if__WiseError T.kf_tf_WiseError T.kf_mw_NoDivisor T.kf_wb_WiseError, kit_base rfl T.kf_mv_NoDivisor⟩
  | le => exact ⟨⟨T.kf_ga_Lesser, T.kf_gn_Lesser, T.kf_gc_Lesser, T.kf_mo_Lesser, T.kf_mb_Lesser⟩, exm_of T.kf_if__WiseError T.kf_tf_WiseError T.kf_mw_Lesser T.kf_wb_WiseError, kit_base rfl T.kf_mv_Lesser⟩
  | no => exact ⟨⟨T.kf_ga_NothingBy, T.kf_gn_NothingBy, T.kf_gc_NothingBy, T.kf_mo_NothingBy, T.kf_mb_NothingBy⟩, exm_of T.kf_if__WiseError T.kf_tf_WiseError T.kf_mw_NothingBy T.kf_wb_WiseError, kit_base rfl T.kf_mv_NothingBy⟩
theorem Txt.fdf {K : PySem.W.Frag} {mg : Str → Option Value} {c : Ad} (T : Txt K mg c) {z : Rz} {u : V} (h : z.fld = some u) : PySem.W.hasDictIn K (z.cls c) = true ∧ PySem.W.findIn K (.ref (z.cls c)) "found" = some none ∧ z.word ≠ "lesser" ∧ z.word ≠ "nothing" := by
  cases z with
  | wd v => exact ⟨T.kf_hd_NoWidth, T.kf_nf_NoWidth, (by show ("width" : Str) ≠ "lesser"; decide +kernel), (by show ("width" : Str) ≠ "nothing"; decide +kernel)⟩
  | lg v => exact ⟨T.kf_hd_NoLong, T.kf_nf_NoLong, (by show ("long" : Str) ≠ "lesser"; decide +kernel), (by show ("long" : Str) ≠ "nothing"; decide +kernel)⟩
  | wo v => exact ⟨T.kf_hd_NoWord, T.kf_nf_NoWord, (by show ("word" : Str) ≠ "lesser"; decide +kernel), (by show ("word" : Str) ≠ "nothing"; decide +kernel)⟩
  | dv v => exact ⟨T.kf_hd_NoDivisor, T.kf_nf_NoDivisor, (by show ("divisor" : Str) ≠ "lesser"; decide +kernel), (by show ("divisor" : Str) ≠ "nothing"; decide +kernel)⟩
  | le => cases h
  | no => cases h
theorem ok__law_named {f : Addr} {fd : FuncData} (F : Fun K "_law_named" "_law_named" s__law_named f fd) (T : Txt K mg c)  {xa : Addr} {xc : Value} : FnOkE P w K mg base xa xc 1 f fd ["_law_e"] ((spNamed c) xa xc) := by
  refine Fun.okE F sc__law_named (fun vs H Q E h => ?_) (fun cdv A outer s H vs Q E hr hz h => ?_)
  · obtain ⟨z, rfl, _⟩ := h
    rfl
  obtain ⟨z, rfl, rfl, q⟩ := h
  refine ⟨_, (pss_cons (ps_set (i := 1) sc__law_named.nd rfl (Or.inl rfl) pe_str)
    (pss_cons (ps_if (pt_val (pe_callB (call_isinstE (hde_in hz)) rfl T.n_isinstance boot_isinstance (pa_cons (pv 0) (pa_cons (pe_cls rfl T.g_NoWidth) pa_nil))))
      (pss_one (ps_set (i := 1) sc__law_named.nd rfl (Or.inl rfl) (pe_op op_add_str (pv 1) pe_str)))
      pss_nil)
    (pss_cons (ps_if (pt_val (pe_callB (call_isinstE (hde_in hz)) rfl T.n_isinstance boot_isinstance (pa_cons (pv 0) (pa_cons (pe_cls rfl T.g_NoLong) pa_nil))))
      (pss_one (ps_set (i := 1) sc__law_named.nd rfl (Or.inl rfl) (pe_op op_add_str (pv 1) pe_str)))
      pss_nil)
    (pss_cons (ps_if (pt_val (pe_callB (call_isinstE (hde_in hz)) rfl T.n_isinstance boot_isinstance (pa_cons (pv 0) (pa_cons (pe_cls rfl T.g_NoWord) pa_nil))))
      (pss_one (ps_set (i := 1) sc__law_named.nd rfl (Or.inl rfl) (pe_op op_add_str (pv 1) pe_str)))
      pss_nil)
    (pss_cons (ps_if (pt_val (pe_callB (call_isinstE (hde_in hz)) rfl T.n_isinstance boot_isinstance (pa_cons (pv 0) (pa_cons (pe_cls rfl T.g_NoDivisor) pa_nil))))
      (pss_one (ps_set (i := 1) sc__law_named.nd rfl (Or.inl rfl) (pe_op op_add_str (pv 1) pe_str)))
      pss_nil)
    (pss_cons (ps_if (pt_val (pe_callB (call_isinstE (hde_in hz)) rfl T.n_isinstance boot_isinstance (pa_cons (pv 0) (pa_cons (pe_cls rfl T.g_Lesser) pa_nil))))
      (pss_one (ps_set (i := 1) sc__law_named.nd rfl (Or.inl rfl) (pe_op op_add_str (pv 1) pe_str)))
      pss_nil)
    (pss_cons (ps_if (pt_val (pe_callB (call_isinstE (hde_in hz)) rfl T.n_isinstance boot_isinstance (pa_cons (pv 0) (pa_cons (pe_cls rfl T.g_NothingBy) pa_nil))))
      (pss_one (ps_set (i := 1) sc__law_named.nd rfl (Or.inl rfl) (pe_op op_add_str (pv 1) pe_str)))
      pss_nil)
    (pss_one (ps_ret (pe_ifExp (pt_val (pe_callB (call_isinstE (hde_in hz)) rfl T.n_isinstance boot_isinstance (pa_cons (pv 0) (pa_cons (pe_ty rfl T.n_ValueError boot_ValueError) pa_nil)))) (pv 1) pe_str)))))))))), ?_⟩
  obtain ⟨exf, _, kv⟩ := T.exf z
  cases z with
  | wd v =>
    refine ⟨_, rfl, _, _, _, _, rfl, rfl, exf, rfl, kit_of T.kf_if__NoWidth T.kf_tf_NoWidth T.kf_mf_NoWidth, _, rfl, iteT ⟨_, rfl, _, _, rfl, rfl, (by decide +kernel), ?_⟩⟩
    refine ⟨_, rfl, _, _, _, _, rfl, rfl, exf, rfl, kit_apart T.kf_if__NoLong T.kf_tf_NoLong T.kf_m_NoWidth_NoLong T.kf_mf_NoLong, _, rfl, iteF ?_⟩
    refine ⟨_, rfl, _, _, _, _, rfl, rfl, exf, rfl, kit_apart T.kf_if__NoWord T.kf_tf_NoWord T.kf_m_NoWidth_NoWord T.kf_mf_NoWord, _, rfl, iteF ?_⟩
    refine ⟨_, rfl, _, _, _, _, rfl, rfl, exf, rfl, kit_apart T.kf_if__NoDivisor T.kf_tf_NoDivisor T.kf_m_NoWidth_NoDivisor T.kf_mf_NoDivisor, _, rfl, iteF ?_⟩
    refine ⟨_, rfl, _, _, _, _, rfl, rfl, exf, rfl, kit_apart T.kf_if__Lesser T.kf_tf_Lesser T.kf_m_NoWidth_Lesser T.kf_mf_Lesser, _, rfl, iteF ?_⟩
    refine ⟨_, rfl, _, _, _, _, rfl, rfl, exf, rfl, kit_apart T.kf_if__NothingBy T.kf_tf_NothingBy T.kf_m_NoWidth_NothingBy T.kf_mf_NothingBy, _, rfl, iteF ?_⟩
    refine ⟨_, rfl, _, _, _, _, rfl, rfl, exf, rfl, kv, _, rfl, iteT ⟨_, rfl, ?_⟩⟩
    have e : ("" : Str) ++ ("width" : Str) = "width" := by decide +kernel
    rw [e]
    exact q
  | lg v =>
    refine ⟨_, rfl, _, _, _, _, rfl, rfl, exf, rfl, kit_apart T.kf_if__NoWidth T.kf_tf_NoWidth T.kf_m_NoLong_NoWidth T.kf_mf_NoWidth, _, rfl, iteF ?_⟩
    refine ⟨_, rfl, _, _, _, _, rfl, rfl, exf, rfl, kit_of T.kf_if__NoLong T.kf_tf_NoLong T.kf_mf_NoLong, _, rfl, iteT ⟨_, rfl, _, _, rfl, rfl, (by decide +kernel), ?_⟩⟩
    refine ⟨_, rfl, _, _, _, _, rfl, rfl, exf, rfl, kit_apart T.kf_if__NoWord T.kf_tf_NoWord T.kf_m_NoLong_NoWord T.kf_mf_NoWord, _, rfl, iteF ?_⟩
    refine ⟨_, rfl, _, _, _, _, rfl, rfl, exf, rfl, kit_apart T.kf_if__NoDivisor T.kf_tf_NoDivisor T.kf_m_NoLong_NoDivisor T.kf_mf_NoDivisor, _, rfl, iteF ?_⟩
    refine ⟨_, rfl, _, _, _, _, rfl, rfl, exf, rfl, kit_apart T.kf_if__Lesser T.kf_tf_Lesser T.kf_m_NoLong_Lesser T.kf_mf_Lesser, _, rfl, iteF ?_⟩
    refine ⟨_, rfl, _, _, _, _, rfl, rfl, exf, rfl, kit_apart T.kf_if__NothingBy T.kf_tf_NothingBy T.kf_m_NoLong_NothingBy T.kf_mf_NothingBy, _, rfl, iteF ?_⟩
    refine ⟨_, rfl, _, _, _, _, rfl, rfl, exf, rfl, kv, _, rfl, iteT ⟨_, rfl, ?_⟩⟩
    have e : ("" : Str) ++ ("long" : Str) = "long" := by decide +kernel
    rw [e]
    exact q
  | wo v =>
    refine ⟨_, rfl, _, _, _, _, rfl, rfl, exf, rfl, kit_apart T.kf_if__NoWidth T.kf_tf_NoWidth T.kf_m_NoWord_NoWidth T.kf_mf_NoWidth, _, rfl, iteF ?_⟩
    refine ⟨_, rfl, _, _, _, _, rfl, rfl, exf, rfl, kit_apart T.kf_if__NoLong T.kf_tf_NoLong T.kf_m_NoWord_NoLong T.kf_mf_NoLong, _, rfl, iteF ?_⟩
    refine ⟨_, rfl, _, _, _, _, rfl, rfl, exf, rfl, kit_of T.kf_if__NoWord T.kf_tf_NoWord T.kf_mf_NoWord, _, rfl, iteT ⟨_, rfl, _, _, rfl, rfl, (by decide +kernel), ?_⟩⟩
    refine ⟨_, rfl, _, _, _, _, rfl, rfl, exf, rfl, kit_apart T.kf_if__NoDivisor T.kf_tf_NoDivisor T.kf_m_NoWord_NoDivisor T.kf_mf_NoDivisor, _, rfl, iteF ?_⟩
    refine ⟨_, rfl, _, _, _, _, rfl, rfl, exf, rfl, kit_apart T.kf_if__Lesser T.kf_tf_Lesser T.kf_m_NoWord_Lesser T.kf_mf_Lesser, _, rfl, iteF ?_⟩
    refine ⟨_, rfl, _, _, _, _, rfl, rfl, exf, rfl, kit_apart T.kf_if__NothingBy T.kf_tf_NothingBy T.kf_m_NoWord_NothingBy T.kf_mf_NothingBy, _, rfl, iteF ?_⟩
    refine ⟨_, rfl, _, _, _, _, rfl, rfl, exf, rfl, kv, _, rfl, iteT ⟨_, rfl, ?_⟩⟩
    have e : ("" : Str) ++ ("word" : Str) = "word" := by decide +kernel
    rw [e]
    exact q
  | dv v =>
    refine ⟨_, rfl, _, _, _, _, rfl, rfl, exf, rfl, kit_apart T.kf_if__NoWidth T.kf_tf_NoWidth T.kf_m_NoDivisor_NoWidth T.kf_mf_NoWidth, _, rfl, iteF ?_⟩
    refine ⟨_, rfl, _, _, _, _, rfl, rfl, exf, rfl, kit_apart T.kf_if__NoLong T.kf_tf_NoLong T.kf_m_NoDivisor_NoLong T.kf_mf_NoLong, _, rfl, iteF ?_⟩
    refine ⟨_, rfl, _, _, _, _, rfl, rfl, exf, rfl, kit_apart T.kf_if__NoWord T.kf_tf_NoWord T.kf_m_NoDivisor_NoWord T.kf_mf_NoWord, _, rfl, iteF ?_⟩
    refine ⟨_, rfl, _, _, _, _, rfl, rfl, exf, rfl, kit_of T.kf_if__NoDivisor T.kf_tf_NoDivisor T.kf_mf_NoDivisor, _, rfl, iteT ⟨_, rfl, _, _, rfl, rfl, (by decide +kernel), ?_⟩⟩
    refine ⟨_, rfl, _, _, _, _, rfl, rfl, exf, rfl, kit_apart T.kf_if__Lesser T.kf_tf_Lesser T.kf_m_NoDivisor_Lesser T.kf_mf_Lesser, _, rfl, iteF ?_⟩
    refine ⟨_, rfl, _, _, _, _, rfl, rfl, exf, rfl, kit_apart T.kf_if__NothingBy T.kf_tf_NothingBy T.kf_m_NoDivisor_NothingBy T.kf_mf_NothingBy, _, rfl, iteF ?_⟩
    refine ⟨_, rfl, _, _, _, _, rfl, rfl, exf, rfl, kv, _, rfl, iteT ⟨_, rfl, ?_⟩⟩
    have e : ("" : Str) ++ ("divisor" : Str) = "divisor" := by decide +kernel
    rw [e]
    exact q
  | le =>
    refine ⟨_, rfl, _, _, _, _, rfl, rfl, exf, rfl, kit_apart T.kf_if__NoWidth T.kf_tf_NoWidth T.kf_m_Lesser_NoWidth T.kf_mf_NoWidth, _, rfl, iteF ?_⟩
    refine ⟨_, rfl, _, _, _, _, rfl, rfl, exf, rfl, kit_apart T.kf_if__NoLong T.kf_tf_NoLong T.kf_m_Lesser_NoLong T.kf_mf_NoLong, _, rfl, iteF ?_⟩
    refine ⟨_, rfl, _, _, _, _, rfl, rfl, exf, rfl, kit_apart T.kf_if__NoWord T.kf_tf_NoWord T.kf_m_Lesser_NoWord T.kf_mf_NoWord, _, rfl, iteF ?_⟩
    refine ⟨_, rfl, _, _, _, _, rfl, rfl, exf, rfl, kit_apart T.kf_if__NoDivisor T.kf_tf_NoDivisor T.kf_m_Lesser_NoDivisor T.kf_mf_NoDivisor, _, rfl, iteF ?_⟩
    refine ⟨_, rfl, _, _, _, _, rfl, rfl, exf, rfl, kit_of T.kf_if__Lesser T.kf_tf_Lesser T.kf_mf_Lesser, _, rfl, iteT ⟨_, rfl, _, _, rfl, rfl, (by decide +kernel), ?_⟩⟩
    refine ⟨_, rfl, _, _, _, _, rfl, rfl, exf, rfl, kit_apart T.kf_if__NothingBy T.kf_tf_NothingBy T.kf_m_Lesser_NothingBy T.kf_mf_NothingBy, _, rfl, iteF ?_⟩
    refine ⟨_, rfl, _, _, _, _, rfl, rfl, exf, rfl, kv, _, rfl, iteT ⟨_, rfl, ?_⟩⟩
    have e : ("" : Str) ++ ("lesser" : Str) = "lesser" := by decide +kernel
    rw [e]
    exact q
  | no =>
    refine ⟨_, rfl, _, _, _, _, rfl, rfl, exf, rfl, kit_apart T.kf_if__NoWidth T.kf_tf_NoWidth T.kf_m_NothingBy_NoWidth T.kf_mf_NoWidth, _, rfl, iteF ?_⟩
    refine ⟨_, rfl, _, _, _, _, rfl, rfl, exf, rfl, kit_apart T.kf_if__NoLong T.kf_tf_NoLong T.kf_m_NothingBy_NoLong T.kf_mf_NoLong, _, rfl, iteF ?_⟩
    refine ⟨_, rfl, _, _, _, _, rfl, rfl, exf, rfl, kit_apart T.kf_if__NoWord T.kf_tf_NoWord T.kf_m_NothingBy_NoWord T.kf_mf_NoWord, _, rfl, iteF ?_⟩
    refine ⟨_, rfl, _, _, _, _, rfl, rfl, exf, rfl, kit_apart T.kf_if__NoDivisor T.kf_tf_NoDivisor T.kf_m_NothingBy_NoDivisor T.kf_mf_NoDivisor, _, rfl, iteF ?_⟩
    refine ⟨_, rfl, _, _, _, _, rfl, rfl, exf, rfl, kit_apart T.kf_if__Lesser T.kf_tf_Lesser T.kf_m_NothingBy_Lesser T.kf_mf_Lesser, _, rfl, iteF ?_⟩
    refine ⟨_, rfl, _, _, _, _, rfl, rfl, exf, rfl, kit_of T.kf_if__NothingBy T.kf_tf_NothingBy T.kf_mf_NothingBy, _, rfl, iteT ⟨_, rfl, _, _, rfl, rfl, (by decide +kernel), ?_⟩⟩
    refine ⟨_, rfl, _, _, _, _, rfl, rfl, exf, rfl, kv, _, rfl, iteT ⟨_, rfl, ?_⟩⟩
    have e : ("" : Str) ++ ("nothing" : Str) = "nothing" := by decide +kernel
    rw [e]
    exact q
theorem ok__law_refused {f : Addr} {fd : FuncData} (F : Fun K "_law_refused" "_law_refused" s__law_refused f fd) (T : Txt K mg c) (H__law_asked : HasY P w K mg base 10 "_law_asked" ["_law_door", "_law_which", "_law_width", "_law_one_here", "_law_other"] (spAsk c)) (H__law_named : HasE P w K mg base 1 "_law_named" ["_law_e"] (spNamed c)) : FnOk P w K mg base CX0 11 f fd ["_law_ask", "_law_word", "_law_thing"] (spRef c) := by
  refine F.ok sc__law_refused (fun vs H Q E h => ?_) (fun cdv A outer s H vs Q E hr h => ?_)
  · obtain ⟨r, door, n, v, x, y, z, th, rfl, _⟩ := h
    rfl
  obtain ⟨r, door, n, v, x, y, z, th, rfl, hr', ask, gd, q⟩ := h
  refine ⟨_, (pss_cons (ps_asg (pv 0) (pg_tup rfl (pgs_cons (pg_name (i := 3) sc__law_refused.nd rfl (Or.inl rfl)) (pgs_cons (pg_name (i := 4) sc__law_refused.nd rfl (Or.inl rfl)) (pgs_cons (pg_name (i := 5) sc__law_refused.nd rfl (Or.inl rfl)) (pgs_cons (pg_name (i := 6) sc__law_refused.nd rfl (Or.inl rfl)) (pgs_cons (pg_name (i := 7) sc__law_refused.nd rfl (Or.inl rfl)) pgs_nil)))))))
    (pss_cons (ps_tryY (j := 8) (fun pins E => (pss_one (ps_expr (pe_fnYT H__law_asked (hr.mono (by omega)) rfl (pa_cons (pv 3) (pa_cons (pv 4) (pa_cons (pv 5) (pa_cons (pv 6) (pa_cons (pv 7) pa_nil))))))))) sc__law_refused.nd rfl T.g_WiseError rfl rfl (fun a oe => (pss_cons (ps_if (pt_cmpR op_ne (pe_fnE H__law_named (room_any (hr.mono (by omega)) rfl rfl rfl) rfl (pa_cons (pv 8) pa_nil)) (pv 1) (nomark _))
         (pss_one (ps_ret pe_bl))
         pss_nil)
       (pss_cons (ps_if (PW.pt (pw_or (pt_cmpR op_eq (pv 1) pe_str (nomark _)) (pw_or1 (pt_cmpR op_eq (pv 1) pe_str (nomark _)))))
         (pss_one (ps_ret pe_bl))
         pss_nil)
       (pss_one (ps_ret (pe_and (pe_cmpR (op_eqM (by have := Nat.lt_of_succ_lt (hu_of hr); exact this)) (pe_xf (a := a) (oe := oe) (List.mem_cons_self ..) (pv 8) rfl) (pv 2) (nomark _)) (pe_one (pe_cmpR op_eq (pe_callB (call_reprE hr.gd (by have := hu64 hr; exact this)) rfl T.n_repr boot_repr (pa_cons (pe_xf (a := a) (oe := oe) (List.mem_cons_self ..) (pv 8) rfl) pa_nil)) (pe_callB (call_reprE hr.gd (by have := hu64 hr; exact this)) rfl T.n_repr boot_repr (pa_cons (pv 2) pa_nil)) (nomark _))))))))))
    (pss_one (ps_ret pe_bl)))), ?_⟩
  refine ⟨_, rfl, r, _, rfl, SqT.of hr', rfl, _, _, rfl, _, _, rfl, _, _, rfl, _, _, rfl, _, _, rfl, rfl, ?_⟩
  obtain ⟨exf, exm, _⟩ := T.exf z
  refine ⟨_, rfl, _, rfl, _, rfl, _, rfl, _, rfl, door, n, v, x, y, z, rfl, ask, fun od H1 s1 fl => ⟨exm, fun a oe hcl hdi hnc ha => ?_⟩⟩
  refine ⟨_, rfl, z, rfl, hcl, _, rfl, rfl, _, rfl, iteNS rfl ?_⟩
  rcases gd with ⟨hf, gt⟩ | hf
  · obtain ⟨hd, nf, w1, w2⟩ := T.fdf hf
    rcases fl with ⟨u, d, hu, rfl, hxd⟩ | ⟨hn, _⟩
    · rw [hf] at hu
      cases hu
      obtain ⟨t1, t2, dd, r1, r2, r3, r4⟩ := gt H1 s1
      refine ⟨_, rfl, rfl, _, rfl, iteDN (fun z' => w1 (by injection z')) ?_⟩
      refine ⟨_, rfl, rfl, _, rfl, iteDN (fun z' => w2 (by injection z')) ?_⟩
      refine ⟨_, rfl, z.cls c, d, _, _, rfl, hcl, hdi, hnc, exf, hd, nf, hxd, rfl, _, rfl, rfl, t1, t2, _, rfl, iteT ?_⟩
      refine ⟨_, rfl, z.cls c, d, _, _, rfl, hcl, hdi, hnc, exf, hd, nf, hxd, rfl, _, dd, rfl, r1, r2, r3, r4, ?_⟩
      refine ⟨_, rfl, _, dd, rfl, r1, r2, r3, r4, rfl, ?_⟩
      rw [decide_eq_true rfl]
      exact q _ s1
    · rw [hf] at hn
      cases hn
  · cases z with
    | le => exact ⟨_, rfl, rfl, _, rfl, iteD rfl (q _ s1)⟩
    | no => exact ⟨_, rfl, rfl, _, rfl, iteDN (by walk_at "n") ⟨_, rfl, rfl, _, rfl, iteD rfl (q _ s1)⟩⟩
    | _ => cases hf
theorem pe_opS {X : Cx} {a b : Expr} {op : Operator} {r : R2} {ta tb : TE} {pos : Pos} (hr : OpR X (binaryOp op) r) (ha : PE X a ta) (hb : Sl (PE X b tb)) : Sl (PE X (.BinOp a op b pos) (tOp r ta tb)) := ⟨pe_op hr ha hb.out⟩
theorem fv_list : ∀ {xs : List V}, (∀ x ∈ xs, FV x) → ∃ ds : List PyData, xs.length = ds.length ∧ SmL ds 0 (101 * xs.length) ∧ ∀ (i : Nat) x d, xs[i]? = some x → ds[i]? = some d → FD x d
  | [], _ => ⟨[], rfl, SmL.nil, fun i x d e1 _ => by simp at e1⟩
  | x :: xs, h => by
    obtain ⟨d, fd, sd⟩ := (h x (List.mem_cons_self ..)).sm
    obtain ⟨ds, hl, hs, hi⟩ := fv_list (xs := xs) fun y z => h y (List.mem_cons_of_mem _ z)
    refine ⟨d :: ds, by simp [hl], ?_, fun i y e e1 e2 => ?_⟩
    · have z := SmL.cons sd hs
      exact ⟨z.sh, z.lv, z.dp, by have := z.wt; rw [List.length_cons]; omega, z.hd⟩
    · rcases i with _ | i
      · cases e1; cases e2; exact fd
      · exact hi i y e (by simpa using e1) (by simpa using e2)
theorem gts_fv {H : Hp} {v : V} (f : FV v) : GtS H v := fun H' _ => by
  obtain ⟨d, fd, sm⟩ := f.sm
  refine ⟨f.th, fun a kvs e _ => ?_, d, .inl ⟨fd.rd, sm.hd⟩, sm.sh, Nat.le_trans sm.dp (by decide), sh_fits sm.lv sm.wt (by decide)⟩
  rcases f with rfl | ⟨b, rfl⟩ | ⟨i, rfl, _⟩ | ⟨x, rfl, _⟩ <;> cases e
theorem rd_list {xs : List V} (h : ∀ x ∈ xs, FV x) (n : xs.length ≤ 10) : ∃ D, SmD D 1 1010 ∧ ∀ (H : Hp) (r : Addr), H r = some (.lst xs) → RD H (.ref r) D := by
  obtain ⟨ds, hl, hs, hi⟩ := fv_list h
  have z := hs.list
  exact ⟨.list ds, ⟨z.sh, z.lv, z.dp, by have := z.wt; omega, z.hd⟩, fun H r hr => .lst hr hl fun i x d e1 e2 => (hi i x d e1 e2).rd⟩
theorem gts_lst {H : Hp} {a : Addr} {xs : List V} (e : H a = some (.lst xs)) (h : ∀ x ∈ xs, FV x) (n : xs.length ≤ 10) : GtS H (.ref a) := fun H' s => by
  obtain ⟨D, sm, rd⟩ := rd_list h n
  exact ⟨.lst (s _ _ e), (fun b kvs eb hb => by cases eb; rw [s _ _ e] at hb; cases hb), D, .inl ⟨rd _ _ (s _ _ e), sm.hd⟩, sm.sh, Nat.le_trans sm.dp (by decide), sh_fits sm.lv sm.wt (by decide)⟩
theorem gts_tup {H : Hp} {a : Addr} {xs : List V} (e : H a = some (.tup xs)) (h : ∀ x ∈ xs, FV x) (n : xs.length ≤ 10) : GtS H (.ref a) := fun H' s => by
  obtain ⟨ds, hl, hs, hi⟩ := fv_list h
  have sm := hs.tup
  exact ⟨.tup (s _ _ e), (fun b kvs eb hb => by cases eb; rw [s _ _ e] at hb; cases hb), .tuple ds, .inl ⟨.tup (s _ _ e) hl fun i x d e1 e2 => (hi i x d e1 e2).rd, sm.hd⟩, sm.sh, Nat.le_trans sm.dp (by decide), sh_fits sm.lv (m := 1010) (by have := sm.wt; omega) (by decide)⟩
theorem gts_lst2 {H : Hp} {a b : Addr} {xs : List V} (e : H a = some (.lst [.ref b])) (e2 : H b = some (.lst xs)) (h : ∀ x ∈ xs, FV x) (n : xs.length ≤ 10) : GtS H (.ref a) := fun H' s => by
  obtain ⟨D, sm, rd⟩ := rd_list h n
  have z : SmD (.list [D]) 2 1011 := (SmL.cons sm (SmL.nil (m := 0))).list
  exact ⟨.lst (s _ _ e), (fun b kvs eb hb => by cases eb; rw [s _ _ e] at hb; cases hb), .list [D], .inl ⟨.lst (s _ _ e) rfl fun i x d e1 e3 => by
    rcases i with _ | i
    · cases e1; cases e3; exact rd _ _ (s _ _ e2)
    · simp at e1, z.hd⟩, z.sh, Nat.le_trans z.dp (by decide), sh_fits z.lv z.wt (by decide)⟩
theorem gts_d0 {H : Hp} {a : Addr} (e : H a = some (.dK [])) : GtS H (.ref a) := fun H' s =>
  ⟨.dct (s _ _ e), fun b kvs eb hb => by cases eb; rw [s _ _ e] at hb; cases hb; exact Nat.zero_le _, .dict [], .inr (.inl ⟨_, _, _, rfl, s _ _ e, .nil, rfl⟩), by simp [PyData.showable, PyData.showableKv], by simp [PyData.depth, PyData.depthKv], by decide +kernel⟩
theorem fvi {i : Int} (a : -(2 ^ 80) < i) (b : i < 2 ^ 80) : FV (.int i) := .inr (.inr (.inl ⟨_, rfl, a, b⟩))
theorem fvb {b : Bool} : FV (.bl b) := .inr (.inl ⟨_, rfl⟩)
theorem fvn : FV .non := .inl rfl
theorem fv1 : FV (.str "1") := .inr (.inr (.inr ⟨_, rfl, by decide +kernel, by decide +kernel⟩))
theorem fv12 : FV (.str "12") := .inr (.inr (.inr ⟨_, rfl, by decide +kernel, by decide +kernel⟩))
theorem fv8 : FV (.str "8") := .inr (.inr (.inr ⟨_, rfl, by decide +kernel, by decide +kernel⟩))
theorem fa0 {p : V → Prop} : ∀ x ∈ ([] : List V), p x := fun _ z => nomatch z
theorem fac {p : V → Prop} {x : V} {xs : List V} (h : p x) (t : ∀ y ∈ xs, p y) : ∀ y ∈ x :: xs, p y := List.forall_mem_cons.mpr ⟨h, t⟩
/-- a list that is no long, of flat things -/
theorem bad_lst {H : Hp} {w : Int} {a : Addr} {xs : List V} (e : H a = some (.lst xs)) (h : ∀ x ∈ xs, FV x) (n : xs.length ≤ 10) (b : isL w xs = false) : BadLo H w (.ref a) :=
  ⟨⟨some xs, .lst e (fun y hy => (h y hy).th) (by omega), b⟩, gts_lst e h n⟩
theorem gts_d1 {H : Hp} {a : Addr} (e : H a = some (.dK [(.inr "1", .int 1)])) : GtS H (.ref a) := fun H' s =>
  ⟨.dct (s _ _ e), fun b kvs eb hb => by cases eb; rw [s _ _ e] at hb; cases hb; exact Nat.le_of_ble_eq_true rfl, .dict [(.str "1", .int 1)], .inr (.inl ⟨_, _, _, rfl, s _ _ e, .cons (.int 1) .nil, rfl⟩), by decide +kernel, by decide +kernel, by decide +kernel⟩
theorem ok__law_bad_long {f : Addr} {fd : FuncData} (F : Fun K "_law_bad_long" "_law_bad_long" s__law_bad_long f fd) (T : Txt K mg c)  : FnOk P w K mg base CX0 1 f fd ["_law_at", "_law_width"] spBadL := by
  refine F.ok sc__law_bad_long (fun vs H Q E h => ?_) (fun cdv A outer s H vs Q E hr h => ?_)
  · obtain ⟨n, i, rfl, _⟩ := h
    rfl
  obtain ⟨n, i, rfl, h1, h2, q⟩ := h
  refine ⟨_, (pss_consT (ps_set (i := 2) sc__law_bad_long.nd rfl (Or.inl rfl) (pe_op op_shl pe_int (pv 1)))
    (pss_consS (ps_setS (i := 3) sc__law_bad_long.nd rfl (Or.inl rfl) (pe_lstS (pa_consS (pe_lst (pa_consN pe_int pa_nil)) (pa_consS (pe_lst (pa_consN pe_int (pa_consN pe_int pa_nil))) (pa_consS (pe_lst (pa_consN (pv 2) pa_nil)) (pa_consS (pe_lst (pa_consN pe_int (pa_consN (pe_op op_add (pv 2) pe_int) (pa_consN pe_int pa_nil)))) (pa_consS (pe_lst (pa_consN (pe_op op_sub pe_int pe_int) pa_nil)) (pa_consS (pe_lst (pa_consN pe_bl pa_nil)) (pa_consS (pe_lst (pa_consN pe_int (pa_consN pe_bl (pa_consN pe_int pa_nil)))) (pa_consS (pe_lst (pa_consN pe_str pa_nil)) (pa_consS (pe_lst (pa_consN pe_non pa_nil)) (pa_consS (pe_lst (pa_consN (pe_lst (pa_consN pe_int pa_nil)) pa_nil)) (pa_consS pe_non (pa_consS pe_str pa_nilS))))))))))))))
    (pss_one (ps_ret (slO (pe_ixS ix_list (pe_opS op_addL (pv 3) (pe_lstS (pa_consS (pe_tup (pa_consN pe_int (pa_consN pe_int pa_nil))) (pa_consS pe_int (pa_consS pe_dnewK (pa_consS (pe_disp1 pe_str pe_int) pa_nilS)))))) (pe_op op_mod (pv 0) pe_int) (fun _ _ => rfl))))))), ?_⟩
  have pb := pw_bounds h1 h2
  refine ⟨_, rfl, _, _, rfl, rfl, cpow1 (by omega) (by omega), ?_⟩
  refine ⟨(by show 1 ≤ sizeLine; decide), fun l0 h_l0 => ?_⟩
  have s_l0 := same_new h_l0 (.lst [.int 0])
  have u_l0 : upd H l0 (.lst [.int 0]) l0 = some (.lst [.int 0]) := upd_same
  try dsimp only
  generalize upd H l0 (.lst [.int 0]) = G0 at s_l0 u_l0 ⊢
  refine ⟨(by show 2 ≤ sizeLine; decide), fun l1 h_l1 => ?_⟩
  have s_l1 := same_new h_l1 (.lst [.int 1, .int 0])
  have u_l1 : upd G0 l1 (.lst [.int 1, .int 0]) l1 = some (.lst [.int 1, .int 0]) := upd_same
  try dsimp only
  generalize upd G0 l1 (.lst [.int 1, .int 0]) = G1 at s_l1 u_l1 ⊢
  refine ⟨_, rfl, (by show 1 ≤ sizeLine; decide), fun l2 h_l2 => ?_⟩
  have s_l2 := same_new h_l2 (.lst [.int (1 * 2 ^ i.toNat)])
  have u_l2 : upd G1 l2 (.lst [.int (1 * 2 ^ i.toNat)]) l2 = some (.lst [.int (1 * 2 ^ i.toNat)]) := upd_same
  try dsimp only
  generalize upd G1 l2 (.lst [.int (1 * 2 ^ i.toNat)]) = G2 at s_l2 u_l2 ⊢
  refine ⟨_, rfl, _, _, rfl, rfl, (by show 3 ≤ sizeLine; decide), fun l3 h_l3 => ?_⟩
  have s_l3 := same_new h_l3 (.lst [.int 1, .int (1 * 2 ^ i.toNat + 3), .int 1])
  have u_l3 : upd G2 l3 (.lst [.int 1, .int (1 * 2 ^ i.toNat + 3), .int 1]) l3 = some (.lst [.int 1, .int (1 * 2 ^ i.toNat + 3), .int 1]) := upd_same
  try dsimp only
  generalize upd G2 l3 (.lst [.int 1, .int (1 * 2 ^ i.toNat + 3), .int 1]) = G3 at s_l3 u_l3 ⊢
  refine ⟨_, _, rfl, rfl, (by show 1 ≤ sizeLine; decide), fun l4 h_l4 => ?_⟩
  have s_l4 := same_new h_l4 (.lst [.int (0 - 1)])
  have u_l4 : upd G3 l4 (.lst [.int (0 - 1)]) l4 = some (.lst [.int (0 - 1)]) := upd_same
  try dsimp only
  generalize upd G3 l4 (.lst [.int (0 - 1)]) = G4 at s_l4 u_l4 ⊢
  refine ⟨(by show 1 ≤ sizeLine; decide), fun l5 h_l5 => ?_⟩
  have s_l5 := same_new h_l5 (.lst [.bl true])
  have u_l5 : upd G4 l5 (.lst [.bl true]) l5 = some (.lst [.bl true]) := upd_same
  try dsimp only
  generalize upd G4 l5 (.lst [.bl true]) = G5 at s_l5 u_l5 ⊢
  refine ⟨(by show 3 ≤ sizeLine; decide), fun l6 h_l6 => ?_⟩
  have s_l6 := same_new h_l6 (.lst [.int 2, .bl false, .int 1])
  have u_l6 : upd G5 l6 (.lst [.int 2, .bl false, .int 1]) l6 = some (.lst [.int 2, .bl false, .int 1]) := upd_same
  try dsimp only
  generalize upd G5 l6 (.lst [.int 2, .bl false, .int 1]) = G6 at s_l6 u_l6 ⊢
  refine ⟨(by show 1 ≤ sizeLine; decide), fun l7 h_l7 => ?_⟩
  have s_l7 := same_new h_l7 (.lst [.str "1"])
  have u_l7 : upd G6 l7 (.lst [.str "1"]) l7 = some (.lst [.str "1"]) := upd_same
  try dsimp only
  generalize upd G6 l7 (.lst [.str "1"]) = G7 at s_l7 u_l7 ⊢
  refine ⟨(by show 1 ≤ sizeLine; decide), fun l8 h_l8 => ?_⟩
  have s_l8 := same_new h_l8 (.lst [.non])
  have u_l8 : upd G7 l8 (.lst [.non]) l8 = some (.lst [.non]) := upd_same
  try dsimp only
  generalize upd G7 l8 (.lst [.non]) = G8 at s_l8 u_l8 ⊢
  refine ⟨(by show 1 ≤ sizeLine; decide), fun l9 h_l9 => ?_⟩
  have s_l9 := same_new h_l9 (.lst [.int 1])
  have u_l9 : upd G8 l9 (.lst [.int 1]) l9 = some (.lst [.int 1]) := upd_same
  try dsimp only
  generalize upd G8 l9 (.lst [.int 1]) = G9 at s_l9 u_l9 ⊢
  refine ⟨(by show 1 ≤ sizeLine; decide), fun la h_la => ?_⟩
  have s_la := same_new h_la (.lst [.ref l9])
  have u_la : upd G9 la (.lst [.ref l9]) la = some (.lst [.ref l9]) := upd_same
  try dsimp only
  generalize upd G9 la (.lst [.ref l9]) = G10 at s_la u_la ⊢
  refine ⟨(by show 12 ≤ sizeLine; decide), fun lm h_lm => ?_⟩
  have s_lm := same_new h_lm (.lst [.ref l0, .ref l1, .ref l2, .ref l3, .ref l4, .ref l5, .ref l6, .ref l7, .ref l8, .ref la, .non, .str "12"])
  have u_lm : upd G10 lm (.lst [.ref l0, .ref l1, .ref l2, .ref l3, .ref l4, .ref l5, .ref l6, .ref l7, .ref l8, .ref la, .non, .str "12"]) lm = some (.lst [.ref l0, .ref l1, .ref l2, .ref l3, .ref l4, .ref l5, .ref l6, .ref l7, .ref l8, .ref la, .non, .str "12"]) := upd_same
  try dsimp only
  generalize upd G10 lm (.lst [.ref l0, .ref l1, .ref l2, .ref l3, .ref l4, .ref l5, .ref l6, .ref l7, .ref l8, .ref la, .non, .str "12"]) = G11 at s_lm u_lm ⊢
  refine ⟨_, rfl, (by show 2 ≤ sizeLine; decide), fun t1 h_t1 => ?_⟩
  have s_t1 := same_new h_t1 (.tup [.int 1, .int 2])
  have u_t1 : upd G11 t1 (.tup [.int 1, .int 2]) t1 = some (.tup [.int 1, .int 2]) := upd_same
  try dsimp only
  generalize upd G11 t1 (.tup [.int 1, .int 2]) = G12 at s_t1 u_t1 ⊢
  intro d1 h_d1
  have s_d1 := same_new h_d1 (.dK [])
  have u_d1 : upd G12 d1 (.dK []) d1 = some (.dK []) := upd_same
  try dsimp only
  generalize upd G12 d1 (.dK []) = G13 at s_d1 u_d1 ⊢
  intro d2 h_d2
  refine ⟨_, rfl, upd_same, ?_⟩
  have s_d2 : Same G13 (upd (upd G13 d2 (.dK [])) d2 (.dK [(.inr "1", .int 1)])) := fun b o e => by rw [upd_ne (ne_of_none e h_d2), upd_ne (ne_of_none e h_d2)]; exact e
  have u_d2 : (upd (upd G13 d2 (.dK [])) d2 (.dK [(.inr "1", .int 1)])) d2 = some (.dK [(.inr "1", .int 1)]) := upd_same
  try dsimp only
  generalize upd (upd G13 d2 (.dK [])) d2 (.dK [(.inr "1", .int 1)]) = G14 at s_d2 u_d2 ⊢
  refine ⟨(by show 4 ≤ sizeLine; decide), fun ln h_ln => ?_⟩
  have s_ln := same_new h_ln (.lst [.ref t1, .int 7, .ref d1, .ref d2])
  have u_ln : upd G14 ln (.lst [.ref t1, .int 7, .ref d1, .ref d2]) ln = some (.lst [.ref t1, .int 7, .ref d1, .ref d2]) := upd_same
  try dsimp only
  generalize upd G14 ln (.lst [.ref t1, .int 7, .ref d1, .ref d2]) = G15 at s_ln u_ln ⊢
  refine ⟨lm, ln, _, _, rfl, rfl, SqL.of (s_ln _ _ (s_d2 _ _ (s_d1 _ _ (s_t1 _ _ (u_lm))))), SqL.of u_ln, (by show 16 ≤ sizeLine; decide), fun lz h_lz => ?_⟩
  have s_lz := same_new h_lz (.lst ([V.ref l0, .ref l1, .ref l2, .ref l3, .ref l4, .ref l5, .ref l6, .ref l7, .ref l8, .ref la, .non, .str "12"] ++ [.ref t1, .int 7, .ref d1, .ref d2]))
  have u_lz : upd G15 lz (.lst ([V.ref l0, .ref l1, .ref l2, .ref l3, .ref l4, .ref l5, .ref l6, .ref l7, .ref l8, .ref la, .non, .str "12"] ++ [.ref t1, .int 7, .ref d1, .ref d2])) lz = some (.lst ([V.ref l0, .ref l1, .ref l2, .ref l3, .ref l4, .ref l5, .ref l6, .ref l7, .ref l8, .ref la, .non, .str "12"] ++ [.ref t1, .int 7, .ref d1, .ref d2])) := upd_same
  try dsimp only
  generalize upd G15 lz (.lst ([V.ref l0, .ref l1, .ref l2, .ref l3, .ref l4, .ref l5, .ref l6, .ref l7, .ref l8, .ref la, .non, .str "12"] ++ [.ref t1, .int 7, .ref d1, .ref d2])) = GZ at s_lz u_lz ⊢
  have r0 := Int.emod_nonneg n (show (16 : Int) ≠ 0 by decide)
  have r1 := Int.emod_lt_of_pos n (show (0 : Int) < 16 by decide)
  have ss : Same H GZ := ((((((((((((((((s_l0.trans s_l1).trans s_l2).trans s_l3).trans s_l4).trans s_l5).trans s_l6).trans s_l7).trans s_l8).trans s_l9).trans s_la).trans s_lm).trans s_t1).trans s_d1).trans s_d2).trans s_ln).trans s_lz)
  have pick : ∀ d : Int, 0 ≤ d → d < 16 → ∃ v, atI ([V.ref l0, .ref l1, .ref l2, .ref l3, .ref l4, .ref l5, .ref l6, .ref l7, .ref l8, .ref la, .non, .str "12"] ++ [.ref t1, .int 7, .ref d1, .ref d2]) d = some v ∧ BadLo GZ i v := fun d d0 d1' => by
    rcases (by omega : d = 0 ∨ d = 1 ∨ d = 2 ∨ d = 3 ∨ d = 4 ∨ d = 5 ∨ d = 6 ∨ d = 7 ∨ d = 8 ∨ d = 9 ∨ d = 10 ∨ d = 11 ∨ d = 12 ∨ d = 13 ∨ d = 14 ∨ d = 15) with rfl | rfl | rfl | rfl | rfl | rfl | rfl | rfl | rfl | rfl | rfl | rfl | rfl | rfl | rfl | rfl
    · exact ⟨_, rfl, bad_lst (s_lz _ _ (s_ln _ _ (s_d2 _ _ (s_d1 _ _ (s_t1 _ _ (s_lm _ _ (s_la _ _ (s_l9 _ _ (s_l8 _ _ (s_l7 _ _ (s_l6 _ _ (s_l5 _ _ (s_l4 _ _ (s_l3 _ _ (s_l2 _ _ (s_l1 _ _ (u_l0))))))))))))))))) (fac (fvi (by decide) (by decide)) fa0) (Nat.le_of_ble_eq_true rfl) (isL_zero [])⟩
    · exact ⟨_, rfl, bad_lst (s_lz _ _ (s_ln _ _ (s_d2 _ _ (s_d1 _ _ (s_t1 _ _ (s_lm _ _ (s_la _ _ (s_l9 _ _ (s_l8 _ _ (s_l7 _ _ (s_l6 _ _ (s_l5 _ _ (s_l4 _ _ (s_l3 _ _ (s_l2 _ _ (u_l1)))))))))))))))) (fac (fvi (by decide) (by decide)) (fac (fvi (by decide) (by decide)) fa0)) (Nat.le_of_ble_eq_true rfl) (isL_zero [.int 1])⟩
    · exact ⟨_, rfl, bad_lst (s_lz _ _ (s_ln _ _ (s_d2 _ _ (s_d1 _ _ (s_t1 _ _ (s_lm _ _ (s_la _ _ (s_l9 _ _ (s_l8 _ _ (s_l7 _ _ (s_l6 _ _ (s_l5 _ _ (s_l4 _ _ (s_l3 _ _ (u_l2))))))))))))))) (fac (fvi (by omega) (by omega)) fa0) (Nat.le_of_ble_eq_true rfl) (isL_bad (j := 0) rfl (btw_out (.inr (by omega))))⟩
    · exact ⟨_, rfl, bad_lst (s_lz _ _ (s_ln _ _ (s_d2 _ _ (s_d1 _ _ (s_t1 _ _ (s_lm _ _ (s_la _ _ (s_l9 _ _ (s_l8 _ _ (s_l7 _ _ (s_l6 _ _ (s_l5 _ _ (s_l4 _ _ (u_l3)))))))))))))) (fac (fvi (by decide) (by decide)) (fac (fvi (by omega) (by omega)) (fac (fvi (by decide) (by decide)) fa0))) (Nat.le_of_ble_eq_true rfl) (isL_bad (j := 1) rfl (btw_out (.inr (by omega))))⟩
    · exact ⟨_, rfl, bad_lst (s_lz _ _ (s_ln _ _ (s_d2 _ _ (s_d1 _ _ (s_t1 _ _ (s_lm _ _ (s_la _ _ (s_l9 _ _ (s_l8 _ _ (s_l7 _ _ (s_l6 _ _ (s_l5 _ _ (u_l4))))))))))))) (fac (fvi (by decide) (by decide)) fa0) (Nat.le_of_ble_eq_true rfl) (isL_bad (j := 0) rfl (btw_out (.inl (by decide))))⟩
    · exact ⟨_, rfl, bad_lst (s_lz _ _ (s_ln _ _ (s_d2 _ _ (s_d1 _ _ (s_t1 _ _ (s_lm _ _ (s_la _ _ (s_l9 _ _ (s_l8 _ _ (s_l7 _ _ (s_l6 _ _ (u_l5)))))))))))) (fac fvb fa0) (Nat.le_of_ble_eq_true rfl) (isL_bad (j := 0) rfl rfl)⟩
    · exact ⟨_, rfl, bad_lst (s_lz _ _ (s_ln _ _ (s_d2 _ _ (s_d1 _ _ (s_t1 _ _ (s_lm _ _ (s_la _ _ (s_l9 _ _ (s_l8 _ _ (s_l7 _ _ (u_l6))))))))))) (fac (fvi (by decide) (by decide)) (fac fvb (fac (fvi (by decide) (by decide)) fa0))) (Nat.le_of_ble_eq_true rfl) (isL_bad (j := 1) rfl rfl)⟩
    · exact ⟨_, rfl, bad_lst (s_lz _ _ (s_ln _ _ (s_d2 _ _ (s_d1 _ _ (s_t1 _ _ (s_lm _ _ (s_la _ _ (s_l9 _ _ (s_l8 _ _ (u_l7)))))))))) (fac fv1 fa0) (Nat.le_of_ble_eq_true rfl) (isL_bad (j := 0) rfl rfl)⟩
    · exact ⟨_, rfl, bad_lst (s_lz _ _ (s_ln _ _ (s_d2 _ _ (s_d1 _ _ (s_t1 _ _ (s_lm _ _ (s_la _ _ (s_l9 _ _ (u_l8))))))))) (fac fvn fa0) (Nat.le_of_ble_eq_true rfl) (isL_bad (j := 0) rfl rfl)⟩
    · exact ⟨_, rfl, ⟨_, .lst (s_lz _ _ (s_ln _ _ (s_d2 _ _ (s_d1 _ _ (s_t1 _ _ (s_lm _ _ (u_la))))))) (fac (.lst (s_lz _ _ (s_ln _ _ (s_d2 _ _ (s_d1 _ _ (s_t1 _ _ (s_lm _ _ (s_la _ _ (u_l9))))))))) fa0) (Nat.le_of_ble_eq_true rfl), isL_bad (j := 0) rfl rfl⟩, gts_lst2 (s_lz _ _ (s_ln _ _ (s_d2 _ _ (s_d1 _ _ (s_t1 _ _ (s_lm _ _ (u_la))))))) (s_lz _ _ (s_ln _ _ (s_d2 _ _ (s_d1 _ _ (s_t1 _ _ (s_lm _ _ (s_la _ _ (u_l9)))))))) (fac (fvi (by decide) (by decide)) fa0) (Nat.le_of_ble_eq_true rfl)⟩
    · exact ⟨_, rfl, ⟨_, .non, rfl⟩, gts_fv fvn⟩
    · exact ⟨_, rfl, ⟨_, .str _, rfl⟩, gts_fv fv12⟩
    · exact ⟨_, rfl, ⟨_, .tup (s_lz _ _ (s_ln _ _ (s_d2 _ _ (s_d1 _ _ (u_t1))))), rfl⟩, gts_tup (s_lz _ _ (s_ln _ _ (s_d2 _ _ (s_d1 _ _ (u_t1))))) (fac (fvi (by decide) (by decide)) (fac (fvi (by decide) (by decide)) fa0)) (Nat.le_of_ble_eq_true rfl)⟩
    · exact ⟨_, rfl, ⟨_, .int _, rfl⟩, gts_fv (fvi (by decide) (by decide))⟩
    · exact ⟨_, rfl, ⟨_, .dct (s_lz _ _ (s_ln _ _ (s_d2 _ _ (u_d1)))), rfl⟩, gts_d0 (s_lz _ _ (s_ln _ _ (s_d2 _ _ (u_d1))))⟩
    · exact ⟨_, rfl, ⟨_, .dct (s_lz _ _ (s_ln _ _ (u_d2))), rfl⟩, gts_d1 (s_lz _ _ (s_ln _ _ (u_d2)))⟩
  obtain ⟨v, ev, bv⟩ := pick (n % 16) r0 r1
  exact ⟨_, rfl, _, _, rfl, rfl, (by show (0 : Int) < 16; decide), lz, _, _, _, rfl, rfl, SqL.of u_lz, ev, q v GZ bv ss⟩
theorem ok__law_bad_word {f : Addr} {fd : FuncData} (F : Fun K "_law_bad_word" "_law_bad_word" s__law_bad_word f fd) (T : Txt K mg c)  : FnOk P w K mg base CX0 1 f fd ["_law_at", "_law_width"] spBadWd := by
  refine F.ok sc__law_bad_word (fun vs H Q E h => ?_) (fun cdv A outer s H vs Q E hr h => ?_)
  · obtain ⟨n, i, rfl, _⟩ := h
    rfl
  obtain ⟨n, i, rfl, h1, h2, q⟩ := h
  refine ⟨_, (pss_one (ps_ret (slO (pe_ixS ix_list (pe_lstS (pa_consS (pe_op op_shl pe_int (pv 1)) (pa_consS (pe_op op_sub pe_int pe_int) (pa_consS pe_bl (pa_consS pe_non (pa_consS pe_str (pa_consS (pe_lst (pa_consN pe_int pa_nil)) (pa_consS (pe_tup (pa_consN pe_int pa_nil)) (pa_consS (pe_op op_shl pe_int (pv 1)) pa_nilS))))))))) (pe_op op_mod (pv 0) pe_int) (fun _ _ => rfl))))), ?_⟩
  have pb := pw_bounds h1 h2
  have r0 := Int.emod_nonneg n (show (8 : Int) ≠ 0 by decide)
  have r1 := Int.emod_lt_of_pos n (show (0 : Int) < 8 by decide)
  refine ⟨_, rfl, _, _, rfl, rfl, cpow1 (by omega) (by omega), _, _, rfl, rfl, (by show 1 ≤ sizeLine; decide), fun l1 h_l1 => ?_⟩
  have s_l1 := same_new h_l1 (.lst [.int 1])
  have u_l1 : upd H l1 (.lst [.int 1]) l1 = some (.lst [.int 1]) := upd_same
  try dsimp only
  generalize upd H l1 (.lst [.int 1]) = G1 at s_l1 u_l1 ⊢
  refine ⟨(by show 1 ≤ sizeLine; decide), fun t1 h_t1 => ?_⟩
  have s_t1 := same_new h_t1 (.tup [.int 1])
  have u_t1 : upd G1 t1 (.tup [.int 1]) t1 = some (.tup [.int 1]) := upd_same
  try dsimp only
  generalize upd G1 t1 (.tup [.int 1]) = G2 at s_t1 u_t1 ⊢
  refine ⟨_, rfl, _, _, rfl, rfl, ⟨by omega, by omega, by decide⟩, (by show 8 ≤ sizeLine; decide), fun lm h_lm => ?_⟩
  have s_lm := same_new h_lm (.lst [V.int (1 * 2 ^ i.toNat), .int (0 - 1), .bl true, .non, .str "1", .ref l1, .ref t1, .int (3 * 2 ^ i.toNat)])
  have u_lm : upd G2 lm (.lst [V.int (1 * 2 ^ i.toNat), .int (0 - 1), .bl true, .non, .str "1", .ref l1, .ref t1, .int (3 * 2 ^ i.toNat)]) lm = some (.lst [V.int (1 * 2 ^ i.toNat), .int (0 - 1), .bl true, .non, .str "1", .ref l1, .ref t1, .int (3 * 2 ^ i.toNat)]) := upd_same
  try dsimp only
  generalize upd G2 lm (.lst [V.int (1 * 2 ^ i.toNat), .int (0 - 1), .bl true, .non, .str "1", .ref l1, .ref t1, .int (3 * 2 ^ i.toNat)]) = G3 at s_lm u_lm ⊢
  have pick : ∀ d : Int, 0 ≤ d → d < 8 → ∃ v, atI [V.int (1 * 2 ^ i.toNat), .int (0 - 1), .bl true, .non, .str "1", .ref l1, .ref t1, .int (3 * 2 ^ i.toNat)] d = some v ∧ BadWo G3 i v := fun d d0 d1 => by
    rcases (by omega : d = 0 ∨ d = 1 ∨ d = 2 ∨ d = 3 ∨ d = 4 ∨ d = 5 ∨ d = 6 ∨ d = 7) with rfl | rfl | rfl | rfl | rfl | rfl | rfl | rfl
    · exact ⟨_, rfl, btw_out (.inr (by omega)), gts_fv (fvi (by omega) (by omega))⟩
    · exact ⟨_, rfl, btw_out (.inl (by decide)), gts_fv (fvi (by decide) (by decide))⟩
    · exact ⟨_, rfl, rfl, gts_fv fvb⟩
    · exact ⟨_, rfl, rfl, gts_fv fvn⟩
    · exact ⟨_, rfl, rfl, gts_fv fv1⟩
    · exact ⟨_, rfl, rfl, gts_lst (s_lm _ _ (s_t1 _ _ u_l1)) (fac (fvi (by decide) (by decide)) fa0) (Nat.le_of_ble_eq_true rfl)⟩
    · exact ⟨_, rfl, rfl, gts_tup (s_lm _ _ u_t1) (fac (fvi (by decide) (by decide)) fa0) (Nat.le_of_ble_eq_true rfl)⟩
    · exact ⟨_, rfl, btw_out (.inr (by omega)), gts_fv (fvi (by omega) (by omega))⟩
  obtain ⟨v, ev, bv⟩ := pick (n % 8) r0 r1
  exact ⟨_, rfl, _, _, rfl, rfl, (by show (0 : Int) < 8; decide), lm, _, _, _, rfl, rfl, SqL.of u_lm, ev, q v G3 bv ((s_l1.trans s_t1).trans s_lm)⟩
theorem ok__law_bad_width {f : Addr} {fd : FuncData} (F : Fun K "_law_bad_width" "_law_bad_width" s__law_bad_width f fd) (T : Txt K mg c)  : FnOk P w K mg base CX0 1 f fd ["_law_at"] spBadWi := by
  refine F.ok sc__law_bad_width (fun vs H Q E h => ?_) (fun cdv A outer s H vs Q E hr h => ?_)
  · obtain ⟨n, rfl, _⟩ := h
    rfl
  obtain ⟨n, rfl, q⟩ := h
  refine ⟨_, (pss_one (ps_ret (slO (pe_ixS ix_list (pe_lstS (pa_consS pe_int (pa_consS pe_int (pa_consS pe_int (pa_consS (pe_op op_sub pe_int pe_int) (pa_consS pe_bl (pa_consS pe_non (pa_consS pe_str (pa_consS (pe_lst (pa_consN pe_int pa_nil)) pa_nilS))))))))) (pe_op op_mod (pv 0) pe_int) (fun _ _ => rfl))))), ?_⟩
  have r0 := Int.emod_nonneg n (show (8 : Int) ≠ 0 by decide)
  have r1 := Int.emod_lt_of_pos n (show (0 : Int) < 8 by decide)
  refine ⟨_, _, rfl, rfl, (by show 1 ≤ sizeLine; decide), fun l1 h_l1 => ?_⟩
  have s_l1 := same_new h_l1 (.lst [.int 8])
  have u_l1 : upd H l1 (.lst [.int 8]) l1 = some (.lst [.int 8]) := upd_same
  try dsimp only
  generalize upd H l1 (.lst [.int 8]) = G1 at s_l1 u_l1 ⊢
  refine ⟨(by show 8 ≤ sizeLine; decide), fun lm h_lm => ?_⟩
  have s_lm := same_new h_lm (.lst [V.int 3, .int 33, .int 0, .int (0 - 8), .bl true, .non, .str "8", .ref l1])
  have u_lm : upd G1 lm (.lst [V.int 3, .int 33, .int 0, .int (0 - 8), .bl true, .non, .str "8", .ref l1]) lm = some (.lst [V.int 3, .int 33, .int 0, .int (0 - 8), .bl true, .non, .str "8", .ref l1]) := upd_same
  try dsimp only
  generalize upd G1 lm (.lst [V.int 3, .int 33, .int 0, .int (0 - 8), .bl true, .non, .str "8", .ref l1]) = G3 at s_lm u_lm ⊢
  have pick : ∀ d : Int, 0 ≤ d → d < 8 → ∃ v, atI [V.int 3, .int 33, .int 0, .int (0 - 8), .bl true, .non, .str "8", .ref l1] d = some v ∧ btw v 4 32 = false ∧ GtS G3 v := fun d d0 d1 => by
    rcases (by omega : d = 0 ∨ d = 1 ∨ d = 2 ∨ d = 3 ∨ d = 4 ∨ d = 5 ∨ d = 6 ∨ d = 7) with rfl | rfl | rfl | rfl | rfl | rfl | rfl | rfl
    · exact ⟨_, rfl, rfl, gts_fv (fvi (by decide) (by decide))⟩
    · exact ⟨_, rfl, rfl, gts_fv (fvi (by decide) (by decide))⟩
    · exact ⟨_, rfl, rfl, gts_fv (fvi (by decide) (by decide))⟩
    · exact ⟨_, rfl, rfl, gts_fv (fvi (by decide) (by decide))⟩
    · exact ⟨_, rfl, rfl, gts_fv fvb⟩
    · exact ⟨_, rfl, rfl, gts_fv fvn⟩
    · exact ⟨_, rfl, rfl, gts_fv fv8⟩
    · exact ⟨_, rfl, rfl, gts_lst (s_lm _ _ u_l1) (fac (fvi (by decide) (by decide)) fa0) (Nat.le_of_ble_eq_true rfl)⟩
  obtain ⟨v, ev, b1, b2⟩ := pick (n % 8) r0 r1
  exact ⟨_, rfl, _, _, rfl, rfl, (by show (0 : Int) < 8; decide), lm, _, _, _, rfl, rfl, SqL.of u_lm, ev, q v G3 b1 b2 (s_l1.trans s_lm)⟩
theorem Lg.has {w : Int} {ws : List Int} (l : Lg w ws) : hasO w (some (ws.map V.int)) = true := isL_of l
theorem GoodL.lv {H : Hp} {w : Int} {a : Addr} {ws : List Int} (g : GoodL H w a ws) : LV H (.ref a) (some (ws.map V.int)) := .lst g.1 (fun y hy => by
  obtain ⟨i, _, rfl⟩ := List.mem_map.mp hy
  exact .int i) (by rw [List.length_map]; have := g.2.2; omega)
theorem GoodL.same {H H' : Hp} {w : Int} {a : Addr} {ws : List Int} (g : GoodL H w a ws) (s : Same H H') : GoodL H' w a ws := ⟨s _ _ g.1, g.2⟩
theorem lv1 {H : Hp} {a : Addr} (h : H a = some (.lst [.int 1])) : LV H (.ref a) (some [.int 1]) := .lst h (fac (.int 1) fa0) (Nat.le_of_ble_eq_true rfl)
theorem lv0 {H : Hp} {a : Addr} (h : H a = some (.lst [])) : LV H (.ref a) (some []) := .lst h fa0 (Nat.le_of_ble_eq_true rfl)
theorem nil_ok {w : Int} : hasO w (some []) = true := rfl
theorem new_at {H : Hp} {a : Addr} (_ : H a = none) (o : HO) : upd H a o a = some o := upd_same
theorem snoc_ok {w : Int} {ws : List Int} (h1 : 4 ≤ w) (h2 : w ≤ 32) (l : Lg w ws) : hasO w (some (ws.map V.int ++ [.int 1])) = true := by
  have pb := pw_bounds h1 h2
  have h := isL_of l
  unfold isL at h
  have ha := (Bool.and_eq_true _ _ ▸ h).1
  show isL w _ = true
  unfold isL
  rw [List.all_append, ha, Bool.true_and, List.all_cons, btw_of (by decide) (by omega), List.getLast?_append]
  simp
theorem ok__law_longs {f : Addr} {fd : FuncData} (F : Fun K "_law_longs" "_law_longs" s__law_longs f fd) (T : Txt K mg c) (H__law_refused : Has P w K mg base 11 "_law_refused" ["_law_ask", "_law_word", "_law_thing"] (spRef c)) : FnOk P w K mg base CX0 12 f fd ["_law_width", "_law_bad", "_law_good", "_law_behind"] spLongs := by
  refine F.ok sc__law_longs (fun vs H Q E h => ?_) (fun cdv A outer s H vs Q E hr h => ?_)
  · obtain ⟨w, b, h', a, ws, rfl, _⟩ := h
    rfl
  obtain ⟨w, b, bh, a, ws, rfl, h1, h2, bb, bbh, gg, q⟩ := h
  refine ⟨_, (pss_cons (ps_for PassesOwn.never rfl (pi_range1 rfl T.n_range (pa_cons pe_int pa_nil)) (pg_name (i := 4) sc__law_longs.nd rfl (Or.inl rfl))
      (pss_one (ps_if (pt_not (pt_val (pe_fn H__law_refused (hr.mono (by omega)) rfl (pa_cons (pe_tup (pa_cons pe_int (pa_cons (pv 4) (pa_cons (pv 0) (pa_cons (pv 1) (pa_cons pe_non pa_nil)))))) (pa_cons pe_str (pa_cons (pv 1) pa_nil))))))
        (pss_one (ps_ret pe_bl))
        pss_nil)))
    (pss_cons (ps_for PassesOwn.never rfl (pi_range1 rfl T.n_range (pa_cons pe_int pa_nil)) (pg_name (i := 4) sc__law_longs.nd rfl (Or.inl rfl))
      (pss_cons (ps_for PassesOwn.never rfl (pi_list (pe_lst (pa_cons (pe_tup (pa_cons (pv 1) (pa_cons (pe_lst (pa_cons pe_int pa_nil)) pa_nil))) (pa_cons (pe_tup (pa_cons (pv 1) (pa_cons (pv 3) pa_nil))) (pa_cons (pe_tup (pa_cons (pv 1) (pa_cons (pe_lst pa_nil) pa_nil))) pa_nil))))) (pg_tup rfl (pgs_cons (pg_name (i := 5) sc__law_longs.nd rfl (Or.inl rfl)) (pgs_cons (pg_name (i := 6) sc__law_longs.nd rfl (Or.inl rfl)) pgs_nil)))
        (pss_one (ps_if (pt_not (pt_val (pe_fn H__law_refused (hr.mono (by omega)) rfl (pa_cons (pe_tup (pa_cons pe_int (pa_cons (pv 4) (pa_cons (pv 0) (pa_cons (pv 5) (pa_cons (pv 6) pa_nil)))))) (pa_cons pe_str (pa_cons (pv 1) pa_nil))))))
          (pss_one (ps_ret pe_bl))
          pss_nil)))
      (pss_cons (ps_for PassesOwn.never rfl (pi_list (pe_lst (pa_cons (pv 2) (pa_cons (pe_lst pa_nil) pa_nil)))) (pg_name (i := 5) sc__law_longs.nd rfl (Or.inl rfl))
        (pss_one (ps_if (pt_not (pt_val (pe_fn H__law_refused (hr.mono (by omega)) rfl (pa_cons (pe_tup (pa_cons pe_int (pa_cons (pv 4) (pa_cons (pv 0) (pa_cons (pv 5) (pa_cons (pv 1) pa_nil)))))) (pa_cons pe_str (pa_cons (pv 1) pa_nil))))))
          (pss_one (ps_ret pe_bl))
          pss_nil)))
      (pss_one (ps_if (PW.pt (pw_and (pt_cmpR op_gt (pv 4) pe_int (nomark _)) (pw_and1 (pt_not (pt_val (pe_fn H__law_refused (hr.mono (by omega)) rfl (pa_cons (pe_tup (pa_cons pe_int (pa_cons (pv 4) (pa_cons (pv 0) (pa_cons (pv 2) (pa_cons (pe_lst pa_nil) pa_nil)))))) (pa_cons pe_str (pa_cons pe_non pa_nil)))))))))
        (pss_one (ps_ret pe_bl))
        pss_nil)))))
    (pss_cons (ps_for PassesOwn.never rfl (pi_list (pe_lst (pa_cons pe_int (pa_cons pe_int pa_nil)))) (pg_name (i := 4) sc__law_longs.nd rfl (Or.inl rfl))
      (pss_one (ps_if (pt_not (pt_val (pe_fn H__law_refused (hr.mono (by omega)) rfl (pa_cons (pe_tup (pa_cons pe_int (pa_cons (pv 4) (pa_cons (pv 0) (pa_cons (pv 2) (pa_cons (pe_op op_addL (pv 2) (pe_lst (pa_cons pe_int pa_nil))) pa_nil)))))) (pa_cons pe_str (pa_cons pe_non pa_nil))))))
        (pss_one (ps_ret pe_bl))
        pss_nil)))
    (pss_one (ps_ret (pe_fn H__law_refused (hr.mono (by omega)) rfl (pa_cons (pe_tup (pa_cons pe_int (pa_cons pe_int (pa_cons (pv 0) (pa_cons (pe_lst pa_nil) (pa_cons pe_non pa_nil)))))) (pa_cons pe_str (pa_cons pe_non pa_nil))))))))), ?_⟩
  obtain ⟨⟨ov, lb, hb⟩, gb⟩ := bb
  obtain ⟨⟨oh, lh, hh⟩, gh⟩ := bbh
  have vb : ∀ {y : V}, vL (.int w) b ov = some (.lg b) := vL_bad h1 h2 hb
  have vg : vL (.int w) (.ref a) (some (ws.map V.int)) = none := vL_ok h1 h2 gg.2.1.has
  have v0 : ∀ {x : V}, vL (.int w) x (some []) = none := vL_ok h1 h2 nil_ok
  refine ⟨6, rfl, by decide, by decide, for_range (n := 6) (fun i σ G => ∃ z4 z5 z6, σ = [some (.int w), some b, some (.ref a), some bh, z4, z5, z6] ∧ Same H G) ⟨_, _, _, rfl, Same.refl _⟩ ?_ ?_⟩
  · rintro i σ G hi ⟨z4, z5, z6, rfl, sG⟩
    have hi' : i < 6 := hi
    refine ⟨_, rfl, _, rfl, _, rfl, (by show 5 ≤ sizeLine; decide), fun r hr' => ?_⟩
    have sr := sG.trans (same_new hr' (.tup [.int 1, .int (0 + (i : Int)), .int w, b, .non]))
    refine ⟨_, rfl, r, 1, 0 + (i : Int), .int w, b, .non, .lg b, b, rfl, upd_same, ⟨.int w, .inl ⟨rfl, by omega, by omega, ov, lb.same sr, .inl (vb (y := .non))⟩⟩, .inl ⟨rfl, gb.same sr⟩, fun G2 s2 => ⟨_, rfl, iteF ⟨_, _, _, rfl, sr.trans s2⟩⟩⟩
  rintro σ G0 ⟨z4, z5, z6, rfl, sG0⟩
  refine ⟨10, rfl, by decide, by decide, for_range (n := 10) (fun i σ G => ∃ z4 z5 z6, σ = [some (.int w), some b, some (.ref a), some bh, z4, z5, z6] ∧ Same H G) ⟨_, _, _, rfl, sG0⟩ ?_ ?_⟩
  · rintro i σ G hi ⟨z4, z5, z6, rfl, sG⟩
    have hi' : i < 10 := hi
    refine ⟨_, rfl, (by show 1 ≤ sizeLine; decide), fun l1 h_l1 => ?_⟩
    have s_l1 := same_new h_l1 (.lst [.int 1])
    have u_l1 := new_at h_l1 (.lst [.int 1])
    refine ⟨(by show 2 ≤ sizeLine; decide), fun t1 h_t1 => ?_⟩
    have s_t1 := same_new h_t1 (.tup [b, .ref l1])
    have u_t1 := new_at h_t1 (.tup [b, .ref l1])
    refine ⟨_, rfl, _, rfl, (by show 2 ≤ sizeLine; decide), fun t2 h_t2 => ?_⟩
    have s_t2 := same_new h_t2 (.tup [b, bh])
    have u_t2 := new_at h_t2 (.tup [b, bh])
    refine ⟨_, rfl, (by show 0 ≤ sizeLine; decide), fun l0 h_l0 => ?_⟩
    have s_l0 := same_new h_l0 (.lst [])
    have u_l0 := new_at h_l0 (.lst [])
    refine ⟨(by show 2 ≤ sizeLine; decide), fun t3 h_t3 => ?_⟩
    have s_t3 := same_new h_t3 (.tup [b, .ref l0])
    have u_t3 := new_at h_t3 (.tup [b, .ref l0])
    refine ⟨(by show 3 ≤ sizeLine; decide), fun lz h_lz => ?_⟩
    have s_lz := same_new h_lz (.lst [.ref t1, .ref t2, .ref t3])
    have u_lz := new_at h_lz (.lst [.ref t1, .ref t2, .ref t3])
    have s46 := s_t3.trans s_lz
    have s36 := s_l0.trans s46
    have s26 := s_t2.trans s36
    have s16 := s_t1.trans s26
    have s06 := sG.trans (s_l1.trans s16)
    refine ⟨lz, rfl, ⟨_, SqL.of u_lz⟩, for_list (xs := [.ref t1, .ref t2, .ref t3]) (fun j σ GZ => ∃ z5 z6, σ = [some (.int w), some b, some (.ref a), some bh, some (.int (0 + (i : Int))), z5, z6] ∧ Same H GZ ∧ GZ lz = some (.lst [.ref t1, .ref t2, .ref t3]) ∧ GZ t1 = some (.tup [b, .ref l1]) ∧ GZ t2 = some (.tup [b, bh]) ∧ GZ t3 = some (.tup [b, .ref l0]) ∧ GZ l1 = some (.lst [.int 1]) ∧ GZ l0 = some (.lst [])) ⟨_, _, rfl, s06, u_lz, s26 _ _ u_t1, s36 _ _ u_t2, s_lz _ _ u_t3, s16 _ _ u_l1, s46 _ _ u_l0⟩ ?_ ?_ ?_⟩
    · rintro j σ GZ hj ⟨z5, z6, rfl, sZ, e1, e2, e3, e4, e5, e6⟩
      exact SqL.of e1
    · rintro j x σ GZ hj ⟨z5, z6, rfl, sZ, e1, e2, e3, e4, e5, e6⟩
      have key : ∃ (t : Addr) (y : V) (oy : Option (List V)), x = .ref t ∧ GZ t = some (.tup [b, y]) ∧ LV GZ y oy := by
        rcases j with _ | _ | _ | j
        · cases hj; exact ⟨t1, _, _, rfl, e2, lv1 e5⟩
        · cases hj; exact ⟨t2, _, _, rfl, e3, lh.same sZ⟩
        · cases hj; exact ⟨t3, _, _, rfl, e4, lv0 e6⟩
        · simp at hj
      obtain ⟨t, y, oy, rfl, ht, ly⟩ := key
      refine ⟨t, _, rfl, SqT.of ht, rfl, _, _, rfl, _, _, rfl, rfl, ?_⟩
      refine ⟨_, rfl, _, rfl, _, rfl, _, rfl, (by show 5 ≤ sizeLine; decide), fun r hr' => ?_⟩
      have sr := same_new hr' (.tup [.int 2, .int (0 + (i : Int)), .int w, b, y])
      have sH := sZ.trans sr
      exact ⟨_, rfl, r, 2, 0 + (i : Int), .int w, b, y, .lg b, b, rfl, upd_same, ⟨.int w, .inr (.inl ⟨rfl, by omega, by omega, ov, oy, lb.same sH, ly.same sr, .inl (vLs_1 (vb (y := y)))⟩)⟩, .inl ⟨rfl, gb.same sH⟩, fun GA sA => ⟨_, rfl, iteF ⟨_, _, rfl, sH.trans sA, sA _ _ (sr _ _ e1), sA _ _ (sr _ _ e2), sA _ _ (sr _ _ e3), sA _ _ (sr _ _ e4), sA _ _ (sr _ _ e5), sA _ _ (sr _ _ e6)⟩⟩⟩
    rintro σ G7 ⟨z5', z6', rfl, s07, _⟩
    refine ⟨_, rfl, (by show 0 ≤ sizeLine; decide), fun l2 h_l2 => ?_⟩
    have s_l2 := same_new h_l2 (.lst [])
    have u_l2 := new_at h_l2 (.lst [])
    refine ⟨(by show 2 ≤ sizeLine; decide), fun ly' h_ly => ?_⟩
    have s_ly := same_new h_ly (.lst [.ref a, .ref l2])
    have u_ly := new_at h_ly (.lst [.ref a, .ref l2])
    have s09 := s07.trans (s_l2.trans s_ly)
    refine ⟨ly', rfl, ⟨_, SqL.of u_ly⟩, for_list (xs := [.ref a, .ref l2]) (fun j σ GZ => ∃ z5 z6, σ = [some (.int w), some b, some (.ref a), some bh, some (.int (0 + (i : Int))), z5, z6] ∧ Same H GZ ∧ GZ ly' = some (.lst [.ref a, .ref l2]) ∧ GZ l2 = some (.lst [])) ⟨_, _, rfl, s09, u_ly, s_ly _ _ u_l2⟩ ?_ ?_ ?_⟩
    · rintro j σ GZ hj ⟨z5, z6, rfl, sZ, e1, e2⟩
      exact SqL.of e1
    · rintro j x σ GZ hj ⟨z5, z6, rfl, sZ, e1, e2⟩
      have key : ∃ ox : Option (List V), LV GZ x ox ∧ hasO w ox = true := by
        rcases j with _ | _ | j
        · cases hj; exact ⟨_, gg.lv.same sZ, gg.2.1.has⟩
        · cases hj; exact ⟨_, lv0 e2, nil_ok⟩
        · simp at hj
      obtain ⟨ox, lx, hx⟩ := key
      refine ⟨_, rfl, _, rfl, _, rfl, _, rfl, (by show 5 ≤ sizeLine; decide), fun r hr' => ?_⟩
      have sr := same_new hr' (.tup [.int 2, .int (0 + (i : Int)), .int w, x, b])
      have sH := sZ.trans sr
      exact ⟨_, rfl, r, 2, 0 + (i : Int), .int w, x, b, .lg b, b, rfl, upd_same, ⟨.int w, .inr (.inl ⟨rfl, by omega, by omega, ox, ov, lx.same sr, lb.same sH, .inl (vLs_2 (vL_ok h1 h2 hx) (vb (y := x)))⟩)⟩, .inl ⟨rfl, gb.same sH⟩, fun GA sA => ⟨_, rfl, iteF ⟨_, _, rfl, sH.trans sA, sA _ _ (sr _ _ e1), sA _ _ (sr _ _ e2)⟩⟩⟩
    rintro σ GB ⟨z5'', z6'', rfl, s0B, _⟩
    refine ⟨_, rfl, _, _, rfl, rfl, _, rfl, ?_⟩
    walk_at "c" <;> intro c5
    · refine ⟨_, rfl, _, rfl, _, rfl, (by show 0 ≤ sizeLine; decide), fun l3 h_l3 => ?_⟩
      have s_l3 := same_new h_l3 (.lst [])
      have u_l3 := new_at h_l3 (.lst [])
      refine ⟨(by show 5 ≤ sizeLine; decide), fun r hr' => ?_⟩
      have sr := same_new hr' (.tup [.int 2, .int (0 + (i : Int)), .int w, .ref a, .ref l3])
      have sH := s0B.trans (s_l3.trans sr)
      exact ⟨r, 2, 0 + (i : Int), .int w, .ref a, .ref l3, .no, .non, rfl, upd_same, ⟨.int w, .inr (.inl ⟨rfl, by omega, by omega, _, _, gg.lv.same sH, lv0 (sr _ _ u_l3), .inr (.inr ⟨by omega, vDiv_2 (vLs_2 vg v0) rfl⟩)⟩)⟩, .inr rfl, fun GD sD => ⟨_, rfl, iteF ⟨_, _, _, rfl, sH.trans sD⟩⟩⟩
    · exact iteF ⟨_, _, _, rfl, s0B⟩
  rintro σ G1 ⟨z4', z5', z6', rfl, s01⟩
  refine ⟨(by show 2 ≤ sizeLine; decide), fun lz h_lz => ?_⟩
  have s_lz := same_new h_lz (.lst [.int 2, .int 3])
  have u_lz := new_at h_lz (.lst [.int 2, .int 3])
  have s02 := s01.trans s_lz
  refine ⟨lz, rfl, ⟨_, SqL.of u_lz⟩, for_list (xs := [.int 2, .int 3]) (fun j σ GZ => ∃ z4 z5 z6, σ = [some (.int w), some b, some (.ref a), some bh, z4, z5, z6] ∧ Same H GZ ∧ GZ lz = some (.lst [.int 2, .int 3])) ⟨_, _, _, rfl, s02, u_lz⟩ ?_ ?_ ?_⟩
  · rintro j σ GZ hj ⟨z4, z5, z6, rfl, sZ, e1⟩
    exact SqL.of e1
  · rintro j x σ GZ hj ⟨z4, z5, z6, rfl, sZ, e1⟩
    have key : ∃ n : Int, x = .int n ∧ 2 ≤ n ∧ n ≤ 3 := by
      rcases j with _ | _ | j
      · cases hj; exact ⟨_, rfl, by decide, by decide⟩
      · cases hj; exact ⟨_, rfl, by decide, by decide⟩
      · simp at hj
    obtain ⟨n, rfl, n2, n3⟩ := key
    refine ⟨_, rfl, _, rfl, _, rfl, _, rfl, (by show 1 ≤ sizeLine; decide), fun l1 h_l1 => ?_⟩
    have s_l1 := same_new h_l1 (.lst [.int 1])
    have u_l1 := new_at h_l1 (.lst [.int 1])
    have s03 := sZ.trans s_l1
    have wl := gg.2.2
    refine ⟨a, l1, _, _, rfl, rfl, SqL.of (s03 _ _ gg.1), SqL.of u_l1, (by rw [List.length_map]; exact Nat.le_trans (Nat.add_le_add_right wl 1) (by decide : 20 + 1 ≤ sizeLine)), fun l2 h_l2 => ?_⟩
    have s_l2 := same_new h_l2 (.lst (ws.map V.int ++ [.int 1]))
    have u_l2 := new_at h_l2 (.lst (ws.map V.int ++ [.int 1]))
    refine ⟨(by show 5 ≤ sizeLine; decide), fun r hr' => ?_⟩
    have sr := same_new hr' (.tup [.int 2, .int n, .int w, .ref a, .ref l2])
    have sH := s03.trans (s_l2.trans sr)
    have l2v : LV _ (.ref l2) (some (ws.map V.int ++ [.int 1])) := .lst (sr _ _ u_l2) (fun y hy => by
      rcases List.mem_append.mp hy with hy | hy
      · obtain ⟨i, _, rfl⟩ := List.mem_map.mp hy
        exact .int i
      · cases List.mem_singleton.mp hy
        exact .int 1) (by rw [List.length_append, List.length_map]; show ws.length + 1 ≤ 1000; omega)
    have vg2 : vL (.int w) (.ref l2) (some (ws.map V.int ++ [.int 1])) = none := vL_ok h1 h2 (snoc_ok h1 h2 gg.2.1)
    have vgp : vGap (.int w) (.ref a) (some (ws.map V.int)) (.ref l2) (some (ws.map V.int ++ [.int 1])) = some .le := by
      unfold vGap
      rw [vLs_2 vg vg2]
      show (if (ws.map V.int).length < (ws.map V.int ++ [V.int 1]).length then some Rz.le else none) = some Rz.le
      rw [List.length_append, if_pos (by show _ < _ + 1; omega)]
    exact ⟨r, 2, n, .int w, .ref a, .ref l2, .le, .non, rfl, upd_same, ⟨.int w, .inr (.inl ⟨rfl, by omega, by omega, _, _, gg.lv.same sH, l2v, .inr (.inl ⟨n2, n3, vgp⟩)⟩)⟩, .inr rfl, fun GD sD => ⟨_, rfl, iteF ⟨_, _, _, rfl, s03.trans ((s_l2.trans sr).trans sD), sD _ _ (sr _ _ (s_l2 _ _ (s_l1 _ _ e1)))⟩⟩⟩
  rintro σ G5 ⟨z4', z5', z6', rfl, s05, _⟩
  refine ⟨_, rfl, (by show 0 ≤ sizeLine; decide), fun l0 h_l0 => ?_⟩
  have s_l0 := same_new h_l0 (.lst [])
  have u_l0 := new_at h_l0 (.lst [])
  refine ⟨(by show 5 ≤ sizeLine; decide), fun r hr' => ?_⟩
  have sr := same_new hr' (.tup [.int 1, .int 3, .int w, .ref l0, .non])
  have sH := s05.trans (s_l0.trans sr)
  exact ⟨r, 1, 3, .int w, .ref l0, .non, .no, .non, rfl, upd_same, ⟨.int w, .inl ⟨rfl, by decide, by decide, _, lv0 (sr _ _ u_l0), .inr ⟨rfl, by unfold vTurn; rw [v0]; rfl⟩⟩⟩, .inr rfl, fun GD sD => q _ (sH.trans sD)⟩
theorem vG_W {v a b d : V} {z : Rz} (h : vW v = some z) : vG v a b d = some z := by unfold vG; rw [h]
theorem vLo_W {v x : V} {z : Rz} (h : vW v = some z) : vLo v x = some z := by unfold vLo; rw [h]
theorem vT1_W {v x : V} {z : Rz} (h : vW v = some z) : vT1 v x = some z := by unfold vT1; rw [h]
theorem atI2 {x y : V} {i : Nat} : ∃ v, atI [x, y] ((0 + (i : Int)) % 2) = some v ∧ (v = x ∨ v = y) := by
  rcases (by omega : (0 + (i : Int)) % 2 = 0 ∨ (0 + (i : Int)) % 2 = 1) with z | z <;> rw [z]
  · exact ⟨_, rfl, .inl rfl⟩
  · exact ⟨_, rfl, .inr rfl⟩
theorem ok__law_widths {f : Addr} {fd : FuncData} (F : Fun K "_law_widths" "_law_widths" s__law_widths f fd) (T : Txt K mg c) (H__law_refused : Has P w K mg base 11 "_law_refused" ["_law_ask", "_law_word", "_law_thing"] (spRef c)) : FnOk P w K mg base CX0 12 f fd ["_law_wide", "_law_bad", "_law_good"] spWidths := by
  refine F.ok sc__law_widths (fun vs H Q E h => ?_) (fun cdv A outer s H vs Q E hr h => ?_)
  · obtain ⟨v, b, w, a, ws, rfl, _⟩ := h
    rfl
  obtain ⟨v, b, w, a, ws, rfl, bv, gv, bb, gg, q⟩ := h
  refine ⟨_, (pss_cons (ps_for PassesOwn.never rfl (pi_range1 rfl T.n_range (pa_cons pe_int pa_nil)) (pg_name (i := 3) sc__law_widths.nd rfl (Or.inl rfl))
      (pss_cons (ps_if (pt_not (pt_val (pe_fn H__law_refused (hr.mono (by omega)) rfl (pa_cons (pe_tup (pa_cons pe_int (pa_cons (pv 3) (pa_cons (pv 0) (pa_cons (pe_ix ix_list (pe_lst (pa_cons (pv 1) (pa_cons (pv 2) pa_nil))) (pe_op op_mod (pv 3) pe_int) (fun _ _ => rfl)) (pa_cons pe_non pa_nil)))))) (pa_cons pe_str (pa_cons (pv 0) pa_nil))))))
        (pss_one (ps_ret pe_bl))
        pss_nil)
      (pss_cons (ps_set (i := 4) sc__law_widths.nd rfl (Or.inl rfl) (pe_ix ix_list (pe_lst (pa_consN (pv 1) (pa_consN (pe_op op_sub pe_int pe_int) (pa_consN (pe_tup (pa_cons (pe_op op_sub pe_int pe_int) (pa_cons pe_int (pa_cons pe_int pa_nil)))) (pa_consN (pe_tup (pa_cons pe_int (pa_cons pe_int (pa_cons pe_int pa_nil)))) (pa_consN (pv 2) (pa_consN pe_non pa_nil))))))) (pv 3) (fun _ _ => rfl)))
      (pss_one (ps_if (pt_not (pt_val (pe_fn H__law_refused (hr.mono (by omega)) rfl (pa_cons (pe_tup (pa_cons pe_int (pa_cons (pv 3) (pa_cons (pv 0) (pa_cons (pv 4) (pa_cons pe_non pa_nil)))))) (pa_cons pe_str (pa_cons (pv 0) pa_nil))))))
        (pss_one (ps_ret pe_bl))
        pss_nil)))))
    (pss_cons (ps_for PassesOwn.never rfl (pi_range1 rfl T.n_range (pa_cons pe_int pa_nil)) (pg_name (i := 3) sc__law_widths.nd rfl (Or.inl rfl))
      (pss_cons (ps_if (pt_not (pt_val (pe_fn H__law_refused (hr.mono (by omega)) rfl (pa_cons (pe_tup (pa_cons pe_int (pa_cons (pv 3) (pa_cons (pv 0) (pa_cons (pv 2) (pa_cons (pv 1) pa_nil)))))) (pa_cons pe_str (pa_cons (pv 0) pa_nil))))))
        (pss_one (ps_ret pe_bl))
        pss_nil)
      (pss_one (ps_if (pt_not (pt_val (pe_fn H__law_refused (hr.mono (by omega)) rfl (pa_cons (pe_tup (pa_cons pe_int (pa_cons (pv 3) (pa_cons (pv 0) (pa_cons (pv 2) (pa_cons (pe_lst pa_nil) pa_nil)))))) (pa_cons pe_str (pa_cons (pv 0) pa_nil))))))
        (pss_one (ps_ret pe_bl))
        pss_nil))))
    (pss_one (ps_ret pe_bl)))), ?_⟩
  obtain ⟨⟨ov, lb, hb⟩, gb⟩ := bb
  have vw := vW_bad bv
  have tv : Th H v := (gv H (Same.refl _)).th
  refine ⟨6, rfl, by decide, by decide, for_range (n := 6) (fun i σ G => ∃ z3 z4, σ = [some v, some b, some (.ref a), z3, z4] ∧ Same H G) ⟨_, _, rfl, Same.refl _⟩ ?_ ?_⟩
  · rintro i σ G hi ⟨z3, z4, rfl, sG⟩
    have hi' : i < 6 := hi
    refine ⟨_, rfl, _, rfl, _, rfl, _, rfl, (by show 2 ≤ sizeLine; decide), fun l1 h_l1 => ?_⟩
    have s_l1 := same_new h_l1 (.lst [b, .ref a])
    have u_l1 := new_at h_l1 (.lst [b, .ref a])
    obtain ⟨x, ex, hx⟩ := atI2 (x := b) (y := .ref a) (i := i)
    refine ⟨_, rfl, _, _, rfl, rfl, (by show (0 : Int) < 2; decide), l1, _, _, _, rfl, rfl, SqL.of u_l1, ex, (by show 5 ≤ sizeLine; decide), fun r hr' => ?_⟩
    have s1 := s_l1.trans (same_new hr' (.tup [.int 1, .int (0 + (i : Int)), v, x, .non]))
    have sH := sG.trans s1
    have lx : ∃ ox, LV H x ox := by
      rcases hx with rfl | rfl
      · exact ⟨_, lb⟩
      · exact ⟨_, gg.lv⟩
    obtain ⟨ox, lx⟩ := lx
    refine ⟨_, rfl, r, 1, 0 + (i : Int), v, x, .non, .wd v, v, rfl, upd_same, ⟨tv.same sH, .inl ⟨rfl, by omega, by omega, ox, lx.same sH, .inl (vL_W vw)⟩⟩, .inl ⟨rfl, gv.same sH⟩, fun G2 s2 => ⟨_, rfl, iteF ?_⟩⟩
    have s02 := sH.trans s2
    refine ⟨_, rfl, _, _, rfl, rfl, _, _, rfl, rfl, (by show 3 ≤ sizeLine; decide), fun t1 h_t1 => ?_⟩
    have s_t1 := same_new h_t1 (.tup [.int (0 - 1), .int 1, .int 1])
    have u_t1 := new_at h_t1 (.tup [.int (0 - 1), .int 1, .int 1])
    refine ⟨(by show 3 ≤ sizeLine; decide), fun t2 h_t2 => ?_⟩
    have s_t2 := same_new h_t2 (.tup [.int 1, .int 1, .int 1])
    have u_t2 := new_at h_t2 (.tup [.int 1, .int 1, .int 1])
    refine ⟨_, rfl, (by show 6 ≤ sizeLine; decide), fun l2 h_l2 => ?_⟩
    have s_l2 := same_new h_l2 (.lst [b, .int (0 - 1), .ref t1, .ref t2, .ref a, .non])
    have u_l2 := new_at h_l2 (.lst [b, .int (0 - 1), .ref t1, .ref t2, .ref a, .non])
    have sb := s_t1.trans (s_t2.trans s_l2)
    have s03 := s02.trans sb
    have et1 := s_l2 _ _ (s_t2 _ _ u_t1)
    have et2 := s_l2 _ _ u_t2
    have i1 : ∀ {G : Hp}, Th G (.int 1) := .int 1
    have pick : ∃ y, atI [b, .int (0 - 1), .ref t1, .ref t2, .ref a, .non] (0 + (i : Int)) = some y ∧ ∀ G', Same H G' → G' t1 = some (.tup [.int (0 - 1), .int 1, .int 1]) → G' t2 = some (.tup [.int 1, .int 1, .int 1]) → ElsOk G' (0 + (i : Int)) v y (.wd v) := by
      rcases (by omega : i = 0 ∨ i = 1 ∨ i = 2 ∨ i = 3 ∨ i = 4 ∨ i = 5) with rfl | rfl | rfl | rfl | rfl | rfl
      · exact ⟨_, rfl, fun G' s' f1 f2 => .inl ⟨rfl, (lb.same s').th, vLo_W vw⟩⟩
      · exact ⟨_, rfl, fun G' s' f1 f2 => .inr (.inl ⟨rfl, .int _, vT1_W vw⟩)⟩
      · exact ⟨_, rfl, fun G' s' f1 f2 => .inr (.inr (.inl ⟨.inl rfl, t1, _, _, _, rfl, f1, .int _, .int _, .int _, vG_W vw⟩))⟩
      · exact ⟨_, rfl, fun G' s' f1 f2 => .inr (.inr (.inl ⟨.inr rfl, t2, _, _, _, rfl, f2, .int _, .int _, .int _, vG_W vw⟩))⟩
      · exact ⟨_, rfl, fun G' s' f1 f2 => .inr (.inr (.inr (.inl ⟨rfl, ⟨_, gg.lv.same s'⟩, vw⟩)))⟩
      · exact ⟨_, rfl, fun G' s' f1 f2 => .inr (.inr (.inr (.inr ⟨rfl, vw⟩)))⟩
    obtain ⟨y, ey, hy⟩ := pick
    refine ⟨_, rfl, l2, _, _, _, rfl, rfl, SqL.of u_l2, ey, ?_⟩
    refine ⟨_, rfl, _, rfl, _, rfl, (by show 5 ≤ sizeLine; decide), fun r2 hr2 => ?_⟩
    have s4 := same_new hr2 (.tup [.int 3, .int (0 + (i : Int)), v, y, .non])
    have s04 := s03.trans s4
    exact ⟨_, rfl, r2, 3, 0 + (i : Int), v, y, .non, .wd v, v, rfl, upd_same, ⟨tv.same s04, .inr (.inr ⟨rfl, by omega, by omega, hy _ s04 (s4 _ _ et1) (s4 _ _ et2)⟩)⟩, .inl ⟨rfl, gv.same s04⟩, fun G5 s5 => ⟨_, rfl, iteF ⟨_, _, rfl, s04.trans s5⟩⟩⟩
  rintro σ G0 ⟨z3, z4, rfl, sG0⟩
  refine ⟨10, rfl, by decide, by decide, for_range (n := 10) (fun i σ G => ∃ z3 z4, σ = [some v, some b, some (.ref a), z3, z4] ∧ Same H G) ⟨_, _, rfl, sG0⟩ ?_ ?_⟩
  · rintro i σ G hi ⟨z3, z4, rfl, sG⟩
    have hi' : i < 10 := hi
    refine ⟨_, rfl, _, rfl, _, rfl, _, rfl, (by show 5 ≤ sizeLine; decide), fun r hr' => ?_⟩
    have s1 := same_new hr' (.tup [.int 2, .int (0 + (i : Int)), v, .ref a, b])
    have sH := sG.trans s1
    refine ⟨_, rfl, r, 2, 0 + (i : Int), v, .ref a, b, .wd v, v, rfl, upd_same, ⟨tv.same sH, .inr (.inl ⟨rfl, by omega, by omega, _, _, gg.lv.same sH, lb.same sH, .inl (vLs_1 (vL_W vw))⟩)⟩, .inl ⟨rfl, gv.same sH⟩, fun G2 s2 => ⟨_, rfl, iteF ?_⟩⟩
    refine ⟨_, rfl, _, rfl, _, rfl, (by show 0 ≤ sizeLine; decide), fun l0 h_l0 => ?_⟩
    have s_l0 := same_new h_l0 (.lst [])
    have u_l0 := new_at h_l0 (.lst [])
    refine ⟨(by show 5 ≤ sizeLine; decide), fun r2 hr2 => ?_⟩
    have s3 := same_new hr2 (.tup [.int 2, .int (0 + (i : Int)), v, .ref a, .ref l0])
    have s03 := (sH.trans s2).trans (s_l0.trans s3)
    exact ⟨_, rfl, r2, 2, 0 + (i : Int), v, .ref a, .ref l0, .wd v, v, rfl, upd_same, ⟨tv.same s03, .inr (.inl ⟨rfl, by omega, by omega, _, _, gg.lv.same s03, lv0 (s3 _ _ u_l0), .inl (vLs_1 (vL_W vw))⟩)⟩, .inl ⟨rfl, gv.same s03⟩, fun G5 s5 => ⟨_, rfl, iteF ⟨_, _, rfl, s03.trans s5⟩⟩⟩
  rintro σ G1 ⟨z3', z4', rfl, s01⟩
  exact q _ s01
theorem fv_i {i : Int} (a : -(2 ^ 60) < i) (b : i < 2 ^ 60) {H : Hp} : GtS H (.int i) := gts_fv (fvi (by omega) (by omega))
theorem ok__law_words {f : Addr} {fd : FuncData} (F : Fun K "_law_words" "_law_words" s__law_words f fd) (T : Txt K mg c) (H__law_refused : Has P w K mg base 11 "_law_refused" ["_law_ask", "_law_word", "_law_thing"] (spRef c)) : FnOk P w K mg base CX0 12 f fd ["_law_width", "_law_bad", "_law_number", "_law_low"] spWordsL := by
  refine F.ok sc__law_words (fun vs H Q E h => ?_) (fun cdv A outer s H vs Q E hr h => ?_)
  · obtain ⟨w, b, x, n, rfl, _⟩ := h
    rfl
  obtain ⟨w, b, x, n, rfl, h1, h2, ⟨wb, gb⟩, gx, nx, n0, n1, q⟩ := h
  refine ⟨_, (pss_cons (ps_set (i := 4) sc__law_words.nd rfl (Or.inl rfl) (pe_op op_shl pe_int (pe_op op_sub (pv 0) pe_int)))
    (pss_cons (ps_if (pt_not (pt_val (pe_fn H__law_refused (hr.mono (by omega)) rfl (pa_cons (pe_tup (pa_cons pe_int (pa_cons pe_int (pa_cons (pv 0) (pa_cons (pv 2) (pa_cons pe_non pa_nil)))))) (pa_cons pe_str (pa_cons (pv 2) pa_nil))))))
      (pss_one (ps_ret pe_bl))
      pss_nil)
    (pss_cons (ps_if (pt_not (pt_val (pe_fn H__law_refused (hr.mono (by omega)) rfl (pa_cons (pe_tup (pa_cons pe_int (pa_cons pe_int (pa_cons (pv 0) (pa_cons (pv 1) (pa_cons pe_non pa_nil)))))) (pa_cons pe_str (pa_cons (pv 1) pa_nil))))))
      (pss_one (ps_ret pe_bl))
      pss_nil)
    (pss_cons (ps_for PassesOwn.never rfl (pi_list (pe_lst (pa_cons pe_int (pa_cons pe_int pa_nil)))) (pg_name (i := 5) sc__law_words.nd rfl (Or.inl rfl))
      (pss_cons (ps_set (i := 6) sc__law_words.nd rfl (Or.inl rfl) (pe_op op_mod (pv 3) (pv 4)))
      (pss_cons (ps_set (i := 7) sc__law_words.nd rfl (Or.inl rfl) (pe_op op_add (pv 4) (pv 6)))
      (pss_cons (ps_for PassesOwn.never rfl (pi_list (pe_lst (pa_cons (pe_tup (pa_cons (pv 1) (pa_cons (pv 1) (pa_cons (pv 6) pa_nil)))) (pa_cons (pe_tup (pa_cons (pv 1) (pa_cons pe_int (pa_cons (pv 4) pa_nil)))) pa_nil)))) (pg_name (i := 8) sc__law_words.nd rfl (Or.inl rfl))
        (pss_one (ps_if (pt_not (pt_val (pe_fn H__law_refused (hr.mono (by omega)) rfl (pa_cons (pe_tup (pa_cons pe_int (pa_cons (pv 5) (pa_cons (pv 0) (pa_cons (pv 8) (pa_cons pe_non pa_nil)))))) (pa_cons pe_str (pa_cons (pv 1) pa_nil))))))
          (pss_one (ps_ret pe_bl))
          pss_nil)))
      (pss_cons (ps_if (pt_not (pt_val (pe_fn H__law_refused (hr.mono (by omega)) rfl (pa_cons (pe_tup (pa_cons pe_int (pa_cons (pv 5) (pa_cons (pv 0) (pa_cons (pe_tup (pa_cons (pv 4) (pa_cons (pv 1) (pa_cons (pv 6) pa_nil)))) (pa_cons pe_non pa_nil)))))) (pa_cons pe_str (pa_cons (pv 1) pa_nil))))))
        (pss_one (ps_ret pe_bl))
        pss_nil)
      (pss_cons (ps_for PassesOwn.never rfl (pi_list (pe_lst (pa_cons (pv 6) (pa_cons (pv 1) (pa_cons (pe_op op_sub (pv 4) pe_int) (pa_cons (pe_op op_mul pe_int (pv 4)) (pa_cons pe_int pa_nil))))))) (pg_name (i := 9) sc__law_words.nd rfl (Or.inl rfl))
        (pss_one (ps_if (pt_not (pt_val (pe_fn H__law_refused (hr.mono (by omega)) rfl (pa_cons (pe_tup (pa_cons pe_int (pa_cons (pv 5) (pa_cons (pv 0) (pa_cons (pe_tup (pa_cons (pv 7) (pa_cons pe_int (pa_cons (pv 9) pa_nil)))) (pa_cons pe_non pa_nil)))))) (pa_cons pe_str (pa_cons (pv 9) pa_nil))))))
          (pss_one (ps_ret pe_bl))
          pss_nil)))
      (pss_cons (ps_set (i := 10) sc__law_words.nd rfl (Or.inl rfl) (pe_callB (call_min2 rfl) rfl T.n_min boot_min (pa_cons (pe_op op_sub (pe_op op_mul pe_int (pv 4)) pe_int) (pa_cons (pe_op op_add (pv 7) pe_int) pa_nil))))
      (pss_one (ps_if (PW.pt (pw_and (pt_cmpR op_gt (pv 10) (pv 7) (nomark _)) (pw_and1 (pt_not (pt_val (pe_fn H__law_refused (hr.mono (by omega)) rfl (pa_cons (pe_tup (pa_cons pe_int (pa_cons (pv 5) (pa_cons (pv 0) (pa_cons (pe_tup (pa_cons (pv 10) (pa_cons pe_int (pa_cons (pv 7) pa_nil)))) (pa_cons pe_non pa_nil)))))) (pa_cons pe_str (pa_cons (pv 10) pa_nil)))))))))
        (pss_one (ps_ret pe_bl))
        pss_nil)))))))))
    (pss_one (ps_ret pe_bl)))))), ?_⟩
  have vw : vW (.int w) = none := vW_ok (btw_of h1 h2)
  have P0 := p_pos (w - 1).toNat
  have P1 : (2 : Int) ^ (w - 1).toNat ≤ 2 ^ 31 := p_mono (by omega)
  have P2 : (2 : Int) ^ w.toNat = 2 * 2 ^ (w - 1).toNat := by rw [show w.toNat = (w - 1).toNat + 1 by omega, Int.pow_succ]; omega
  have tb : ∀ {G : Hp}, Same H G → Th G b := fun s => (gb _ s).th
  have wdb : wdB (.int w) b = false := by unfold wdB; show btw b 0 (1 * 2 ^ w.toNat - 1) = false ; exact wb
  have wdi : ∀ {i : Int}, wdB (.int w) (.int i) = (decide (0 ≤ i) && decide (i ≤ 1 * 2 ^ w.toNat - 1)) := fun {i} => by unfold wdB; show btw (.int i) 0 (1 * 2 ^ w.toNat - 1) = _; rfl
  have vG' : ∀ {hi lo wd : V}, vG (.int w) hi lo wd = if wdB (.int w) hi = false then some (.wo hi) else if wdB (.int w) lo = false then some (.wo lo) else if (wdB (.int w) wd && decide (1 * 2 ^ (w - 1).toNat ≤ iv wd)) = false then some (.dv wd) else if iv hi > iv wd then some (.wo hi) else none := fun {hi lo wd} => by unfold vG; rw [vw]; rfl
  refine ⟨_, rfl, _, _, rfl, rfl, _, _, rfl, rfl, cpow1 (by omega) (by omega), ?_⟩
  refine ⟨_, rfl, _, rfl, (by show 5 ≤ sizeLine; decide), fun r hr' => ?_⟩
  have s1 := same_new hr' (.tup [.int 3, .int 0, .int w, x, .non])
  refine ⟨_, rfl, r, 3, 0, .int w, x, .non, .lg x, x, rfl, upd_same, ⟨.int w, .inr (.inr ⟨rfl, by decide, by decide, .inl ⟨rfl, (gx _ s1).th, by unfold vLo; rw [vw]; dsimp only; rw [nx]; rfl⟩⟩)⟩, .inl ⟨rfl, gx.same s1⟩, fun G1 t1 => ⟨_, rfl, iteF ?_⟩⟩
  have s01 := s1.trans t1
  refine ⟨_, rfl, _, rfl, (by show 5 ≤ sizeLine; decide), fun r2 hr2 => ?_⟩
  have s2 := s01.trans (same_new hr2 (.tup [.int 3, .int 1, .int w, b, .non]))
  refine ⟨_, rfl, r2, 3, 1, .int w, b, .non, .wo b, b, rfl, upd_same, ⟨.int w, .inr (.inr ⟨rfl, by decide, by decide, .inr (.inl ⟨rfl, tb s2, by unfold vT1; rw [vw]; dsimp only; rw [wdb]; rfl⟩)⟩)⟩, .inl ⟨rfl, gb.same s2⟩, fun G2 t2 => ⟨_, rfl, iteF ?_⟩⟩
  have s02 := s2.trans t2
  refine ⟨(by show 2 ≤ sizeLine; decide), fun lz h_lz => ?_⟩
  have s_lz := same_new h_lz (.lst [.int 2, .int 3])
  have u_lz := new_at h_lz (.lst [.int 2, .int 3])
  refine ⟨lz, rfl, ⟨_, SqL.of u_lz⟩, for_list (xs := [.int 2, .int 3]) (fun j σ GZ => ∃ z5 z6 z7 z8 z9 z10, σ = [some (.int w), some b, some x, some (.int n), some (.int (1 * 2 ^ (w - 1).toNat)), z5, z6, z7, z8, z9, z10] ∧ Same H GZ ∧ GZ lz = some (.lst [.int 2, .int 3])) ⟨_, _, _, _, _, _, rfl, s02.trans s_lz, u_lz⟩ ?_ ?_ ?_⟩
  · rintro j σ GZ hj ⟨z5, z6, z7, z8, z9, z10, rfl, sZ, e1⟩
    exact SqL.of e1
  · rintro j wh σ GZ hj ⟨z5, z6, z7, z8, z9, z10, rfl, sZ, e1⟩
    have key : ∃ m : Int, wh = .int m ∧ (m = 2 ∨ m = 3) := by
      rcases j with _ | _ | j
      · cases hj; exact ⟨_, rfl, .inl rfl⟩
      · cases hj; exact ⟨_, rfl, .inr rfl⟩
      · simp at hj
    obtain ⟨m, rfl, m23⟩ := key
    have u0 := Int.emod_nonneg n (show (1 * 2 ^ (w - 1).toNat : Int) ≠ 0 by omega)
    have u1 := Int.emod_lt_of_pos n (show (0 : Int) < 1 * 2 ^ (w - 1).toNat by omega)
    refine ⟨_, rfl, _, rfl, _, _, rfl, rfl, (by show (0 : Int) < 1 * 2 ^ (w - 1).toNat; omega), ?_⟩
    refine ⟨_, rfl, _, rfl, _, _, rfl, rfl, ?_⟩
    have ls : ∀ {G : Hp} {t : Addr} {a b' d : V} {z : Rz}, G t = some (.tup [a, b', d]) → Th G a → Th G b' → Th G d → vG (.int w) a b' d = some z → ElsOk G m (.int w) (.ref t) z := fun ht ta tb td hz => .inr (.inr (.inl ⟨m23, _, _, _, _, rfl, ht, ta, tb, td, hz⟩))
    have d0 : ∀ {i : Int}, 0 ≤ i → i ≤ 1 * 2 ^ w.toNat - 1 → wdB (.int w) (.int i) = true := fun a b => by rw [wdi, decide_eq_true a, decide_eq_true b]; rfl
    refine ⟨_, rfl, _, rfl, _, rfl, (by show 3 ≤ sizeLine; decide), fun a1 h_a1 => ?_⟩
    have s_a1 := same_new h_a1 (.tup [b, b, .int (n % (1 * 2 ^ (w - 1).toNat))])
    have u_a1 := new_at h_a1 (.tup [b, b, .int (n % (1 * 2 ^ (w - 1).toNat))])
    refine ⟨_, rfl, _, rfl, (by show 3 ≤ sizeLine; decide), fun a2 h_a2 => ?_⟩
    have s_a2 := same_new h_a2 (.tup [b, .int 1, .int (1 * 2 ^ (w - 1).toNat)])
    have u_a2 := new_at h_a2 (.tup [b, .int 1, .int (1 * 2 ^ (w - 1).toNat)])
    refine ⟨(by show 2 ≤ sizeLine; decide), fun la h_la => ?_⟩
    have s_la := same_new h_la (.lst [.ref a1, .ref a2])
    have u_la := new_at h_la (.lst [.ref a1, .ref a2])
    have sa := sZ.trans (s_a1.trans (s_a2.trans s_la))
    refine ⟨la, rfl, ⟨_, SqL.of u_la⟩, for_list (xs := [.ref a1, .ref a2]) (fun j σ GY => ∃ z8 z9 z10, σ = [some (.int w), some b, some x, some (.int n), some (.int (1 * 2 ^ (w - 1).toNat)), some (.int m), some (.int (n % (1 * 2 ^ (w - 1).toNat))), some (.int (1 * 2 ^ (w - 1).toNat + (n % (1 * 2 ^ (w - 1).toNat)))), z8, z9, z10] ∧ Same H GY ∧ GY lz = some (.lst [.int 2, .int 3]) ∧ GY la = some (.lst [.ref a1, .ref a2]) ∧ GY a1 = some (.tup [b, b, .int (n % (1 * 2 ^ (w - 1).toNat))]) ∧ GY a2 = some (.tup [b, .int 1, .int (1 * 2 ^ (w - 1).toNat)])) ⟨_, _, _, rfl, sa, s_la _ _ (s_a2 _ _ (s_a1 _ _ e1)), u_la, s_la _ _ (s_a2 _ _ u_a1), s_la _ _ u_a2⟩ ?_ ?_ ?_⟩
    · rintro j' σ GY hj' ⟨z8, z9, z10, rfl, sY, f1, f2, f3, f4⟩
      exact SqL.of f2
    · rintro j' y σ GY hj' ⟨z8, z9, z10, rfl, sY, f1, f2, f3, f4⟩
      have key : ∃ t, y = .ref t ∧ ∀ G', Same GY G' → Same H G' → ElsOk G' m (.int w) (.ref t) (.wo b) := by
        have vb : ∀ {c d : V}, vG (.int w) b c d = some (.wo b) := fun {c d} => by rw [vG', if_pos wdb]
        rcases j' with _ | _ | j'
        · cases hj'; exact ⟨a1, rfl, fun G' s' t' => ls (s' _ _ f3) (tb t') (tb t') (.int _) vb⟩
        · cases hj'; exact ⟨a2, rfl, fun G' s' t' => ls (s' _ _ f4) (tb t') (.int _) (.int _) vb⟩
        · simp at hj'
      obtain ⟨t, rfl, hy⟩ := key
      refine ⟨_, rfl, _, rfl, _, rfl, (by show 5 ≤ sizeLine; decide), fun r hr' => ?_⟩
      have s4 := same_new hr' (.tup [.int 3, .int m, .int w, .ref t, .non])
      have s04 := sY.trans s4
      exact ⟨_, rfl, r, 3, m, .int w, .ref t, .non, .wo b, b, rfl, upd_same, ⟨.int w, .inr (.inr ⟨rfl, by omega, by omega, hy _ s4 s04⟩)⟩, .inl ⟨rfl, gb.same s04⟩, fun G5 s5 => ⟨_, rfl, iteF ⟨_, _, _, rfl, s04.trans s5, s5 _ _ (s4 _ _ f1), s5 _ _ (s4 _ _ f2), s5 _ _ (s4 _ _ f3), s5 _ _ (s4 _ _ f4)⟩⟩⟩
    rintro σ GY ⟨z8', z9', z10', rfl, sY, f1, _⟩
    refine ⟨_, rfl, _, rfl, _, rfl, _, rfl, _, rfl, (by show 3 ≤ sizeLine; decide), fun a3 h_a3 => ?_⟩
    have s_a3 := same_new h_a3 (.tup [.int (1 * 2 ^ (w - 1).toNat), b, .int (n % (1 * 2 ^ (w - 1).toNat))])
    have u_a3 := new_at h_a3 (.tup [.int (1 * 2 ^ (w - 1).toNat), b, .int (n % (1 * 2 ^ (w - 1).toNat))])
    refine ⟨(by show 5 ≤ sizeLine; decide), fun r hr' => ?_⟩
    have s4 := same_new hr' (.tup [.int 3, .int m, .int w, .ref a3, .non])
    have s04 := sY.trans (s_a3.trans s4)
    refine ⟨_, rfl, r, 3, m, .int w, .ref a3, .non, .wo b, b, rfl, upd_same, ⟨.int w, .inr (.inr ⟨rfl, by omega, by omega, ls (s4 _ _ u_a3) (.int _) (tb s04) (.int _) (by rw [vG', d0 (by omega) (by omega), if_neg (by decide), if_pos wdb])⟩)⟩, .inl ⟨rfl, gb.same s04⟩, fun G5 s5 => ⟨_, rfl, iteF ?_⟩⟩
    have s05 := s04.trans s5
    have f15 := s5 _ _ (s4 _ _ (s_a3 _ _ f1))
    refine ⟨_, rfl, _, rfl, _, rfl, _, _, rfl, rfl, _, rfl, _, _, rfl, rfl, .inl ⟨by decide, by decide⟩, (by show 5 ≤ sizeLine; decide), fun lb h_lb => ?_⟩
    have s_lb := same_new h_lb (.lst [.int (n % (1 * 2 ^ (w - 1).toNat)), b, .int (1 * 2 ^ (w - 1).toNat - 1), .int (2 * (1 * 2 ^ (w - 1).toNat)), .int 0])
    have u_lb := new_at h_lb (.lst [.int (n % (1 * 2 ^ (w - 1).toNat)), b, .int (1 * 2 ^ (w - 1).toNat - 1), .int (2 * (1 * 2 ^ (w - 1).toNat)), .int 0])
    refine ⟨lb, rfl, ⟨_, SqL.of u_lb⟩, for_list (xs := [.int (n % (1 * 2 ^ (w - 1).toNat)), b, .int (1 * 2 ^ (w - 1).toNat - 1), .int (2 * (1 * 2 ^ (w - 1).toNat)), .int 0]) (fun j σ GY => ∃ z8 z9 z10, σ = [some (.int w), some b, some x, some (.int n), some (.int (1 * 2 ^ (w - 1).toNat)), some (.int m), some (.int (n % (1 * 2 ^ (w - 1).toNat))), some (.int (1 * 2 ^ (w - 1).toNat + (n % (1 * 2 ^ (w - 1).toNat)))), z8, z9, z10] ∧ Same H GY ∧ GY lz = some (.lst [.int 2, .int 3]) ∧ GY lb = some (.lst [.int (n % (1 * 2 ^ (w - 1).toNat)), b, .int (1 * 2 ^ (w - 1).toNat - 1), .int (2 * (1 * 2 ^ (w - 1).toNat)), .int 0])) ⟨_, _, _, rfl, s05.trans s_lb, s_lb _ _ f15, u_lb⟩ ?_ ?_ ?_⟩
    · rintro j' σ GY hj' ⟨z8, z9, z10, rfl, sY, f1, f2⟩
      exact SqL.of f2
    · rintro j' y σ GY hj' ⟨z8, z9, z10, rfl, sY, f1, f2⟩
      have dd : wdB (.int w) (.int (1 * 2 ^ (w - 1).toNat + (n % (1 * 2 ^ (w - 1).toNat)))) = true := d0 (by omega) (by omega)
      have d1 : wdB (.int w) (.int 1) = true := d0 (by omega) (by omega)
      have vd : ∀ {d : V}, (wdB (.int w) d && decide (1 * 2 ^ (w - 1).toNat ≤ iv d)) = false → vG (.int w) (.int (1 * 2 ^ (w - 1).toNat + (n % (1 * 2 ^ (w - 1).toNat)))) (.int 1) d = some (.dv d) := fun hd => by rw [vG', dd, if_neg (by decide), d1, if_neg (by decide), if_pos hd]
      have lo : ∀ {i : Int}, i < 1 * 2 ^ (w - 1).toNat → (wdB (.int w) (.int i) && decide (1 * 2 ^ (w - 1).toNat ≤ iv (.int i))) = false := fun {i} hi => by rw [show decide (1 * 2 ^ (w - 1).toNat ≤ iv (.int i)) = false from decide_eq_false (by show ¬ 1 * 2 ^ (w - 1).toNat ≤ i; omega), Bool.and_false]
      have key : Th GY y ∧ GtS H y ∧ (wdB (.int w) y && decide (1 * 2 ^ (w - 1).toNat ≤ iv y)) = false := by
        rcases j' with _ | _ | _ | _ | _ | j'
        · cases hj'; exact ⟨.int _, fv_i (by omega) (by omega), lo (by omega)⟩
        · cases hj'; exact ⟨tb sY, gb, by rw [wdb]; rfl⟩
        · cases hj'; exact ⟨.int _, fv_i (by omega) (by omega), lo (by omega)⟩
        · cases hj'; exact ⟨.int _, fv_i (by omega) (by omega), by rw [wdi, decide_eq_false (show ¬ (2 * (1 * (2 : Int) ^ (w - 1).toNat) ≤ 1 * 2 ^ w.toNat - 1) by omega), Bool.and_false]; rfl⟩
        · cases hj'; exact ⟨.int _, fv_i (by decide) (by decide), lo (by omega)⟩
        · simp at hj'
      obtain ⟨ty, gy, hy⟩ := key
      refine ⟨_, rfl, _, rfl, _, rfl, _, rfl, (by show 3 ≤ sizeLine; decide), fun a4 h_a4 => ?_⟩
      have s_a4 := same_new h_a4 (.tup [.int (1 * 2 ^ (w - 1).toNat + (n % (1 * 2 ^ (w - 1).toNat))), .int 1, y])
      have u_a4 := new_at h_a4 (.tup [.int (1 * 2 ^ (w - 1).toNat + (n % (1 * 2 ^ (w - 1).toNat))), .int 1, y])
      refine ⟨(by show 5 ≤ sizeLine; decide), fun r hr' => ?_⟩
      have s4 := same_new hr' (.tup [.int 3, .int m, .int w, .ref a4, .non])
      have s44 := s_a4.trans s4
      have s04 := sY.trans s44
      exact ⟨_, rfl, r, 3, m, .int w, .ref a4, .non, .dv y, y, rfl, upd_same, ⟨.int w, .inr (.inr ⟨rfl, by omega, by omega, ls (s4 _ _ u_a4) (.int _) (.int _) (ty.same s44) (vd hy)⟩)⟩, .inl ⟨rfl, gy.same s04⟩, fun G5 s5 => ⟨_, rfl, iteF ⟨_, _, _, rfl, s04.trans s5, s5 _ _ (s44 _ _ f1), s5 _ _ (s44 _ _ f2)⟩⟩⟩
    rintro σ GX ⟨z8'', z9'', z10'', rfl, sX, f1x, _⟩
    refine ⟨_, rfl, _, _, rfl, rfl, .inl ⟨by decide, by decide⟩, _, _, rfl, rfl, _, rfl, _, _, rfl, rfl, _, _, rfl, ?_⟩
    have hb : ∃ hg : Int, hg = (if 1 * 2 ^ (w - 1).toNat + (n % (1 * 2 ^ (w - 1).toNat)) + 1 < 2 * (1 * 2 ^ (w - 1).toNat) - 1 then 1 * 2 ^ (w - 1).toNat + (n % (1 * 2 ^ (w - 1).toNat)) + 1 else 2 * (1 * 2 ^ (w - 1).toNat) - 1) ∧ 0 ≤ hg ∧ hg ≤ 1 * 2 ^ w.toNat - 1 := ⟨_, rfl, by split <;> omega, by split <;> omega⟩
    obtain ⟨_, rfl, g0, g1⟩ := hb
    refine ⟨_, rfl, _, rfl, _, _, rfl, rfl, _, rfl, ?_⟩
    walk_at "c" <;> intro ch
    · refine ⟨_, rfl, _, rfl, _, rfl, _, rfl, (by show 3 ≤ sizeLine; decide), fun a5 h_a5 => ?_⟩
      have s_a5 := same_new h_a5 (.tup [.int (if 1 * 2 ^ (w - 1).toNat + (n % (1 * 2 ^ (w - 1).toNat)) + 1 < 2 * (1 * 2 ^ (w - 1).toNat) - 1 then 1 * 2 ^ (w - 1).toNat + (n % (1 * 2 ^ (w - 1).toNat)) + 1 else 2 * (1 * 2 ^ (w - 1).toNat) - 1), .int 0, .int (1 * 2 ^ (w - 1).toNat + (n % (1 * 2 ^ (w - 1).toNat)))])
      have u_a5 := new_at h_a5 (.tup [.int (if 1 * 2 ^ (w - 1).toNat + (n % (1 * 2 ^ (w - 1).toNat)) + 1 < 2 * (1 * 2 ^ (w - 1).toNat) - 1 then 1 * 2 ^ (w - 1).toNat + (n % (1 * 2 ^ (w - 1).toNat)) + 1 else 2 * (1 * 2 ^ (w - 1).toNat) - 1), .int 0, .int (1 * 2 ^ (w - 1).toNat + (n % (1 * 2 ^ (w - 1).toNat)))])
      refine ⟨(by show 5 ≤ sizeLine; decide), fun r hr' => ?_⟩
      have s4 := same_new hr' (.tup [.int 3, .int m, .int w, .ref a5, .non])
      have s44 := s_a5.trans s4
      have s04 := sX.trans s44
      exact ⟨_, rfl, r, 3, m, .int w, .ref a5, .non, .wo (.int (if 1 * 2 ^ (w - 1).toNat + (n % (1 * 2 ^ (w - 1).toNat)) + 1 < 2 * (1 * 2 ^ (w - 1).toNat) - 1 then 1 * 2 ^ (w - 1).toNat + (n % (1 * 2 ^ (w - 1).toNat)) + 1 else 2 * (1 * 2 ^ (w - 1).toNat) - 1)), .int (if 1 * 2 ^ (w - 1).toNat + (n % (1 * 2 ^ (w - 1).toNat)) + 1 < 2 * (1 * 2 ^ (w - 1).toNat) - 1 then 1 * 2 ^ (w - 1).toNat + (n % (1 * 2 ^ (w - 1).toNat)) + 1 else 2 * (1 * 2 ^ (w - 1).toNat) - 1), rfl, upd_same, ⟨.int w, .inr (.inr ⟨rfl, by omega, by omega, ls (s4 _ _ u_a5) (.int _) (.int _) (.int _) (by rw [vG', d0 g0 g1, if_neg (by decide), d0 (by decide) (by omega), if_neg (by decide), if_neg (by rw [d0 (by omega) (by omega), Bool.true_and, decide_eq_false_iff_not]; show ¬ ¬ (1 * 2 ^ (w - 1).toNat ≤ 1 * 2 ^ (w - 1).toNat + (n % (1 * 2 ^ (w - 1).toNat))); omega)]; exact if_pos ch)⟩)⟩, .inl ⟨rfl, fv_i (Int.lt_of_lt_of_le (by decide) g0) (Int.lt_of_le_of_lt g1 (by omega))⟩, fun G5 s5 => ⟨_, rfl, iteF ⟨_, _, _, _, _, _, rfl, s04.trans s5, s5 _ _ (s44 _ _ f1x)⟩⟩⟩
    · exact iteF ⟨_, _, _, _, _, _, rfl, sX, f1x⟩
  rintro σ G1 ⟨z5', z6', z7', z8', z9', z10', rfl, s01', _⟩
  exact q _ s01'
theorem slI {p : Prop} (h : p) : Sl p := ⟨h⟩
theorem pe_opSS {X : Cx} {a b : Expr} {op : Operator} {r : R2} {ta tb : TE} {pos : Pos} (hr : OpR X (binaryOp op) r) (ha : Sl (PE X a ta)) (hb : Sl (PE X b tb)) : Sl (PE X (.BinOp a op b pos) (tOp r ta tb)) := ⟨pe_op hr ha.out hb.out⟩
theorem pa_consSS {X : Cx} {e : Expr} {es : List Expr} {te : TE} {t : TA} (ha : Sl (PE X e te)) (hr : Sl (PA X es t)) (hn : noStar e = true := by rfl) : Sl (PA X (e :: es) (tCons te t)) := ⟨pa_consN ha.out hr.out hn⟩
theorem star2 {X : Cx} {e : Expr} {es : List Expr} (hn : noStar e = true) : starEach (e :: es) X.env = (false, eval e X.env) :: starEach es X.env := star_cons hn es X.env
theorem pe_fnL {X : Cx} {k : Nat} {x : Str} {ps : List Str} {sp : Sp} {p pos : Pos} {e : Expr} {es : List Expr} {t : TA} (h : Has X.prog X.w X.K X.mg X.base k x ps sp) (hr : Room k X.A) (hg : Gl X x) (ha : Sl (PA X (e :: es) t)) (hdb : (x == ("__debug__" : Str)) = false := by decide)
    (hn : noStar e = true := by rfl) (hpl : (backTo pos (starEach es X.env)).any (·.1) = false := by rfl) : Sl (PE X (.Call (.Name x p) (e :: es) [] pos) (tCall sp [] E0 t)) := ⟨pe_fn h hr hg ha.out hdb (star2 hn) hpl⟩
theorem cut_four (xs : List V) : cutV xs none (some 4) = xs.take 4 := by
  unfold cutV
  show (xs.drop 0).take (min (4 : Int).toNat xs.length - 0) = _
  rw [List.drop_zero, Nat.sub_zero]
  show xs.take (min 4 xs.length) = _
  by_cases h : xs.length ≤ 4
  · rw [Nat.min_eq_right h, List.take_length, List.take_of_length_le h]
  · rw [Nat.min_eq_left (by omega)]
theorem ok_law {f : Addr} {fd : FuncData} (F : Fun K "law" "law" s_law f fd) (T : Txt K mg c) (H__law_drawn : Has P w K mg base 1 "_law_drawn" ["_law_cell", "_law_sizes"] spDrawn) (H__law_long : Has P w K mg base 1 "_law_long" ["_law_draws", "_law_at", "_law_many", "_law_width"] spLLong) (H__law_bad_long : Has P w K mg base 1 "_law_bad_long" ["_law_at", "_law_width"] spBadL) (H__law_longs : Has P w K mg base 12 "_law_longs" ["_law_width", "_law_bad", "_law_good", "_law_behind"] spLongs) (H__law_widths : Has P w K mg base 12 "_law_widths" ["_law_wide", "_law_bad", "_law_good"] spWidths) (H__law_words : Has P w K mg base 12 "_law_words" ["_law_width", "_law_bad", "_law_number", "_law_low"] spWordsL) (H__law_bad_width : Has P w K mg base 1 "_law_bad_width" ["_law_at"] spBadWi) (H__law_bad_word : Has P w K mg base 1 "_law_bad_word" ["_law_at", "_law_width"] spBadWd) (H_is_long : HasY P w K mg base 5 "is_long" ["width", "thing"] (spIsL c)) (H_long_compare : HasY P w K mg base 7 "long_compare" ["width", "one", "other"] (spLC8 c)) : FnOk P w K mg base CX0 13 f fd ["_law_script"] (spLaw K) := by
  refine F.ok sc_law (fun vs H Q E h => ?_) (fun cdv A outer s H vs Q E hr h => ?_)
  · obtain ⟨a, ns, rfl, _⟩ := h
    rfl
  obtain ⟨a, ns, rfl, hS, hlen, q⟩ := h
  refine ⟨_, (pss_cons (ps_for PassesOwn.never rfl (pi_list (pe_op op_addL (pe_slice sl_list (pv 0) po_none (po_some pe_int)) (pe_lst (pa_consN (pe_callB call_len_seq rfl T.n_len boot_len (pa_consN (pv 0) pa_nil)) pa_nil)))) (pg_name (i := 1) sc_law.nd rfl (Or.inl rfl))
      (slO (pss_consS (ps_setS (i := 2) sc_law.nd rfl (Or.inl rfl) (pe_fnL H__law_drawn (hr.mono (by omega)) rfl (pa_consS (pv 1) (pa_consSS (pe_opSS op_addL (pe_lstS (pa_consS pe_int (pa_consS pe_int (pa_consS pe_int (pa_consS pe_int (pa_consS pe_int (pa_consS pe_int (pa_consS pe_int (pa_consS (pe_op op_shl pe_int pe_int) pa_nilS))))))))) (pe_opSS op_rep (pe_lstS (pa_consS pe_int (pa_consS (pe_op op_shl pe_int pe_int) pa_nilS))) (slI pe_int))) pa_nilS))))
      (pss_cons (ps_set (i := 3) sc_law.nd rfl (Or.inl rfl) (pe_op op_add pe_int (pe_ix ix_list (pv 2) pe_int (fun _ _ => rfl))))
      (pss_cons (ps_set (i := 4) sc_law.nd rfl (Or.inl rfl) (pe_fn H__law_long (hr.mono (by omega)) rfl (pa_consN (pv 2) (pa_consN pe_int (pa_consN (pe_ix ix_list (pv 2) pe_int (fun _ _ => rfl)) (pa_consN (pv 3) pa_nil))))))
      (pss_cons (ps_set (i := 5) sc_law.nd rfl (Or.inl rfl) (pe_fn H__law_bad_long (hr.mono (by omega)) rfl (pa_consN (pe_ix ix_list (pv 2) pe_int (fun _ _ => rfl)) (pa_consN (pv 3) pa_nil))))
      (pss_cons (ps_if (pt_not (pt_val (pe_fn H__law_longs (hr.mono (by omega)) rfl (pa_consN (pv 3) (pa_consN (pv 5) (pa_consN (pv 4) (pa_consN (pe_fn H__law_bad_long (hr.mono (by omega)) rfl (pa_consN (pe_ix ix_list (pv 2) pe_int (fun _ _ => rfl)) (pa_consN (pv 3) pa_nil))) pa_nil)))))))
        (pss_one (ps_ret pe_bl))
        pss_nil)
      (pss_consT (ps_if (pt_not (pt_val (pe_fn H__law_widths (hr.mono (by omega)) rfl (pa_consN (pe_fn H__law_bad_width (hr.mono (by omega)) rfl (pa_consN (pe_ix ix_list (pv 2) pe_int (fun _ _ => rfl)) pa_nil)) (pa_consN (pv 5) (pa_consN (pv 4) pa_nil))))))
        (pss_one (ps_ret pe_bl))
        pss_nil)
      (pss_consS (ps_setS (i := 6) sc_law.nd rfl (Or.inl rfl) (pe_ixS ix_list (pe_lstS (pa_consS (pe_op op_sub pe_int pe_int) (pa_consS pe_bl (pa_consS pe_non (pa_consS pe_str (pa_consS (pe_lst (pa_consN pe_int pa_nil)) (pa_consS (pe_tup (pa_consN pe_int pa_nil)) (pa_consS pe_dnewK (pa_consS (pe_op op_sub (pe_op op_sub pe_int (pe_ix ix_list (pv 2) pe_int (fun _ _ => rfl))) pe_int) (pa_consS pe_bl pa_nilS)))))))))) (pe_ix ix_list (pv 2) pe_int (fun _ _ => rfl)) (fun _ _ => rfl)))
      (pss_cons (ps_if (pt_not (pt_val (pe_fn H__law_words (hr.mono (by omega)) rfl (pa_consN (pv 3) (pa_consN (pe_fn H__law_bad_word (hr.mono (by omega)) rfl (pa_consN (pe_ix ix_list (pv 2) pe_int (fun _ _ => rfl)) (pa_consN (pv 3) pa_nil))) (pa_consN (pv 6) (pa_consN (pe_ix ix_list (pv 2) pe_int (fun _ _ => rfl)) pa_nil)))))))
        (pss_one (ps_ret pe_bl))
        pss_nil)
      (pss_one (ps_if (PW.pt (pw_or (pt_cmpR op_notB (pe_fnYN H_is_long (hr.mono (by omega)) rfl (pa_consN (pv 3) (pa_consN (pv 5) pa_nil))) pe_bl (nomark _)) (pw_or1 (pt_cmpR op_ne (pe_fnYN H_long_compare (hr.mono (by omega)) rfl (pa_consN (pv 3) (pa_consN (pe_callTy call_list_of rfl T.n_list boot_list (pa_consN (pv 4) pa_nil)) (pa_consN (pe_callTy call_list_of rfl T.n_list boot_list (pa_consN (pv 4) pa_nil)) pa_nil)))) pe_int (nomark _)))))
        (pss_one (ps_ret pe_bl))
        pss_nil))))))))))))
    (pss_one (ps_ret pe_bl))), ?_⟩
  have hl : (ns.map V.int).length = ns.length := List.length_map _
  refine ⟨_, rfl, _, rfl, a, _, rfl, hS, fun z1 hz1 => ?_⟩
  have s1 := same_new hz1 (.lst (cutV (ns.map V.int) none (some 4)))
  refine ⟨_, rfl, a, _, rfl, .inl (s1.seq hS), (by show 1 ≤ sizeLine; decide), fun z2 hz2 => ?_⟩
  have s2 := same_new hz2 (.lst [.int (((ns.map V.int).length : Nat) : Int)])
  refine ⟨z1, z2, _, _, rfl, rfl, SqL.of (s2 _ _ upd_same), SqL.of upd_same, ?_, fun z3 hz3 => ?_⟩
  · exact Nat.le_trans (Nat.add_le_add_right (Nat.le_trans (cutV_length _ _ _) (by rw [hl]; exact hlen)) 1) (by decide : 63 + 1 ≤ sizeLine)
  have e3 : cutV (ns.map V.int) none (some 4) ++ [.int (((ns.map V.int).length : Nat) : Int)] = ((ns.take 4) ++ [((ns.length : Nat) : Int)]).map V.int := by
    rw [cut_four, List.map_append, List.map_take, hl]
    rfl
  have u3 := new_at hz3 (.lst (cutV (ns.map V.int) none (some 4) ++ [.int (((ns.map V.int).length : Nat) : Int)]))
  refine ⟨z3, rfl, ⟨_, SqL.of u3⟩, for_list (xs := cutV (ns.map V.int) none (some 4) ++ [.int (((ns.map V.int).length : Nat) : Int)]) (fun j σ GZ => ∃ y1 y2 y3 y4 y5 y6, σ = [some (.ref a), y1, y2, y3, y4, y5, y6] ∧ GZ z3 = some (.lst (cutV (ns.map V.int) none (some 4) ++ [.int (((ns.map V.int).length : Nat) : Int)]))) ⟨_, _, _, _, _, _, rfl, u3⟩ ?_ ?_ ?_⟩
  · rintro j σ GZ hj ⟨y1, y2, y3, y4, y5, y6, rfl, e1⟩
    exact SqL.of e1
  · rintro j x σ GZ hj ⟨y1, y2, y3, y4, y5, y6, rfl, e1⟩
    have key : ∃ cc : Int, x = .int cc := by
      rw [e3, List.getElem?_map] at hj
      obtain ⟨cc, _, h⟩ := Option.map_eq_some_iff.mp hj
      exact ⟨cc, h.symm⟩
    obtain ⟨cc, rfl⟩ := key
    refine ⟨_, rfl, _, _, rfl, rfl, ⟨by decide, by decide, by decide⟩, (by show 8 ≤ sizeLine; decide), fun w1 h_w1 => ?_⟩
    have s_w1 := same_new h_w1 (.lst [V.int 29, .int 16, .int 16, .int 8, .int 8, .int 9, .int 7, .int (1 * 2 ^ (32 : Int).toNat)])
    have u_w1 := new_at h_w1 (.lst [V.int 29, .int 16, .int 16, .int 8, .int 8, .int 9, .int 7, .int (1 * 2 ^ (32 : Int).toNat)])
    refine ⟨_, _, rfl, rfl, ⟨by decide, by decide, by decide⟩, (by show 2 ≤ sizeLine; decide), fun w2 h_w2 => ?_⟩
    have s_w2 := same_new h_w2 (.lst [V.int 9, .int (1 * 2 ^ (32 : Int).toNat)])
    refine ⟨w2, 6, _, rfl, rfl, upd_same, by decide, by decide, (by show 2 * 6 ≤ sizeLine; decide), fun w3 h_w3 => ?_⟩
    have s_w3 := same_new h_w3 (.lst (List.replicate (6 : Int).toNat [V.int 9, .int (1 * 2 ^ (32 : Int).toNat)]).flatten)
    refine ⟨w1, w3, _, _, rfl, rfl, SqL.of (s_w3 _ _ (s_w2 _ _ u_w1)), SqL.of upd_same, (by show 8 + 12 ≤ sizeLine; decide), fun w4 h_w4 => ?_⟩
    have s_w4 := same_new h_w4 (.lst ([V.int 29, .int 16, .int 16, .int 8, .int 8, .int 9, .int 7, .int (1 * 2 ^ (32 : Int).toNat)] ++ (List.replicate (6 : Int).toNat [V.int 9, .int (1 * 2 ^ (32 : Int).toNat)]).flatten))
    have sA := s_w1.trans (s_w2.trans (s_w3.trans s_w4))
    refine ⟨cc, w4, [29, 16, 16, 8, 8, 9, 7, 1 * 2 ^ (32 : Int).toNat, 9, 1 * 2 ^ (32 : Int).toNat, 9, 1 * 2 ^ (32 : Int).toNat, 9, 1 * 2 ^ (32 : Int).toNat, 9, 1 * 2 ^ (32 : Int).toNat, 9, 1 * 2 ^ (32 : Int).toNat, 9, 1 * 2 ^ (32 : Int).toNat], rfl, upd_same, by decide, by decide, fun l xs H2 hl0 hx s2' dr => ?_⟩
    have e12 := s2' _ _ (sA _ _ e1)
    obtain ⟨hlen2, hb⟩ := dr
    have hlen' : xs.length = 20 := hlen2
    obtain ⟨x0, hx0⟩ : ∃ x, xs[0]? = some x := ⟨_, List.getElem?_eq_getElem (by omega)⟩
    obtain ⟨x1, hx1⟩ : ∃ x, xs[1]? = some x := ⟨_, List.getElem?_eq_getElem (by omega)⟩
    obtain ⟨x2, hx2⟩ : ∃ x, xs[2]? = some x := ⟨_, List.getElem?_eq_getElem (by omega)⟩
    obtain ⟨x3, hx3⟩ : ∃ x, xs[3]? = some x := ⟨_, List.getElem?_eq_getElem (by omega)⟩
    obtain ⟨x4, hx4⟩ : ∃ x, xs[4]? = some x := ⟨_, List.getElem?_eq_getElem (by omega)⟩
    obtain ⟨x5, hx5⟩ : ∃ x, xs[5]? = some x := ⟨_, List.getElem?_eq_getElem (by omega)⟩
    obtain ⟨x6, hx6⟩ : ∃ x, xs[6]? = some x := ⟨_, List.getElem?_eq_getElem (by omega)⟩
    obtain ⟨x7, hx7⟩ : ∃ x, xs[7]? = some x := ⟨_, List.getElem?_eq_getElem (by omega)⟩
    have c0 := hb 0 x0 29 hx0 rfl
    have c5 := hb 5 x5 9 hx5 rfl
    have c6 := hb 6 x6 7 hx6 rfl
    have c7 := hb 7 x7 (1 * 2 ^ (32 : Int).toNat) hx7 rfl
    have e32 : (1 : Int) * 2 ^ (32 : Int).toNat = 4294967296 := by decide
    rw [e32] at c7
    clear hb
    refine ⟨_, rfl, l, _, _, _, rfl, rfl, SqL.of hx, at_nat (j := 0) hx0, _, _, rfl, rfl, ?_⟩
    have h1 : 4 ≤ 4 + x0 := by omega
    have h2 : 4 + x0 ≤ 32 := by omega
    refine ⟨_, rfl, _, rfl, l, _, _, _, rfl, rfl, SqL.of hx, at_nat (j := 6) hx6, _, rfl, l, xs, 8, x6, 4 + x0, rfl, hx, by decide, c6.1, by omega, hlen', h1, h2, fun g ws H3 hg0 hg hwl wd wla s3 => ?_⟩
    have lg : Lg (4 + x0) ws := ⟨wd, wla, by omega⟩
    have gl3 : GoodL H3 (4 + x0) g ws := ⟨hg, lg, by omega⟩
    have hx3' := s3 _ _ hx
    refine ⟨_, rfl, l, _, _, _, rfl, rfl, SqL.of hx3', at_nat (j := 1) hx1, _, rfl, x1, 4 + x0, rfl, h1, h2, fun bd H4 bb s4 => ?_⟩
    have hx4' := s4 _ _ hx3'
    refine ⟨_, rfl, _, rfl, _, rfl, _, rfl, l, _, _, _, rfl, rfl, SqL.of hx4', at_nat (j := 2) hx2, _, rfl, x2, 4 + x0, rfl, h1, h2, fun bh H5 bbh s5 => ?_⟩
    have hx5' := s5 _ _ hx4'
    refine ⟨4 + x0, bd, bh, g, ws, rfl, h1, h2, bb.same s5, bbh, gl3.same (s4.trans s5), fun H6 s6 => ⟨_, rfl, iteF ?_⟩⟩
    have hx6' := s6 _ _ hx5'
    have s46 := s5.trans s6
    refine ⟨_, rfl, l, _, _, _, rfl, rfl, SqL.of hx6', at_nat (j := 4) hx4, x4, rfl, fun v H7 bv gv s7 => ?_⟩
    have s47 := s46.trans s7
    refine ⟨_, rfl, _, rfl, v, bd, 4 + x0, g, ws, rfl, bv, gv, bb.same s47, gl3.same (s4.trans s47), fun H8 s8 => ⟨_, rfl, iteF ?_⟩⟩
    have s48 := s47.trans s8
    have hx8' := s8 _ _ (s7 _ _ hx6')
    refine ⟨_, _, rfl, rfl, (by show 1 ≤ sizeLine; decide), fun m1 h_m1 => ?_⟩
    have s_m1 := same_new h_m1 (.lst [.int 1])
    have u_m1 := new_at h_m1 (.lst [.int 1])
    refine ⟨(by show 1 ≤ sizeLine; decide), fun m2 h_m2 => ?_⟩
    have s_m2 := same_new h_m2 (.tup [.int 1])
    have u_m2 := new_at h_m2 (.tup [.int 1])
    refine fun m3 h_m3 => ?_
    have s_m3 := same_new h_m3 (.dK [])
    have u_m3 := new_at h_m3 (.dK [])
    have hx9 := s_m3 _ _ (s_m2 _ _ (s_m1 _ _ hx8'))
    refine ⟨_, rfl, l, _, _, _, rfl, rfl, SqL.of hx9, at_nat (j := 7) hx7, _, _, rfl, rfl, _, _, rfl, rfl, (by show 9 ≤ sizeLine; decide), fun m4 h_m4 => ?_⟩
    have s_m4 := same_new h_m4 (.lst [.int (0 - 1), .bl true, .non, .str "12", .ref m1, .ref m2, .ref m3, .int (0 - x7 - 1), .bl false])
    have u_m4 := new_at h_m4 (.lst [.int (0 - 1), .bl true, .non, .str "12", .ref m1, .ref m2, .ref m3, .int (0 - x7 - 1), .bl false])
    have sm := s_m1.trans (s_m2.trans (s_m3.trans s_m4))
    have g1 := s_m4 _ _ (s_m3 _ _ (s_m2 _ _ u_m1))
    have g2 := s_m4 _ _ (s_m3 _ _ u_m2)
    have g3 := s_m4 _ _ u_m3
    have hx10 := s_m4 _ _ hx9
    have s410 := s48.trans sm
    have i1 : ∀ x ∈ [V.int 1], FV x := fac (fvi (by decide) (by decide)) fa0
    have pick : ∀ {G : Hp}, G m1 = some (.lst [.int 1]) → G m2 = some (.tup [.int 1]) → G m3 = some (.dK []) → ∃ y, atI [.int (0 - 1), .bl true, .non, .str "12", .ref m1, .ref m2, .ref m3, .int (0 - x7 - 1), .bl false] x5 = some y ∧ GtS G y ∧ (isI y && decide (0 ≤ iv y)) = false := fun k1 k2 k3 => by
      rcases (by omega : x5 = 0 ∨ x5 = 1 ∨ x5 = 2 ∨ x5 = 3 ∨ x5 = 4 ∨ x5 = 5 ∨ x5 = 6 ∨ x5 = 7 ∨ x5 = 8) with rfl | rfl | rfl | rfl | rfl | rfl | rfl | rfl | rfl
      · exact ⟨_, rfl, fv_i (by decide) (by decide), rfl⟩
      · exact ⟨_, rfl, gts_fv fvb, rfl⟩
      · exact ⟨_, rfl, gts_fv fvn, rfl⟩
      · exact ⟨_, rfl, gts_fv fv12, rfl⟩
      · exact ⟨_, rfl, gts_lst k1 i1 (Nat.le_of_ble_eq_true rfl), rfl⟩
      · exact ⟨_, rfl, gts_tup k2 i1 (Nat.le_of_ble_eq_true rfl), rfl⟩
      · exact ⟨_, rfl, gts_d0 k3, rfl⟩
      · exact ⟨_, rfl, fv_i (by omega) (by omega), by show (true && decide (0 ≤ 0 - x7 - 1)) = false; rw [Bool.true_and, decide_eq_false_iff_not]; omega⟩
      · exact ⟨_, rfl, gts_fv fvb, rfl⟩
    obtain ⟨y, ey, gy, iy⟩ := pick g1 g2 g3
    refine ⟨_, rfl, l, _, _, _, rfl, rfl, SqL.of hx10, at_nat (j := 5) hx5, m4, _, _, _, rfl, rfl, SqL.of u_m4, ey, ?_⟩
    refine ⟨_, rfl, _, rfl, l, _, _, _, rfl, rfl, SqL.of hx10, at_nat (j := 3) hx3, _, rfl, x3, 4 + x0, rfl, h1, h2, fun bw H11 bwd s11 => ?_⟩
    have hx11 := s11 _ _ hx10
    refine ⟨_, rfl, _, rfl, l, _, _, _, rfl, rfl, SqL.of hx11, at_nat (j := 7) hx7, 4 + x0, bw, y, x7, rfl, h1, h2, bwd, gy.same s11, iy, c7.1, c7.2, fun H12 s12 => ⟨_, rfl, iteF ?_⟩⟩
    have s412 := s410.trans (s11.trans s12)
    obtain ⟨⟨ov, lb, hbb⟩, _⟩ := bb.same s412
    refine ⟨_, rfl, _, rfl, .int (4 + x0), bd, ov, rfl, .int _, lb, (fun z hz => by rw [vW_ok (btw_of h1 h2)] at hz; cases hz), fun w' ew _ _ H13 s13 => ?_⟩
    cases ew
    refine ⟨_, _, rfl, rfl, _, rfl, ?_⟩
    rw [hbb]
    refine iteF ?_
    have s413 := s412.trans s13
    have gl := gl3.same (s4.trans s413)
    refine ⟨_, rfl, _, rfl, g, _, rfl, .inl (SqL.of gl.1), fun q1 h_q1 => ?_⟩
    have s_q1 := same_new h_q1 (.lst (ws.map V.int))
    have u_q1 := new_at h_q1 (.lst (ws.map V.int))
    refine ⟨_, rfl, g, _, rfl, .inl (SqL.of (s_q1 _ _ gl.1)), fun q2 h_q2 => ?_⟩
    have s_q2 := same_new h_q2 (.lst (ws.map V.int))
    have u_q2 := new_at h_q2 (.lst (ws.map V.int))
    have sq := s_q1.trans s_q2
    have g1' : GoodL _ (4 + x0) q1 ws := ⟨s_q2 _ _ u_q1, gl.2⟩
    have g2' : GoodL _ (4 + x0) q2 ws := ⟨u_q2, gl.2⟩
    have vn : vLs (.int (4 + x0)) (.ref q1) (some (ws.map V.int)) (.ref q2) (some (ws.map V.int)) = none := vLs_2 (vL_ok h1 h2 lg.has) (vL_ok h1 h2 lg.has)
    refine ⟨.int (4 + x0), .ref q1, .ref q2, _, _, rfl, .int _, g1'.lv, g2'.lv, (fun z hz => by rw [vn] at hz; cases hz), fun _ => ⟨rfl, fun H14 s14 => ⟨rfl, _, rfl, iteNS rfl ?_⟩⟩⟩
    exact ⟨_, _, _, _, _, _, rfl, s14 _ _ (sq _ _ (s413 _ _ (s4 _ _ (s3 _ _ e12))))⟩
  rintro σ GZ ⟨y1, y2, y3, y4, y5, y6, rfl, e1⟩
  exact q GZ
end
theorem all_mk {l : PySem.W.OpenLaw} {w : World} {K : PySem.W.Frag} {h : Heap} {mg : Str → Option Value} {fa f1 f2 f3 f4 f5 f6 f7 f8 f9 f10 f11 f12 f13 f14 f15 f16 f17 f18 f19 f20 f21 f22 f23 f24 f25 f26 f27 f28 f29 f30 f31 f32 f33 f34 f35 f36 f37 f38 f39 f40 f41 f42 f43 f44 f45 f46 f47 f48 f49 f50 c_NoWidth c_NoWord c_NoDivisor c_NoLong c_Lesser c_NothingBy c_WiseError : Addr} (X : K.In h) (G : h.Ns mainGlobals mg) (hfa : mg "law" = some (.ref fa))
    {od1 an1 od2 an2 od3 an3 od4 an4 od5 an5 od6 an6 od7 an7 od8 an8 od9 an9 od10 an10 od11 an11 od12 an12 od13 an13 od14 an14 od15 an15 od16 an16 od17 an17 od18 an18 od19 an19 od20 an20 od21 an21 od22 an22 od23 an23 od24 an24 od25 an25 od26 an26 od27 an27 od28 an28 od29 an29 od30 an30 od31 an31 od32 an32 od33 an33 od34 an34 od35 an35 od36 an36 od37 an37 od38 an38 od39 an39 od40 an40 od41 an41 od42 an42 od43 an43 od44 an44 od45 an45 od46 an46 od47 an47 od48 an48 od49 an49 od50 an50 : Option Addr} {sl1 sl2 sl3 sl4 sl5 sl6 sl7 sl8 sl9 sl10 sl11 sl12 sl13 sl14 sl15 sl16 sl17 sl18 sl19 sl20 sl21 sl22 sl23 sl24 sl25 sl26 sl27 sl28 sl29 sl30 sl31 sl32 sl33 sl34 sl35 sl36 sl37 sl38 sl39 sl40 sl41 sl42 sl43 sl44 sl45 sl46 sl47 sl48 sl49 sl50 : Array (Option Value)} {oc1 kV1 dc1 pm1 cd1 ct1 oc2 kV2 dc2 pm2 cd2 ct2 oc3 kV3 dc3 pm3 cd3 ct3 oc4 kV4 dc4 pm4 cd4 ct4 oc5 kV5 dc5 pm5 cd5 ct5 oc6 kV6 dc6 pm6 cd6 ct6 oc7 kV7 dc7 pm7 cd7 ct7 oc8 kV8 dc8 pm8 cd8 ct8 oc9 kV9 dc9 pm9 cd9 ct9 oc10 kV10 dc10 pm10 cd10 ct10 oc11 kV11 dc11 pm11 cd11 ct11 oc12 kV12 dc12 pm12 cd12 ct12 oc13 kV13 dc13 pm13 cd13 ct13 oc14 kV14 dc14 pm14 cd14 ct14 oc15 kV15 dc15 pm15 cd15 ct15 oc16 kV16 dc16 pm16 cd16 ct16 oc17 kV17 dc17 pm17 cd17 ct17 oc18 kV18 dc18 pm18 cd18 ct18 oc19 kV19 dc19 pm19 cd19 ct19 oc20 kV20 dc20 pm20 cd20 ct20 oc21 kV21 dc21 pm21 cd21 ct21 oc22 kV22 dc22 pm22 cd22 ct22 oc23 kV23 dc23 pm23 cd23 ct23 oc24 kV24 dc24 pm24 cd24 ct24 oc25 kV25 dc25 pm25 cd25 ct25 oc26 kV26 dc26 pm26 cd26 ct26 oc27 kV27 dc27 pm27 cd27 ct27 oc28 kV28 dc28 pm28 cd28 ct28 oc29 kV29 dc29 pm29 cd29 ct29 oc30 kV30 dc30 pm30 cd30 ct30 oc31 kV31 dc31 pm31 cd31 ct31 oc32 kV32 dc32 pm32 cd32 ct32 oc33 kV33 dc33 pm33 cd33 ct33 oc34 kV34 dc34 pm34 cd34 ct34 oc35 kV35 dc35 pm35 cd35 ct35 oc36 kV36 dc36 pm36 cd36 ct36 oc37 kV37 dc37 pm37 cd37 ct37 oc38 kV38 dc38 pm38 cd38 ct38 oc39 kV39 dc39 pm39 cd39 ct39 oc40 kV40 dc40 pm40 cd40 ct40 oc41 kV41 dc41 pm41 cd41 ct41 oc42 kV42 dc42 pm42 cd42 ct42 oc43 kV43 dc43 pm43 cd43 ct43 oc44 kV44 dc44 pm44 cd44 ct44 oc45 kV45 dc45 pm45 cd45 ct45 oc46 kV46 dc46 pm46 cd46 ct46 oc47 kV47 dc47 pm47 cd47 ct47 oc48 kV48 dc48 pm48 cd48 ct48 oc49 kV49 dc49 pm49 cd49 ct49 oc50 kV50 dc50 pm50 cd50 ct50 : Value}
    (a1 : PySem.W.findIn K (.ref c_NoWidth) "__init__" = some (some (.ref f1))) (i1 : PySem.W.isFn K (.ref f1) = true)
    (l1 : K.lookup f1 = some ⟨oc1, od1, .func (PySem.W.fnOf "__init__" "NoWidth.__init__" (defArgs s_NoWidth___init__) (defBody s_NoWidth___init__) (defScope s_NoWidth___init__) .none kV1 dc1 pm1 an1 cd1 ct1), sl1⟩) (c1 : PySem.W.codeIn K cd1 "NoWidth.__init__" = true) (k1 : PySem.W.keepIn K (.ref f1) = true)
    (a2 : PySem.W.findIn K (.ref c_NoWord) "__init__" = some (some (.ref f2))) (i2 : PySem.W.isFn K (.ref f2) = true)
    (l2 : K.lookup f2 = some ⟨oc2, od2, .func (PySem.W.fnOf "__init__" "NoWord.__init__" (defArgs s_NoWord___init__) (defBody s_NoWord___init__) (defScope s_NoWord___init__) .none kV2 dc2 pm2 an2 cd2 ct2), sl2⟩) (c2 : PySem.W.codeIn K cd2 "NoWord.__init__" = true) (k2 : PySem.W.keepIn K (.ref f2) = true)
    (a3 : PySem.W.findIn K (.ref c_NoDivisor) "__init__" = some (some (.ref f3))) (i3 : PySem.W.isFn K (.ref f3) = true)
    (l3 : K.lookup f3 = some ⟨oc3, od3, .func (PySem.W.fnOf "__init__" "NoDivisor.__init__" (defArgs s_NoDivisor___init__) (defBody s_NoDivisor___init__) (defScope s_NoDivisor___init__) .none kV3 dc3 pm3 an3 cd3 ct3), sl3⟩) (c3 : PySem.W.codeIn K cd3 "NoDivisor.__init__" = true) (k3 : PySem.W.keepIn K (.ref f3) = true)
    (a4 : PySem.W.findIn K (.ref c_NoLong) "__init__" = some (some (.ref f4))) (i4 : PySem.W.isFn K (.ref f4) = true)
    (l4 : K.lookup f4 = some ⟨oc4, od4, .func (PySem.W.fnOf "__init__" "NoLong.__init__" (defArgs s_NoLong___init__) (defBody s_NoLong___init__) (defScope s_NoLong___init__) .none kV4 dc4 pm4 an4 cd4 ct4), sl4⟩) (c4 : PySem.W.codeIn K cd4 "NoLong.__init__" = true) (k4 : PySem.W.keepIn K (.ref f4) = true)
    (a5 : PySem.W.nsIn K mainGlobals "is_whole" = some (some (.ref f5)))
    (l5 : K.lookup f5 = some ⟨oc5, od5, .func (PySem.W.fnOf "is_whole" "is_whole" (defArgs s_is_whole) (defBody s_is_whole) (defScope s_is_whole) .none kV5 dc5 pm5 an5 cd5 ct5), sl5⟩) (c5 : PySem.W.codeIn K cd5 "is_whole" = true) (k5 : PySem.W.keepIn K (.ref f5) = true)
    (a6 : PySem.W.nsIn K mainGlobals "is_between" = some (some (.ref f6)))
    (l6 : K.lookup f6 = some ⟨oc6, od6, .func (PySem.W.fnOf "is_between" "is_between" (defArgs s_is_between) (defBody s_is_between) (defScope s_is_between) .none kV6 dc6 pm6 an6 cd6 ct6), sl6⟩) (c6 : PySem.W.codeIn K cd6 "is_between" = true) (k6 : PySem.W.keepIn K (.ref f6) = true)
    (a7 : PySem.W.nsIn K mainGlobals "need_width" = some (some (.ref f7)))
    (l7 : K.lookup f7 = some ⟨oc7, od7, .func (PySem.W.fnOf "need_width" "need_width" (defArgs s_need_width) (defBody s_need_width) (defScope s_need_width) .none kV7 dc7 pm7 an7 cd7 ct7), sl7⟩) (c7 : PySem.W.codeIn K cd7 "need_width" = true) (k7 : PySem.W.keepIn K (.ref f7) = true)
    (a8 : PySem.W.nsIn K mainGlobals "is_word" = some (some (.ref f8)))
    (l8 : K.lookup f8 = some ⟨oc8, od8, .func (PySem.W.fnOf "is_word" "is_word" (defArgs s_is_word) (defBody s_is_word) (defScope s_is_word) .none kV8 dc8 pm8 an8 cd8 ct8), sl8⟩) (c8 : PySem.W.codeIn K cd8 "is_word" = true) (k8 : PySem.W.keepIn K (.ref f8) = true)
    (a9 : PySem.W.nsIn K mainGlobals "has_long" = some (some (.ref f9)))
    (l9 : K.lookup f9 = some ⟨oc9, od9, .func (PySem.W.fnOf "has_long" "has_long" (defArgs s_has_long) (defBody s_has_long) (defScope s_has_long) .none kV9 dc9 pm9 an9 cd9 ct9), sl9⟩) (c9 : PySem.W.codeIn K cd9 "has_long" = true) (k9 : PySem.W.keepIn K (.ref f9) = true)
    (a10 : PySem.W.nsIn K mainGlobals "is_long" = some (some (.ref f10)))
    (l10 : K.lookup f10 = some ⟨oc10, od10, .func (PySem.W.fnOf "is_long" "is_long" (defArgs s_is_long) (defBody s_is_long) (defScope s_is_long) .none kV10 dc10 pm10 an10 cd10 ct10), sl10⟩) (c10 : PySem.W.codeIn K cd10 "is_long" = true) (k10 : PySem.W.keepIn K (.ref f10) = true)
    (a11 : PySem.W.nsIn K mainGlobals "need_long" = some (some (.ref f11)))
    (l11 : K.lookup f11 = some ⟨oc11, od11, .func (PySem.W.fnOf "need_long" "need_long" (defArgs s_need_long) (defBody s_need_long) (defScope s_need_long) .none kV11 dc11 pm11 an11 cd11 ct11), sl11⟩) (c11 : PySem.W.codeIn K cd11 "need_long" = true) (k11 : PySem.W.keepIn K (.ref f11) = true)
    (a12 : PySem.W.nsIn K mainGlobals "need_longs" = some (some (.ref f12)))
    (l12 : K.lookup f12 = some ⟨oc12, od12, .func (PySem.W.fnOf "need_longs" "need_longs" (defArgs s_need_longs) (defBody s_need_longs) (defScope s_need_longs) .none kV12 dc12 pm12 an12 cd12 ct12), sl12⟩) (c12 : PySem.W.codeIn K cd12 "need_longs" = true) (k12 : PySem.W.keepIn K (.ref f12) = true)
    (a13 : PySem.W.nsIn K mainGlobals "long_of" = some (some (.ref f13)))
    (l13 : K.lookup f13 = some ⟨oc13, od13, .func (PySem.W.fnOf "long_of" "long_of" (defArgs s_long_of) (defBody s_long_of) (defScope s_long_of) .none kV13 dc13 pm13 an13 cd13 ct13), sl13⟩) (c13 : PySem.W.codeIn K cd13 "long_of" = true) (k13 : PySem.W.keepIn K (.ref f13) = true)
    (a14 : PySem.W.nsIn K mainGlobals "number_of" = some (some (.ref f14)))
    (l14 : K.lookup f14 = some ⟨oc14, od14, .func (PySem.W.fnOf "number_of" "number_of" (defArgs s_number_of) (defBody s_number_of) (defScope s_number_of) .none kV14 dc14 pm14 an14 cd14 ct14), sl14⟩) (c14 : PySem.W.codeIn K cd14 "number_of" = true) (k14 : PySem.W.keepIn K (.ref f14) = true)
    (a15 : PySem.W.nsIn K mainGlobals "long_sum" = some (some (.ref f15)))
    (l15 : K.lookup f15 = some ⟨oc15, od15, .func (PySem.W.fnOf "long_sum" "long_sum" (defArgs s_long_sum) (defBody s_long_sum) (defScope s_long_sum) .none kV15 dc15 pm15 an15 cd15 ct15), sl15⟩) (c15 : PySem.W.codeIn K cd15 "long_sum" = true) (k15 : PySem.W.keepIn K (.ref f15) = true)
    (a16 : PySem.W.nsIn K mainGlobals "carries" = some (some (.ref f16)))
    (l16 : K.lookup f16 = some ⟨oc16, od16, .func (PySem.W.fnOf "carries" "carries" (defArgs s_carries) (defBody s_carries) (defScope s_carries) .none kV16 dc16 pm16 an16 cd16 ct16), sl16⟩) (c16 : PySem.W.codeIn K cd16 "carries" = true) (k16 : PySem.W.keepIn K (.ref f16) = true)
    (a17 : PySem.W.nsIn K mainGlobals "need_gap" = some (some (.ref f17)))
    (l17 : K.lookup f17 = some ⟨oc17, od17, .func (PySem.W.fnOf "need_gap" "need_gap" (defArgs s_need_gap) (defBody s_need_gap) (defScope s_need_gap) .none kV17 dc17 pm17 an17 cd17 ct17), sl17⟩) (c17 : PySem.W.codeIn K cd17 "need_gap" = true) (k17 : PySem.W.keepIn K (.ref f17) = true)
    (a18 : PySem.W.nsIn K mainGlobals "long_gap" = some (some (.ref f18)))
    (l18 : K.lookup f18 = some ⟨oc18, od18, .func (PySem.W.fnOf "long_gap" "long_gap" (defArgs s_long_gap) (defBody s_long_gap) (defScope s_long_gap) .none kV18 dc18 pm18 an18 cd18 ct18), sl18⟩) (c18 : PySem.W.codeIn K cd18 "long_gap" = true) (k18 : PySem.W.keepIn K (.ref f18) = true)
    (a19 : PySem.W.nsIn K mainGlobals "borrows" = some (some (.ref f19)))
    (l19 : K.lookup f19 = some ⟨oc19, od19, .func (PySem.W.fnOf "borrows" "borrows" (defArgs s_borrows) (defBody s_borrows) (defScope s_borrows) .none kV19 dc19 pm19 an19 cd19 ct19), sl19⟩) (c19 : PySem.W.codeIn K cd19 "borrows" = true) (k19 : PySem.W.keepIn K (.ref f19) = true)
    (a20 : PySem.W.nsIn K mainGlobals "compared" = some (some (.ref f20)))
    (l20 : K.lookup f20 = some ⟨oc20, od20, .func (PySem.W.fnOf "compared" "compared" (defArgs s_compared) (defBody s_compared) (defScope s_compared) .none kV20 dc20 pm20 an20 cd20 ct20), sl20⟩) (c20 : PySem.W.codeIn K cd20 "compared" = true) (k20 : PySem.W.keepIn K (.ref f20) = true)
    (a21 : PySem.W.nsIn K mainGlobals "long_compare" = some (some (.ref f21)))
    (l21 : K.lookup f21 = some ⟨oc21, od21, .func (PySem.W.fnOf "long_compare" "long_compare" (defArgs s_long_compare) (defBody s_long_compare) (defScope s_long_compare) .none kV21 dc21 pm21 an21 cd21 ct21), sl21⟩) (c21 : PySem.W.codeIn K cd21 "long_compare" = true) (k21 : PySem.W.keepIn K (.ref f21) = true)
    (a22 : PySem.W.nsIn K mainGlobals "times_word" = some (some (.ref f22)))
    (l22 : K.lookup f22 = some ⟨oc22, od22, .func (PySem.W.fnOf "times_word" "times_word" (defArgs s_times_word) (defBody s_times_word) (defScope s_times_word) .none kV22 dc22 pm22 an22 cd22 ct22), sl22⟩) (c22 : PySem.W.codeIn K cd22 "times_word" = true) (k22 : PySem.W.keepIn K (.ref f22) = true)
    (a23 : PySem.W.nsIn K mainGlobals "long_product" = some (some (.ref f23)))
    (l23 : K.lookup f23 = some ⟨oc23, od23, .func (PySem.W.fnOf "long_product" "long_product" (defArgs s_long_product) (defBody s_long_product) (defScope s_long_product) .none kV23 dc23 pm23 an23 cd23 ct23), sl23⟩) (c23 : PySem.W.codeIn K cd23 "long_product" = true) (k23 : PySem.W.keepIn K (.ref f23) = true)
    (a24 : PySem.W.nsIn K mainGlobals "long_left" = some (some (.ref f24)))
    (l24 : K.lookup f24 = some ⟨oc24, od24, .func (PySem.W.fnOf "long_left" "long_left" (defArgs s_long_left) (defBody s_long_left) (defScope s_long_left) .none kV24 dc24 pm24 an24 cd24 ct24), sl24⟩) (c24 : PySem.W.codeIn K cd24 "long_left" = true) (k24 : PySem.W.keepIn K (.ref f24) = true)
    (a25 : PySem.W.nsIn K mainGlobals "long_right" = some (some (.ref f25)))
    (l25 : K.lookup f25 = some ⟨oc25, od25, .func (PySem.W.fnOf "long_right" "long_right" (defArgs s_long_right) (defBody s_long_right) (defScope s_long_right) .none kV25 dc25 pm25 an25 cd25 ct25), sl25⟩) (c25 : PySem.W.codeIn K cd25 "long_right" = true) (k25 : PySem.W.keepIn K (.ref f25) = true)
    (a26 : PySem.W.nsIn K mainGlobals "turn_of" = some (some (.ref f26)))
    (l26 : K.lookup f26 = some ⟨oc26, od26, .func (PySem.W.fnOf "turn_of" "turn_of" (defArgs s_turn_of) (defBody s_turn_of) (defScope s_turn_of) .none kV26 dc26 pm26 an26 cd26 ct26), sl26⟩) (c26 : PySem.W.codeIn K cd26 "turn_of" = true) (k26 : PySem.W.keepIn K (.ref f26) = true)
    (a27 : PySem.W.nsIn K mainGlobals "need_division" = some (some (.ref f27)))
    (l27 : K.lookup f27 = some ⟨oc27, od27, .func (PySem.W.fnOf "need_division" "need_division" (defArgs s_need_division) (defBody s_need_division) (defScope s_need_division) .none kV27 dc27 pm27 an27 cd27 ct27), sl27⟩) (c27 : PySem.W.codeIn K cd27 "need_division" = true) (k27 : PySem.W.keepIn K (.ref f27) = true)
    (a28 : PySem.W.nsIn K mainGlobals "steps_ahead" = some (some (.ref f28)))
    (l28 : K.lookup f28 = some ⟨oc28, od28, .func (PySem.W.fnOf "steps_ahead" "steps_ahead" (defArgs s_steps_ahead) (defBody s_steps_ahead) (defScope s_steps_ahead) .none kV28 dc28 pm28 an28 cd28 ct28), sl28⟩) (c28 : PySem.W.codeIn K cd28 "steps_ahead" = true) (k28 : PySem.W.keepIn K (.ref f28) = true)
    (a29 : PySem.W.nsIn K mainGlobals "bits_ahead" = some (some (.ref f29)))
    (l29 : K.lookup f29 = some ⟨oc29, od29, .func (PySem.W.fnOf "bits_ahead" "bits_ahead" (defArgs s_bits_ahead) (defBody s_bits_ahead) (defScope s_bits_ahead) .none kV29 dc29 pm29 an29 cd29 ct29), sl29⟩) (c29 : PySem.W.codeIn K cd29 "bits_ahead" = true) (k29 : PySem.W.keepIn K (.ref f29) = true)
    (a30 : PySem.W.nsIn K mainGlobals "need_guess" = some (some (.ref f30)))
    (l30 : K.lookup f30 = some ⟨oc30, od30, .func (PySem.W.fnOf "need_guess" "need_guess" (defArgs s_need_guess) (defBody s_need_guess) (defScope s_need_guess) .none kV30 dc30 pm30 an30 cd30 ct30), sl30⟩) (c30 : PySem.W.codeIn K cd30 "need_guess" = true) (k30 : PySem.W.keepIn K (.ref f30) = true)
    (a31 : PySem.W.nsIn K mainGlobals "guess_rows" = some (some (.ref f31)))
    (l31 : K.lookup f31 = some ⟨oc31, od31, .func (PySem.W.fnOf "guess_rows" "guess_rows" (defArgs s_guess_rows) (defBody s_guess_rows) (defScope s_guess_rows) .none kV31 dc31 pm31 an31 cd31 ct31), sl31⟩) (c31 : PySem.W.codeIn K cd31 "guess_rows" = true) (k31 : PySem.W.keepIn K (.ref f31) = true)
    (a32 : PySem.W.nsIn K mainGlobals "guess_of" = some (some (.ref f32)))
    (l32 : K.lookup f32 = some ⟨oc32, od32, .func (PySem.W.fnOf "guess_of" "guess_of" (defArgs s_guess_of) (defBody s_guess_of) (defScope s_guess_of) .none kV32 dc32 pm32 an32 cd32 ct32), sl32⟩) (c32 : PySem.W.codeIn K cd32 "guess_of" = true) (k32 : PySem.W.keepIn K (.ref f32) = true)
    (a33 : PySem.W.nsIn K mainGlobals "long_divided" = some (some (.ref f33)))
    (l33 : K.lookup f33 = some ⟨oc33, od33, .func (PySem.W.fnOf "long_divided" "long_divided" (defArgs s_long_divided) (defBody s_long_divided) (defScope s_long_divided) .none kV33 dc33 pm33 an33 cd33 ct33), sl33⟩) (c33 : PySem.W.codeIn K cd33 "long_divided" = true) (k33 : PySem.W.keepIn K (.ref f33) = true)
    (a34 : PySem.W.nsIn K mainGlobals "is_division" = some (some (.ref f34)))
    (l34 : K.lookup f34 = some ⟨oc34, od34, .func (PySem.W.fnOf "is_division" "is_division" (defArgs s_is_division) (defBody s_is_division) (defScope s_is_division) .none kV34 dc34 pm34 an34 cd34 ct34), sl34⟩) (c34 : PySem.W.codeIn K cd34 "is_division" = true) (k34 : PySem.W.keepIn K (.ref f34) = true)
    (a35 : PySem.W.nsIn K mainGlobals "worst" = some (some (.ref f35)))
    (l35 : K.lookup f35 = some ⟨oc35, od35, .func (PySem.W.fnOf "worst" "worst" (defArgs s_worst) (defBody s_worst) (defScope s_worst) .none kV35 dc35 pm35 an35 cd35 ct35), sl35⟩) (c35 : PySem.W.codeIn K cd35 "worst" = true) (k35 : PySem.W.keepIn K (.ref f35) = true)
    (a36 : PySem.W.nsIn K mainGlobals "_law_drawn" = some (some (.ref f36)))
    (l36 : K.lookup f36 = some ⟨oc36, od36, .func (PySem.W.fnOf "_law_drawn" "_law_drawn" (defArgs s__law_drawn) (defBody s__law_drawn) (defScope s__law_drawn) .none kV36 dc36 pm36 an36 cd36 ct36), sl36⟩) (c36 : PySem.W.codeIn K cd36 "_law_drawn" = true) (k36 : PySem.W.keepIn K (.ref f36) = true)
    (a37 : PySem.W.nsIn K mainGlobals "_law_long" = some (some (.ref f37)))
    (l37 : K.lookup f37 = some ⟨oc37, od37, .func (PySem.W.fnOf "_law_long" "_law_long" (defArgs s__law_long) (defBody s__law_long) (defScope s__law_long) .none kV37 dc37 pm37 an37 cd37 ct37), sl37⟩) (c37 : PySem.W.codeIn K cd37 "_law_long" = true) (k37 : PySem.W.keepIn K (.ref f37) = true)
    (a38 : PySem.W.nsIn K mainGlobals "_law_one" = some (some (.ref f38)))
    (l38 : K.lookup f38 = some ⟨oc38, od38, .func (PySem.W.fnOf "_law_one" "_law_one" (defArgs s__law_one) (defBody s__law_one) (defScope s__law_one) .none kV38 dc38 pm38 an38 cd38 ct38), sl38⟩) (c38 : PySem.W.codeIn K cd38 "_law_one" = true) (k38 : PySem.W.keepIn K (.ref f38) = true)
    (a39 : PySem.W.nsIn K mainGlobals "_law_two" = some (some (.ref f39)))
    (l39 : K.lookup f39 = some ⟨oc39, od39, .func (PySem.W.fnOf "_law_two" "_law_two" (defArgs s__law_two) (defBody s__law_two) (defScope s__law_two) .none kV39 dc39 pm39 an39 cd39 ct39), sl39⟩) (c39 : PySem.W.codeIn K cd39 "_law_two" = true) (k39 : PySem.W.keepIn K (.ref f39) = true)
    (a40 : PySem.W.nsIn K mainGlobals "_law_else" = some (some (.ref f40)))
    (l40 : K.lookup f40 = some ⟨oc40, od40, .func (PySem.W.fnOf "_law_else" "_law_else" (defArgs s__law_else) (defBody s__law_else) (defScope s__law_else) .none kV40 dc40 pm40 an40 cd40 ct40), sl40⟩) (c40 : PySem.W.codeIn K cd40 "_law_else" = true) (k40 : PySem.W.keepIn K (.ref f40) = true)
    (a41 : PySem.W.nsIn K mainGlobals "_law_asked" = some (some (.ref f41)))
    (l41 : K.lookup f41 = some ⟨oc41, od41, .func (PySem.W.fnOf "_law_asked" "_law_asked" (defArgs s__law_asked) (defBody s__law_asked) (defScope s__law_asked) .none kV41 dc41 pm41 an41 cd41 ct41), sl41⟩) (c41 : PySem.W.codeIn K cd41 "_law_asked" = true) (k41 : PySem.W.keepIn K (.ref f41) = true)
    (a42 : PySem.W.nsIn K mainGlobals "_law_named" = some (some (.ref f42)))
    (l42 : K.lookup f42 = some ⟨oc42, od42, .func (PySem.W.fnOf "_law_named" "_law_named" (defArgs s__law_named) (defBody s__law_named) (defScope s__law_named) .none kV42 dc42 pm42 an42 cd42 ct42), sl42⟩) (c42 : PySem.W.codeIn K cd42 "_law_named" = true) (k42 : PySem.W.keepIn K (.ref f42) = true)
    (a43 : PySem.W.nsIn K mainGlobals "_law_refused" = some (some (.ref f43)))
    (l43 : K.lookup f43 = some ⟨oc43, od43, .func (PySem.W.fnOf "_law_refused" "_law_refused" (defArgs s__law_refused) (defBody s__law_refused) (defScope s__law_refused) .none kV43 dc43 pm43 an43 cd43 ct43), sl43⟩) (c43 : PySem.W.codeIn K cd43 "_law_refused" = true) (k43 : PySem.W.keepIn K (.ref f43) = true)
    (a44 : PySem.W.nsIn K mainGlobals "_law_bad_long" = some (some (.ref f44)))
    (l44 : K.lookup f44 = some ⟨oc44, od44, .func (PySem.W.fnOf "_law_bad_long" "_law_bad_long" (defArgs s__law_bad_long) (defBody s__law_bad_long) (defScope s__law_bad_long) .none kV44 dc44 pm44 an44 cd44 ct44), sl44⟩) (c44 : PySem.W.codeIn K cd44 "_law_bad_long" = true) (k44 : PySem.W.keepIn K (.ref f44) = true)
    (a45 : PySem.W.nsIn K mainGlobals "_law_bad_word" = some (some (.ref f45)))
    (l45 : K.lookup f45 = some ⟨oc45, od45, .func (PySem.W.fnOf "_law_bad_word" "_law_bad_word" (defArgs s__law_bad_word) (defBody s__law_bad_word) (defScope s__law_bad_word) .none kV45 dc45 pm45 an45 cd45 ct45), sl45⟩) (c45 : PySem.W.codeIn K cd45 "_law_bad_word" = true) (k45 : PySem.W.keepIn K (.ref f45) = true)
    (a46 : PySem.W.nsIn K mainGlobals "_law_bad_width" = some (some (.ref f46)))
    (l46 : K.lookup f46 = some ⟨oc46, od46, .func (PySem.W.fnOf "_law_bad_width" "_law_bad_width" (defArgs s__law_bad_width) (defBody s__law_bad_width) (defScope s__law_bad_width) .none kV46 dc46 pm46 an46 cd46 ct46), sl46⟩) (c46 : PySem.W.codeIn K cd46 "_law_bad_width" = true) (k46 : PySem.W.keepIn K (.ref f46) = true)
    (a47 : PySem.W.nsIn K mainGlobals "_law_longs" = some (some (.ref f47)))
    (l47 : K.lookup f47 = some ⟨oc47, od47, .func (PySem.W.fnOf "_law_longs" "_law_longs" (defArgs s__law_longs) (defBody s__law_longs) (defScope s__law_longs) .none kV47 dc47 pm47 an47 cd47 ct47), sl47⟩) (c47 : PySem.W.codeIn K cd47 "_law_longs" = true) (k47 : PySem.W.keepIn K (.ref f47) = true)
    (a48 : PySem.W.nsIn K mainGlobals "_law_widths" = some (some (.ref f48)))
    (l48 : K.lookup f48 = some ⟨oc48, od48, .func (PySem.W.fnOf "_law_widths" "_law_widths" (defArgs s__law_widths) (defBody s__law_widths) (defScope s__law_widths) .none kV48 dc48 pm48 an48 cd48 ct48), sl48⟩) (c48 : PySem.W.codeIn K cd48 "_law_widths" = true) (k48 : PySem.W.keepIn K (.ref f48) = true)
    (a49 : PySem.W.nsIn K mainGlobals "_law_words" = some (some (.ref f49)))
    (l49 : K.lookup f49 = some ⟨oc49, od49, .func (PySem.W.fnOf "_law_words" "_law_words" (defArgs s__law_words) (defBody s__law_words) (defScope s__law_words) .none kV49 dc49 pm49 an49 cd49 ct49), sl49⟩) (c49 : PySem.W.codeIn K cd49 "_law_words" = true) (k49 : PySem.W.keepIn K (.ref f49) = true)
    (a50 : PySem.W.nsIn K mainGlobals "law" = some (some (.ref f50)))
    (l50 : K.lookup f50 = some ⟨oc50, od50, .func (PySem.W.fnOf "law" "law" (defArgs s_law) (defBody s_law) (defScope s_law) .none kV50 dc50 pm50 an50 cd50 ct50), sl50⟩) (c50 : PySem.W.codeIn K cd50 "law" = true) (k50 : PySem.W.keepIn K (.ref f50) = true)
    (aC_NoWidth : PySem.W.nsIn K mainGlobals "NoWidth" = some (some (.ref c_NoWidth)))
    (aC_NoWord : PySem.W.nsIn K mainGlobals "NoWord" = some (some (.ref c_NoWord)))
    (aC_NoDivisor : PySem.W.nsIn K mainGlobals "NoDivisor" = some (some (.ref c_NoDivisor)))
    (aC_NoLong : PySem.W.nsIn K mainGlobals "NoLong" = some (some (.ref c_NoLong)))
    (aC_Lesser : PySem.W.nsIn K mainGlobals "Lesser" = some (some (.ref c_Lesser)))
    (aC_NothingBy : PySem.W.nsIn K mainGlobals "NothingBy" = some (some (.ref c_NothingBy)))
    (aC_WiseError : PySem.W.nsIn K mainGlobals "WiseError" = some (some (.ref c_WiseError)))
    (xe_NoWidth : excFn K c_NoWidth f1 = true) (xs_NoWidth : PySem.W.findIn K (.ref c_NoWidth) "__setattr__" = some (some (.builtin "object.__setattr__"))) (xm_NoWidth : PySem.W.mroIn K c_NoWidth (.type "object") = some true) (xn_NoWidth : PySem.W.findIn K (.ref c_NoWidth) "found" = some none) (xf_NoWidth : PySem.W.typeIn K (.ref f1) = some (.type "function")) (xk_NoWidth : PySem.W.keepIn K (.ref c_NoWidth) = true)
    (xe_NoWord : excFn K c_NoWord f2 = true) (xs_NoWord : PySem.W.findIn K (.ref c_NoWord) "__setattr__" = some (some (.builtin "object.__setattr__"))) (xm_NoWord : PySem.W.mroIn K c_NoWord (.type "object") = some true) (xn_NoWord : PySem.W.findIn K (.ref c_NoWord) "found" = some none) (xf_NoWord : PySem.W.typeIn K (.ref f2) = some (.type "function")) (xk_NoWord : PySem.W.keepIn K (.ref c_NoWord) = true)
    (xe_NoDivisor : excFn K c_NoDivisor f3 = true) (xs_NoDivisor : PySem.W.findIn K (.ref c_NoDivisor) "__setattr__" = some (some (.builtin "object.__setattr__"))) (xm_NoDivisor : PySem.W.mroIn K c_NoDivisor (.type "object") = some true) (xn_NoDivisor : PySem.W.findIn K (.ref c_NoDivisor) "found" = some none) (xf_NoDivisor : PySem.W.typeIn K (.ref f3) = some (.type "function")) (xk_NoDivisor : PySem.W.keepIn K (.ref c_NoDivisor) = true)
    (xe_NoLong : excFn K c_NoLong f4 = true) (xs_NoLong : PySem.W.findIn K (.ref c_NoLong) "__setattr__" = some (some (.builtin "object.__setattr__"))) (xm_NoLong : PySem.W.mroIn K c_NoLong (.type "object") = some true) (xn_NoLong : PySem.W.findIn K (.ref c_NoLong) "found" = some none) (xf_NoLong : PySem.W.typeIn K (.ref f4) = some (.type "function")) (xk_NoLong : PySem.W.keepIn K (.ref c_NoLong) = true)
    (kf_if__NoWidth : PySem.W.isClsIn K c_NoWidth = true)
    (kf_tf_NoWidth : PySem.W.typeIn K (.ref c_NoWidth) = some (.type "type"))
    (kf_mf_NoWidth : PySem.W.mroIn K c_NoWidth (.ref c_NoWidth) = some true)
    (kf_wb_NoWidth : PySem.W.mroIn K c_NoWidth (.type "BaseException") = some true)
    (kf_ga_NoWidth : PySem.W.findIn K (.ref c_NoWidth) "__getattribute__" = some (some (.builtin "BaseException.__getattribute__")))
    (kf_gn_NoWidth : PySem.W.findIn K (.ref c_NoWidth) "__getattr__" = some none)
    (kf_gc_NoWidth : PySem.W.findIn K (.ref c_NoWidth) "__class__" = some (some (.builtin "object.__class__")))
    (kf_mo_NoWidth : PySem.W.mroIn K c_NoWidth (.type "object") = some true)
    (kf_mb_NoWidth : PySem.W.mroIn K c_NoWidth (.type "BaseException") = some true)
    (kf_hd_NoWidth : PySem.W.hasDictIn K c_NoWidth = true)
    (kf_nf_NoWidth : PySem.W.findIn K (.ref c_NoWidth) "found" = some none)
    (kf_mw_NoWidth : PySem.W.mroIn K c_NoWidth (.ref c_WiseError) = some true)
    (kf_mv_NoWidth : PySem.W.mroIn K c_NoWidth (.type "ValueError") = some true)
    (kf_m_NoWidth_NoWord : PySem.W.mroIn K c_NoWidth (.ref c_NoWord) = some false)
    (kf_m_NoWidth_NoDivisor : PySem.W.mroIn K c_NoWidth (.ref c_NoDivisor) = some false)
    (kf_m_NoWidth_NoLong : PySem.W.mroIn K c_NoWidth (.ref c_NoLong) = some false)
    (kf_m_NoWidth_Lesser : PySem.W.mroIn K c_NoWidth (.ref c_Lesser) = some false)
    (kf_m_NoWidth_NothingBy : PySem.W.mroIn K c_NoWidth (.ref c_NothingBy) = some false)
    (kf_if__NoWord : PySem.W.isClsIn K c_NoWord = true)
    (kf_tf_NoWord : PySem.W.typeIn K (.ref c_NoWord) = some (.type "type"))
    (kf_mf_NoWord : PySem.W.mroIn K c_NoWord (.ref c_NoWord) = some true)
    (kf_wb_NoWord : PySem.W.mroIn K c_NoWord (.type "BaseException") = some true)
    (kf_ga_NoWord : PySem.W.findIn K (.ref c_NoWord) "__getattribute__" = some (some (.builtin "BaseException.__getattribute__")))
    (kf_gn_NoWord : PySem.W.findIn K (.ref c_NoWord) "__getattr__" = some none)
    (kf_gc_NoWord : PySem.W.findIn K (.ref c_NoWord) "__class__" = some (some (.builtin "object.__class__")))
    (kf_mo_NoWord : PySem.W.mroIn K c_NoWord (.type "object") = some true)
    (kf_mb_NoWord : PySem.W.mroIn K c_NoWord (.type "BaseException") = some true)
    (kf_hd_NoWord : PySem.W.hasDictIn K c_NoWord = true)
    (kf_nf_NoWord : PySem.W.findIn K (.ref c_NoWord) "found" = some none)
    (kf_mw_NoWord : PySem.W.mroIn K c_NoWord (.ref c_WiseError) = some true)
    (kf_mv_NoWord : PySem.W.mroIn K c_NoWord (.type "ValueError") = some true)
    (kf_m_NoWord_NoWidth : PySem.W.mroIn K c_NoWord (.ref c_NoWidth) = some false)
    (kf_m_NoWord_NoDivisor : PySem.W.mroIn K c_NoWord (.ref c_NoDivisor) = some false)
    (kf_m_NoWord_NoLong : PySem.W.mroIn K c_NoWord (.ref c_NoLong) = some false)
    (kf_m_NoWord_Lesser : PySem.W.mroIn K c_NoWord (.ref c_Lesser) = some false)
    (kf_m_NoWord_NothingBy : PySem.W.mroIn K c_NoWord (.ref c_NothingBy) = some false)
    (kf_if__NoDivisor : PySem.W.isClsIn K c_NoDivisor = true)
    (kf_tf_NoDivisor : PySem.W.typeIn K (.ref c_NoDivisor) = some (.type "type"))
    (kf_mf_NoDivisor : PySem.W.mroIn K c_NoDivisor (.ref c_NoDivisor) = some true)
    (kf_wb_NoDivisor : PySem.W.mroIn K c_NoDivisor (.type "BaseException") = some true)
    (kf_ga_NoDivisor : PySem.W.findIn K (.ref c_NoDivisor) "__getattribute__" = some (some (.builtin "BaseException.__getattribute__")))
    (kf_gn_NoDivisor : PySem.W.findIn K (.ref c_NoDivisor) "__getattr__" = some none)
    (kf_gc_NoDivisor : PySem.W.findIn K (.ref c_NoDivisor) "__class__" = some (some (.builtin "object.__class__")))
    (kf_mo_NoDivisor : PySem.W.mroIn K c_NoDivisor (.type "object") = some true)
    (kf_mb_NoDivisor : PySem.W.mroIn K c_NoDivisor (.type "BaseException") = some true)
    (kf_hd_NoDivisor : PySem.W.hasDictIn K c_NoDivisor = true)
    (kf_nf_NoDivisor : PySem.W.findIn K (.ref c_NoDivisor) "found" = some none)
    (kf_mw_NoDivisor : PySem.W.mroIn K c_NoDivisor (.ref c_WiseError) = some true)
    (kf_mv_NoDivisor : PySem.W.mroIn K c_NoDivisor (.type "ValueError") = some true)
    (kf_m_NoDivisor_NoWidth : PySem.W.mroIn K c_NoDivisor (.ref c_NoWidth) = some false)
    (kf_m_NoDivisor_NoWord : PySem.W.mroIn K c_NoDivisor (.ref c_NoWord) = some false)
    (kf_m_NoDivisor_NoLong : PySem.W.mroIn K c_NoDivisor (.ref c_NoLong) = some false)
    (kf_m_NoDivisor_Lesser : PySem.W.mroIn K c_NoDivisor (.ref c_Lesser) = some false)
    (kf_m_NoDivisor_NothingBy : PySem.W.mroIn K c_NoDivisor (.ref c_NothingBy) = some false)
    (kf_if__NoLong : PySem.W.isClsIn K c_NoLong = true)
    (kf_tf_NoLong : PySem.W.typeIn K (.ref c_NoLong) = some (.type "type"))
    (kf_mf_NoLong : PySem.W.mroIn K c_NoLong (.ref c_NoLong) = some true)
    (kf_wb_NoLong : PySem.W.mroIn K c_NoLong (.type "BaseException") = some true)
    (kf_ga_NoLong : PySem.W.findIn K (.ref c_NoLong) "__getattribute__" = some (some (.builtin "BaseException.__getattribute__")))
    (kf_gn_NoLong : PySem.W.findIn K (.ref c_NoLong) "__getattr__" = some none)
    (kf_gc_NoLong : PySem.W.findIn K (.ref c_NoLong) "__class__" = some (some (.builtin "object.__class__")))
    (kf_mo_NoLong : PySem.W.mroIn K c_NoLong (.type "object") = some true)
    (kf_mb_NoLong : PySem.W.mroIn K c_NoLong (.type "BaseException") = some true)
    (kf_hd_NoLong : PySem.W.hasDictIn K c_NoLong = true)
    (kf_nf_NoLong : PySem.W.findIn K (.ref c_NoLong) "found" = some none)
    (kf_mw_NoLong : PySem.W.mroIn K c_NoLong (.ref c_WiseError) = some true)
    (kf_mv_NoLong : PySem.W.mroIn K c_NoLong (.type "ValueError") = some true)
    (kf_m_NoLong_NoWidth : PySem.W.mroIn K c_NoLong (.ref c_NoWidth) = some false)
    (kf_m_NoLong_NoWord : PySem.W.mroIn K c_NoLong (.ref c_NoWord) = some false)
    (kf_m_NoLong_NoDivisor : PySem.W.mroIn K c_NoLong (.ref c_NoDivisor) = some false)
    (kf_m_NoLong_Lesser : PySem.W.mroIn K c_NoLong (.ref c_Lesser) = some false)
    (kf_m_NoLong_NothingBy : PySem.W.mroIn K c_NoLong (.ref c_NothingBy) = some false)
    (kf_if__Lesser : PySem.W.isClsIn K c_Lesser = true)
    (kf_tf_Lesser : PySem.W.typeIn K (.ref c_Lesser) = some (.type "type"))
    (kf_mf_Lesser : PySem.W.mroIn K c_Lesser (.ref c_Lesser) = some true)
    (kf_wb_Lesser : PySem.W.mroIn K c_Lesser (.type "BaseException") = some true)
    (kf_ga_Lesser : PySem.W.findIn K (.ref c_Lesser) "__getattribute__" = some (some (.builtin "BaseException.__getattribute__")))
    (kf_gn_Lesser : PySem.W.findIn K (.ref c_Lesser) "__getattr__" = some none)
    (kf_gc_Lesser : PySem.W.findIn K (.ref c_Lesser) "__class__" = some (some (.builtin "object.__class__")))
    (kf_mo_Lesser : PySem.W.mroIn K c_Lesser (.type "object") = some true)
    (kf_mb_Lesser : PySem.W.mroIn K c_Lesser (.type "BaseException") = some true)
    (kf_mw_Lesser : PySem.W.mroIn K c_Lesser (.ref c_WiseError) = some true)
    (kf_mv_Lesser : PySem.W.mroIn K c_Lesser (.type "ValueError") = some true)
    (kf_m_Lesser_NoWidth : PySem.W.mroIn K c_Lesser (.ref c_NoWidth) = some false)
    (kf_m_Lesser_NoWord : PySem.W.mroIn K c_Lesser (.ref c_NoWord) = some false)
    (kf_m_Lesser_NoDivisor : PySem.W.mroIn K c_Lesser (.ref c_NoDivisor) = some false)
    (kf_m_Lesser_NoLong : PySem.W.mroIn K c_Lesser (.ref c_NoLong) = some false)
    (kf_m_Lesser_NothingBy : PySem.W.mroIn K c_Lesser (.ref c_NothingBy) = some false)
    (kf_if__NothingBy : PySem.W.isClsIn K c_NothingBy = true)
    (kf_tf_NothingBy : PySem.W.typeIn K (.ref c_NothingBy) = some (.type "type"))
    (kf_mf_NothingBy : PySem.W.mroIn K c_NothingBy (.ref c_NothingBy) = some true)
    (kf_wb_NothingBy : PySem.W.mroIn K c_NothingBy (.type "BaseException") = some true)
    (kf_ga_NothingBy : PySem.W.findIn K (.ref c_NothingBy) "__getattribute__" = some (some (.builtin "BaseException.__getattribute__")))
    (kf_gn_NothingBy : PySem.W.findIn K (.ref c_NothingBy) "__getattr__" = some none)
    (kf_gc_NothingBy : PySem.W.findIn K (.ref c_NothingBy) "__class__" = some (some (.builtin "object.__class__")))
    (kf_mo_NothingBy : PySem.W.mroIn K c_NothingBy (.type "object") = some true)
    (kf_mb_NothingBy : PySem.W.mroIn K c_NothingBy (.type "BaseException") = some true)
    (kf_mw_NothingBy : PySem.W.mroIn K c_NothingBy (.ref c_WiseError) = some true)
    (kf_mv_NothingBy : PySem.W.mroIn K c_NothingBy (.type "ValueError") = some true)
    (kf_m_NothingBy_NoWidth : PySem.W.mroIn K c_NothingBy (.ref c_NoWidth) = some false)
    (kf_m_NothingBy_NoWord : PySem.W.mroIn K c_NothingBy (.ref c_NoWord) = some false)
    (kf_m_NothingBy_NoDivisor : PySem.W.mroIn K c_NothingBy (.ref c_NoDivisor) = some false)
    (kf_m_NothingBy_NoLong : PySem.W.mroIn K c_NothingBy (.ref c_NoLong) = some false)
    (kf_m_NothingBy_Lesser : PySem.W.mroIn K c_NothingBy (.ref c_Lesser) = some false)
    (kf_exc_Lesser : PySem.W.excIn K c_Lesser [.type "ValueError", .type "Exception", .type "BaseException", .type "object"] "ValueError.__new__" = true)
    (kf_exc_NothingBy : PySem.W.excIn K c_NothingBy [.type "ValueError", .type "Exception", .type "BaseException", .type "object"] "ValueError.__new__" = true)
    (kf_if__WiseError : PySem.W.isClsIn K c_WiseError = true)
    (kf_tf_WiseError : PySem.W.typeIn K (.ref c_WiseError) = some (.type "type"))
    (kf_wb_WiseError : PySem.W.mroIn K c_WiseError (.type "BaseException") = some true)
    (z_isinstance : PySem.W.nsIn K mainGlobals "isinstance" = some none) (z_int : PySem.W.nsIn K mainGlobals "int" = some none) (z_bool : PySem.W.nsIn K mainGlobals "bool" = some none) (z_list : PySem.W.nsIn K mainGlobals "list" = some none) (z_len : PySem.W.nsIn K mainGlobals "len" = some none) (z_max : PySem.W.nsIn K mainGlobals "max" = some none) (z_min : PySem.W.nsIn K mainGlobals "min" = some none) (z_range : PySem.W.nsIn K mainGlobals "range" = some none) (z_all : PySem.W.nsIn K mainGlobals "all" = some none) (z_reversed : PySem.W.nsIn K mainGlobals "reversed" = some none) (z_repr : PySem.W.nsIn K mainGlobals "repr" = some none) (z_ValueError : PySem.W.nsIn K mainGlobals "ValueError" = some none) :
    ∃ fd : FuncData, (∀ (s : Shared) (v : Value), BindsTo s fd ⟨[v], []⟩ [("_law_script", v)]) ∧ ∀ base : Heap, K.In base → base.Ns mainGlobals mg → FnOk l.prog w K mg base CX0 13 fa fd ["_law_script"] ((spLaw K)) := by
  have e := hfa.symm.trans (PySem.W.mg_of X G a50)
  cases e
  have T : Txt K mg ⟨c_NoWidth, c_NoWord, c_NoDivisor, c_NoLong, c_Lesser, c_NothingBy, c_WiseError⟩ := ⟨PySem.W.mg_none_of X G z_isinstance, PySem.W.mg_none_of X G z_int, PySem.W.mg_none_of X G z_bool, PySem.W.mg_none_of X G z_list, PySem.W.mg_none_of X G z_len, PySem.W.mg_none_of X G z_max, PySem.W.mg_none_of X G z_min, PySem.W.mg_none_of X G z_range, PySem.W.mg_none_of X G z_all, PySem.W.mg_none_of X G z_reversed, PySem.W.mg_none_of X G z_repr, PySem.W.mg_none_of X G z_ValueError, PySem.W.mg_of X G aC_NoWidth, PySem.W.mg_of X G aC_NoWord, PySem.W.mg_of X G aC_NoDivisor, PySem.W.mg_of X G aC_NoLong, PySem.W.mg_of X G aC_Lesser, PySem.W.mg_of X G aC_NothingBy, PySem.W.mg_of X G aC_WiseError, kf_if__NoWidth, kf_tf_NoWidth, kf_mf_NoWidth, kf_wb_NoWidth, kf_ga_NoWidth, kf_gn_NoWidth, kf_gc_NoWidth, kf_mo_NoWidth, kf_mb_NoWidth, kf_hd_NoWidth, kf_nf_NoWidth, kf_mw_NoWidth, kf_mv_NoWidth, kf_m_NoWidth_NoWord, kf_m_NoWidth_NoDivisor, kf_m_NoWidth_NoLong, kf_m_NoWidth_Lesser, kf_m_NoWidth_NothingBy, kf_if__NoWord, kf_tf_NoWord, kf_mf_NoWord, kf_wb_NoWord, kf_ga_NoWord, kf_gn_NoWord, kf_gc_NoWord, kf_mo_NoWord, kf_mb_NoWord, kf_hd_NoWord, kf_nf_NoWord, kf_mw_NoWord, kf_mv_NoWord, kf_m_NoWord_NoWidth, kf_m_NoWord_NoDivisor, kf_m_NoWord_NoLong, kf_m_NoWord_Lesser, kf_m_NoWord_NothingBy, kf_if__NoDivisor, kf_tf_NoDivisor, kf_mf_NoDivisor, kf_wb_NoDivisor, kf_ga_NoDivisor, kf_gn_NoDivisor, kf_gc_NoDivisor, kf_mo_NoDivisor, kf_mb_NoDivisor, kf_hd_NoDivisor, kf_nf_NoDivisor, kf_mw_NoDivisor, kf_mv_NoDivisor, kf_m_NoDivisor_NoWidth, kf_m_NoDivisor_NoWord, kf_m_NoDivisor_NoLong, kf_m_NoDivisor_Lesser, kf_m_NoDivisor_NothingBy, kf_if__NoLong, kf_tf_NoLong, kf_mf_NoLong, kf_wb_NoLong, kf_ga_NoLong, kf_gn_NoLong, kf_gc_NoLong, kf_mo_NoLong, kf_mb_NoLong, kf_hd_NoLong, kf_nf_NoLong, kf_mw_NoLong, kf_mv_NoLong, kf_m_NoLong_NoWidth, kf_m_NoLong_NoWord, kf_m_NoLong_NoDivisor, kf_m_NoLong_Lesser, kf_m_NoLong_NothingBy, kf_if__Lesser, kf_tf_Lesser, kf_mf_Lesser, kf_wb_Lesser, kf_ga_Lesser, kf_gn_Lesser, kf_gc_Lesser, kf_mo_Lesser, kf_mb_Lesser, kf_mw_Lesser, kf_mv_Lesser, kf_m_Lesser_NoWidth, kf_m_Lesser_NoWord, kf_m_Lesser_NoDivisor, kf_m_Lesser_NoLong, kf_m_Lesser_NothingBy, kf_if__NothingBy, kf_tf_NothingBy, kf_mf_NothingBy, kf_wb_NothingBy, kf_ga_NothingBy, kf_gn_NothingBy, kf_gc_NothingBy, kf_mo_NothingBy, kf_mb_NothingBy, kf_mw_NothingBy, kf_mv_NothingBy, kf_m_NothingBy_NoWidth, kf_m_NothingBy_NoWord, kf_m_NothingBy_NoDivisor, kf_m_NothingBy_NoLong, kf_m_NothingBy_Lesser, kf_exc_Lesser, kf_exc_NothingBy, kf_if__WiseError, kf_tf_WiseError, kf_wb_WiseError⟩
  have F1 := fun_mk (st := s_NoWidth___init__) l1 c1 k1
  have b1 := F1.binds (ps := ["self", "found"]) fun _ _ _ _ _ _ us hl => match us, hl with | [_, _], _ => rfl
  have F2 := fun_mk (st := s_NoWord___init__) l2 c2 k2
  have b2 := F2.binds (ps := ["self", "found"]) fun _ _ _ _ _ _ us hl => match us, hl with | [_, _], _ => rfl
  have F3 := fun_mk (st := s_NoDivisor___init__) l3 c3 k3
  have b3 := F3.binds (ps := ["self", "found"]) fun _ _ _ _ _ _ us hl => match us, hl with | [_, _], _ => rfl
  have F4 := fun_mk (st := s_NoLong___init__) l4 c4 k4
  have b4 := F4.binds (ps := ["self", "found"]) fun _ _ _ _ _ _ us hl => match us, hl with | [_, _], _ => rfl
  have F5 := fun_mk (st := s_is_whole) l5 c5 k5
  have b5 := F5.binds (ps := ["thing"]) fun _ _ _ _ _ _ us hl => match us, hl with | [_], _ => rfl
  have F6 := fun_mk (st := s_is_between) l6 c6 k6
  have b6 := F6.binds (ps := ["thing", "low", "high"]) fun _ _ _ _ _ _ us hl => match us, hl with | [_, _, _], _ => rfl
  have F7 := fun_mk (st := s_need_width) l7 c7 k7
  have b7 := F7.binds (ps := ["width"]) fun _ _ _ _ _ _ us hl => match us, hl with | [_], _ => rfl
  have F8 := fun_mk (st := s_is_word) l8 c8 k8
  have b8 := F8.binds (ps := ["width", "thing"]) fun _ _ _ _ _ _ us hl => match us, hl with | [_, _], _ => rfl
  have F9 := fun_mk (st := s_has_long) l9 c9 k9
  have b9 := F9.binds (ps := ["width", "thing"]) fun _ _ _ _ _ _ us hl => match us, hl with | [_, _], _ => rfl
  have F10 := fun_mk (st := s_is_long) l10 c10 k10
  have b10 := F10.binds (ps := ["width", "thing"]) fun _ _ _ _ _ _ us hl => match us, hl with | [_, _], _ => rfl
  have F11 := fun_mk (st := s_need_long) l11 c11 k11
  have b11 := F11.binds (ps := ["width", "one"]) fun _ _ _ _ _ _ us hl => match us, hl with | [_, _], _ => rfl
  have F12 := fun_mk (st := s_need_longs) l12 c12 k12
  have b12 := F12.binds (ps := ["width", "one", "other"]) fun _ _ _ _ _ _ us hl => match us, hl with | [_, _, _], _ => rfl
  have F13 := fun_mk (st := s_long_of) l13 c13 k13
  have b13 := F13.binds (ps := ["width", "number"]) fun _ _ _ _ _ _ us hl => match us, hl with | [_, _], _ => rfl
  have F14 := fun_mk (st := s_number_of) l14 c14 k14
  have b14 := F14.binds (ps := ["width", "one"]) fun _ _ _ _ _ _ us hl => match us, hl with | [_, _], _ => rfl
  have F15 := fun_mk (st := s_long_sum) l15 c15 k15
  have b15 := F15.binds (ps := ["width", "one", "other"]) fun _ _ _ _ _ _ us hl => match us, hl with | [_, _, _], _ => rfl
  have F16 := fun_mk (st := s_carries) l16 c16 k16
  have b16 := F16.binds (ps := ["width", "one", "other"]) fun _ _ _ _ _ _ us hl => match us, hl with | [_, _, _], _ => rfl
  have F17 := fun_mk (st := s_need_gap) l17 c17 k17
  have b17 := F17.binds (ps := ["width", "one", "other"]) fun _ _ _ _ _ _ us hl => match us, hl with | [_, _, _], _ => rfl
  have F18 := fun_mk (st := s_long_gap) l18 c18 k18
  have b18 := F18.binds (ps := ["width", "one", "other"]) fun _ _ _ _ _ _ us hl => match us, hl with | [_, _, _], _ => rfl
  have F19 := fun_mk (st := s_borrows) l19 c19 k19
  have b19 := F19.binds (ps := ["width", "one", "other"]) fun _ _ _ _ _ _ us hl => match us, hl with | [_, _, _], _ => rfl
  have F20 := fun_mk (st := s_compared) l20 c20 k20
  have b20 := F20.binds (ps := ["one", "other"]) fun _ _ _ _ _ _ us hl => match us, hl with | [_, _], _ => rfl
  have F21 := fun_mk (st := s_long_compare) l21 c21 k21
  have b21 := F21.binds (ps := ["width", "one", "other"]) fun _ _ _ _ _ _ us hl => match us, hl with | [_, _, _], _ => rfl
  have F22 := fun_mk (st := s_times_word) l22 c22 k22
  have b22 := F22.binds (ps := ["width", "one", "word"]) fun _ _ _ _ _ _ us hl => match us, hl with | [_, _, _], _ => rfl
  have F23 := fun_mk (st := s_long_product) l23 c23 k23
  have b23 := F23.binds (ps := ["width", "one", "other"]) fun _ _ _ _ _ _ us hl => match us, hl with | [_, _, _], _ => rfl
  have F24 := fun_mk (st := s_long_left) l24 c24 k24
  have b24 := F24.binds (ps := ["width", "one", "many"]) fun _ _ _ _ _ _ us hl => match us, hl with | [_, _, _], _ => rfl
  have F25 := fun_mk (st := s_long_right) l25 c25 k25
  have b25 := F25.binds (ps := ["width", "one", "many"]) fun _ _ _ _ _ _ us hl => match us, hl with | [_, _, _], _ => rfl
  have F26 := fun_mk (st := s_turn_of) l26 c26 k26
  have b26 := F26.binds (ps := ["width", "bottom"]) fun _ _ _ _ _ _ us hl => match us, hl with | [_, _], _ => rfl
  have F27 := fun_mk (st := s_need_division) l27 c27 k27
  have b27 := F27.binds (ps := ["width", "top", "bottom"]) fun _ _ _ _ _ _ us hl => match us, hl with | [_, _, _], _ => rfl
  have F28 := fun_mk (st := s_steps_ahead) l28 c28 k28
  have b28 := F28.binds (ps := ["width", "top", "bottom"]) fun _ _ _ _ _ _ us hl => match us, hl with | [_, _, _], _ => rfl
  have F29 := fun_mk (st := s_bits_ahead) l29 c29 k29
  have b29 := F29.binds (ps := ["width", "top", "bottom"]) fun _ _ _ _ _ _ us hl => match us, hl with | [_, _, _], _ => rfl
  have F30 := fun_mk (st := s_need_guess) l30 c30 k30
  have b30 := F30.binds (ps := ["width", "high", "low", "word"]) fun _ _ _ _ _ _ us hl => match us, hl with | [_, _, _, _], _ => rfl
  have F31 := fun_mk (st := s_guess_rows) l31 c31 k31
  have b31 := F31.binds (ps := ["width", "high", "low", "word"]) fun _ _ _ _ _ _ us hl => match us, hl with | [_, _, _, _], _ => rfl
  have F32 := fun_mk (st := s_guess_of) l32 c32 k32
  have b32 := F32.binds (ps := ["width", "high", "low", "word"]) fun _ _ _ _ _ _ us hl => match us, hl with | [_, _, _, _], _ => rfl
  have F33 := fun_mk (st := s_long_divided) l33 c33 k33
  have b33 := F33.binds (ps := ["width", "top", "bottom"]) fun _ _ _ _ _ _ us hl => match us, hl with | [_, _, _], _ => rfl
  have F34 := fun_mk (st := s_is_division) l34 c34 k34
  have b34 := F34.binds (ps := ["width", "top", "bottom", "quotient", "rest", "rows"]) fun _ _ _ _ _ _ us hl => match us, hl with | [_, _, _, _, _, _], _ => rfl
  have F35 := fun_mk (st := s_worst) l35 c35 k35
  have b35 := F35.binds (ps := ["width"]) fun _ _ _ _ _ _ us hl => match us, hl with | [_], _ => rfl
  have F36 := fun_mk (st := s__law_drawn) l36 c36 k36
  have b36 := F36.binds (ps := ["_law_cell", "_law_sizes"]) fun _ _ _ _ _ _ us hl => match us, hl with | [_, _], _ => rfl
  have F37 := fun_mk (st := s__law_long) l37 c37 k37
  have b37 := F37.binds (ps := ["_law_draws", "_law_at", "_law_many", "_law_width"]) fun _ _ _ _ _ _ us hl => match us, hl with | [_, _, _, _], _ => rfl
  have F38 := fun_mk (st := s__law_one) l38 c38 k38
  have b38 := F38.binds (ps := ["_law_which", "_law_width", "_law_one_here"]) fun _ _ _ _ _ _ us hl => match us, hl with | [_, _, _], _ => rfl
  have F39 := fun_mk (st := s__law_two) l39 c39 k39
  have b39 := F39.binds (ps := ["_law_which", "_law_width", "_law_one_here", "_law_other"]) fun _ _ _ _ _ _ us hl => match us, hl with | [_, _, _, _], _ => rfl
  have F40 := fun_mk (st := s__law_else) l40 c40 k40
  have b40 := F40.binds (ps := ["_law_which", "_law_width", "_law_thing"]) fun _ _ _ _ _ _ us hl => match us, hl with | [_, _, _], _ => rfl
  have F41 := fun_mk (st := s__law_asked) l41 c41 k41
  have b41 := F41.binds (ps := ["_law_door", "_law_which", "_law_width", "_law_one_here", "_law_other"]) fun _ _ _ _ _ _ us hl => match us, hl with | [_, _, _, _, _], _ => rfl
  have F42 := fun_mk (st := s__law_named) l42 c42 k42
  have b42 := F42.binds (ps := ["_law_e"]) fun _ _ _ _ _ _ us hl => match us, hl with | [_], _ => rfl
  have F43 := fun_mk (st := s__law_refused) l43 c43 k43
  have b43 := F43.binds (ps := ["_law_ask", "_law_word", "_law_thing"]) fun _ _ _ _ _ _ us hl => match us, hl with | [_, _, _], _ => rfl
  have F44 := fun_mk (st := s__law_bad_long) l44 c44 k44
  have b44 := F44.binds (ps := ["_law_at", "_law_width"]) fun _ _ _ _ _ _ us hl => match us, hl with | [_, _], _ => rfl
  have F45 := fun_mk (st := s__law_bad_word) l45 c45 k45
  have b45 := F45.binds (ps := ["_law_at", "_law_width"]) fun _ _ _ _ _ _ us hl => match us, hl with | [_, _], _ => rfl
  have F46 := fun_mk (st := s__law_bad_width) l46 c46 k46
  have b46 := F46.binds (ps := ["_law_at"]) fun _ _ _ _ _ _ us hl => match us, hl with | [_], _ => rfl
  have F47 := fun_mk (st := s__law_longs) l47 c47 k47
  have b47 := F47.binds (ps := ["_law_width", "_law_bad", "_law_good", "_law_behind"]) fun _ _ _ _ _ _ us hl => match us, hl with | [_, _, _, _], _ => rfl
  have F48 := fun_mk (st := s__law_widths) l48 c48 k48
  have b48 := F48.binds (ps := ["_law_wide", "_law_bad", "_law_good"]) fun _ _ _ _ _ _ us hl => match us, hl with | [_, _, _], _ => rfl
  have F49 := fun_mk (st := s__law_words) l49 c49 k49
  have b49 := F49.binds (ps := ["_law_width", "_law_bad", "_law_number", "_law_low"]) fun _ _ _ _ _ _ us hl => match us, hl with | [_, _, _, _], _ => rfl
  have F50 := fun_mk (st := s_law) l50 c50 k50
  refine ⟨PySem.W.fnOf "law" "law" (defArgs s_law) (defBody s_law) (defScope s_law) .none kV50 dc50 pm50 an50 cd50 ct50, fun s v => .of_eq rfl, fun base _ _ => ?_⟩
  have Q_NoWidth : XCls K c_NoWidth f1 "found" := ⟨xe_NoWidth, xs_NoWidth, xm_NoWidth, xn_NoWidth, xf_NoWidth, xk_NoWidth⟩
  have X_NoWidth : XHas l.prog w K mg base 1 "NoWidth" c_NoWidth "found" := ⟨_, _, _, _, ok_NoWidth___init__ F1 T Q_NoWidth, b1, Q_NoWidth, PySem.W.mg_of X G aC_NoWidth⟩
  have Q_NoWord : XCls K c_NoWord f2 "found" := ⟨xe_NoWord, xs_NoWord, xm_NoWord, xn_NoWord, xf_NoWord, xk_NoWord⟩
  have X_NoWord : XHas l.prog w K mg base 1 "NoWord" c_NoWord "found" := ⟨_, _, _, _, ok_NoWord___init__ F2 T Q_NoWord, b2, Q_NoWord, PySem.W.mg_of X G aC_NoWord⟩
  have Q_NoDivisor : XCls K c_NoDivisor f3 "found" := ⟨xe_NoDivisor, xs_NoDivisor, xm_NoDivisor, xn_NoDivisor, xf_NoDivisor, xk_NoDivisor⟩
  have X_NoDivisor : XHas l.prog w K mg base 1 "NoDivisor" c_NoDivisor "found" := ⟨_, _, _, _, ok_NoDivisor___init__ F3 T Q_NoDivisor, b3, Q_NoDivisor, PySem.W.mg_of X G aC_NoDivisor⟩
  have Q_NoLong : XCls K c_NoLong f4 "found" := ⟨xe_NoLong, xs_NoLong, xm_NoLong, xn_NoLong, xf_NoLong, xk_NoLong⟩
  have X_NoLong : XHas l.prog w K mg base 1 "NoLong" c_NoLong "found" := ⟨_, _, _, _, ok_NoLong___init__ F4 T Q_NoLong, b4, Q_NoLong, PySem.W.mg_of X G aC_NoLong⟩
  have H__law_drawn : Has l.prog w K mg base 1 "_law_drawn" ["_law_cell", "_law_sizes"] spDrawn := ⟨_, _, ok__law_drawn F36 T , b36, k36, PySem.W.mg_of X G a36⟩
  have H__law_long : Has l.prog w K mg base 1 "_law_long" ["_law_draws", "_law_at", "_law_many", "_law_width"] spLLong := ⟨_, _, ok__law_long F37 T , b37, k37, PySem.W.mg_of X G a37⟩
  have H__law_bad_long : Has l.prog w K mg base 1 "_law_bad_long" ["_law_at", "_law_width"] spBadL := ⟨_, _, ok__law_bad_long F44 T , b44, k44, PySem.W.mg_of X G a44⟩
  have H_is_whole : Has l.prog w K mg base 1 "is_whole" ["thing"] spWholeG := ⟨_, _, ok_is_whole F5 T , b5, k5, PySem.W.mg_of X G a5⟩
  have H_is_between : Has l.prog w K mg base 2 "is_between" ["thing", "low", "high"] spBtwG := ⟨_, _, ok_is_between F6 T H_is_whole, b6, k6, PySem.W.mg_of X G a6⟩
  have H_need_width : HasY l.prog w K mg base 3 "need_width" ["width"] (spNW ⟨c_NoWidth, c_NoWord, c_NoDivisor, c_NoLong, c_Lesser, c_NothingBy, c_WiseError⟩) := ⟨_, _, ok_need_width F7 T H_is_between X_NoWidth, b7, k7, PySem.W.mg_of X G a7⟩
  have H_worst : HasY l.prog w K mg base 4 "worst" ["width"] (spWst ⟨c_NoWidth, c_NoWord, c_NoDivisor, c_NoLong, c_Lesser, c_NothingBy, c_WiseError⟩) := ⟨_, _, ok_worst F35 T H_need_width, b35, k35, PySem.W.mg_of X G a35⟩
  have H_long_of : HasY l.prog w K mg base 4 "long_of" ["width", "number"] (spLoD ⟨c_NoWidth, c_NoWord, c_NoDivisor, c_NoLong, c_Lesser, c_NothingBy, c_WiseError⟩) := ⟨_, _, ok_long_of F13 T H_need_width H_is_whole X_NoLong, b13, k13, PySem.W.mg_of X G a13⟩
  have H_is_word : Has l.prog w K mg base 3 "is_word" ["width", "thing"] spWordG := ⟨_, _, ok_is_word F8 T H_is_between, b8, k8, PySem.W.mg_of X G a8⟩
  have H_has_long : Has l.prog w K mg base 4 "has_long" ["width", "thing"] spHasO := ⟨_, _, ok_has_long F9 T H_is_word, b9, k9, PySem.W.mg_of X G a9⟩
  have H_need_long : HasY l.prog w K mg base 5 "need_long" ["width", "one"] (spNL ⟨c_NoWidth, c_NoWord, c_NoDivisor, c_NoLong, c_Lesser, c_NothingBy, c_WiseError⟩) := ⟨_, _, ok_need_long F11 T H_need_width H_has_long X_NoLong, b11, k11, PySem.W.mg_of X G a11⟩
  have H_times_word : HasY l.prog w K mg base 6 "times_word" ["width", "one", "word"] (spTwD ⟨c_NoWidth, c_NoWord, c_NoDivisor, c_NoLong, c_Lesser, c_NothingBy, c_WiseError⟩) := ⟨_, _, ok_times_word F22 T H_need_long H_is_word X_NoWord, b22, k22, PySem.W.mg_of X G a22⟩
  have H_need_guess : HasY l.prog w K mg base 4 "need_guess" ["width", "high", "low", "word"] (spGs ⟨c_NoWidth, c_NoWord, c_NoDivisor, c_NoLong, c_Lesser, c_NothingBy, c_WiseError⟩) := ⟨_, _, ok_need_guess F30 T H_need_width H_is_word X_NoWord X_NoDivisor, b30, k30, PySem.W.mg_of X G a30⟩
  have H_guess_rows : HasY l.prog w K mg base 5 "guess_rows" ["width", "high", "low", "word"] (spGs ⟨c_NoWidth, c_NoWord, c_NoDivisor, c_NoLong, c_Lesser, c_NothingBy, c_WiseError⟩) := ⟨_, _, ok_guess_rows F31 T H_need_guess, b31, k31, PySem.W.mg_of X G a31⟩
  have H_guess_of : HasY l.prog w K mg base 6 "guess_of" ["width", "high", "low", "word"] (spGs ⟨c_NoWidth, c_NoWord, c_NoDivisor, c_NoLong, c_Lesser, c_NothingBy, c_WiseError⟩) := ⟨_, _, ok_guess_of F32 T H_guess_rows, b32, k32, PySem.W.mg_of X G a32⟩
  have H_is_long : HasY l.prog w K mg base 5 "is_long" ["width", "thing"] (spIsL ⟨c_NoWidth, c_NoWord, c_NoDivisor, c_NoLong, c_Lesser, c_NothingBy, c_WiseError⟩) := ⟨_, _, ok_is_long F10 T H_need_width H_has_long, b10, k10, PySem.W.mg_of X G a10⟩
  have H__law_else : HasY l.prog w K mg base 7 "_law_else" ["_law_which", "_law_width", "_law_thing"] (spElse ⟨c_NoWidth, c_NoWord, c_NoDivisor, c_NoLong, c_Lesser, c_NothingBy, c_WiseError⟩) := ⟨_, _, ok__law_else F40 T H_worst H_long_of H_times_word H_guess_of H_guess_rows H_is_long, b40, k40, PySem.W.mg_of X G a40⟩
  have H_need_longs : HasY l.prog w K mg base 6 "need_longs" ["width", "one", "other"] (spNLs ⟨c_NoWidth, c_NoWord, c_NoDivisor, c_NoLong, c_Lesser, c_NothingBy, c_WiseError⟩) := ⟨_, _, ok_need_longs F12 T H_need_long, b12, k12, PySem.W.mg_of X G a12⟩
  have H_need_division : HasY l.prog w K mg base 7 "need_division" ["width", "top", "bottom"] (spDv ⟨c_NoWidth, c_NoWord, c_NoDivisor, c_NoLong, c_Lesser, c_NothingBy, c_WiseError⟩) := ⟨_, _, ok_need_division F27 T H_need_longs, b27, k27, PySem.W.mg_of X G a27⟩
  have H_is_division : HasY l.prog w K mg base 8 "is_division" ["width", "top", "bottom", "quotient", "rest", "rows"] (spDv6 ⟨c_NoWidth, c_NoWord, c_NoDivisor, c_NoLong, c_Lesser, c_NothingBy, c_WiseError⟩) := ⟨_, _, ok_is_division F34 T H_need_division, b34, k34, PySem.W.mg_of X G a34⟩
  have H_number_of : HasY l.prog w K mg base 6 "number_of" ["width", "one"] (spD1 ⟨c_NoWidth, c_NoWord, c_NoDivisor, c_NoLong, c_Lesser, c_NothingBy, c_WiseError⟩) := ⟨_, _, ok_number_of F14 T H_need_long, b14, k14, PySem.W.mg_of X G a14⟩
  have H_long_left : HasY l.prog w K mg base 6 "long_left" ["width", "one", "many"] (spD1k ⟨c_NoWidth, c_NoWord, c_NoDivisor, c_NoLong, c_Lesser, c_NothingBy, c_WiseError⟩) := ⟨_, _, ok_long_left F24 T H_need_long, b24, k24, PySem.W.mg_of X G a24⟩
  have H_long_right : HasY l.prog w K mg base 6 "long_right" ["width", "one", "many"] (spD1k ⟨c_NoWidth, c_NoWord, c_NoDivisor, c_NoLong, c_Lesser, c_NothingBy, c_WiseError⟩) := ⟨_, _, ok_long_right F25 T H_need_long, b25, k25, PySem.W.mg_of X G a25⟩
  have H_turn_of : HasY l.prog w K mg base 6 "turn_of" ["width", "bottom"] (spTurn ⟨c_NoWidth, c_NoWord, c_NoDivisor, c_NoLong, c_Lesser, c_NothingBy, c_WiseError⟩) := ⟨_, _, ok_turn_of F26 T H_need_long, b26, k26, PySem.W.mg_of X G a26⟩
  have H__law_one : HasY l.prog w K mg base 9 "_law_one" ["_law_which", "_law_width", "_law_one_here"] (spOne ⟨c_NoWidth, c_NoWord, c_NoDivisor, c_NoLong, c_Lesser, c_NothingBy, c_WiseError⟩) := ⟨_, _, ok__law_one F38 T H_is_division H_number_of H_long_left H_long_right H_turn_of H_times_word, b38, k38, PySem.W.mg_of X G a38⟩
  have H_long_sum : HasY l.prog w K mg base 7 "long_sum" ["width", "one", "other"] (spD2 ⟨c_NoWidth, c_NoWord, c_NoDivisor, c_NoLong, c_Lesser, c_NothingBy, c_WiseError⟩) := ⟨_, _, ok_long_sum F15 T H_need_longs, b15, k15, PySem.W.mg_of X G a15⟩
  have H_carries : HasY l.prog w K mg base 7 "carries" ["width", "one", "other"] (spD2 ⟨c_NoWidth, c_NoWord, c_NoDivisor, c_NoLong, c_Lesser, c_NothingBy, c_WiseError⟩) := ⟨_, _, ok_carries F16 T H_need_longs, b16, k16, PySem.W.mg_of X G a16⟩
  have H_compared : Has l.prog w K mg base 1 "compared" ["one", "other"] spCmp8 := ⟨_, _, ok_compared F20 T , b20, k20, PySem.W.mg_of X G a20⟩
  have H_need_gap : HasY l.prog w K mg base 7 "need_gap" ["width", "one", "other"] (spGp ⟨c_NoWidth, c_NoWord, c_NoDivisor, c_NoLong, c_Lesser, c_NothingBy, c_WiseError⟩) := ⟨_, _, ok_need_gap F17 T H_need_longs H_compared, b17, k17, PySem.W.mg_of X G a17⟩
  have H_long_gap : HasY l.prog w K mg base 8 "long_gap" ["width", "one", "other"] (spGp ⟨c_NoWidth, c_NoWord, c_NoDivisor, c_NoLong, c_Lesser, c_NothingBy, c_WiseError⟩) := ⟨_, _, ok_long_gap F18 T H_need_gap, b18, k18, PySem.W.mg_of X G a18⟩
  have H_borrows : HasY l.prog w K mg base 8 "borrows" ["width", "one", "other"] (spGp ⟨c_NoWidth, c_NoWord, c_NoDivisor, c_NoLong, c_Lesser, c_NothingBy, c_WiseError⟩) := ⟨_, _, ok_borrows F19 T H_need_gap, b19, k19, PySem.W.mg_of X G a19⟩
  have H_long_compare : HasY l.prog w K mg base 7 "long_compare" ["width", "one", "other"] (spLC8 ⟨c_NoWidth, c_NoWord, c_NoDivisor, c_NoLong, c_Lesser, c_NothingBy, c_WiseError⟩) := ⟨_, _, ok_long_compare F21 T H_need_longs H_compared, b21, k21, PySem.W.mg_of X G a21⟩
  have H_long_product : HasY l.prog w K mg base 7 "long_product" ["width", "one", "other"] (spD2 ⟨c_NoWidth, c_NoWord, c_NoDivisor, c_NoLong, c_Lesser, c_NothingBy, c_WiseError⟩) := ⟨_, _, ok_long_product F23 T H_need_longs, b23, k23, PySem.W.mg_of X G a23⟩
  have H_steps_ahead : HasY l.prog w K mg base 8 "steps_ahead" ["width", "top", "bottom"] (spDv ⟨c_NoWidth, c_NoWord, c_NoDivisor, c_NoLong, c_Lesser, c_NothingBy, c_WiseError⟩) := ⟨_, _, ok_steps_ahead F28 T H_need_division, b28, k28, PySem.W.mg_of X G a28⟩
  have H_bits_ahead : HasY l.prog w K mg base 8 "bits_ahead" ["width", "top", "bottom"] (spDv ⟨c_NoWidth, c_NoWord, c_NoDivisor, c_NoLong, c_Lesser, c_NothingBy, c_WiseError⟩) := ⟨_, _, ok_bits_ahead F29 T H_need_division, b29, k29, PySem.W.mg_of X G a29⟩
  have H_long_divided : HasY l.prog w K mg base 8 "long_divided" ["width", "top", "bottom"] (spDv ⟨c_NoWidth, c_NoWord, c_NoDivisor, c_NoLong, c_Lesser, c_NothingBy, c_WiseError⟩) := ⟨_, _, ok_long_divided F33 T H_need_division, b33, k33, PySem.W.mg_of X G a33⟩
  have H__law_two : HasY l.prog w K mg base 9 "_law_two" ["_law_which", "_law_width", "_law_one_here", "_law_other"] (spTwo ⟨c_NoWidth, c_NoWord, c_NoDivisor, c_NoLong, c_Lesser, c_NothingBy, c_WiseError⟩) := ⟨_, _, ok__law_two F39 T H_is_division H_long_sum H_carries H_long_gap H_borrows H_long_compare H_long_product H_steps_ahead H_bits_ahead H_long_divided, b39, k39, PySem.W.mg_of X G a39⟩
  have H__law_asked : HasY l.prog w K mg base 10 "_law_asked" ["_law_door", "_law_which", "_law_width", "_law_one_here", "_law_other"] (spAsk ⟨c_NoWidth, c_NoWord, c_NoDivisor, c_NoLong, c_Lesser, c_NothingBy, c_WiseError⟩) := ⟨_, _, ok__law_asked F41 T H__law_else H__law_one H__law_two, b41, k41, PySem.W.mg_of X G a41⟩
  have H__law_named : HasE l.prog w K mg base 1 "_law_named" ["_law_e"] (spNamed ⟨c_NoWidth, c_NoWord, c_NoDivisor, c_NoLong, c_Lesser, c_NothingBy, c_WiseError⟩) := ⟨_, _, fun _ _ => ok__law_named F42 T , b42, k42, PySem.W.mg_of X G a42⟩
  have H__law_refused : Has l.prog w K mg base 11 "_law_refused" ["_law_ask", "_law_word", "_law_thing"] (spRef ⟨c_NoWidth, c_NoWord, c_NoDivisor, c_NoLong, c_Lesser, c_NothingBy, c_WiseError⟩) := ⟨_, _, ok__law_refused F43 T H__law_asked H__law_named, b43, k43, PySem.W.mg_of X G a43⟩
  have H__law_longs : Has l.prog w K mg base 12 "_law_longs" ["_law_width", "_law_bad", "_law_good", "_law_behind"] spLongs := ⟨_, _, ok__law_longs F47 T H__law_refused, b47, k47, PySem.W.mg_of X G a47⟩
  have H__law_widths : Has l.prog w K mg base 12 "_law_widths" ["_law_wide", "_law_bad", "_law_good"] spWidths := ⟨_, _, ok__law_widths F48 T H__law_refused, b48, k48, PySem.W.mg_of X G a48⟩
  have H__law_words : Has l.prog w K mg base 12 "_law_words" ["_law_width", "_law_bad", "_law_number", "_law_low"] spWordsL := ⟨_, _, ok__law_words F49 T H__law_refused, b49, k49, PySem.W.mg_of X G a49⟩
  have H__law_bad_width : Has l.prog w K mg base 1 "_law_bad_width" ["_law_at"] spBadWi := ⟨_, _, ok__law_bad_width F46 T , b46, k46, PySem.W.mg_of X G a46⟩
  have H__law_bad_word : Has l.prog w K mg base 1 "_law_bad_word" ["_law_at", "_law_width"] spBadWd := ⟨_, _, ok__law_bad_word F45 T , b45, k45, PySem.W.mg_of X G a45⟩
  exact ok_law F50 T H__law_drawn H__law_long H__law_bad_long H__law_longs H__law_widths H__law_words H__law_bad_width H__law_bad_word H_is_long H_long_compare
theorem walk {l : PySem.W.OpenLaw} {q : Program} {loose : List Str} {XP : (Str → Option Value) → Heap → Prop} {YP : World → Heap → Prop} {d : DefRec} {K : Params → PySem.W.Frag} (hn : l.most = some 63) (hdf : d.params.defaults = [])
    (hY : ∀ (w : World) (h : Heap), YP w h → (K w.params).In h)
    (F : ∀ (w : World) (mg : Str → Option Value) (fa : Addr) (h : Heap), (K w.params).In h → h.Ns mainGlobals mg → mg d.name = some (.ref fa) →
      ∃ fd : FuncData, (∀ (s : Shared) (u : Value), BindsTo s fd ⟨[u], []⟩ [("_law_script", u)]) ∧ ∀ base : Heap, (K w.params).In base → base.Ns mainGlobals mg → FnOk l.prog w (K w.params) mg base CX0 13 fa fd ["_law_script"] (spLaw (K w.params))) :
    PySem.W.WalkO q loose XP YP l.row.toRowW d [] (fun f vs => PySem.call f vs) :=
  L2.walk_of (n := 63) (k := 13) (x := "_law_script") (CX := fun _ => CX0) (sp := fun w => spLaw (K w.params)) hn (by decide) hdf ⟨rfl, by decide, by decide, rfl⟩ hY F (fun _ _ a ns hl _ hS => ⟨a, ns, rfl, hS, hl, fun _ => rfl⟩) fun _ _ _ _ _ z => z
end Ow
open PySem PySem.W PyProof.Rows
def PySem.W.Fast.tw6792992108123598932 : Nat := 0
def PySem.W.Fast.tw10662465315753562101 : Nat := 0
def PySem.W.Fast.tw15835464289367207872 : Nat := 0
def PySem.W.Fast.tw14293134304938387902 : Nat := 0
def PySem.W.Fast.tw876171939413581336 : Nat := 0
def PySem.W.Fast.tw7753662973922339636 : Nat := 0
def PySem.W.Fast.tw10780996755950687384 : Nat := 0
def PySem.W.Fast.tw16564249325122482567 : Nat := 0
def PySem.W.Fast.tw9580772630606115748 : Nat := 0
def PySem.W.Fast.tw4743145800494690635 : Nat := 0
def PySem.W.Fast.tw15033700029039322858 : Nat := 0
def PySem.W.Fast.tw696325086078150449 : Nat := 0
def PySem.W.Fast.tw4123855620667194124 : Nat := 0
def PySem.W.Fast.tw13343908423906976577 : Nat := 0
def PySem.W.Fast.tw6086934765142965439 : Nat := 0
def PySem.W.Fast.tw18218331073252732407 : Nat := 0
def PySem.W.Fast.tw10454537858214319481 : Nat := 0
def PySem.W.Fast.tw931990820124201498 : Nat := 0
def PySem.W.Fast.tw878869707801332350 : Nat := 0
def PySem.W.Fast.tw12879323703445662063 : Nat := 0
def PySem.W.Fast.tw10526897326206483395 : Nat := 0
def PySem.W.Fast.tw8424997625195227730 : Nat := 0
def PySem.W.Fast.tw11285011121959811327 : Nat := 0
def PySem.W.Fast.tw18359514063148018951 : Nat := 0
def PySem.W.Fast.tw6145390287141393 : Nat := 0
def PySem.W.Fast.tw3953027123769926599 : Nat := 0
def PySem.W.Fast.tw2885249872600261700 : Nat := 0
def PySem.W.Fast.tw14842665621438283437 : Nat := 0
def PySem.W.Fast.tw7511345217705016758 : Nat := 0
def PySem.W.Fast.tw8390244494338791055 : Nat := 0
set_option maxRecDepth 100000 in
set_option maxHeartbeats 0 in
theorem PySem.Challenge.cw_overwise_k58_refused_everywhere_holds : PySem.Challenge.rw_overwise_k58_refused_everywhere.Holds := by
  w_on; o_law; k_head; (case hw => w_witness2)
  k_fill
  refine Ow.walk (l := PySem.Challenge.rw_overwise_k58_refused_everywhere) rfl rfl (fun w h Y => PySem.W.kIn_of Y) ?F
  case F =>
    intro w mg fa h KX G hmg
    refine' Ow.all_mk KX G hmg ?a1 ?i1 ?l1 ?c1 ?k1 ?a2 ?i2 ?l2 ?c2 ?k2 ?a3 ?i3 ?l3 ?c3 ?k3 ?a4 ?i4 ?l4 ?c4 ?k4 ?a5 ?l5 ?c5 ?k5 ?a6 ?l6 ?c6 ?k6 ?a7 ?l7 ?c7 ?k7 ?a8 ?l8 ?c8 ?k8 ?a9 ?l9 ?c9 ?k9 ?a10 ?l10 ?c10 ?k10 ?a11 ?l11 ?c11 ?k11 ?a12 ?l12 ?c12 ?k12 ?a13 ?l13 ?c13 ?k13 ?a14 ?l14 ?c14 ?k14 ?a15 ?l15 ?c15 ?k15 ?a16 ?l16 ?c16 ?k16 ?a17 ?l17 ?c17 ?k17 ?a18 ?l18 ?c18 ?k18 ?a19 ?l19 ?c19 ?k19 ?a20 ?l20 ?c20 ?k20 ?a21 ?l21 ?c21 ?k21 ?a22 ?l22 ?c22 ?k22 ?a23 ?l23 ?c23 ?k23 ?a24 ?l24 ?c24 ?k24 ?a25 ?l25 ?c25 ?k25 ?a26 ?l26 ?c26 ?k26 ?a27 ?l27 ?c27 ?k27 ?a28 ?l28 ?c28 ?k28 ?a29 ?l29 ?c29 ?k29 ?a30 ?l30 ?c30 ?k30 ?a31 ?l31 ?c31 ?k31 ?a32 ?l32 ?c32 ?k32 ?a33 ?l33 ?c33 ?k33 ?a34 ?l34 ?c34 ?k34 ?a35 ?l35 ?c35 ?k35 ?a36 ?l36 ?c36 ?k36 ?a37 ?l37 ?c37 ?k37 ?a38 ?l38 ?c38 ?k38 ?a39 ?l39 ?c39 ?k39 ?a40 ?l40 ?c40 ?k40 ?a41 ?l41 ?c41 ?k41 ?a42 ?l42 ?c42 ?k42 ?a43 ?l43 ?c43 ?k43 ?a44 ?l44 ?c44 ?k44 ?a45 ?l45 ?c45 ?k45 ?a46 ?l46 ?c46 ?k46 ?a47 ?l47 ?c47 ?k47 ?a48 ?l48 ?c48 ?k48 ?a49 ?l49 ?c49 ?k49 ?a50 ?l50 ?c50 ?k50  ?aC_NoWidth ?aC_NoWord ?aC_NoDivisor ?aC_NoLong ?aC_Lesser ?aC_NothingBy ?aC_WiseError ?xe_NoWidth ?xs_NoWidth ?xm_NoWidth ?xn_NoWidth ?xf_NoWidth ?xk_NoWidth ?xe_NoWord ?xs_NoWord ?xm_NoWord ?xn_NoWord ?xf_NoWord ?xk_NoWord ?xe_NoDivisor ?xs_NoDivisor ?xm_NoDivisor ?xn_NoDivisor ?xf_NoDivisor ?xk_NoDivisor ?xe_NoLong ?xs_NoLong ?xm_NoLong ?xn_NoLong ?xf_NoLong ?xk_NoLong   ?kf_if__NoWidth ?kf_tf_NoWidth ?kf_mf_NoWidth ?kf_wb_NoWidth ?kf_ga_NoWidth ?kf_gn_NoWidth ?kf_gc_NoWidth ?kf_mo_NoWidth ?kf_mb_NoWidth ?kf_hd_NoWidth ?kf_nf_NoWidth ?kf_mw_NoWidth ?kf_mv_NoWidth ?kf_m_NoWidth_NoWord ?kf_m_NoWidth_NoDivisor ?kf_m_NoWidth_NoLong ?kf_m_NoWidth_Lesser ?kf_m_NoWidth_NothingBy ?kf_if__NoWord ?kf_tf_NoWord ?kf_mf_NoWord ?kf_wb_NoWord ?kf_ga_NoWord ?kf_gn_NoWord ?kf_gc_NoWord ?kf_mo_NoWord ?kf_mb_NoWord ?kf_hd_NoWord ?kf_nf_NoWord ?kf_mw_NoWord ?kf_mv_NoWord ?kf_m_NoWord_NoWidth ?kf_m_NoWord_NoDivisor ?kf_m_NoWord_NoLong ?kf_m_NoWord_Lesser ?kf_m_NoWord_NothingBy ?kf_if__NoDivisor ?kf_tf_NoDivisor ?kf_mf_NoDivisor ?kf_wb_NoDivisor ?kf_ga_NoDivisor ?kf_gn_NoDivisor ?kf_gc_NoDivisor ?kf_mo_NoDivisor ?kf_mb_NoDivisor ?kf_hd_NoDivisor ?kf_nf_NoDivisor ?kf_mw_NoDivisor ?kf_mv_NoDivisor ?kf_m_NoDivisor_NoWidth ?kf_m_NoDivisor_NoWord ?kf_m_NoDivisor_NoLong ?kf_m_NoDivisor_Lesser ?kf_m_NoDivisor_NothingBy ?kf_if__NoLong ?kf_tf_NoLong ?kf_mf_NoLong ?kf_wb_NoLong ?kf_ga_NoLong ?kf_gn_NoLong ?kf_gc_NoLong ?kf_mo_NoLong ?kf_mb_NoLong ?kf_hd_NoLong ?kf_nf_NoLong ?kf_mw_NoLong ?kf_mv_NoLong ?kf_m_NoLong_NoWidth ?kf_m_NoLong_NoWord ?kf_m_NoLong_NoDivisor ?kf_m_NoLong_Lesser ?kf_m_NoLong_NothingBy ?kf_if__Lesser ?kf_tf_Lesser ?kf_mf_Lesser ?kf_wb_Lesser ?kf_ga_Lesser ?kf_gn_Lesser ?kf_gc_Lesser ?kf_mo_Lesser ?kf_mb_Lesser ?kf_mw_Lesser ?kf_mv_Lesser ?kf_m_Lesser_NoWidth ?kf_m_Lesser_NoWord ?kf_m_Lesser_NoDivisor ?kf_m_Lesser_NoLong ?kf_m_Lesser_NothingBy ?kf_if__NothingBy ?kf_tf_NothingBy ?kf_mf_NothingBy ?kf_wb_NothingBy ?kf_ga_NothingBy ?kf_gn_NothingBy ?kf_gc_NothingBy ?kf_mo_NothingBy ?kf_mb_NothingBy ?kf_mw_NothingBy ?kf_mv_NothingBy ?kf_m_NothingBy_NoWidth ?kf_m_NothingBy_NoWord ?kf_m_NothingBy_NoDivisor ?kf_m_NothingBy_NoLong ?kf_m_NothingBy_Lesser ?kf_exc_Lesser ?kf_exc_NothingBy ?kf_if__WiseError ?kf_tf_WiseError ?kf_wb_WiseError ?z_isinstance ?z_int ?z_bool ?z_list ?z_len ?z_max ?z_min ?z_range ?z_all ?z_reversed ?z_repr ?z_ValueError
    (case aC_NoWidth => k_is)
    (case aC_NoWord => k_is)
    (case aC_NoDivisor => k_is)
    (case aC_NoLong => k_is)
    (case aC_Lesser => k_is)
    (case aC_NothingBy => k_is)
    (case aC_WiseError => k_is)
    (case a1 => k_is); (case i1 => k_is); (case l1 => k_is); (case c1 => k_is); (case k1 => k_is)
    (case a2 => k_is); (case i2 => k_is); (case l2 => k_is); (case c2 => k_is); (case k2 => k_is)
    (case a3 => k_is); (case i3 => k_is); (case l3 => k_is); (case c3 => k_is); (case k3 => k_is)
    (case a4 => k_is); (case i4 => k_is); (case l4 => k_is); (case c4 => k_is); (case k4 => k_is)
    (case a5 => k_is); (case l5 => k_is); (case c5 => k_is); (case k5 => k_is)
    (case a6 => k_is); (case l6 => k_is); (case c6 => k_is); (case k6 => k_is)
    (case a7 => k_is); (case l7 => k_is); (case c7 => k_is); (case k7 => k_is)
    (case a8 => k_is); (case l8 => k_is); (case c8 => k_is); (case k8 => k_is)
    (case a9 => k_is); (case l9 => k_is); (case c9 => k_is); (case k9 => k_is)
    (case a10 => k_is); (case l10 => k_is); (case c10 => k_is); (case k10 => k_is)
    (case a11 => k_is); (case l11 => k_is); (case c11 => k_is); (case k11 => k_is)
    (case a12 => k_is); (case l12 => k_is); (case c12 => k_is); (case k12 => k_is)
    (case a13 => k_is); (case l13 => k_is); (case c13 => k_is); (case k13 => k_is)
    (case a14 => k_is); (case l14 => k_is); (case c14 => k_is); (case k14 => k_is)
    (case a15 => k_is); (case l15 => k_is); (case c15 => k_is); (case k15 => k_is)
    (case a16 => k_is); (case l16 => k_is); (case c16 => k_is); (case k16 => k_is)
    (case a17 => k_is); (case l17 => k_is); (case c17 => k_is); (case k17 => k_is)
    (case a18 => k_is); (case l18 => k_is); (case c18 => k_is); (case k18 => k_is)
    (case a19 => k_is); (case l19 => k_is); (case c19 => k_is); (case k19 => k_is)
    (case a20 => k_is); (case l20 => k_is); (case c20 => k_is); (case k20 => k_is)
    (case a21 => k_is); (case l21 => k_is); (case c21 => k_is); (case k21 => k_is)
    (case a22 => k_is); (case l22 => k_is); (case c22 => k_is); (case k22 => k_is)
    (case a23 => k_is); (case l23 => k_is); (case c23 => k_is); (case k23 => k_is)
    (case a24 => k_is); (case l24 => k_is); (case c24 => k_is); (case k24 => k_is)
    (case a25 => k_is); (case l25 => k_is); (case c25 => k_is); (case k25 => k_is)
    (case a26 => k_is); (case l26 => k_is); (case c26 => k_is); (case k26 => k_is)
    (case a27 => k_is); (case l27 => k_is); (case c27 => k_is); (case k27 => k_is)
    (case a28 => k_is); (case l28 => k_is); (case c28 => k_is); (case k28 => k_is)
    (case a29 => k_is); (case l29 => k_is); (case c29 => k_is); (case k29 => k_is)
    (case a30 => k_is); (case l30 => k_is); (case c30 => k_is); (case k30 => k_is)
    (case a31 => k_is); (case l31 => k_is); (case c31 => k_is); (case k31 => k_is)
    (case a32 => k_is); (case l32 => k_is); (case c32 => k_is); (case k32 => k_is)
    (case a33 => k_is); (case l33 => k_is); (case c33 => k_is); (case k33 => k_is)
    (case a34 => k_is); (case l34 => k_is); (case c34 => k_is); (case k34 => k_is)
    (case a35 => k_is); (case l35 => k_is); (case c35 => k_is); (case k35 => k_is)
    (case a36 => k_is); (case l36 => k_is); (case c36 => k_is); (case k36 => k_is)
    (case a37 => k_is); (case l37 => k_is); (case c37 => k_is); (case k37 => k_is)
    (case a38 => k_is); (case l38 => k_is); (case c38 => k_is); (case k38 => k_is)
    (case a39 => k_is); (case l39 => k_is); (case c39 => k_is); (case k39 => k_is)
    (case a40 => k_is); (case l40 => k_is); (case c40 => k_is); (case k40 => k_is)
    (case a41 => k_is); (case l41 => k_is); (case c41 => k_is); (case k41 => k_is)
    (case a42 => k_is); (case l42 => k_is); (case c42 => k_is); (case k42 => k_is)
    (case a43 => k_is); (case l43 => k_is); (case c43 => k_is); (case k43 => k_is)
    (case a44 => k_is); (case l44 => k_is); (case c44 => k_is); (case k44 => k_is)
    (case a45 => k_is); (case l45 => k_is); (case c45 => k_is); (case k45 => k_is)
    (case a46 => k_is); (case l46 => k_is); (case c46 => k_is); (case k46 => k_is)
    (case a47 => k_is); (case l47 => k_is); (case c47 => k_is); (case k47 => k_is)
    (case a48 => k_is); (case l48 => k_is); (case c48 => k_is); (case k48 => k_is)
    (case a49 => k_is); (case l49 => k_is); (case c49 => k_is); (case k49 => k_is)
    (case a50 => k_is); (case l50 => k_is); (case c50 => k_is); (case k50 => k_is)
    (case xe_NoWidth => kernel_rfl); (case xs_NoWidth => k_is); (case xm_NoWidth => k_is); (case xn_NoWidth => k_is); (case xf_NoWidth => k_is); (case xk_NoWidth => k_is)
    (case xe_NoWord => kernel_rfl); (case xs_NoWord => k_is); (case xm_NoWord => k_is); (case xn_NoWord => k_is); (case xf_NoWord => k_is); (case xk_NoWord => k_is)
    (case xe_NoDivisor => kernel_rfl); (case xs_NoDivisor => k_is); (case xm_NoDivisor => k_is); (case xn_NoDivisor => k_is); (case xf_NoDivisor => k_is); (case xk_NoDivisor => k_is)
    (case xe_NoLong => kernel_rfl); (case xs_NoLong => k_is); (case xm_NoLong => k_is); (case xn_NoLong => k_is); (case xf_NoLong => k_is); (case xk_NoLong => k_is)
    (case kf_if__NoWidth => k_is)
    (case kf_tf_NoWidth => k_is)
    (case kf_mf_NoWidth => k_is)
    (case kf_wb_NoWidth => k_is)
    (case kf_ga_NoWidth => k_is)
    (case kf_gn_NoWidth => k_is)
    (case kf_gc_NoWidth => k_is)
    (case kf_mo_NoWidth => k_is)
    (case kf_mb_NoWidth => k_is)
    (case kf_hd_NoWidth => k_is)
    (case kf_nf_NoWidth => k_is)
    (case kf_mw_NoWidth => k_is)
    (case kf_mv_NoWidth => k_is)
    (case kf_m_NoWidth_NoWord => k_is)
    (case kf_m_NoWidth_NoDivisor => k_is)
    (case kf_m_NoWidth_NoLong => k_is)
    (case kf_m_NoWidth_Lesser => k_is)
    (case kf_m_NoWidth_NothingBy => k_is)
    (case kf_if__NoWord => k_is)
    (case kf_tf_NoWord => k_is)
    (case kf_mf_NoWord => k_is)
    (case kf_wb_NoWord => k_is)
    (case kf_ga_NoWord => k_is)
    (case kf_gn_NoWord => k_is)
    (case kf_gc_NoWord => k_is)
    (case kf_mo_NoWord => k_is)
    (case kf_mb_NoWord => k_is)
    (case kf_hd_NoWord => k_is)
    (case kf_nf_NoWord => k_is)
    (case kf_mw_NoWord => k_is)
    (case kf_mv_NoWord => k_is)
    (case kf_m_NoWord_NoWidth => k_is)
    (case kf_m_NoWord_NoDivisor => k_is)
    (case kf_m_NoWord_NoLong => k_is)
    (case kf_m_NoWord_Lesser => k_is)
    (case kf_m_NoWord_NothingBy => k_is)
    (case kf_if__NoDivisor => k_is)
    (case kf_tf_NoDivisor => k_is)
    (case kf_mf_NoDivisor => k_is)
    (case kf_wb_NoDivisor => k_is)
    (case kf_ga_NoDivisor => k_is)
    (case kf_gn_NoDivisor => k_is)
    (case kf_gc_NoDivisor => k_is)
    (case kf_mo_NoDivisor => k_is)
    (case kf_mb_NoDivisor => k_is)
    (case kf_hd_NoDivisor => k_is)
    (case kf_nf_NoDivisor => k_is)
    (case kf_mw_NoDivisor => k_is)
    (case kf_mv_NoDivisor => k_is)
    (case kf_m_NoDivisor_NoWidth => k_is)
    (case kf_m_NoDivisor_NoWord => k_is)
    (case kf_m_NoDivisor_NoLong => k_is)
    (case kf_m_NoDivisor_Lesser => k_is)
    (case kf_m_NoDivisor_NothingBy => k_is)
    (case kf_if__NoLong => k_is)
    (case kf_tf_NoLong => k_is)
    (case kf_mf_NoLong => k_is)
    (case kf_wb_NoLong => k_is)
    (case kf_ga_NoLong => k_is)
    (case kf_gn_NoLong => k_is)
    (case kf_gc_NoLong => k_is)
    (case kf_mo_NoLong => k_is)
    (case kf_mb_NoLong => k_is)
    (case kf_hd_NoLong => k_is)
    (case kf_nf_NoLong => k_is)
    (case kf_mw_NoLong => k_is)
    (case kf_mv_NoLong => k_is)
    (case kf_m_NoLong_NoWidth => k_is)
    (case kf_m_NoLong_NoWord => k_is)
    (case kf_m_NoLong_NoDivisor => k_is)
    (case kf_m_NoLong_Lesser => k_is)
    (case kf_m_NoLong_NothingBy => k_is)
    (case kf_if__Lesser => k_is)
    (case kf_tf_Lesser => k_is)
    (case kf_mf_Lesser => k_is)
    (case kf_wb_Lesser => k_is)
    (case kf_ga_Lesser => k_is)
    (case kf_gn_Lesser => k_is)
    (case kf_gc_Lesser => k_is)
    (case kf_mo_Lesser => k_is)
    (case kf_mb_Lesser => k_is)
    (case kf_mw_Lesser => k_is)
    (case kf_mv_Lesser => k_is)
    (case kf_m_Lesser_NoWidth => k_is)
    (case kf_m_Lesser_NoWord => k_is)
    (case kf_m_Lesser_NoDivisor => k_is)
    (case kf_m_Lesser_NoLong => k_is)
    (case kf_m_Lesser_NothingBy => k_is)
    (case kf_if__NothingBy => k_is)
    (case kf_tf_NothingBy => k_is)
    (case kf_mf_NothingBy => k_is)
    (case kf_wb_NothingBy => k_is)
    (case kf_ga_NothingBy => k_is)
    (case kf_gn_NothingBy => k_is)
    (case kf_gc_NothingBy => k_is)
    (case kf_mo_NothingBy => k_is)
    (case kf_mb_NothingBy => k_is)
    (case kf_mw_NothingBy => k_is)
    (case kf_mv_NothingBy => k_is)
    (case kf_m_NothingBy_NoWidth => k_is)
    (case kf_m_NothingBy_NoWord => k_is)
    (case kf_m_NothingBy_NoDivisor => k_is)
    (case kf_m_NothingBy_NoLong => k_is)
    (case kf_m_NothingBy_Lesser => k_is)
    (case kf_exc_Lesser => k_exc)
    (case kf_exc_NothingBy => k_exc)
    (case kf_if__WiseError => k_is)
    (case kf_tf_WiseError => k_is)
    (case kf_wb_WiseError => k_is)
    (case z_isinstance => k_is)
    (case z_int => k_is)
    (case z_bool => k_is)
    (case z_list => k_is)
    (case z_len => k_is)
    (case z_max => k_is)
    (case z_min => k_is)
    (case z_range => k_is)
    (case z_all => k_is)
    (case z_reversed => k_is)
    (case z_repr => k_is)
    (case z_ValueError => k_is)

