import PyProof.Rows.All
import Wide.All
import OpenK.AllK
import Wide.FinOn
import Lean
import PyProof.EqAt
import PyProof.EqKinds
import PyProof.TupleCall
import KE.BitLaws
import KE.IntBitsLaws
import PySem.Challenge.RW_overwise_k25_candidates
set_option Elab.async false
set_option linter.all false
set_option maxRecDepth 100000
/-! THE HAND LAYER, for ints, bools, texts, own classes, LISTS and tuples (index, slices, in, append, pop ..), calls, loops. Paste it whole ahead of your own text; what your proof does not reach may be deleted. -/
namespace L2
open PySem PySem.Spec PyProof.Rows

/-- a key: an int or a str -/
abbrev Key := Sum Int Str
def keyIs : Key → Value → Bool
  | .inl k, v => Value.isInt k v
  | .inr x, v => Value.isStrOf x v
def keyH (w : World) : Key → Int
  | .inl k => hashInt k
  | .inr x => hashStr w x
theorem keyIs_shape : ∀ {k : Key} {v : Value}, keyIs k v = true → (∃ i t, k = Sum.inl i ∧ v = Value.int i t) ∨ (∃ x t, k = Sum.inr x ∧ v = Value.str x t)
  | .inl i, v, h => by
    obtain ⟨t, e⟩ := Value.isInt_shape (k := i) (v := v) h
    exact .inl ⟨i, t, rfl, e⟩
  | .inr x, v, h => by
    obtain ⟨t, e⟩ := Value.isStrOf_shape (x := x) (v := v) h
    exact .inr ⟨x, t, rfl, e⟩
theorem key_ll (a b : Int) : decide ((Sum.inl a : Key) = Sum.inl b) = (a == b) := by
  by_cases e : a = b
  · subst e; simp
  · have h : ¬ (Sum.inl a : Key) = Sum.inl b := fun q => e (Sum.inl.inj q)
    rw [decide_eq_false h]
    exact (beq_eq_false_iff_ne.mpr e).symm
theorem key_rr (a b : Str) : decide ((Sum.inr a : Key) = Sum.inr b) = decide (a = b) := by
  by_cases e : a = b
  · subst e; simp
  · have h : ¬ (Sum.inr a : Key) = Sum.inr b := fun q => e (Sum.inr.inj q)
    rw [decide_eq_false h, decide_eq_false e]
theorem key_lr (a : Int) (b : Str) : decide ((Sum.inl a : Key) = Sum.inr b) = false := decide_eq_false (fun q => nomatch q)
theorem key_rl (a : Str) (b : Int) : decide ((Sum.inr a : Key) = Sum.inl b) = false := decide_eq_false (fun q => nomatch q)

def mixKind (prog : Program) (w : World) : PySem.KeyKind prog w Key where
  is := keyIs
  hash := keyH w
  inj := fun v a b ha hb => by
    rcases keyIs_shape ha with ⟨i, t, rfl, rfl⟩ | ⟨x, t, rfl, rfl⟩
    · rcases keyIs_shape hb with ⟨j, u, rfl, e⟩ | ⟨y, u, rfl, e⟩
      · injection e with e1 _; rw [e1]
      · exact nomatch e
    · rcases keyIs_shape hb with ⟨j, u, rfl, e⟩ | ⟨y, u, rfl, e⟩
      · exact nomatch e
      · injection e with e1 _; rw [e1]
  byValue := fun k v h => by
    rcases keyIs_shape h with ⟨i, t, rfl, rfl⟩ | ⟨x, t, rfl, rfl⟩ <;> rfl
  pyHash := fun hv h => by
    rcases keyIs_shape hv with ⟨i, t, rfl, rfl⟩ | ⟨x, t, rfl, rfl⟩
    · exact wpAny_pyHash_int h
    · exact wpAny_pyHash_str h
  eqBool := fun hu hv h => by
    rcases keyIs_shape hu with ⟨i, t, rfl, rfl⟩ | ⟨x, t, rfl, rfl⟩
    · rcases keyIs_shape hv with ⟨j, u, rfl, rfl⟩ | ⟨y, u, rfl, rfl⟩
      · rw [key_ll] at h; exact wpAny_eqBool_int h
      · rw [key_lr] at h; exact SeqAt.EqAt.int_str i t y u _ _ _ _ h
    · rcases keyIs_shape hv with ⟨j, u, rfl, rfl⟩ | ⟨y, u, rfl, rfl⟩
      · rw [key_rl] at h; exact SeqAt.EqAt.str_int x t j u _ _ _ _ h
      · rw [key_rr] at h; exact wpAny_eqBool_str h
  «strs» := fun k x t v h => by
    rcases keyIs_shape h with ⟨i, u, rfl, e⟩ | ⟨y, u, rfl, e⟩
    · exact nomatch e
    · injection e with e1 _
      subst e1
      cases v <;> rfl

end L2

namespace L2
open PySem PySem.Spec PyProof.Rows

/-- a value, without the heap -/
inductive V where
  | non | bl (b : Bool) | int (i : Int) | str (x : Str) | byt (b : Array UInt8) | flt (b : UInt64) | ref (a : Addr) | ty (n : String)
  deriving DecidableEq

def RelV : V → Value → Prop
  | .non, u => u = Value.none
  | .bl b, u => u = Value.bool b
  | .int i, u => ∃ t, u = Value.int i t
  | .str x, u => ∃ t, u = Value.str x t
  | .byt b, u => ∃ t, u = Value.bytes b t
  | .flt b, u => ∃ t, u = Value.float b t
  | .ref a, u => u = Value.ref a
  | .ty n, u => u = Value.type n

abbrev Vals : List V → List Value → Prop := Paired RelV
theorem Vals.length {xs : List V} {us : List Value} (r : Vals xs us) : xs.length = us.length := Paired.length r
theorem Vals.get : ∀ {xs : List V} {us : List Value} {i : Nat} {x : V}, Vals xs us → xs[i]? = some x → ∃ u, us[i]? = some u ∧ RelV x u
  | _, _, _, _, .nil, e => by simp at e
  | _, _, 0, _, .cons r _, e => by simp at e; subst e; exact ⟨_, rfl, r⟩
  | _, _, i + 1, x, .cons _ t, e => by
    obtain ⟨u, h1, h2⟩ := Vals.get (i := i) (x := x) t (by simpa using e)
    exact ⟨u, by simpa using h1, h2⟩
theorem Vals.set {x : V} {u : Value} (r : RelV x u) : ∀ {xs : List V} {us : List Value} (i : Nat), Vals xs us → Vals (xs.set i x) (us.set i u)
  | _, _, _, .nil => .nil
  | _, _, 0, .cons _ t => .cons r t
  | _, _, i + 1, .cons q t => .cons q (Vals.set r i t)
theorem Vals.append : ∀ {xs ys : List V} {us ws : List Value}, Vals xs us → Vals ys ws → Vals (xs ++ ys) (us ++ ws)
  | _, _, _, _, .nil, s => s
  | _, _, _, _, .cons r t, s => .cons r (Vals.append t s)
theorem Vals.take : ∀ {xs : List V} {us : List Value} (n : Nat), Vals xs us → Vals (xs.take n) (us.take n)
  | _, _, 0, _ => .nil
  | _, _, _ + 1, .nil => .nil
  | _, _, n + 1, .cons r t => .cons r (Vals.take n t)
theorem Vals.drop : ∀ {xs : List V} {us : List Value} (n : Nat), Vals xs us → Vals (xs.drop n) (us.drop n)
  | _, _, 0, r => r
  | _, _, _ + 1, .nil => .nil
  | _, _, n + 1, .cons _ t => Vals.drop n t
theorem Vals.none_of : ∀ {xs : List V} {us : List Value} {i : Nat}, Vals xs us → xs[i]? = none → us[i]? = none := fun {xs us i} r e => by
  have h1 := r.length
  have h2 : xs.length ≤ i := List.getElem?_eq_none_iff.mp e
  exact List.getElem?_eq_none_iff.mpr (by omega)

def RelO : Option V → Option Value → Prop
  | some v, some u => RelV v u
  | none, none => True
  | _, _ => False
def KV {κ : Type} : List (κ × V) → List (κ × Value) → Prop := Paired fun (p : κ × V) (q : κ × Value) => p.1 = q.1 ∧ RelV p.2 q.2

/-- a key of a dict (00_mix): an int or a text -/
def kV : Key → V
  | .inl i => .int i
  | .inr x => .str x

/-- what stands at a tracked address -/
inductive HO where
  /-- a list -/
  | lst (xs : List V)
  /-- a tuple (never changes) -/
  | tup (xs : List V)
  /-- a dict whose keys are ints and texts; one whose keys are tuples of ints and texts (the empty one is both) -/
  | dK (kvs : List (Key × V)) | dT (kvs : List (List Key × V))
  /-- a set of ints: its members, its size -/
  | set (S : Int → Bool) (n : Nat)
  /-- an instance of the class at C, its dict at dx, its attributes -/
  | ins (C dx : Addr) (fs : List (Str × V))
  /-- the dict of the instance at x -/
  | own (x : Addr)
  /-- the dict of an exception -/
  | xd (fs : List (Str × V))
  /-- a bound method, f of x -/
  | met (f x : Addr)
  /-- a range object lo, lo + 1, .. below hi -/
  | rng (lo hi : Int)
  /-- a thing that is known to the object (the script; a dict while a loop walks it): read, never written while it is so -/
  | frz (o : Obj) (u : HO)
  /-- a code object's table -/
  | tbl (ps : Array Value)
  /-- any other thing, by what is true of its one object (a def of one's own: SetO a S n := HO.ext fun h => ..) -/
  | ext (φ : Heap → Prop)

abbrev Hp := Addr → Option HO
def upd (H : Hp) (a : Addr) (o : HO) : Hp := fun b => if b = a then some o else H b
theorem upd_same {H : Hp} {a : Addr} {o : HO} : upd H a o a = some o := by unfold upd; rw [if_pos rfl]
theorem upd_ne {H : Hp} {a b : Addr} {o : HO} (h : b ≠ a) : upd H a o b = H b := by unfold upd; rw [if_neg h]
theorem upd_upd {H : Hp} {a : Addr} {o u : HO} : upd (upd H a o) a u = upd H a u := by
  funext b; unfold upd; split <;> rfl
theorem ne_of_none {H : Hp} {a b : Addr} {o : HO} (h : H a = some o) (h' : H b = none) : a ≠ b := by
  intro e; subst e; rw [h] at h'; cases h'

section
variable (P : Program) (w : World)
def ObjOk (H : Hp) (h : Heap) (a : Addr) : HO → Prop
  | .lst xs => xs.length ≤ sizeLine ∧ ∃ (its : List Value) (n : Nat), Vals xs its ∧ h.get? a = some { cls := .type "list", data := .seq its.toArray n }
  | .tup xs => xs.length ≤ sizeLine ∧ ∃ its : List Value, Vals xs its ∧ IsTup h a its.toArray
  | .dK kvs => kvs.length ≤ sizeLine ∧ (a == sysModules) = false ∧ ∃ vs, KV kvs vs ∧ h.DictOf (mixKind P w) a vs
  | .dT kvs => kvs.length ≤ sizeLine ∧ (a == sysModules) = false ∧ ∃ xs : List (List Key × Addr × Value),
      Paired (fun (p : List Key × V) (q : List Key × Addr × Value) => p.1 = q.1 ∧ H q.2.1 = some (.tup (p.1.map kV)) ∧ RelV p.2 q.2.2) kvs xs ∧
      ∃ o es ep, h.get? a = some o ∧ o.ExactDict ∧ o.data = .dict es ep ∧ es.toList = xs.map (entryOfKey (tupleKind (mixKind P w))) ∧ (xs.map (·.1)).Nodup
  | .set S n => h.SetOf (intKind P w) a S n
  | .ins C dx fs => H dx = some (.own a) ∧ fs.length ≤ 1000 ∧ dx ≠ a ∧ h.get? a = some (PySem.W.instObj C dx) ∧
      ∃ mA, h.Ns1 dx mA ∧ (∀ f, RelO (fs.lookup f) (mA f)) ∧ PySem.Within mA (fs.map (·.1))
  | .own _ => ∃ o, h.get? a = some o
  | .xd fs => ∃ mA, h.Ns1 a mA ∧ ∀ f, RelO (fs.lookup f) (mA f)
  | .rng lo hi => ∃ t u v, h.get? a = some { cls := .type "range", data := .fields #[.int lo t, .int hi u, .int 1 v] }
  | .frz o u => h.get? a = some o ∧ ObjOk H h a u
  | .tbl ps => h.get? a = some { cls := .none, data := .fields ps }
  | .met f x => h.get? a = some (PySem.W.methodObj (.ref f) (.ref x))
  | .ext φ => φ h ∧ (∃ o, h.get? a = some o) ∧ ∀ h1 h2 : Heap, φ h1 → (∀ o, h1.get? a = some o → h2.get? a = some o) → φ h2
/-- the abstract heap is held -/
def HOk (H : Hp) (h : Heap) : Prop := ∀ a o, H a = some o → ObjOk P w H h a o
end

section
variable {P : Program} {w : World} {H H' : Hp} {h h' : Heap} {a : Addr} {o : HO}
theorem ObjOk.lt (x : ObjOk P w H h a o) : a < h.objs.size := by
  cases o with
  | lst xs => obtain ⟨_, _, _, _, e⟩ := x; exact Heap.lt_size e
  | tup xs => obtain ⟨_, _, _, p⟩ := x; exact p.lt
  | dK kvs => obtain ⟨_, _, _, _, o, _, _, e, _⟩ := x; exact Heap.lt_size e
  | dT kvs => obtain ⟨_, _, _, _, o, _, _, e, _⟩ := x; exact Heap.lt_size e
  | set S n => obtain ⟨o, _, _, _, e, _⟩ := x; exact Heap.lt_size e
  | ins C dx fs => obtain ⟨_, _, _, e, _⟩ := x; exact Heap.lt_size e
  | own y => obtain ⟨_, e⟩ := x; exact Heap.lt_size e
  | xd fs => obtain ⟨_, ⟨_, _, _, e, _⟩, _⟩ := x; exact Heap.lt_size e
  | rng lo hi => obtain ⟨_, _, _, e⟩ := x; exact Heap.lt_size e
  | frz ob u => obtain ⟨e, _⟩ := x; exact Heap.lt_size e
  | tbl ps => exact Heap.lt_size (show h.get? a = some _ from x)
  | met f y => exact Heap.lt_size (show h.get? a = some _ from x)
  | ext φ => obtain ⟨_, ⟨_, e⟩, _⟩ := x; exact Heap.lt_size e
theorem Paired.mapP {α β : Type} {F G : α → β → Prop} : ∀ {l₁ : List α} {l₂ : List β}, Paired F l₁ l₂ → (∀ a b, F a b → G a b) → Paired G l₁ l₂
  | _, _, .nil, _ => .nil
  | _, _, .cons r t, f => .cons (f _ _ r) (Paired.mapP t f)
/-- what an object's description leans on: its own object, its own dict, the tuples -/
theorem ObjOk.stay (x : ObjOk P w H h a o) (k : ∀ b u, (b = a ∨ H b = some (.own a)) → h.get? b = some u → h'.get? b = some u)
    (ho : ∀ b, H b = some (.own a) → H' b = some (.own a)) (ht : ∀ b xs, H b = some (.tup xs) → H' b = some (.tup xs)) : ObjOk P w H' h' a o := by
  induction o with
  | lst xs => obtain ⟨z, its, n, r, e⟩ := x; exact ⟨z, its, n, r, k _ _ (.inl rfl) e⟩
  | tup xs => obtain ⟨z, its, r, ob, e, c⟩ := x; exact ⟨z, its, r, ob, k _ _ (.inl rfl) e, c⟩
  | dK kvs => obtain ⟨z, y, vs, r, ob, es, ep, e, c⟩ := x; exact ⟨z, y, vs, r, ob, es, ep, k _ _ (.inl rfl) e, c⟩
  | dT kvs =>
    obtain ⟨z, y, xs, r, ob, es, ep, e, c⟩ := x
    exact ⟨z, y, xs, Paired.mapP r fun p q z => ⟨z.1, ht _ _ z.2.1, z.2.2⟩, ob, es, ep, k _ _ (.inl rfl) e, c⟩
  | set S n => obtain ⟨ob, es, ep, t, e, c⟩ := x; exact ⟨ob, es, ep, t, k _ _ (.inl rfl) e, c⟩
  | ins C dx fs =>
    obtain ⟨d, z, ne, e, mA, ⟨od, es, ep, e2, c⟩, r⟩ := x
    exact ⟨ho _ d, z, ne, k _ _ (.inl rfl) e, mA, ⟨od, es, ep, k _ _ (.inr d) e2, c⟩, r⟩
  | own y => obtain ⟨ob, e⟩ := x; exact ⟨ob, k _ _ (.inl rfl) e⟩
  | xd fs => obtain ⟨mA, ⟨od, es, ep, e, c⟩, r⟩ := x; exact ⟨mA, ⟨od, es, ep, k _ _ (.inl rfl) e, c⟩, r⟩
  | rng lo hi => obtain ⟨t, u, v, e⟩ := x; exact ⟨t, u, v, k _ _ (.inl rfl) e⟩
  | frz ob u ih => obtain ⟨e, q⟩ := x; exact ⟨k _ _ (.inl rfl) e, ih q⟩
  | tbl ps =>
    have e : h.get? a = some { cls := .none, data := .fields ps } := x
    show h'.get? a = some { cls := .none, data := .fields ps }
    exact k a _ (.inl rfl) e
  | met f y =>
    have e : h.get? a = some (PySem.W.methodObj (.ref f) (.ref y)) := x
    show h'.get? a = some (PySem.W.methodObj (.ref f) (.ref y))
    exact k a _ (.inl rfl) e
  | ext φ => obtain ⟨p, ⟨o, e⟩, st⟩ := x; exact ⟨st _ _ p fun o q => k _ _ (.inl rfl) q, ⟨o, k _ _ (.inl rfl) e⟩, st⟩
theorem HOk.lt (x : HOk P w H h) (e : H a = some o) : a < h.objs.size := (x a o e).lt
theorem HOk.fresh (x : HOk P w H h) (e : h.objs.size ≤ a) : H a = none := by
  cases q : H a with
  | none => rfl
  | some u => exact absurd (Nat.lt_of_lt_of_le (x.lt q) e) (Nat.lt_irrefl _)
/-- every object of the heap is kept -/
theorem HOk.kept (x : HOk P w H h) (k : ∀ b u, h.get? b = some u → h'.get? b = some u) : HOk P w H h' := fun a o e =>
  (x a o e).stay (fun b u _ q => k b u q) (fun _ q => q) fun _ _ q => q
/-- a new object is laid and tracked -/
theorem HOk.laid (x : HOk P w H h) (k : ∀ b u, h.get? b = some u → h'.get? b = some u) (hp : h.objs.size ≤ a) (new : ObjOk P w (upd H a o) h' a o) : HOk P w (upd H a o) h' := fun b u e => by
  have hn := x.fresh hp
  by_cases hb : b = a
  · subst hb; rw [upd_same] at e; cases e; exact new
  · rw [upd_ne hb] at e
    exact (x b u e).stay (fun c v _ q => k c v q) (fun c q => by rw [upd_ne (ne_of_none q hn)]; exact q) fun c xs q => by rw [upd_ne (ne_of_none q hn)]; exact q
end

/-- what may be read as u: it is u, or a known u -/
def Rd (H : Hp) (a : Addr) (u : HO) : Prop := H a = some u ∨ ∃ o, H a = some (.frz o u)
theorem Rd.of {H : Hp} {a : Addr} {u : HO} (h : H a = some u) : Rd H a u := .inl h
theorem Rd.ok {P : Program} {w : World} {H : Hp} {h : Heap} {a : Addr} {u : HO} (r : Rd H a u) (x : HOk P w H h) : ObjOk P w H h a u := by
  rcases r with r | ⟨o, r⟩
  · exact x a u r
  · obtain ⟨_, q⟩ := x a _ r
    exact q
/-- what may be written -/
def Mut : Option HO → Prop
  | some (.lst _) => True
  | some (.dK _) => True
  | some (.dT _) => True
  | some (.set _ _) => True
  | some (.ins _ _ _) => True
  | some (.ext _) => True
  | _ => False
section
variable {P : Program} {w : World} {H : Hp} {h h' : Heap} {x e : Addr} {o' : HO}
/-- the object at e is changed: x itself, or the dict of the instance x -/
theorem HOk.write (ok : HOk P w H h) (mu : Mut (H x)) (he : e = x ∨ H e = some (.own x)) (k : ∀ b u, b ≠ e → h.get? b = some u → h'.get? b = some u) (heo : ∃ u, h'.get? e = some u)
    (new : ObjOk P w (upd H x o') h' x o') : HOk P w (upd H x o') h' := fun b u q => by
  have nown : ∀ c y, H c = some (.own y) → c ≠ x := fun c y r z => by subst z; rw [r] at mu; exact mu
  have ntup : ∀ c xs, H c = some (.tup xs) → c ≠ x := fun c xs r z => by subst z; rw [r] at mu; exact mu
  by_cases hb : b = x
  · subst hb; rw [upd_same] at q; cases q; exact new
  · rw [upd_ne hb] at q
    by_cases hbe : b = e
    · have q' : H b = some (.own x) := by
        rcases he with z | z
        · exact absurd (hbe.trans z) hb
        · rw [hbe]; exact z
      rw [q] at q'; cases q'
      obtain ⟨v, hv⟩ := heo
      exact ⟨v, by rw [hbe]; exact hv⟩
    · refine (ok b u q).stay (fun c v hc r => k c v ?_ r) (fun c r => by rw [upd_ne (nown c b r)]; exact r) fun c xs r => by rw [upd_ne (ntup c xs r)]; exact r
      rcases hc with rfl | hc
      · exact hbe
      · rintro rfl
        rcases he with z | z
        · exact nown c b hc z
        · rw [hc] at z; cases z; exact hb rfl
end

/-! ### kept unless tracked; of the frames at fs (the callers') the slots may change (an exception that passes writes there); of the records at ex (iterators) nothing is said -/
structure Un (fs ex : List Addr) (H H' : Hp) (h h' : Heap) : Prop where
  keep : ∀ b o, h.get? b = some o → H b = none → b ∉ fs → b ∉ ex → h'.get? b = some o
  slot : ∀ b o, h.get? b = some o → H b = none → b ∈ fs → b ∉ ex → ∃ sl, h'.get? b = some { o with slots := sl }
  free : ∀ b o, h.get? b = some o → H b = none → b ∉ ex → H' b = none
  there : ∀ b o, h.get? b = some o → b ∉ ex → ∃ o', h'.get? b = some o'
  tups : ∀ b xs, H b = some (.tup xs) → H' b = some (.tup xs)
  frzs : ∀ b o u, H b = some (.frz o u) → H' b = some (.frz o u)
  tbls : ∀ b ps, H b = some (.tbl ps) → ∃ more, H' b = some (.tbl (ps ++ more))
section
variable {fs fs' ex ex' : List Addr} {H H1 H2 : Hp} {h h1 h2 h' : Heap} {a x e : Addr} {o : HO}
theorem Un.any (u : Un fs ex H H1 h h1) {b : Addr} {ob : Obj} (q : h.get? b = some ob) (n : H b = none) (hx : b ∉ ex) : ∃ sl, h1.get? b = some { ob with slots := sl } := by
  by_cases hb : b ∈ fs
  · exact u.slot b ob q n hb hx
  · exact ⟨ob.slots, u.keep b ob q n hb hx⟩
theorem Un.trans (a : Un fs ex H H1 h h1) (b : Un fs ex H1 H2 h1 h2) : Un fs ex H H2 h h2 where
  keep := fun c ob q n hc hx => b.keep c ob (a.keep c ob q n hc hx) (a.free c ob q n hx) hc hx
  slot := fun c ob q n hc hx => by
    obtain ⟨sl, e1⟩ := a.slot c ob q n hc hx
    obtain ⟨sl', e2⟩ := b.slot c _ e1 (a.free c ob q n hx) hc hx
    exact ⟨sl', e2⟩
  free := fun c ob q n hx => by
    obtain ⟨o', e1⟩ := a.there c ob q hx
    exact b.free c o' e1 (a.free c ob q n hx) hx
  there := fun c ob q hx => by
    obtain ⟨o', e1⟩ := a.there c ob q hx
    exact b.there c o' e1 hx
  tups := fun c xs q => b.tups c xs (a.tups c xs q)
  frzs := fun c ob xs q => b.frzs c ob xs (a.frzs c ob xs q)
  tbls := fun c ps q => by
    obtain ⟨m1, e1⟩ := a.tbls c ps q
    obtain ⟨m2, e2⟩ := b.tbls c _ e1
    exact ⟨m1 ++ m2, by rw [e2, Array.append_assoc]⟩
theorem Un.kept (k : ∀ b u, h.get? b = some u → h'.get? b = some u) : Un fs ex H H h h' :=
  ⟨fun b ob q _ _ _ => k b ob q, fun b ob q _ _ _ => ⟨ob.slots, k b ob q⟩, fun _ _ _ n _ => n, fun b ob q _ => ⟨ob, k b ob q⟩, fun _ _ q => q, fun _ _ _ q => q, fun _ ps q => ⟨#[], by rw [q]; simp⟩⟩
theorem Un.refl : Un fs ex H H h h := Un.kept fun _ _ q => q
theorem Un.laid (k : ∀ b u, h.get? b = some u → h'.get? b = some u) (hp : h.objs.size ≤ a) (hn : H a = none) : Un fs ex H (upd H a o) h h' where
  keep := fun b u q _ _ _ => k b u q
  slot := fun b u q _ _ _ => ⟨u.slots, k b u q⟩
  free := fun b u q n _ => by rw [upd_ne (Nat.ne_of_lt (Nat.lt_of_lt_of_le (Heap.lt_size q) hp))]; exact n
  there := fun b u q _ => ⟨u, k b u q⟩
  tups := fun b xs q => by rw [upd_ne (ne_of_none q hn)]; exact q
  frzs := fun b u xs q => by rw [upd_ne (ne_of_none q hn)]; exact q
  tbls := fun b ps q => ⟨#[], by rw [upd_ne (ne_of_none q hn), q]; simp⟩
theorem Un.write (mu : Mut (H x)) (he : e = x ∨ H e = some (.own x)) (k : ∀ b u, b ≠ e → h.get? b = some u → h'.get? b = some u) (heo : ∃ u, h'.get? e = some u) : Un fs ex H (upd H x o) h h' := by
  have hx : ∀ b, H b = none → b ≠ x := fun b n z => by subst z; rw [n] at mu; exact mu
  have hb : ∀ b, H b = none → b ≠ e := fun b n z => by
    subst z
    rcases he with r | r
    · exact hx b n r
    · rw [n] at r; cases r
  have hm : ∀ b u, H b = some u → ¬ Mut (some u) → b ≠ x := fun b u q nm z => by subst z; rw [q] at mu; exact nm mu
  refine ⟨fun b u q n _ _ => k b u (hb b n) q, fun b u q n _ _ => ⟨u.slots, k b u (hb b n) q⟩, fun b u q n _ => by rw [upd_ne (hx b n)]; exact n, fun b u q _ => ?_,
    fun b xs q => by rw [upd_ne (hm b _ q fun z => z)]; exact q, fun b u xs q => by rw [upd_ne (hm b _ q fun z => z)]; exact q, fun b ps q => ⟨#[], by rw [upd_ne (hm b _ q fun z => z), q]; simp⟩⟩
  by_cases hbe : b = e
  · subst hbe; exact heo
  · exact ⟨u, k b u hbe q⟩
theorem Un.mono (u : Un fs ex H H1 h h1) (hs : ∀ b ∈ fs, b ∈ fs') (hx : ∀ b ∈ ex, b ∈ ex') : Un fs' ex' H H1 h h1 :=
  ⟨fun b ob q n hb he => u.keep b ob q n (fun z => hb (hs b z)) fun z => he (hx b z), fun _ _ q n _ he => u.any q n fun z => he (hx _ z), fun b ob q n he => u.free b ob q n fun z => he (hx b z), fun b ob q he => u.there b ob q fun z => he (hx b z), u.tups, u.frzs, u.tbls⟩
end

/-! ### the heap without what is tracked -/
def trk (h : Heap) (H : Hp) : List Addr := (List.range h.objs.size).filter fun a => (H a).isSome
def hidT (h : Heap) (H : Hp) : Heap := PySem.W.hideAll h (trk h H)
theorem hidT_size (h : Heap) (H : Hp) : (hidT h H).objs.size = h.objs.size := PySem.W.hideAll_size _ _
theorem hidT_get {h : Heap} {H : Hp} {b : Addr} {o : Obj} (e : h.get? b = some o) (n : H b = none) : (hidT h H).get? b = some o :=
  PySem.W.hideAll_get _ e fun hm => by
    have q : (H b).isSome = true := (List.mem_filter.mp hm).2
    rw [n] at q; simp at q
theorem of_hidT {h : Heap} {H : Hp} {b : Addr} {o : Obj} (e : (hidT h H).get? b = some o) : h.get? b = some o ∧ H b = none := by
  have e' : h.get? b = some o := PySem.W.of_hideAll (trk h H) e
  refine ⟨e', ?_⟩
  cases q : H b with
  | none => rfl
  | some x =>
    have hm : b ∈ trk h H := List.mem_filter.mpr ⟨List.mem_range.mpr (Heap.lt_size e'), by simp [q]⟩
    have z : (hidT h H).get? b = none := PySem.W.hideAll_none (trk h H) hm
    rw [z] at e; cases e

/-! ### OpenK's ledger, filled with every new object but one -/
def allNews (g h : Heap) (L : Addr) : List (Addr × Obj) := (List.range h.objs.size).filterMap fun a => if a = L ∨ (g.get? a).isSome = true then none else (h.get? a).map fun o => (a, o)
def rest (g h : Heap) (L d : Addr) : List (Addr × Obj) := (allNews g h L).filter fun p => decide (p.1 ≠ d)
end L2

namespace L2
open PySem PySem.Spec PyProof.Rows

/-- the module's facts, over the base: the heap at the law's entry without what is tracked there -/
structure Mod (K : PySem.W.Frag) (mg : Str → Option Value) (base : Heap) : Prop where
  kin : K.In base
  glob : base.Ns mainGlobals mg
  blt : ∃ mb, base.Ns builtinsNs mb ∧ ∀ x : Str, x ≠ "__name__" → mb x = bootBuiltins x
  nolimit : base.NoLimit

/-- the context: a def's body (or a comprehension's block) running. base: fixed through the whole law; s₀, H₀: the entry; outer: the frames whose slots others may change (a def's callers); stack: all frames that run;
   ex: iterators that were made ahead of the entry and are walked here (a comprehension's); fn: the names whose cells were made at the entry (a def: all; a comprehension's block: its own); calm: not within an except suite; pn: pins that every state bears; xe: what is wanted of an exception that leaves the code -/
structure Cx where
  prog : Program
  w : World
  K : PySem.W.Frag
  mg : Str → Option Value
  base : Heap
  A : Around
  N : List Str
  s₀ : Shared
  H₀ : Hp
  env : Env
  outer : List Env
  stack : List Env
  ex : List Addr
  fn : Str → Bool
  calm : Bool
  pn : List (Addr × Obj)
  xe : Value → Shared → Prop
/-- the callers' frames -/
def frs (l : List Env) : List Addr := l.filterMap (·.frame)
abbrev Cx.fs (X : Cx) : List Addr := frs X.outer

def Vis (sc : Scope) (x : Str) : Prop := sc.names.lookup x = some .local ∨ sc.names.lookup x = some .cell ∨ sc.names.lookup x = some .free
def Loc (sc : Scope) (x : Str) : Prop := sc.names.lookup x = some .local ∨ sc.names.lookup x = some .cell
def Look (env : Env) (h : Heap) (m : Str → Option Value) (x : Str) (u : Value) : Prop :=
  (env.kindOf x = some .local ∧ m x = some u) ∨ ((env.kindOf x = some .cell ∨ env.kindOf x = some .free) ∧ ∃ c, env.cells.lookup x = some c ∧ h.IsCell c (some u))

structure Cx.Ok (X : Cx) : Prop where
  mod : Mod X.K X.mg X.base
  kind : X.env.scope.kind = .function
  glob : X.env.globals = mainGlobals
  blt : X.env.builtins = builtinsNs
  above : X.s₀.heap.objs.size ≤ X.env.locals
  inj : ∀ x y c, X.env.cells.lookup x = some c → X.env.cells.lookup y = some c → x = y
  has : ∀ x, (X.env.kindOf x = some .cell ∨ X.env.kindOf x = some .free) → ∃ c, X.env.cells.lookup x = some c
  cab : ∀ x c, X.fn x = true → X.env.cells.lookup x = some c → X.s₀.heap.objs.size ≤ c
  hd : X.calm = true → X.A.handled = none
  frames : X.A.frames = some X.stack
  stk : X.stack = X.outer ∨ (X.stack = X.env :: X.outer ∧ X.env.frame = some X.env.locals)
  exf : ∀ b ∈ X.ex, b ≠ X.env.locals ∧ ∀ x c, X.env.cells.lookup x = some c → c ≠ b
  bs : ∀ b o, X.base.get? b = some o → X.s₀.heap.get? b = some o ∧ X.H₀ b = none
  bsz : X.base.objs.size ≤ X.s₀.heap.objs.size
  noex : ∀ b o, X.base.get? b = some o → b ∉ X.ex
  exfs : ∀ b ∈ X.ex, b ∉ X.fs
  funs : X.s₀.heap.FunFrames X.base X.outer
  frf : ∀ b ∈ X.fs, X.H₀ b = none

structure Inv (X : Cx) (pins : List (Addr × Obj)) (σ : List (Option V)) (H : Hp) (s : Shared) : Prop where
  ok : X.Ok
  os : s.os = X.s₀.os
  bare : AllBare s.gens
  base : Un X.fs X.ex X.H₀ H X.s₀.heap s.heap
  loc : ∃ m, s.heap.Ns X.env.locals m ∧ ∀ (i : Nat) (x : Str) (v : V), X.N[i]? = some x → σ[i]? = some (some v) → Vis X.env.scope x → ∃ u, RelV v u ∧ Look X.env s.heap m x u
  cell : ∀ x c, X.env.cells.lookup x = some c → ∃ v, s.heap.IsCell c v
  free : H X.env.locals = none
  freeC : ∀ x c, X.env.cells.lookup x = some c → H c = none
  pin : ∀ p ∈ X.pn ++ pins, s.heap.get? p.1 = some p.2 ∧ H p.1 = none ∧ p.1 ≠ X.env.locals ∧ p.1 ∉ X.fs ∧ ∀ v, p.2.data ≠ .cell v
  hok : HOk X.prog X.w H s.heap
  len : σ.length = X.N.length

section
variable {X : Cx} {pins : List (Addr × Obj)} {σ : List (Option V)} {H H' : Hp} {s : Shared} {h' : Heap}

theorem Cx.Ok.nofr (ok : X.Ok) {b : Addr} {o : Obj} (e : X.base.get? b = some o) : b ∉ X.fs := fun hb => by
  have := (ok.funs.mem hb).1
  rw [e] at this; cases this
theorem Inv.bs (I : Inv X pins σ H s) : ∀ b o, X.base.get? b = some o → s.heap.get? b = some o ∧ H b = none := fun b o e =>
  ⟨I.base.keep b o (I.ok.bs b o e).1 (I.ok.bs b o e).2 (I.ok.nofr e) (I.ok.noex b o e), I.base.free b o (I.ok.bs b o e).1 (I.ok.bs b o e).2 (I.ok.noex b o e)⟩
theorem Inv.bk (I : Inv X pins σ H s) : ∀ b o, X.base.get? b = some o → s.heap.get? b = some o := fun b o e => (I.bs b o e).1
theorem Inv.mod (I : Inv X pins σ H s) : Mod X.K X.mg X.base := I.ok.mod
theorem Inv.kIn (I : Inv X pins σ H s) : X.K.In s.heap := I.ok.mod.kin.keeps I.bk
theorem Inv.nolimit (I : Inv X pins σ H s) : s.heap.NoLimit := I.ok.mod.nolimit.keeps I.bk
/-- the frame over the base: for OpenK's rules (K.In X.base is I.mod.kin) -/
theorem Inv.fr (I : Inv X pins σ H s) : ∃ m, Fr X.base X.env.locals s.heap m :=
  let ⟨m, hn, _⟩ := I.loc
  ⟨m, hn, I.bk, Nat.le_trans I.ok.bsz I.ok.above⟩
theorem Inv.lt (I : Inv X pins σ H s) : X.env.locals < s.heap.objs.size := let ⟨_, hn, _⟩ := I.loc; hn.lt
theorem Inv.sz (I : Inv X pins σ H s) : X.s₀.heap.objs.size ≤ s.heap.objs.size := Nat.le_trans I.ok.above (Nat.le_of_lt I.lt)
theorem Inv.nofs (I : Inv X pins σ H s) {a : Addr} (h : s.heap.objs.size ≤ a) : a ∉ X.fs := fun hb => by
  obtain ⟨_, o, ho, _⟩ := I.ok.funs.mem hb
  exact absurd (Nat.lt_of_lt_of_le (Heap.lt_size ho) (Nat.le_trans I.sz h)) (Nat.lt_irrefl _)
theorem Inv.cne (I : Inv X pins σ H s) : ∀ x c, X.env.cells.lookup x = some c → c ≠ X.env.locals := fun x c e z => by
  obtain ⟨v, o, ho, hd⟩ := I.cell x c e
  obtain ⟨m, ⟨o', es, ep, ho', hd', _⟩, _⟩ := I.loc
  rw [z, ho'] at ho; cases ho; rw [hd'] at hd; cases hd
theorem Inv.funs (I : Inv X pins σ H s) : s.heap.FunFrames X.base X.outer := by
  have all : ∀ (l : List Env), (∀ b ∈ frs l, b ∈ X.fs) → X.s₀.heap.FunFrames X.base l → s.heap.FunFrames X.base l := by
    intro l
    induction l with
    | nil => intro _ _; trivial
    | cons env r ih =>
      intro hs hl
      obtain ⟨hk, ⟨L, o, hf, hn, ho, hd⟩, hr⟩ := hl
      have hL : L ∈ X.fs := hs L (by unfold frs; rw [List.filterMap_cons, hf]; exact List.mem_cons_self)
      obtain ⟨sl, e⟩ := I.base.slot L o ho (I.ok.frf L hL) hL fun z => I.ok.exfs L z hL
      exact ⟨hk, ⟨L, _, hf, hn, e, hd⟩, ih (fun b hb => hs b (by unfold frs; rw [List.filterMap_cons, hf]; exact List.mem_cons_of_mem _ hb)) hr⟩
  exact all X.outer (fun _ hb => hb) I.ok.funs

/-- the frames that run, for a call -/
theorem Inv.stack (I : Inv X pins σ H s) : s.heap.FunFrames X.base X.stack := by
  rcases I.ok.stk with e | ⟨e, hf⟩
  · rw [e]; exact I.funs
  · rw [e]
    obtain ⟨m, hn, _⟩ := I.loc
    refine .cons (by rw [I.ok.kind]; decide) hf hn ?_ I.funs
    exact Heap.get?_none_of_le (Nat.le_trans I.ok.bsz I.ok.above)
theorem Inv.stkSub (I : Inv X pins σ H s) : ∀ b ∈ frs X.stack, b ∈ X.env.locals :: X.fs := fun b hb => by
  rcases I.ok.stk with e | ⟨e, hf⟩
  · rw [e] at hb; exact List.mem_cons_of_mem _ hb
  · rw [e] at hb
    unfold frs at hb
    rw [List.filterMap_cons, hf] at hb
    exact hb
theorem Inv.stkFree (I : Inv X pins σ H s) : ∀ b ∈ frs X.stack, H b = none := fun b hb => by
  rcases List.mem_cons.mp (I.stkSub b hb) with e | hb
  · rw [e]; exact I.free
  · obtain ⟨_, o, ho, _⟩ := I.ok.funs.mem hb
    exact I.base.free b o ho (I.ok.frf b hb) fun z => I.ok.exfs b z hb

/-- THE STEP: the untracked objects but the frame and the records at ch are kept (the callers' frames up to slots), the frame's map is kept, the new abstract heap is held -/
theorem Inv.step {g' : Array GenState} {t' : Nat} {d' : Drawn} {ch : List Addr} (I : Inv X pins σ H s)
    (hch : ∀ b ∈ ch, (b ∈ X.ex ∨ X.s₀.heap.objs.size ≤ b) ∧ b ≠ X.env.locals ∧ (∀ x c, X.env.cells.lookup x = some c → c ≠ b) ∧ ∀ p ∈ X.pn ++ pins, p.1 ≠ b)
    (keep : ∀ b o, b ≠ X.env.locals → b ∉ X.fs → b ∉ ch → s.heap.get? b = some o → H b = none → h'.get? b = some o)
    (slot : ∀ b o, b ≠ X.env.locals → b ∈ X.fs → b ∉ ch → s.heap.get? b = some o → H b = none → ∃ sl, h'.get? b = some { o with slots := sl }) (free : ∀ b o, b ∉ ch → s.heap.get? b = some o → H b = none → H' b = none)
    (there : ∀ b o, b ∉ ch → s.heap.get? b = some o → ∃ o', h'.get? b = some o')
    (tups : ∀ b xs, H b = some (.tup xs) → H' b = some (.tup xs)) (frzs : ∀ b o u, H b = some (.frz o u) → H' b = some (.frz o u)) (tbls : ∀ b ps, H b = some (.tbl ps) → ∃ more, H' b = some (.tbl (ps ++ more)))
    (ns : ∀ m, s.heap.Ns X.env.locals m → h'.Ns X.env.locals m) (hok : HOk X.prog X.w H' h') (hg : AllBare g') :
    Inv X pins σ H' { s with heap := h', gens := g', drawn := d', toks := t' } := by
  have neL : ∀ b o, X.s₀.heap.get? b = some o → b ≠ X.env.locals := fun b o e => Nat.ne_of_lt (Nat.lt_of_lt_of_le (Heap.lt_size e) I.ok.above)
  have neC : ∀ b o, X.s₀.heap.get? b = some o → b ∉ X.ex → b ∉ ch := fun b o e hx hb => by
    rcases (hch b hb).1 with z | z
    · exact hx z
    · exact absurd (Nat.lt_of_lt_of_le (Heap.lt_size e) z) (Nat.lt_irrefl _)
  have cellK : ∀ x c, X.env.cells.lookup x = some c → ∀ v, s.heap.IsCell c v → h'.IsCell c v := fun x c e v ⟨o, ho, hd⟩ => by
    have nch : c ∉ ch := fun z => (hch c z).2.2.1 x c e rfl
    by_cases hc : c ∈ X.fs
    · obtain ⟨sl, q⟩ := slot c o (I.cne x c e) hc nch ho (I.freeC x c e)
      exact ⟨_, q, hd⟩
    · exact ⟨o, keep c o (I.cne x c e) hc nch ho (I.freeC x c e), hd⟩
  refine ⟨I.ok, I.os, hg, ⟨fun b o e n hb hx => ?_, fun b o e n hb hx => ?_, fun b o e n hx => ?_, fun b o e hx => ?_, fun b xs e => tups b xs (I.base.tups b xs e), fun b o xs e => frzs b o xs (I.base.frzs b o xs e), fun b ps e => ?_⟩, ?_, fun x c e => ?_, ?_, fun x c e => ?_, fun p hp => ?_, hok, I.len⟩
  · exact keep b o (neL b o e) hb (neC b o e hx) (I.base.keep b o e n hb hx) (I.base.free b o e n hx)
  · obtain ⟨sl, e1⟩ := I.base.slot b o e n hb hx
    obtain ⟨sl', e2⟩ := slot b _ (neL b o e) hb (neC b o e hx) e1 (I.base.free b o e n hx)
    exact ⟨sl', e2⟩
  · obtain ⟨o', e1⟩ := I.base.there b o e hx
    exact free b o' (neC b o e hx) e1 (I.base.free b o e n hx)
  · obtain ⟨o', e1⟩ := I.base.there b o e hx
    exact there b o' (neC b o e hx) e1
  · obtain ⟨m1, e1⟩ := I.base.tbls b ps e
    obtain ⟨m2, e2⟩ := tbls b _ e1
    exact ⟨m1 ++ m2, by rw [e2, Array.append_assoc]⟩
  · obtain ⟨m, hn, hl⟩ := I.loc
    refine ⟨m, ns m hn, fun i x v e1 e2 e3 => ?_⟩
    obtain ⟨u, r, l⟩ := hl i x v e1 e2 e3
    refine ⟨u, r, ?_⟩
    rcases l with l | ⟨k, c, e, z⟩
    · exact .inl l
    · exact .inr ⟨k, c, e, cellK x c e _ z⟩
  · obtain ⟨v, z⟩ := I.cell x c e
    exact ⟨v, cellK x c e v z⟩
  · obtain ⟨m, ⟨o, _, _, ho, _⟩, _⟩ := I.loc
    exact free _ o (fun z => (hch _ z).2.1 rfl) ho I.free
  · obtain ⟨v, o, ho, hd⟩ := I.cell x c e
    exact free c o (fun z => (hch c z).2.2.1 x c e rfl) ho (I.freeC x c e)
  · obtain ⟨e, n, ne, nf, d⟩ := I.pin p hp
    have nch : p.1 ∉ ch := fun z => (hch p.1 z).2.2.2 p hp rfl
    exact ⟨keep p.1 p.2 ne nf nch e n, free p.1 p.2 nch e n, ne, nf, d⟩
/-- .. where the frame's own object is kept too -/
theorem Inv.un {t' : Nat} (I : Inv X pins σ H s) (u : Un X.fs [] H H' s.heap h') (hok : HOk X.prog X.w H' h') : Inv X pins σ H' { s with heap := h', toks := t' } := by
  obtain ⟨m, ⟨o, es, ep, ho, r⟩, _⟩ := id I.loc
  obtain ⟨sl, hL⟩ := u.any ho I.free (by simp)
  exact I.step (g' := s.gens) (d' := s.drawn) (ch := []) (fun _ z => nomatch z) (fun b o _ hb _ e n => u.keep b o e n hb (by simp)) (fun b o _ hb _ e n => u.slot b o e n hb (by simp)) (fun b o _ e n => u.free b o e n (by simp)) (fun b o _ e => u.there b o e (by simp)) u.tups u.frzs u.tbls (fun m' hm => by
    obtain ⟨o', es', ep', ho', r'⟩ := hm
    rw [ho] at ho'; cases ho'
    exact ⟨_, es', ep', hL, r'⟩) hok I.bare
/-- behind a call (or a comprehension's block): the slots of this frame may have changed too, the records at ch may have turned -/
theorem Inv.call {g' : Array GenState} {t' : Nat} {d' : Drawn} {ch : List Addr} (I : Inv X pins σ H s) (u : Un (frs X.stack) ch H H' s.heap h') (hok : HOk X.prog X.w H' h') (hg : AllBare g')
    (hch : ∀ b ∈ ch, (b ∈ X.ex ∨ X.s₀.heap.objs.size ≤ b) ∧ b ≠ X.env.locals ∧ (∀ x c, X.env.cells.lookup x = some c → c ≠ b) ∧ ∀ p ∈ X.pn ++ pins, p.1 ≠ b) :
    Inv X pins σ H' { s with heap := h', gens := g', drawn := d', toks := t' } := by
  obtain ⟨m, ⟨o, es, ep, ho, r⟩, _⟩ := id I.loc
  obtain ⟨sl, hL⟩ := u.any ho I.free fun z => (hch _ z).2.1 rfl
  exact I.step (ch := ch) hch (fun b o hL hb hc e n => u.keep b o e n (fun z => (List.mem_cons.mp (I.stkSub b z)).elim hL hb) hc) (fun b o _ _ hc e n => u.any e n hc) (fun b o hc e n => u.free b o e n hc) (fun b o hc e => u.there b o e hc) u.tups u.frzs u.tbls (fun m' hm => by
    obtain ⟨o', es', ep', ho', r'⟩ := hm
    rw [ho] at ho'; cases ho'
    exact ⟨_, es', ep', hL, r'⟩) hok hg
/-- an untracked record of ours (an iterator) has turned -/
theorem Inv.turned {t' : Nat} {it : Addr} (I : Inv X pins σ H s) (k : ∀ b o, b ≠ it → s.heap.get? b = some o → h'.get? b = some o) (hn : H it = none) (hL : it ≠ X.env.locals)
    (h1 : it ∈ X.ex ∨ X.s₀.heap.objs.size ≤ it) (h2 : ∀ x c, X.env.cells.lookup x = some c → c ≠ it) (h3 : ∀ p ∈ X.pn ++ pins, p.1 ≠ it) : Inv X pins σ H { s with heap := h', toks := t' } := by
  have nit : ∀ b u, H b = some u → b ≠ it := fun b u e z => by rw [z, hn] at e; cases e
  refine I.step (g' := s.gens) (d' := s.drawn) (ch := [it]) (fun b hb => ?_) (fun b o _ _ hc e _ => k b o (fun z => hc (by simp [z])) e) (fun b o _ _ hc e _ => ⟨o.slots, k b o (fun z => hc (by simp [z])) e⟩) (fun _ _ _ _ n => n)
    (fun b o hc e => ⟨o, k b o (fun z => hc (by simp [z])) e⟩) (fun _ _ e => e) (fun _ _ _ e => e) (fun b ps e => ⟨#[], by rw [e]; simp⟩) (fun m hm => ?_) (fun b u e => ?_) I.bare
  · have e : b = it := by simpa using hb
    subst e
    exact ⟨h1, hL, h2, h3⟩
  · obtain ⟨o, es, ep, ho, r⟩ := hm
    exact ⟨o, es, ep, k _ o (Ne.symm hL) ho, r⟩
  · refine (I.hok b u e).stay (fun c v hc q => k c v ?_ q) (fun _ q => q) fun _ _ q => q
    rcases hc with z | z
    · rw [z]; exact nit b u e
    · exact nit c _ z
theorem Inv.tok (I : Inv X pins σ H s) (t : Nat) : Inv X pins σ H { s with toks := t } := I.un (h' := s.heap) (t' := t) Un.refl I.hok
/-- all objects kept -/
theorem Inv.kept {t' : Nat} (I : Inv X pins σ H s) (k : ∀ b u, s.heap.get? b = some u → h'.get? b = some u) : Inv X pins σ H { s with heap := h', toks := t' } := I.un (Un.kept k) (I.hok.kept k)
/-- a new object laid and tracked -/
theorem Inv.laid {a : Addr} {o : HO} {t' : Nat} (I : Inv X pins σ H s) (k : ∀ b u, s.heap.get? b = some u → h'.get? b = some u) (hp : s.heap.objs.size ≤ a) (new : ObjOk X.prog X.w (upd H a o) h' a o) :
    Inv X pins σ (upd H a o) { s with heap := h', toks := t' } := I.un (Un.laid k hp (I.hok.fresh hp)) (I.hok.laid k hp new)
/-- an object written -/
theorem Inv.write {x e : Addr} {o : HO} {t' : Nat} (I : Inv X pins σ H s) (mu : Mut (H x)) (he : e = x ∨ H e = some (.own x)) (k : ∀ b u, b ≠ e → s.heap.get? b = some u → h'.get? b = some u) (heo : ∃ u, h'.get? e = some u)
    (new : ObjOk X.prog X.w (upd H x o) h' x o) : Inv X pins σ (upd H x o) { s with heap := h', toks := t' } := I.un (Un.write mu he k heo) (I.hok.write mu he k heo new)
theorem Inv.pins_of {pins' : List (Addr × Obj)} (I : Inv X pins σ H s) (h : ∀ p ∈ pins', s.heap.get? p.1 = some p.2 ∧ H p.1 = none ∧ p.1 ≠ X.env.locals ∧ p.1 ∉ X.fs ∧ ∀ v, p.2.data ≠ .cell v) : Inv X pins' σ H s :=
  ⟨I.ok, I.os, I.bare, I.base, I.loc, I.cell, I.free, I.freeC, fun p hp => (List.mem_append.mp hp).elim (fun z => I.pin p (List.mem_append_left _ z)) (h p), I.hok, I.len⟩

theorem nodup_ix {N : List Str} (hN : N.Nodup) {i j : Nat} {x : Str} (a : N[i]? = some x) (b : N[j]? = some x) : i = j := by
  obtain ⟨h1, e1⟩ := List.getElem?_eq_some_iff.mp a
  obtain ⟨h2, e2⟩ := List.getElem?_eq_some_iff.mp b
  exact (List.getElem_inj hN).mp (e1.trans e2.symm)

/-- a name is stored; what changed -/
theorem store_ok2 {M : Model} {A : Around} {E : Value → Shared → Prop} {i : Nat} {x : Str} {v : V} {u : Value} {Q : Unit → Shared → Prop} (I : Inv X pins σ H s) (hN : X.N.Nodup) (hi : X.N[i]? = some x) (hx : Loc X.env.scope x) (r : RelV v u)
    (h : ∀ s', Inv X pins (σ.set i (some v)) H s' → (∃ a, Heap.SameBut a s.heap s'.heap ∧ (a = X.env.locals ∨ X.env.cells.lookup x = some a)) → Q () s') (hf : X.fn x = true ∨ X.env.scope.names.lookup x = some .local := by first | exact .inl rfl | exact .inr rfl | assumption) : wpAny M A (storeName X.env x u) Q E s := by
  obtain ⟨m, hn, hl⟩ := id I.loc
  have hcls : (X.env.scope.kind == .class || (X.env.scope.kind == .module && X.env.locals != X.env.globals)) = false := by rw [I.ok.kind]; rfl
  have hiσ : i < σ.length := by rw [I.len]; exact (List.getElem?_eq_some_iff.mp hi).1
  have cne := I.cne
  have tracked : ∀ {a : Addr} {h' : Heap}, (∃ o, s.heap.get? a = some o ∧ H a = none) → Heap.SameBut a s.heap h' → HOk X.prog X.w H h' := fun {a h'} ha hs b ob e => by
    obtain ⟨_, _, hfree⟩ := ha
    refine (I.hok b ob e).stay (fun c w' hc q => (hs.2 c ?_).trans q) (fun _ q => q) fun _ _ q => q
    rintro rfl
    rcases hc with rfl | hc
    · rw [hfree] at e; cases e
    · rw [hfree] at hc; cases hc
  rcases hx with hk | hk
  · refine wpAny_storeName_local hk hn (fun h' hn' hs => ?_) hcls
    obtain ⟨oL, _, _, hoL, _⟩ := id hn
    refine h _ ⟨I.ok, I.os, I.bare, ⟨fun b o e n hb hx => ?_, fun b o e n hb hx => ?_, I.base.free, fun b o e hx => ?_, I.base.tups, I.base.frzs, I.base.tbls⟩, ⟨_, hn', fun j y v' e1 e2 e3 => ?_⟩, fun y c e => ?_, I.free, I.freeC, fun p hp => ?_, tracked ⟨oL, hoL, I.free⟩ hs, by simpa using I.len⟩ ⟨_, hs, .inl rfl⟩
    · exact (hs.2 b (Nat.ne_of_lt (Nat.lt_of_lt_of_le (Heap.lt_size e) I.ok.above))).trans (I.base.keep b o e n hb hx)
    · obtain ⟨sl, e1⟩ := I.base.slot b o e n hb hx
      exact ⟨sl, (hs.2 b (Nat.ne_of_lt (Nat.lt_of_lt_of_le (Heap.lt_size e) I.ok.above))).trans e1⟩
    · obtain ⟨o', e1⟩ := I.base.there b o e hx
      exact ⟨o', (hs.2 b (Nat.ne_of_lt (Nat.lt_of_lt_of_le (Heap.lt_size e) I.ok.above))).trans e1⟩
    · by_cases hj : j = i
      · subst hj
        rw [hi] at e1; cases e1
        rw [List.getElem?_set_self hiσ] at e2
        cases e2
        exact ⟨u, r, .inl ⟨hk, by simp⟩⟩
      · rw [List.getElem?_set_ne (Ne.symm hj)] at e2
        obtain ⟨u', r', q⟩ := hl j y v' e1 e2 e3
        refine ⟨u', r', ?_⟩
        rcases q with ⟨k, e⟩ | ⟨k, c, e, z⟩
        · refine .inl ⟨k, ?_⟩
          have : y ≠ x := fun e => hj (nodup_ix hN e1 (e ▸ hi))
          simp [this, e]
        · exact .inr ⟨k, c, e, z.sameBut hs (cne y c e)⟩
    · obtain ⟨w', z⟩ := I.cell y c e
      exact ⟨w', z.sameBut hs (cne y c e)⟩
    · obtain ⟨e, n, ne, nf, d⟩ := I.pin p hp
      exact ⟨(hs.2 p.1 ne).trans e, n, ne, nf, d⟩
  · have hfn : X.fn x = true := by
      rcases hf with z | z
      · exact z
      · rw [z] at hk; cases hk
    obtain ⟨c, hc⟩ := I.ok.has x (.inl hk)
    obtain ⟨w', z⟩ := I.cell x c hc
    refine wpAny_storeName_cell I.ok.kind hk hc z (fun h' hc' hs => ?_)
    obtain ⟨oc, hoc, hocd⟩ := id z
    refine h { s with heap := h' } ⟨I.ok, I.os, I.bare, ⟨fun b o e n hb hx => ?_, fun b o e n hb hx => ?_, I.base.free, fun b o e hx => ?_, I.base.tups, I.base.frzs, I.base.tbls⟩, ⟨m, hn.sameBut hs (Ne.symm (cne x c hc)), fun j y v' e1 e2 e3 => ?_⟩, fun y c' e => ?_, I.free, I.freeC, fun p hp => ?_, tracked ⟨oc, hoc, I.freeC x c hc⟩ hs, by simpa using I.len⟩ ⟨c, hs, .inr hc⟩
    · exact (hs.2 b (Nat.ne_of_lt (Nat.lt_of_lt_of_le (Heap.lt_size e) (I.ok.cab x c hfn hc)))).trans (I.base.keep b o e n hb hx)
    · obtain ⟨sl, e1⟩ := I.base.slot b o e n hb hx
      exact ⟨sl, (hs.2 b (Nat.ne_of_lt (Nat.lt_of_lt_of_le (Heap.lt_size e) (I.ok.cab x c hfn hc)))).trans e1⟩
    · obtain ⟨o', e1⟩ := I.base.there b o e hx
      exact ⟨o', (hs.2 b (Nat.ne_of_lt (Nat.lt_of_lt_of_le (Heap.lt_size e) (I.ok.cab x c hfn hc)))).trans e1⟩
    · by_cases hj : j = i
      · subst hj
        rw [hi] at e1; cases e1
        rw [List.getElem?_set_self hiσ] at e2
        cases e2
        exact ⟨u, r, .inr ⟨.inl hk, c, hc, hc'⟩⟩
      · rw [List.getElem?_set_ne (Ne.symm hj)] at e2
        obtain ⟨u', r', q⟩ := hl j y v' e1 e2 e3
        refine ⟨u', r', ?_⟩
        rcases q with q | ⟨k, c', e, z'⟩
        · exact .inl q
        · refine .inr ⟨k, c', e, z'.sameBut hs ?_⟩
          rintro rfl
          exact hj (nodup_ix hN e1 (I.ok.inj _ _ _ e hc ▸ hi))
    · by_cases hcc : c' = c
      · subst hcc; exact ⟨_, hc'⟩
      · obtain ⟨w2, z2⟩ := I.cell y c' e
        exact ⟨w2, z2.sameBut hs hcc⟩
    · obtain ⟨e, n, ne, nf, d⟩ := I.pin p hp
      refine ⟨(hs.2 p.1 ?_).trans e, n, ne, nf, d⟩
      intro q
      rw [q, hoc] at e
      have q' : oc = p.2 := Option.some.inj e
      exact d w' (by rw [← q']; exact hocd)
theorem store_ok {M : Model} {A : Around} {E : Value → Shared → Prop} {i : Nat} {x : Str} {v : V} {u : Value} {Q : Unit → Shared → Prop} (I : Inv X pins σ H s) (hN : X.N.Nodup) (hi : X.N[i]? = some x) (hx : Loc X.env.scope x) (r : RelV v u)
    (h : ∀ s', Inv X pins (σ.set i (some v)) H s' → Q () s') (hf : X.fn x = true ∨ X.env.scope.names.lookup x = some .local := by first | exact .inl rfl | exact .inr rfl | assumption) : wpAny M A (storeName X.env x u) Q E s :=
  store_ok2 I hN hi hx r (fun s' I' _ => h s' I') hf
/-- behind a call or a block, the state as it is -/
theorem Inv.call' {s' : Shared} {ch : List Addr} (I : Inv X pins σ H s) (ho : s'.os = s.os) (u : Un (frs X.stack) ch H H' s.heap s'.heap) (hok : HOk X.prog X.w H' s'.heap) (hg : AllBare s'.gens)
    (hch : ∀ b ∈ ch, (b ∈ X.ex ∨ X.s₀.heap.objs.size ≤ b) ∧ b ≠ X.env.locals ∧ (∀ x c, X.env.cells.lookup x = some c → c ≠ b) ∧ ∀ p ∈ X.pn ++ pins, p.1 ≠ b) : Inv X pins σ H' s' := by
  obtain ⟨h', g', d', t', o'⟩ := s'
  have e : o' = s.os := ho
  subst e
  exact I.call (g' := g') (t' := t') (d' := d') u hok hg hch
end

/-! ### the judgements -/
/-- an exception: its class, its own dict's address (where it has one), the abstract heap behind it -/
abbrev XK := Value → Option Addr → Hp → Prop
abbrev St := List (Option V)
abbrev VK := V → Hp → Prop
/-- an expression's reading; a test's; an argument list's -/
abbrev TE := St → Hp → VK → Prop
abbrev TT := St → Hp → (Bool → Hp → Prop) → Prop
abbrev TA := St → Hp → (List V → Hp → Prop) → Prop
/-- what is wanted behind a statement -/
structure Ends where
  nx : St → Hp → Prop
  rt : VK
  bk : St → Hp → Prop := fun _ _ => False
  ct : St → Hp → Prop := fun _ _ => False
abbrev TS := Ends → St → Hp → Prop

def EP (X : Cx) (pins : List (Addr × Obj)) (σ : St) (Q : VK) (u : Value) (s' : Shared) : Prop := ∃ v H', Inv X pins σ H' s' ∧ RelV v u ∧ Q v H'
def TP (X : Cx) (pins : List (Addr × Obj)) (σ : St) (Q : Bool → Hp → Prop) (b : Bool) (s' : Shared) : Prop := ∃ H', Inv X pins σ H' s' ∧ Q b H'
def AP (X : Cx) (pins : List (Addr × Obj)) (σ : St) (Q : List V → Hp → Prop) (us : List Value) (s' : Shared) : Prop := ∃ vs H', Inv X pins σ H' s' ∧ Vals vs us ∧ Q vs H'
def SP (X : Cx) (pins : List (Addr × Obj)) (D : Ends) (f : Flow) (s' : Shared) : Prop :=
  match f with
  | .next => ∃ σ' H', Inv X pins σ' H' s' ∧ D.nx σ' H'
  | .brk => ∃ σ' H', Inv X pins σ' H' s' ∧ D.bk σ' H'
  | .cont => ∃ σ' H', Inv X pins σ' H' s' ∧ D.ct σ' H'
  | .ret u => ∃ v σ' H', Inv X pins σ' H' s' ∧ RelV v u ∧ D.rt v H'

def PE (X : Cx) (e : Expr) (t : TE) : Prop :=
  ∀ (pins : List (Addr × Obj)) (s : Shared) (σ : St) (H : Hp) (Q : VK), Inv X pins σ H s → t σ H Q → wpAny (model X.prog X.w) X.A (eval e X.env) (EP X pins σ Q) X.xe s
def PT (X : Cx) (e : Expr) (t : TT) : Prop :=
  ∀ (pins : List (Addr × Obj)) (s : Shared) (σ : St) (H : Hp) (Q : Bool → Hp → Prop), Inv X pins σ H s → t σ H Q → wpAny (model X.prog X.w) X.A (isTrue e X.env (eval e X.env)) (TP X pins σ Q) X.xe s
/-- a test whatever its 'whole' is (and, or) -/
def PW (X : Cx) (e : Expr) (t : TT) : Prop :=
  ∀ (whole : Sem Value) (pins : List (Addr × Obj)) (s : Shared) (σ : St) (H : Hp) (Q : Bool → Hp → Prop), Inv X pins σ H s → t σ H Q → wpAny (model X.prog X.w) X.A (isTrue e X.env whole) (TP X pins σ Q) X.xe s
theorem PW.pt {X : Cx} {e : Expr} {t : TT} (h : PW X e t) : PT X e t := h _
/-- an argument list (no star), from the left -/
def PA (X : Cx) (es : List Expr) (t : TA) : Prop :=
  ∀ (pos : Pos) (pins : List (Addr × Obj)) (s : Shared) (σ : St) (H : Hp) (Q : List V → Hp → Prop), Inv X pins σ H s → t σ H Q → wpAny (model X.prog X.w) X.A (spliced (backTo pos (starEach es X.env))) (AP X pins σ Q) X.xe s
def PS (X : Cx) (st : Stmt) (t : TS) : Prop :=
  ∀ (pins : List (Addr × Obj)) (s : Shared) (σ : St) (H : Hp) (D : Ends), Inv X pins σ H s → t D σ H → wpAny (model X.prog X.w) X.A (exec st X.env) (SP X pins D) X.xe s
def PSs (X : Cx) (st : List Stmt) (t : TS) : Prop :=
  ∀ (pins : List (Addr × Obj)) (s : Shared) (σ : St) (H : Hp) (D : Ends), Inv X pins σ H s → t D σ H → wpAny (model X.prog X.w) X.A (execs st X.env) (SP X pins D) X.xe s
/-- weaken the end -/
theorem thn {α : Type} {t : Sem α} {Q Q' : α → Shared → Prop} {M : Model} {A : Around} {E : Value → Shared → Prop} {s : Shared} (h : wpAny M A t Q E s) (hQ : ∀ a s, Q a s → Q' a s) : wpAny M A t Q' E s := wpAny_mono h hQ fun _ _ x => x
end L2

namespace L2
open PySem PySem.Spec PyProof.Rows
section
variable {X : Cx}

/-! ### names and constants -/
def tVar (i : Nat) : TE := fun σ H Q => ∃ v, σ[i]? = some (some v) ∧ Q v H
def tC (v : V) : TE := fun _ H Q => Q v H
theorem pe_var {i : Nat} {x : Str} {pos : Pos} (hN : X.N[i]? = some x) (hv : Vis X.env.scope x) (hd : (x == ("__debug__" : Str)) = false := by decide) (hcd : (x == ("__classdict__" : Str)) = false := by decide) : PE X (.Name x pos) (tVar i) := by
  intro pins s σ H Q I h
  obtain ⟨v, e, h⟩ := h
  obtain ⟨m, hn, hl⟩ := I.loc
  obtain ⟨u, r, l⟩ := hl i x v hN e hv
  have fin : EP X pins σ Q u s := ⟨v, H, I, r, h⟩
  rcases l with ⟨hk, hm⟩ | ⟨hk, c, hc, hcell⟩
  · exact wpAny_Name (wpAny_loadName_local I.ok.kind hk hn hm fin) hd
  · rcases hk with hk | hk
    · exact wpAny_Name (wpAny_loadName_cell I.ok.kind hk hc hcell fin) hd
    · exact wpAny_Name (wpAny_loadName_free I.ok.kind hk hc hcell fin hcd) hd
theorem pe_int {i j pos} : PE X (.Constant (.int i) j pos) (tC (.int i)) := fun _ _ _ H _ I h => wpAny_Constant_int ⟨.int i, H, I.tok _, ⟨_, rfl⟩, h⟩
theorem pe_bl {b j pos} : PE X (.Constant (.bool b) j pos) (tC (.bl b)) := fun _ _ _ H _ I h => Constant_bool ⟨.bl b, H, I, rfl, h⟩
theorem pe_non {j pos} : PE X (.Constant .none j pos) (tC .non) := fun _ _ _ H _ I h => Constant_none ⟨.non, H, I, rfl, h⟩
theorem pe_str {x j pos} : PE X (.Constant (.str x) j pos) (tC (.str x)) := fun _ _ _ H _ I h => Calls.Constant_str ⟨.str x, H, I.tok _, ⟨_, rfl⟩, h⟩

/-- a global name of the def -/
def Gl (X : Cx) (x : Str) : Prop := X.env.kindOf x = some .globalImplicit
theorem ld_glob {E : Value → Shared → Prop} {pins : List (Addr × Obj)} {s : Shared} {σ : St} {H : Hp} {x : Str} {u : Value} {pos : Pos} {Q : Value → Shared → Prop} (I : Inv X pins σ H s) (hg : Gl X x) (hm : X.mg x = some u) (h : Q u s)
    (hd : (x == ("__debug__" : Str)) = false := by decide) : wpAny (model X.prog X.w) X.A (eval (.Name x pos) X.env) Q E s :=
  Calls.Name_function_global I.ok.kind hg (Calls.loadGlobal_global (by rw [I.ok.glob]; exact I.mod.glob.keeps I.bk) hm h) hd
theorem ld_blt {E : Value → Shared → Prop} {pins : List (Addr × Obj)} {s : Shared} {σ : St} {H : Hp} {x : Str} {u : Value} {pos : Pos} {Q : Value → Shared → Prop} (I : Inv X pins σ H s) (hg : Gl X x) (hm : X.mg x = none) (hv : bootBuiltins x = some u) (h : Q u s)
    (hn : x ≠ "__name__" := by decide) (hd : (x == ("__debug__" : Str)) = false := by decide) : wpAny (model X.prog X.w) X.A (eval (.Name x pos) X.env) Q E s := by
  obtain ⟨mb, h1, h2⟩ := I.mod.blt
  exact Calls.Name_function_global I.ok.kind hg (Calls.loadGlobal_builtin (by rw [I.ok.glob]; exact I.mod.glob.keeps I.bk) hm (by rw [I.ok.blt]; exact h1.keeps I.bk) ((h2 x hn).trans hv) h) hd
/-- a module's constant, a class, a function, as a value -/
theorem pe_glob {x : Str} {v : V} {u : Value} {pos : Pos} (hg : Gl X x) (hm : X.mg x = some u) (r : RelV v u) (hd : (x == ("__debug__" : Str)) = false := by decide) : PE X (.Name x pos) (tC v) :=
  fun _ _ _ H _ I h => ld_glob I hg hm ⟨v, H, I, r, h⟩ hd
theorem pe_bltn {x : Str} {v : V} {u : Value} {pos : Pos} (hg : Gl X x) (hm : X.mg x = none) (hv : bootBuiltins x = some u) (r : RelV v u) (hn : x ≠ "__name__" := by decide) (hd : (x == ("__debug__" : Str)) = false := by decide) : PE X (.Name x pos) (tC v) :=
  fun _ _ _ H _ I h => ld_blt I hg hm hv ⟨v, H, I, r, h⟩ hn hd

/-! ### arithmetic -/
/-- two ints -/
def t2I (ta tb : TE) (k : Int → Int → Hp → Prop) : St → Hp → Prop := fun σ H => ta σ H fun x H1 => tb σ H1 fun y H2 => ∃ i j, x = .int i ∧ y = .int j ∧ k i j H2
def tAdd (ta tb : TE) : TE := fun σ H Q => t2I ta tb (fun i j H2 => Q (.int (i + j)) H2) σ H
def tSub (ta tb : TE) : TE := fun σ H Q => t2I ta tb (fun i j H2 => Q (.int (i - j)) H2) σ H
/-- the left factor below 2^64 -/
def tMul (ta tb : TE) : TE := fun σ H Q => t2I ta tb (fun i j H2 => (-(2 ^ 64) < i ∧ i < 2 ^ 64) ∧ Q (.int (i * j)) H2) σ H
variable {a b : Expr} {ta tb : TE} {pos : Pos}
/-! ### comparisons -/
def PC (X : Cx) (op : CmpOp) (a b : Expr) (t : TE) : Prop :=
  ∀ (pins : List (Addr × Obj)) (s : Shared) (σ : St) (H : Hp) (Q : VK), Inv X pins σ H s → t σ H Q →
    wpAny (model X.prog X.w) X.A (eval a X.env) (fun v s₁ => wpAny (model X.prog X.w) X.A (eval b X.env) (fun u s₂ => wpAny (model X.prog X.w) X.A (compareOp op v u) (EP X pins σ Q) X.xe s₂) X.xe s₁) X.xe s
def tCmp (p : Int → Int → Bool) (ta tb : TE) : TE := fun σ H Q => t2I ta tb (fun i j H2 => Q (.bl (p i j)) H2) σ H
abbrev tLt : TE → TE → TE := tCmp fun i j => decide (i < j)
abbrev tLe : TE → TE → TE := tCmp fun i j => decide (i ≤ j)
abbrev tGt : TE → TE → TE := tCmp fun i j => decide (j < i)
abbrev tGe : TE → TE → TE := tCmp fun i j => decide (j ≤ i)
abbrev tEqI : TE → TE → TE := tCmp fun i j => decide (i = j)
abbrev tNeI : TE → TE → TE := tCmp fun i j => !decide (i = j)
/-- is None -/
def tIsN (ta : TE) : TE := fun σ H Q => ta σ H fun x H1 => Q (.bl (decide (x = .non))) H1
def tNotN (ta : TE) : TE := fun σ H Q => ta σ H fun x H1 => Q (.bl (!decide (x = .non))) H1
/-- a comparison as a value, as a test -/
def tB (t : TE) : TT := fun σ H Q => t σ H fun x H1 => ∃ c, x = .bl c ∧ Q c H1
/-- an expression whose value is a bool, as a test -/
theorem pt_val {e : Expr} {t : TE} (h : PE X e t) (he : ∀ whole, isTrue e X.env whole = (do let v ← whole; standAt e.pos; holding [v] (truthy v)) := by intro _; rfl) : PT X e (tB t) := by
  intro pins s σ H Q I hw
  refine isTrue_plain (thn (h pins s σ H _ I hw) fun v s1 ⟨x, H1, I1, r1, q1⟩ => ?_) (he _)
  obtain ⟨d, rfl, q⟩ := q1
  cases r1
  exact wpAny_truthy_bool ⟨H1, I1, q⟩

/-! ### and, or, not -/
variable {tA tB' : TT} {rest : List Expr}
def tAnd (t u : TT) : TT := fun σ H Q => t σ H fun c H1 => if c = true then u σ H1 Q else Q false H1
def tOr (t u : TT) : TT := fun σ H Q => t σ H fun c H1 => if c = true then Q true H1 else u σ H1 Q
def tNot (t : TT) : TT := fun σ H Q => t σ H fun c H1 => Q (!c) H1
theorem pw_and1 (ha : PT X a tA) : PW X (.BoolOp .And [a] pos) tA := by
  intro wh pins s σ H Q I h
  refine isTrue_and (thn (ha pins s σ H Q I h) fun c s1 e => ?_)
  cases c with
  | true => exact isTrue_and_nil e
  | false => exact e
theorem pw_or1 (ha : PT X a tA) : PW X (.BoolOp .Or [a] pos) tA := by
  intro wh pins s σ H Q I h
  refine isTrue_or (thn (ha pins s σ H Q I h) fun c s1 e => ?_)
  cases c with
  | false => exact isTrue_or_nil e
  | true => exact e
theorem pw_and (ha : PT X a tA) (hb : PW X (.BoolOp .And (b :: rest) pos) tB') : PW X (.BoolOp .And (a :: b :: rest) pos) (tAnd tA tB') := by
  intro wh pins s σ H Q I h
  refine isTrue_and (thn (ha pins s σ H _ I h) fun c s1 ⟨H1, I1, q1⟩ => ?_)
  cases c with
  | true => exact hb wh pins s1 σ H1 Q I1 q1
  | false => exact ⟨H1, I1, q1⟩
theorem pw_or (ha : PT X a tA) (hb : PW X (.BoolOp .Or (b :: rest) pos) tB') : PW X (.BoolOp .Or (a :: b :: rest) pos) (tOr tA tB') := by
  intro wh pins s σ H Q I h
  refine isTrue_or (thn (ha pins s σ H _ I h) fun c s1 ⟨H1, I1, q1⟩ => ?_)
  cases c with
  | true => exact ⟨H1, I1, q1⟩
  | false => exact hb wh pins s1 σ H1 Q I1 q1
theorem pt_not (ha : PT X a tA) : PT X (.UnaryOp .Not a pos) (tNot tA) := by
  intro pins s σ H Q I h
  exact isTrue_not (ha pins s σ H (fun c H1 => Q (!c) H1) I h)
/-- .. as values (bools) -/
def tAndV (ta tb : TE) : TE := fun σ H Q => ta σ H fun x H1 => ∃ c, x = .bl c ∧ if c = true then tb σ H1 Q else Q (.bl false) H1
def tOrV (ta tb : TE) : TE := fun σ H Q => ta σ H fun x H1 => ∃ c, x = .bl c ∧ if c = true then Q (.bl true) H1 else tb σ H1 Q
def tNotV (ta : TE) : TE := fun σ H Q => ta σ H fun x H1 => ∃ c, x = .bl c ∧ Q (.bl (!c)) H1
theorem pe_one {op} {t : TE} (h : PE X a t) : PE X (.BoolOp op [a] pos) t := fun pins s σ H Q I hw => BoolOp_one (h pins s σ H Q I hw)
theorem pe_and (ha : PE X a ta) (hb : PE X (.BoolOp .And (b :: rest) pos) tb) : PE X (.BoolOp .And (a :: b :: rest) pos) (tAndV ta tb) := by
  intro pins s σ H Q I h
  refine BoolOp_and (thn (ha pins s σ H _ I h) fun v s1 ⟨x, H1, I1, r1, q1⟩ => ?_)
  obtain ⟨c, rfl, q1⟩ := q1
  cases r1
  refine wpAny_truthy_bool ?_
  cases c with
  | true => exact hb pins s1 σ H1 Q I1 q1
  | false => exact ⟨.bl false, H1, I1, rfl, q1⟩
theorem pe_not (ha : PE X a ta) : PE X (.UnaryOp .Not a pos) (tNotV ta) := by
  intro pins s σ H Q I h
  refine UnaryOp_ (thn (ha pins s σ H _ I h) fun v s1 ⟨x, H1, I1, r1, q1⟩ => ?_)
  obtain ⟨c, rfl, q1⟩ := q1
  cases r1
  exact not_of (wpAny_truthy_bool ⟨.bl (!c), H1, I1, rfl, q1⟩)
/-- a if t else b -/
def tIf (t : TT) (ta tb : TE) : TE := fun σ H Q => t σ H fun c H1 => if c = true then ta σ H1 Q else tb σ H1 Q
end
end L2

namespace L2
open PySem PySem.Spec PyProof.Rows

/-! ### a list, a tuple that is read: tracked, frozen, or an object of the module -/
def SqL (K : PySem.W.Frag) (H : Hp) (a : Addr) (xs : List V) : Prop :=
  Rd H a (.lst xs) ∨
    ∃ (o : Obj) (its : Array Value) (n : Nat), K.lookup a = some o ∧ o.cls = .type "list" ∧ o.dict = none ∧ o.data = .seq its n ∧ its.size ≤ sizeLine ∧ Vals xs its.toList
def SqT (K : PySem.W.Frag) (H : Hp) (a : Addr) (xs : List V) : Prop :=
  Rd H a (.tup xs) ∨
    ∃ (o : Obj) (its : Array Value) (n : Nat), K.lookup a = some o ∧ o.cls = .type "tuple" ∧ o.data = .seq its n ∧ its.size ≤ sizeLine ∧ Vals xs its.toList
def absV : Value → Option V
  | .none => some .non
  | .bool b => some (.bl b)
  | .int i _ => some (.int i)
  | .str x _ => some (.str x)
  | .bytes b _ => some (.byt b)
  | .float b _ => some (.flt b)
  | .ref a => some (.ref a)
  | .type n => some (.ty n)
  | _ => none
theorem RelV.abs {x : V} {u : Value} (r : RelV x u) : absV u = some x := by
  cases x with
  | non => cases r; rfl
  | bl _ => cases r; rfl
  | int _ => obtain ⟨t, rfl⟩ := r; rfl
  | str _ => obtain ⟨t, rfl⟩ := r; rfl
  | byt _ => obtain ⟨t, rfl⟩ := r; rfl
  | flt _ => obtain ⟨t, rfl⟩ := r; rfl
  | ref _ => cases r; rfl
  | ty _ => cases r; rfl
theorem RelV.inj {x y : V} {u : Value} (r : RelV x u) (q : RelV y u) : x = y := Option.some.inj (r.abs.symm.trans q.abs)
theorem Vals.inj : ∀ {xs ys : List V} {us : List Value}, Vals xs us → Vals ys us → xs = ys
  | _, _, _, .nil, .nil => rfl
  | _, _, _, .cons r t, .cons r' t' => by rw [r.inj r', Vals.inj t t']
section
variable {X : Cx} {pins : List (Addr × Obj)} {σ : St} {H : Hp} {s : Shared} {a : Addr} {xs ys : List V}
theorem SqL.of {K : PySem.W.Frag} (h : H a = some (.lst xs)) : SqL K H a xs := .inl (.inl h)
theorem SqT.of {K : PySem.W.Frag} (h : H a = some (.tup xs)) : SqT K H a xs := .inl (.inl h)
theorem Inv.list (I : Inv X pins σ H s) (h : SqL X.K H a xs) : ∃ its : List Value, Vals xs its ∧ PlainL s.heap a its.toArray ∧ xs.length ≤ sizeLine := by
  rcases h with h | ⟨o, its, n, hk, hc, hd, hs, hz, r⟩
  · obtain ⟨z, its, n, r, e⟩ := h.ok I.hok
    exact ⟨its, r, ⟨_, n, e, rfl, rfl, rfl⟩, z⟩
  · refine ⟨its.toList, r, ⟨o, n, I.kIn a o hk, hc, hd, by simpa using hs⟩, ?_⟩
    have e := r.length
    simp only [Array.length_toList] at e
    omega
theorem Inv.tuple (I : Inv X pins σ H s) (h : SqT X.K H a xs) : ∃ its : List Value, Vals xs its ∧ IsTup s.heap a its.toArray ∧ xs.length ≤ sizeLine := by
  rcases h with h | ⟨o, its, n, hk, hc, hs, hz, r⟩
  · obtain ⟨z, its, r, p⟩ := h.ok I.hok
    exact ⟨its, r, p, z⟩
  · refine ⟨its.toList, r, ⟨o, I.kIn a o hk, hc, n, by simpa using hs⟩, ?_⟩
    have e := r.length
    simp only [Array.length_toList] at e
    omega
theorem Inv.list_inj (I : Inv X pins σ H s) (h : SqL X.K H a xs) (h' : SqL X.K H a ys) : xs = ys := by
  obtain ⟨its, r, ⟨o, n, e, _, _, d⟩, _⟩ := I.list h
  obtain ⟨its', r', ⟨o', n', e', _, _, d'⟩, _⟩ := I.list h'
  rw [e] at e'; cases e'
  rw [d] at d'
  injection d' with d1 _
  have : its = its' := by simpa using congrArg Array.toList d1
  subst this
  exact r.inj r'
end

/-! ### another wish about exceptions -/
abbrev Cx.wish (X : Cx) (E : Value → Shared → Prop) : Cx := { X with xe := E }
/-- no exception leaves -/
abbrev Cx.nox (X : Cx) : Cx := X.wish fun _ _ => False
theorem Cx.Ok.wish {X : Cx} (ok : X.Ok) (E : Value → Shared → Prop) : (X.wish E).Ok :=
  ⟨ok.mod, ok.kind, ok.glob, ok.blt, ok.above, ok.inj, ok.has, ok.cab, ok.hd, ok.frames, ok.stk, ok.exf, ok.bs, ok.bsz, ok.noex, ok.exfs, ok.funs, ok.frf⟩
theorem Cx.Ok.unwish {X : Cx} {E : Value → Shared → Prop} (ok : (X.wish E).Ok) : X.Ok :=
  ⟨ok.mod, ok.kind, ok.glob, ok.blt, ok.above, ok.inj, ok.has, ok.cab, ok.hd, ok.frames, ok.stk, ok.exf, ok.bs, ok.bsz, ok.noex, ok.exfs, ok.funs, ok.frf⟩
section
variable {X : Cx} {pins : List (Addr × Obj)} {σ : St} {H : Hp} {s : Shared} {E : Value → Shared → Prop}
theorem Inv.wish (I : Inv X pins σ H s) (E : Value → Shared → Prop) : Inv (X.wish E) pins σ H s := ⟨I.ok.wish E, I.os, I.bare, I.base, I.loc, I.cell, I.free, I.freeC, I.pin, I.hok, I.len⟩
theorem Inv.unwish (I : Inv (X.wish E) pins σ H s) : Inv X pins σ H s := ⟨I.ok.unwish, I.os, I.bare, I.base, I.loc, I.cell, I.free, I.freeC, I.pin, I.hok, I.len⟩
theorem SP.unwish {D : Ends} {f : Flow} {s' : Shared} (h : SP (X.wish E) pins D f s') : SP X pins D f s' := by
  cases f with
  | next => obtain ⟨σ', H', I, q⟩ := h; exact ⟨σ', H', I.unwish, q⟩
  | brk => obtain ⟨σ', H', I, q⟩ := h; exact ⟨σ', H', I.unwish, q⟩
  | cont => obtain ⟨σ', H', I, q⟩ := h; exact ⟨σ', H', I.unwish, q⟩
  | ret u => obtain ⟨v, σ', H', I, r, q⟩ := h; exact ⟨v, σ', H', I.unwish, r, q⟩
theorem PE.nox {e : Expr} {t : TE} (h : PE X.nox e t) : PE X e t := fun pins s σ H Q I hw =>
  wpAny_mono (h pins s σ H Q (I.wish _) hw) (fun _ _ ⟨v, H', I', r, q⟩ => ⟨v, H', I'.unwish, r, q⟩) fun _ _ z => False.elim z
theorem PT.nox {e : Expr} {t : TT} (h : PT X.nox e t) : PT X e t := fun pins s σ H Q I hw =>
  wpAny_mono (h pins s σ H Q (I.wish _) hw) (fun _ _ ⟨H', I', q⟩ => ⟨H', I'.unwish, q⟩) fun _ _ z => False.elim z
theorem PSs.nox {st : List Stmt} {t : TS} (h : PSs X.nox st t) : PSs X st t := fun pins s σ H D I hw =>
  wpAny_mono (h pins s σ H D (I.wish _) hw) (fun _ _ q => q.unwish) fun _ _ z => False.elim z
end

/-! ### blocks and small statements -/
section
variable {X : Cx} {st : Stmt} {rest : List Stmt} {t u : TS} {e : Expr} {te : TE} {pos : Pos}
def tNext : TS := fun D σ H => D.nx σ H
def tSeq (t u : TS) : TS := fun D σ H => t { D with nx := u D } σ H
theorem pss_nil : PSs X [] tNext := fun _ _ σ H _ I h => wpAny_execs_nil ⟨σ, H, I, h⟩
theorem pss_cons (h1 : PS X st t) (h2 : PSs X rest u) : PSs X (st :: rest) (tSeq t u) := by
  intro pins s σ H D I h
  refine wpAny_execs_cons (thn (h1 pins s σ H { D with nx := u D } I h) fun f s1 q => ?_)
  cases f with
  | next =>
    obtain ⟨σ', H', I', q⟩ := q
    exact h2 pins s1 σ' H' D I' q
  | ret v => exact q
  | brk => exact q
  | cont => exact q
theorem pss_one (h1 : PS X st t) : PSs X [st] t := by
  intro pins s σ H D I h
  refine wpAny_execs_cons (thn (h1 pins s σ H D I h) fun f s1 q => ?_)
  cases f with
  | next => exact wpAny_execs_nil q
  | ret v => exact q
  | brk => exact q
  | cont => exact q
def tBreak : TS := fun D σ H => D.bk σ H
def tCont : TS := fun D σ H => D.ct σ H
/-- in a def's body nothing is shown -/
theorem Inv.quiet {pins : List (Addr × Obj)} {σ : St} {H : Hp} {s : Shared} (I : Inv X pins σ H s) : interactive X.env = false := by simp [interactive, I.ok.kind]
/-- an expression whose value is dropped -/
def tDrop (te : TE) : TS := fun D σ H => te σ H fun _ H1 => D.nx σ H1
theorem ps_expr (he : PE X e te) (hs : swapsWith e none pos.line X.env = pure false := by rfl) : PS X (.Expr e pos) (tDrop te) := by
  intro pins s σ H D I h
  exact wpAny_Expr_any (thn (he pins s σ H _ I h) fun v s1 ⟨x, H1, I1, r1, q1⟩ => ⟨σ, H1, I1, q1⟩) I.quiet hs
def tRet (te : TE) : TS := fun D σ H => te σ H D.rt
theorem ps_ret (he : PE X e te) : PS X (.Return (some e) pos) (tRet te) := by
  intro pins s σ H D I h
  exact wpAny_Return_some (thn (he pins s σ H _ I h) fun v s1 ⟨x, H1, I1, r1, q1⟩ => ⟨x, σ, H1, I1, r1, q1⟩)
def tRetN : TS := fun D _ H => D.rt .non H
def tIfS (c : TT) (t u : TS) : TS := fun D σ H => c σ H fun b H1 => if b = true then t D σ H1 else u D σ H1
theorem ps_if {c : Expr} {a b : List Stmt} {tc : TT} (hc : PT X c tc) (ha : PSs X a t) (hb : PSs X b u) : PS X (.If c a b pos) (tIfS tc t u) := by
  intro pins s σ H D I h
  refine wpAny_If (thn (hc pins s σ H _ I h) fun d s1 ⟨H1, I1, q1⟩ => ?_)
  cases d with
  | true => exact ha pins s1 σ H1 D I1 q1
  | false => exact hb pins s1 σ H1 D I1 q1
/-- code that the proof never comes to -/
def tNever : TS := fun _ _ _ => False
theorem ps_never : PS X st tNever := fun _ _ _ _ _ _ h => h.elim
end

/-! ### targets -/
abbrev TG := V → St → Hp → (St → Hp → Prop) → Prop
abbrev TGs := List V → St → Hp → (St → Hp → Prop) → Prop
def PG (X : Cx) (target : Expr) (t : TG) : Prop :=
  ∀ (pins : List (Addr × Obj)) (s : Shared) (σ : St) (H : Hp) (v : V) (u : Value) (Q : St → Hp → Prop), Inv X pins σ H s → RelV v u → t v σ H Q →
    wpAny (model X.prog X.w) X.A (assign target X.env u) (fun _ s' => ∃ σ' H', Inv X pins σ' H' s' ∧ Q σ' H') X.xe s
/-- several targets, one after another -/
def PGs (X : Cx) (ts : List Expr) (t : TGs) : Prop :=
  ∀ (pins : List (Addr × Obj)) (s : Shared) (σ : St) (H : Hp) (vs : List V) (us : List Value) (Q : St → Hp → Prop), Inv X pins σ H s → Vals vs us → t vs σ H Q →
    wpAny (model X.prog X.w) X.A (assignInOrder ((assignEach ts X.env).map (·.2)) us) (fun _ s' => ∃ σ' H', Inv X pins σ' H' s' ∧ Q σ' H') X.xe s
/-- o[i] = v, by values -/
abbrev TSet := V → V → V → Hp → (Hp → Prop) → Prop
def PSet (X : Cx) (t : TSet) : Prop :=
  ∀ (pins : List (Addr × Obj)) (s : Shared) (σ : St) (H : Hp) (o i v : V) (ov iv u : Value) (Q : Hp → Prop), Inv X pins σ H s → RelV o ov → RelV i iv → RelV v u → t o i v H Q →
    wpAny (model X.prog X.w) X.A (setItem ov iv u) (fun _ s' => ∃ H', Inv X pins σ H' s' ∧ Q H') X.xe s
/-- a op= b, by values -/
abbrev TIp := V → V → Hp → VK → Prop
def PIp (X : Cx) (op : Operator) (t : TIp) : Prop :=
  ∀ (pins : List (Addr × Obj)) (s : Shared) (σ : St) (H : Hp) (x y : V) (v u : Value) (Q : VK), Inv X pins σ H s → RelV x v → RelV y u → t x y H Q →
    wpAny (model X.prog X.w) X.A (inplaceOp op v u) (EP X pins σ Q) X.xe s
section
variable {X : Cx} {pos : Pos}
def gName (i : Nat) : TG := fun v σ H Q => Q (σ.set i (some v)) H
theorem pg_name {i : Nat} {x : Str} (hN : X.N.Nodup) (hi : X.N[i]? = some x) (hx : Loc X.env.scope x) (hf : X.fn x = true ∨ X.env.scope.names.lookup x = some .local := by first | exact .inl rfl | exact .inr rfl | assumption) : PG X (.Name x pos) (gName i) := by
  intro pins s σ H v u Q I r h
  exact wpAny_assign_Name (store_ok I hN hi hx r (fun s' I' => ⟨_, H, I', h⟩) hf)
def gNil : TGs := fun vs σ H Q => vs = [] ∧ Q σ H
def gCons (t : TG) (u : TGs) : TGs := fun vs σ H Q => ∃ v r, vs = v :: r ∧ t v σ H fun σ' H' => u r σ' H' Q
theorem pgs_nil : PGs X [] gNil := by
  intro pins s σ H vs us Q I r h
  obtain ⟨e, h⟩ := h
  subst e
  cases r
  exact assignInOrder_nil ⟨σ, H, I, h⟩
theorem pgs_cons {e : Expr} {es : List Expr} {t : TG} {u : TGs} (h1 : PG X e t) (h2 : PGs X es u)
    (hs : (assignEach (e :: es) X.env).map (·.2) = assign e X.env :: (assignEach es X.env).map (·.2) := by rfl) : PGs X (e :: es) (gCons t u) := by
  intro pins s σ H vs us Q I r h
  obtain ⟨v, vr, e1, h⟩ := h
  subst e1
  cases r with
  | cons r rr =>
    rw [hs]
    refine assignInOrder_cons (thn (h1 pins s σ H _ _ _ I r h) fun _ s1 ⟨σ1, H1, I1, q1⟩ => ?_)
    exact h2 pins s1 σ1 H1 _ _ Q I1 rr q1
/-- (a, b, ..) = a tuple of that length -/
def gTup (K : PySem.W.Frag) (n : Nat) (t : TGs) : TG := fun v σ H Q => ∃ a xs, v = .ref a ∧ SqT K H a xs ∧ xs.length = n ∧ t xs σ H Q
theorem pg_tup {es : List Expr} {k : Nat} {t : TGs} {n : Nat} (hc : X.calm = true) (h : PGs X es t)
    (hn : (assignEach es X.env).length = n := by rfl) (hst : (assignEach es X.env).findIdx? (·.1) = none := by rfl) : PG X (.Tuple es k pos) (gTup X.K n t) := by
  intro pins s σ H v u Q I r hw
  obtain ⟨a, xs, e1, hq, hl, hw⟩ := hw
  subst e1
  cases r
  obtain ⟨its, rv, ht, hz⟩ := I.tuple hq
  refine assign_Tuple_tuple (I.ok.hd hc) ht (by simp [hn, ← hl, rv.length]) hst fun h' hx => ?_
  have I1 : Inv X pins σ H { s with heap := h' } := I.kept (t' := s.toks) fun b o e => hx b o (Nat.ne_of_lt (Heap.lt_size e)) e
  exact h pins _ σ H xs _ Q I1 (by simpa using rv) hw
/-- o[i] = .. -/
def gSub (to ti : TE) (t : TSet) : TG := fun v σ H Q => to σ H fun o H1 => ti σ H1 fun i H2 => t o i v H2 fun H3 => Q σ H3
theorem pg_sub {o i : Expr} {to ti : TE} {t : TSet} (ho : PE X o to) (hi : PE X i ti) (hs : PSet X t)
    (ha : ∀ v, assign (.Subscript o i pos) X.env v = (do
      let ov ← holding [v] (eval o X.env)
      let iv ← holding [v, ov] (eval i X.env)
      standAt pos
      holding [v, ov, iv] (setItem ov iv v)
      release [v, ov, iv] []) := by intro _; rfl) : PG X (.Subscript o i pos) (gSub to ti t) := by
  intro pins s σ H v u Q I r h
  rw [ha]
  refine wpAny_bind (wpAny_holding (thn (ho pins s σ H _ I h) fun ov s1 ⟨x, H1, I1, r1, q1⟩ => ?_))
  refine wpAny_bind (wpAny_holding (thn (hi pins s1 σ H1 _ I1 q1) fun iv s2 ⟨y, H2, I2, r2, q2⟩ => ?_))
  refine wpAny_bind (wpAny_standAt (wpAny_bind (wpAny_holding (thn (hs pins s2 σ H2 x y v ov iv u _ I2 r1 r2 r q2) fun _ s3 ⟨H3, I3, q3⟩ => ?_))))
  exact wpAny_release ⟨σ, H3, I3, q3⟩
/-- target = value -/
def tAsg (te : TE) (g : TG) : TS := fun D σ H => te σ H fun x H1 => g x σ H1 D.nx
theorem ps_asg {tg e : Expr} {te : TE} {g : TG} (he : PE X e te) (hg : PG X tg g) (hs : swapsWithSole [tg] e pos.line X.env = pure false := by rfl) (hw : swappedStores [tg] e X.env = pure none := by rfl)
    (h1 : (assignEach [tg] X.env).map (·.2) = [assign tg X.env] := by rfl) : PS X (.Assign [tg] e pos) (tAsg te g) := by
  intro pins s σ H D I h
  refine wpAny_Assign_stores (thn (he pins s σ H _ I h) fun v s1 ⟨x, H1, I1, r1, q1⟩ => ?_) hs hw
  rw [h1]
  exact thn (hg pins s1 σ H1 x v _ I1 r1 q1) fun _ s2 q => q
/-- name = value -/
theorem ps_set {i : Nat} {x : Str} {e : Expr} {te : TE} {pos' : Pos} (hN : X.N.Nodup) (hi : X.N[i]? = some x) (hx : Loc X.env.scope x) (he : PE X e te) (hs : swapsWith e (some (.Name x pos')) pos.line X.env = pure false := by rfl) (hf : X.fn x = true ∨ X.env.scope.names.lookup x = some .local := by first | exact .inl rfl | exact .inr rfl | assumption) :
    PS X (.Assign [.Name x pos'] e pos) (tAsg te (gName i)) := by
  intro pins s σ H D I h
  refine wpAny_Assign_Name (thn (he pins s σ H _ I h) fun v s1 ⟨y, H1, I1, r1, q1⟩ => ?_) hs
  exact store_ok I1 hN hi hx r1 (fun s2 I2 => ⟨_, H1, I2, q1⟩) hf
/-- a, b = x, y with plain local names: stored from the right; the pair itself is not tracked (the opening rows as in PyProof/Rows/TupAssign.lean:23) -/
def tPar (i j : Nat) (ta : TA) : TS := fun D σ H => ta σ H fun vs H1 => ∃ v w, vs = [v, w] ∧ D.nx ((σ.set i (some v)).set j (some w)) H1
/-- name op= e -/
def tAug (i : Nat) (te : TE) (ti : TIp) : TS := fun D σ H => ∃ x, σ[i]? = some (some x) ∧ te σ H fun y H1 => ti x y H1 fun z H2 => D.nx (σ.set i (some z)) H2
/-- o[i] op= e -/
def tAugS (to ti te : TE) (tget : V → V → Hp → VK → Prop) (tip : TIp) (tset : TSet) : TS := fun D σ H => to σ H fun o H1 => ti σ H1 fun i H2 => tget o i H2 fun x H3 => te σ H3 fun y H4 => tip x y H4 fun z H5 => tset o i z H5 fun H6 => D.nx σ H6
/-- o[i], by values -/
def PGet (X : Cx) (t : V → V → Hp → VK → Prop) : Prop :=
  ∀ (pins : List (Addr × Obj)) (s : Shared) (σ : St) (H : Hp) (o i : V) (ov iv : Value) (Q : VK), Inv X pins σ H s → RelV o ov → RelV i iv → t o i H Q →
    wpAny (model X.prog X.w) X.A (getItem ov iv) (EP X pins σ Q) X.xe s
/-- ints -/
def ipI (f : Int → Int → Int) : TIp := fun x y H Q => ∃ i j, x = .int i ∧ y = .int j ∧ Q (.int (f i j)) H
end

/-! ### while -/
section
variable {X : Cx} {pos : Pos}
/-- the invariant W with its measure -/
def tWhile (c : TT) (tb : TS) : TS := fun D σ H => ∃ W : Nat → St → Hp → Prop, (∃ m, W m σ H) ∧ ∀ m σ H, W m σ H →
  c σ H fun b H1 => if b = true then ∃ N : St → Hp → Prop, (∀ σ' H', N σ' H' → ∃ m', m' < m ∧ W m' σ' H') ∧ tb { D with nx := N, ct := N, bk := D.nx } σ H1 else D.nx σ H1
theorem ps_while {c : Expr} {body : List Stmt} {tc : TT} {tb : TS} (hp : PassesOwn (model X.prog X.w) X.A X.env X.xe) (hc : PT X c tc) (hb : PSs X body tb) : PS X (.While c body [] pos) (tWhile tc tb) := by
  intro pins s σ H D I h
  obtain ⟨W, ⟨m0, w0⟩, turn⟩ := h
  refine wpAny_While (codeAny_whileLoop (fun n s' => ∃ σ' H', Inv X pins σ' H' s' ∧ W n σ' H') ?_ m0 ⟨σ, H, I, w0⟩)
  rintro n s1 ⟨σ1, H1, I1, w1⟩
  refine wpAny_passesOwn hp (thn (hc pins s1 σ1 H1 _ I1 (turn n σ1 H1 w1)) fun b s2 ⟨H2, I2, q2⟩ => ?_)
  cases b with
  | true =>
    obtain ⟨N, hN, q2⟩ := q2
    rw [if_pos rfl]
    refine wpAny_passesOwn hp (thn (hb pins s2 σ1 H2 _ I2 q2) fun f s3 q3 => ?_)
    cases f with
    | next =>
      obtain ⟨σ3, H3, I3, n3⟩ := q3
      obtain ⟨m', hm, w3⟩ := hN σ3 H3 n3
      exact ⟨m', hm, σ3, H3, I3, w3⟩
    | cont =>
      obtain ⟨σ3, H3, I3, n3⟩ := q3
      obtain ⟨m', hm, w3⟩ := hN σ3 H3 n3
      exact ⟨m', hm, σ3, H3, I3, w3⟩
    | brk => exact q3
    | ret v => exact q3
  | false =>
    rw [if_neg Bool.false_ne_true]
    exact wpAny_execs_nil ⟨σ1, H2, I2, q2⟩
end

/-! ### what a loop or a comprehension walks -/
/-- at turn i: it yields x (the heap may grow), or it stops -/
structure It where
  go : Nat → Hp → Prop
  yld : Nat → Hp → V → Hp → Prop
  stop : Nat → Hp → Prop
/-- the iterator's own objects may turn: they are not the frame's, not pinned, younger than the entry (or a comprehension's own) -/
def FpOk (X : Cx) (pins : List (Addr × Obj)) (H : Hp) (b : Addr) : Prop :=
  H b = none ∧ b ≠ X.env.locals ∧ b ∉ X.fs ∧ (b ∈ X.ex ∨ X.s₀.heap.objs.size ≤ b) ∧ (∀ x c, X.env.cells.lookup x = some c → c ≠ b) ∧ ∀ p ∈ X.pn ++ pins, p.1 ≠ b
theorem Inv.fpOk {X : Cx} {pins : List (Addr × Obj)} {σ : St} {H H' : Hp} {s : Shared} {b : Addr} (I : Inv X pins σ H s) (hb : s.heap.objs.size ≤ b) (hn : H' b = none) : FpOk X pins H' b := by
  refine ⟨hn, Nat.ne_of_gt (Nat.lt_of_lt_of_le I.lt hb), I.nofs hb, .inr (Nat.le_trans I.sz hb), fun x c e z => ?_, fun p hp z => ?_⟩
  · obtain ⟨v, q⟩ := I.cell x c e
    exact absurd (Nat.lt_of_lt_of_le q.lt (by rw [z]; exact hb)) (Nat.lt_irrefl _)
  · exact absurd (Nat.lt_of_lt_of_le (Heap.lt_size (I.pin p hp).1) (by rw [z]; exact hb)) (Nat.lt_irrefl _)
structure Turn (P : Program) (w : World) (K : PySem.W.Frag) (tg : Expr) (J : It) (fp : List Addr) (it : Addr) (tn : Nat → Heap → Prop) : Prop where
  mem : it ∈ fp
  obj : ∀ i h, tn i h → ∀ b ∈ fp, ∃ o, h.get? b = some o ∧ ∀ v, o.data ≠ .cell v
  keep : ∀ i h h', tn i h → (∀ b ∈ fp, ∀ o, h.get? b = some o → h'.get? b = some o) → tn i h'
  item : ∀ (X : Cx), X.prog = P → X.w = w → X.K = K → X.calm = true → ∀ (i : Nat) (pins : List (Addr × Obj)) (s : Shared) (σ : St) (H : Hp) (E : Value → Shared → Prop), Inv X pins σ H s → (∀ b ∈ fp, FpOk X pins H b) → tn i s.heap → J.go i H →
    wpAny (model P w) X.A (pyNext (.ref it)) (fun r s1 => ∃ u, r = some u ∧
      wpAny (model P w) X.A (letOwnedTupleGo tg (.ref it) u) (fun _ s2 => ∃ x H', Inv X pins σ H' s2 ∧ RelV x u ∧ J.yld i H x H' ∧ tn (i + 1) s2.heap ∧ ∀ b ∈ fp, H' b = none) E s1) E s
  done : ∀ (X : Cx), X.prog = P → X.w = w → X.K = K → X.calm = true → ∀ (i : Nat) (pins : List (Addr × Obj)) (s : Shared) (σ : St) (H : Hp) (E : Value → Shared → Prop), Inv X pins σ H s → (∀ b ∈ fp, FpOk X pins H b) → tn i s.heap → J.stop i H →
    wpAny (model P w) X.A (pyNext (.ref it)) (fun r s1 => r = none ∧ Inv X pins σ H s1) E s
  self : ∀ (A : Around) (i : Nat) (s : Shared) (Q : Value → Shared → Prop) (E : Value → Shared → Prop), tn i s.heap → Q (.ref it) s → wpAny (model P w) A (pyIter (.ref it)) Q E s
abbrev TI := St → Hp → (It → Hp → Prop) → Prop
/-- an iterator has come -/
def PIE (X : Cx) (pins : List (Addr × Obj)) (σ : St) (tg : Expr) (R : It → Hp → Prop) (itv : Value) (s2 : Shared) : Prop :=
  ∃ (it : Addr) (fp : List Addr) (tn : Nat → Heap → Prop) (J : It) (H' : Hp), itv = .ref it ∧ Inv X pins σ H' s2 ∧ Turn X.prog X.w X.K tg J fp it tn ∧ tn 0 s2.heap ∧ (∀ b ∈ fp, FpOk X pins H' b) ∧ R J H'
def PI (X : Cx) (tg iter : Expr) (wi : TI) : Prop :=
  ∀ (pins : List (Addr × Obj)) (s : Shared) (σ : St) (H : Hp) (R : It → Hp → Prop), Inv X pins σ H s → wi σ H R →
    wpAny (model X.prog X.w) X.A (eval iter X.env) (fun v s1 => wpAny (model X.prog X.w) X.A (pyIter v) (PIE X pins σ tg R) X.xe s1) X.xe s

/-- the step ahead of the store is nothing for an iterator that keeps no tuple -/
theorem go_of {M : Model} {A : Around} {E : Value → Shared → Prop} {s : Shared} {tg : Expr} {it : Addr} {u : Value} {o : Obj} {n : String} {vs : Array Value} {Q : Unit → Shared → Prop} (ho : s.heap.get? it = some o) (hc : o.cls = .type n) (hd : o.data = .fields vs)
    (hn : ["enumerate", "zip", "dict_itemiterator", "dict_reverseitemiterator", "odict_iterator", "itertools.zip_longest", "itertools.pairwise"].contains n = false) (hQ : Q () s) : wpAny M A (letOwnedTupleGo tg (.ref it) u) Q E s := by
  unfold letOwnedTupleGo
  cases tg <;> first
    | exact wpAny_pure hQ
    | (cases u <;> first
        | exact wpAny_pure hQ
        | (refine wpAny_bind (wpAny_load ho ?_)
           rw [hc, hd]
           show wpAny M A (if (["enumerate", "zip", "dict_itemiterator", "dict_reverseitemiterator", "odict_iterator", "itertools.zip_longest", "itertools.pairwise"].contains n && vs[0]? == some (rawInt _)) = true then _ else _) Q E s
           rw [if_neg (by intro h; rw [hn, Bool.false_and] at h; cases h)]
           exact wpAny_pure hQ))

/-- the list at a, as it stands at each turn (a loop may append to it) -/
def Itl (K : PySem.W.Frag) (a : Addr) : It :=
  ⟨fun i H => ∃ xs x, SqL K H a xs ∧ xs[i]? = some x, fun i H x H' => H' = H ∧ ∀ xs, SqL K H a xs → xs[i]? = some x, fun i H => ∃ xs, SqL K H a xs ∧ xs.length ≤ i⟩
def Itt (K : PySem.W.Frag) (a : Addr) : It :=
  ⟨fun i H => ∃ xs x, SqT K H a xs ∧ xs[i]? = some x, fun i H x H' => H' = H ∧ ∀ xs, SqT K H a xs → xs[i]? = some x, fun i H => ∃ xs, SqT K H a xs ∧ xs.length ≤ i⟩
/-- lo, lo + 1, .. (n of them) -/
def Itr (lo : Int) (n : Nat) : It := ⟨fun i _ => i < n, fun i H x H' => H' = H ∧ x = .int (lo + i), fun i _ => n ≤ i⟩
theorem turn_list {P : Program} {w : World} {K : PySem.W.Frag} {tg : Expr} (a it : Addr) : Turn P w K tg (Itl K a) [it] it (fun i h => h.IsListIter it a i) where
  mem := by simp
  obj := fun i h st b hb => by
    have e : b = it := by simpa using hb
    subst e
    obtain ⟨o, e, c, d⟩ := st
    exact ⟨o, e, fun v z => by rw [d] at z; cases z⟩
  keep := fun i h h' st k => st.at fun o e => k it (by simp) o e
  item := by
    intro X hP hw hK hc i pins s σ H E I hf st hg
    subst hP hw hK
    obtain ⟨xs, x, hq, hx⟩ := hg
    obtain ⟨its, rv, p, hz⟩ := I.list hq
    obtain ⟨u, hu, ru⟩ := rv.get hx
    obtain ⟨f0, f1, f2, f3, f4, f5⟩ := hf it (by simp)
    refine wpAny_pyNext_list_item st p.isList (x := u) (by simpa using hu) fun h' st' sb => ?_
    have I1 : Inv X pins σ H { s with heap := h' } := I.turned (t' := s.toks) (fun b o hb e => (sb.2 b hb).trans e) f0 f1 f3 f4 f5
    obtain ⟨o, e, c, d⟩ := id st'
    exact ⟨u, rfl, go_of (s := { s with heap := h' }) e c d (by decide) ⟨x, H, I1, ru, ⟨rfl, fun ys hy => by rw [I.list_inj hy hq]; exact hx⟩, st', fun b hb => (hf b hb).1⟩⟩
  done := by
    intro X hP hw hK hc i pins s σ H E I hf st hg
    subst hP hw hK
    obtain ⟨xs, hq, hx⟩ := hg
    obtain ⟨its, rv, p, hz⟩ := I.list hq
    obtain ⟨f0, f1, f2, f3, f4, f5⟩ := hf it (by simp)
    have hl := rv.length
    exact wpAny_pyNext_list_end (I.ok.hd hc) st p.isList (by simp; omega) fun h' eb => ⟨rfl, I.turned (t' := s.toks) (fun b o hb e => eb b o hb e) f0 f1 f3 f4 f5⟩
  self := fun _ _ _ _ _ st h => wpAny_pyIter_listiter st h
theorem turn_range {P : Program} {w : World} {K : PySem.W.Frag} {tg : Expr} (it : Addr) (lo : Int) (n : Nat) : Turn P w K tg (Itr lo n) [it] it (fun i h => IsRangeIter h it (lo + (i : Nat) * 1) ((n : Int) - (i : Nat)) 1) where
  mem := by simp
  obj := fun i h st b hb => by
    have e : b = it := by simpa using hb
    subst e
    exact ⟨_, st, fun v z => by
      have z' : Data.fields _ = Data.cell v := z
      cases z'⟩
  keep := fun i h h' st k => k it (by simp) _ st
  item := by
    intro X hP hw hK hc i pins s σ H E I hf st hg
    subst hP hw hK
    obtain ⟨f0, f1, f2, f3, f4, f5⟩ := hf it (by simp)
    have W := Walks.range (prog := X.prog) (w := X.w) (I.ok.hd hc) it lo 1 n
    refine W.item i s _ _ hg st fun v h' tk hv st' kk => ?_
    obtain ⟨t, rfl⟩ := hv
    have I1 : Inv X pins σ H { s with heap := h', toks := tk } := I.turned (fun b o hb e => kk b o (by simpa using hb) e) f0 f1 f3 f4 f5
    refine ⟨_, rfl, go_of (s := { s with heap := h', toks := tk }) (n := "range_iterator") st' rfl rfl (by decide) ⟨.int (lo + i), H, I1, ⟨t, ?_⟩, ⟨rfl, rfl⟩, st', fun b hb => (hf b hb).1⟩⟩
    rw [Int.mul_one]
  done := by
    intro X hP hw hK hc i pins s σ H E I hf st hg
    subst hP hw hK
    obtain ⟨f0, f1, f2, f3, f4, f5⟩ := hf it (by simp)
    exact wpAny_pyNext_range_end (I.ok.hd hc) st (by have : n ≤ i := hg; omega) fun h' eb => ⟨rfl, I.turned (t' := s.toks) (fun b o hb e => eb b o hb e) f0 f1 f3 f4 f5⟩
  self := fun _ _ _ _ _ st h => wpAny_pyIter_rangeiter st h
end L2

namespace L2
open PySem PySem.Spec PyProof.Rows
section
variable {X : Cx} {tg : Expr}
def iList (K : PySem.W.Frag) (tl : TE) : TI := fun σ H R => tl σ H fun x H1 => ∃ a, x = .ref a ∧ (∃ xs, SqL K H1 a xs) ∧ R (Itl K a) H1
def iTup (K : PySem.W.Frag) (tl : TE) : TI := fun σ H R => tl σ H fun x H1 => ∃ a, x = .ref a ∧ (∃ xs, SqT K H1 a xs) ∧ R (Itt K a) H1
theorem pi_list {l : Expr} {tl : TE} (hl : PE X l tl) : PI X tg l (iList X.K tl) := by
  intro pins s σ H R I h
  refine thn (hl pins s σ H _ I h) fun v s1 ⟨x, H1, I1, r1, q1⟩ => ?_
  obtain ⟨a, e, ⟨xs, hq⟩, q⟩ := q1
  subst e
  cases r1
  obtain ⟨its, rv, p, hz⟩ := I1.list hq
  refine wpAny_pyIter_list p.isList ?_
  refine ⟨s1.heap.objs.size, [s1.heap.objs.size], _, _, H1, rfl, I1.kept (t' := s1.toks) fun b o e => Heap.get?_push_of_some _ e, turn_list a _, ⟨_, Heap.get?_push_size _ rfl, rfl, rfl⟩, fun b hb => ?_, q⟩
  have e : b = s1.heap.objs.size := by simpa using hb
  subst e
  exact I1.fpOk (Nat.le_refl _) (I1.hok.fresh (Nat.le_refl _))
/-- a range object just made, walked -/
theorem range_it {pins : List (Addr × Obj)} {σ : St} {H : Hp} {s : Shared} {R : It → Hp → Prop} {E : Value → Shared → Prop} {lo hi : Int} {t u v : Tok} {tk : Nat} (I : Inv X pins σ H s) (h1 : -(2 ^ 62) ≤ lo) (h2 : lo < 2 ^ 62) (h3 : -(2 ^ 62) ≤ hi) (h4 : hi < 2 ^ 62)
    (q : R (Itr lo (hi - lo).toNat) H) : wpAny (model X.prog X.w) X.A (pyIter (.ref s.heap.objs.size)) (PIE X pins σ tg R) E { s with heap := s.heap.push { cls := .type "range", data := .fields #[.int lo t, .int hi u, .int 1 v] }, toks := tk } := by
  refine wpAny_pyIter_range (IsRange.new ..) (small_one h1 h2 h3 h4) ?_
  have I1 : Inv X pins σ H { s with heap := s.heap.push { cls := .type "range", data := .fields #[.int lo t, .int hi u, .int 1 v] }, toks := tk } := I.kept fun b o e => Heap.get?_push_of_some _ e
  refine ⟨(s.heap.push { cls := .type "range", data := .fields #[.int lo t, .int hi u, .int 1 v] }).objs.size, [(s.heap.push { cls := .type "range", data := .fields #[.int lo t, .int hi u, .int 1 v] }).objs.size], _, _, H, rfl,
    I1.kept (t' := tk) fun b o e => Heap.get?_push_of_some _ e, turn_range _ lo (hi - lo).toNat, ?_, fun b hb => ?_, q⟩
  · have e1 : lo + ((0 : Nat) : Int) * 1 = lo := by simp
    have e2 : (((hi - lo).toNat : Nat) : Int) - ((0 : Nat) : Int) = Builtin.Range.rangeSize lo hi 1 := by rw [rangeSize_one]; split <;> omega
    show IsRangeIter _ _ (lo + ((0 : Nat) : Int) * 1) ((((hi - lo).toNat : Nat) : Int) - ((0 : Nat) : Int)) 1
    rw [e1, e2]
    exact Heap.get?_push_size _ rfl
  · have e : b = (s.heap.push { cls := .type "range", data := .fields #[.int lo t, .int hi u, .int 1 v] }).objs.size := by simpa using hb
    subst e
    exact I1.fpOk (Nat.le_refl _) (I1.hok.fresh (Nat.le_refl _))
def iRng1 (ta : TA) : TI := fun σ H R => ta σ H fun vs H1 => ∃ j : Int, vs = [.int j] ∧ -(2 ^ 62) ≤ j ∧ j < 2 ^ 62 ∧ R (Itr 0 j.toNat) H1
def iRng2 (ta : TA) : TI := fun σ H R => ta σ H fun vs H1 => ∃ i j : Int, vs = [.int i, .int j] ∧ (-(2 ^ 62) ≤ i ∧ i < 2 ^ 62 ∧ -(2 ^ 62) ≤ j ∧ j < 2 ^ 62) ∧ R (Itr i (j - i).toNat) H1
theorem pi_range1 {a : Expr} {ta : TA} {p pos : Pos} (hg : Gl X "range") (hm : X.mg "range" = none) (ha : PA X [a] ta) (hs : starEach [a] X.env = [(false, eval a X.env)] := by rfl) : PI X tg (.Call (.Name "range" p) [a] [] pos) (iRng1 ta) := by
  intro pins s σ H R I h
  refine Call_ (ld_blt I hg hm boot_range (PyProof.Rows.callWith_type1 (thn (ha pos pins s σ H _ I h) fun us s1 ⟨vs, H1, I1, r1, q1⟩ => ?_) hs rfl))
  obtain ⟨j, e, q1, q2, q⟩ := q1
  subst e
  cases r1 with
  | cons r rr =>
    cases rr
    obtain ⟨t, rfl⟩ := r
    exact call_range_1 (range_it I1 (by omega) (by omega) q1 q2 (by simpa using q))
/-! ### for -/
/-- W: the invariant by the turn and a measure; N: what the body is to reach -/
def tFor (wi : TI) (g : TG) (tb : TS) : TS := fun D σ H => wi σ H fun J H1 => ∃ W : Nat → Nat → St → Hp → Prop, (∃ m, W 0 m σ H1) ∧ ∀ i m σ H, W i m σ H →
  (J.stop i H ∧ D.nx σ H) ∨ (J.go i H ∧ ∃ N : St → Hp → Prop, (∀ σ' H', N σ' H' → ∃ m', m' < m ∧ W (i + 1) m' σ' H') ∧ ∀ x H', J.yld i H x H' → g x σ H' fun σ2 H2 => tb { D with nx := N, ct := N, bk := D.nx } σ2 H2)
/-- the records at fp as they stand -/
def pinsAt (fp : List Addr) (h : Heap) : List (Addr × Obj) := fp.filterMap fun b => (h.get? b).map fun o => (b, o)
theorem mem_pinsAt {fp : List Addr} {h : Heap} {b : Addr} {o : Obj} (hb : b ∈ fp) (e : h.get? b = some o) : (b, o) ∈ pinsAt fp h := List.mem_filterMap.mpr ⟨b, hb, by rw [e]; rfl⟩
theorem of_pinsAt {fp : List Addr} {h : Heap} {p : Addr × Obj} (hp : p ∈ pinsAt fp h) : p.1 ∈ fp ∧ h.get? p.1 = some p.2 := by
  obtain ⟨b, hb, e⟩ := List.mem_filterMap.mp hp
  cases q : h.get? b with
  | none => rw [q] at e; cases e
  | some o =>
    rw [q] at e
    have e' : (b, o) = p := Option.some.inj e
    subst e'
    exact ⟨hb, q⟩
theorem Inv.pinned {pins : List (Addr × Obj)} {σ : St} {H : Hp} {s : Shared} {fp : List Addr} (I : Inv X pins σ H s) (hf : ∀ b ∈ fp, FpOk X pins H b) (ho : ∀ b ∈ fp, ∃ o, s.heap.get? b = some o ∧ ∀ v, o.data ≠ .cell v) : Inv X (pins ++ pinsAt fp s.heap) σ H s :=
  I.pins_of fun p hp => (List.mem_append.mp hp).elim (fun z => I.pin p (List.mem_append_right _ z)) fun z => by
    obtain ⟨hb, e⟩ := of_pinsAt z
    obtain ⟨f0, f1, f2, _⟩ := hf p.1 hb
    obtain ⟨o, e', d⟩ := ho p.1 hb
    rw [e] at e'; cases e'
    exact ⟨e, f0, f1, f2, d⟩
theorem Inv.unpinned {pins pl : List (Addr × Obj)} {σ : St} {H : Hp} {s : Shared} (I : Inv X (pins ++ pl) σ H s) : Inv X pins σ H s := I.pins_of fun p hp => I.pin p (List.mem_append_right _ (List.mem_append_left _ hp))
theorem ps_for {iter : Expr} {body : List Stmt} {wi : TI} {g : TG} {tb : TS} {pos : Pos} (hp : PassesOwn (model X.prog X.w) X.A X.env X.xe) (hc : X.calm = true) (hi : PI X tg iter wi) (hg : PG X tg g) (hb : PSs X body tb)
    (hs : ∀ x, foldedSetIterable iter X.env x = pure x := by intro _; rfl) : PS X (.For tg iter body [] pos) (tFor wi g tb) := by
  intro pins s σ H D I h
  refine wpAny_For (thn (hi pins s σ H _ I h) fun v s1 h1 => thn h1 fun itv s2 h2 => ?_) hs
  obtain ⟨it, fp, tn, J, H2, e, I2, T, st2, f2, W, ⟨m0, w0⟩, turn⟩ := h2
  subst e
  -- what stays true of the iterator's objects through the loop
  have stat : ∀ {H' : Hp}, (∀ b ∈ fp, H' b = none) → ∀ b ∈ fp, FpOk X pins H' b := fun hn b hb => ⟨hn b hb, (f2 b hb).2⟩
  refine codeAny_forLoop_any (fun n s' => ∃ i σ' H', Inv X pins σ' H' s' ∧ tn i s'.heap ∧ (∀ b ∈ fp, H' b = none) ∧ W i n σ' H') ?_ m0 ⟨0, σ, H2, I2, st2, fun b hb => (f2 b hb).1, w0⟩
  rintro n s3 ⟨i, σ3, H3, I3, st3, fr3, w3⟩
  rcases turn i n σ3 H3 w3 with ⟨stop, qn⟩ | ⟨go, N, hN, step⟩
  · refine wpAny_passesOwn hp (thn (T.done X rfl rfl rfl hc i pins s3 σ3 H3 X.xe I3 (stat fr3) st3 stop) fun r s4 ⟨hr, I4⟩ => ?_)
    subst hr
    exact wpAny_execs_nil ⟨σ3, H3, I4, qn⟩
  · refine wpAny_passesOwn hp (thn (T.item X rfl rfl rfl hc i pins s3 σ3 H3 X.xe I3 (stat fr3) st3 go) fun r s4 ⟨u, hr, h4⟩ => ?_)
    subst hr
    refine wpAny_passesOwn hp (thn h4 fun _ s5 ⟨x, H5, I5, r5, y5, st5, fr5⟩ => ?_)
    have I5' := I5.pinned (stat fr5) (T.obj _ _ st5)
    refine wpAny_passesOwn hp (thn (hg _ s5 σ3 H5 x u _ I5' r5 (step x H5 y5)) fun _ s6 ⟨σ6, H6, I6, q6⟩ => ?_)
    refine wpAny_passesOwn hp (thn (hb _ s6 σ6 H6 _ I6 q6) fun f s7 q7 => ?_)
    have again : ∀ {σ7 : St} {H7 : Hp}, Inv X (pins ++ pinsAt fp s5.heap) σ7 H7 s7 → N σ7 H7 → ∃ m, m < n ∧ ∃ i σ' H', Inv X pins σ' H' s7 ∧ tn i s7.heap ∧ (∀ b ∈ fp, H' b = none) ∧ W i m σ' H' := fun {σ7 H7} I7 n7 => by
      obtain ⟨m', hm, w7⟩ := hN σ7 H7 n7
      refine ⟨m', hm, i + 1, σ7, H7, I7.unpinned, T.keep _ _ _ st5 fun b hb o e => (I7.pin (b, o) (List.mem_append_right _ (List.mem_append_right _ (mem_pinsAt hb e)))).1, fun b hb => ?_, w7⟩
      obtain ⟨o, e, d⟩ := T.obj _ _ st5 b hb
      exact (I7.pin (b, o) (List.mem_append_right _ (List.mem_append_right _ (mem_pinsAt hb e)))).2.1
    cases f with
    | next => obtain ⟨σ7, H7, I7, n7⟩ := q7; exact again I7 n7
    | cont => obtain ⟨σ7, H7, I7, n7⟩ := q7; exact again I7 n7
    | brk => obtain ⟨σ7, H7, I7, q7⟩ := q7; exact ⟨σ7, H7, I7.unpinned, q7⟩
    | ret v => obtain ⟨x7, σ7, H7, I7, r7, q7⟩ := q7; exact ⟨x7, σ7, H7, I7.unpinned, r7, q7⟩
end

/-! ### the forms one uses -/
/-- over a list that the body leaves as it is -/
theorem for_list {K : PySem.W.Frag} {a : Addr} {xs : List V} {g : TG} {tb : TS} {D : Ends} {σ : St} {H : Hp} (Pv : Nat → St → Hp → Prop) (h0 : Pv 0 σ H) (hl : ∀ i σ H, i ≤ xs.length → Pv i σ H → SqL K H a xs)
    (hs : ∀ i x σ H, xs[i]? = some x → Pv i σ H → g x σ H fun σ2 H2 => tb { D with nx := Pv (i + 1), ct := Pv (i + 1), bk := D.nx } σ2 H2) (hd : ∀ σ H, Pv xs.length σ H → D.nx σ H) :
    ∃ W : Nat → Nat → St → Hp → Prop, (∃ m, W 0 m σ H) ∧ ∀ i m σ H, W i m σ H →
      ((Itl K a).stop i H ∧ D.nx σ H) ∨ ((Itl K a).go i H ∧ ∃ N : St → Hp → Prop, (∀ σ' H', N σ' H' → ∃ m', m' < m ∧ W (i + 1) m' σ' H') ∧ ∀ x H', (Itl K a).yld i H x H' → g x σ H' fun σ2 H2 => tb { D with nx := N, ct := N, bk := D.nx } σ2 H2) := by
  refine ⟨fun i m σ H => m = xs.length - i ∧ i ≤ xs.length ∧ Pv i σ H, ⟨xs.length, by simp, Nat.zero_le _, h0⟩, ?_⟩
  rintro i m σ H ⟨rfl, hi, p⟩
  have q := hl i σ H hi p
  by_cases hlt : i < xs.length
  · refine .inr ⟨⟨xs, xs[i], q, by simp [hlt]⟩, Pv (i + 1), fun σ' H' p' => ⟨xs.length - (i + 1), by omega, rfl, hlt, p'⟩, fun x H' y => ?_⟩
    obtain ⟨e, y⟩ := y
    subst e
    exact hs i x σ _ (y xs q) p
  · have e : i = xs.length := by omega
    subst e
    exact .inl ⟨⟨xs, q, Nat.le_refl _⟩, hd σ H p⟩
theorem for_range {lo : Int} {n : Nat} {g : TG} {tb : TS} {D : Ends} {σ : St} {H : Hp} (Pv : Nat → St → Hp → Prop) (h0 : Pv 0 σ H)
    (hs : ∀ i σ H, i < n → Pv i σ H → g (.int (lo + i)) σ H fun σ2 H2 => tb { D with nx := Pv (i + 1), ct := Pv (i + 1), bk := D.nx } σ2 H2) (hd : ∀ σ H, Pv n σ H → D.nx σ H) :
    ∃ W : Nat → Nat → St → Hp → Prop, (∃ m, W 0 m σ H) ∧ ∀ i m σ H, W i m σ H →
      ((Itr lo n).stop i H ∧ D.nx σ H) ∨ ((Itr lo n).go i H ∧ ∃ N : St → Hp → Prop, (∀ σ' H', N σ' H' → ∃ m', m' < m ∧ W (i + 1) m' σ' H') ∧ ∀ x H', (Itr lo n).yld i H x H' → g x σ H' fun σ2 H2 => tb { D with nx := N, ct := N, bk := D.nx } σ2 H2) := by
  refine ⟨fun i m σ H => m = n - i ∧ i ≤ n ∧ Pv i σ H, ⟨n, by simp, Nat.zero_le _, h0⟩, ?_⟩
  rintro i m σ H ⟨rfl, hi, p⟩
  by_cases hlt : i < n
  · refine .inr ⟨hlt, Pv (i + 1), fun σ' H' p' => ⟨n - (i + 1), by omega, rfl, hlt, p'⟩, fun x H' y => ?_⟩
    obtain ⟨e, y⟩ := y
    subst e y
    exact hs i σ _ hlt p
  · have e : i = n := by omega
    subst e
    exact .inl ⟨Nat.le_refl _, hd σ H p⟩
/-- while, by a word and a measure of the state -/
theorem while_by {c : TT} {tb : TS} {D : Ends} {σ : St} {H : Hp} (Pv : St → Hp → Prop) (μ : St → Hp → Nat) (h0 : Pv σ H)
    (hs : ∀ σ H, Pv σ H → c σ H fun b H1 => if b = true then tb { D with nx := fun σ' H' => Pv σ' H' ∧ μ σ' H' < μ σ H, ct := fun σ' H' => Pv σ' H' ∧ μ σ' H' < μ σ H, bk := D.nx } σ H1 else D.nx σ H1)
    (mono : ∀ σ H Q Q', (∀ b H1, Q b H1 → Q' b H1) → c σ H Q → c σ H Q') : tWhile c tb D σ H := by
  refine ⟨fun m σ H => m = μ σ H ∧ Pv σ H, ⟨_, rfl, h0⟩, ?_⟩
  rintro m σ H ⟨rfl, p⟩
  refine mono σ H _ _ (fun b H1 q => ?_) (hs σ H p)
  cases b with
  | true => exact ⟨_, fun σ' H' ⟨p', l⟩ => ⟨_, l, rfl, p'⟩, q⟩
  | false => exact q
end L2

namespace L2
open PySem PySem.Spec PyProof.Rows

abbrev R2 := V → V → Hp → VK → Prop
/-- a two-place operation on values: f is binaryOp op, inplaceOp op or compareOp op -/
def OpR (X : Cx) (f : Value → Value → Sem Value) (r : R2) : Prop :=
  ∀ (pins : List (Addr × Obj)) (s : Shared) (σ : St) (H : Hp) (x y : V) (v u : Value) (Q : VK), Inv X pins σ H s → RelV x v → RelV y u → r x y H Q →
    wpAny (model X.prog X.w) X.A (f v u) (EP X pins σ Q) X.xe s
/-- a one-place operation -/
def UnR (X : Cx) (f : Value → Sem Value) (r : V → Hp → VK → Prop) : Prop :=
  ∀ (pins : List (Addr × Obj)) (s : Shared) (σ : St) (H : Hp) (x : V) (v : Value) (Q : VK), Inv X pins σ H s → RelV x v → r x H Q →
    wpAny (model X.prog X.w) X.A (f v) (EP X pins σ Q) X.xe s
/-- a call of a value that is known (a builtin, a type) with values -/
def CallR (X : Cx) (f : Value) (r : List V → Hp → VK → Prop) : Prop :=
  ∀ (pins : List (Addr × Obj)) (s : Shared) (σ : St) (H : Hp) (xs : List V) (us : List Value) (Q : VK), Inv X pins σ H s → Vals xs us → r xs H Q →
    wpAny (model X.prog X.w) X.A (call f us) (EP X pins σ Q) X.xe s
/-- a value's truth -/
def TruR (X : Cx) (r : V → Hp → (Bool → Hp → Prop) → Prop) : Prop :=
  ∀ (pins : List (Addr × Obj)) (s : Shared) (σ : St) (H : Hp) (x : V) (v : Value) (Q : Bool → Hp → Prop), Inv X pins σ H s → RelV x v → r x H Q →
    wpAny (model X.prog X.w) X.A (truthy v) (TP X pins σ Q) X.xe s

def tOp (r : R2) (ta tb : TE) : TE := fun σ H Q => ta σ H fun x H1 => tb σ H1 fun y H2 => r x y H2 Q
def tUn (r : V → Hp → VK → Prop) (ta : TE) : TE := fun σ H Q => ta σ H fun x H1 => r x H1 Q
/-- ints in, under C, and a value out -/
def rI (C : Int → Int → Prop) (g : Int → Int → V) : R2 := fun x y H Q => ∃ i j, x = .int i ∧ y = .int j ∧ C i j ∧ Q (g i j) H
def rI0 (g : Int → Int → V) : R2 := fun x y H Q => ∃ i j, x = .int i ∧ y = .int j ∧ Q (g i j) H
def rU (g : Int → V) : V → Hp → VK → Prop := fun x H Q => ∃ i, x = .int i ∧ Q (g i) H

section
variable {X : Cx} {a b c : Expr} {ta tb tc : TE} {pos : Pos}

theorem binT (ha : PE X a ta) (hb : PE X b tb) {pins : List (Addr × Obj)} {s : Shared} {σ : St} {H : Hp} {R : V → V → Hp → Prop} (I : Inv X pins σ H s)
    (h : ta σ H fun x H1 => tb σ H1 fun y H2 => R x y H2) {Q : Value → Shared → Prop} {f : Value → Value → Sem Value}
    (hf : ∀ v u s2 x y H2, Inv X pins σ H2 s2 → RelV x v → RelV y u → R x y H2 → wpAny (model X.prog X.w) X.A (f v u) Q X.xe s2) :
    wpAny (model X.prog X.w) X.A (eval a X.env) (fun v s₁ => wpAny (model X.prog X.w) X.A (eval b X.env) (fun u s₂ => wpAny (model X.prog X.w) X.A (f v u) Q X.xe s₂) X.xe s₁) X.xe s := by
  refine thn (ha pins s σ H _ I h) fun v s1 ⟨x, H1, I1, r1, q1⟩ => ?_
  refine thn (hb pins s1 σ H1 _ I1 q1) fun u s2 ⟨y, H2, I2, r2, q2⟩ => ?_
  exact hf v u s2 x y H2 I2 r1 r2 q2

theorem pe_op {op : Operator} {r : R2} (ho : OpR X (binaryOp op) r) (ha : PE X a ta) (hb : PE X b tb) : PE X (.BinOp a op b pos) (tOp r ta tb) := by
  intro pins s σ H Q I h
  exact wpAny_BinOp (binT ha hb I h fun v u s2 x y H2 I2 rx ry q => ho pins s2 σ H2 x y v u Q I2 rx ry q)
theorem pe_un {op : UnaryOp} {r : V → Hp → VK → Prop} (ho : UnR X (unaryOp op) r) (ha : PE X a ta) : PE X (.UnaryOp op a pos) (tUn r ta) := by
  intro pins s σ H Q I h
  exact UnaryOp_ (thn (ha pins s σ H _ I h) fun v s1 ⟨x, H1, I1, r1, q1⟩ => ho pins s1 σ H1 x v Q I1 r1 q1)
/-! ### ints -/
theorem opI {f : Value → Value → Sem Value} {C : Int → Int → Prop} {g : Int → Int → Int}
    (rule : ∀ (i j : Int) (t u : Tok) (s : Shared) (Q : Value → Shared → Prop) (E : Value → Shared → Prop), C i j → Q (.int (g i j) s.toks) { s with toks := s.toks + 1 } → wpAny (model X.prog X.w) X.A (f (.int i t) (.int j u)) Q E s) :
    OpR X f (rI C fun i j => .int (g i j)) := by
  intro pins s σ H x y v u Q I rx ry h
  obtain ⟨i, j, rfl, rfl, hc, q⟩ := h
  obtain ⟨t, rfl⟩ := rx
  obtain ⟨t', rfl⟩ := ry
  exact rule i j t t' s _ _ hc ⟨.int (g i j), H, I.tok _, ⟨_, rfl⟩, q⟩
theorem opI0 {f : Value → Value → Sem Value} {g : Int → Int → Int}
    (rule : ∀ (i j : Int) (t u : Tok) (s : Shared) (Q : Value → Shared → Prop) (E : Value → Shared → Prop), Q (.int (g i j) s.toks) { s with toks := s.toks + 1 } → wpAny (model X.prog X.w) X.A (f (.int i t) (.int j u)) Q E s) :
    OpR X f (rI0 fun i j => .int (g i j)) := by
  intro pins s σ H x y v u Q I rx ry h
  obtain ⟨i, j, rfl, rfl, q⟩ := h
  obtain ⟨t, rfl⟩ := rx
  obtain ⟨t', rfl⟩ := ry
  exact rule i j t t' s _ _ ⟨.int (g i j), H, I.tok _, ⟨_, rfl⟩, q⟩
theorem opB0 {f : Value → Value → Sem Value} {g : Int → Int → Bool}
    (rule : ∀ (i j : Int) (t u : Tok) (s : Shared) (Q : Value → Shared → Prop) (E : Value → Shared → Prop), Q (.bool (g i j)) s → wpAny (model X.prog X.w) X.A (f (.int i t) (.int j u)) Q E s) :
    OpR X f (rI0 fun i j => .bl (g i j)) := by
  intro pins s σ H x y v u Q I rx ry h
  obtain ⟨i, j, rfl, rfl, q⟩ := h
  obtain ⟨t, rfl⟩ := rx
  obtain ⟨t', rfl⟩ := ry
  exact rule i j t t' s _ _ ⟨.bl (g i j), H, I, rfl, q⟩

def CDiv (i j : Int) : Prop := 0 < j ∧ j < 1073741824
def CDivN (i j : Int) : Prop := j ≠ 0 ∧ j.natAbs < 1073741824
def CPow (i j : Int) : Prop := 0 ≤ j ∧ j ≤ 1000000 ∧ i.natAbs < 2 ^ 64
def CMul (i j : Int) : Prop := (-(2 ^ 64) < i ∧ i < 2 ^ 64) ∨ (-(2 ^ 64) < j ∧ j < 2 ^ 64)
theorem CMul.ok {i j : Int} (h : CMul i j) : IntMulOk i j := by
  rcases h with ⟨h1, h2⟩ | ⟨h1, h2⟩
  · exact .of_left (intBits_le_64 h1 h2)
  · exact .of_right (intBits_le_64 h1 h2)
theorem two_pow_nn (k : Nat) : (0 : Int) ≤ 2 ^ k := by
  rw [two_pow_cast]
  exact Int.natCast_nonneg _

theorem op_add : OpR X (binaryOp .Add) (rI0 fun i j => .int (i + j)) := opI0 fun _ _ _ _ _ _ _ q => add_int q
theorem op_sub : OpR X (binaryOp .Sub) (rI0 fun i j => .int (i - j)) := opI0 fun _ _ _ _ _ _ _ q => sub_int q
theorem op_mul : OpR X (binaryOp .Mult) (rI CMul fun i j => .int (i * j)) := opI fun _ _ _ _ _ _ _ hc q => mul_int q hc.ok
/-- // by a positive divisor -/
theorem op_fdiv : OpR X (binaryOp .FloorDiv) (rI CDiv fun i j => .int (i / j)) := opI fun i j _ _ _ _ _ hc q => by
  have h1 : (0 : Int) < j := hc.1
  have h2 : j < 1073741824 := hc.2
  exact floordiv_int (by omega) (by rw [Int.fdiv_eq_ediv_of_nonneg i (by omega)]; exact q) (.inl (PyProof.noPylong_small (by omega)))
/-- % by a positive divisor of any size -/
theorem op_mod : OpR X (binaryOp .Mod) (rI (fun _ j => 0 < j) fun i j => .int (i % j)) := opI fun i j _ _ _ _ _ hc q => by
  have h1 : (0 : Int) < j := hc
  exact mod_int' (by omega) (by rw [Int.fmod_eq_emod_of_nonneg i (by omega)]; exact q)
theorem op_pow : OpR X (binaryOp .Pow) (rI CPow fun i j => .int (i ^ j.toNat)) := opI fun _ _ _ _ _ _ _ hc q => pow_int_small hc.1 hc.2.1 hc.2.2 q
theorem op_shl : OpR X (binaryOp .LShift) (rI CPow fun i j => .int (i * 2 ^ j.toNat)) := opI fun _ _ _ _ _ _ _ hc q => lshift_int_small hc.1 hc.2.1 hc.2.2 q
theorem op_shr : OpR X (binaryOp .RShift) (rI (fun _ j => 0 ≤ j) fun i j => .int (i / 2 ^ j.toNat)) := opI fun i j _ _ _ _ _ hc q =>
  rshift_int hc (by rw [Int.fdiv_eq_ediv_of_nonneg i (two_pow_nn _)]; exact q)
theorem unI {f : Value → Sem Value} {g : Int → Int}
    (rule : ∀ (i : Int) (t : Tok) (s : Shared) (Q : Value → Shared → Prop) (E : Value → Shared → Prop), Q (.int (g i) s.toks) { s with toks := s.toks + 1 } → wpAny (model X.prog X.w) X.A (f (.int i t)) Q E s) :
    UnR X f (rU fun i => .int (g i)) := by
  intro pins s σ H x v Q I rx h
  obtain ⟨i, rfl, q⟩ := h
  obtain ⟨t, rfl⟩ := rx
  exact rule i t s _ _ ⟨.int (g i), H, I.tok _, ⟨_, rfl⟩, q⟩
theorem un_neg : UnR X (unaryOp .USub) (rU fun i => .int (-i)) := unI fun _ _ _ _ _ q => neg_int q
/-! ### bools among ints: n += (a < b) -/
end

/-! ### comparisons -/
/-- the scalars that == tells apart as data does -/
def scal : V → V → Bool
  | .non, .non => true | .non, .int _ => true | .int _, .non => true | .non, .bl _ => true | .bl _, .non => true | .non, .str _ => true | .str _, .non => true
  | .int _, .int _ => true | .bl _, .bl _ => true | .str _, .str _ => true | .byt _, .byt _ => true
  | .int _, .str _ => true | .str _, .int _ => true | .bl _, .str _ => true | .str _, .bl _ => true
  | _, _ => false
def rEq : R2 := fun x y H Q => scal x y = true ∧ Q (.bl (decide (x = y))) H
def rNe : R2 := fun x y H Q => scal x y = true ∧ Q (.bl (!decide (x = y))) H

theorem dec_int {i j : Int} : decide (V.int i = V.int j) = (i == j) := by
  rw [Bool.eq_iff_iff]
  simp
theorem dec_bl {i j : Bool} : decide (V.bl i = V.bl j) = (i == j) := by
  rw [Bool.eq_iff_iff]
  simp
theorem dec_str {i j : Str} : decide (V.str i = V.str j) = (i == j) := by
  rw [Bool.eq_iff_iff]
  simp
theorem dec_byt {i j : Array UInt8} : decide (V.byt i = V.byt j) = (i.toList == j.toList) := by
  rw [Bool.eq_iff_iff]
  cases i
  cases j
  simp

section
variable {X : Cx} {a b c : Expr} {ta tb tc : TE} {pos : Pos}
theorem fin_bl {pins : List (Addr × Obj)} {σ : St} {H : Hp} {s : Shared} {Q : VK} {k k' : Bool} (I : Inv X pins σ H s) (q : Q (.bl k) H) (e : k = k') : EP X pins σ Q (.bool k') s := by
  subst e
  exact ⟨.bl k, H, I, rfl, q⟩
theorem op_eq : OpR X (compareOp .Eq) rEq := by
  intro pins s σ H x y v u Q I rx ry h
  obtain ⟨hs, q⟩ := h
  cases x with
  | non =>
    cases rx
    cases y with
    | non => cases ry; exact PySem.EqNone.eq_none_none (fin_bl I q (by simp))
    | bl j => cases ry; exact PySem.EqNone.eq_none_bool (fin_bl I q (by simp))
    | int j => obtain ⟨t', rfl⟩ := ry; exact PySem.EqNone.eq_none_int (fin_bl I q (by simp))
    | str j => obtain ⟨t', rfl⟩ := ry; exact PySem.EqNone.eq_none_str (fin_bl I q (by simp))
    | _ => exact absurd (show false = true from hs) Bool.false_ne_true
  | bl i =>
    cases rx
    cases y with
    | non => cases ry; exact PySem.EqNone.eq_bool_none (fin_bl I q (by simp))
    | bl j => cases ry; exact eq_bool (fin_bl I q dec_bl)
    | str j => obtain ⟨t', rfl⟩ := ry; exact PySem.EqMixed.eq_bool_str (fin_bl I q (by simp))
    | _ => exact absurd (show false = true from hs) Bool.false_ne_true
  | int i =>
    obtain ⟨t, rfl⟩ := rx
    cases y with
    | non => cases ry; exact PySem.EqNone.eq_int_none (fin_bl I q (by simp))
    | int j => obtain ⟨t', rfl⟩ := ry; exact eq_int (fin_bl I q dec_int)
    | str j => obtain ⟨t', rfl⟩ := ry; exact PySem.EqMixed.eq_int_str (fin_bl I q (by simp))
    | _ => exact absurd (show false = true from hs) Bool.false_ne_true
  | str i =>
    obtain ⟨t, rfl⟩ := rx
    cases y with
    | non => cases ry; exact PySem.EqNone.eq_str_none (fin_bl I q (by simp))
    | bl j => cases ry; exact PySem.EqMixed.eq_str_bool (fin_bl I q (by simp))
    | int j => obtain ⟨t', rfl⟩ := ry; exact PySem.EqMixed.eq_str_int (fin_bl I q (by simp))
    | str j => obtain ⟨t', rfl⟩ := ry; exact eq_str (fin_bl I q dec_str)
    | _ => exact absurd (show false = true from hs) Bool.false_ne_true
  | byt i =>
    obtain ⟨t, rfl⟩ := rx
    cases y with
    | byt j => obtain ⟨t', rfl⟩ := ry; exact PySem.W.eq_bytes (fin_bl I q dec_byt)
    | _ => exact absurd (show false = true from hs) Bool.false_ne_true
  | _ => cases y <;> exact absurd (show false = true from hs) Bool.false_ne_true
theorem op_ne : OpR X (compareOp .NotEq) rNe := by
  intro pins s σ H x y v u Q I rx ry h
  obtain ⟨hs, q⟩ := h
  cases x with
  | non =>
    cases rx
    cases y with
    | non => cases ry; exact PySem.EqNone.ne_none_none (fin_bl I q (by simp))
    | bl j => cases ry; exact PySem.EqNone.ne_none_bool (fin_bl I q (by simp))
    | int j => obtain ⟨t', rfl⟩ := ry; exact PySem.EqNone.ne_none_int (fin_bl I q (by simp))
    | str j => obtain ⟨t', rfl⟩ := ry; exact PySem.EqNone.ne_none_str (fin_bl I q (by simp))
    | _ => exact absurd (show false = true from hs) Bool.false_ne_true
  | bl i =>
    cases rx
    cases y with
    | non => cases ry; exact PySem.EqNone.ne_bool_none (fin_bl I q (by simp))
    | bl j => cases ry; exact ne_bool (fin_bl I q (congrArg not dec_bl))
    | str j => obtain ⟨t', rfl⟩ := ry; exact PySem.EqMixed.ne_bool_str (fin_bl I q (by simp))
    | _ => exact absurd (show false = true from hs) Bool.false_ne_true
  | int i =>
    obtain ⟨t, rfl⟩ := rx
    cases y with
    | non => cases ry; exact PySem.EqNone.ne_int_none (fin_bl I q (by simp))
    | int j => obtain ⟨t', rfl⟩ := ry; exact ne_int (fin_bl I q (congrArg not dec_int))
    | str j => obtain ⟨t', rfl⟩ := ry; exact PySem.EqMixed.ne_int_str (fin_bl I q (by simp))
    | _ => exact absurd (show false = true from hs) Bool.false_ne_true
  | str i =>
    obtain ⟨t, rfl⟩ := rx
    cases y with
    | non => cases ry; exact PySem.EqNone.ne_str_none (fin_bl I q (by simp))
    | bl j => cases ry; exact PySem.EqMixed.ne_str_bool (fin_bl I q (by simp))
    | int j => obtain ⟨t', rfl⟩ := ry; exact PySem.EqMixed.ne_str_int (fin_bl I q (by simp))
    | str j => obtain ⟨t', rfl⟩ := ry; exact ne_str (fin_bl I q (congrArg not dec_str))
    | _ => exact absurd (show false = true from hs) Bool.false_ne_true
  | byt i =>
    obtain ⟨t, rfl⟩ := rx
    cases y with
    | byt j => obtain ⟨t', rfl⟩ := ry; exact PySem.W.ne_bytes (fin_bl I q (congrArg not dec_byt))
    | _ => exact absurd (show false = true from hs) Bool.false_ne_true
  | _ => cases y <;> exact absurd (show false = true from hs) Bool.false_ne_true

theorem op_lt : OpR X (compareOp .Lt) (rI0 fun i j => .bl (decide (i < j))) := opB0 fun _ _ _ _ _ _ _ q => lt_int q
theorem op_le : OpR X (compareOp .LtE) (rI0 fun i j => .bl (decide (i ≤ j))) := opB0 fun _ _ _ _ _ _ _ q => le_int q
theorem op_gt : OpR X (compareOp .Gt) (rI0 fun i j => .bl (decide (j < i))) := opB0 fun _ _ _ _ _ _ _ q => gt_int q
theorem op_ge : OpR X (compareOp .GtE) (rI0 fun i j => .bl (decide (j ≤ i))) := opB0 fun _ _ _ _ _ _ _ q => ge_int q
/-- is, is not of two objects that are tracked lists or instances -/
def isObj : HO → Bool
  | .lst _ => true
  | .ins _ _ _ => true
  | _ => false
theorem obj_there {pins : List (Addr × Obj)} {s : Shared} {σ : St} {H : Hp} {a : Addr} {o : HO} (I : Inv X pins σ H s) (h : H a = some o) (p : isObj o = true) : ∃ ob, s.heap.get? a = some ob ∧ ob.cls ≠ .type "tuple" := by
  cases o with
  | lst xs =>
    obtain ⟨_, its, n, _, e⟩ : xs.length ≤ sizeLine ∧ ∃ (its : List Value) (n : Nat), Vals xs its ∧ s.heap.get? a = some { cls := .type "list", data := .seq its.toArray n } := I.hok a _ h
    exact ⟨_, e, (by show Value.type "list" ≠ .type "tuple"; decide +kernel)⟩
  | ins C dx fs =>
    have x := I.hok a _ h
    obtain ⟨_, _, _, e, _⟩ := x
    exact ⟨_, e, (by show Value.ref C ≠ .type "tuple"; exact fun z => by cases z)⟩
  | _ => exact absurd (show false = true from p) Bool.false_ne_true
/-- two rules for one operation: by cases -/
theorem OpR.or {f : Value → Value → Sem Value} {r r' : R2} (h : OpR X f r) (h' : OpR X f r') : OpR X f (fun x y H Q => r x y H Q ∨ r' x y H Q) := by
  intro pins s σ H x y v u Q I rx ry q
  rcases q with q | q
  · exact h pins s σ H x y v u Q I rx ry q
  · exact h' pins s σ H x y v u Q I rx ry q

theorem nomark (b : Expr) {op : CmpOp} (h : op ≠ .In := by decide) (h2 : op ≠ .NotIn := by decide) : behindInMarks op b = false := by
  have e1 : (op == CmpOp.In) = false := by cases op <;> first | rfl | exact absurd rfl h
  have e2 : (op == CmpOp.NotIn) = false := by cases op <;> first | rfl | exact absurd rfl h2
  cases b <;> simp [behindInMarks, e1, e2]
/-- a comparison as a value; hm: nomark b, or (for in, not in) by with_unfolding_all rfl -/
theorem pe_cmpR {op : CmpOp} {r : R2} (ho : OpR X (compareOp op) r) (ha : PE X a ta) (hb : PE X b tb) (hm : behindInMarks op b = false) : PE X (.Compare a [op] [b] pos) (tOp r ta tb) := by
  intro pins s σ H Q I h
  exact wpAny_Compare1 (binT ha hb I h fun v u s2 x y H2 I2 rx ry q => ho pins s2 σ H2 x y v u Q I2 rx ry q) hm
/-- a reading of a value as a test -/
def tTest (t : TE) : TT := fun σ H Q => t σ H fun x H' => ∃ k, x = .bl k ∧ Q k H'
theorem pt_cmpR {op : CmpOp} {r : R2} (ho : OpR X (compareOp op) r) (ha : PE X a ta) (hb : PE X b tb) (hm : behindInMarks op b = false) : PT X (.Compare a [op] [b] pos) (tTest (tOp r ta tb)) := by
  intro pins s σ H Q I h
  refine wpAny_isTrue_Compare1 (thn (ha pins s σ H _ I h) fun v s1 ⟨x, H1, I1, r1, q1⟩ => thn (hb pins s1 σ H1 _ I1 q1) fun u s2 ⟨y, H2, I2, r2, q2⟩ =>
    thn (ho pins s2 σ H2 x y v u _ I2 r1 r2 q2) fun c s3 ⟨z, H3, I3, r3, k, e, q3⟩ => ?_) hm
  subst e
  cases r3
  exact wpAny_truthy_bool ⟨H3, I3, q3⟩
/-- a op1 b op2 c -/
def tChain (r r' : R2) (ta tb tc : TE) : TE := fun σ H Q => ta σ H fun x H1 => tb σ H1 fun y H2 => r x y H2 fun z H3 => ∃ k, z = .bl k ∧
  (if k = true then tc σ H3 fun w' H4 => r' y w' H4 Q else Q (.bl false) H3)
theorem pe_chain {op op' : CmpOp} {r r' : R2} (ho : OpR X (compareOp op) r) (ho' : OpR X (compareOp op') r') (ha : PE X a ta) (hb : PE X b tb) (hc : PE X c tc)
    (hm : lastMarks [op, op'] [b, c] = false := by with_unfolding_all rfl) : PE X (.Compare a [op, op'] [b, c] pos) (tChain r r' ta tb tc) := by
  intro pins s σ H Q I h
  refine Compare_chain (thn (ha pins s σ H _ I h) fun v s1 ⟨x, H1, I1, r1, q1⟩ => chain_link (thn (hb pins s1 σ H1 _ I1 q1) fun u s2 ⟨y, H2, I2, r2, q2⟩ =>
    thn (ho pins s2 σ H2 x y v u _ I2 r1 r2 q2) fun d s3 ⟨z, H3, I3, r3, k, e, q3⟩ => ?_)) hm
  subst e
  cases r3
  refine wpAny_truthy_bool ?_
  cases k with
  | false => exact ite_ff ⟨.bl false, H3, I3, rfl, q3⟩
  | true => exact ite_tt (chain_last (thn (hc pins s3 σ H3 _ I3 q3) fun w' s4 ⟨z', H4, I4, r4, q4⟩ => ho' pins s4 σ H4 y z' u w' Q I4 r2 r4 q4))
theorem pt_chain {op op' : CmpOp} {r r' : R2} (ho : OpR X (compareOp op) r) (ho' : OpR X (compareOp op') r') (ha : PE X a ta) (hb : PE X b tb) (hc : PE X c tc)
    (hm : lastMarks [op, op'] [b, c] = false := by with_unfolding_all rfl) : PT X (.Compare a [op, op'] [b, c] pos) (tTest (tChain r r' ta tb tc)) := by
  intro pins s σ H Q I h
  refine isTrue_chain (thn (ha pins s σ H _ I h) fun v s1 ⟨x, H1, I1, r1, q1⟩ => test_link (thn (hb pins s1 σ H1 _ I1 q1) fun u s2 ⟨y, H2, I2, r2, q2⟩ =>
    thn (ho pins s2 σ H2 x y v u _ I2 r1 r2 q2) fun d s3 ⟨z, H3, I3, r3, k, e, q3⟩ => ?_)) hm
  subst e
  cases r3
  refine wpAny_truthy_bool ?_
  cases k with
  | false =>
    obtain ⟨k', e', q'⟩ := q3
    cases e'
    exact ite_ff ⟨H3, I3, q'⟩
  | true =>
    refine ite_tt (test_last (thn (hc pins s3 σ H3 _ I3 q3) fun w' s4 ⟨z', H4, I4, r4, q4⟩ => thn (ho' pins s4 σ H4 y z' u w' _ I4 r2 r4 q4) fun d' s5 ⟨z2, H5, I5, r5, k2, e2, q5⟩ => ?_))
    subst e2
    cases r5
    exact wpAny_truthy_bool ⟨H5, I5, q5⟩

/-! ### truth -/
/-- a value's truth by the abstract heap -/
def TruV (K : PySem.W.Frag) (x : V) (H : Hp) (k : Bool) : Prop :=
  match x with
  | .non => k = false
  | .bl b => k = b
  | .int i => k = (i != 0)
  | .str y => y.length ≤ sizeLine ∧ k = ((y.length : Int) != 0)
  | .byt y => y.size ≤ sizeLine ∧ k = ((y.size : Int) != 0)
  | .ref p => (∃ xs, SqL K H p xs ∧ k = !xs.isEmpty) ∨ (∃ xs, SqT K H p xs ∧ k = !xs.isEmpty) ∨ ∃ kvs, H p = some (.dK kvs) ∧ k = !kvs.isEmpty
  | _ => False
theorem line63 : (sizeLine : Nat) < 2 ^ 63 := by rw [sizeLine_eq]; decide
/-! ### strs and bytes -/
def PlainIxT (b : Expr) : Prop := ∀ o i, subscripted b false o i = operate [o, i] (getItem o i)
/-! ### scalar builtins, by CallR -/
theorem vals1 {x : V} {us : List Value} (r : Vals [x] us) : ∃ u, us = [u] ∧ RelV x u := by
  cases r with
  | cons r1 r2 => cases r2; exact ⟨_, rfl, r1⟩
theorem vals2 {x y : V} {us : List Value} (r : Vals [x, y] us) : ∃ u w', us = [u, w'] ∧ RelV x u ∧ RelV y w' := by
  cases r with
  | cons r1 r2 =>
    cases r2 with
    | cons r3 r4 => cases r4; exact ⟨_, _, rfl, r1, r3⟩
theorem call_max2 (hc : X.calm = true) : CallR X (.builtin "max") (fun xs H Q => ∃ i j, xs = [.int i, .int j] ∧ Q (.int (if j > i then j else i)) H) := by
  intro pins s σ H xs us Q I r h
  obtain ⟨i, j, rfl, q⟩ := h
  obtain ⟨u, w', rfl, ⟨t, rfl⟩, ⟨t', rfl⟩⟩ := vals2 r
  refine max_two_ints (I.ok.hd hc) fun h' tk k => ⟨_, H, I.kept k, ?_, q⟩
  by_cases hj : j > i
  · rw [if_pos hj, if_pos hj]; exact ⟨_, rfl⟩
  · rw [if_neg hj, if_neg hj]; exact ⟨_, rfl⟩
theorem call_min2 (hc : X.calm = true) : CallR X (.builtin "min") (fun xs H Q => ∃ i j, xs = [.int i, .int j] ∧ Q (.int (if j < i then j else i)) H) := by
  intro pins s σ H xs us Q I r h
  obtain ⟨i, j, rfl, q⟩ := h
  obtain ⟨u, w', rfl, ⟨t, rfl⟩, ⟨t', rfl⟩⟩ := vals2 r
  refine min_two_ints (I.ok.hd hc) fun h' tk k => ⟨_, H, I.kept k, ?_, q⟩
  by_cases hj : j < i
  · rw [if_pos hj, if_pos hj]; exact ⟨_, rfl⟩
  · rw [if_neg hj, if_neg hj]; exact ⟨_, rfl⟩
/-- len of a str, a bytes, a list, a tuple -/
def LenV (K : PySem.W.Frag) (x : V) (H : Hp) (n : Nat) : Prop :=
  match x with
  | .str y => y.length ≤ sizeLine ∧ n = y.length
  | .byt y => y.size ≤ sizeLine ∧ n = y.size
  | .ref p => (∃ xs, SqL K H p xs ∧ n = xs.length) ∨ ∃ xs, SqT K H p xs ∧ n = xs.length
  | _ => False
end
end L2

namespace L2
open PySem PySem.Spec PyProof.Rows

/-! ### an instance, its attributes a map -/
structure ObjM (h : Heap) (x dx C : Addr) (mA : Str → Option Value) : Prop where
  obj : h.get? x = some (PySem.W.instObj C dx)
  ns : h.Ns1 dx mA
  ne : dx ≠ x

theorem lookIn_ns {h : Heap} {dx : Addr} {mA : Str → Option Value} (n : h.Ns1 dx mA) : ∃ od, h.get? dx = some od ∧ ∀ name, PySem.W.lookIn name od = some (mA name) := by
  obtain ⟨o, es, ep, ho, hd, hk, _, hm⟩ := n
  refine ⟨o, ho, fun name => ?_⟩
  have e := hm name
  unfold nsFind findBy at e
  rw [← Array.find?_toList] at e
  unfold PySem.W.lookIn
  rw [hd]
  dsimp only
  split
  · rename_i y q
    rw [q] at e
    exact congrArg some e
  · rename_i q
    rw [q] at e
    have a : es.toList.any (·.refKey) = false := by
      rw [List.any_eq_false]
      intro y hy
      obtain ⟨z, t, hkey⟩ := hk y (Array.mem_toList_iff.mp hy)
      simp [DictEntry.refKey, hkey]
    have a' : ¬ es.toList.any (·.refKey) = true := by rw [a]; exact Bool.false_ne_true
    rw [if_neg a']
    exact congrArg some e

theorem ObjM.look {h : Heap} {x dx C : Addr} {mA : Str → Option Value} (I : ObjM h x dx C mA) : ∃ od, PySem.W.InstAt h x (PySem.W.instObj C dx) C (some od) ∧ ∀ name, PySem.W.lookIn name od = some (mA name) :=
  let ⟨od, ho, hl⟩ := lookIn_ns I.ns
  ⟨od, ⟨I.obj, rfl, rfl, ho⟩, hl⟩

section
variable {prog : Program} {w : World} {A : Around} {E : Value → Shared → Prop} {s : Shared} {K : PySem.W.Frag} {x dx C f : Addr} {mA : Str → Option Value} {name : Str} {v : Value}

theorem get_map {expr : Bool} {Q : Value → Shared → Prop} (X : K.In s.heap) (I : ObjM s.heap x dx C mA) (hg : PySem.W.plainGet K C name = true) (hh : PySem.W.hasDictIn K C = true)
    (ha : PySem.W.findIn K (.ref C) name = some none) (hv : mA name = some v) (hv' : PySem.W.handedIn v = true) (h : Q v { s with toks := s.toks + 1 }) :
    wpAny (model prog w) A (getAttr (.ref x) name expr) Q E s := by
  obtain ⟨od, J, hl⟩ := I.look
  exact PySem.W.get_value X J (PySem.W.plainGet_of hg).1 (PySem.W.findObj_own hh ha rfl (by rw [hl, hv])) hv' h

theorem get_meth {pl : Sem Bool} {Q : Value × List Value → Shared → Prop} (X : K.In s.heap) (I : ObjM s.heap x dx C mA) (hg : PySem.W.plainGet K C name = true)
    (hf : PySem.W.findIn K (.ref C) name = some (some (.ref f))) (ht : PySem.W.isFn K (.ref f) = true) (hv : mA name = none) (h : Q (.ref f, [.ref x]) s) :
    wpAny (model prog w) A (getMethod (.ref x) name pl) Q E s := by
  obtain ⟨od, J, hl⟩ := I.look
  exact PySem.W.method_fn X J (PySem.W.plainGet_of hg).1 (PySem.W.plainGet_of hg).2 hf (beq_iff_eq.mp ht) (by show (PySem.W.lookIn name od).map (·.isSome) = some false; rw [hl, hv]; rfl) h

theorem set_map {ns : List Str} {Q : Unit → Shared → Prop} (X : K.In s.heap) (I : ObjM s.heap x dx C mA)
    (hs : PySem.W.findIn K (.ref C) "__setattr__" = some (some (.builtin "object.__setattr__"))) (hp : PySem.W.plainOver K C = true) (ht : PySem.W.takerIn K C name = some none) (hh : PySem.W.hasDictIn K C = true)
    (hw : PySem.Within mA ns) (hsz : ns.length ≤ sizeLine)
    (h : ∀ h', ObjM h' x dx C (fun y => if y = name then some v else mA y) → Heap.SameBut dx s.heap h' → Q () { s with heap := h', toks := s.toks + 2 }) :
    wpAny (model prog w) A (setAttr (.ref x) name v) Q E s := by
  obtain ⟨od, J, hl⟩ := I.look
  refine PySem.W.set_plain X J hs (PySem.W.osa_open (s := { s with toks := s.toks + 1 }) (r := none) X J hp ht fun b => ?_)
  obtain ⟨cd, hc, hd'⟩ := PySem.W.any_some hh
  have hx : s.heap.get? x = some ⟨.ref C, some dx, .plain, #[]⟩ := I.obj
  refine wpAny_bind (wpAny_pure (wpAny_bind (wpAny_bind (wpAny_loadPart hx (wpAny_bind (PySem.W.Looks.here (s := { s with toks := s.toks + 1 }) (PySem.W.looks_clsIn X hc) ?_))))))
  rw [hd']
  refine wpAny_pure (a := some dx) (wpAny_bind (wpAny_pure (wpAny_bind ?_)))
  refine wpAny_nsSet1 (s := { s with toks := s.toks + 1 }) I.ns fun h' hn2 hs2 => ?_
  obtain ⟨oD, esD, epD, hoD, hdD, hcD⟩ := hn2.count (PySem.Within.cons name v hw)
  refine wpAny_bind (wpAny_lookBehind hoD (by rw [hdD]; exact pastItsLine_dict (Nat.le_trans hcD (by rw [List.length_cons]; omega))) ?_)
  exact wpAny_pure (h _ ⟨(hs2.2 _ (Ne.symm I.ne)).trans I.obj, hn2, I.ne⟩ hs2)

/-- C(..): the dict at the heap's end, the instance behind it; then its __init__ -/
theorem make_map {R : Result → Shared → Prop} {vs : List Value} {kw : List (Str × Value)} (X : K.In s.heap) (hm : PySem.W.makesIn K C = true)
    (hi : PySem.W.findIn K (.ref C) "__init__" = some (some (.ref f))) (hf : PySem.W.typeIn K (.ref f) = some (.type "function"))
    (h : codeAny (model prog w) (A.under (.builtin "type.__call__" ⟨.ref C :: vs, kw⟩)) (.call (.ref f) ⟨.ref (s.heap.objs.size + 1) :: vs, kw⟩) (PySem.W.InitBack (s.heap.objs.size + 1) R)
      { s with heap := (s.heap.push PySem.W.emptyDict).push (PySem.W.instObj C s.heap.objs.size) }) :
    codeAny (model prog w) A (.call (.ref C) ⟨vs, kw⟩) R s := by
  obtain ⟨hh, g, d, t, os⟩ := s
  exact PySem.W.make_core (PySem.W.makes_of X hm) (PySem.W.looks_findIn X hi) (fun self => PySem.W.bind_fn X self hf) (.inl rfl) h
end

/-! ### the attributes as a list of pairs -/
def putF (f : Str) (v : V) : List (Str × V) → List (Str × V)
  | [] => [(f, v)]
  | (g, x) :: r => if g = f then (g, v) :: r else (g, x) :: putF f v r
theorem lookup_putF (f g : Str) (v : V) : ∀ fs : List (Str × V), (putF f v fs).lookup g = if g = f then some v else fs.lookup g
  | [] => by
    show List.lookup g [(f, v)] = _
    by_cases h : g = f
    · have hb : (g == f) = true := beq_iff_eq.mpr h
      simp only [List.lookup, hb, if_pos h]
    · have hb : (g == f) = false := beq_eq_false_iff_ne.mpr h
      simp only [List.lookup, hb, if_neg h]
  | (k, x) :: r => by
    have ih := lookup_putF f g v r
    rw [show putF f v ((k, x) :: r) = (if k = f then (k, v) :: r else (k, x) :: putF f v r) from rfl]
    by_cases hk : k = f
    · rw [if_pos hk]
      by_cases h : g = k
      · have hb : (g == k) = true := beq_iff_eq.mpr h
        simp only [List.lookup, hb, if_pos (h.trans hk)]
      · have hb : (g == k) = false := beq_eq_false_iff_ne.mpr h
        simp only [List.lookup, hb, if_neg (fun e : g = f => h (e.trans hk.symm))]
    · rw [if_neg hk]
      by_cases h : g = k
      · have hb : (g == k) = true := beq_iff_eq.mpr h
        simp only [List.lookup, hb, if_neg (fun e : g = f => hk (h.symm.trans e))]
      · have hb : (g == k) = false := beq_eq_false_iff_ne.mpr h
        simp only [List.lookup, hb]
        exact ih
theorem keys_putF (f : Str) (v : V) : ∀ fs : List (Str × V), f ∈ (putF f v fs).map (·.1) ∧ ∀ g, g ∈ fs.map (·.1) → g ∈ (putF f v fs).map (·.1)
  | [] => ⟨by simp [putF], fun g h => by simp at h⟩
  | (k, x) :: r => by
    obtain ⟨i1, i2⟩ := keys_putF f v r
    rw [show putF f v ((k, x) :: r) = (if k = f then (k, v) :: r else (k, x) :: putF f v r) from rfl]
    by_cases hk : k = f
    · rw [if_pos hk]
      subst hk
      exact ⟨by simp, fun g h => by simpa using h⟩
    · rw [if_neg hk]
      refine ⟨?_, fun g h => ?_⟩
      · rw [List.map_cons]
        exact List.mem_cons_of_mem _ i1
      · rw [List.map_cons] at h ⊢
        rcases List.mem_cons.mp h with e | e
        · exact List.mem_cons.mpr (.inl e)
        · exact List.mem_cons_of_mem _ (i2 g e)
theorem length_putF (f : Str) (v : V) : ∀ fs : List (Str × V), (putF f v fs).length ≤ fs.length + 1
  | [] => by simp [putF]
  | (k, x) :: r => by
    have ih := length_putF f v r
    rw [show putF f v ((k, x) :: r) = (if k = f then (k, v) :: r else (k, x) :: putF f v r) from rfl]
    by_cases hk : k = f
    · rw [if_pos hk, List.length_cons, List.length_cons]; omega
    · rw [if_neg hk, List.length_cons, List.length_cons]; omega

theorem RelO.some_of {v : V} {o : Option Value} (r : RelO (some v) o) : ∃ u, o = some u ∧ RelV v u := by
  cases o with
  | none => exact (show False from r).elim
  | some u => exact ⟨u, rfl, r⟩
theorem RelO.none_of {o : Option Value} (r : RelO none o) : o = none := by
  cases o with
  | none => rfl
  | some u => exact (show False from r).elim
theorem handed_of {v : V} {u : Value} (r : RelV v u) : PySem.W.handedIn u = true := by
  cases v with
  | non => cases (show u = Value.none from r); rfl
  | bl b => cases (show u = Value.bool b from r); rfl
  | int i => obtain ⟨t, e⟩ := (show ∃ t, u = Value.int i t from r); cases e; rfl
  | str x => obtain ⟨t, e⟩ := (show ∃ t, u = Value.str x t from r); cases e; rfl
  | byt b => obtain ⟨t, e⟩ := (show ∃ t, u = Value.bytes b t from r); cases e; rfl
  | flt b => obtain ⟨t, e⟩ := (show ∃ t, u = Value.float b t from r); cases e; rfl
  | ref a => cases (show u = Value.ref a from r); rfl
  | ty n => cases (show u = Value.type n from r); rfl

section
variable {P : Program} {w : World} {H H' : Hp} {h h' : Heap} {a C dx : Addr} {fs fs' : List (Str × V)}
theorem ins_get (hok : HOk P w H h) (e : H a = some (.ins C dx fs)) : ∃ mA, ObjM h a dx C mA ∧ (∀ f, RelO (fs.lookup f) (mA f)) ∧ PySem.Within mA (fs.map (·.1)) ∧ fs.length ≤ 1000 ∧ H dx = some (.own a) := by
  obtain ⟨d, z, ne, ob, mA, n, r, q⟩ := (show ObjOk P w H h a (.ins C dx fs) from hok a _ e)
  exact ⟨mA, ⟨ob, n, ne⟩, r, q, z, d⟩
end

/-! ### what of the text a class must have -/
structure Cls (K : PySem.W.Frag) (C : Addr) : Prop where
  pg : PySem.W.plainGet K C Str.empty = true
  hd : PySem.W.hasDictIn K C = true
  po : PySem.W.plainOver K C = true
  sa : PySem.W.findIn K (.ref C) "__setattr__" = some (some (.builtin "object.__setattr__"))
theorem Cls.get {K : PySem.W.Frag} {C : Addr} (c : Cls K C) (f : Str) : PySem.W.plainGet K C f = true := c.pg
/-- no class of it has the name -/
def NoAttr (K : PySem.W.Frag) (C : Addr) (f : Str) : Prop := PySem.W.findIn K (.ref C) f = some none
theorem NoAttr.taker {K : PySem.W.Frag} {C : Addr} {f : Str} (n : NoAttr K C f) : PySem.W.takerIn K C f = some none := by
  unfold PySem.W.takerIn
  rw [show PySem.W.findIn K (.ref C) f = some none from n]
  rfl
/-- a constant of the class -/
structure Con (K : PySem.W.Frag) (C : Addr) (f : Str) (v : V) (u : Value) : Prop where
  at_ : PySem.W.findIn K (.ref C) f = some (some u)
  rel : RelV v u
  get : PySem.W.specialIn K u "__get__" = some none
  cp : PySem.W.copiedNames.contains f = false
/-- a method: a plain def of the class or of one above it -/
structure Meth (K : PySem.W.Frag) (C : Addr) (m : Str) (f : Addr) : Prop where
  at_ : PySem.W.findIn K (.ref C) m = some (some (.ref f))
  fn : PySem.W.isFn K (.ref f) = true
  kp : PySem.W.keepIn K (.ref f) = true

section
variable {X : Cx} {pins : List (Addr × Obj)} {σ : St} {H : Hp} {s : Shared} {a C dx : Addr} {fs : List (Str × V)} {f : Str} {v : V} {A : Around} {E : Value → Shared → Prop}

theorem getattr_ok {b : Bool} {Q : Value → Shared → Prop} (I : Inv X pins σ H s) (e : H a = some (.ins C dx fs)) (c : Cls X.K C) (n : NoAttr X.K C f) (l : fs.lookup f = some v)
    (h : ∀ u s', Inv X pins σ H s' → RelV v u → Q u s') : wpAny (model X.prog X.w) A (getAttr (.ref a) f b) Q E s := by
  obtain ⟨mA, O, r, _, _, _⟩ := ins_get I.hok e
  obtain ⟨u, hu, ru⟩ := RelO.some_of (v := v) (o := mA f) (by rw [← l]; exact r f)
  exact get_map I.kIn O (c.get f) c.hd n hu (handed_of ru) (h u _ (I.tok _) ru)

theorem getmeth_ok {m : Str} {g : Addr} {pl : Sem Bool} {Q : Value × List Value → Shared → Prop} (I : Inv X pins σ H s) (e : H a = some (.ins C dx fs)) (c : Cls X.K C) (k : Meth X.K C m g) (l : fs.lookup m = none)
    (h : Q (.ref g, [.ref a]) s) : wpAny (model X.prog X.w) A (getMethod (.ref a) m pl) Q E s := by
  obtain ⟨mA, O, r, _, _, _⟩ := ins_get I.hok e
  have hn : mA m = none := RelO.none_of (by rw [← l]; exact r m)
  exact get_meth I.kIn O (c.get m) k.at_ k.fn hn h

theorem setattr_ok {y : V} {u : Value} {Q : Unit → Shared → Prop} (I : Inv X pins σ H s) (e : H a = some (.ins C dx fs)) (c : Cls X.K C) (n : NoAttr X.K C f) (hl : fs.length < 1000) (ry : RelV y u)
    (h : ∀ s', Inv X pins σ (upd H a (.ins C dx (putF f y fs))) s' → Q () s') : wpAny (model X.prog X.w) A (setAttr (.ref a) f u) Q E s := by
  obtain ⟨mA, O, r, wi, _, ho⟩ := ins_get I.hok e
  have hz : (fs.map (·.1)).length ≤ sizeLine := by rw [List.length_map, sizeLine_eq]; omega
  refine set_map I.kIn O c.sa c.po n.taker c.hd wi hz fun h' O' sb => h _ ?_
  have hd : ∃ o, h'.get? dx = some o := let ⟨o, _, _, e', _⟩ := O'.ns; ⟨o, e'⟩
  refine I.write (x := a) (e := dx) (by rw [e]; exact True.intro) (.inr ho) (fun b q hb z => (sb.2 b hb).trans z) hd ?_
  refine ⟨by rw [upd_ne O.ne]; exact ho, ?_, O.ne, O'.obj, _, O'.ns, fun g => ?_, fun g hg => ?_⟩
  · have := length_putF f y fs; omega
  · show RelO ((putF f y fs).lookup g) (if g = f then some u else mA g)
    rw [lookup_putF]
    by_cases q : g = f
    · rw [if_pos q, if_pos q]; exact ry
    · rw [if_neg q, if_neg q]; exact r g
  · by_cases q : g = f
    · rw [q]; exact (keys_putF f y fs).1
    · refine (keys_putF f y fs).2 g (wi g fun z => hg ?_)
      show (if g = f then some u else mA g) = none
      rw [if_neg q]; exact z

/-- a new instance, tracked, without attributes -/
theorem Inv.made (I : Inv X pins σ H s) : Inv X pins σ (upd (upd H s.heap.objs.size (.own (s.heap.objs.size + 1))) (s.heap.objs.size + 1) (.ins C s.heap.objs.size []))
    { s with heap := (s.heap.push PySem.W.emptyDict).push (PySem.W.instObj C s.heap.objs.size) } := by
  have e1 : (s.heap.push PySem.W.emptyDict).get? s.heap.objs.size = some PySem.W.emptyDict := Heap.get?_push_size s.heap rfl
  have e2 : ((s.heap.push PySem.W.emptyDict).push (PySem.W.instObj C s.heap.objs.size)).get? (s.heap.objs.size + 1) = some (PySem.W.instObj C s.heap.objs.size) := by
    have := Heap.get?_push_size (s.heap.push PySem.W.emptyDict) (o := PySem.W.instObj C s.heap.objs.size) rfl
    rwa [Heap.size_push] at this
  have e3 : (s.heap.push PySem.W.emptyDict).Ns s.heap.objs.size (fun _ => none) := ⟨PySem.W.emptyDict, #[], _, e1, rfl, (fun e he => absurd he (by simp)), fun _ => rfl⟩
  have I1 := I.laid (a := s.heap.objs.size) (o := .own (s.heap.objs.size + 1)) (h' := s.heap.push PySem.W.emptyDict) (t' := s.toks) (fun b u q => Heap.get?_push_of_some _ q) (Nat.le_refl _) ⟨_, e1⟩
  refine I1.laid (a := s.heap.objs.size + 1) (o := .ins C s.heap.objs.size []) (t' := s.toks) (fun b u q => Heap.get?_push_of_some _ q) (Nat.le_of_eq (Heap.size_push _ _)) ?_
  have ne : s.heap.objs.size ≠ s.heap.objs.size + 1 := Nat.ne_of_lt (Nat.lt_succ_self _)
  refine ⟨by rw [upd_ne ne, upd_same], Nat.zero_le _, ne, e2, fun _ => none, (Heap.Ns1.of_empty e3).at fun o q => Heap.get?_push_of_some _ q, fun _ => True.intro, fun y hy => absurd rfl hy⟩

/-- e.f where nothing but the object is asked: through attributeBase (super) and the last hold -/
theorem attr_of {prog : Program} {w : World} {env : Env} {e : Expr} {f : Str} {pos : Pos} {s : Shared} {Q : Value → Shared → Prop} (hb : attributeBase e f env (eval e env) = eval e env)
    (h : wpAny (model prog w) A (eval e env) (fun o s₁ => wpAny (model prog w) A (getAttr o f true) Q E s₁) E s) : wpAny (model prog w) A (eval (.Attribute e f pos) env) Q E s :=
  Attribute_any_ h (by rw [arm_eval_Attribute, hb])
end

/-! ### readings and rules -/
/-- e.f, an attribute of the instance -/
def tFld (K : PySem.W.Frag) (ta : TE) (f : Str) : TE := fun σ H Q => ta σ H fun x H1 => ∃ a C dx fs v, x = .ref a ∧ H1 a = some (.ins C dx fs) ∧ Cls K C ∧ NoAttr K C f ∧ fs.lookup f = some v ∧ Q v H1
/-- e.f, a constant of the class -/
def tCon (K : PySem.W.Frag) (ta : TE) (f : Str) : TE := fun σ H Q => ta σ H fun x H1 => ∃ a C dx fs v u, x = .ref a ∧ H1 a = some (.ins C dx fs) ∧ Cls K C ∧ Con K C f v u ∧ fs.lookup f = none ∧ Q v H1
/-- e.f = value -/
def sFld (K : PySem.W.Frag) (ta tv : TE) (f : Str) : TS := fun D σ H => tv σ H fun y H1 => ta σ H1 fun x H2 => ∃ a C dx fs, x = .ref a ∧ H2 a = some (.ins C dx fs) ∧ Cls K C ∧ NoAttr K C f ∧ fs.length < 1000 ∧
  D.nx σ (upd H2 a (.ins C dx (putF f y fs)))
/-- an augmented operator on two values -/
def InOp (X : Cx) (op : Operator) (rd : V → V → Hp → VK → Prop) : Prop :=
  ∀ (pins : List (Addr × Obj)) (s : Shared) (σ : St) (H : Hp) (x y : V) (u v : Value) (Q : VK), Inv X pins σ H s → RelV x u → RelV y v → rd x y H Q → wpAny (model X.prog X.w) X.A (inplaceOp op u v) (EP X pins σ Q) X.xe s
/-- e.f op= value -/
def sFldAug (K : PySem.W.Frag) (ta tv : TE) (rd : V → V → Hp → VK → Prop) (f : Str) : TS := fun D σ H => ta σ H fun x H1 => ∃ a C dx fs v, x = .ref a ∧ H1 a = some (.ins C dx fs) ∧ Cls K C ∧ NoAttr K C f ∧ fs.lookup f = some v ∧
  tv σ H1 fun y H2 => rd v y H2 fun z H3 => ∃ dx' fs', H3 a = some (.ins C dx' fs') ∧ fs'.length < 1000 ∧ D.nx σ (upd H3 a (.ins C dx' (putF f z fs')))

section
variable {X : Cx} {o e value : Expr} {f : Str} {pos pos' tpos : Pos} {ta tv : TE}
theorem pe_fld (he : PE X e ta) (hb : attributeBase e f X.env (eval e X.env) = eval e X.env) : PE X (.Attribute e f pos) (tFld X.K ta f) := by
  intro pins s σ H Q I h
  refine attr_of hb (thn (he pins s σ H _ I h) fun u s1 ⟨x, H1, I1, rx, a, C, dx, fs, v, ex, ea, c, n, l, q⟩ => ?_)
  subst ex
  obtain rfl : u = Value.ref a := rx
  exact getattr_ok I1 ea c n l fun u' s2 I2 ru => ⟨v, H1, I2, ru, q⟩
theorem ps_fld (ha : PE X o ta) (hv : PE X value tv) (hs : swapsWith value (some (.Attribute o f pos')) pos.line X.env = pure false) : PS X (.Assign [.Attribute o f pos'] value pos) (sFld X.K ta tv f) := by
  intro pins s σ H D I h
  refine plainObj_wpAny_Assign_Attribute (thn (hv pins s σ H _ I h) fun u s1 ⟨y, H1, I1, ry, q⟩ => thn (ha pins s1 σ H1 _ I1 q) fun ov s2 ⟨x, H2, I2, rx, a, C, dx, fs, ex, ea, c, n, l, q2⟩ => ?_) hs
  subst ex
  obtain rfl : ov = Value.ref a := rx
  exact setattr_ok I2 ea c n l ry fun s3 I3 => ⟨σ, _, I3, q2⟩
def rAdd : V → V → Hp → VK → Prop := fun x y H Q => ∃ i j, x = .int i ∧ y = .int j ∧ Q (.int (i + j)) H
def rSub : V → V → Hp → VK → Prop := fun x y H Q => ∃ i j, x = .int i ∧ y = .int j ∧ Q (.int (i - j)) H
end

/-! ### isinstance -/
section
variable {X : Cx} {pins : List (Addr × Obj)} {σ : St} {H : Hp} {s : Shared} {A : Around} {E : Value → Shared → Prop} {Q : Value → Shared → Prop} {c : Value} {b : Bool}
/-- the type of a value, as the fragment's deciders take it; for an instance its class -/
inductive TyOf (K : PySem.W.Frag) (H : Hp) : V → Value → Prop where
  | non : TyOf K H .non (.type "NoneType")
  | bl (x : Bool) : TyOf K H (.bl x) (.type "bool")
  | int (i : Int) : TyOf K H (.int i) (.type "int")
  | str (x : Str) : TyOf K H (.str x) (.type "str")
  | flt (x : UInt64) : TyOf K H (.flt x) (.type "float")
  | lst {a : Addr} {xs : List V} (e : H a = some (.lst xs)) : TyOf K H (.ref a) (.type "list")
  | frz {a : Addr} {o : Obj} {xs : List V} (e : H a = some (.frz o (.lst xs))) : TyOf K H (.ref a) (.type "list")
  | tup {a : Addr} {xs : List V} (e : H a = some (.tup xs)) : TyOf K H (.ref a) (.type "tuple")
  | dK {a : Addr} {kvs : List (Key × V)} (e : H a = some (.dK kvs)) : TyOf K H (.ref a) (.type "dict")
  | dT {a : Addr} {kvs : List (List Key × V)} (e : H a = some (.dT kvs)) : TyOf K H (.ref a) (.type "dict")
  | ins {a C dx : Addr} {fs : List (Str × V)} (e : H a = some (.ins C dx fs)) (cl : Cls K C) (ha : PySem.W.findIn K (.ref C) "__class__" = some (some (.builtin "object.__class__")))
      (hn : PySem.W.specialIn K (.builtin "object.__class__") "__get__" = some (some (.builtin "getset_descriptor.__get__"))) (htk : PySem.W.takesIn K (.builtin "object.__class__") = some true)
      (hm : PySem.W.mroIn K C (.type "object") = some true) : TyOf K H (.ref a) (.ref C)
/-- isinstance(x, c) for one class c, a built-in or an own one: kitOne's answer -/
theorem isinst_ok {x : V} {u t : Value} (I : Inv X pins σ H s) (rx : RelV x u) (ty : TyOf X.K H x t) (e : PySem.W.kitOne X.K t c = some b) (h : ∀ tk, Q (.bool b) { s with toks := tk }) :
    wpAny (model X.prog X.w) A (call (.builtin "isinstance") [u, c]) Q E s := by
  cases ty with
  | non => cases (show u = Value.none from rx); exact PySem.W.kia_one PySem.W.kitx_none I.kIn True.intro e (fun z => nomatch z) h
  | bl y => cases (show u = Value.bool y from rx); exact PySem.W.kia_one PySem.W.kitx_bool I.kIn True.intro e (fun z => nomatch z) h
  | int i => obtain ⟨t, q⟩ := (show ∃ t, u = Value.int i t from rx); cases q; exact PySem.W.kia_one PySem.W.kitx_int I.kIn True.intro e (fun z => nomatch z) h
  | str y => obtain ⟨t, q⟩ := (show ∃ t, u = Value.str y t from rx); cases q; exact PySem.W.kia_one PySem.W.kitx_str I.kIn True.intro e (fun z => nomatch z) h
  | flt y => obtain ⟨t, q⟩ := (show ∃ t, u = Value.float y t from rx); cases q; exact PySem.W.kia_one PySem.W.kitx_float I.kIn True.intro e (fun z => nomatch z) h
  | @lst a xs ea =>
    cases (show u = Value.ref a from rx)
    obtain ⟨_, _, n, _, h1⟩ := (show ObjOk X.prog X.w H s.heap a (.lst xs) from I.hok a _ ea)
    exact PySem.W.kia_one PySem.W.kitx_list I.kIn ⟨_, h1, rfl⟩ e (fun z => nomatch z) h
  | @frz a ob xs ea =>
    cases (show u = Value.ref a from rx)
    obtain ⟨_, _, _, n, _, h1⟩ := (show ObjOk X.prog X.w H s.heap a (.frz ob (.lst xs)) from I.hok a _ ea)
    exact PySem.W.kia_one PySem.W.kitx_list I.kIn ⟨_, h1, rfl⟩ e (fun z => nomatch z) h
  | @tup a xs ea =>
    cases (show u = Value.ref a from rx)
    obtain ⟨_, _, _, p⟩ := (show ObjOk X.prog X.w H s.heap a (.tup xs) from I.hok a _ ea)
    obtain ⟨o, h1, h2, _⟩ := p
    exact PySem.W.kia_one PySem.W.kitx_tuple I.kIn ⟨o, h1, h2⟩ e (fun z => nomatch z) h
  | @dK a kvs ea =>
    cases (show u = Value.ref a from rx)
    obtain ⟨_, _, vs, _, p⟩ := (show ObjOk X.prog X.w H s.heap a (.dK kvs) from I.hok a _ ea)
    obtain ⟨o, es, ep, h1, h2, _⟩ := p
    exact PySem.W.kia_one PySem.W.kitx_dict I.kIn ⟨o, h1, h2.1⟩ e (fun z => nomatch z) h
  | @dT a kvs ea =>
    cases (show u = Value.ref a from rx)
    obtain ⟨_, _, xs, _, o, es, ep, h1, h2, _⟩ := (show ObjOk X.prog X.w H s.heap a (.dT kvs) from I.hok a _ ea)
    exact PySem.W.kia_one PySem.W.kitx_dict I.kIn ⟨o, h1, h2.1⟩ e (fun z => nomatch z) h
  | @ins a C dx fs ea cl ha hn htk hm =>
    cases (show u = Value.ref a from rx)
    obtain ⟨mA, O, _⟩ := ins_get I.hok ea
    obtain ⟨od, J, _⟩ := O.look
    exact PySem.W.kia_one (PySem.W.kitx_own (cl.get _) cl.hd ha hn htk hm) I.kIn J e (fun z => nomatch z) h
end
end L2

namespace L2
open PySem PySem.Spec PyProof.Rows

/-! ### room -/
structure Room (k : Nat) (A : Around) : Prop where
  hd : A.handled = none
  dp : A.depth + 3 * k + 5 < recursionLimit
  un : A.units + 16 * k + 200 < cLine
theorem Room.mono {j k : Nat} {A : Around} (r : Room k A) (h : j ≤ k) : Room j A := ⟨r.hd, by have := r.dp; omega, by have := r.un; omega⟩
theorem Room.deeper {k : Nat} {A : Around} (r : Room (k + 1) A) (env : Env) : Room k (A.deeper env) :=
  ⟨r.hd, by have := r.dp; show A.depth + 1 + 3 * k + 5 < _; omega, by have := r.un; show A.units + 3 + 16 * k + 200 < _; omega⟩
theorem Room.in1 {k : Nat} {A : Around} (r : Room (k + 1) A) : Room k A.in1 :=
  ⟨r.hd, by have := r.dp; show A.depth + 3 * k + 5 < _; omega, by have := r.un; show A.units + 1 + 16 * k + 200 < _; omega⟩
theorem make_depth {A : Around} {C : Addr} {us : List Value} {kw : List (Str × Value)} : (A.under (.builtin "type.__call__" ⟨.ref C :: us, kw⟩)).depth = A.depth + 1 := by
  first | rfl | simp [Around.under, Code.weight, Code.isCreation, Code.isGuard, Code.isCaller, Code.frames, Code.isFrame, guardIds]
theorem make_units {A : Around} {C : Addr} {us : List Value} {kw : List (Str × Value)} : (A.under (.builtin "type.__call__" ⟨.ref C :: us, kw⟩)).units = A.units + 1 := by
  first | rfl | simp [Around.under, Code.cUnits, Code.frames, Code.isFrame]
theorem Room.make {k : Nat} {A : Around} (r : Room (k + 1) A) (C : Addr) (us : List Value) (kw : List (Str × Value)) : Room k (A.under (.builtin "type.__call__" ⟨.ref C :: us, kw⟩)) :=
  ⟨r.hd, by have := r.dp; rw [make_depth]; omega, by have := r.un; rw [make_units]; omega⟩
theorem Room.depth {k : Nat} {A : Around} (r : Room k A) : A.depth < recursionLimit := by have := r.dp; omega
theorem Room.units {k : Nat} {A : Around} (r : Room k A) : A.units + 64 < cLine := by have := r.un; omega
/-! ### argument lists and displays -/
def tNil : TA := fun _ H Q => Q [] H
def tCons (ta : TE) (tr : TA) : TA := fun σ H Q => ta σ H fun x H1 => tr σ H1 fun xs H2 => Q (x :: xs) H2
section
variable {X : Cx} {e : Expr} {es : List Expr} {te : TE} {t : TA} {pos : Pos}
theorem pa_nil : PA X [] tNil := fun _ _ _ _ H Q I h => Calls.spliced_nil ⟨[], H, I, .nil, h⟩
theorem pa_cons (ha : PE X e te) (hr : PA X es t) (hs : starEach (e :: es) X.env = (false, eval e X.env) :: starEach es X.env := by rfl) : PA X (e :: es) (tCons te t) := by
  intro pos pins s σ H Q I h
  rw [hs]
  show wpAny _ _ (spliced ((false, eval e X.env) :: backTo pos (starEach es X.env))) _ _ s
  refine Calls.spliced_cons (thn (ha pins s σ H _ I h) fun u s1 ⟨x, H1, I1, r1, q1⟩ => ?_)
  exact thn (hr pos pins s1 σ H1 _ I1 q1) fun us s2 ⟨xs, H2, I2, r2, q2⟩ => ⟨x :: xs, H2, I2, .cons r1 r2, q2⟩

/-- a tuple, a list of written items -/
def tTup (t : TA) : TE := fun σ H Q => t σ H fun xs H1 => xs.length ≤ sizeLine ∧ ∀ p, H1 p = none → Q (.ref p) (upd H1 p (.tup xs))
def tLst (t : TA) : TE := fun σ H Q => t σ H fun xs H1 => xs.length ≤ sizeLine ∧ ∀ p, H1 p = none → Q (.ref p) (upd H1 p (.lst xs))
theorem pe_tup {x1} (h : PA X es t) : PE X (.Tuple es x1 pos) (tTup t) := by
  intro pins s σ H Q I hq
  refine wpAny_Tuple_spliced (thn (h pos pins s σ H _ I hq) fun us s1 ⟨xs, H1, I1, r, z, q⟩ => ⟨by rw [← r.length]; exact z, ?_⟩)
  have hf : H1 s1.heap.objs.size = none := I1.hok.fresh (Nat.le_refl _)
  refine ⟨.ref s1.heap.objs.size, upd H1 s1.heap.objs.size (.tup xs), I1.laid (t' := s1.toks) (fun b u e => Heap.get?_push_of_some _ e) (Nat.le_refl _) ?_, rfl, q _ hf⟩
  exact ⟨z, us, r, ⟨_, Heap.get?_push_size _ rfl, rfl, _, rfl⟩⟩
theorem pe_lst (h : PA X es t) : PE X (.List es pos) (tLst t) := by
  intro pins s σ H Q I hq
  refine wpAny_List_spliced (thn (h pos pins s σ H _ I hq) fun us s1 ⟨xs, H1, I1, r, z, q⟩ => ⟨by rw [← r.length]; exact z, ?_⟩)
  have hf : H1 s1.heap.objs.size = none := I1.hok.fresh (Nat.le_refl _)
  refine ⟨.ref s1.heap.objs.size, upd H1 s1.heap.objs.size (.lst xs), I1.laid (t' := s1.toks) (fun b u e => Heap.get?_push_of_some _ e) (Nat.le_refl _) ?_, rfl, q _ hf⟩
  exact ⟨z, us, 0, r, Heap.get?_push_size _ rfl⟩
end

/-! ### what a def promises -/
/-- a def's promise: the bound arguments in the parameters' order, the heap, the wanted end, the wanted exception -/
abbrev Sp := List V → Hp → VK → XK → Prop
/-- how an exception lies behind a call (file 08 gives it): the callers' frames, abstract heap and state ahead of the call, the wish, the exception, the state -/
abbrev CXT := List Env → Hp → Shared → XK → Value → Shared → Prop

/-- the state at a call -/
structure Env0 (P : Program) (w : World) (K : PySem.W.Frag) (mg : Str → Option Value) (base : Heap) (A : Around) (outer : List Env) (s : Shared) (H : Hp) : Prop where
  frames : A.frames = some outer
  mod : Mod K mg base
  bs : ∀ b o, base.get? b = some o → s.heap.get? b = some o ∧ H b = none
  bsz : base.objs.size ≤ s.heap.objs.size
  funs : s.heap.FunFrames base outer
  frf : ∀ b ∈ frs outer, H b = none
  hok : HOk P w H s.heap
  bare : AllBare s.gens
/-- a call's end -/
def CE (outer : List Env) (P : Program) (w : World) (H : Hp) (s : Shared) (Q : VK) (u : Value) (s' : Shared) : Prop :=
  ∃ v H', s'.os = s.os ∧ AllBare s'.gens ∧ Un (frs outer) [] H H' s.heap s'.heap ∧ HOk P w H' s'.heap ∧ RelV v u ∧ Q v H'
def CR (CX : CXT) (outer : List Env) (P : Program) (w : World) (H : Hp) (s : Shared) (Q : VK) (E : XK) (r : Result) (s' : Shared) : Prop :=
  match r with
  | .ok (.ret u) => CE outer P w H s Q u s'
  | .ok _ => False
  | .error e => CX outer H s E e s'
structure FnOk (P : Program) (w : World) (K : PySem.W.Frag) (mg : Str → Option Value) (base : Heap) (CX : CXT) (k : Nat) (f : Addr) (fd : FuncData) (ps : List Str) (sp : Sp) : Prop where
  len : ∀ vs H Q E, sp vs H Q E → vs.length = ps.length
  run : ∀ (A : Around) (outer : List Env) (s : Shared) (H : Hp) (args : Args) (us : List Value) (vs : List V) (Q : VK) (E : XK), Room k A → Env0 P w K mg base A outer s H → BindsTo s fd args (ps.zip us) → Vals vs us → sp vs H Q E →
    codeAny (model P w) A (.call (.ref f) args) (CR CX outer P w H s Q E) s
theorem FnOk.mono {P : Program} {w : World} {K : PySem.W.Frag} {mg : Str → Option Value} {base : Heap} {CX : CXT} {j k : Nat} {f : Addr} {fd : FuncData} {ps : List Str} {sp : Sp} (F : FnOk P w K mg base CX j f fd ps sp) (h : j ≤ k) :
    FnOk P w K mg base CX k f fd ps sp := ⟨F.len, fun A outer s H args us vs Q E hr => F.run A outer s H args us vs Q E (hr.mono h)⟩
/-- a weaker promise -/
theorem FnOk.imp {P : Program} {w : World} {K : PySem.W.Frag} {mg : Str → Option Value} {base : Heap} {CX : CXT} {k : Nat} {f : Addr} {fd : FuncData} {ps : List Str} {sp sp' : Sp} (F : FnOk P w K mg base CX k f fd ps sp)
    (h : ∀ vs H Q E, sp' vs H Q E → sp vs H Q E) : FnOk P w K mg base CX k f fd ps sp' :=
  ⟨fun vs H Q E q => F.len vs H Q E (h _ _ _ _ q), fun A outer s H args us vs Q E hr he hb hv hs => F.run A outer s H args us vs Q E hr he hb hv (h _ _ _ _ hs)⟩

theorem Env0.make {P : Program} {w : World} {K : PySem.W.Frag} {mg : Str → Option Value} {base : Heap} {A : Around} {outer : List Env} {s : Shared} {H : Hp} (e : Env0 P w K mg base A outer s H) (C : Addr) (us : List Value) (kw : List (Str × Value)) :
    Env0 P w K mg base (A.under (.builtin "type.__call__" ⟨.ref C :: us, kw⟩)) outer s H := ⟨by first | exact e.frames | (simpa [Around.under, Code.envs, Code.isFrame, pushEnvs] using e.frames), e.mod, e.bs, e.bsz, e.funs, e.frf, e.hok, e.bare⟩
theorem Env0.in1 {P : Program} {w : World} {K : PySem.W.Frag} {mg : Str → Option Value} {base : Heap} {A : Around} {outer : List Env} {s : Shared} {H : Hp} (e : Env0 P w K mg base A outer s H) :
    Env0 P w K mg base A.in1 outer s H := ⟨e.frames, e.mod, e.bs, e.bsz, e.funs, e.frf, e.hok, e.bare⟩

section
variable {X : Cx} {pins : List (Addr × Obj)} {σ : St} {H : Hp} {s s' : Shared}
/-- from a body: what a callee wants -/
theorem Inv.env0 (I : Inv X pins σ H s) : Env0 X.prog X.w X.K X.mg X.base X.A X.stack s H :=
  ⟨I.ok.frames, I.ok.mod, I.bs, Nat.le_trans I.ok.bsz I.sz, I.stack, I.stkFree, I.hok, I.bare⟩
/-- behind a call -/
theorem Inv.after {Q : VK} {u : Value} (I : Inv X pins σ H s) (h : CE X.stack X.prog X.w H s Q u s') : EP X pins σ Q u s' := by
  obtain ⟨v, H', os, bare, un, hok, r, q⟩ := h
  obtain ⟨hh, g, d, t, os'⟩ := s'
  obtain rfl : os' = s.os := os
  exact ⟨v, H', I.call (h' := hh) (g' := g) (d' := d) (t' := t) (ch := []) un hok bare (fun b z => absurd z (by simp)), r, q⟩
end

/-! ### calls -/
/-- f(..): the written arguments, then the defaults dvs; E: what is wanted of an exception -/
def tCall (sp : Sp) (dvs : List V) (E : XK) (t : TA) : TE := fun σ H Q => t σ H fun vs H1 => sp (vs ++ dvs) H1 Q E
/-- o.m(..) of an instance of the class at C -/
def tMeth (C : Addr) (m : Str) (sp : Sp) (dvs : List V) (E : XK) (ta : TE) (t : TA) : TE := fun σ H Q => ta σ H fun x H1 => ∃ a dx fs, x = .ref a ∧ H1 a = some (.ins C dx fs) ∧ fs.lookup m = none ∧
  t σ H1 fun vs H2 => sp (x :: (vs ++ dvs)) H2 Q E
/-- C(..): a new instance and its dict, then __init__ -/
def tMake (C : Addr) (sp : Sp) (dvs : List V) (E : XK) (t : TA) : TE := fun σ H Q => t σ H fun vs H1 => ∀ x dx, H1 x = none → H1 dx = none → dx ≠ x →
  sp (.ref x :: (vs ++ dvs)) (upd (upd H1 dx (.own x)) x (.ins C dx [])) (fun v H2 => v = .non ∧ Q (.ref x) H2) E

/-- how the parameters are bound: us the positional arguments, kw the keywords' values by name, ds the defaults that fill up -/
def Binds (K : PySem.W.Frag) (fd : FuncData) (ps : List Str) (ds : List Value) : Prop :=
  ∀ (s : Shared) (us : List Value), K.In s.heap → (us ++ ds).length = ps.length → BindsTo s fd ⟨us, []⟩ (ps.zip (us ++ ds))
/-- every parameter is given -/
theorem Binds.all {K : PySem.W.Frag} {fd : FuncData} {ps : List Str} (h : ∀ us : List Value, us.length = ps.length → bindArgs fd ⟨us, []⟩ = pure (ps.zip us)) : Binds K fd ps [] := fun s us _ hl => by
  rw [List.append_nil] at hl ⊢
  exact .of_eq (h us hl)

/-- an exception of a callee reaches what this body wants of exceptions -/
def Passes (CX : CXT) (X : Cx) (E : XK) : Prop := ∀ (pins : List (Addr × Obj)) (σ : St) (H : Hp) (s : Shared) (e : Value) (s' : Shared), Inv X pins σ H s → CX X.stack H s E e s' → X.xe e s'

section
variable {X : Cx} {CX : CXT} {k : Nat} {f C : Addr} {fd : FuncData} {ps : List Str} {sp : Sp} {dvs : List V} {ds : List Value} {E : XK} {x m : Str} {p pos apos : Pos} {e o : Expr} {es : List Expr} {ta : TE} {t : TA}

/-- the callee runs -/
theorem run_fn {pins : List (Addr × Obj)} {σ : St} {H : Hp} {s : Shared} {Q : VK} {us : List Value} {vs : List V} (F : FnOk X.prog X.w X.K X.mg X.base CX k f fd ps sp) (hr : Room k X.A) (hb : Binds X.K fd ps ds) (hd : Vals dvs ds) (hx : Passes CX X E)
    (I : Inv X pins σ H s) (r : Vals vs us) (h : sp (vs ++ dvs) H Q E) : wpAny (model X.prog X.w) X.A (call (.ref f) us) (EP X pins σ Q) X.xe s := by
  have r2 : Vals (vs ++ dvs) (us ++ ds) := r.append hd
  have hl : (us ++ ds).length = ps.length := by rw [← r2.length]; exact F.len _ _ _ _ h
  refine wpAny_call (codeAny_mono (F.run X.A X.stack s H ⟨us, []⟩ (us ++ ds) (vs ++ dvs) Q E hr I.env0 (hb s us I.kIn hl) r2 h) fun r s' hq => ?_)
  cases r with
  | error e => exact hx pins σ H s e s' I hq
  | ok fl =>
    cases fl with
    | ret u => exact I.after hq
    | next => exact False.elim hq
    | brk => exact False.elim hq
    | cont => exact False.elim hq

theorem pe_call (F : FnOk X.prog X.w X.K X.mg X.base CX k f fd ps sp) (hr : Room k X.A) (hg : Gl X x) (hm : X.mg x = some (.ref f)) (hk : PySem.W.keepIn X.K (.ref f) = true) (hb : Binds X.K fd ps ds) (hd : Vals dvs ds) (hx : Passes CX X E)
    (ha : PA X (e :: es) t) (hdb : (x == ("__debug__" : Str)) = false := by decide) (he : starEach (e :: es) X.env = (false, eval e X.env) :: starEach es X.env := by rfl) (hpl : (backTo pos (starEach es X.env)).any (·.1) = false := by rfl) :
    PE X (.Call (.Name x p) (e :: es) [] pos) (tCall sp dvs E t) := by
  intro pins s σ H Q I h
  refine wpAny_Call_Name_kw (ld_glob I hg hm ?_ hdb)
  refine PySem.W.callWith_K (h₀ := X.base) I.ok.mod.kin hk (thn (ha pos pins s σ H _ I h) fun us s1 ⟨vs, H1, I1, r, q⟩ => ⟨I1.kIn, ?_⟩) he hpl
  exact run_fn F hr hb hd hx I1 r q
/-- what a class must have to be made -/
structure Mk (K : PySem.W.Frag) (C f : Addr) : Prop where
  makes : PySem.W.makesIn K C = true
  init : PySem.W.findIn K (.ref C) "__init__" = some (some (.ref f))
  fn : PySem.W.isFn K (.ref f) = true
  kp : PySem.W.keepIn K (.ref C) = true

theorem run_make {pins : List (Addr × Obj)} {σ : St} {H : Hp} {s : Shared} {Q : VK} {us : List Value} {vs : List V} (M : Mk X.K C f) (F : FnOk X.prog X.w X.K X.mg X.base CX k f fd ps sp) (hr : Room (k + 1) X.A) (hb : Binds X.K fd ps ds) (hd : Vals dvs ds)
    (hx : Passes CX X E) (I : Inv X pins σ H s) (r : Vals vs us)
    (h : ∀ x dx, H x = none → H dx = none → dx ≠ x → sp (.ref x :: (vs ++ dvs)) (upd (upd H dx (.own x)) x (.ins C dx [])) (fun v H2 => v = .non ∧ Q (.ref x) H2) E) :
    wpAny (model X.prog X.w) X.A (call (.ref C) us) (EP X pins σ Q) X.xe s := by
  have hq := h (s.heap.objs.size + 1) s.heap.objs.size (I.hok.fresh (Nat.le_succ _)) (I.hok.fresh (Nat.le_refl _)) (Nat.ne_of_lt (Nat.lt_succ_self _))
  have I2 := Inv.made (C := C) I
  have r2 : Vals (V.ref (s.heap.objs.size + 1) :: (vs ++ dvs)) (Value.ref (s.heap.objs.size + 1) :: (us ++ ds)) := .cons rfl (r.append hd)
  have hl : (Value.ref (s.heap.objs.size + 1) :: us ++ ds).length = ps.length := by
    have e := r2.length
    rw [F.len _ _ _ _ hq] at e
    exact e.symm
  refine wpAny_call (make_map (f := f) I.kIn M.makes M.init (beq_iff_eq.mp M.fn) (codeAny_mono (F.run _ X.stack _ _ ⟨Value.ref (s.heap.objs.size + 1) :: us, []⟩ (Value.ref (s.heap.objs.size + 1) :: (us ++ ds)) _ _ E (hr.make C us [])
    (I2.env0.make C us []) (hb _ (Value.ref (s.heap.objs.size + 1) :: us) I2.kIn hl) r2 hq) fun r s' hq' => ?_))
  cases r with
  | error e => exact hx pins σ _ _ e s' I2 hq'
  | ok fl =>
    cases fl with
    | ret u =>
      obtain ⟨v, H', I3, rv, ev, q3⟩ := I2.after hq'
      subst ev
      exact ⟨rv, ⟨V.ref (s.heap.objs.size + 1), H', I3, rfl, q3⟩⟩
    | next => exact False.elim hq'
    | brk => exact False.elim hq'
    | cont => exact False.elim hq'
theorem pe_make (M : Mk X.K C f) (F : FnOk X.prog X.w X.K X.mg X.base CX k f fd ps sp) (hr : Room (k + 1) X.A) (hg : Gl X x) (hm : X.mg x = some (.ref C)) (hb : Binds X.K fd ps ds) (hd : Vals dvs ds) (hx : Passes CX X E)
    (ha : PA X (e :: es) t) (hdb : (x == ("__debug__" : Str)) = false := by decide) (he : starEach (e :: es) X.env = (false, eval e X.env) :: starEach es X.env := by rfl) (hpl : (backTo pos (starEach es X.env)).any (·.1) = false := by rfl) :
    PE X (.Call (.Name x p) (e :: es) [] pos) (tMake C sp dvs E t) := by
  intro pins s σ H Q I h
  refine wpAny_Call_Name_kw (ld_glob I hg hm ?_ hdb)
  refine PySem.W.callWith_K (h₀ := X.base) I.ok.mod.kin M.kp (thn (ha pos pins s σ H _ I h) fun us s1 ⟨vs, H1, I1, r, q⟩ => ⟨I1.kIn, ?_⟩) he hpl
  exact run_make M F hr hb hd hx I1 r q
end

/-! ### keywords -/
/-- the values of the keywords, from the left -/
def PK (X : Cx) (kws : List Keyword) (t : TA) : Prop :=
  ∀ (pos : Pos) (pins : List (Addr × Obj)) (s : Shared) (σ : St) (H : Hp) (Q : List V → Hp → Prop), Inv X pins σ H s → t σ H Q → wpAny (model X.prog X.w) X.A (evalAll ((backToKw pos (keywordEach kws X.env)).map (·.2))) (AP X pins σ Q) X.xe s
section
variable {X : Cx} {CX : CXT} {k : Nat} {f C : Addr} {fd : FuncData} {ps ks : List Str} {sp : Sp} {E : XK} {x m : Str} {p pos apos kpos : Pos} {e o : Expr} {es : List Expr} {kws : List Keyword} {te ta : TE} {t tk : TA} {nm : Option Str}
/-- how a call with keywords binds: g puts the positional values us and the keywords' values ws (names ks) in the parameters' order, defaults among them -/
structure KBinds (K : PySem.W.Frag) (fd : FuncData) (ps ks : List Str) (g : List Value → List Value → List Value) (gV : List V → List V → List V) : Prop where
  to : ∀ (s : Shared) (us ws : List Value), K.In s.heap → (g us ws).length = ps.length → BindsTo s fd ⟨us, ks.zip ws⟩ (ps.zip (g us ws))
  rel : ∀ {vs : List V} {us : List Value} {zs : List V} {ws : List Value}, Vals vs us → Vals zs ws → Vals (gV vs zs) (g us ws)
def tCallK (sp : Sp) (gV : List V → List V → List V) (E : XK) (t tk : TA) : TE := fun σ H Q => t σ H fun vs H1 => tk σ H1 fun zs H2 => sp (gV vs zs) H2 Q E
variable {g : List Value → List Value → List Value} {gV : List V → List V → List V}
end

/-! ### a def's body keeps its promise -/
/-- names: the parameters first -/
structure FnScope (N P : List Str) (sc : Scope) : Prop where
  kind : sc.kind = .function
  co : sc.isCoroutine = false
  gen : sc.isGenerator = false
  nd : N.Nodup
  pre : N.take P.length = P
  par : ∀ x ∈ P, sc.names.lookup x = some .local ∨ sc.names.lookup x = some .cell
  nofree : ∀ y ∈ sc.names, y.2 ≠ .free

theorem bindL_out {kindOf : Str → Option NameKind} {x : Str} : ∀ {binds : List (Str × Value)} {m : Str → Option Value}, (∀ v, (x, v) ∉ binds) → bindL kindOf binds m x = m x
  | [], _, _ => rfl
  | (n, v) :: r, m, h => by
    unfold bindL
    rw [bindL_out fun w hw => h w (List.mem_cons_of_mem _ hw)]
    split
    · have : x ≠ n := by rintro rfl; exact h v List.mem_cons_self
      simp [this]
    · rfl
theorem bindC_out {kindOf : Str → Option NameKind} {x : Str} : ∀ {binds : List (Str × Value)} {m : Str → Option Value}, (∀ v, (x, v) ∉ binds) → bindC kindOf binds m x = m x
  | [], _, _ => rfl
  | (n, v) :: r, m, h => by
    unfold bindC
    rw [bindC_out fun w hw => h w (List.mem_cons_of_mem _ hw)]
    split
    · rfl
    · have : x ≠ n := by rintro rfl; exact h v List.mem_cons_self
      simp [this]
theorem bindL_get {kindOf : Str → Option NameKind} {x : Str} {v : Value} : ∀ {P : List Str} {vs : List Value} {i : Nat} {m : Str → Option Value}, P.Nodup → P[i]? = some x → vs[i]? = some v → kindOf x = some .local →
    bindL kindOf (P.zip vs) m x = some v
  | [], _, _, _, _, h, _, _ => by simp at h
  | _ :: _, [], _, _, _, _, h, _ => by simp at h
  | p :: P, w :: vs, 0, m, nd, h1, h2, hk => by
    simp at h1 h2; subst h1; subst h2
    show bindL kindOf ((p, w) :: P.zip vs) m p = _
    unfold bindL
    rw [bindL_out fun v hv => (List.nodup_cons.mp nd).1 (List.of_mem_zip hv).1, if_pos hk]
    simp
  | p :: P, w :: vs, i + 1, m, nd, h1, h2, hk => by
    show bindL kindOf ((p, w) :: P.zip vs) m x = _
    unfold bindL
    exact bindL_get (i := i) (List.nodup_cons.mp nd).2 (by simpa using h1) (by simpa using h2) hk
theorem bindC_get {kindOf : Str → Option NameKind} {x : Str} {v : Value} : ∀ {P : List Str} {vs : List Value} {i : Nat} {m : Str → Option Value}, P.Nodup → P[i]? = some x → vs[i]? = some v → kindOf x ≠ some .local →
    bindC kindOf (P.zip vs) m x = some v
  | [], _, _, _, _, h, _, _ => by simp at h
  | _ :: _, [], _, _, _, _, h, _ => by simp at h
  | p :: P, w :: vs, 0, m, nd, h1, h2, hk => by
    simp at h1 h2; subst h1; subst h2
    show bindC kindOf ((p, w) :: P.zip vs) m p = _
    unfold bindC
    rw [bindC_out fun v hv => (List.nodup_cons.mp nd).1 (List.of_mem_zip hv).1, if_neg hk]
    simp
  | p :: P, w :: vs, i + 1, m, nd, h1, h2, hk => by
    show bindC kindOf ((p, w) :: P.zip vs) m x = _
    unfold bindC
    exact bindC_get (i := i) (List.nodup_cons.mp nd).2 (by simpa using h1) (by simpa using h2) hk

/-- the names' values at the entry -/
def start (N : List Str) (vs : List V) : St := vs.map some ++ List.replicate (N.length - vs.length) none

/-- the context of a def's body, at its entry; an exception leaves the frame, then lies as CX says -/
def cxOf (CX : CXT) (P : Program) (w : World) (K : PySem.W.Frag) (mg : Str → Option Value) (base : Heap) (N : List Str) (qual : Str) (scope : Scope) (f : Addr) (cd : Value) (A : Around) (outer : List Env) (s : Shared) (H : Hp) (E : XK) : Cx where
  prog := P
  w := w
  K := K
  mg := mg
  base := base
  A := A.deeper (envOfC qual scope s.heap.objs.size f cd)
  N := N
  s₀ := s
  H₀ := H
  env := envOfC qual scope s.heap.objs.size f cd
  outer := outer
  stack := envOfC qual scope s.heap.objs.size f cd :: outer
  ex := []
  calm := true
  fn := fun _ => true
  pn := []
  xe := fun e s' => wpAny (model P w) (A.deeper (envOfC qual scope s.heap.objs.size f cd)) (leaving (envOfC qual scope s.heap.objs.size f cd) e) (fun _ s'' => CX outer H s E e s'') (fun e' s'' => CX outer H s E e' s'') s'

theorem cell_has {sc : Scope} {n : Nat} {x : Str} (h : sc.names.lookup x = some .cell) : ∃ c, (cellsFrom n sc.names []).lookup x = some c := by
  have q := PySem.W.cellsFrom_some sc.names n [] (.inl h)
  exact Option.isSome_iff_exists.mp q

theorem inv_start {CX : CXT} {P : Program} {w : World} {K : PySem.W.Frag} {mg : Str → Option Value} {base : Heap} {N ps : List Str} {qual : Str} {scope : Scope} {f : Addr} {cd : Value} {A : Around} {outer : List Env} {s s1 : Shared} {H : Hp} {E : XK} {us : List Value} {vs : List V}
    (S : FnScope N ps scope) (hd : A.handled = none) (e0 : Env0 P w K mg base A outer s H) (hl : vs.length = ps.length) (r : Vals vs us)
    (x : InCallC s s.heap.objs.size (bindL (envOfC qual scope s.heap.objs.size f cd).kindOf (ps.zip us) fun _ => none) (cellsFrom (s.heap.objs.size + 1) scope.names []) (bindC (envOfC qual scope s.heap.objs.size f cd).kindOf (ps.zip us) fun _ => none) s1) :
    Inv (cxOf CX P w K mg base N qual scope f cd A outer s H E) [] (start N vs) H s1 := by
  have hpl : ps.length ≤ N.length := by have := congrArg List.length S.pre; rw [List.length_take] at this; omega
  obtain ⟨h1, tk, rfl, hk⟩ := x.done
  have noA : ∀ b : Addr, b ∉ (cxOf CX P w K mg base N qual scope f cd A outer s H E).ex := fun b z => absurd (show b ∈ ([] : List Addr) from z) (by simp)
  refine ⟨⟨e0.mod, S.kind, rfl, rfl, Nat.le_refl _, fun y z c h1 h2 => ?_, fun y hy => ?_, fun y c _ h => ?_, fun _ => hd, Around.frames_deeper e0.frames, .inr ⟨rfl, rfl⟩, fun b z => absurd z (noA b), e0.bs, e0.bsz, fun b _ _ => noA b, fun b z => absurd z (noA b), e0.funs, e0.frf⟩,
    rfl, e0.bare, Un.kept hk, ⟨_, x.toInCall.ns, fun i y v h1 h2 h3 => ?_⟩, fun y c h => ⟨_, x.cell y c h⟩, e0.hok.fresh (Nat.le_refl _), fun y c h => ?_, fun p hp => absurd (show p ∈ ([] : List (Addr × Obj)) from hp) (by simp), e0.hok.kept hk, ?_⟩
  · exact name_of_addr x.apart (PySem.mem_of_lookup h1) (PySem.mem_of_lookup h2)
  · have hy : scope.names.lookup y = some .cell ∨ scope.names.lookup y = some .free := hy
    rcases hy with hy | hy
    · exact cell_has hy
    · exact absurd rfl (S.nofree _ (PySem.mem_of_lookup hy))
  · exact Nat.le_of_lt (x.above y c (PySem.mem_of_lookup h))
  · have hi : i < vs.length := by
      unfold start at h2
      by_cases hi : i < vs.length
      · exact hi
      · rw [List.getElem?_append_right (by simpa using hi)] at h2
        rw [List.getElem?_replicate] at h2
        split at h2 <;> cases h2
    have ha : vs[i]? = some v := by
      unfold start at h2
      rw [List.getElem?_append_left (by simpa using hi), List.getElem?_map] at h2
      cases e : vs[i]? with
      | none => rw [e] at h2; cases h2
      | some a => rw [e] at h2; cases h2; rfl
    obtain ⟨u, hu, rv⟩ := r.get ha
    have hp : ps[i]? = some y := by
      rw [← S.pre, List.getElem?_take_of_lt (by omega)]; exact h1
    have ndP : ps.Nodup := by rw [← S.pre]; exact S.nd.sublist (List.take_sublist _ _)
    refine ⟨u, rv, ?_⟩
    rcases S.par y (List.mem_of_getElem? hp) with k | k
    · exact .inl ⟨k, bindL_get ndP hp hu k⟩
    · obtain ⟨c, e⟩ := cell_has (n := s.heap.objs.size + 1) k
      refine .inr ⟨.inl k, c, e, ?_⟩
      have q := x.cell y c e
      rw [bindC_get ndP hp hu (by show scope.names.lookup y ≠ _; rw [k]; decide)] at q
      exact q
  · exact e0.hok.fresh (Nat.le_of_lt (x.above y c (PySem.mem_of_lookup h)))
  · unfold start
    show _ = N.length
    rw [List.length_append, List.length_map, List.length_replicate]
    omega

/-- THE RULE: a def (or a method) of the text, by its body. The body's reading t is chosen for each entry; it is run at the parameters' values -/
theorem fn_of {CX : CXT} {P : Program} {w : World} {K : PySem.W.Frag} {mg : Str → Option Value} {base : Heap} {k : Nat} {f : Addr} {name qual : Str} {params : Arguments} {body : List Stmt} {scope : Scope} {dV kV doc pm cdv ct oc : Value} {an od : Option Addr}
    {osl : Array (Option Value)} {N ps : List Str} {sp : Sp} (lk : K.lookup f = some ⟨oc, od, .func (PySem.W.fnOf name qual params body scope dV kV doc pm an cdv ct), osl⟩) (hcd : PySem.W.codeIn K cdv qual = true) (S : FnScope N ps scope)
    (len : ∀ vs H Q E, sp vs H Q E → vs.length = ps.length)
    (hbody : ∀ (A : Around) (outer : List Env) (s : Shared) (H : Hp) (vs : List V) (Q : VK) (E : XK), Room k (A.deeper (envOfC qual scope s.heap.objs.size f cdv)) → sp vs H Q E →
      ∃ t, PSs (cxOf CX P w K mg base N qual scope f cdv A outer s H E) body t ∧ t { nx := fun _ H' => Q .non H', rt := Q } (start N vs) H) :
    FnOk P w K mg base CX (k + 1) f (PySem.W.fnOf name qual params body scope dV kV doc pm an cdv ct) ps sp := by
  refine ⟨len, fun A outer s H args us vs Q E hr e0 hb r hsp => ?_⟩
  have hl := len _ _ _ _ hsp
  have KX : K.In s.heap := e0.mod.kin.keeps fun b o e => (e0.bs b o e).1
  have lim : s.heap.NoLimit := e0.mod.nolimit.keeps fun b o e => (e0.bs b o e).1
  have hkind : ∀ y ∈ ps.zip us, scope.names.lookup y.1 = some .local ∨ (scope.names.lookup y.1 = some .cell ∧ ((cellsFrom (s.heap.objs.size + 1) scope.names []).lookup y.1).isSome = true) := fun ⟨n, v⟩ hy => by
    rcases S.par n (List.of_mem_zip hy).1 with q | q
    · exact .inl q
    · exact .inr ⟨q, PySem.W.cellsFrom_some _ _ _ (.inl q)⟩
  refine codeAny_call_function hr.depth (KX _ _ lk) rfl S.co S.gen rfl (PySem.W.codeRec_of KX hcd) (hb _ _ _ _ ?_)
  refine wpAny_newFunctionEnv_cells S.kind hkind fun env he s1 x => ?_
  subst he
  refine ⟨lim.keeps x.toInCall.keep, codeAny_func ?_⟩
  obtain ⟨t, ht, hq⟩ := hbody A outer s H vs Q E (hr.deeper _) hsp
  have I : Inv (cxOf CX P w K mg base N qual scope f cdv A outer s H E) [] (start N vs) H s1 := inv_start S hr.hd e0 hl r x
  refine wpAny_mono (ht [] s1 (start N vs) H _ I hq) (fun fl s' hs => ?_) fun e s' hs => hs
  have fin : ∀ {σ' : St} {H' : Hp} {v : V} {u : Value}, Inv (cxOf CX P w K mg base N qual scope f cdv A outer s H E) [] σ' H' s' → RelV v u → Q v H' → CE outer P w H s Q u s' :=
    fun {σ' H' v u} J rv q => ⟨v, H', J.os, J.bare, J.base, J.hok, rv, q⟩
  cases fl with
  | ret u =>
    obtain ⟨v, σ', H', J, rv, q⟩ := hs
    exact fin J rv q
  | next =>
    obtain ⟨σ', H', J, q⟩ := hs
    exact fin (v := V.non) (u := Value.none) J rfl q
  | brk =>
    obtain ⟨_, _, _, q⟩ := hs
    exact False.elim q
  | cont =>
    obtain ⟨_, _, _, q⟩ := hs
    exact False.elim q
end L2

namespace L2
open PySem PySem.Spec PyProof.Rows
section
variable {X : Cx} {x : Str} {p pos : Pos} {e : Expr} {es : List Expr} {t : TA} {id T : String} {r : List V → Hp → VK → Prop}

def tCB (r : List V → Hp → VK → Prop) (t : TA) : TE := fun σ H Q => t σ H fun vs H1 => r vs H1 Q
/-- f(e, ..), f a built-in function -/
theorem pe_callB (hc : CallR X (.builtin id) r) (hg : Gl X x) (hm : X.mg x = none) (hv : bootBuiltins x = some (.builtin id)) (ha : PA X (e :: es) t) (hn : x ≠ "__name__" := by decide) (hdb : (x == ("__debug__" : Str)) = false := by decide)
    (he : starEach (e :: es) X.env = (false, eval e X.env) :: starEach es X.env := by rfl) (hpl : (backTo pos (starEach es X.env)).any (·.1) = false := by rfl) : PE X (.Call (.Name x p) (e :: es) [] pos) (tCB r t) := by
  intro pins s σ H Q I h
  refine wpAny_Call_Name_kw (ld_blt I hg hm hv ?_ hn hdb)
  exact PyProof.Rows.callWith_builtin1 (thn (ha pos pins s σ H _ I h) fun us s1 ⟨vs, H1, I1, r1, q1⟩ => hc pins s1 σ H1 vs us Q I1 r1 q1) he hpl
end
end L2

namespace HT
open PySem PyProof.Rows

/-- t < u of tuples of ints -/
def lexLt : List Int → List Int → Bool
  | [], [] => false
  | [], _ :: _ => true
  | _ :: _, [] => false
  | x :: xs, y :: ys => if x = y then lexLt xs ys else decide (x < y)
section
open PySem.SeqAt
open PySem.AutoSeq1 (wpAny_loadPart')
open PySem.MeetsSeq PySem.MeetsSeq2 PySem.MeetsSeq3

end

section
variable {prog : Program} {w : World} {A : Around} {E : Value → Shared → Prop} {s : Shared}

/-! ### t[a:b], not the whole -/
/-- a slice's bound as a place among n (d where it is left out) -/
def sIx (n d : Nat) : Option Int → Nat
  | none => d
  | some v => if v < 0 then (v + (n : Int)).toNat else min v.toNat n
end
end HT

namespace L2
open PySem PySem.Spec PyProof.Rows

/-! ### the parts of a slice -/
abbrev TO := St → Hp → (Option Int → Hp → Prop) → Prop
/-- a slice's part (left out, or an int) -/
def PO (X : Cx) (e : Option Expr) (t : TO) : Prop :=
  ∀ (pins : List (Addr × Obj)) (s : Shared) (σ : St) (H : Hp) (Q : Option Int → Hp → Prop), Inv X pins σ H s → t σ H Q →
    wpAny (model X.prog X.w) X.A (evalPart e X.env) (fun u s' => ∃ o H', Inv X pins σ H' s' ∧ IsPart u o ∧ Q o H') X.xe s
def tNoPart : TO := fun _ H Q => Q none H
def tPart (t : TE) : TO := fun σ H Q => t σ H fun x H1 => ∃ i, x = .int i ∧ Q (some i) H1

section
variable {X : Cx} {e : Expr} {te : TE} {lo hi : Option Expr} {tl th : TO} {pos p2 : Pos}

/-- what a slice of a value is, by values: the slice object stands at sl -/
def SlR (X : Cx) (r : V → Option Int → Option Int → Hp → VK → Prop) : Prop :=
  ∀ (pins : List (Addr × Obj)) (s : Shared) (σ : St) (H : Hp) (x : V) (v vl vu : Value) (lo hi : Option Int) (sl : Addr) (Q : VK), Inv X pins σ H s → RelV x v → s.heap.IsSliceOf sl vl vu .none → IsPart vl lo → IsPart vu hi → r x lo hi H Q →
    ∃ T id, typeLookup (.type T) "__getitem__" = pure (some (.builtin id)) ∧ s.TypeIs v T ∧ wpAny (model X.prog X.w) X.A (getItem v (.ref sl)) (EP X pins σ Q) X.xe s
theorem SlR.or {r r' : V → Option Int → Option Int → Hp → VK → Prop} (h : SlR X r) (h' : SlR X r') : SlR X (fun x lo hi H Q => r x lo hi H Q ∨ r' x lo hi H Q) := by
  intro pins s σ H x v vl vu lo hi sl Q I rx hs pl pu q
  rcases q with q | q
  · exact h pins s σ H x v vl vu lo hi sl Q I rx hs pl pu q
  · exact h' pins s σ H x v vl vu lo hi sl Q I rx hs pl pu q
def tSl (r : V → Option Int → Option Int → Hp → VK → Prop) (te : TE) (tl th : TO) : TE := fun σ H Q => te σ H fun x H1 => tl σ H1 fun l H2 => th σ H2 fun u H3 => r x l u H3 Q
/-- the items of xs[lo:hi] -/
def cutV (xs : List V) (lo hi : Option Int) : List V := (xs.drop (HT.sIx xs.length 0 lo)).take (HT.sIx xs.length xs.length hi - HT.sIx xs.length 0 lo)
/-- t[lo:hi], not the whole of it (the whole would be t itself) -/
def rSlT (K : PySem.W.Frag) : V → Option Int → Option Int → Hp → VK → Prop := fun x lo hi H Q => ∃ a xs, x = .ref a ∧ SqT K H a xs ∧
  ¬ (HT.sIx xs.length 0 lo = 0 ∧ HT.sIx xs.length xs.length hi = xs.length) ∧ ∀ p, H p = none → Q (.ref p) (upd H p (.tup (cutV xs lo hi)))
/-! ### t < u, t + u -/
def rLtT (K : PySem.W.Frag) : R2 := fun x y H Q => ∃ a b ns ms, x = .ref a ∧ y = .ref b ∧ SqT K H a (ns.map V.int) ∧ SqT K H b (ms.map V.int) ∧ Q (.bl (HT.lexLt ns ms)) H
/-- t + u, t not empty: u empty gives t itself -/
def rCatT (K : PySem.W.Frag) : R2 := fun x y H Q => ∃ a b xs ys, x = .ref a ∧ y = .ref b ∧ SqT K H a xs ∧ SqT K H b ys ∧ xs ≠ [] ∧ xs.length + ys.length ≤ sizeLine ∧
  (ys = [] → Q (.ref a) H) ∧ (ys ≠ [] → ∀ p, H p = none → Q (.ref p) (upd H p (.tup (xs ++ ys))))
end
end L2

namespace L2
open PySem PySem.Spec PyProof.Rows

/-! ### places -/
/-- the place that an index of any sign means -/
def ixN (n : Nat) (i : Int) : Option Nat := if 0 ≤ i then (if i < n then some i.toNat else none) else if -(n : Int) ≤ i then some (i + n).toNat else none
def atI {α : Type} (xs : List α) (i : Int) : Option α := (ixN xs.length i).bind fun j => xs[j]?
theorem ixN_seq {n : Nat} {i : Int} {j : Nat} (h : ixN n i = some j) : seqIndex? i n = some j ∧ j < n ∧ -(n : Int) ≤ i ∧ i < n := by
  unfold ixN at h
  by_cases h0 : 0 ≤ i
  · rw [if_pos h0] at h
    by_cases h1 : i < n
    · rw [if_pos h1] at h
      have e : i.toNat = j := Option.some.inj h
      exact ⟨by rw [seqIndex_of h0 h1, e], by omega, by omega, h1⟩
    · rw [if_neg h1] at h; cases h
  · rw [if_neg h0] at h
    by_cases h1 : -(n : Int) ≤ i
    · rw [if_pos h1] at h
      have e : (i + n).toNat = j := Option.some.inj h
      exact ⟨by rw [seqIndex_neg (by omega) h1, e], by omega, h1, by omega⟩
    · rw [if_neg h1] at h; cases h
theorem atI_get {α : Type} {xs : List α} {i : Int} {v : α} (h : atI xs i = some v) : ∃ j, seqIndex? i xs.length = some j ∧ xs[j]? = some v ∧ j < xs.length ∧ -(xs.length : Int) ≤ i ∧ i < xs.length := by
  unfold atI at h
  cases e : ixN xs.length i with
  | none => rw [e] at h; cases h
  | some j =>
    rw [e] at h
    obtain ⟨h1, h2, h3, h4⟩ := ixN_seq e
    exact ⟨j, h1, h, h2, h3, h4⟩
theorem atI_nat {α : Type} {xs : List α} {j : Nat} {v : α} (h : xs[j]? = some v) : atI xs (j : Int) = some v := by
  have hj : j < xs.length := (List.getElem?_eq_some_iff.mp h).1
  have e : ixN xs.length (j : Int) = some j := by
    unfold ixN
    rw [if_pos (by omega), if_pos (by omega)]; simp
  unfold atI; rw [e]; exact h
/-! ### what may be subscripted -/
/-- what stands as an index of a plain subscript -/
def PlainIx (b : Expr) : Prop := ∀ o i, subscripted b false o i = operate [o, i] (getItem o i)
/-- a subscript by values -/
def IxR (X : Cx) (r : R2) : Prop :=
  ∀ (value slice : Expr) (pins : List (Addr × Obj)) (s : Shared) (σ : St) (H : Hp) (x y : V) (v u : Value) (Q : VK), Inv X pins σ H s → RelV x v → RelV y u → r x y H Q →
    subscripted slice false v u = operate [v, u] (getItem v u) → wpAny (model X.prog X.w) X.A (subscriptTail value slice v u) (EP X pins σ Q) X.xe s
/-- a call of a builtin's method by values: the receiver, the arguments -/
def MtR (X : Cx) (id : String) (r : V → List V → Hp → VK → Prop) : Prop :=
  ∀ (pins : List (Addr × Obj)) (s : Shared) (σ : St) (H : Hp) (x : V) (xs : List V) (v : Value) (us : List Value) (Q : VK), Inv X pins σ H s → RelV x v → Vals xs us → r x xs H Q →
    wpAny (model X.prog X.w) X.A (call (.builtin id) (v :: us)) (EP X pins σ Q) X.xe s
section
variable {X : Cx} {a b : Expr} {ta tb : TE} {pos : Pos}
theorem IxR.or {r r' : R2} (h : IxR X r) (h' : IxR X r') : IxR X (fun x y H Q => r x y H Q ∨ r' x y H Q) := by
  intro value slice pins s σ H x y v u Q I rx ry q hs
  rcases q with q | q
  · exact h value slice pins s σ H x y v u Q I rx ry q hs
  · exact h' value slice pins s σ H x y v u Q I rx ry q hs
theorem MtR.or {id : String} {r r' : V → List V → Hp → VK → Prop} (h : MtR X id r) (h' : MtR X id r') : MtR X id (fun x xs H Q => r x xs H Q ∨ r' x xs H Q) := by
  intro pins s σ H x xs v us Q I rx rs q
  rcases q with q | q
  · exact h pins s σ H x xs v us Q I rx rs q
  · exact h' pins s σ H x xs v us Q I rx rs q
/-- a[b] -/
theorem pe_ix {r : R2} (hr : IxR X r) (ha : PE X a ta) (hb : PE X b tb) (hs : PlainIx b) : PE X (.Subscript a b pos) (tOp r ta tb) := by
  intro pins s σ H Q I h
  exact Subscript_ (binT ha hb I h fun v u s2 x y H2 I2 rx ry q => hr a b pins s2 σ H2 x y v u Q I2 rx ry q (hs _ _))

def rIxL (K : PySem.W.Frag) : R2 := fun x y H Q => ∃ p xs i v, x = .ref p ∧ y = .int i ∧ SqL K H p xs ∧ atI xs i = some v ∧ Q v H
def rIxT (K : PySem.W.Frag) : R2 := fun x y H Q => ∃ p xs i v, x = .ref p ∧ y = .int i ∧ SqT K H p xs ∧ atI xs i = some v ∧ Q v H
def rIxS : R2 := fun x y H Q => ∃ z i c, x = .str z ∧ y = .int i ∧ z.length ≤ sizeLine ∧ atI z.cps.toList i = some c ∧ Q (.str ⟨#[c]⟩) H
theorem ix_list : IxR X (rIxL X.K) := by
  intro value slice pins s σ H x y v u Q I rx ry h hs
  obtain ⟨p, xs, i, z, rfl, rfl, hq, he, q⟩ := h
  cases rx
  obtain ⟨t, rfl⟩ := ry
  obtain ⟨its, r, pl, hz⟩ := I.list hq
  obtain ⟨j, h1, h2, h3, h4, h5⟩ := atI_get he
  obtain ⟨w, ew, rw'⟩ := r.get h2
  have hl := r.length
  have hn := line63
  have fin : EP X pins σ Q w s := ⟨z, H, I, rw', q⟩
  by_cases h0 : 0 ≤ i
  · have hj : i.toNat = j := by
      rw [seqIndex_of h0 h5] at h1
      exact Option.some.inj h1
    exact item_listR pl.isList h0 (by omega) (by rw [hj]; simpa using ew) fin hs
  · have hj : (i + (its.toArray.size : Int)).toNat = j := by
      rw [seqIndex_neg (by omega) h4] at h1
      rw [List.size_toArray, ← hl]
      exact Option.some.inj h1
    exact subscriptTail_builtinR (x := w) pl.isList.typeIs slot_list_getitem.lookup
      (wpAny_getItem_list_neg (Q := fun r s' => r = w ∧ EP X pins σ Q r s') pl.isList (by omega) (by rw [List.size_toArray] <;> omega) (by omega) (by rw [hj]; simpa using ew) ⟨rfl, fin⟩) hs
theorem ix_tup : IxR X (rIxT X.K) := by
  intro value slice pins s σ H x y v u Q I rx ry h hs
  obtain ⟨p, xs, i, z, rfl, rfl, hq, he, q⟩ := h
  cases rx
  obtain ⟨t, rfl⟩ := ry
  obtain ⟨its, r, pl, hz⟩ := I.tuple hq
  obtain ⟨j, h1, h2, h3, h4, h5⟩ := atI_get he
  obtain ⟨w, ew, rw'⟩ := r.get h2
  have hl := r.length
  have hn := line63
  have fin : EP X pins σ Q w s := ⟨z, H, I, rw', q⟩
  exact subscriptTail_builtinR (x := w) pl.typeIs slot_tuple_getitem.lookup
    (getItem_tuple (j := j) (Q := fun r s' => r = w ∧ EP X pins σ Q r s') pl (by omega) (by omega) (by rw [List.size_toArray, ← hl]; exact h1) (by simpa using ew) ⟨rfl, fin⟩) hs
/-- list, tuple or str -/
def rIx (K : PySem.W.Frag) : R2 := fun x y H Q => rIxL K x y H Q ∨ rIxT K x y H Q ∨ rIxS x y H Q
/-! ### xs[i] = v, any sign -/
/-- the list's object behind a store -/
theorem mapSeq_set (its : List Value) (n j : Nat) (u : Value) : Obj.mapSeq (·.setIfInBounds j u) { cls := .type "list", data := .seq its.toArray n } = { cls := .type "list", data := .seq (its.set j u).toArray n } := by
  simp [Obj.mapSeq]
theorem Inv.lst {pins : List (Addr × Obj)} {σ : St} {H : Hp} {s : Shared} {p : Addr} {xs : List V} (I : Inv X pins σ H s) (h : H p = some (.lst xs)) :
    ∃ (its : List Value) (n : Nat), Vals xs its ∧ s.heap.get? p = some { cls := .type "list", data := .seq its.toArray n } ∧ xs.length ≤ sizeLine := by
  obtain ⟨z, its, n, r, e⟩ := I.hok p _ h
  exact ⟨its, n, r, e, z⟩
/-- the list at p is written by an update of its object -/
theorem Inv.lstUpd {pins : List (Addr × Obj)} {σ : St} {H : Hp} {s : Shared} {p : Addr} {xs ys : List V} {its its' : List Value} {n n' : Nat} {f : Obj → Obj} (I : Inv X pins σ H s) (h : H p = some (.lst xs))
    (ho : s.heap.get? p = some { cls := .type "list", data := .seq its.toArray n }) (hf : f { cls := .type "list", data := .seq its.toArray n } = { cls := .type "list", data := .seq its'.toArray n' }) (r : Vals ys its') (hz : ys.length ≤ sizeLine) (t : Nat) :
    Inv X pins σ (upd H p (.lst ys)) { s with heap := s.heap.update p f, toks := t } := by
  have e : (s.heap.update p f).get? p = some { cls := .type "list", data := .seq its'.toArray n' } := by
    rw [Heap.get?_update_self f ho (by rw [hf] <;> rfl), hf]
  refine I.write (x := p) (e := p) (by rw [h]; trivial) (.inl rfl) (fun b u hb q => (Heap.get?_update_other _ _ (Ne.symm hb)).trans q) ⟨_, e⟩ ?_
  exact ⟨hz, its', n', r, e⟩
def rSetL : V → V → V → Hp → (Hp → Prop) → Prop := fun o i v H Q => ∃ p xs k j, o = .ref p ∧ i = .int k ∧ H p = some (.lst xs) ∧ ixN xs.length k = some j ∧ Q (upd H p (.lst (xs.set j v)))
theorem set_list : PSet X rSetL := by
  intro pins s σ H o i v ov iv u Q I ro ri rv h
  obtain ⟨p, xs, k, j, rfl, rfl, hp, hj, q⟩ := h
  cases ro
  obtain ⟨t, rfl⟩ := ri
  obtain ⟨its, n, r, ho, hz⟩ := I.lst hp
  obtain ⟨h1, h2, h3, h4⟩ := ixN_seq hj
  have hl := r.length
  have hn := line63
  have I' : Inv X pins σ (upd H p (.lst (xs.set j v))) { s with heap := s.heap.update p (Obj.mapSeq (·.setIfInBounds j u)) } :=
    I.lstUpd hp ho (mapSeq_set its n j u) (r.set rv j) (by rw [List.length_set]; exact hz) s.toks
  by_cases h0 : 0 ≤ k
  · have hk : k.toNat = j := by
      rw [seqIndex_of h0 h4] at h1
      exact Option.some.inj h1
    exact PySem.W.ki_setAt ho h0 (by omega) (by rw [List.size_toArray, ← hl]; exact h4) (by rw [hk]; exact ⟨_, I', q⟩)
  · have hk : (k + (its.toArray.size : Int)).toNat = j := by
      rw [seqIndex_neg (by omega) h3] at h1
      rw [List.size_toArray, ← hl]
      exact Option.some.inj h1
    exact PySem.W.ki_setBack ho (by omega) (by rw [List.size_toArray, ← hl]; exact h3) (by omega) (by rw [hk]; exact ⟨_, I', q⟩)

/-! ### slices -/
/-- xs[lo:hi] of a list: a new list -/
def rSlL (K : PySem.W.Frag) : V → Option Int → Option Int → Hp → VK → Prop := fun x lo hi H Q => ∃ a xs, x = .ref a ∧ SqL K H a xs ∧ ∀ p, H p = none → Q (.ref p) (upd H p (.lst (cutV xs lo hi)))
/-! ### in, not in: flat items -/
def flatV : V → Bool
  | .non => true
  | .bl _ => true
  | .int _ => true
  | .str _ => true
  | _ => false
/-- == of flat values -/
def eqV : V → V → Bool
  | .non, .non => true
  | .bl a, .bl b => a == b
  | .bl a, .int b => (if a then 1 else 0) == b
  | .int a, .bl b => a == (if b then 1 else 0)
  | .int a, .int b => a == b
  | .str a, .str b => a == b
  | _, _ => false
theorem eqAt_V {A : Around} {s : Shared} {y x : V} {u v : Value} (ry : RelV y u) (rx : RelV x v) (fy : flatV y = true) (fx : flatV x = true) : SeqAt.EqAt A s u v (eqV y x) := by
  cases y with
  | non =>
    cases ry
    cases x with
    | non => cases rx; exact SeqAt.EqAt.same _
    | bl b => cases rx; exact SeqAt.EqAt.none_bool b
    | int b => obtain ⟨t, rfl⟩ := rx; exact SeqAt.EqAt.none_int b t
    | str b => obtain ⟨t, rfl⟩ := rx; exact SeqAt.EqAt.none_str b t
    | _ => exact absurd (show false = true from fx) Bool.false_ne_true
  | bl a =>
    cases ry
    cases x with
    | non => cases rx; exact SeqAt.EqAt.bool_none a
    | bl b => cases rx; exact SeqAt.EqAt.bool_bool a b
    | int b => obtain ⟨t, rfl⟩ := rx; exact SeqAt.EqAt.bool_int a b t
    | str b => obtain ⟨t, rfl⟩ := rx; exact SeqAt.EqAt.bool_str a b t
    | _ => exact absurd (show false = true from fx) Bool.false_ne_true
  | int a =>
    obtain ⟨t', rfl⟩ := ry
    cases x with
    | non => cases rx; exact SeqAt.EqAt.int_none a t'
    | bl b => cases rx; exact SeqAt.EqAt.int_bool a t' b
    | int b => obtain ⟨t, rfl⟩ := rx; exact SeqAt.EqAt.int_int a t' b t
    | str b => obtain ⟨t, rfl⟩ := rx; exact SeqAt.EqAt.int_str a t' b t
    | _ => exact absurd (show false = true from fx) Bool.false_ne_true
  | str a =>
    obtain ⟨t', rfl⟩ := ry
    cases x with
    | non => cases rx; exact SeqAt.EqAt.str_none a t'
    | bl b => cases rx; exact SeqAt.EqAt.str_bool a t' b
    | int b => obtain ⟨t, rfl⟩ := rx; exact SeqAt.EqAt.str_int a t' b t
    | str b => obtain ⟨t, rfl⟩ := rx; exact SeqAt.EqAt.str_str a t' b t
    | _ => exact absurd (show false = true from fx) Bool.false_ne_true
  | _ => exact absurd (show false = true from fy) Bool.false_ne_true
/-- the items' answers, read off the values (a value's own answer does not lean on its token) -/
def eqU (x : V) (u : Value) : Bool := match u with
  | .none => eqV .non x
  | .bool b => eqV (.bl b) x
  | .int i _ => eqV (.int i) x
  | .str z _ => eqV (.str z) x
  | _ => false
theorem eqU_of {x y : V} {u : Value} (r : RelV y u) (f : flatV y = true) : eqU x u = eqV y x := by
  cases y with
  | non => cases r; rfl
  | bl b => cases r; rfl
  | int i => obtain ⟨t, rfl⟩ := r; rfl
  | str z => obtain ⟨t, rfl⟩ := r; rfl
  | _ => exact absurd (show false = true from f) Bool.false_ne_true
theorem any_eqU {x : V} : ∀ {xs : List V} {us : List Value}, Vals xs us → xs.all flatV = true → us.any (eqU x) = xs.any fun y => eqV y x
  | _, _, .nil, _ => rfl
  | y :: xs, u :: us, .cons r t, f => by
    rw [List.all_cons, Bool.and_eq_true] at f
    rw [List.any_cons, List.any_cons, eqU_of r f.1, any_eqU t f.2]
theorem mem_eqAt {A : Around} {s : Shared} {x : V} {v : Value} (rx : RelV x v) (fx : flatV x = true) : ∀ {xs : List V} {us : List Value}, Vals xs us → xs.all flatV = true → ∀ u ∈ us, SeqAt.EqAt A s u v (eqU x u)
  | _, _, .nil, _ => fun u hu => by cases hu
  | y :: xs, u :: us, .cons r t, f => fun u' hu => by
    rw [List.all_cons, Bool.and_eq_true] at f
    rcases List.mem_cons.mp hu with rfl | hu
    · rw [eqU_of r f.1]; exact eqAt_V r rx f.1 fx
    · exact mem_eqAt rx fx t f.2 u' hu
def inV (x : V) (xs : List V) : Bool := xs.any fun y => eqV y x
/-- x in a list or tuple of flat items -/
def rIn (K : PySem.W.Frag) (neg : Bool) : R2 := fun x y H Q => ∃ p xs, y = .ref p ∧ (SqL K H p xs ∨ SqT K H p xs) ∧ flatV x = true ∧ xs.all flatV = true ∧ Q (.bl (if neg then !inV x xs else inV x xs)) H
theorem op_notIn_seq : OpR X (compareOp .NotIn) (rIn X.K true) := by
  intro pins s σ H x y v u Q I rx ry h
  obtain ⟨p, xs, rfl, hq, fx, fs, q⟩ := h
  cases ry
  rcases hq with hq | hq
  · obtain ⟨its, r, pl, hz⟩ := I.list hq
    refine SeqAt.notIn_listAt (eqU x) pl.isList (fun w hw => mem_eqAt rx fx r fs w (by simpa using hw)) ⟨.bl _, H, I, rfl, ?_⟩
    rw [show its.toArray.any (eqU x) = its.any (eqU x) by simp, any_eqU r fs]
    exact q
  · obtain ⟨its, r, pl, hz⟩ := I.tuple hq
    refine SeqAt.notIn_tupleAt (eqU x) pl (fun w hw => mem_eqAt rx fx r fs w (by simpa using hw)) ⟨.bl _, H, I, rfl, ?_⟩
    rw [show its.toArray.any (eqU x) = its.any (eqU x) by simp, any_eqU r fs]
    exact q
/-! ### len, list(x), tuple(x) of any list or tuple that is read -/
theorem call_len_seq : CallR X (.builtin "len") (fun xs H Q => ∃ p ys, xs = [.ref p] ∧ (SqL X.K H p ys ∨ SqT X.K H p ys) ∧ Q (.int ys.length) H) := by
  intro pins s σ H xs us Q I r h
  obtain ⟨p, ys, rfl, hq, q⟩ := h
  obtain ⟨u, rfl, rx⟩ := vals1 r
  cases rx
  have hn := line63
  rcases hq with hq | hq
  · obtain ⟨its, r', pl, hz⟩ := I.list hq
    have hlen := r'.length
    exact Calls.call_len_list pl.isList (by simp only [List.size_toArray] <;> omega) ⟨.int ys.length, H, I.tok _, ⟨s.toks + 1, by rw [List.size_toArray, hlen]⟩, q⟩
  · obtain ⟨its, r', pl, hz⟩ := I.tuple hq
    have hlen := r'.length
    exact len_tuple pl (by simp only [List.size_toArray] <;> omega) ⟨.int ys.length, H, I.tok _, ⟨s.toks + 1, by rw [List.size_toArray, hlen]⟩, q⟩
theorem CallR.or {f : Value} {r r' : List V → Hp → VK → Prop} (h : CallR X f r) (h' : CallR X f r') : CallR X f (fun xs H Q => r xs H Q ∨ r' xs H Q) := by
  intro pins s σ H xs us Q I rs q
  rcases q with q | q
  · exact h pins s σ H xs us Q I rs q
  · exact h' pins s σ H xs us Q I rs q
/-! ### the call of a builtin's method: o.m(..) -/
/-- the value is of that builtin type -/
def tyV (K : PySem.W.Frag) (T : String) (x : V) (H : Hp) : Prop := match x with
  | .str _ => T = "str"
  | .int _ => T = "int"
  | .ref p => (T = "list" ∧ ∃ xs, SqL K H p xs) ∨ (T = "tuple" ∧ ∃ o, K.lookup p = some o ∧ o.cls = .type "tuple" ∧ o.dict = none) ∨
      (T = "dict" ∧ ((∃ kvs, H p = some (.dK kvs)) ∨ ∃ kvs, H p = some (.dT kvs))) ∨ (T = "set" ∧ ∃ S n, H p = some (.set S n))
  | _ => False
theorem tyV_is {pins : List (Addr × Obj)} {σ : St} {H : Hp} {s : Shared} {T : String} {x : V} {v : Value} (I : Inv X pins σ H s) (r : RelV x v) (ty : tyV X.K T x H) :
    s.TypeIs v T ∧ ∀ a, v = .ref a → ∃ ob, s.heap.get? a = some ob ∧ ob.dict = none := by
  cases x with
  | str z =>
    obtain ⟨t, rfl⟩ := r
    cases (show T = "str" from ty)
    exact ⟨typeIs_str s z t, fun _ e => nomatch e⟩
  | int i =>
    obtain ⟨t, rfl⟩ := r
    cases (show T = "int" from ty)
    exact ⟨typeIs_int s i t, fun _ e => nomatch e⟩
  | ref p =>
    cases r
    rcases ty with ⟨rfl, xs, hq⟩ | ⟨rfl, o, hk, hc, hd⟩ | ⟨rfl, hk⟩ | ⟨rfl, S, n, hk⟩
    · obtain ⟨its, _, pl, _⟩ := I.list hq
      refine ⟨pl.isList.typeIs, fun a e => ?_⟩
      cases e
      obtain ⟨o, n, e, c, hd, _⟩ := pl
      exact ⟨o, e, hd⟩
    · refine ⟨⟨o, I.kIn p o hk, hc⟩, fun a e => ?_⟩
      cases e
      exact ⟨o, I.kIn _ o hk, hd⟩
    · have z : ∃ o, s.heap.get? p = some o ∧ o.ExactDict := by
        rcases hk with ⟨kvs, hk⟩ | ⟨kvs, hk⟩
        · obtain ⟨_, _, _, _, o, _, _, e, ex, _⟩ := I.hok p _ hk
          exact ⟨o, e, ex⟩
        · obtain ⟨_, _, _, _, o, _, _, e, ex, _⟩ := I.hok p _ hk
          exact ⟨o, e, ex⟩
      obtain ⟨o, e, ex⟩ := z
      refine ⟨⟨o, e, ex.1⟩, fun a e2 => ?_⟩
      cases e2
      exact ⟨o, e, ex.2.1⟩
    · obtain ⟨o, _, _, _, e, ex, _⟩ := I.hok p _ hk
      refine ⟨⟨o, e, ex.1⟩, fun a e2 => ?_⟩
      cases e2
      exact ⟨o, e, ex.2.1⟩
  | _ => exact False.elim ty
def tBM0 (K : PySem.W.Frag) (T : String) (r : V → List V → Hp → VK → Prop) (to : TE) : TE := fun σ H Q => to σ H fun x H1 => tyV K T x H1 ∧ r x [] H1 Q
def tBM (K : PySem.W.Frag) (T : String) (r : V → List V → Hp → VK → Prop) (to : TE) (t : TA) : TE := fun σ H Q => to σ H fun x H1 => tyV K T x H1 ∧ t σ H1 fun xs H2 => r x xs H2 Q
variable {o e : Expr} {es : List Expr} {to : TE} {t : TA} {name : Str} {apos cpos : Pos} {T id : String} {r : V → List V → Hp → VK → Prop}
theorem pe_bm0 (pa : PlainAttrs T) (slot : Slot T name id) (hty : typeOf (.builtin id) = pure (.type "method_descriptor")) (hm : MtR X id r) (ho : PE X o to)
    (hbase : attributeBase o name X.env (eval o X.env) = eval o X.env := by rfl) (hline : (apos.endLine == cpos.line) = true := by rfl) : PE X (.Call (.Attribute o name apos) [] [] cpos) (tBM0 X.K T r to) := by
  intro pins s σ H Q I h
  refine wpAny_Call_method0_late hbase hline (thn (ho pins s σ H _ I h) fun v s1 ⟨x, H1, I1, r1, ty, q1⟩ => ?_)
  obtain ⟨h1, h2⟩ := tyV_is I1 r1 ty
  exact ⟨T, id, pa, slot, hty, h1, h2, Calls.callWith_builtin rfl (PySem.evalArgs_none (hm pins s1 σ H1 x [] v [] Q I1 r1 .nil q1))⟩
theorem pe_bm (pa : PlainAttrs T) (slot : Slot T name id) (hty : typeOf (.builtin id) = pure (.type "method_descriptor")) (hm : MtR X id r) (ho : PE X o to) (ha : PA X (e :: es) t)
    (hbase : attributeBase o name X.env (eval o X.env) = eval o X.env := by rfl)
    (hfew : ((backTo cpos (starEach (e :: es) X.env)).all (fun x => !x.1) && (backToKw cpos (keywordEach [] X.env)).all (fun x => x.1.isSome)
      && decide ((e :: es).length + ([] : List Keyword).length + (if ([] : List Keyword).isEmpty then 0 else 1) < 30)) = true := by rfl)
    (hline : (apos.endLine == cpos.line) = true := by rfl) (hs : starEach (e :: es) X.env = (false, eval e X.env) :: starEach es X.env := by rfl) (hplain : (backTo cpos (starEach es X.env)).any (·.1) = false := by rfl) :
    PE X (.Call (.Attribute o name apos) (e :: es) [] cpos) (tBM X.K T r to t) := by
  intro pins s σ H Q I h
  refine wpAny_Call_method_late hbase hfew hline rfl (thn (ho pins s σ H _ I h) fun v s1 ⟨x, H1, I1, r1, ty, q1⟩ => ?_)
  obtain ⟨h1, h2⟩ := tyV_is I1 r1 ty
  refine ⟨T, id, pa, slot, hty, h1, h2, ?_⟩
  have hA := ha cpos pins s1 σ H1 _ I1 q1
  rw [hs] at hA ⊢
  refine Calls.callWith_builtin (by show (false || (backTo cpos (starEach es X.env)).any (·.1)) = false; rw [hplain] <;> rfl) (Calls.evalArgs_plain ?_)
  exact thn hA fun us s2 ⟨vs, H2, I2, r2, q2⟩ => hm pins s2 σ H2 x vs v us Q I2 r1 r2 q2
/- xs.append(e), list.index on a module's tuple .. are MtR facts of 06m -/
end
end L2

namespace L2
open PySem PySem.Spec PyProof.Rows

def MtM (X : Cx) (id : String) (r : V → List V → Hp → VK → Prop) : Prop :=
  ∀ (pins : List (Addr × Obj)) (s : Shared) (σ : St) (H : Hp) (x : V) (xs : List V) (v : Value) (us : List Value) (Q : VK), Inv X pins σ H s → RelV x v → Vals xs us → r x xs H Q →
    wpAny (model X.prog X.w) X.A (call (.builtin id) (v :: us)) (EP X pins σ Q) X.xe s

/-! ### lists of values -/
theorem Vals.one : ∀ {x : V} {us : List Value}, Vals [x] us → ∃ u, us = [u] ∧ RelV x u
  | _, _, .cons r .nil => ⟨_, rfl, r⟩
theorem Vals.two : ∀ {x y : V} {us : List Value}, Vals [x, y] us → ∃ u v, us = [u, v] ∧ RelV x u ∧ RelV y v
  | _, _, _, .cons r (.cons q .nil) => ⟨_, _, rfl, r, q⟩
theorem Vals.zero : ∀ {us : List Value}, Vals [] us → us = []
  | _, .nil => rfl
theorem Vals.dropLast {xs : List V} {us : List Value} (h : Vals xs us) : Vals xs.dropLast us.dropLast := by
  induction h with
  | nil => exact .nil
  | cons r t ih =>
    cases t with
    | nil => exact .nil
    | cons q t' => exact .cons r ih
theorem Vals.eraseIdx : ∀ {xs : List V} {us : List Value} (i : Nat), Vals xs us → Vals (xs.eraseIdx i) (us.eraseIdx i)
  | _, _, _, .nil => .nil
  | _, _, 0, .cons _ t => t
  | _, _, i + 1, .cons r t => .cons r (Vals.eraseIdx i t)
theorem Vals.reverse {xs : List V} {us : List Value} (h : Vals xs us) : Vals xs.reverse us.reverse := by
  induction h with
  | nil => exact .nil
  | cons r t ih => rw [List.reverse_cons, List.reverse_cons]; exact Vals.append ih (.cons r .nil)
theorem len_erase {α : Type} : ∀ (l : List α) (i : Nat), (l.eraseIdx i).length ≤ l.length
  | [], _ => Nat.le_refl _
  | _ :: _, 0 => Nat.le_succ _
  | _ :: r, i + 1 => Nat.succ_le_succ (len_erase r i)
section
variable {X : Cx} {pins : List (Addr × Obj)} {σ : St} {H : Hp} {s : Shared} {l b : Addr} {xs ys zs : List V}

/-! ### the two steps: a tracked list is rewritten, a new list is laid -/
theorem Inv.lset {its its' : List Value} {n : Nat} {f : Array Value → Array Value} {t' : Nat} (I : Inv X pins σ H s) (hH : H l = some (.lst xs))
    (e : s.heap.get? l = some { cls := .type "list", data := .seq its.toArray n }) (hf : f its.toArray = its'.toArray) (hv : Vals ys its') (hz : ys.length ≤ sizeLine) :
    Inv X pins σ (upd H l (.lst ys)) { s with heap := s.heap.update l (Obj.mapSeq f), toks := t' } := by
  have q := PySem.IsL.update e f
  rw [hf] at q
  refine I.write (x := l) (e := l) (by rw [hH]; exact trivial) (.inl rfl) (fun b' u hb hu => (Heap.get?_update_other s.heap (Obj.mapSeq f) (Ne.symm hb)).trans hu) ⟨_, q⟩ ?_
  exact ⟨hz, its', _, hv, q⟩
theorem Inv.fresh (I : Inv X pins σ H s) : H s.heap.objs.size = none := I.hok.fresh (Nat.le_refl _)
theorem Inv.lstM (I : Inv X pins σ H s) (hH : H l = some (.lst xs)) : xs.length ≤ sizeLine ∧ ∃ (its : List Value) (n : Nat), Vals xs its ∧ xs.length = its.length ∧ s.heap.get? l = some { cls := .type "list", data := .seq its.toArray n } := by
  obtain ⟨z, its, n, r, e⟩ := I.hok l _ hH
  exact ⟨z, its, n, r, r.length, e⟩

theorem notLongL {n : Nat} (h : n ≤ sizeLine) : Builtin.List.listTooLong n = false := by
  unfold Builtin.List.listTooLong
  exact decide_eq_false (by omega)
end

section
variable {X : Cx}

/-! ### methods -/
def rAppend : V → List V → Hp → VK → Prop := fun x vs H Q => ∃ l xs y, x = .ref l ∧ vs = [y] ∧ H l = some (.lst xs) ∧ xs.length < sizeLine ∧ Q .non (upd H l (.lst (xs ++ [y])))
theorem mt_append : MtM X "list.append" rAppend := by
  intro pins s σ H x vs v us Q I rx rv h
  obtain ⟨l, xs, y, rfl, rfl, hH, hz, q⟩ := h
  cases rx
  obtain ⟨u, rfl, ru⟩ := rv.one
  obtain ⟨z, its, n, r, hl, e⟩ := I.lstM hH
  refine call_meets F.slot_list_append ⟨_, e, rfl⟩ F.entry_list_append (F.args_list_append_2 _ _) (PySem.list_append l its.toArray n u (by rw [List.size_toArray]; omega)) ⟨e, ?_⟩
  refine ⟨.non, _, I.lset (its' := its ++ [u]) hH e (by simp) (r.append (.cons ru .nil)) ?_, rfl, q⟩
  rw [List.length_append, List.length_singleton]
  omega

def rExtend : V → List V → Hp → VK → Prop := fun x vs H Q => ∃ l b xs zs, x = .ref l ∧ vs = [.ref b] ∧ H l = some (.lst xs) ∧ H b = some (.lst zs) ∧ xs.length + zs.length ≤ sizeLine ∧ Q .non (upd H l (.lst (xs ++ zs)))
theorem mt_extend : MtM X "list.extend" rExtend := by
  intro pins s σ H x vs v us Q I rx rv h
  obtain ⟨l, b, xs, zs, rfl, rfl, hH, hB, hz, q⟩ := h
  cases rx
  obtain ⟨u, rfl, ru⟩ := rv.one
  cases ru
  obtain ⟨z, its, n, r, hl, e⟩ := I.lstM hH
  obtain ⟨z2, its2, n2, r2, hl2, e2⟩ := I.lstM hB
  have hsz : its.toArray.size + its2.toArray.size ≤ sizeLine := by rw [List.size_toArray, List.size_toArray]; omega
  have hlong : ¬ (!its.toArray.isEmpty && Builtin.List.listTooLong (its.toArray.size + its2.toArray.size)) = true := by
    rw [notLongL hsz, Bool.and_false]
    exact Bool.false_ne_true
  refine call_meets F.slot_list_extend ⟨_, e, rfl⟩ F.entry_list_extend (F.args_list_extend_2 _ _)
    (AutoSeq1.list_extend_list_list_0 l its.toArray n b its2.toArray n2 hlong (by rw [List.size_toArray]; omega) (by omega)) ⟨e, e2, ?_⟩
  refine ⟨.non, _, I.lset (its' := its ++ its2) hH e (by simp) (r.append r2) ?_, rfl, q⟩
  rw [List.length_append]
  omega

def rPop : V → List V → Hp → VK → Prop := fun x vs H Q => ∃ l xs y, x = .ref l ∧ vs = [] ∧ H l = some (.lst xs) ∧ xs[xs.length - 1]? = some y ∧ Q y (upd H l (.lst xs.dropLast))
def rPopAt : V → List V → Hp → VK → Prop := fun x vs H Q => ∃ l xs i k y, x = .ref l ∧ vs = [.int i] ∧ H l = some (.lst xs) ∧ -(2 ^ 63) ≤ i ∧ i < 2 ^ 63 ∧ seqIndex? i xs.length = some k ∧ xs[k]? = some y ∧ Q y (upd H l (.lst (xs.eraseIdx k)))
theorem mt_popAt : MtM X "list.pop" rPopAt := by
  intro pins s σ H x vs v us Q I rx rv h
  obtain ⟨l, xs, i, k, y, rfl, rfl, hH, h1, h2, hk, hy, q⟩ := h
  cases rx
  obtain ⟨u, rfl, ru⟩ := rv.one
  obtain ⟨t, rfl⟩ := ru
  obtain ⟨z, its, n, r, hl, e⟩ := I.lstM hH
  obtain ⟨w, hw, rw'⟩ := r.get hy
  refine call_meets F.slot_list_pop ⟨_, e, rfl⟩ F.entry_list_pop (F.args_list_pop_2 _ _)
    (MeetsSeq.list_pop_at l its.toArray n i t k w (fitsIndex_both h1 h2) (by rw [List.size_toArray, ← hl]; exact hk) (by rw [← Array.getElem?_toList]; exact hw) (by rw [List.size_toArray]; omega)) ⟨e, ?_⟩
  refine ⟨y, _, I.lset (its' := its.eraseIdx k) hH e ?_ (r.eraseIdx k) ?_, rw', q⟩
  · show its.toArray.eraseIdxIfInBounds k = (its.eraseIdx k).toArray
    rw [List.eraseIdxIfInBounds_toArray]
  · have := len_erase xs k
    omega

def rReverse : V → List V → Hp → VK → Prop := fun x vs H Q => ∃ l xs, x = .ref l ∧ vs = [] ∧ H l = some (.lst xs) ∧ Q .non (upd H l (.lst xs.reverse))
def rClear : V → List V → Hp → VK → Prop := fun x vs H Q => ∃ l xs, x = .ref l ∧ vs = [] ∧ H l = some (.lst xs) ∧ Q .non (upd H l (.lst []))
/-! ### list + list, list += list, list * int -/
def rCat : R2 := fun x y H Q => ∃ l b xs zs, x = .ref l ∧ y = .ref b ∧ H l = some (.lst xs) ∧ H b = some (.lst zs) ∧ xs.length + zs.length ≤ sizeLine ∧ ∀ p, H p = none → Q (.ref p) (upd H p (.lst (xs ++ zs)))
/-- a list times an int (a negative one is nothing) -/
def rRep : R2 := fun x y H Q => ∃ l k xs, x = .ref l ∧ y = .int k ∧ H l = some (.lst xs) ∧ -(2 ^ 63) ≤ k ∧ k < 2 ^ 63 ∧ xs.length * k.toNat ≤ sizeLine ∧
  ∀ p, H p = none → Q (.ref p) (upd H p (.lst (List.replicate k.toNat xs).flatten))
/-! ### del xs[i] -/
end

/-! ### xs[a:b] = ys -/
section
variable {prog : Program} {w : World} {A : Around} {E : Value → Shared → Prop} {s : Shared}
set_option maxRecDepth 100000 in
end

section
variable {X : Cx}
end
end L2

namespace Att
open PySem PySem.W PySem.Calls PyProof.Rows

/-! ### the script -/
theorem ints_of_wellAll {P : Params} {h : Heap} : ∀ (ns : List Int) (vs : List Value), WellAll P h vs (ns.map WData.int) → IntsAre vs ns := by
  intro ns
  induction ns with
  | nil =>
    intro vs w
    rw [List.map_nil] at w
    cases w
    exact .nil
  | cons n ns ih =>
    intro vs w
    rw [List.map_cons] at w
    cases w with
    | cons a b =>
      cases a
      exact .cons _ _ (ih _ b)

theorem script_of {l : OpenLaw} {n : Nat} (hn : l.most = some n) {P : Params} {h : Heap} {args : List WData} {vals : List Value}
    (hpre : l.row.toRowW.claim.pre args = true) (hwl : WellAll P h vals args) :
    ∃ a vs ns, vals = [Value.ref a] ∧ args = [WData.list (ns.map WData.int)] ∧ h.get? a = some { cls := .type "list", data := .seq vs.toArray } ∧ IntsAre vs ns ∧ ns.length ≤ n := by
  have hsh : WShape.hasAll [] args [.list .int] = true := (pre_splitW hpre).1
  have hc : l.pre.holds [] { args := args } = true := (pre_splitW hpre).2
  obtain ⟨d, r, rfl, h1, h2⟩ := hasAllW_cons hsh
  obtain rfl := hasAllW_nil h2
  obtain ⟨xs, rfl, h3⟩ := hasW_list h1
  obtain ⟨ns, rfl⟩ := items_int h3
  have hlen : ns.length ≤ n := by
    unfold OpenLaw.pre at hc
    have h4 : (WTm.not (.lt (.lit (.int (n : Int))) (.len (.arg 0)))).holds [] { args := [.list (ns.map .int)] } = true := by
      have h4 := (holds_andW hc).1
      rw [hn] at h4
      exact h4
    have h5 := condW_of h4 (w_not (w_lt w_lit (w_len_list (w_arg rfl))))
    rw [List.length_map] at h5
    refine Nat.le_of_not_lt fun q => ?_
    have q' : (n : Int) < ((ns.length : Nat) : Int) := by omega
    first
      | (rw [decide_eq_true q'] at h5; exact absurd h5 (by decide))
      | (simp at h5; omega)
  cases hwl with
  | cons w1 w2 =>
    cases w2
    cases w1 with
    | list ho hall => exact ⟨_, _, ns, rfl, rfl, ho, ints_of_wellAll ns _ hall, hlen⟩

theorem post_true (l : OpenLaw) (args : List WData) : l.row.toRowW.claim.post args (.bool true) args = true :=
  postW_of (r := l.row.toRowW) (X := (true == true))
    (show WShape.has [] (.bool true) .bool = true by first | rfl | decide | simp [WShape.has, WShape.arms, WShape.armsAll])
    (show (WTm.eq .res (.lit (.bool true))).value [] { args := args, res := some (.bool true), after := args } = some (.bool (true == true)) from w_eq_bool (w_res rfl) w_lit) rfl

/-! ### the attachment: holds_open's last premise (the goal 'hc' behind k_head) from a wpAny of the law's body -/
/-- the same from a codeAny of the CALL (for a layer whose function contracts speak of calls) -/
theorem attach_call {l : OpenLaw} {n : Nat} {q : Program} {loose : List Str} {XP : (Str → Option Value) → Heap → Prop} {YP : World → Heap → Prop} {d : DefRec}
    (hn : l.most = some n) (hdf : d.params.defaults = [])
    (call : ∀ (w : World) (s₀ s₁ : Shared) (mg mb : Str → Option Value) (fa : Addr) (o : Obj) (pm cd doc : Value) (a : Addr) (vs : List Value) (ns : List Int),
      Ground q loose [] XP w s₀ mg mb s₁.heap → YP w s₁.heap →
      s₁.heap.get? fa = some o → o.data = .func (docDef d.name d.params d.body d.scope pm cd doc) → s₁.heap.CodeRec cd d.name → mg d.name = some (.ref fa) →
      s₁.heap.get? a = some { cls := .type "list", data := .seq vs.toArray } → IntsAre vs ns → ns.length ≤ n → s₁.gens = #[] →
      codeAny (model l.prog w) callerA (.call (.ref fa) ⟨[.ref a], []⟩) (fun r s' => r = .ok (.ret (.bool true)) ∧ OldK s₁.heap s'.heap ∧ s'.os = s₁.os ∧ AllBare s'.gens) s₁) :
    WalkO q loose XP YP l.row.toRowW d [] (fun f vs => PySem.call f vs) := by
  intro w s₀ s₁ mg mb G Y fa o pm cd doc dV kV ho hd hcd hD hmg hg args vals as hpre hlay hrd hwl hlo
  obtain rfl : dV = .none := Dflts.none hD hdf
  obtain rfl : kV = .none := Dflts.noKw hD
  obtain ⟨a, vs, ns, rfl, rfl, hobj, hints, hlen⟩ := script_of hn hpre hwl
  refine enter_call (codeAny_mono (call w s₀ s₁ mg mb fa o pm cd doc a vs ns G Y ho (fd_plain hd) hcd hmg hobj hints hlen hg) fun r s' hq => ?_)
  obtain ⟨rfl, h2, h3, h4⟩ := hq
  exact ⟨.inl ⟨.bool true, .bool true, [], rfl, fun _ => rfl, .bool true, post_true l _, fun _ => ⟨List.Pairwise.nil, fun _ hm => (nomatch hm)⟩⟩, h2, h3, h4⟩

/-! ### rules over ANY heap (no ledger) from facts about the written part K: the library's own take a ledger (News) for what they write -/
section
variable {prog : Program} {w : World} {A : Around} {E : Value → Shared → Prop} {s : Shared} {K : Frag}

/-! the whole heap as the ledger: makes every rule that writes through a ledger a rule over any heap -/
def noObjs (h : Heap) : Heap := { h with objs := #[] }
def ledger (h : Heap) (L d : Addr) : List (Addr × Obj) := (List.range h.objs.size).filterMap fun a => if a = L ∨ a = d then none else (h.get? a).map fun o => (a, o)
end
end Att

namespace L2
open PySem PySem.Spec PyProof.Rows

theorem vals_ints : ∀ {vs : List Value} {ns : List Int}, IntsAre vs ns → Vals (ns.map V.int) vs
  | _, _, .nil => .nil
  | _, _, .cons n t h => .cons ⟨t, rfl⟩ (vals_ints h)

/-- nothing is tracked but the script, known to the object (or it is an object of the module) -/
def Only (H : Hp) : Prop := ∀ b, H b = none ∨ ∃ o xs, H b = some (.frz o (.lst xs))

/-- THE HEAD: the law's promise, at the heap behind the top. F, the promise of the law's def, may use that base is part of the heap (so K.In base, base.Ns mainGlobals mg stand in Mod) -/
theorem law_call {P : Program} {w : World} {K : PySem.W.Frag} {mg mb : Str → Option Value} {CX : CXT} {k : Nat} {fa a : Addr} {fd : FuncData} {x : Str} {sp : Sp} {s₁ : Shared} {vs : List Value} {ns : List Int}
    (KX : K.In s₁.heap) (hns : s₁.heap.Ns mainGlobals mg) (hb : s₁.heap.Ns builtinsNs mb) (hbb : ∀ x : Str, x ≠ "__name__" → mb x = bootBuiltins x) (hlim : s₁.heap.NoLimit) (hg : s₁.gens = #[])
    (ha : s₁.heap.get? a = some { cls := .type "list", data := .seq vs.toArray }) (hi : IntsAre vs ns) (hl : ns.length ≤ sizeLine) (hr : Room k callerA)
    (F : ∀ base : Heap, K.In base → base.Ns mainGlobals mg → FnOk P w K mg base CX k fa fd [x] sp) (hbind : ∀ (s : Shared) (u : Value), BindsTo s fd ⟨[u], []⟩ [(x, u)])
    (hsp : ∀ H : Hp, Only H → SqL K H a (ns.map V.int) → sp [.ref a] H (fun v _ => v = .bl true) fun _ _ _ => False)
    (hCX : ∀ H e s', CX [] H s₁ (fun _ _ _ => False) e s' → False) :
    codeAny (model P w) callerA (.call (.ref fa) ⟨[.ref a], []⟩) (fun r s' => r = .ok (.ret (.bool true)) ∧ OldK s₁.heap s'.heap ∧ s'.os = s₁.os ∧ AllBare s'.gens) s₁ := by
  have rv := vals_ints hi
  have lenV := hi.length
  -- from an abstract heap in which nothing but the script may be tracked
  have core : ∀ H : Hp, Only H → SqL K H a (ns.map V.int) → HOk P w H s₁.heap → (∀ b, H b ≠ none → b = a) → (H a ≠ none → K.lookup a = none) →
      codeAny (model P w) callerA (.call (.ref fa) ⟨[.ref a], []⟩) (fun r s' => r = .ok (.ret (.bool true)) ∧ OldK s₁.heap s'.heap ∧ s'.os = s₁.os ∧ AllBare s'.gens) s₁ := by
    intro H hO hS hok hA hK
    have base_of : ∀ {b : Addr} {o : Obj}, s₁.heap.get? b = some o → H b = none → (hidT s₁.heap H).get? b = some o := fun e n => hidT_get e n
    have noA : ∀ {b : Addr} {o : Obj} {es : Array DictEntry} {ep : Nat}, s₁.heap.get? b = some o → o.data = .dict es ep → H b = none := fun {b o es ep} e d => by
      cases q : H b with
      | none => rfl
      | some u =>
        have e' : b = a := hA b (by rw [q]; simp)
        subst e'
        rw [ha] at e; cases e
        have d' : Data.seq vs.toArray _ = Data.dict es ep := d
        cases d'
    have nsK : ∀ {b : Addr} {m : Str → Option Value}, s₁.heap.Ns b m → (hidT s₁.heap H).Ns b m := fun {b m} ⟨o, es, ep, e, d, r⟩ => ⟨o, es, ep, base_of e (noA e d), d, r⟩
    have hKb : K.In (hidT s₁.heap H) := fun b o e => base_of (KX b o e) (by
      cases q : H b with
      | none => rfl
      | some u =>
        have e' : b = a := hA b (by rw [q]; simp)
        subst e'
        rw [hK (by rw [q]; simp)] at e; cases e)
    have hM : Mod K mg (hidT s₁.heap H) := ⟨hKb, nsK hns, ⟨mb, nsK hb, hbb⟩, let ⟨mc, h1, h2⟩ := hlim; ⟨mc, nsK h1, h2⟩⟩
    have e0 : Env0 P w K mg (hidT s₁.heap H) callerA [] s₁ H := ⟨rfl, hM, fun b o e => of_hidT e, Nat.le_of_eq (hidT_size _ _), trivial, fun b hb => absurd (show b ∈ ([] : List Addr) from hb) (by simp), hok, .of_eq hg⟩
    refine codeAny_mono ((F _ hKb (nsK hns)).run callerA [] s₁ H ⟨[.ref a], []⟩ [.ref a] [.ref a] _ _ hr e0 (hbind s₁ (.ref a)) (.cons rfl .nil) (hsp H hO hS)) fun r s' h => ?_
    cases r with
    | error e => exact (hCX H e s' h).elim
    | ok fl =>
      cases fl with
      | next => exact False.elim h
      | brk => exact False.elim h
      | cont => exact False.elim h
      | ret u =>
        obtain ⟨v, H', os, bare, un, hok', r', q⟩ := h
        have q' : v = .bl true := q
        subst q'
        obtain rfl : u = Value.bool true := r'
        refine ⟨rfl, OldK.of_keep fun b o e => ?_, os, bare⟩
        cases q : H b with
        | none => exact un.keep b o e q (by intro z; exact absurd (show b ∈ ([] : List Addr) from z) (by simp)) (by simp)
        | some u =>
          rcases hO b with z | ⟨ob, xs, z⟩
          · rw [q] at z; cases z
          · have z2 := un.frzs b ob _ z
            obtain ⟨e1, _⟩ := hok b _ z
            obtain ⟨e2, _⟩ := hok' b _ z2
            rw [e] at e1; cases e1
            exact e2
  cases hk : K.lookup a with
  | some o =>
    -- the script is one of the module's own objects
    have e := KX a o hk
    rw [ha] at e
    cases e
    refine core (fun _ => none) (fun _ => .inl rfl) (.inr ⟨_, vs.toArray, _, hk, rfl, rfl, rfl, by rw [List.size_toArray, lenV]; exact hl, by simpa using rv⟩) (fun b u z => by have z' : (none : Option HO) = some u := z; cases z') (fun b z => absurd rfl z) fun z => absurd rfl z
  | none =>
    refine core (fun b => if b = a then some (.frz { cls := .type "list", data := .seq vs.toArray } (.lst (ns.map V.int))) else none) (fun b => ?_) (.inl (.inr ⟨{ cls := .type "list", data := .seq vs.toArray }, if_pos rfl⟩)) (fun b u z => ?_) (fun b z => ?_) fun _ => hk
    · by_cases hb : b = a
      · exact .inr ⟨_, _, if_pos hb⟩
      · exact .inl (if_neg hb)
    · by_cases hb : b = a
      · have z' := (if_pos hb).symm.trans z
        cases z'
        subst hb
        exact ⟨ha, by rw [List.length_map]; exact hl, vs, _, rv, ha⟩
      · have z' := (if_neg hb).symm.trans z
        cases z'
    · by_cases hb : b = a
      · exact hb
      · exact absurd (if_neg hb) z
end L2

namespace L2
open PySem PySem.Spec PyProof.Rows

abbrev KOf {K : PySem.W.Frag} {h : Heap} (_ : K.In h) : PySem.W.Frag := K

/-- the goal that k_head leaves (case hc), from the law's promise. F gives the function object fd (K's own) once, then the promise over every base -/
theorem walk_of {l : PySem.W.OpenLaw} {n k : Nat} {q : Program} {loose : List Str} {XP : (Str → Option Value) → Heap → Prop} {YP : World → Heap → Prop} {d : DefRec} {K : Params → PySem.W.Frag} {CX : World → CXT} {sp : World → Sp} {x : Str}
    (hn : l.most = some n) (hn2 : n ≤ sizeLine) (hdf : d.params.defaults = []) (hr : Room k callerA)
    (hY : ∀ (w : World) (h : Heap), YP w h → (K w.params).In h)
    (F : ∀ (w : World) (mg : Str → Option Value) (fa : Addr) (h : Heap), (K w.params).In h → h.Ns mainGlobals mg → mg d.name = some (.ref fa) →
      ∃ fd : FuncData, (∀ (s : Shared) (u : Value), BindsTo s fd ⟨[u], []⟩ [(x, u)]) ∧
        ∀ base : Heap, (K w.params).In base → base.Ns mainGlobals mg → FnOk l.prog w (K w.params) mg base (CX w) k fa fd [x] (sp w))
    (hsp : ∀ (w : World) (H : Hp) (a : Addr) (ns : List Int), ns.length ≤ n → Only H → SqL (K w.params) H a (ns.map V.int) → sp w [.ref a] H (fun v _ => v = .bl true) fun _ _ _ => False)
    (hCX : ∀ (w : World) (H : Hp) (s : Shared) (e : Value) (s' : Shared), CX w [] H s (fun _ _ _ => False) e s' → False) :
    PySem.W.WalkO q loose XP YP l.row.toRowW d [] (fun f vs => PySem.call f vs) := by
  refine Att.attach_call hn hdf fun w s₀ s₁ mg mb fa o pm cd doc a vs ns G Y ho hd hcd hmg hobj hints hlen hg => ?_
  have KX := hY w _ Y
  obtain ⟨fd, hb, hF⟩ := F w mg fa _ KX G.T.g hmg
  exact law_call KX G.T.g G.T.b G.T.builtins G.T.nolimit hg hobj hints (Nat.le_trans hlen hn2) hr hF hb (fun H hO hS => hsp w H a ns hlen hO hS) fun H e s' => hCX w H s₁ e s'
end L2



/-! SHORT WORDS over the layer: a def of the text, its body, what a loop and a test want. -/
namespace L2
open PySem PySem.Spec PyProof.Rows

/-! ### the text by places -/
/-- the j-th statement of a class's body -/
def inClass (s : Stmt) (j : Nat) : Stmt := match s with
  | .ClassDef _ _ _ body _ _ _ _ _ _ _ => body.getD j (.Pass ⟨0, 0, 0, 0⟩)
  | _ => .Pass ⟨0, 0, 0, 0⟩
def defArgs (s : Stmt) : Arguments := match s with
  | .FunctionDef _ a _ _ _ _ _ _ _ _ => a
  | _ => { posonlyargs := [], args := [], vararg := none, kwonlyargs := [], kw_defaults := [], kwarg := none, defaults := [] }
def defBody (s : Stmt) : List Stmt := match s with
  | .FunctionDef _ _ b _ _ _ _ _ _ _ => b
  | _ => []
def defScope (s : Stmt) : Scope := match s with
  | .FunctionDef _ _ _ _ _ _ sc _ _ _ => sc
  | _ => { kind := .function, names := [], isGenerator := false, isCoroutine := false }

/-! ### no exception leaves a def -/
abbrev CX0 : CXT := fun _ _ _ _ _ _ => False
abbrev E0 : XK := fun _ _ _ => False
theorem pass0 {X : Cx} : Passes CX0 X E0 := fun _ _ _ _ _ _ _ h => h.elim

/-! ### a def (or method) of the text as it stands behind the top -/
structure Fun (K : PySem.W.Frag) (x qual : Str) (st : Stmt) (f : Addr) (fd : FuncData) : Prop where
  ex : ∃ (oc : Value) (od : Option Addr) (kV doc pm : Value) (an : Option Addr) (cdv ct : Value) (osl : Array (Option Value)),
    fd = PySem.W.fnOf x qual (defArgs st) (defBody st) (defScope st) .none kV doc pm an cdv ct ∧ K.lookup f = some ⟨oc, od, .func fd, osl⟩ ∧ PySem.W.codeIn K cdv qual = true
  kp : PySem.W.keepIn K (.ref f) = true
section
variable {P : Program} {w : World} {K : PySem.W.Frag} {mg : Str → Option Value} {base : Heap}
/-- THE RULE for a def: its body as a term of rules, and the reading of that term -/
theorem Fun.ok {x qual : Str} {st : Stmt} {f : Addr} {fd : FuncData} {N ps : List Str} {k : Nat} {sp : Sp} (F : Fun K x qual st f fd) (S : FnScope N ps (defScope st)) (len : ∀ vs H Q E, sp vs H Q E → vs.length = ps.length)
    (hbody : ∀ (cdv : Value) (A : Around) (outer : List Env) (s : Shared) (H : Hp) (vs : List V) (Q : VK) (E : XK), Room k (A.deeper (envOfC qual (defScope st) s.heap.objs.size f cdv)) → sp vs H Q E →
      ∃ t, PSs (cxOf CX0 P w K mg base N qual (defScope st) f cdv A outer s H E).nox (defBody st) t ∧ t { nx := fun _ H' => Q .non H', rt := Q } (start N vs) H) : FnOk P w K mg base CX0 (k + 1) f fd ps sp := by
  obtain ⟨oc, od, kV, doc, pm, an, cdv, ct, osl, rfl, lk, hcd⟩ := F.ex
  refine fn_of lk hcd S len fun A outer s H vs Q E hr hsp => ?_
  obtain ⟨t, h, q⟩ := hbody cdv A outer s H vs Q E hr hsp
  exact ⟨t, h.nox, q⟩
/-- how its arguments bind (no defaults): h is «fun _ _ _ _ _ _ us hl => match us, hl with | [_, _], _ => rfl», one _ a parameter -/
theorem Fun.binds {x qual : Str} {st : Stmt} {f : Addr} {fd : FuncData} {ps : List Str} (F : Fun K x qual st f fd)
    (h : ∀ (kV doc pm : Value) (an : Option Addr) (cdv ct : Value) (us : List Value), us.length = ps.length → bindArgs (PySem.W.fnOf x qual (defArgs st) (defBody st) (defScope st) .none kV doc pm an cdv ct) ⟨us, []⟩ = pure (ps.zip us)) : Binds K fd ps [] := by
  obtain ⟨oc, od, kV, doc, pm, an, cdv, ct, osl, rfl, lk, hcd⟩ := F.ex
  exact .all (h kV doc pm an cdv ct)
theorem fun_mk {x qual : Str} {st : Stmt} {f : Addr} {oc : Value} {od an : Option Addr} {osl : Array (Option Value)} {kV doc pm cdv ct : Value} (l : K.lookup f = some ⟨oc, od, .func (PySem.W.fnOf x qual (defArgs st) (defBody st) (defScope st) .none kV doc pm an cdv ct), osl⟩)
    (c : PySem.W.codeIn K cdv qual = true) (k : PySem.W.keepIn K (.ref f) = true) : Fun K x qual st f (PySem.W.fnOf x qual (defArgs st) (defBody st) (defScope st) .none kV doc pm an cdv ct) := ⟨⟨oc, od, kV, doc, pm, an, cdv, ct, osl, rfl, l, c⟩, k⟩
end
theorem hu_of {A : Around} {k : Nat} (hr : Room k A) : A.units + 1 < cLine := Nat.lt_of_le_of_lt (Nat.add_le_add_left (by decide : 1 ≤ 64) _) hr.units
/-! ### expressions in short: the name that stands in the i-th slot -/
section
variable {X : Cx}
theorem pv (i : Nat) {x : Str} {pos : Pos} (hN : X.N[i]? = some x := by rfl) (hv : Vis X.env.scope x := by first | exact Or.inl rfl | exact Or.inr (Or.inl rfl) | exact Or.inr (Or.inr rfl)) (hd : (x == ("__debug__" : Str)) = false := by decide)
    (hcd : (x == ("__classdict__" : Str)) = false := by decide) : PE X (.Name x pos) (tVar i) := pe_var hN hv hd hcd
end

/-! ### tests -/
theorem iteF {A B : Prop} (h : B) : if false = true then A else B := by
  rw [if_neg Bool.false_ne_true]
  exact h
theorem iteT {A B : Prop} (h : A) : if true = true then A else B := by
  rw [if_pos rfl]
  exact h
theorem ite2 {c A B : Prop} [Decidable c] (h1 : c → A) (h2 : ¬ c → B) : if c then A else B := by
  by_cases h : c
  · rw [if_pos h]
    exact h1 h
  · rw [if_neg h]
    exact h2 h
theorem iteNS {c A B : Prop} [Decidable c] (hc : c) (h : B) : if (!decide c) = true then A else B := by
  rw [decide_eq_true hc]
  exact iteF h

/-! ### heaps -/
/-- all that was tracked is as it was -/
def Same (H H' : Hp) : Prop := ∀ b o, H b = some o → H' b = some o
theorem Same.refl (H : Hp) : Same H H := fun _ _ h => h
theorem Same.trans {H H1 H2 : Hp} (a : Same H H1) (b : Same H1 H2) : Same H H2 := fun c o h => b c o (a c o h)
theorem Same.free {H H' : Hp} (e : Same H H') {l : Addr} (h : H' l = Option.none) : H l = Option.none := by
  cases q : H l with
  | none => rfl
  | some o =>
    rw [e l o q] at h
    cases h
theorem Same.seq {K : PySem.W.Frag} {H H' : Hp} {a : Addr} {xs : List V} (e : Same H H') (h : SqL K H a xs) : SqL K H' a xs := by
  rcases h with (h | ⟨o, h⟩) | h
  · exact .inl (.inl (e _ _ h))
  · exact .inl (.inr ⟨o, e _ _ h⟩)
  · exact .inr h

end L2

set_option maxHeartbeats 4000000
/-! ## Own words over the layer -/
namespace Ow
open PySem PySem.Spec PyProof.Rows L2
/-- a def of the text that keeps its promise, by its name -/
structure Has (P : Program) (w : World) (K : PySem.W.Frag) (mg : Str → Option Value) (base : Heap) (k : Nat) (x : Str) (ps : List Str) (sp : Sp) : Prop where
  ex : ∃ (f : Addr) (fd : FuncData), FnOk P w K mg base CX0 k f fd ps sp ∧ Binds K fd ps [] ∧ PySem.W.keepIn K (.ref f) = true ∧ mg x = some (.ref f)
section
variable {X : Cx} {k : Nat} {x : Str} {ps : List Str} {sp : Sp} {p pos : Pos} {e : Expr} {es : List Expr} {t : TA}
theorem pe_fn (h : Has X.prog X.w X.K X.mg X.base k x ps sp) (hr : Room k X.A) (hg : Gl X x) (ha : PA X (e :: es) t) (hdb : (x == ("__debug__" : Str)) = false := by decide)
    (he : starEach (e :: es) X.env = (false, eval e X.env) :: starEach es X.env := by rfl) (hpl : (backTo pos (starEach es X.env)).any (·.1) = false := by rfl) :
    PE X (.Call (.Name x p) (e :: es) [] pos) (tCall sp [] E0 t) := by
  obtain ⟨f, fd, F, b, kp, m⟩ := h.ex
  exact pe_call F hr hg m kp b .nil pass0 ha hdb he hpl
/-- a built-in type as a value -/
theorem pe_ty {T : String} (hg : Gl X x) (hm : X.mg x = none) (hv : bootBuiltins x = some (.type T)) (hn : x ≠ "__name__" := by decide) (hd : (x == ("__debug__" : Str)) = false := by decide) : PE X (.Name x pos) (tC (.ty T)) := pe_bltn (v := .ty T) hg hm hv rfl hn hd
/-- a class of the text as a value -/
theorem pe_cls {C : Addr} (hg : Gl X x) (hm : X.mg x = some (.ref C)) (hd : (x == ("__debug__" : Str)) = false := by decide) : PE X (.Name x pos) (tC (.ref C)) := pe_glob (v := .ref C) hg hm rfl hd
/-- a class as isinstance takes it -/
def clsV : V → Option Value
  | .ty n => some (.type n)
  | .ref C => some (.ref C)
  | _ => none
theorem clsV_rel {c : V} {u cv : Value} (r : RelV c u) (h : clsV c = some cv) : u = cv := by
  cases c with
  | ty n => cases h; exact r
  | ref C => cases h; exact r
  | _ => cases h
theorem call_isinst : CallR X (.builtin "isinstance") (fun xs H Q => ∃ x c t cv b, xs = [x, c] ∧ clsV c = some cv ∧ TyOf X.K H x t ∧ PySem.W.kitOne X.K t cv = some b ∧ Q (.bl b) H) := by
  intro pins s σ H xs us Q I r h
  obtain ⟨x, c, t, cv, b, rfl, hc, ty, e, q⟩ := h
  obtain ⟨u, u', rfl, rx, rc⟩ := vals2 r
  cases clsV_rel rc hc
  exact isinst_ok I rx ty e fun tk => ⟨.bl b, H, I.tok _, rfl, q⟩
/-- // by a positive divisor below 2 ^ 8000 -/
theorem op_fdivB : OpR X (binaryOp .FloorDiv) (rI (fun _ j => 0 < j ∧ j.natAbs.log2 < 9000) fun i j => .int (i / j)) := opI fun i j _ _ _ _ _ hc q => by
  have h1 : (0 : Int) < j := hc.1
  exact floordiv_int (by omega) (by rw [Int.fdiv_eq_ediv_of_nonneg i (by omega)]; exact q) (.inl (PyProof.noPylong_of_log2 hc.2))
/-- products and shifts of great numbers -/
theorem op_mulB : OpR X (binaryOp .Mult) (rI (fun i j => Builtin.Int.intBits i ≤ 100000 ∧ Builtin.Int.intBits j ≤ 100000) fun i j => .int (i * j)) := opI fun _ _ _ _ _ _ _ hc q =>
  mul_int q (IntMulOk.of_bits (Nat.le_trans hc.1 (by decide)) (Nat.le_trans hc.2 (by decide)))
end
theorem kit_int_int (K : PySem.W.Frag) : PySem.W.kitOne K (.type "int") (.type "int") = some true := rfl
theorem kit_int_bool (K : PySem.W.Frag) : PySem.W.kitOne K (.type "int") (.type "bool") = some false := by with_unfolding_all rfl
/-! ### tests -/
theorem iteD {c A B : Prop} [Decidable c] (hc : c) (h : A) : if decide c = true then A else B := by
  rw [if_pos (decide_eq_true hc)]
  exact h
theorem iteDN {c A B : Prop} [Decidable c] (hc : ¬ c) (h : B) : if decide c = true then A else B := by
  rw [if_neg (by rw [decide_eq_false hc]; decide)]
  exact h
theorem ret_true {Q : VK} {H : Hp} {c : Prop} [Decidable c] (hc : c) (q : Q (.bl true) H) : Q (.bl (decide c)) H := by
  rw [decide_eq_true hc]
  exact q
/-- a test that two values are alike, and they are not -/
theorem iteN {c A B : Prop} [Decidable c] (hc : ¬ c) (h : A) : if (!decide c) = true then A else B := by
  rw [decide_eq_false hc]
  exact iteT h
/-! ### powers -/
theorem p1_pos (n : Nat) : (0 : Int) < 1 * 2 ^ n := by
  rw [Int.one_mul]
  exact Int.pow_pos (by decide)
theorem p_pos (n : Nat) : (0 : Int) < 2 ^ n := Int.pow_pos (by decide)
theorem p_mono {m n : Nat} (h : m ≤ n) : (2 : Int) ^ m ≤ 2 ^ n := by
  have e : n = m + (n - m) := by omega
  rw [e, Int.pow_add]
  have h1 := p_pos m
  have h2 : (1 : Int) ≤ 2 ^ (n - m) := p_pos (n - m)
  have h3 := Int.mul_le_mul_of_nonneg_left h2 (Int.le_of_lt h1)
  rw [Int.mul_one] at h3
  exact h3
/-! ### heaps: all but the thing at p is as it was -/
def SameX (p : Addr) (H H' : Hp) : Prop := ∀ b o, b ≠ p → H b = some o → H' b = some o
theorem SameX.refl (p : Addr) (H : Hp) : SameX p H H := fun _ _ _ h => h
theorem SameX.trans {p : Addr} {H H1 H2 : Hp} (a : SameX p H H1) (b : SameX p H1 H2) : SameX p H H2 := fun c o n h => b c o n (a c o n h)
theorem SameX.of {p : Addr} {H H' : Hp} (a : Same H H') : SameX p H H' := fun c o _ h => a c o h
theorem SameX.upd {p : Addr} {H : Hp} {o : HO} : SameX p H (upd H p o) := fun c u n h => by rw [upd_ne n]; exact h
theorem same_new {H : Hp} {p : Addr} (h : H p = none) (o : HO) : Same H (L2.upd H p o) := fun b u q => by rw [upd_ne (ne_of_none q h)]; exact q
/-- a new thing at p, changed or not: what stood before stands -/
theorem SameX.fresh {p : Addr} {H H1 : Hp} (h : H p = none) (a : SameX p H H1) : Same H H1 := fun b o q => a b o (ne_of_none q h) q
/-- three ints in a list: a box of draws -/
def Box (H : Hp) (p : Addr) : Prop := ∃ r s c : Int, H p = some (.lst [.int r, .int s, .int c])
theorem Box.same {H H' : Hp} {p : Addr} (b : Box H p) (s : Same H H') : Box H' p := by
  obtain ⟨r, s', c, h⟩ := b
  exact ⟨r, s', c, s _ _ h⟩
theorem getI (ns : List Int) (k : Nat) (h : k < ns.length) : atI (ns.map V.int) (k : Int) = some (.int ns[k]) := atI_nat (by rw [List.getElem?_map, List.getElem?_eq_getElem h] <;> rfl)
end Ow
/-! ## Own words for classes -/
namespace Ow
open PySem PySem.Spec PyProof.Rows L2
/-- a method of a class that keeps its promise -/
structure MHas (P : Program) (w : World) (K : PySem.W.Frag) (mg : Str → Option Value) (base : Heap) (k : Nat) (C : Addr) (m : Str) (ps : List Str) (sp : Sp) : Prop where
  cl : Cls K C
  ex : ∃ (f : Addr) (fd : FuncData), Meth K C m f ∧ FnOk P w K mg base CX0 k f fd ps sp ∧ Binds K fd ps []
/-- o.m(..), whatever the class of o is -/
def tMethP (X : Cx) (k : Nat) (m : Str) (ta : TE) (t : TA) : TE := fun σ H Q => ta σ H fun x H1 => ∃ (a C dx : Addr) (fs : List (Str × V)) (ps : List Str) (sp : Sp), x = .ref a ∧ H1 a = some (.ins C dx fs) ∧ fs.lookup m = none ∧
  MHas X.prog X.w X.K X.mg X.base k C m ps sp ∧ t σ H1 fun vs H2 => sp (x :: (vs ++ [])) H2 Q E0
/-- what a class without __init__ must have to be made -/
structure Mk0 (K : PySem.W.Frag) (C : Addr) : Prop where
  makes : PySem.W.makesIn K C = true
  init : PySem.W.findIn K (.ref C) "__init__" = some (some (.builtin "object.__init__"))
  kp : PySem.W.keepIn K (.ref C) = true
def tMk0 (C : Addr) : TE := fun _ H Q => ∀ x dx, H x = none → H dx = none → dx ≠ x → Q (.ref x) (upd (upd H dx (.own x)) x (.ins C dx []))
section
variable {X : Cx} {k : Nat} {x m : Str} {C : Addr} {p pos apos : Pos} {o e : Expr} {es : List Expr} {ta : TE} {t : TA}
theorem pe_methP0 {pl : Sem Bool} (he : PE X o ta) (hr : Room k X.A)
    (ht : eval (.Call (.Attribute o m apos) [] [] pos) X.env = (do
      let ov ← eval o X.env
      standAt apos.atName
      let (f, first) ← holding [ov] (getMethod ov m pl)
      callWith pos f first (backTo pos (starEach [] X.env)) (backToKw pos (keywordEach [] X.env))) := by rfl) :
    PE X (.Call (.Attribute o m apos) [] [] pos) (tMethP X k m ta tNil) := by
  intro pins s σ H Q I h
  refine PySem.W.methodCall_KW (pl := pl) (thn (he pins s σ H _ I h) fun u s1 ⟨x, H1, I1, rx, a, C, dx, fs, ps, sp, ex, ea, l, M, q⟩ => ?_) ht
  subst ex
  obtain rfl : u = Value.ref a := rx
  obtain ⟨f, fd, hm, F, hb⟩ := M.ex
  refine getmeth_ok I1 ea M.cl hm l ?_
  exact PySem.W.callWith_K0 (first := [.ref a]) I1.kIn hm.kp (run_fn (us := [.ref a]) (vs := [.ref a]) F hr hb .nil pass0 I1 (.cons rfl .nil) q)
/-- (a, b, ..) = a list of that length -/
def gTupL (K : PySem.W.Frag) (n : Nat) (t : TGs) : TG := fun v σ H Q => ∃ a xs, v = .ref a ∧ SqL K H a xs ∧ xs.length = n ∧ t xs σ H Q
end
end Ow
/-! ## A list comprehension: one clause over a name, no test -/
namespace Ow
open PySem PySem.Spec PyProof.Rows L2
/-- the block of a comprehension that runs within X; N: its own name first, then those that it sees -/
def cxComp (X : Cx) (N : List Str) (scope : Scope) (cl : List (Str × Addr)) (C : Addr) (s2 : Shared) (H2 : Hp) (fp : List Addr) : Cx where
  prog := X.prog
  w := X.w
  K := X.K
  mg := X.mg
  base := X.base
  A := X.A
  N := N
  s₀ := s2
  H₀ := H2
  env := compEnvC scope cl C X.env
  outer := X.stack
  stack := X.stack
  ex := fp
  calm := true
  fn := fun _ => false
  pn := []
  xe := fun _ _ => False
/-- what a comprehension asks: W, the word by the turn, a measure and the heap; D: the list that grows; cap: the values that the block sees -/
def tComp (wi : TI) (te : TE) (cap : L2.St → L2.St) : TE := fun σ H Q => wi σ H fun J H1 => ∀ D, H1 D = none → ∃ W : Nat → Nat → Hp → Prop, (∃ m, W 0 m (upd H1 D (.lst []))) ∧ ∀ i m H, W i m H →
  (J.stop i H ∧ Q (.ref D) H) ∨ (J.go i H ∧ ∀ x H', J.yld i H x H' → te (some x :: cap σ) H' fun y H2 => ∃ ys, H2 D = some (.lst ys) ∧ ys.length < sizeLine ∧ ∃ m', m' < m ∧ W (i + 1) m' (upd H2 D (.lst (ys ++ [y]))))
section
variable {X : Cx} {elt iter : Expr} {x : Str} {px pos : Pos} {scope : Scope} {wi : TI} {te : TE} {N : List Str} {cl : List (Str × Addr)} {cap : L2.St → L2.St}
theorem pe_comp (hc : X.calm = true) (hclos : closureFor scope X.env = pure cl) (hsub : ∀ n c, cl.lookup n = some c → X.env.cells.lookup n = some c)
    (hcell : ∀ y ∈ scope.names, y.2 ≠ .cell) (hkind : scope.kind = .function) (hnames : ∀ y ∈ scope.names, y.2 = .local → scope.names.lookup y.1 = some .local) (hx : scope.names.lookup x = some .local)
    (hhas : ∀ y, (Env.kindOf (compEnvC scope cl 0 X.env) y = some .cell ∨ Env.kindOf (compEnvC scope cl 0 X.env) y = some .free) → ∃ c, cl.lookup y = some c)
    (hN : (x :: N).Nodup) (hcapl : ∀ σ, (cap σ).length = N.length)
    (hcap : ∀ (σ : L2.St) (i : Nat) (y : Str) (v : V), σ.length = X.N.length → N[i]? = some y → (cap σ)[i]? = some (some v) → (Env.kindOf (compEnvC scope cl 0 X.env) y = some .cell ∨ Env.kindOf (compEnvC scope cl 0 X.env) y = some .free) ∧ X.env.kindOf y = some .cell ∧ ∃ j : Nat, X.N[j]? = some y ∧ σ[j]? = some (some v))
    (hi : PI X (.Name x px) iter wi) (he : ∀ C s2 H2 fp, PE (cxComp X (x :: N) scope cl C s2 H2 fp) elt te)
    (hs : ∀ z, foldedSetIterable iter X.env z = pure z := by intro _; rfl) :
    PE X (.ListComp elt [⟨.Name x px, iter, [], 0⟩] scope pos) (tComp wi te cap) := by
  intro pins s σ H Q I h
  rw [eval_ListComp]
  refine wpAny_comprehension_free (use := none) rfl hs hclos hkind hnames (thn (hi pins s σ H _ I h) fun xv s1 h1 => thn h1 fun itv s2 h2 => ?_)
  obtain ⟨it, fp, tn, J, H2, e, I2, T, st2, f2, hW⟩ := h2
  subst e
  have hD : H2 s2.heap.objs.size = none := I2.hok.fresh (Nat.le_refl _)
  obtain ⟨W, ⟨m0, w0⟩, turn⟩ := hW s2.heap.objs.size hD
  refine wpAny_newObj_type (wpAny_newFunctionEnv hcell (by intro y hy; simp at hy) (fun h4 hns4 hsb4 => ?_) hkind) (by show 0 ≤ sizeLine; decide)
  dsimp only at hns4 hsb4 ⊢
  generalize hH3 : s2.heap.push { cls := .type "list", dict := none, data := .seq ([] : List Value).toArray } = H3 at hns4 hsb4 ⊢
  have hCz : H3.objs.size = s2.heap.objs.size + 1 := by rw [← hH3, Heap.size_push]
  have old3 : ∀ b o, s2.heap.get? b = some o → H3.get? b = some o := fun b o e => hH3 ▸ Heap.get?_push_of_some _ e
  have eD3 : H3.get? s2.heap.objs.size = some { cls := .type "list", dict := none, data := .seq ([] : List Value).toArray } := hH3 ▸ Heap.get?_push_size _ rfl
  have old4 : ∀ b o, H3.get? b = some o → h4.get? b = some o := fun b o e => hsb4.extBut b o (Nat.ne_of_lt (Heap.lt_size e)) (Heap.get?_push_of_some _ e)
  have old : ∀ b o, s2.heap.get? b = some o → h4.get? b = some o := fun b o e => old4 b o (old3 b o e)
  have szC : s2.heap.objs.size < H3.objs.size := by rw [hCz]; exact Nat.lt_succ_self _
  have fpC : ∀ b ∈ fp, b ≠ H3.objs.size := fun b hb => by
    obtain ⟨o, ho, _⟩ := T.obj 0 _ st2 b hb
    exact Nat.ne_of_lt (Nat.lt_trans (Heap.lt_size ho) szC)
  -- the block's context
  have ok' : (cxComp X (x :: N) scope cl H3.objs.size s2 H2 fp).Ok := by
    refine ⟨I2.ok.mod, hkind, I2.ok.glob, I2.ok.blt, (Nat.le_of_lt szC), fun a b c e1 e2 => I2.ok.inj a b c (hsub a c e1) (hsub b c e2), fun y hy => hhas y hy, fun y c z _ => absurd (show false = true from z) (by decide),
      fun _ => I2.ok.hd hc, I2.ok.frames, .inl rfl, fun b hb => ⟨fpC b hb, fun y c e => (f2 b hb).2.2.2.2.1 y c (hsub y c e)⟩, I2.bs, Nat.le_trans I2.ok.bsz I2.sz, fun b o e hb => ?_, fun b hb z => ?_, I2.stack, I2.stkFree⟩
    · rcases (f2 b hb).2.2.2.1 with q | q
      · exact I2.ok.noex b o e q
      · exact absurd (Nat.lt_of_lt_of_le (Heap.lt_size e) (Nat.le_trans I2.ok.bsz q)) (Nat.lt_irrefl _)
    · rcases List.mem_cons.mp (I2.stkSub b z) with q | q
      · exact (f2 b hb).2.1 q
      · exact (f2 b hb).2.2.1 q
  have okD : ObjOk X.prog X.w (upd H2 s2.heap.objs.size (.lst [])) h4 s2.heap.objs.size (.lst []) := ⟨Nat.zero_le _, [], 0, .nil, old4 _ _ eD3⟩
  have I4 : Inv (cxComp X (x :: N) scope cl H3.objs.size s2 H2 fp) [] (none :: cap σ) (upd H2 s2.heap.objs.size (.lst [])) { s2 with heap := h4, toks := s2.toks + ([] : List (Str × Value)).length } := by
    refine ⟨ok', rfl, I2.bare, Un.laid old (Nat.le_refl _) hD, ⟨_, hns4, fun i y v e1 e2 _ => ?_⟩, fun y c e => ?_, ?_, fun y c e => ?_, fun p hp => absurd hp (by show p ∉ ([] ++ [] : List (Addr × Obj)); simp), I2.hok.laid old (Nat.le_refl _) okD, ?_⟩
    · cases i with
      | zero => simp at e2
      | succ i =>
        obtain ⟨k1, k2, j, e3, e4⟩ := hcap σ i y v I2.len (show N[i]? = some y from e1) (show (cap σ)[i]? = some (some v) from e2)
        obtain ⟨m, _, hl⟩ := I2.loc
        obtain ⟨u, ru, lk⟩ := hl j y v e3 e4 (.inr (.inl k2))
        refine ⟨u, ru, .inr ⟨k1, ?_⟩⟩
        rcases lk with ⟨z, _⟩ | ⟨_, c, e5, hcl⟩
        · rw [k2] at z; cases z
        · obtain ⟨c', e6⟩ := hhas y k1
          have : c' = c := by
            have := hsub y c' e6
            rw [e5] at this
            exact (Option.some.inj this).symm
          subst this
          obtain ⟨oc, ho, hd⟩ := hcl
          exact ⟨c', e6, oc, old _ _ ho, hd⟩
    · obtain ⟨v, oc, ho, hd⟩ := I2.cell y c (hsub y c e)
      exact ⟨v, oc, old _ _ ho, hd⟩
    · show upd H2 s2.heap.objs.size (.lst []) H3.objs.size = none
      rw [upd_ne (Nat.ne_of_gt szC)]
      exact I2.hok.fresh (Nat.le_of_lt szC)
    · have h1 := I2.freeC y c (hsub y c e)
      obtain ⟨v, oc, ho, _⟩ := I2.cell y c (hsub y c e)
      rw [upd_ne (Nat.ne_of_lt (Heap.lt_size ho))]
      exact h1
    · show (none :: cap σ).length = (x :: N).length
      simp [hcapl]
  have stat : ∀ {H' : Hp}, (∀ b ∈ fp, H' b = none) → ∀ b ∈ fp, FpOk (cxComp X (x :: N) scope cl H3.objs.size s2 H2 fp) [] H' b := fun {H'} hn b hb =>
    ⟨hn b hb, (ok'.exf b hb).1, ok'.exfs b hb, .inl hb, (ok'.exf b hb).2, fun p hp => absurd hp (by show p ∉ ([] ++ [] : List (Addr × Obj)); simp)⟩
  have loop : codeAny (model X.prog X.w) X.A (.compLoop (.ListComp elt [⟨.Name x px, iter, [], 0⟩] scope pos) 0 (.ref it) (.ref s2.heap.objs.size) (compEnvC scope cl H3.objs.size X.env))
      (compPost (model X.prog X.w) X.A X.xe none (EP X pins σ Q) (.ref s2.heap.objs.size) H3.objs.size) { s2 with heap := h4, toks := s2.toks + ([] : List (Str × Value)).length } := by
    refine codeAny_compLoop_list (fun n s' => ∃ (i : Nat) (z0 : Option V) (H' : Hp), Inv (cxComp X (x :: N) scope cl H3.objs.size s2 H2 fp) [] (z0 :: cap σ) H' s' ∧ tn i s'.heap ∧ (∀ b ∈ fp, H' b = none) ∧ W i n H') ?_ m0
      ⟨0, none, _, I4, T.keep 0 _ _ st2 (fun b _ o e => old b o e), fun b hb => ?_, w0⟩
    · rintro n s5 ⟨i, z0, H5, I5, st5, fr5, w5⟩
      rcases turn i n H5 w5 with ⟨stop, qn⟩ | ⟨go, step⟩
      · refine wpAny_mono (T.done (cxComp X (x :: N) scope cl H3.objs.size s2 H2 fp) rfl rfl rfl rfl i [] s5 _ H5 _ I5 (stat fr5) st5 stop) (fun r s6 ⟨hr, I6⟩ => ?_) fun _ _ z => z
        subst hr
        obtain ⟨m, hn6, _⟩ := id I6.loc
        refine ⟨m, hn6, fun h' sb => ⟨.ref s2.heap.objs.size, H5, ?_, rfl, qn⟩⟩
        have kp : ∀ b o, b ≠ H3.objs.size → s6.heap.get? b = some o → h'.get? b = some o := fun b o hb e => sb.extBut b o hb e
        have nC : ∀ b o, s2.heap.get? b = some o → b ≠ H3.objs.size := fun b o e => Nat.ne_of_lt (Nat.lt_trans (Heap.lt_size e) szC)
        have fC : H5 H3.objs.size = none := I6.free
        refine I2.call' (ch := fp) (s' := { s6 with heap := h' }) I6.os ?_ ?_ I6.bare fun b hb => ⟨(f2 b hb).2.2.2.1, (f2 b hb).2.1, (f2 b hb).2.2.2.2.1, (f2 b hb).2.2.2.2.2⟩
        · have U : Un (frs X.stack) fp H2 H5 s2.heap s6.heap := I6.base
          exact ⟨fun b o e n1 n2 n3 => kp b o (nC b o e) (U.keep b o e n1 n2 n3), fun b o e n1 n2 n3 => by
              obtain ⟨sl, q⟩ := U.slot b o e n1 n2 n3
              exact ⟨sl, kp b _ (nC b o e) q⟩, U.free, fun b o e n3 => by
              obtain ⟨o', q⟩ := U.there b o e n3
              exact ⟨o', kp b _ (nC b o e) q⟩, U.tups, U.frzs, U.tbls⟩
        · intro b u e
          refine (I6.hok b u e).stay (fun c v hc q => kp c v (fun z => ?_) q) (fun _ q => q) fun _ _ q => q
          rcases hc with y | y
          · rw [← y, z, fC] at e
            cases e
          · rw [z, fC] at y
            cases y
      · refine wpAny_mono (T.item (cxComp X (x :: N) scope cl H3.objs.size s2 H2 fp) rfl rfl rfl rfl i [] s5 _ H5 _ I5 (stat fr5) st5 go) (fun r s6 ⟨u, hr, h6⟩ => ?_) fun _ _ z => z
        subst hr
        have key : (letOwnedTupleGo (.Name x px) (.ref it) u >>= fun _ => assign (.Name x px) (compEnvC scope cl H3.objs.size X.env) u) = assign (.Name x px) (compEnvC scope cl H3.objs.size X.env) u := by first | rfl | exact pure_bind _ _
        dsimp only
        rw [← key]
        refine wpAny_bind (wpAny_mono h6 (fun _ s7 ⟨v, H7, I7, r7, y7, st7, fr7⟩ => ?_) fun _ _ z => z)
        have I7' := I7.pinned (stat fr7) (T.obj _ _ st7)
        refine wpAny_assign_Name (store_ok (i := 0) I7' hN rfl (.inl (lookup_relabel_local hx)) r7 (fun s8 I8 => ?_) (.inr (lookup_relabel_local hx)))
        refine wpAny_mono (he H3.objs.size s2 H2 fp _ s8 (some v :: cap σ) H7 _ I8 (step v H7 y7)) (fun w9 s9 ⟨y, H9, I9, r9, ys, hys, hlt, m', hm, w9'⟩ => ?_) fun _ _ z => z.elim
        refine wpAny_mono (mt_append (X := cxComp X (x :: N) scope cl H3.objs.size s2 H2 fp) _ s9 _ H9 (.ref s2.heap.objs.size) [y] _ [w9] (fun _ Hn => Hn = upd H9 s2.heap.objs.size (.lst (ys ++ [y]))) I9 rfl (.cons r9 .nil) ⟨_, ys, y, rfl, rfl, hys, hlt, rfl⟩) (fun _ s10 ⟨_, H10, I10, _, e10⟩ => ?_) fun _ _ z => z.elim
        subst e10
        refine ⟨m', hm, i + 1, some v, _, I10.unpinned, T.keep _ _ _ st7 fun b hb o e => (I10.pin (b, o) (List.mem_append_right _ (List.mem_append_right _ (mem_pinsAt hb e)))).1, fun b hb => ?_, w9'⟩
        obtain ⟨o, e, d⟩ := T.obj _ _ st7 b hb
        exact (I10.pin (b, o) (List.mem_append_right _ (List.mem_append_right _ (mem_pinsAt hb e)))).2.1
    · obtain ⟨o, ho, _⟩ := T.obj 0 _ st2 b hb
      rw [upd_ne (Nat.ne_of_lt (Heap.lt_size ho))]
      exact (f2 b hb).1
  exact codeAny_compStart_list loop (T.self X.A 0 _ _ _ (T.keep 0 _ _ st2 (fun b _ o e => old b o e)) loop)
/-- over a list that the block leaves as it is -/
theorem comp_list {K : PySem.W.Frag} {a D : Addr} {xs : List V} {te' : TE} {tl : L2.St} {G : Hp → Prop} {H1 : Hp} (Pv : Nat → Hp → Prop) (h0 : Pv 0 (upd H1 D (.lst []))) (hl : ∀ i H, i ≤ xs.length → Pv i H → SqL K H a xs)
    (hs : ∀ i x H, xs[i]? = some x → Pv i H → te' (some x :: tl) H fun y H2 => ∃ ys, H2 D = some (.lst ys) ∧ ys.length < sizeLine ∧ ∃ m', m' < xs.length - i ∧ (m' = xs.length - (i + 1) ∧ i + 1 ≤ xs.length ∧ Pv (i + 1) (upd H2 D (.lst (ys ++ [y])))))
    (hd : ∀ H, Pv xs.length H → G H) :
    ∃ W : Nat → Nat → Hp → Prop, (∃ m, W 0 m (upd H1 D (.lst []))) ∧ ∀ i m H, W i m H →
      ((Itl K a).stop i H ∧ G H) ∨ ((Itl K a).go i H ∧ ∀ x H', (Itl K a).yld i H x H' → te' (some x :: tl) H' fun y H2 => ∃ ys, H2 D = some (.lst ys) ∧ ys.length < sizeLine ∧ ∃ m', m' < m ∧ W (i + 1) m' (upd H2 D (.lst (ys ++ [y])))) := by
  refine ⟨fun i m H => m = xs.length - i ∧ i ≤ xs.length ∧ Pv i H, ⟨xs.length, by simp, Nat.zero_le _, h0⟩, ?_⟩
  rintro i m H ⟨rfl, hi, p⟩
  have q := hl i H hi p
  by_cases hlt : i < xs.length
  · refine .inr ⟨⟨xs, xs[i], q, by simp [hlt]⟩, fun x H' y => ?_⟩
    obtain ⟨e, y⟩ := y
    subst e
    exact hs i x _ (y xs q) p
  · have e : i = xs.length := by omega
    subst e
    exact .inl ⟨⟨xs, q, Nat.le_refl _⟩, hd H p⟩
end
/-- two statements, with a word J between them: both ways of the first come to J -/
def tJoin (t u : TS) : TS := fun D σ H => ∃ J : L2.St → Hp → Prop, t { D with nx := J } σ H ∧ ∀ σ' H', J σ' H' → u D σ' H'
theorem pss_join {X : Cx} {st : Stmt} {rest : List Stmt} {t u : TS} (h1 : PS X st t) (h2 : PSs X rest u) : PSs X (st :: rest) (tJoin t u) := by
  intro pins s σ H D I h
  obtain ⟨J, h, hJ⟩ := h
  refine wpAny_execs_cons (thn (h1 pins s σ H { D with nx := J } I h) fun f s1 q => ?_)
  cases f with
  | next =>
    obtain ⟨σ', H', I', q⟩ := q
    exact h2 pins s1 σ' H' D I' (hJ _ _ q)
  | ret v => exact q
  | brk => exact q
  | cont => exact q
end Ow
/-! ## Tuples and lists of flat values, compared -/
namespace Ow
open PySem PySem.Spec PyProof.Rows L2
def eqVs (xs ys : List V) : Bool := (List.range (min xs.length ys.length)).all (fun j => eqV (xs.getD j .non) (ys.getD j .non)) && xs.length == ys.length
section
variable {X : Cx}
theorem flat_at {xs : List V} (h : xs.all flatV = true) {j : Nat} (hj : j < xs.length) : flatV (xs.getD j .non) = true := by
  rw [List.getD_eq_getElem?_getD, List.getElem?_eq_getElem hj]
  exact List.all_eq_true.mp h _ (List.getElem_mem hj)
theorem vals_at {xs : List V} {us : List Value} (r : Vals xs us) {j : Nat} (h1 : j < us.length) : RelV (xs.getD j .non) us[j] := by
  have hl := r.length
  have hj : j < xs.length := by omega
  obtain ⟨u, hu, ru⟩ := r.get (i := j) (x := xs[j]) (List.getElem?_eq_getElem hj)
  rw [List.getElem?_eq_getElem h1] at hu
  rw [List.getD_eq_getElem?_getD, List.getElem?_eq_getElem hj]
  cases hu
  exact ru
/-- == of two tuples of flat values -/
def rEqT (K : PySem.W.Frag) : R2 := fun x y H Q => ∃ p q xs ys, x = .ref p ∧ y = .ref q ∧ SqT K H p xs ∧ SqT K H q ys ∧ xs.all flatV = true ∧ ys.all flatV = true ∧ Q (.bl (eqVs xs ys)) H
/-- != of two tuples of flat values -/
def rNeT (K : PySem.W.Frag) : R2 := fun x y H Q => ∃ p q xs ys, x = .ref p ∧ y = .ref q ∧ SqT K H p xs ∧ SqT K H q ys ∧ xs.all flatV = true ∧ ys.all flatV = true ∧ Q (.bl (!eqVs xs ys)) H
theorem op_neT (hu : X.A.units < cLine) : OpR X (compareOp .NotEq) (rNeT X.K) := by
  intro pins s σ H x y v u Q I rx ry h
  obtain ⟨p, q, xs, ys, rfl, rfl, hp, hq, fx, fy, k⟩ := h
  cases rx
  cases ry
  obtain ⟨its, r, pl, hz⟩ := I.tuple hp
  obtain ⟨its2, r2, pl2, hz2⟩ := I.tuple hq
  refine SeqAt.RcNeAt.tuples (e := fun j => eqV (xs.getD j .non) (ys.getD j .non)) pl pl2 hu (fun j h1 h2 => ?_) X.prog X.w X.xe _ ⟨.bl _, H, I, rfl, ?_⟩
  · have h1' : j < its.length := by simpa using h1
    have h2' : j < its2.length := by simpa using h2
    have a := vals_at r h1'
    have b := vals_at r2 h2'
    have hl := r.length
    have hl2 := r2.length
    have := eqAt_V (A := X.A.in1) (s := s) a b (flat_at fx (by omega)) (flat_at fy (by omega))
    simpa using this
  · have hl := r.length
    have hl2 := r2.length
    have e : ((List.range (min its.toArray.size its2.toArray.size)).all (fun j => eqV (xs.getD j .non) (ys.getD j .non)) && its.toArray.size == its2.toArray.size) = eqVs xs ys := by
      simp only [List.size_toArray, eqVs, hl, hl2]
    rw [e]
    exact k
/-- a list beside the empty list -/
def rEq0 (K : PySem.W.Frag) (neg : Bool) : R2 := fun x y H Q => ∃ p q xs, x = .ref p ∧ y = .ref q ∧ SqL K H p xs ∧ SqL K H q [] ∧ Q (.bl (if neg then !xs.isEmpty else xs.isEmpty)) H
theorem op_ne0 (hu : X.A.units < cLine) : OpR X (compareOp .NotEq) (rEq0 X.K true) := by
  intro pins s σ H x y v u Q I rx ry h
  obtain ⟨p, q, xs, rfl, rfl, hp, hq, k⟩ := h
  cases rx
  cases ry
  obtain ⟨its, r, pl, hz⟩ := I.list hp
  obtain ⟨its2, r2, pl2, hz2⟩ := I.list hq
  cases r2
  have hl := r.length
  cases xs with
  | nil =>
    cases r
    exact SeqAt.RcNeAt.lists (e := fun _ => true) pl.isList pl2.isList rfl hu (fun j h1 _ => absurd h1 (by simp)) X.prog X.w X.xe _ ⟨.bl _, H, I, rfl, k⟩
  | cons z zs =>
    refine SeqAt.RcNeAt.lists_lengths pl.isList pl2.isList ?_ hu X.prog X.w X.xe _ ⟨.bl _, H, I, rfl, k⟩
    rw [List.length_cons] at hl
    simp only [List.size_toArray, ← hl]
    rfl
/-- xs[::-1]: a new list -/
def tRev (K : PySem.W.Frag) (te : TE) : TE := fun σ H Q => te σ H fun x H1 => ∃ a xs, x = .ref a ∧ SqL K H1 a xs ∧ ∀ p, H1 p = none → Q (.ref p) (upd H1 p (.lst xs.reverse))
/-- a function read off a class of the text: C.m -/
structure ClsFn (K : PySem.W.Frag) (C : Addr) (m : Str) (f : Addr) : Prop where
  reads : PySem.W.readsIn K C (.type "type") = true
  ga : PySem.W.specialIn K (.ref C) "__getattribute__" = some (some (.builtin "type.__getattribute__"))
  fnd : PySem.W.findCls K (.ref C) (.type "type") m = some (.val (.ref f))
  hd : PySem.W.handedIn (.ref f) = true
  kp : PySem.W.keepIn K (.ref f) = true
end
end Ow
/-! ## Lists put together, ranges downwards, things within things compared -/
namespace Ow
open PySem PySem.Spec PyProof.Rows L2
section
variable {X : Cx}
def rAddL (K : PySem.W.Frag) : R2 := fun x y H Q => ∃ a b xs ys, x = .ref a ∧ y = .ref b ∧ SqL K H a xs ∧ SqL K H b ys ∧ xs.length + ys.length ≤ sizeLine ∧ ∀ p, H p = none → Q (.ref p) (upd H p (.lst (xs ++ ys)))
/-- lo, lo - 1, .. (n of them) -/
def Itd (lo : Int) (n : Nat) : It := ⟨fun i _ => i < n, fun i H x H' => H' = H ∧ x = .int (lo - i), fun i _ => n ≤ i⟩
variable {tg : Expr}
def iDown (ta : TA) : TI := fun σ H R => ta σ H fun vs H1 => ∃ i : Int, vs = [.int i, .int (-1), .int (-1)] ∧ -1 ≤ i ∧ i < 2 ^ 62 ∧ R (Itd i (i + 1).toNat) H1
/-! ### deep equality: of flat things, tuples and lists -/
inductive EqD (K : PySem.W.Frag) (H : Hp) : Nat → V → V → Bool → Prop where
  | flat {d : Nat} {x y : V} (fx : flatV x = true) (fy : flatV y = true) : EqD K H d x y (eqV x y)
  | tup {d : Nat} {p q : Addr} {xs ys : List V} {e : Nat → Bool} (hn : p ≠ q) (hx : SqT K H p xs) (hy : SqT K H q ys) (he : ∀ j, j < xs.length → j < ys.length → EqD K H d (xs.getD j .non) (ys.getD j .non) (e j)) :
      EqD K H (d + 1) (.ref p) (.ref q) ((List.range (min xs.length ys.length)).all e && xs.length == ys.length)
  | lst {d : Nat} {p q : Addr} {xs ys : List V} {e : Nat → Bool} (hn : p ≠ q) (hx : SqL K H p xs) (hy : SqL K H q ys) (hl : xs.length = ys.length) (he : ∀ j, j < xs.length → EqD K H d (xs.getD j .non) (ys.getD j .non) (e j)) :
      EqD K H (d + 1) (.ref p) (.ref q) ((List.range xs.length).all e)
  | same {d : Nat} {p : Addr} : EqD K H d (.ref p) (.ref p) true
theorem EqD.at {pins : List (Addr × Obj)} {σ : L2.St} {H : Hp} {s : Shared} (I : Inv X pins σ H s) : ∀ {d : Nat} {x y : V} {b : Bool} {u v : Value} {A : Around}, EqD X.K H d x y b → RelV x u → RelV y v → A.units + d < cLine → SeqAt.EqAt A s u v b := by
  intro d x y b u v A h
  induction h generalizing u v A with
  | flat fx fy => intro rx ry _; exact eqAt_V rx ry fx fy
  | same => intro rx ry _; cases rx; cases ry; exact SeqAt.EqAt.same _
  | @tup d p q xs ys e hn hx hy he ih =>
    intro rx ry hu
    cases rx
    cases ry
    obtain ⟨its, r, pl, _⟩ := I.tuple hx
    obtain ⟨its2, r2, pl2, _⟩ := I.tuple hy
    have hl := r.length
    have hl2 := r2.length
    have := SeqAt.EqAt.of_refs hn (SeqAt.RcAt.tuples (A := A) (e := e) pl pl2 (by omega) (fun j h1 h2 => by
      have h1' : j < its.length := by simpa using h1
      have h2' : j < its2.length := by simpa using h2
      have z := ih j (by omega) (by omega) (vals_at r h1') (vals_at r2 h2') (A := A.in1) (by show A.units + 1 + d < _; omega)
      simpa using z))
    simp only [List.size_toArray, ← hl, ← hl2] at this
    exact this
  | @lst d p q xs ys e hn hx hy hle he ih =>
    intro rx ry hu
    cases rx
    cases ry
    obtain ⟨its, r, pl, _⟩ := I.list hx
    obtain ⟨its2, r2, pl2, _⟩ := I.list hy
    have hl := r.length
    have hl2 := r2.length
    have := SeqAt.EqAt.of_refs hn (SeqAt.RcAt.lists (A := A) (e := e) pl.isList pl2.isList (by simp only [List.size_toArray]; omega) (by omega) (fun j h1 h2 => by
      have h1' : j < its.length := by simpa using h1
      have h2' : j < its2.length := by simpa using h2
      have z := ih j (by omega) (vals_at r h1') (vals_at r2 h2') (A := A.in1) (by show A.units + 1 + d < _; omega)
      simpa using z))
    simp only [List.size_toArray, ← hl] at this
    exact this
/-- == and != of lists of such things -/
def rEqLD (K : PySem.W.Frag) (d : Nat) (neg : Bool) : R2 := fun x y H Q => ∃ p q xs ys e, x = .ref p ∧ y = .ref q ∧ SqL K H p xs ∧ SqL K H q ys ∧ xs.length = ys.length ∧ (∀ j, j < xs.length → EqD K H d (xs.getD j .non) (ys.getD j .non) (e j)) ∧ Q (.bl (if neg = true then !(List.range xs.length).all e else (List.range xs.length).all e)) H
/-! ### list(range(n)) -/
def upTo (j : Int) : List V := (List.range j.toNat).map fun k : Nat => V.int (k : Int)
def tRange1 (ta : TA) : TE := fun σ H Q => ta σ H fun vs H1 => ∃ j : Int, vs = [.int j] ∧ ∀ p, H1 p = none → Q (.ref p) (upd H1 p (.rng 0 j))
end
end Ow
/-! ## A list walked from its end; all of a list of truths -/
namespace Ow
open PySem PySem.Spec PyProof.Rows L2
def Itv (K : PySem.W.Frag) (a : Addr) (n : Nat) : It :=
  ⟨fun i H => i < n ∧ ∃ xs x, SqL K H a xs ∧ xs[n - 1 - i]? = some x, fun i H x H' => H' = H ∧ ∀ xs, SqL K H a xs → xs[n - 1 - i]? = some x, fun i _ => i = n⟩
section
variable {X : Cx} {tg : Expr}
def iRev (K : PySem.W.Frag) (ta : TA) : TI := fun σ H R => ta σ H fun vs H1 => ∃ a xs, vs = [.ref a] ∧ SqL K H1 a xs ∧ R (Itv K a xs.length) H1
/-! ### a comprehension whose block sees names of the def -/
variable {elt iter : Expr} {x : Str} {px pos : Pos} {scope : Scope} {wi : TI} {te : TE} {cl : List (Str × Addr)}
theorem pe_compC (js : List Nat) (ns : List Str) (hc : X.calm = true) (hclos : closureFor scope X.env = pure cl) (hcls : cl.map (·.1) = ns) (hsub : ∀ p ∈ cl, X.env.cells.lookup p.1 = some p.2)
    (hno : ∀ p ∈ scope.names, p.2 ≠ .cell ∧ (p.2 = .free → p.1 ∈ ns)) (hkind : scope.kind = .function) (hnames : ∀ y ∈ scope.names, y.2 = .local → scope.names.lookup y.1 = some .local) (hx : scope.names.lookup x = some .local)
    (hN : (x :: ns).Nodup) (hkd : ∀ y ∈ ns, (Env.kindOf (compEnvC scope cl 0 X.env) y = some .cell ∨ Env.kindOf (compEnvC scope cl 0 X.env) y = some .free) ∧ X.env.kindOf y = some .cell)
    (hjl : js.length = ns.length) (hj : js.map (fun j => X.N[j]?) = ns.map some)
    (hi : PI X (.Name x px) iter wi) (he : ∀ C s2 H2 fp, PE (cxComp X (x :: ns) scope cl C s2 H2 fp) elt te)
    (hs : ∀ z, foldedSetIterable iter X.env z = pure z := by intro _; rfl) :
    PE X (.ListComp elt [⟨.Name x px, iter, [], 0⟩] scope pos) (tComp wi te fun σ => js.map fun j => (σ[j]?).getD none) := by
  refine pe_comp (N := ns) (cl := cl) hc hclos (fun n c e => hsub (n, c) (PySem.mem_of_lookup e)) (fun y hy => (hno y hy).1) hkind hnames hx (fun y hy => ?_) hN (fun σ => by rw [List.length_map]; exact hjl) (fun σ i y v _ e1 e2 => ?_) hi he hs
  · have sub : ∀ (l : List (Str × NameKind)), (∀ p ∈ l, p.2 ≠ .cell ∧ (p.2 = .free → p.1 ∈ ns)) → ∀ p ∈ (l.map fun (n, k) => if (k == NameKind.free && X.env.scope.kind == ScopeKind.function && X.env.kindOf n == some NameKind.cell) then (n, NameKind.cell) else (n, k)), (p.2 = .cell ∨ p.2 = .free) → p.1 ∈ ns := by
      intro l hl p hp hk
      obtain ⟨q, hq, e⟩ := List.mem_map.mp hp
      have h1 := hl q hq
      obtain ⟨n, k⟩ := q
      dsimp only at e
      by_cases hf : k = .free
      · have h2 := h1.2 hf
        split at e
        · rw [← e]; exact h2
        · rw [← e]; exact h2
      · have hf' : (k == NameKind.free) = false := by
          cases k <;> first | rfl | exact absurd rfl hf
        rw [hf', Bool.false_and, Bool.false_and, if_neg (by decide)] at e
        rw [← e] at hk
        rcases hk with z | z
        · exact absurd z h1.1
        · exact absurd z hf
    have hy' : y ∈ ns := by
      rcases hy with z | z
      · exact sub scope.names hno (y, .cell) (PySem.mem_of_lookup z) (.inl rfl)
      · exact sub scope.names hno (y, .free) (PySem.mem_of_lookup z) (.inr rfl)
    rw [← hcls] at hy'
    have key : ∀ l : List (Str × Addr), y ∈ l.map (·.1) → ∃ c, l.lookup y = some c := by
      intro l
      induction l with
      | nil => intro h; simp at h
      | cons p r ih =>
        intro h
        by_cases e : y = p.1
        · exact ⟨p.2, by obtain ⟨p1, p2⟩ := p; dsimp only at e; subst e; simp [List.lookup]⟩
        · have h' : y ∈ r.map (·.1) := by
            rw [List.map_cons] at h
            exact (List.mem_cons.mp h).resolve_left e
          obtain ⟨c, hc'⟩ := ih h'
          refine ⟨c, ?_⟩
          obtain ⟨p1, p2⟩ := p
          have : (y == p1) = false := by simpa using e
          rw [List.lookup_cons, this]
          exact hc'
    exact key cl hy'
  · have hm : y ∈ ns := List.mem_of_getElem? e1
    refine ⟨(hkd y hm).1, (hkd y hm).2, ?_⟩
    rw [List.getElem?_map] at e2
    cases hji : js[i]? with
    | none => rw [hji] at e2; cases e2
    | some j =>
      rw [hji] at e2
      have e3 : (σ[j]?).getD none = some v := by
        have := Option.some.inj e2
        exact this
      have e4 := congrArg (fun l => l[i]?) hj
      rw [List.getElem?_map, List.getElem?_map, hji, e1] at e4
      have e5 : X.N[j]? = some y := by
        have := Option.some.inj e4
        exact this
      refine ⟨j, e5, ?_⟩
      cases hσ : σ[j]? with
      | none => rw [hσ] at e3; cases e3
      | some o =>
        rw [hσ] at e3
        have e6 : o = some v := e3
        rw [e6]
/-! ### classes with an __init__, and a base's __init__ called by name -/
structure CHas (P : Program) (w : World) (K : PySem.W.Frag) (mg : Str → Option Value) (base : Heap) (k : Nat) (C : Addr) (x : Str) (ps : List Str) (sp : Sp) : Prop where
  ex : ∃ (f : Addr) (fd : FuncData), Mk K C f ∧ FnOk P w K mg base CX0 k f fd ps sp ∧ Binds K fd ps [] ∧ mg x = some (.ref C)
theorem pe_mkP {k : Nat} {C : Addr} {y : Str} {ps : List Str} {sp : Sp} {p : Pos} {e : Expr} {es : List Expr} {t : TA} (h : CHas X.prog X.w X.K X.mg X.base k C y ps sp) (hr : Room (k + 1) X.A) (hg : Gl X y) (ha : PA X (e :: es) t) (hdb : (y == ("__debug__" : Str)) = false := by decide)
    (he : starEach (e :: es) X.env = (false, eval e X.env) :: starEach es X.env := by rfl) (hpl : (backTo pos (starEach es X.env)).any (·.1) = false := by rfl) :
    PE X (.Call (.Name y p) (e :: es) [] pos) (tMake C sp [] E0 t) := by
  obtain ⟨f, fd, M, F, b, m⟩ := h.ex
  exact pe_make M F hr hg m b .nil pass0 ha hdb he hpl
structure BHas (P : Program) (w : World) (K : PySem.W.Frag) (mg : Str → Option Value) (base : Heap) (k : Nat) (x m : Str) (ps : List Str) (sp : Sp) : Prop where
  ex : ∃ (C f : Addr) (fd : FuncData), ClsFn K C m f ∧ FnOk P w K mg base CX0 k f fd ps sp ∧ Binds K fd ps [] ∧ mg x = some (.ref C)
end
end Ow
/-! ## is, of truths; a name put to a comprehension that sees names of the def -/
namespace Ow
open PySem PySem.Spec PyProof.Rows L2
section
variable {X : Cx}
variable {elt iter : Expr} {x : Str} {px pos : Pos} {scope : Scope} {wi : TI} {te : TE} {cl : List (Str × Addr)}
end
end Ow
/-! ## exceptions of own classes: raised by a def, caught by its caller -/
namespace Ow
open PySem PySem.Spec PyProof.Rows L2
/-- the ground beneath a flying exception: the module's base, all that is tracked, and what was there ahead of the call, the frames aside -/
structure Gnd (P : Program) (w : World) (base : Heap) (fs : List Addr) (H H' : Hp) (h B : Heap) : Prop where
  st : base.StaysIn B
  keep : ∀ b o, h.get? b = some o → H b = none → b ∉ fs → B.get? b = some o
  free : ∀ b o, h.get? b = some o → H b = none → H' b = none
  there : ∀ b o, h.get? b = some o → b ∉ fs → ∃ o', B.get? b = some o'
  tups : ∀ b xs, H b = some (.tup xs) → H' b = some (.tup xs)
  frzs : ∀ b o u, H b = some (.frz o u) → H' b = some (.frz o u)
  tbls : ∀ b ps, H b = some (.tbl ps) → ∃ more, H' b = some (.tbl (ps ++ more))
  hok : HOk P w H' B
def Slots (fs : List Addr) (h h' : Heap) : Prop := ∀ b ∈ fs, ∀ o, h.get? b = some o → ∃ sl, h'.get? b = some { o with slots := sl }
/-- an exception in flight over the frames of the callers -/
def CX1 (P : Program) (w : World) (base : Heap) : CXT := fun outer H s E e s' =>
  ∃ (a : Addr) (cls a0 : Value) (B : Heap) (H' : Hp), e = .ref a ∧ s'.os = s.os ∧ AllBare s'.gens ∧ Gnd P w base (frs outer) H H' s.heap B ∧ Slots (frs outer) s.heap s'.heap ∧ Heap.FlyingW B outer a cls a0 s'.heap ∧ H' a = none ∧ E cls none H'
section
variable {P : Program} {w : World} {base h h1 h2 B : Heap} {fs : List Addr} {H H' : Hp} {l : List Env}
theorem Gnd.un (G : Gnd P w base fs H H' h B) (sb : B.StaysIn h1) (sl : Slots fs h h1) : Un fs [] H H' h h1 where
  keep := fun b o q n hb _ => sb _ _ (G.keep b o q n hb)
  slot := fun b o q _ hb _ => sl b hb o q
  free := fun b o q n _ => G.free b o q n
  there := fun b o q _ => by
    by_cases hb : b ∈ fs
    · obtain ⟨s, e⟩ := sl b hb o q
      exact ⟨_, e⟩
    · obtain ⟨o', e⟩ := G.there b o q hb
      exact ⟨o', sb _ _ e⟩
  tups := G.tups
  frzs := G.frzs
  tbls := G.tbls
theorem Slots.on (x : Slots (frs l) h h1) (hl : h1.FunFrames B l) (u : h1.UpToSlots h2) : Slots (frs l) h h2 := fun b hb o q => by
  obtain ⟨sl, e⟩ := x b hb o q
  obtain ⟨_, o1, e1, d1⟩ := hl.mem hb
  rw [e] at e1
  cases e1
  obtain ⟨s2, e2⟩ := u b _ e d1
  exact ⟨s2, e2⟩
theorem obj_there {a : Addr} {o : HO} (x : ObjOk P w H h a o) : ∃ ob, h.get? a = some ob := by
  induction o with
  | lst xs => obtain ⟨_, _, _, _, e⟩ := x; exact ⟨_, e⟩
  | tup xs => obtain ⟨_, _, _, o, e, _⟩ := x; exact ⟨_, e⟩
  | dK kvs => obtain ⟨_, _, _, _, o, _, _, e, _⟩ := x; exact ⟨_, e⟩
  | dT kvs => obtain ⟨_, _, _, _, o, _, _, e, _⟩ := x; exact ⟨_, e⟩
  | set S n => obtain ⟨o, _, _, _, e, _⟩ := x; exact ⟨_, e⟩
  | ins C dx fs => obtain ⟨_, _, _, e, _⟩ := x; exact ⟨_, e⟩
  | own y => exact x
  | xd fs => obtain ⟨_, ⟨_, _, _, e, _⟩, _⟩ := x; exact ⟨_, e⟩
  | met f y => exact ⟨_, x⟩
  | rng lo hi => obtain ⟨_, _, _, e⟩ := x; exact ⟨_, e⟩
  | frz ob u ih => exact ⟨_, x.1⟩
  | tbl ps => exact ⟨_, x⟩
  | ext φ => exact x.2.1
end
abbrev VE : List Value := [.type "ValueError", .type "Exception", .type "BaseException", .type "object"]
section
variable {P : Program} {w : World} {K : PySem.W.Frag} {mg : Str → Option Value} {base : Heap} {N : List Str} {qual : Str} {scope : Scope} {f : Addr} {cdv : Value} {A : Around} {outer : List Env} {s₀ : Shared} {H₀ : Hp} {E : XK}
end
structure HasX (P : Program) (w : World) (K : PySem.W.Frag) (mg : Str → Option Value) (base : Heap) (k : Nat) (x : Str) (ps : List Str) (sp : Sp) : Prop where
  ex : ∃ (f : Addr) (fd : FuncData), FnOk P w K mg base (CX1 P w base) k f fd ps sp ∧ Binds K fd ps [] ∧ PySem.W.keepIn K (.ref f) = true ∧ mg x = some (.ref f)
/-- the caller's context within the suite that has caught the exception at a -/
def caught (X : Cx) (a : Addr) (oe : Obj) : Cx := { X with A := X.A.mark (some (.ref a)), calm := false, pn := (a, oe) :: X.pn }
section
variable {X : Cx} {pins : List (Addr × Obj)} {σ : L2.St} {H : Hp} {s : Shared} {a : Addr} {oe : Obj}
end
/-- y = f(..) under a try that catches a class by its name and ends with a return -/
def tTry (K : PySem.W.Frag) (C₁ : Addr) (i j : Nat) (sp : Sp) (ta : TA) (tb : Addr → Obj → TS) : TS := fun D σ H => ta σ H fun vs H1 => sp (vs ++ []) H1 (fun v H2 => D.nx (σ.set i (some v)) H2)
  (fun cls _ H2 => PySem.W.exmOne K cls (.ref C₁) = some true ∧ ∀ (a : Addr) (oe : Obj), oe.cls = cls → H2 a = none → tb a oe { nx := fun _ _ => False, rt := D.rt } (σ.set j (some (.ref a))) H2)
section
variable {X : Cx} {k i j : Nat} {f y n c : Str} {ps : List Str} {sp : Sp} {e : Expr} {es : List Expr} {ta : TA} {C₁ : Addr} {b₀ : Stmt} {suite : List Stmt} {tb : Addr → Obj → TS} {py p pos apos np hpos tpos : Pos}
end
/-! ### isinstance of a caught exception -/
structure ExF (K : PySem.W.Frag) (C : Addr) : Prop where
  ga : PySem.W.findIn K (.ref C) "__getattribute__" = some (some (.builtin "BaseException.__getattribute__"))
  gn : PySem.W.findIn K (.ref C) "__getattr__" = some none
  gc : PySem.W.findIn K (.ref C) "__class__" = some (some (.builtin "object.__class__"))
  mo : PySem.W.mroIn K C (.type "object") = some true
  mb : PySem.W.mroIn K C (.type "BaseException") = some true
section
variable {prog : Program} {w : World} {A : Around} {E : Value → Shared → Prop} {h : Heap} {g : Array GenState} {d : Drawn} {t : Nat} {os : OsState} {K : PySem.W.Frag} {a C : Addr} {o : Obj}
end
end Ow
/-! ## exceptions that pass a def on their way, and a try over several rows -/
namespace Ow
open PySem PySem.Spec PyProof.Rows L2
section
variable {P : Program} {w : World} {K : PySem.W.Frag} {mg : Str → Option Value} {base : Heap} {N : List Str} {qual : Str} {scope : Scope} {f : Addr} {cdv : Value} {A : Around} {outer : List Env} {s₀ : Shared} {H₀ : Hp} {E : XK}
end
/-- the context of a try's rows: an exception that leaves them lies as CX1 says, over a state of this frame -/
def pinned (X : Cx) (pins : List (Addr × Obj)) : Cx := { X with pn := X.pn ++ pins }
def tryCx (X : Cx) (pins : List (Addr × Obj)) (E : L2.St → XK) : Cx := (pinned X pins).wish fun e s' => ∃ (pins' : List (Addr × Obj)) (σ' : L2.St) (H : Hp) (s : Shared), Inv (pinned X pins) pins' σ' H s ∧ CX1 X.prog X.w X.base X.stack H s (E σ') e s'
section
variable {X : Cx} {pins pins' : List (Addr × Obj)} {σ : L2.St} {H : Hp} {s : Shared} {E : L2.St → XK}
def tCallT (sp : Sp) (E : L2.St → XK) (t : TA) : TE := fun σ H Q => t σ H fun vs H1 => sp (vs ++ []) H1 Q (E σ)
end
def wishT (K : PySem.W.Frag) (C₁ : Addr) (j : Nat) (ts : Addr → Obj → TS) (D : Ends) : L2.St → XK := fun σ' cls _ H2 => PySem.W.exmOne K cls (.ref C₁) = some true ∧ ∀ (a : Addr) (oe : Obj), oe.cls = cls → H2 a = none → ts a oe { nx := fun _ _ => False, rt := D.rt } (σ'.set j (some (.ref a))) H2
def tTryG (K : PySem.W.Frag) (C₁ : Addr) (j : Nat) (tb : (L2.St → XK) → TS) (ts : Addr → Obj → TS) : TS := fun D σ H => tb (wishT K C₁ j ts D) D σ H
/-- == and != of lists of ints, of any lengths -/
def rEqLI (K : PySem.W.Frag) (neg : Bool) : R2 := fun x y H Q => ∃ (p q : Addr) (as bs : List Int), x = .ref p ∧ y = .ref q ∧ SqL K H p (as.map V.int) ∧ SqL K H q (bs.map V.int) ∧ Q (.bl (if neg = true then !decide (as = bs) else decide (as = bs))) H
end Ow
/-! ## a try whose except suite goes on behind; methods of ints and lists -/
namespace Ow
open PySem PySem.Spec PyProof.Rows L2
theorem PS.nox {X : Cx} {st : Stmt} {t : TS} (h : PS X.nox st t) : PS X st t := fun pins s σ H D I hw =>
  wpAny_mono (h pins s σ H D (I.wish _) hw) (fun _ _ q => q.unwish) fun _ _ z => False.elim z
section
variable {X : Cx} {pins : List (Addr × Obj)} {σ : L2.St} {H : Hp} {s : Shared} {a : Addr} {oe : Obj} {j : Nat} {n : Str}
end
def endsK (j : Nat) (D : Ends) : Ends := { nx := fun σ H => D.nx (σ.set j none) H, rt := D.rt }
section
variable {X : Cx} {j : Nat} {n c : Str} {C₁ : Addr} {b₀ : Stmt} {suite : List Stmt} {tb : Addr → Obj → TS} {np hpos : Pos}
end
def wishK (K : PySem.W.Frag) (C₁ : Addr) (j : Nat) (ts : Addr → Obj → TS) (D : Ends) : L2.St → XK := fun σ' cls _ H2 => PySem.W.exmOne K cls (.ref C₁) = some true ∧ ∀ (a : Addr) (oe : Obj), oe.cls = cls → H2 a = none → ts a oe (endsK j D) (σ'.set j (some (.ref a))) H2
def tTryK (K : PySem.W.Frag) (C₁ : Addr) (j : Nat) (tb : (L2.St → XK) → TS) (ts : Addr → Obj → TS) : TS := fun D σ H => tb (wishK K C₁ j ts D) D σ H
/-- i.bit_length() -/
def rBits : V → List V → Hp → VK → Prop := fun x vs H Q => ∃ i : Int, x = .int i ∧ vs = [] ∧ Q (.int ((Builtin.Int.intBits i : Nat) : Int)) H
theorem mt_bits {X : Cx} : MtR X "int.bit_length" rBits := by
  intro pins s σ H x vs v us Q I rx rv h
  obtain ⟨i, rfl, rfl, q⟩ := h
  obtain ⟨t, rfl⟩ := rx
  cases rv.zero
  exact call_int_bit_length ⟨.int _, H, I.tok _, ⟨_, rfl⟩, q⟩
theorem ty_int {K : PySem.W.Frag} {i : Int} {H : Hp} : tyV K "int" (.int i) H := rfl
/-- xs.insert(0, y) -/
def rIns0 : V → List V → Hp → VK → Prop := fun x vs H Q => ∃ l xs y, x = .ref l ∧ vs = [.int 0, y] ∧ H l = some (.lst xs) ∧ xs.length < sizeLine ∧ Q .non (upd H l (.lst (y :: xs)))
end Ow
/-! ## sets of ints: set(list), walked in any order, sorted -/
namespace Ow
open PySem PySem.Spec PyProof.Rows L2
/-! ### a set's table: its places rise, where it is a plain one -/
def Rise (xs : Array Nat) : Prop := ∀ i j, i < j → j < xs.size → xs.getD i 0 < xs.getD j 0
def Good (t : SetTable) : Prop := t.plain = true → Rise t.place
end Ow
namespace Ow
open PySem PySem.Spec PyProof.Rows L2
def keyI (e : Int × Value) : Int := match e.2 with | .int k _ => k | _ => 0
def AllI (l : List (Int × Value)) : Prop := ∀ e ∈ l, ∃ k tk, e = (hashInt k, Value.int k tk)
/-- an object that is a set of ints, in the order of its places -/
def SetI (w : World) (o : Obj) (ks : List Int) : Prop := ∃ es ep t, o = ⟨.type "set", none, .set es ep t, #[]⟩ ∧ AllI es.toList ∧ es.toList.map keyI = ks ∧ ks.Nodup ∧ es.size < scanBound ∧ t.fits es.size = true ∧ (w.params.followText "set-order" = false → t.led = true) ∧ Good t
theorem AllI.push {l l' : List (Int × Value)} {k : Int} {tk : Tok} (h : AllI l) (p : List.Perm l' (l ++ [(hashInt k, Value.int k tk)])) : AllI l' := fun e he => by
  rcases List.mem_append.mp (p.mem_iff.mp he) with z | z
  · exact h e z
  · rw [List.mem_singleton] at z
    exact ⟨k, tk, z⟩
section
variable {prog : Program} {w : World} {A : Around} {E : Value → Shared → Prop} {s : Shared} {a : Addr} {o : Obj} {ks : List Int} {k : Int} {tk : Tok}
end
end Ow
namespace Ow
open PySem PySem.Spec PyProof.Rows L2
/-- the set at S holds just the first i values -/
def Upto (w : World) (val : Nat → Int) (i : Nat) (S : Addr) (h : Heap) : Prop := ∃ o ks, h.get? S = some o ∧ SetI w o ks ∧ ks.length ≤ i ∧ ∀ x, x ∈ ks ↔ ∃ j, j < i ∧ val j = x
section
variable {prog : Program} {w : World} {A : Around} {R : Result → Shared → Prop} {I : Addr} {fp wr : List Addr} {G : Array GenState → Array GenState → Prop} {n : Nat} {P : Nat → Value → Prop} {St : Nat → Shared → Prop}
end
section
variable {prog : Program} {w : World} {A : Around} {E : Value → Shared → Prop} {s : Shared}
end
end Ow
namespace Ow
open PySem PySem.Spec PyProof.Rows L2
/-- the iterator of a set -/
def itO (first : Value) (i : Nat) (S : Addr) (n ep : Nat) : Obj := ⟨.type "set_iterator", none, .fields #[first, .int i 0, .ref S, .int n 0, .int ep 0], #[]⟩
section
variable {prog : Program} {w : World} {A : Around} {E : Value → Shared → Prop} {s : Shared} {S I : Addr} {es : Array (Int × Value)} {ep : Nat} {t : SetTable}
end
end Ow
namespace Ow
open PySem PySem.Spec PyProof.Rows L2
section
variable {prog : Program} {w : World} {A : Around} {E : Value → Shared → Prop} {s : Shared} {S I : Addr} {es : Array (Int × Value)} {ep : Nat} {t : SetTable}
abbrev stO (es : Array (Int × Value)) (ep : Nat) (t : SetTable) : Obj := ⟨.type "set", none, .set es ep t, #[]⟩
end
end Ow
namespace Ow
open PySem PySem.Spec PyProof.Rows L2
/-- what a walk over a set yields: its elements, in some order -/
def Yields (es : Array (Int × Value)) (vs : List Value) : Prop := List.Perm vs (es.toList.map (·.2))
section
variable {prog : Program} {w : World} {A : Around} {E : Value → Shared → Prop} {s : Shared} {S : Addr} {es : Array (Int × Value)} {ep : Nat} {t : SetTable}
end
end Ow
namespace Ow
open PySem PySem.Spec PyProof.Rows L2
abbrev eL : Obj := { cls := .type "list", data := .seq ([] : List Value).toArray }
section
variable {prog : Program} {w : World} {A : Around} {E : Value → Shared → Prop} {s : Shared} {S : Addr} {es : Array (Int × Value)} {ep : Nat} {t : SetTable}
end
end Ow
namespace Ow
open PySem PySem.Spec PyProof.Rows L2
def intOf : Value → Int | .int k _ => k | _ => 0
section
variable {prog : Program} {w : World} {A : Around} {E : Value → Shared → Prop} {s : Shared} {S : Addr} {o : Obj} {ks : List Int}
end
/-! ### sets and sorted over the layer -/
/-- a set of ints: what is in it -/
def sI (w : World) (p : Addr) (ns : List Int) : HO := .ext fun h => ∃ o ks, h.get? p = some o ∧ SetI w o ks ∧ (∀ x, x ∈ ks ↔ x ∈ ns) ∧ ks.length ≤ ns.length
theorem vals_ints : ∀ {ns : List Int} {us : List Value}, Vals (ns.map V.int) us → IntsAre us ns
  | [], us, r => by cases r; exact .nil
  | n :: ns, us, r => by
    cases r with
    | cons h r =>
      obtain ⟨t, rfl⟩ := h
      exact .cons n t (vals_ints r)
theorem ints_vals {us : List Value} {ns : List Int} (h : IntsAre us ns) : Vals (ns.map V.int) us := by
  induction h with
  | nil => exact .nil
  | cons n t _ ih => exact .cons ⟨t, rfl⟩ ih
theorem strict {ns : List Int} (h : ns.Pairwise (· ≤ ·)) (nd : ns.Nodup) : ns.Pairwise (· < ·) := by
  refine (h.and nd).imp fun {a b} ⟨h1, h2⟩ => ?_
  exact Int.lt_iff_le_and_ne.mpr ⟨h1, h2⟩
/-- sorted(list of ints) -/
theorem call_sorted_list {X : Cx} : CallR X (.builtin "sorted") (fun xs H Q => ∃ (p : Addr) (ns : List Int), xs = [.ref p] ∧ SqL X.K H p (ns.map V.int) ∧ ns.length < 64 ∧ ∀ (q : Addr) (zs : List Int), H q = none → zs.Pairwise (· ≤ ·) → zs.Perm ns → Q (.ref q) (upd H q (.lst (zs.map V.int)))) := by
  intro pins s σ H xs us Q I r h
  obtain ⟨p, ns, rfl, hp, hn, k⟩ := h
  obtain ⟨u, rfl, ru⟩ := r.one
  cases (show u = Value.ref p from ru)
  obtain ⟨its, rv, pl, _⟩ := I.list hp
  have hi := vals_ints rv
  have le : its.length = ns.length := by have := rv.length; rw [List.length_map] at this; exact this.symm
  refine sorted_ints pl.isList hi (by omega) fun out zs iz pm pw => ?_
  obtain ⟨n, gq⟩ := sortedAll_at s.heap its out
  have lz : zs.length = ns.length := pm.length_eq
  have fr : H (s.heap.objs.size + 1) = none := I.hok.fresh (Nat.le_succ _)
  have I2 := I.laid (a := s.heap.objs.size + 1) (o := .lst (zs.map V.int)) (h' := sortedAll s.heap its out) (t' := s.toks) (fun b u q => sortedAll_old q) (Nat.le_succ _) ⟨by rw [List.length_map, sizeLine_eq]; omega, out.toList, n, ints_vals iz, gq⟩
  exact ⟨.ref _, _, I2, rfl, k _ zs fr pw pm⟩
end Ow
namespace Ow
open PySem PySem.Spec PyProof.Rows L2
theorem Has.imp {P : Program} {w : World} {K : PySem.W.Frag} {mg : Str → Option Value} {base : Heap} {k : Nat} {x : Str} {ps : List Str} {sp sp' : Sp} (h : Has P w K mg base k x ps sp) (i : ∀ vs H Q E, sp' vs H Q E → sp vs H Q E) : Has P w K mg base k x ps sp' := by
  obtain ⟨f, fd, F, b, kp, m⟩ := h.ex
  exact ⟨f, fd, F.imp i, b, kp, m⟩
/-! ### an empty dict -/
def tDNew : TE := fun _ H Q => ∀ p, H p = none → Q (.ref p) (upd H p (.dK []))
/-! ### things of any kind -/
inductive Th (H : Hp) : V → Prop where
  | int (i : Int) : Th H (.int i)
  | bl (b : Bool) : Th H (.bl b)
  | str (x : Str) : Th H (.str x)
  | non : Th H .non
  | lst {a : Addr} {xs : List V} (h : H a = some (.lst xs)) : Th H (.ref a)
  | tup {a : Addr} {xs : List V} (h : H a = some (.tup xs)) : Th H (.ref a)
  | dct {a : Addr} {kvs : List (Key × V)} (h : H a = some (.dK kvs)) : Th H (.ref a)
theorem Th.same {H H' : Hp} {x : V} (t : Th H x) (s : Same H H') : Th H' x := by
  cases t with
  | int i => exact .int i
  | bl b => exact .bl b
  | str x => exact .str x
  | non => exact .non
  | lst h => exact .lst (s _ _ h)
  | tup h => exact .tup (s _ _ h)
  | dct h => exact .dct (s _ _ h)
theorem Th.updN {H : Hp} {x : V} {l : Addr} {o : HO} (t : Th H x) (n : x ≠ .ref l) : Th (upd H l o) x := by
  cases t with
  | int i => exact .int i
  | bl b => exact .bl b
  | str x => exact .str x
  | non => exact .non
  | lst h => exact .lst (by rw [upd_ne (fun z => n (by rw [z]))]; exact h)
  | tup h => exact .tup (by rw [upd_ne (fun z => n (by rw [z]))]; exact h)
  | dct h => exact .dct (by rw [upd_ne (fun z => n (by rw [z]))]; exact h)
theorem Th.exc {H H' : Hp} {x : V} {p : Addr} (t : Th H x) (s : SameX p H H') (hp : ∃ xs, H' p = some (.lst xs)) : Th H' x := by
  obtain ⟨ys, hp⟩ := hp
  cases t with
  | int i => exact .int i
  | bl b => exact .bl b
  | str x => exact .str x
  | non => exact .non
  | @lst a xs h =>
    by_cases e : a = p
    · rw [e]; exact .lst hp
    · exact .lst (s _ _ e h)
  | @tup a xs h =>
    by_cases e : a = p
    · rw [e]; exact .lst hp
    · exact .tup (s _ _ e h)
  | @dct a xs h =>
    by_cases e : a = p
    · rw [e]; exact .lst hp
    · exact .dct (s _ _ e h)
def isI : V → Bool
  | .int _ => true
  | _ => false
def btw (x : V) (lo hi : Int) : Bool := match x with
  | .int i => decide (lo ≤ i) && decide (i ≤ hi)
  | _ => false
def spWholeG : Sp := fun vs H Q _ => ∃ x : V, vs = [x] ∧ Th H x ∧ Q (.bl (isI x)) H
def spBtwG : Sp := fun vs H Q _ => ∃ (x : V) (lo hi : Int), vs = [x, .int lo, .int hi] ∧ Th H x ∧ Q (.bl (btw x lo hi)) H
def spWordG : Sp := fun vs H Q _ => ∃ (w : Int) (x : V), vs = [.int w, x] ∧ 4 ≤ w ∧ w ≤ 32 ∧ Th H x ∧ Q (.bl (btw x 0 (1 * 2 ^ w.toNat - 1))) H
/-- a list that grows, of things, beside a box -/
structure Tg (p l : Addr) (H0 H : Hp) (xs : List V) : Prop where
  at_ : H l = some (.lst xs)
  th : ∀ y ∈ xs, Th H y ∧ y ≠ .ref l
  sx : SameX p H0 H
  fr : H0 l = none
  np : l ≠ p
theorem Tg.push {p l : Addr} {H0 H : Hp} {xs : List V} (t : Tg p l H0 H xs) {y : V} (h : Th H y) (n : y ≠ .ref l) : Tg p l H0 (upd H l (.lst (xs ++ [y]))) (xs ++ [y]) :=
  ⟨upd_same, fun z hz => by
    rcases List.mem_append.mp hz with hz | hz
    · exact ⟨(t.th z hz).1.updN (t.th z hz).2, (t.th z hz).2⟩
    · rw [List.mem_singleton.mp hz]; exact ⟨h.updN n, n⟩, fun b o hb e => by rw [upd_ne (ne_of_none e t.fr)]; exact t.sx b o hb e, t.fr, t.np⟩
theorem Tg.exc {p l : Addr} {H0 H H' : Hp} {xs : List V} (t : Tg p l H0 H xs) (b : ∃ ys, H' p = some (.lst ys)) (x : SameX p H H') : Tg p l H0 H' xs :=
  ⟨x _ _ t.np t.at_, fun y hy => ⟨(t.th y hy).1.exc x b, (t.th y hy).2⟩, t.sx.trans x, t.fr, t.np⟩
theorem Tg.new {p l : Addr} {H0 H H' : Hp} {xs : List V} (t : Tg p l H0 H xs) (s : Same H H') : Tg p l H0 H' xs :=
  ⟨s _ _ t.at_, fun y hy => ⟨(t.th y hy).1.same s, (t.th y hy).2⟩, t.sx.trans (SameX.of s), t.fr, t.np⟩
end Ow
/-! ## A list comprehension with one test -/
namespace Ow
open PySem PySem.Spec PyProof.Rows L2
def tCompT (wi : TI) (tc : TT) (te : TE) (cap : L2.St → L2.St) : TE := fun σ H Q => wi σ H fun J H1 => ∀ D, H1 D = none → ∃ W : Nat → Nat → Hp → Prop, (∃ m, W 0 m (upd H1 D (.lst []))) ∧ ∀ i m H, W i m H →
  (J.stop i H ∧ Q (.ref D) H) ∨ (J.go i H ∧ ∀ x H', J.yld i H x H' → tc (some x :: cap σ) H' fun b HA => if b = true then te (some x :: cap σ) HA (fun y H2 => ∃ ys, H2 D = some (.lst ys) ∧ ys.length < sizeLine ∧ ∃ m', m' < m ∧ W (i + 1) m' (upd H2 D (.lst (ys ++ [y])))) else ∃ m', m' < m ∧ W (i + 1) m' HA)
section
variable {X : Cx} {elt iter cc : Expr} {x : Str} {px pos : Pos} {scope : Scope} {wi : TI} {tc : TT} {te : TE} {N : List Str} {cl : List (Str × Addr)} {cap : L2.St → L2.St}
end
/-- one over a list -/
theorem compT_list {K : PySem.W.Frag} {a D : Addr} {xs : List V} {tc' : TT} {te' : TE} {tl : L2.St} {G : Hp → Prop} {H1 : Hp} (Pv : Nat → Hp → Prop) (h0 : Pv 0 (upd H1 D (.lst []))) (hl : ∀ i H, i ≤ xs.length → Pv i H → SqL K H a xs)
    (hs : ∀ i x H, xs[i]? = some x → Pv i H → tc' (some x :: tl) H fun b HA => if b = true then te' (some x :: tl) HA (fun y H2 => ∃ ys, H2 D = some (.lst ys) ∧ ys.length < sizeLine ∧ ∃ m', m' < xs.length - i ∧ (m' = xs.length - (i + 1) ∧ i + 1 ≤ xs.length ∧ Pv (i + 1) (upd H2 D (.lst (ys ++ [y]))))) else ∃ m', m' < xs.length - i ∧ (m' = xs.length - (i + 1) ∧ i + 1 ≤ xs.length ∧ Pv (i + 1) HA))
    (hd : ∀ H, Pv xs.length H → G H) :
    ∃ W : Nat → Nat → Hp → Prop, (∃ m, W 0 m (upd H1 D (.lst []))) ∧ ∀ i m H, W i m H →
      ((Itl K a).stop i H ∧ G H) ∨ ((Itl K a).go i H ∧ ∀ x H', (Itl K a).yld i H x H' → tc' (some x :: tl) H' fun b HA => if b = true then te' (some x :: tl) HA (fun y H2 => ∃ ys, H2 D = some (.lst ys) ∧ ys.length < sizeLine ∧ ∃ m', m' < m ∧ W (i + 1) m' (upd H2 D (.lst (ys ++ [y])))) else ∃ m', m' < m ∧ W (i + 1) m' HA) := by
  refine ⟨fun i m H => m = xs.length - i ∧ i ≤ xs.length ∧ Pv i H, ⟨xs.length, by simp, Nat.zero_le _, h0⟩, ?_⟩
  rintro i m H ⟨rfl, hi, p⟩
  have q := hl i H hi p
  by_cases hlt : i < xs.length
  · refine .inr ⟨⟨xs, xs[i], q, by simp [hlt]⟩, fun x H' y => ?_⟩
    obtain ⟨e, y⟩ := y
    subst e
    exact hs i x _ (y xs q) p
  · have e : i = xs.length := by omega
    subst e
    exact .inl ⟨⟨xs, q, Nat.le_refl _⟩, hd H p⟩
end Ow
/-! ### list(range(a, b)) -/
namespace Ow
open PySem PySem.Spec PyProof.Rows L2
section
variable {X : Cx}
def fromTo (a b : Int) : List V := (List.range (b - a).toNat).map fun k : Nat => V.int (a + (k : Int))
def tRange2 (ta : TA) : TE := fun σ H Q => ta σ H fun vs H1 => ∃ i j : Int, vs = [.int i, .int j] ∧ ∀ p, H1 p = none → Q (.ref p) (upd H1 p (.rng i j))
end
end Ow
/-! ### a method called within a comprehension's block; isinstance of an own class -/
namespace Ow
open PySem PySem.Spec PyProof.Rows L2
def tMethQ (P : Program) (w : World) (K : PySem.W.Frag) (mg : Str → Option Value) (base : Heap) (k : Nat) (m : Str) (ta : TE) (t : TA) : TE := fun σ H Q => ta σ H fun x H1 => ∃ (a C dx : Addr) (fs : List (Str × V)) (ps : List Str) (sp : Sp), x = .ref a ∧ H1 a = some (.ins C dx fs) ∧ fs.lookup m = none ∧
  MHas P w K mg base k C m ps sp ∧ t σ H1 fun vs H2 => sp (x :: (vs ++ [])) H2 Q E0
theorem kit_of {K : PySem.W.Frag} {C D : Addr} (h1 : PySem.W.isClsIn K D = true) (h2 : PySem.W.typeIn K (.ref D) = some (.type "type")) (h3 : PySem.W.mroIn K C (.ref D) = some true) : PySem.W.kitOne K (.ref C) (.ref D) = some true := by
  unfold PySem.W.kitOne
  split
  · rfl
  · unfold PySem.W.kitCls
    have e : ((PySem.W.clsIn K D).isSome && PySem.W.typeIn K (.ref D) == some (.type "type")) = true := by
      rw [h2]
      have h1' : (PySem.W.clsIn K D).isSome = true := h1
      rw [h1', Bool.true_and]
      exact beq_self_eq_true _
    show (if ((PySem.W.clsIn K D).isSome && PySem.W.typeIn K (.ref D) == some (.type "type")) = true then PySem.W.subIn K (.ref C) (.ref D) else none) = _
    rw [if_pos e]
    exact h3
end Ow
/-! common19: for a, b in zip(s, t) of two lists. -/
namespace L2
open PySem PySem.Spec PyProof.Rows
section
variable {X : Cx}
def ItzL (K : PySem.W.Frag) (a b : Addr) : It :=
  ⟨fun i H => ∃ xs ys x y, SqL K H a xs ∧ SqL K H b ys ∧ xs[i]? = some x ∧ ys[i]? = some y,
   fun i H v H' => ∀ xs ys x y, SqL K H a xs → SqL K H b ys → xs[i]? = some x → ys[i]? = some y → ∃ T, v = .ref T ∧ H T = none ∧ H' = upd H T (.tup [x, y]),
   fun i H => ∃ xs ys, SqL K H a xs ∧ SqL K H b ys ∧ xs.length ≤ i⟩
theorem turn_zipL {P : Program} {w : World} {K : PySem.W.Frag} {elts : List Expr} {x1} {tp : Pos} {z TI TO i1 i2 a b : Addr} (D : ZipApart z TI TO i1 i2 a b) :
    Turn P w K (.Tuple elts x1 tp) (ItzL K a b) [z, TO, i1, i2, TI] z (fun i h => IsZip h z TI TO .none ∧ IsPair h TI (.ref i1) (.ref i2) ∧ (∃ u v, IsPair h TO u v) ∧ h.IsListIter i1 a i ∧ h.IsListIter i2 b i) where
  mem := by simp
  obj := fun i h st c hc => by
    obtain ⟨q1, q2, ⟨u, v, q3⟩, ⟨o1, e1, _, d1⟩, ⟨o2, e2, _, d2⟩⟩ := st
    simp only [List.mem_cons, List.not_mem_nil, or_false] at hc
    rcases hc with rfl | rfl | rfl | rfl | rfl
    · exact ⟨_, q1, fun v z => by cases z⟩
    · exact ⟨_, q3, fun v z => by cases z⟩
    · exact ⟨_, e1, fun v z => by rw [d1] at z; cases z⟩
    · exact ⟨_, e2, fun v z => by rw [d2] at z; cases z⟩
    · exact ⟨_, q2, fun v z => by cases z⟩
  keep := fun i h h' st k => by
    obtain ⟨q1, q2, ⟨u, v, q3⟩, q4, q5⟩ := st
    exact ⟨k z (by simp) _ q1, k TI (by simp) _ q2, ⟨u, v, k TO (by simp) _ q3⟩, q4.at fun o e => k i1 (by simp) o e, q5.at fun o e => k i2 (by simp) o e⟩
  item := by
    intro X hP hw hK hc i pins s σ H E I hf st hg
    subst hP hw hK
    obtain ⟨xs, ys, x, y, ha, hb, hx, hy⟩ := hg
    obtain ⟨q1, q2, ⟨u, v, q3⟩, q4, q5⟩ := st
    obtain ⟨its, rv, p, _⟩ := I.list ha
    obtain ⟨jts, rw', p', _⟩ := I.list hb
    obtain ⟨ux, hux, rx⟩ := rv.get hx
    obtain ⟨uy, huy, ry⟩ := rw'.get hy
    refine wpAny_pyNext_zip_item D q1 q2 q3 q4 q5 (show s.heap.IsList a its.toArray from p.isList) (show s.heap.IsList b jts.toArray from p'.isList) (x := ux) (y := uy) (by simpa using hux) (by simpa using huy) fun h' z1 o1 v1 v2 pr sz all => ?_
    refine ⟨_, rfl, wpAny_letOwnedTupleGo_zip z1 fun h'' z2 sb => ?_⟩
    have nz : ∀ c o, c ≠ z → h'.get? c = some o → h''.get? c = some o := fun c o n e => sb.extBut c o n e
    have zl : z < s.heap.objs.size := Heap.lt_size q1
    have hT : H s.heap.objs.size = none := I.hok.fresh (Nat.le_refl _)
    have prT : IsPair h'' s.heap.objs.size ux uy := nz _ _ (Nat.ne_of_gt zl) pr
    have kept : ∀ c o, c ∉ [z, TO, i1, i2] → s.heap.get? c = some o → h''.get? c = some o := fun c o n e => by
      simp only [List.mem_cons, List.not_mem_nil, or_false, not_or] at n
      exact nz c o n.1 (all c o n.1 n.2.1 n.2.2.1 n.2.2.2 e)
    have sub : ∀ c ∈ [z, TO, i1, i2], c ∈ [z, TO, i1, i2, TI] := fun c h => by
      simp only [List.mem_cons, List.not_mem_nil, or_false] at h ⊢
      rcases h with h | h | h | h <;> simp [h]
    have trk : ∀ c u, H c = some u → c ∉ [z, TO, i1, i2] := fun c u e n => by
      have := (hf c (sub c n)).1
      rw [e] at this; cases this
    refine ⟨.ref s.heap.objs.size, upd H s.heap.objs.size (.tup [x, y]), ?_, rfl, fun xs' ys' x' y' ha' hb' hx' hy' => ?_, ⟨z2, nz _ _ D.TIz (all _ _ D.TIz D.TITO D.TIi1 D.TIi2 q2), ⟨_, _, nz _ _ D.TOz o1⟩, v1.at fun o e => nz _ o D.i1z e, v2.at fun o e => nz _ o D.i2z e⟩, fun c hc => ?_⟩
    · refine Inv.step (s := s) (h' := h'') (g' := s.gens) (d' := s.drawn) (t' := s.toks) (ch := [z, TO, i1, i2]) I (fun c n => let q := hf c (sub c n); ⟨q.2.2.2.1, q.2.1, q.2.2.2.2.1, q.2.2.2.2.2⟩) (fun c o _ _ n e _ => kept c o n e) (fun c o _ _ n e _ => ⟨o.slots, kept c o n e⟩)
        (fun c o _ e n => by rw [upd_ne (Nat.ne_of_lt (Heap.lt_size e))]; exact n) (fun c o n e => ⟨o, kept c o n e⟩) (fun c zs e => by rw [upd_ne (ne_of_none e hT)]; exact e) (fun c o u e => by rw [upd_ne (ne_of_none e hT)]; exact e) (fun c ps e => ⟨#[], by rw [upd_ne (ne_of_none e hT), e]; simp⟩) (fun m hm => ?_) (fun c u e => ?_) I.bare
      · obtain ⟨o, es, ep, ho, r⟩ := hm
        refine ⟨o, es, ep, kept _ o (fun n => ?_) ho, r⟩
        exact (hf _ (sub _ n)).2.1 rfl
      · by_cases q : c = s.heap.objs.size
        · subst q
          rw [upd_same] at e; cases e
          exact ⟨by show 2 ≤ sizeLine; decide, [ux, uy], .cons rx (.cons ry .nil), ⟨_, prT, rfl, _, rfl⟩⟩
        · rw [upd_ne q] at e
          refine (I.hok c u e).stay (fun c' v hc' e' => kept c' v ?_ e') (fun c' e' => by rw [upd_ne (ne_of_none e' hT)]; exact e') fun c' zs e' => by rw [upd_ne (ne_of_none e' hT)]; exact e'
          rcases hc' with z' | z'
          · rw [z']; exact trk c u e
          · exact trk c' _ z'
    · rw [I.list_inj ha' ha] at hx'
      rw [I.list_inj hb' hb] at hy'
      rw [hx] at hx'; rw [hy] at hy'
      cases hx'; cases hy'
      exact ⟨_, rfl, hT, rfl⟩
    · have q := hf c hc
      have hl : c ≠ s.heap.objs.size := by
        simp only [List.mem_cons, List.not_mem_nil, or_false] at hc
        obtain ⟨_, e4, _⟩ := q4
        obtain ⟨_, e5, _⟩ := q5
        rcases hc with rfl | rfl | rfl | rfl | rfl
        · exact Nat.ne_of_lt zl
        · exact Nat.ne_of_lt (Heap.lt_size q3)
        · exact Nat.ne_of_lt (Heap.lt_size e4)
        · exact Nat.ne_of_lt (Heap.lt_size e5)
        · exact Nat.ne_of_lt (Heap.lt_size q2)
      rw [upd_ne hl]
      exact q.1
  done := by
    intro X hP hw hK hc i pins s σ H E I hf st hg
    subst hP hw hK
    obtain ⟨xs, ys, ha, hb, hx⟩ := hg
    obtain ⟨q1, q2, ⟨u, v, q3⟩, q4, q5⟩ := st
    obtain ⟨its, rv, p, _⟩ := I.list ha
    obtain ⟨jts, rw', p', _⟩ := I.list hb
    have hl := rv.length
    have sub : ∀ c ∈ [z, TO, i1, i2], c ∈ [z, TO, i1, i2, TI] := fun c h => by
      simp only [List.mem_cons, List.not_mem_nil, or_false] at h ⊢
      rcases h with h | h | h | h <;> simp [h]
    refine wpAny_pyNext_zip_end (I.ok.hd hc) D q1 q2 q3 q4 q5 (show s.heap.IsList a its.toArray from p.isList) (show s.heap.IsList b jts.toArray from p'.isList) (.inl (by simp; omega)) fun h' all => ⟨rfl, ?_⟩
    have kept : ∀ c o, c ∉ [z, TO, i1, i2] → s.heap.get? c = some o → h'.get? c = some o := fun c o n e => by
      simp only [List.mem_cons, List.not_mem_nil, or_false, not_or] at n
      exact all c o n.1 n.2.1 n.2.2.1 n.2.2.2 e
    have trk : ∀ c u, H c = some u → c ∉ [z, TO, i1, i2] := fun c u e n => by
      have := (hf c (sub c n)).1
      rw [e] at this; cases this
    refine Inv.step (s := s) (h' := h') (g' := s.gens) (d' := s.drawn) (t' := s.toks) (ch := [z, TO, i1, i2]) I (fun c n => let q := hf c (sub c n); ⟨q.2.2.2.1, q.2.1, q.2.2.2.2.1, q.2.2.2.2.2⟩) (fun c o _ _ n e _ => kept c o n e) (fun c o _ _ n e _ => ⟨o.slots, kept c o n e⟩)
        (fun c o _ e n => n) (fun c o n e => ⟨o, kept c o n e⟩) (fun c zs e => e) (fun c o u e => e) (fun c ps e => ⟨#[], by rw [e]; simp⟩) (fun m hm => ?_) (fun c u e => ?_) I.bare
    · obtain ⟨o, es, ep, ho, r⟩ := hm
      exact ⟨o, es, ep, kept _ o (fun n => (hf _ (sub _ n)).2.1 rfl) ho, r⟩
    · refine (I.hok c u e).stay (fun c' v hc' e' => kept c' v ?_ e') (fun c' e' => e') fun c' zs e' => e'
      rcases hc' with z' | z'
      · rw [z']; exact trk c u e
      · exact trk c' _ z'
  self := fun _ _ _ _ _ st h => wpAny_pyIter_zip st.1 h
def iZipL (K : PySem.W.Frag) (ta : TA) : TI := fun σ H R => ta σ H fun vs H1 => ∃ a b xs ys, vs = [.ref a, .ref b] ∧ SqL K H1 a xs ∧ SqL K H1 b ys ∧ R (ItzL K a b) H1
theorem pi_zipL {e1 e2 : Expr} {ta : TA} {p pos : Pos} {elts : List Expr} {x1} {tp : Pos} (hg : Gl X "zip") (hm : X.mg "zip" = none) (ha : PA X [e1, e2] ta) (hs : starEach [e1, e2] X.env = (false, eval e1 X.env) :: starEach [e2] X.env := by rfl) (hpl : (backTo pos (starEach [e2] X.env)).any (·.1) = false := by rfl) :
    PI X (.Tuple elts x1 tp) (.Call (.Name "zip" p) [e1, e2] [] pos) (iZipL X.K ta) := by
  intro pins s σ H R I h
  refine Call_ (ld_blt I hg hm PyProof.Rows.boot_zip (PyProof.Rows.callWith_type1 (thn (ha pos pins s σ H _ I h) fun us s1 ⟨vs, H1, I1, r1, q1⟩ => ?_) hs hpl))
  obtain ⟨a, b, xs, ys, e, hqa, hqb, q⟩ := q1
  subst e
  cases r1 with
  | cons r rr =>
    cases rr with
    | cons r' rr' =>
      cases rr'
      cases r
      cases r'
      obtain ⟨its, rv, pl, _⟩ := I1.list hqa
      obtain ⟨jts, rw', pl', _⟩ := I1.list hqb
      refine call_zip_2 (show s1.heap.IsList a its.toArray from pl.isList) (show s1.heap.IsList b jts.toArray from pl'.isList) fun h' z1 z2 z3 z4 z5 _ z6 => ?_
      have I2 : Inv X pins σ H1 { s1 with heap := h' } := I1.kept (t' := s1.toks) z6
      have la : a < s1.heap.objs.size := by obtain ⟨o, e, _⟩ := pl.isList; exact Heap.lt_size e
      have lb : b < s1.heap.objs.size := by obtain ⟨o, e, _⟩ := pl'.isList; exact Heap.lt_size e
      refine wpAny_pyIter_zip z1 ?_
      refine ⟨s1.heap.objs.size + 4, [s1.heap.objs.size + 4, s1.heap.objs.size + 3, s1.heap.objs.size, s1.heap.objs.size + 1, s1.heap.objs.size + 2], _, _, H1, rfl, I2, turn_zipL (zipApart_new la lb), ⟨z1, z2, ⟨_, _, z3⟩, z4, z5⟩, fun c hc => ?_, q⟩
      have le : s1.heap.objs.size ≤ c := by
        simp only [List.mem_cons, List.not_mem_nil, or_false] at hc
        rcases hc with h | h | h | h | h <;> rw [h]
        · exact Nat.le_add_right _ _
        · exact Nat.le_add_right _ _
        · exact Nat.le_refl _
        · exact Nat.le_add_right _ _
        · exact Nat.le_add_right _ _
      exact I1.fpOk le (I1.hok.fresh le)
theorem for_zipL {K : PySem.W.Frag} {a b : Addr} {xs ys : List V} {g : TG} {tb : TS} {D : Ends} {σ : L2.St} {H : Hp} (Pv : Nat → L2.St → Hp → Prop) (h0 : Pv 0 σ H) (hl : ∀ i σ H, Pv i σ H → SqL K H a xs ∧ SqL K H b ys) (hle : xs.length = ys.length)
    (hs : ∀ i x y σ H, xs[i]? = some x → ys[i]? = some y → Pv i σ H → ∀ T, H T = none → g (.ref T) σ (upd H T (.tup [x, y])) fun σ2 H2 => tb { D with nx := Pv (i + 1), ct := Pv (i + 1), bk := D.nx } σ2 H2) (hd : ∀ σ H, Pv xs.length σ H → D.nx σ H) :
    ∃ W : Nat → Nat → L2.St → Hp → Prop, (∃ m, W 0 m σ H) ∧ ∀ i m σ H, W i m σ H →
      ((ItzL K a b).stop i H ∧ D.nx σ H) ∨ ((ItzL K a b).go i H ∧ ∃ N : L2.St → Hp → Prop, (∀ σ' H', N σ' H' → ∃ m', m' < m ∧ W (i + 1) m' σ' H') ∧ ∀ x H', (ItzL K a b).yld i H x H' → g x σ H' fun σ2 H2 => tb { D with nx := N, ct := N, bk := D.nx } σ2 H2) := by
  refine ⟨fun i m σ H => m = xs.length - i ∧ i ≤ xs.length ∧ Pv i σ H, ⟨xs.length, by simp, Nat.zero_le _, h0⟩, ?_⟩
  rintro i m σ H ⟨rfl, hi, p⟩
  obtain ⟨qa, qb⟩ := hl i σ H p
  by_cases hlt : i < xs.length
  · have ex : xs[i]? = some xs[i] := List.getElem?_eq_getElem hlt
    have ey : ys[i]? = some (ys[i]'(by omega)) := List.getElem?_eq_getElem (by omega)
    refine .inr ⟨⟨xs, ys, _, _, qa, qb, ex, ey⟩, Pv (i + 1), fun σ' H' p' => ⟨xs.length - (i + 1), by omega, rfl, hlt, p'⟩, fun x H' y => ?_⟩
    obtain ⟨T, rfl, hT, rfl⟩ := y xs ys _ _ qa qb ex ey
    exact hs i _ _ σ H ex ey p T hT
  · have e : i = xs.length := by omega
    subst e
    exact .inl ⟨⟨xs, ys, qa, qb, Nat.le_refl _⟩, hd σ H p⟩
end
end L2
/-! ## a name put to a comprehension with one test -/
namespace Ow
open PySem PySem.Spec PyProof.Rows L2
section
variable {X : Cx} {elt iter cc : Expr} {x : Str} {px pos : Pos} {scope : Scope} {wi : TI} {tc : TT} {te : TE} {N : List Str} {cl : List (Str × Addr)} {cap : L2.St → L2.St}
/-- name = [..]: the store comes ahead of letting the block's names go -/
theorem ps_compT {i : Nat} {y : Str} {py spos : Pos} (hNX : X.N.Nodup) (hiy : X.N[i]? = some y) (hly : Loc X.env.scope y) (hsw : swapsWith (.ListComp elt [⟨.Name x px, iter, [cc], 0⟩] scope pos) (some (.Name y py)) spos.line X.env = pure true) (hc : X.calm = true) (hclos : closureFor scope X.env = pure cl) (hsub : ∀ n c, cl.lookup n = some c → X.env.cells.lookup n = some c)
    (hcell : ∀ y ∈ scope.names, y.2 ≠ .cell) (hkind : scope.kind = .function) (hnames : ∀ y ∈ scope.names, y.2 = .local → scope.names.lookup y.1 = some .local) (hx : scope.names.lookup x = some .local)
    (hhas : ∀ y, (Env.kindOf (compEnvC scope cl 0 X.env) y = some .cell ∨ Env.kindOf (compEnvC scope cl 0 X.env) y = some .free) → ∃ c, cl.lookup y = some c)
    (hN : (x :: N).Nodup) (hcapl : ∀ σ, (cap σ).length = N.length)
    (hcap : ∀ (σ : L2.St) (i : Nat) (y : Str) (v : V), σ.length = X.N.length → N[i]? = some y → (cap σ)[i]? = some (some v) → (Env.kindOf (compEnvC scope cl 0 X.env) y = some .cell ∨ Env.kindOf (compEnvC scope cl 0 X.env) y = some .free) ∧ X.env.kindOf y = some .cell ∧ ∃ j : Nat, X.N[j]? = some y ∧ σ[j]? = some (some v))
    (hi : PI X (.Name x px) iter wi) (ht : ∀ C s2 H2 fp, PT (cxComp X (x :: N) scope cl C s2 H2 fp) cc tc) (he : ∀ C s2 H2 fp, PE (cxComp X (x :: N) scope cl C s2 H2 fp) elt te)
    (hs : ∀ z, foldedSetIterable iter X.env z = pure z := by intro _; rfl) (hf : X.fn y = true ∨ X.env.scope.names.lookup y = some .local := by first | exact .inl rfl | exact .inr rfl | assumption) :
    PS X (.Assign [.Name y py] (.ListComp elt [⟨.Name x px, iter, [cc], 0⟩] scope pos) spos) (tAsg (tCompT wi tc te cap) (gName i)) := by
  intro pins s σ H DD I h
  rw [exec_Assign_Name_used _ _ _ _ hsw]
  refine wpAny_bind (wpAny_standAt (wpAny_bind ?_))
  show wpAny _ X.A (do let _ ← comprehension (.ListComp elt [⟨.Name x px, iter, [cc], 0⟩] scope pos) scope X.env _ (newList []) false (eval iter X.env) (some (assign (.Name y py) X.env))) _ _ s
  refine wpAny_bind (wpAny_mono (wpAny_comprehension_free (use := some (assign (.Name y py) X.env)) (Q := fun _ s' => SP X pins DD .next s') rfl hs hclos hkind hnames (thn (hi pins s σ H _ I h) fun xv s1 h1 => thn h1 fun itv s2 h2 => ?_)) (fun _ s' hq => wpAny_pure (wpAny_pure hq)) fun _ _ e => e)
  obtain ⟨it, fp, tn, J, H2, e, I2, T, st2, f2, hW⟩ := h2
  subst e
  have hD : H2 s2.heap.objs.size = none := I2.hok.fresh (Nat.le_refl _)
  obtain ⟨W, ⟨m0, w0⟩, turn⟩ := hW s2.heap.objs.size hD
  refine wpAny_newObj_type (wpAny_newFunctionEnv hcell (by intro y hy; simp at hy) (fun h4 hns4 hsb4 => ?_) hkind) (by show 0 ≤ sizeLine; decide)
  dsimp only at hns4 hsb4 ⊢
  generalize hH3 : s2.heap.push { cls := .type "list", dict := none, data := .seq ([] : List Value).toArray } = H3 at hns4 hsb4 ⊢
  have hCz : H3.objs.size = s2.heap.objs.size + 1 := by rw [← hH3, Heap.size_push]
  have old3 : ∀ b o, s2.heap.get? b = some o → H3.get? b = some o := fun b o e => hH3 ▸ Heap.get?_push_of_some _ e
  have eD3 : H3.get? s2.heap.objs.size = some { cls := .type "list", dict := none, data := .seq ([] : List Value).toArray } := hH3 ▸ Heap.get?_push_size _ rfl
  have old4 : ∀ b o, H3.get? b = some o → h4.get? b = some o := fun b o e => hsb4.extBut b o (Nat.ne_of_lt (Heap.lt_size e)) (Heap.get?_push_of_some _ e)
  have old : ∀ b o, s2.heap.get? b = some o → h4.get? b = some o := fun b o e => old4 b o (old3 b o e)
  have szC : s2.heap.objs.size < H3.objs.size := by rw [hCz]; exact Nat.lt_succ_self _
  have fpC : ∀ b ∈ fp, b ≠ H3.objs.size := fun b hb => by
    obtain ⟨o, ho, _⟩ := T.obj 0 _ st2 b hb
    exact Nat.ne_of_lt (Nat.lt_trans (Heap.lt_size ho) szC)
  -- the block's context
  have ok' : (cxComp X (x :: N) scope cl H3.objs.size s2 H2 fp).Ok := by
    refine ⟨I2.ok.mod, hkind, I2.ok.glob, I2.ok.blt, (Nat.le_of_lt szC), fun a b c e1 e2 => I2.ok.inj a b c (hsub a c e1) (hsub b c e2), fun y hy => hhas y hy, fun y c z _ => absurd (show false = true from z) (by decide),
      fun _ => I2.ok.hd hc, I2.ok.frames, .inl rfl, fun b hb => ⟨fpC b hb, fun y c e => (f2 b hb).2.2.2.2.1 y c (hsub y c e)⟩, I2.bs, Nat.le_trans I2.ok.bsz I2.sz, fun b o e hb => ?_, fun b hb z => ?_, I2.stack, I2.stkFree⟩
    · rcases (f2 b hb).2.2.2.1 with q | q
      · exact I2.ok.noex b o e q
      · exact absurd (Nat.lt_of_lt_of_le (Heap.lt_size e) (Nat.le_trans I2.ok.bsz q)) (Nat.lt_irrefl _)
    · rcases List.mem_cons.mp (I2.stkSub b z) with q | q
      · exact (f2 b hb).2.1 q
      · exact (f2 b hb).2.2.1 q
  have okD : ObjOk X.prog X.w (upd H2 s2.heap.objs.size (.lst [])) h4 s2.heap.objs.size (.lst []) := ⟨Nat.zero_le _, [], 0, .nil, old4 _ _ eD3⟩
  have I4 : Inv (cxComp X (x :: N) scope cl H3.objs.size s2 H2 fp) [] (none :: cap σ) (upd H2 s2.heap.objs.size (.lst [])) { s2 with heap := h4, toks := s2.toks + ([] : List (Str × Value)).length } := by
    refine ⟨ok', rfl, I2.bare, Un.laid old (Nat.le_refl _) hD, ⟨_, hns4, fun i y v e1 e2 _ => ?_⟩, fun y c e => ?_, ?_, fun y c e => ?_, fun p hp => absurd hp (by show p ∉ ([] ++ [] : List (Addr × Obj)); simp), I2.hok.laid old (Nat.le_refl _) okD, ?_⟩
    · cases i with
      | zero => simp at e2
      | succ i =>
        obtain ⟨k1, k2, j, e3, e4⟩ := hcap σ i y v I2.len (show N[i]? = some y from e1) (show (cap σ)[i]? = some (some v) from e2)
        obtain ⟨m, _, hl⟩ := I2.loc
        obtain ⟨u, ru, lk⟩ := hl j y v e3 e4 (.inr (.inl k2))
        refine ⟨u, ru, .inr ⟨k1, ?_⟩⟩
        rcases lk with ⟨z, _⟩ | ⟨_, c, e5, hcl⟩
        · rw [k2] at z; cases z
        · obtain ⟨c', e6⟩ := hhas y k1
          have : c' = c := by
            have := hsub y c' e6
            rw [e5] at this
            exact (Option.some.inj this).symm
          subst this
          obtain ⟨oc, ho, hd⟩ := hcl
          exact ⟨c', e6, oc, old _ _ ho, hd⟩
    · obtain ⟨v, oc, ho, hd⟩ := I2.cell y c (hsub y c e)
      exact ⟨v, oc, old _ _ ho, hd⟩
    · show upd H2 s2.heap.objs.size (.lst []) H3.objs.size = none
      rw [upd_ne (Nat.ne_of_gt szC)]
      exact I2.hok.fresh (Nat.le_of_lt szC)
    · have h1 := I2.freeC y c (hsub y c e)
      obtain ⟨v, oc, ho, _⟩ := I2.cell y c (hsub y c e)
      rw [upd_ne (Nat.ne_of_lt (Heap.lt_size ho))]
      exact h1
    · show (none :: cap σ).length = (x :: N).length
      simp [hcapl]
  have stat : ∀ {H' : Hp}, (∀ b ∈ fp, H' b = none) → ∀ b ∈ fp, FpOk (cxComp X (x :: N) scope cl H3.objs.size s2 H2 fp) [] H' b := fun {H'} hn b hb =>
    ⟨hn b hb, (ok'.exf b hb).1, ok'.exfs b hb, .inl hb, (ok'.exf b hb).2, fun p hp => absurd hp (by show p ∉ ([] ++ [] : List (Addr × Obj)); simp)⟩
  have loop : codeAny (model X.prog X.w) X.A (.compLoop (.ListComp elt [⟨.Name x px, iter, [cc], 0⟩] scope pos) 0 (.ref it) (.ref s2.heap.objs.size) (compEnvC scope cl H3.objs.size X.env))
      (compPost (model X.prog X.w) X.A X.xe (some (assign (.Name y py) X.env)) (fun _ s' => SP X pins DD .next s') (.ref s2.heap.objs.size) H3.objs.size) { s2 with heap := h4, toks := s2.toks + ([] : List (Str × Value)).length } := by
    refine codeAny_compLoop_tests (fun n s' => ∃ (i : Nat) (z0 : Option V) (H' : Hp), Inv (cxComp X (x :: N) scope cl H3.objs.size s2 H2 fp) [] (z0 :: cap σ) H' s' ∧ tn i s'.heap ∧ (∀ b ∈ fp, H' b = none) ∧ W i n H') ?_ m0
      ⟨0, none, _, I4, T.keep 0 _ _ st2 (fun b _ o e => old b o e), fun b hb => ?_, w0⟩
    · rintro n s5 ⟨i, z0, H5, I5, st5, fr5, w5⟩
      rcases turn i n H5 w5 with ⟨stop, qn⟩ | ⟨go, step⟩
      · refine wpAny_mono (T.done (cxComp X (x :: N) scope cl H3.objs.size s2 H2 fp) rfl rfl rfl rfl i [] s5 _ H5 _ I5 (stat fr5) st5 stop) (fun r s6 ⟨hr, I6⟩ => ?_) fun _ _ z => z
        subst hr
        obtain ⟨m, hn6, _⟩ := id I6.loc
        have I6X : Inv X pins σ H5 s6 := I2.call' (ch := fp) (s' := s6) I6.os I6.base I6.hok I6.bare fun b hb => ⟨(f2 b hb).2.2.2.1, (f2 b hb).2.1, (f2 b hb).2.2.2.2.1, (f2 b hb).2.2.2.2.2⟩
        have fC : H5 H3.objs.size = none := I6.free
        have nL : H3.objs.size ≠ X.env.locals := Ne.symm (Nat.ne_of_lt (Nat.lt_trans I2.lt szC))
        have nCl : ∀ z c, X.env.cells.lookup z = some c → c ≠ H3.objs.size := fun z c e => by
          obtain ⟨v, oc, ho, _⟩ := I2.cell z c e
          exact Nat.ne_of_lt (Nat.lt_trans (Heap.lt_size ho) szC)
        refine wpAny_assign_Name (store_ok2 I6X hNX hiy hly (v := .ref s2.heap.objs.size) rfl (fun s7 I7 ⟨ad, sb7, had⟩ => ?_) hf)
        have nA : H3.objs.size ≠ ad := by
          rcases had with e | e
          · rw [e]; exact nL
          · exact Ne.symm (nCl _ _ e)
        refine ⟨m, hn6.sameBut sb7 nA, fun h' sb => ⟨_, H5, ?_, qn⟩⟩
        refine I7.turned (it := H3.objs.size) (t' := s7.toks) (fun b o hb e => sb.extBut b o hb e) fC nL (.inr (Nat.le_trans I2.sz (Nat.le_of_lt szC))) nCl fun p hp => ?_
        exact Nat.ne_of_lt (Nat.lt_trans (Heap.lt_size (I2.pin p hp).1) szC)
      · refine wpAny_mono (T.item (cxComp X (x :: N) scope cl H3.objs.size s2 H2 fp) rfl rfl rfl rfl i [] s5 _ H5 _ I5 (stat fr5) st5 go) (fun r s6 ⟨u, hr, h6⟩ => ?_) fun _ _ z => z
        subst hr
        have key : (letOwnedTupleGo (.Name x px) (.ref it) u >>= fun _ => assign (.Name x px) (compEnvC scope cl H3.objs.size X.env) u) = assign (.Name x px) (compEnvC scope cl H3.objs.size X.env) u := by first | rfl | exact pure_bind _ _
        dsimp only
        rw [← key]
        refine wpAny_bind (wpAny_mono h6 (fun _ s7 ⟨v, H7, I7, r7, y7, st7, fr7⟩ => ?_) fun _ _ z => z)
        have I7' := I7.pinned (stat fr7) (T.obj _ _ st7)
        refine wpAny_assign_Name (store_ok (i := 0) I7' hN rfl (.inl (lookup_relabel_local hx)) r7 (fun s8 I8 => ?_) (.inr (lookup_relabel_local hx)))
        have behind : ∀ (m' : Nat) (H10 : Hp) (s10 : Shared), m' < n → Inv (cxComp X (x :: N) scope cl H3.objs.size s2 H2 fp) ([] ++ pinsAt fp s7.heap) (some v :: cap σ) H10 s10 → W (i + 1) m' H10 → ∃ m, m < n ∧ ∃ (i : Nat) (z0 : Option V) (H' : Hp), Inv (cxComp X (x :: N) scope cl H3.objs.size s2 H2 fp) [] (z0 :: cap σ) H' s10 ∧ tn i s10.heap ∧ (∀ b ∈ fp, H' b = none) ∧ W i m H' := by
          intro m' H10 s10 hm I10 w9'
          refine ⟨m', hm, i + 1, some v, _, I10.unpinned, T.keep _ _ _ st7 fun b hb o e => (I10.pin (b, o) (List.mem_append_right _ (List.mem_append_right _ (mem_pinsAt hb e)))).1, fun b hb => ?_, w9'⟩
          obtain ⟨o, e, d⟩ := T.obj _ _ st7 b hb
          exact (I10.pin (b, o) (List.mem_append_right _ (List.mem_append_right _ (mem_pinsAt hb e)))).2.1
        refine wpAny_tests_one (wpAny_mono (ht H3.objs.size s2 H2 fp _ s8 (some v :: cap σ) H7 _ I8 (step v H7 y7)) (fun ok sA ⟨HA, IA, hA⟩ => ?_) fun _ _ z => z.elim)
        cases ok with
        | false =>
          rw [if_neg (by decide)] at hA ⊢
          obtain ⟨m', hm, wA⟩ := hA
          exact behind m' HA sA hm IA wA
        | true =>
          rw [if_pos rfl] at hA ⊢
          refine wpAny_mono (he H3.objs.size s2 H2 fp _ sA (some v :: cap σ) HA _ IA hA) (fun w9 s9 ⟨y, H9, I9, r9, ys, hys, hlt, m', hm, w9'⟩ => ?_) fun _ _ z => z.elim
          refine wpAny_mono (mt_append (X := cxComp X (x :: N) scope cl H3.objs.size s2 H2 fp) _ s9 _ H9 (.ref s2.heap.objs.size) [y] _ [w9] (fun _ Hn => Hn = upd H9 s2.heap.objs.size (.lst (ys ++ [y]))) I9 rfl (.cons r9 .nil) ⟨_, ys, y, rfl, rfl, hys, hlt, rfl⟩) (fun _ s10 ⟨_, H10, I10, _, e10⟩ => ?_) fun _ _ z => z.elim
          subst e10
          exact behind m' _ s10 hm I10 w9'
    · obtain ⟨o, ho, _⟩ := T.obj 0 _ st2 b hb
      rw [upd_ne (Nat.ne_of_lt (Heap.lt_size ho))]
      exact (f2 b hb).1
  exact codeAny_compStart_list loop (T.self X.A 0 _ _ _ (T.keep 0 _ _ st2 (fun b _ o e => old b o e)) loop)
theorem ps_compCT {i : Nat} {y : Str} {py spos : Pos} (hNX : X.N.Nodup) (hiy : X.N[i]? = some y) (hly : Loc X.env.scope y) (hsw : swapsWith (.ListComp elt [⟨.Name x px, iter, [cc], 0⟩] scope pos) (some (.Name y py)) spos.line X.env = pure true) (js : List Nat) (ns : List Str) (hc : X.calm = true) (hclos : closureFor scope X.env = pure cl) (hcls : cl.map (·.1) = ns) (hsub : ∀ p ∈ cl, X.env.cells.lookup p.1 = some p.2)
    (hno : ∀ p ∈ scope.names, p.2 ≠ .cell ∧ (p.2 = .free → p.1 ∈ ns)) (hkind : scope.kind = .function) (hnames : ∀ y ∈ scope.names, y.2 = .local → scope.names.lookup y.1 = some .local) (hx : scope.names.lookup x = some .local)
    (hN : (x :: ns).Nodup) (hkd : ∀ y ∈ ns, (Env.kindOf (compEnvC scope cl 0 X.env) y = some .cell ∨ Env.kindOf (compEnvC scope cl 0 X.env) y = some .free) ∧ X.env.kindOf y = some .cell)
    (hjl : js.length = ns.length) (hj : js.map (fun j => X.N[j]?) = ns.map some)
    (hi : PI X (.Name x px) iter wi) (ht : ∀ C s2 H2 fp, PT (cxComp X (x :: ns) scope cl C s2 H2 fp) cc tc) (he : ∀ C s2 H2 fp, PE (cxComp X (x :: ns) scope cl C s2 H2 fp) elt te)
    (hs : ∀ z, foldedSetIterable iter X.env z = pure z := by intro _; rfl) (hf : X.fn y = true ∨ X.env.scope.names.lookup y = some .local := by first | exact .inl rfl | exact .inr rfl | assumption) :
    PS X (.Assign [.Name y py] (.ListComp elt [⟨.Name x px, iter, [cc], 0⟩] scope pos) spos) (tAsg (tCompT wi tc te fun σ => js.map fun j => (σ[j]?).getD none) (gName i)) := by
  refine ps_compT hNX hiy hly hsw (N := ns) (cl := cl) hc hclos (fun n c e => hsub (n, c) (PySem.mem_of_lookup e)) (fun y hy => (hno y hy).1) hkind hnames hx (fun y hy => ?_) hN (fun σ => by rw [List.length_map]; exact hjl) (fun σ i y v _ e1 e2 => ?_) hi ht he hs hf
  · have sub : ∀ (l : List (Str × NameKind)), (∀ p ∈ l, p.2 ≠ .cell ∧ (p.2 = .free → p.1 ∈ ns)) → ∀ p ∈ (l.map fun (n, k) => if (k == NameKind.free && X.env.scope.kind == ScopeKind.function && X.env.kindOf n == some NameKind.cell) then (n, NameKind.cell) else (n, k)), (p.2 = .cell ∨ p.2 = .free) → p.1 ∈ ns := by
      intro l hl p hp hk
      obtain ⟨q, hq, e⟩ := List.mem_map.mp hp
      have h1 := hl q hq
      obtain ⟨n, k⟩ := q
      dsimp only at e
      by_cases hf : k = .free
      · have h2 := h1.2 hf
        split at e
        · rw [← e]; exact h2
        · rw [← e]; exact h2
      · have hf' : (k == NameKind.free) = false := by
          cases k <;> first | rfl | exact absurd rfl hf
        rw [hf', Bool.false_and, Bool.false_and, if_neg (by decide)] at e
        rw [← e] at hk
        rcases hk with z | z
        · exact absurd z h1.1
        · exact absurd z hf
    have hy' : y ∈ ns := by
      rcases hy with z | z
      · exact sub scope.names hno (y, .cell) (PySem.mem_of_lookup z) (.inl rfl)
      · exact sub scope.names hno (y, .free) (PySem.mem_of_lookup z) (.inr rfl)
    rw [← hcls] at hy'
    have key : ∀ l : List (Str × Addr), y ∈ l.map (·.1) → ∃ c, l.lookup y = some c := by
      intro l
      induction l with
      | nil => intro h; simp at h
      | cons p r ih =>
        intro h
        by_cases e : y = p.1
        · exact ⟨p.2, by obtain ⟨p1, p2⟩ := p; dsimp only at e; subst e; simp [List.lookup]⟩
        · have h' : y ∈ r.map (·.1) := by
            rw [List.map_cons] at h
            exact (List.mem_cons.mp h).resolve_left e
          obtain ⟨c, hc'⟩ := ih h'
          refine ⟨c, ?_⟩
          obtain ⟨p1, p2⟩ := p
          have : (y == p1) = false := by simpa using e
          rw [List.lookup_cons, this]
          exact hc'
    exact key cl hy'
  · have hm : y ∈ ns := List.mem_of_getElem? e1
    refine ⟨(hkd y hm).1, (hkd y hm).2, ?_⟩
    rw [List.getElem?_map] at e2
    cases hji : js[i]? with
    | none => rw [hji] at e2; cases e2
    | some j =>
      rw [hji] at e2
      have e3 : (σ[j]?).getD none = some v := by
        have := Option.some.inj e2
        exact this
      have e4 := congrArg (fun l => l[i]?) hj
      rw [List.getElem?_map, List.getElem?_map, hji, e1] at e4
      have e5 : X.N[j]? = some y := by
        have := Option.some.inj e4
        exact this
      refine ⟨j, e5, ?_⟩
      cases hσ : σ[j]? with
      | none => rw [hσ] at e3; cases e3
      | some o =>
        rw [hσ] at e3
        have e6 : o = some v := e3
        rw [e6]
end
end Ow

namespace Ow
open PySem PySem.Spec PyProof.Rows L2
open Builtin.Int (intBits)
/-! ### the text by places -/
def top (i : Nat) : Stmt := PySem.Challenge.pw_overwise_k25_candidates.main.body.getD i (.Pass ⟨0, 0, 0, 0⟩)
abbrev s_is_whole : Stmt := top 7
theorem sc_is_whole : FnScope ["thing"] ["thing"] (defScope s_is_whole) := ⟨rfl, rfl, rfl, by decide +kernel, rfl, by decide +kernel, by decide +kernel⟩
abbrev s_is_between : Stmt := top 8
theorem sc_is_between : FnScope ["thing", "low", "high"] ["thing", "low", "high"] (defScope s_is_between) := ⟨rfl, rfl, rfl, by decide +kernel, rfl, by decide +kernel, by decide +kernel⟩
abbrev s_need_width : Stmt := top 9
theorem sc_need_width : FnScope ["width"] ["width"] (defScope s_need_width) := ⟨rfl, rfl, rfl, by decide +kernel, rfl, by decide +kernel, by decide +kernel⟩
abbrev s_need_divisor : Stmt := top 11
theorem sc_need_divisor : FnScope ["width", "d"] ["width", "d"] (defScope s_need_divisor) := ⟨rfl, rfl, rfl, by decide +kernel, rfl, by decide +kernel, by decide +kernel⟩
abbrev s_twos_in : Stmt := top 12
theorem sc_twos_in : FnScope ["d", "twos"] ["d"] (defScope s_twos_in) := ⟨rfl, rfl, rfl, by decide +kernel, rfl, by decide +kernel, by decide +kernel⟩
abbrev s_Shifted___init__ : Stmt := inClass (top 14) 0
theorem sc_Shifted___init__ : FnScope ["self", "shift"] ["self", "shift"] (defScope s_Shifted___init__) := ⟨rfl, rfl, rfl, by decide +kernel, rfl, by decide +kernel, by decide +kernel⟩
abbrev s_Shifted_word : Stmt := inClass (top 14) 1
theorem sc_Shifted_word : FnScope ["self"] ["self"] (defScope s_Shifted_word) := ⟨rfl, rfl, rfl, by decide +kernel, rfl, by decide +kernel, by decide +kernel⟩
abbrev s_Shifted_told : Stmt := inClass (top 14) 2
theorem sc_Shifted_told : FnScope ["self"] ["self"] (defScope s_Shifted_told) := ⟨rfl, rfl, rfl, by decide +kernel, rfl, by decide +kernel, by decide +kernel⟩
abbrev s_Scaled___init__ : Stmt := inClass (top 15) 0
theorem sc_Scaled___init__ : FnScope ["self", "factor", "shift"] ["self", "factor", "shift"] (defScope s_Scaled___init__) := ⟨rfl, rfl, rfl, by decide +kernel, rfl, by decide +kernel, by decide +kernel⟩
abbrev s_Scaled_word : Stmt := inClass (top 15) 1
theorem sc_Scaled_word : FnScope ["self"] ["self"] (defScope s_Scaled_word) := ⟨rfl, rfl, rfl, by decide +kernel, rfl, by decide +kernel, by decide +kernel⟩
abbrev s_Scaled_told : Stmt := inClass (top 15) 2
theorem sc_Scaled_told : FnScope ["self"] ["self"] (defScope s_Scaled_told) := ⟨rfl, rfl, rfl, by decide +kernel, rfl, by decide +kernel, by decide +kernel⟩
abbrev s_Early___init__ : Stmt := inClass (top 16) 0
theorem sc_Early___init__ : FnScope ["self", "early", "factor", "shift"] ["self", "early", "factor", "shift"] (defScope s_Early___init__) := ⟨rfl, rfl, rfl, by decide +kernel, rfl, by decide +kernel, by decide +kernel⟩
abbrev s_Early_word : Stmt := inClass (top 16) 1
theorem sc_Early_word : FnScope ["self"] ["self"] (defScope s_Early_word) := ⟨rfl, rfl, rfl, by decide +kernel, rfl, by decide +kernel, by decide +kernel⟩
abbrev s_Early_told : Stmt := inClass (top 16) 2
theorem sc_Early_told : FnScope ["self"] ["self"] (defScope s_Early_told) := ⟨rfl, rfl, rfl, by decide +kernel, rfl, by decide +kernel, by decide +kernel⟩
abbrev s_More___init__ : Stmt := inClass (top 17) 0
theorem sc_More___init__ : FnScope ["self", "factor", "shift"] ["self", "factor", "shift"] (defScope s_More___init__) := ⟨rfl, rfl, rfl, by decide +kernel, rfl, by decide +kernel, by decide +kernel⟩
abbrev s_More_word : Stmt := inClass (top 17) 1
theorem sc_More_word : FnScope ["self"] ["self"] (defScope s_More_word) := ⟨rfl, rfl, rfl, by decide +kernel, rfl, by decide +kernel, by decide +kernel⟩
abbrev s_More_told : Stmt := inClass (top 17) 2
theorem sc_More_told : FnScope ["self"] ["self"] (defScope s_More_told) := ⟨rfl, rfl, rfl, by decide +kernel, rfl, by decide +kernel, by decide +kernel⟩
abbrev s_Wide___init__ : Stmt := inClass (top 18) 0
theorem sc_Wide___init__ : FnScope ["self", "factor", "shift"] ["self", "factor", "shift"] (defScope s_Wide___init__) := ⟨rfl, rfl, rfl, by decide +kernel, rfl, by decide +kernel, by decide +kernel⟩
abbrev s_Wide_word : Stmt := inClass (top 18) 1
theorem sc_Wide_word : FnScope ["self"] ["self"] (defScope s_Wide_word) := ⟨rfl, rfl, rfl, by decide +kernel, rfl, by decide +kernel, by decide +kernel⟩
abbrev s_Wide_told : Stmt := inClass (top 18) 2
theorem sc_Wide_told : FnScope ["self"] ["self"] (defScope s_Wide_told) := ⟨rfl, rfl, rfl, by decide +kernel, rfl, by decide +kernel, by decide +kernel⟩
abbrev s_is_factor : Stmt := top 19
theorem sc_is_factor : FnScope ["thing"] ["thing"] (defScope s_is_factor) := ⟨rfl, rfl, rfl, by decide +kernel, rfl, by decide +kernel, by decide +kernel⟩
abbrev s_is_shift : Stmt := top 20
theorem sc_is_shift : FnScope ["thing"] ["thing"] (defScope s_is_shift) := ⟨rfl, rfl, rfl, by decide +kernel, rfl, by decide +kernel, by decide +kernel⟩
abbrev s_ceiling : Stmt := top 22
theorem sc_ceiling : FnScope ["top", "bottom"] ["top", "bottom"] (defScope s_ceiling) := ⟨rfl, rfl, rfl, by decide +kernel, rfl, by decide +kernel, by decide +kernel⟩
abbrev s_scaled_candidates : Stmt := top 24
theorem sc_scaled_candidates : FnScope ["width", "d", "forms", "k", "factor"] ["width", "d"] (defScope s_scaled_candidates) := ⟨rfl, rfl, rfl, by decide +kernel, rfl, by decide +kernel, by decide +kernel⟩
abbrev s_early_candidates : Stmt := top 25
theorem sc_early_candidates : FnScope ["width", "d", "twos"] ["width", "d"] (defScope s_early_candidates) := ⟨rfl, rfl, rfl, by decide +kernel, rfl, by decide +kernel, by decide +kernel⟩
abbrev s_more_candidates : Stmt := top 26
theorem sc_more_candidates : FnScope ["width", "d", "forms", "k", "factor"] ["width", "d"] (defScope s_more_candidates) := ⟨rfl, rfl, rfl, by decide +kernel, rfl, by decide +kernel, by decide +kernel⟩
abbrev s_candidates : Stmt := top 23
theorem sc_candidates : FnScope ["width", "d", "forms", "length"] ["width", "d"] (defScope s_candidates) := ⟨rfl, rfl, rfl, by decide +kernel, rfl, by decide +kernel, by decide +kernel⟩
abbrev s__law_start : Stmt := top 28
theorem sc__law_start : FnScope ["_law_script", "_law_k", "_law_cell", "_law_number"] ["_law_script", "_law_k"] (defScope s__law_start) := ⟨rfl, rfl, rfl, by decide +kernel, rfl, by decide +kernel, by decide +kernel⟩
abbrev s__law_draw : Stmt := top 29
theorem sc__law_draw : FnScope ["_law_state", "_law_size", "_law_number", "_law_one", "_law_two"] ["_law_state", "_law_size"] (defScope s__law_draw) := ⟨rfl, rfl, rfl, by decide +kernel, rfl, by decide +kernel, by decide +kernel⟩
abbrev s__law_twos : Stmt := top 30
theorem sc__law_twos : FnScope ["_law_d", "_law_twos_here"] ["_law_d"] (defScope s__law_twos) := ⟨rfl, rfl, rfl, by decide +kernel, rfl, by decide +kernel, by decide +kernel⟩
abbrev s__law_divisor : Stmt := top 31
theorem sc__law_divisor : FnScope ["_law_state", "_law_width", "_law_last", "_law_kind", "_law_half"] ["_law_state", "_law_width"] (defScope s__law_divisor) := ⟨rfl, rfl, rfl, by decide +kernel, rfl, by decide +kernel, by decide +kernel⟩
abbrev s__law_corners : Stmt := top 33
theorem sc__law_corners : FnScope ["_law_last", "_law_d", "_law_q", "_law_found", "_law_x"] ["_law_last", "_law_d"] (defScope s__law_corners) := ⟨rfl, rfl, rfl, by decide +kernel, rfl, by decide +kernel, by decide +kernel⟩
abbrev s__law_brought : Stmt := top 34
theorem sc__law_brought : FnScope ["_law_numbers_here", "_law_x", "_law_early", "_law_factor", "_law_addend", "_law_total"] ["_law_numbers_here", "_law_x"] (defScope s__law_brought) := ⟨rfl, rfl, rfl, by decide +kernel, rfl, by decide +kernel, by decide +kernel⟩
abbrev s__law_right_to : Stmt := top 35
theorem sc__law_right_to : FnScope ["_law_last", "_law_d", "_law_numbers_here", "_law_x"] ["_law_last", "_law_d", "_law_numbers_here"] (defScope s__law_right_to) := ⟨rfl, rfl, rfl, by decide +kernel, rfl, by decide +kernel, by decide +kernel⟩
abbrev s__law_numbers : Stmt := top 36
theorem sc__law_numbers : FnScope ["_law_told", "_law_width"] ["_law_told", "_law_width"] (defScope s__law_numbers) := ⟨rfl, rfl, rfl, by decide +kernel, rfl, by decide +kernel, by decide +kernel⟩
abbrev s__law_up : Stmt := top 37
theorem sc__law_up : FnScope ["_law_top", "_law_bottom"] ["_law_top", "_law_bottom"] (defScope s__law_up) := ⟨rfl, rfl, rfl, by decide +kernel, rfl, by decide +kernel, by decide +kernel⟩
abbrev s__law_all : Stmt := top 38
theorem sc__law_all : FnScope ["_law_width", "_law_d", "_law_words", "_law_length", "_law_t", "_law_found", "_law_k", "_law_factor"] ["_law_width", "_law_d"] (defScope s__law_all) := ⟨rfl, rfl, rfl, by decide +kernel, rfl, by decide +kernel, by decide +kernel⟩
abbrev s__law_of_class : Stmt := top 39
theorem sc__law_of_class : FnScope ["_law_form", "_law_word"] ["_law_form", "_law_word"] (defScope s__law_of_class) := ⟨rfl, rfl, rfl, by decide +kernel, rfl, by decide +kernel, by decide +kernel⟩
abbrev s__law_agree : Stmt := top 40
theorem sc__law_agree : FnScope ["_law_found", "_law_due", "_law_form", "_law_told"] ["_law_found", "_law_due"] (defScope s__law_agree) := ⟨rfl, rfl, rfl, by decide +kernel, rfl, by decide +kernel, by decide +kernel⟩
abbrev s__law_case : Stmt := top 41
theorem sc__law_case : FnScope ["_law_state", "_law_width", "_law_d", "_law_due", "_law_found", "_law_some"] ["_law_state"] (defScope s__law_case) := ⟨rfl, rfl, rfl, by decide +kernel, rfl, by decide +kernel, by decide +kernel⟩
abbrev s_law : Stmt := top 42
theorem sc_law : FnScope ["_law_script", "_law_k"] ["_law_script"] (defScope s_law) := ⟨rfl, rfl, rfl, by decide +kernel, rfl, by decide +kernel, by decide +kernel⟩
structure Ad where
  Shifted : Addr
  Scaled : Addr
  Early : Addr
  More : Addr
  Wide : Addr
  Form : Addr
structure Txt (K : PySem.W.Frag) (mg : Str → Option Value) (c : Ad) : Prop where
  n_isinstance : mg "isinstance" = none
  n_int : mg "int" = none
  n_bool : mg "bool" = none
  n_list : mg "list" = none
  n_len : mg "len" = none
  n_max : mg "max" = none
  n_min : mg "min" = none
  n_range : mg "range" = none
  n_sorted : mg "sorted" = none
  n_zip : mg "zip" = none
  g_Shifted : mg "Shifted" = some (.ref c.Shifted)
  cl_Shifted : Cls K c.Shifted
  na_Shifted_shift : NoAttr K c.Shifted "shift"
  g_Scaled : mg "Scaled" = some (.ref c.Scaled)
  cl_Scaled : Cls K c.Scaled
  na_Scaled_factor : NoAttr K c.Scaled "factor"
  na_Scaled_shift : NoAttr K c.Scaled "shift"
  g_Early : mg "Early" = some (.ref c.Early)
  cl_Early : Cls K c.Early
  na_Early_early : NoAttr K c.Early "early"
  na_Early_factor : NoAttr K c.Early "factor"
  na_Early_shift : NoAttr K c.Early "shift"
  g_More : mg "More" = some (.ref c.More)
  cl_More : Cls K c.More
  na_More_factor : NoAttr K c.More "factor"
  na_More_shift : NoAttr K c.More "shift"
  g_Wide : mg "Wide" = some (.ref c.Wide)
  cl_Wide : Cls K c.Wide
  na_Wide_factor : NoAttr K c.Wide "factor"
  na_Wide_shift : NoAttr K c.Wide "shift"
  g_Form : mg "Form" = some (.ref c.Form)
  cl_Form : Cls K c.Form
  kf_kc : PySem.W.isClsIn K c.Form = true
  kf_kt : PySem.W.typeIn K (.ref c.Form) = some (.type "type")
  kf_og : PySem.W.specialIn K (.builtin "object.__class__") "__get__" = some (some (.builtin "getset_descriptor.__get__"))
  kf_ot : PySem.W.takesIn K (.builtin "object.__class__") = some true
  kf_dc_Shifted : PySem.W.findIn K (.ref c.Shifted) "__class__" = some (some (.builtin "object.__class__"))
  kf_dc_Scaled : PySem.W.findIn K (.ref c.Scaled) "__class__" = some (some (.builtin "object.__class__"))
  kf_dc_Early : PySem.W.findIn K (.ref c.Early) "__class__" = some (some (.builtin "object.__class__"))
  kf_dc_More : PySem.W.findIn K (.ref c.More) "__class__" = some (some (.builtin "object.__class__"))
  kf_dc_Wide : PySem.W.findIn K (.ref c.Wide) "__class__" = some (some (.builtin "object.__class__"))
  kf_mo_Shifted : PySem.W.mroIn K c.Shifted (.type "object") = some true
  kf_mo_Scaled : PySem.W.mroIn K c.Scaled (.type "object") = some true
  kf_mo_Early : PySem.W.mroIn K c.Early (.type "object") = some true
  kf_mo_More : PySem.W.mroIn K c.More (.type "object") = some true
  kf_mo_Wide : PySem.W.mroIn K c.Wide (.type "object") = some true
  kf_ik_Shifted : PySem.W.mroIn K c.Shifted (.ref c.Form) = some true
  kf_ik_Scaled : PySem.W.mroIn K c.Scaled (.ref c.Form) = some true
  kf_ik_Early : PySem.W.mroIn K c.Early (.ref c.Form) = some true
  kf_ik_More : PySem.W.mroIn K c.More (.ref c.Form) = some true
  kf_ik_Wide : PySem.W.mroIn K c.Wide (.ref c.Form) = some true
  kf_kc_Shifted : PySem.W.isClsIn K c.Shifted = true
  kf_kt_Shifted : PySem.W.typeIn K (.ref c.Shifted) = some (.type "type")
  kf_kc_Scaled : PySem.W.isClsIn K c.Scaled = true
  kf_kt_Scaled : PySem.W.typeIn K (.ref c.Scaled) = some (.type "type")
  kf_kc_Early : PySem.W.isClsIn K c.Early = true
  kf_kt_Early : PySem.W.typeIn K (.ref c.Early) = some (.type "type")
  kf_kc_More : PySem.W.isClsIn K c.More = true
  kf_kt_More : PySem.W.typeIn K (.ref c.More) = some (.type "type")
  kf_kc_Wide : PySem.W.isClsIn K c.Wide = true
  kf_kt_Wide : PySem.W.typeIn K (.ref c.Wide) = some (.type "type")
  kf_kc_Form : PySem.W.isClsIn K c.Form = true
  kf_kt_Form : PySem.W.typeIn K (.ref c.Form) = some (.type "type")
  kf_m_Shifted_Shifted : PySem.W.mroIn K c.Shifted (.ref c.Shifted) = some true
  kf_m_Shifted_Scaled : PySem.W.mroIn K c.Shifted (.ref c.Scaled) = some false
  kf_m_Shifted_Early : PySem.W.mroIn K c.Shifted (.ref c.Early) = some false
  kf_m_Shifted_More : PySem.W.mroIn K c.Shifted (.ref c.More) = some false
  kf_m_Shifted_Wide : PySem.W.mroIn K c.Shifted (.ref c.Wide) = some false
  kf_m_Shifted_Form : PySem.W.mroIn K c.Shifted (.ref c.Form) = some true
  kf_m_Scaled_Shifted : PySem.W.mroIn K c.Scaled (.ref c.Shifted) = some false
  kf_m_Scaled_Scaled : PySem.W.mroIn K c.Scaled (.ref c.Scaled) = some true
  kf_m_Scaled_Early : PySem.W.mroIn K c.Scaled (.ref c.Early) = some false
  kf_m_Scaled_More : PySem.W.mroIn K c.Scaled (.ref c.More) = some false
  kf_m_Scaled_Wide : PySem.W.mroIn K c.Scaled (.ref c.Wide) = some false
  kf_m_Scaled_Form : PySem.W.mroIn K c.Scaled (.ref c.Form) = some true
  kf_m_Early_Shifted : PySem.W.mroIn K c.Early (.ref c.Shifted) = some false
  kf_m_Early_Scaled : PySem.W.mroIn K c.Early (.ref c.Scaled) = some false
  kf_m_Early_Early : PySem.W.mroIn K c.Early (.ref c.Early) = some true
  kf_m_Early_More : PySem.W.mroIn K c.Early (.ref c.More) = some false
  kf_m_Early_Wide : PySem.W.mroIn K c.Early (.ref c.Wide) = some false
  kf_m_Early_Form : PySem.W.mroIn K c.Early (.ref c.Form) = some true
  kf_m_More_Shifted : PySem.W.mroIn K c.More (.ref c.Shifted) = some false
  kf_m_More_Scaled : PySem.W.mroIn K c.More (.ref c.Scaled) = some false
  kf_m_More_Early : PySem.W.mroIn K c.More (.ref c.Early) = some false
  kf_m_More_More : PySem.W.mroIn K c.More (.ref c.More) = some true
  kf_m_More_Wide : PySem.W.mroIn K c.More (.ref c.Wide) = some false
  kf_m_More_Form : PySem.W.mroIn K c.More (.ref c.Form) = some true
  kf_m_Wide_Shifted : PySem.W.mroIn K c.Wide (.ref c.Shifted) = some false
  kf_m_Wide_Scaled : PySem.W.mroIn K c.Wide (.ref c.Scaled) = some false
  kf_m_Wide_Early : PySem.W.mroIn K c.Wide (.ref c.Early) = some false
  kf_m_Wide_More : PySem.W.mroIn K c.Wide (.ref c.More) = some false
  kf_m_Wide_Wide : PySem.W.mroIn K c.Wide (.ref c.Wide) = some true
  kf_m_Wide_Form : PySem.W.mroIn K c.Wide (.ref c.Form) = some true
/-! inverses by doubling -/
structure Stp (w d : Int) (xs : List Int) : Prop where
  ne : 1 ≤ xs.length
  le : xs.length ≤ 5
  hd : xs[0]? = some d
  ok : ∀ (j : Nat) (s : Int), xs[j]? = some s → 0 ≤ s ∧ s < 2 ^ w.toNat ∧ (2 : Int) ^ (min w.toNat (3 * 2 ^ j)) ∣ s * d - 1
  nx : ∀ (j : Nat) (s t : Int), xs[j]? = some s → xs[j + 1]? = some t → ¬ (s * d % 2 ^ w.toNat = 1) ∧ t = s * (2 - d * s) % 2 ^ w.toNat
theorem odd_sq {d : Int} (h : d % 2 = 1) : (8 : Int) ∣ d * d - 1 := by
  have e : d = 2 * (d / 2) + 1 := by omega
  generalize d / 2 = k at e
  subst e
  have e2 : (2 * k + 1) * (2 * k + 1) - 1 = 4 * (k * (k + 1)) := by
    rw [Int.add_mul, Int.mul_add, Int.mul_add, Int.one_mul, Int.mul_one, Int.mul_assoc, Int.mul_left_comm k 2 k, Int.mul_add k k 1, Int.mul_one]
    omega
  rw [e2]
  have h2 : (2 : Int) ∣ k * (k + 1) := by
    rcases (by omega : k % 2 = 0 ∨ (k + 1) % 2 = 0) with h | h
    · exact Int.dvd_trans (Int.dvd_of_emod_eq_zero h) (Int.dvd_mul_right _ _)
    · exact Int.dvd_trans (Int.dvd_of_emod_eq_zero h) (Int.dvd_mul_left _ _)
  obtain ⟨c, hc⟩ := h2
  rw [hc]
  exact ⟨c, by omega⟩
theorem newton_eq (s d : Int) : s * (2 - d * s) * d - 1 = -((s * d - 1) * (s * d - 1)) := by
  have e1 : s * (2 - d * s) * d = 2 * (s * d) - (s * d) * (s * d) := by
    rw [Int.mul_sub, Int.sub_mul]
    congr 1
    · rw [Int.mul_comm s 2, Int.mul_assoc]
    · rw [Int.mul_assoc s d, Int.mul_assoc s, Int.mul_assoc d s d]
  rw [e1]
  generalize s * d = a
  rw [Int.sub_mul, Int.mul_sub, Int.one_mul, Int.mul_one]
  omega
theorem pow_dvd_pow' {a b : Nat} (h : a ≤ b) : (2 : Int) ^ a ∣ 2 ^ b := by
  have e : b = a + (b - a) := by omega
  rw [e, Int.pow_add]
  exact Int.dvd_mul_right _ _
theorem mod_dvd {a b m k : Int} (hk : k ∣ m) (h : k ∣ a * b - 1) : k ∣ a % m * b - 1 := by
  have e : a % m * b - 1 = (a * b - 1) - m * (a / m * b) := by
    have := Int.mul_ediv_add_emod a m
    have e2 : a % m = a - m * (a / m) := by omega
    rw [e2, Int.sub_mul, Int.mul_assoc]
    omega
  rw [e]
  exact Int.dvd_sub h (Int.dvd_trans hk (Int.dvd_mul_right _ _))
theorem one_of_dvd {x m : Int} (hm : 1 < m) (h : m ∣ x - 1) : x % m = 1 := by
  obtain ⟨c, hc⟩ := h
  have e : x = 1 + m * c := by omega
  rw [e, Int.add_mul_emod_self_left]
  exact Int.emod_eq_of_lt (by omega) hm
theorem p_gt {w : Int} (h1 : 4 ≤ w) : (1 : Int) < 2 ^ w.toNat := by
  have e : w.toNat = (w.toNat - 1) + 1 := by omega
  rw [e, Int.pow_succ]
  have : (0 : Int) < 2 ^ (w.toNat - 1) := Int.pow_pos (by decide)
  omega
theorem Stp.start {w d : Int} (h1 : 4 ≤ w) (d0 : 0 ≤ d) (d1 : d < 2 ^ w.toNat) (ho : d % 2 = 1) : Stp w d [d] := by
  refine ⟨by simp, by simp, rfl, ?_, ?_⟩
  · intro j s h
    have hj : j = 0 := by
      cases j with
      | zero => rfl
      | succ j => simp at h
    subst hj
    have e : d = s := by simpa using h
    subst e
    refine ⟨d0, d1, ?_⟩
    have e2 : min w.toNat (3 * 2 ^ 0) = 3 := by omega
    rw [e2]
    exact odd_sq ho
  · intro j s t _ h
    simp at h
theorem Stp.last {w d : Int} {xs : List Int} (p : Stp w d xs) : ∃ s, xs[xs.length - 1]? = some s := ⟨_, List.getElem?_eq_getElem (by have := p.ne; omega)⟩
theorem Stp.more {w d s : Int} {xs : List Int} (h1 : 4 ≤ w) (h2 : w ≤ 32) (p : Stp w d xs) (hs : xs[xs.length - 1]? = some s) (hn : ¬ (s * d % 2 ^ w.toNat = 1)) : Stp w d (xs ++ [s * (2 - d * s) % 2 ^ w.toNat]) := by
  have ne := p.ne
  have le := p.le
  have os := p.ok _ _ hs
  have hm : 3 * 2 ^ (xs.length - 1) < w.toNat := by
    refine Classical.byContradiction fun z => hn ?_
    have e : min w.toNat (3 * 2 ^ (xs.length - 1)) = w.toNat := by omega
    rw [e] at os
    exact one_of_dvd (p_gt h1) os.2.2
  have hl : xs.length ≤ 4 := by
    refine Classical.byContradiction fun z => ?_
    have e : xs.length = 5 := by omega
    rw [e] at hm
    have : 3 * 2 ^ (5 - 1) = 48 := by decide
    omega
  have hp : (0 : Int) < 2 ^ w.toNat := Int.pow_pos (by decide)
  refine ⟨by simp, by simp; omega, ?_, ?_, ?_⟩
  · rw [List.getElem?_append_left (by omega)]
    exact p.hd
  · intro j t h
    by_cases hj : j < xs.length
    · rw [List.getElem?_append_left hj] at h
      exact p.ok j t h
    · have hj2 : j = xs.length := by
        have := (List.getElem?_eq_some_iff.mp h).1
        simp at this
        omega
      subst hj2
      rw [List.getElem?_append_right (Nat.le_refl _)] at h
      have e : s * (2 - d * s) % 2 ^ w.toNat = t := by simpa using h
      subst e
      refine ⟨Int.emod_nonneg _ (by omega), Int.emod_lt_of_pos _ hp, ?_⟩
      refine mod_dvd (pow_dvd_pow' (by omega)) ?_
      rw [newton_eq]
      refine Int.dvd_neg.mpr ?_
      have e3 : min w.toNat (3 * 2 ^ (xs.length - 1)) = 3 * 2 ^ (xs.length - 1) := by omega
      rw [e3] at os
      have e4 : 3 * 2 ^ xs.length = 3 * 2 ^ (xs.length - 1) + 3 * 2 ^ (xs.length - 1) := by
        have e : xs.length = (xs.length - 1) + 1 := by omega
        have q : 2 ^ (xs.length - 1 + 1) = 2 ^ (xs.length - 1) * 2 := Nat.pow_succ _ _
        rw [← e] at q
        omega
      refine Int.dvd_trans (pow_dvd_pow' (b := 3 * 2 ^ xs.length) (by omega)) ?_
      rw [e4, Int.pow_add]
      exact Int.mul_dvd_mul os.2.2 os.2.2
  · intro j a b ha hb
    by_cases hj : j + 1 < xs.length
    · rw [List.getElem?_append_left (by omega)] at ha hb
      exact p.nx j a b ha hb
    · have hj2 : j + 1 = xs.length := by
        have := (List.getElem?_eq_some_iff.mp hb).1
        simp at this
        omega
      rw [List.getElem?_append_left (by omega)] at ha
      rw [List.getElem?_append_right (by omega)] at hb
      have e : j = xs.length - 1 := by omega
      subst e
      rw [hs] at ha
      cases ha
      have e2 : xs.length - 1 + 1 - xs.length = 0 := by omega
      rw [e2] at hb
      exact ⟨hn, by simpa using hb.symm⟩
/-! twos, exact quotients, multiples -/
/-- 2 ^ t goes into d, and 2 ^ (t + 1) does not -/
def Tw (d t : Int) : Prop := 0 ≤ t ∧ d = d / 2 ^ t.toNat * 2 ^ t.toNat ∧ d / 2 ^ t.toNat % 2 = 1
theorem tw_unique {d t u : Int} (h : Tw d t) (k : Tw d u) : t = u := by
  have key : ∀ {a b : Int}, Tw d a → Tw d b → a < b → False := by
    intro a b ha hb hlt
    obtain ⟨a0, a1, a2⟩ := ha
    obtain ⟨b0, b1, b2⟩ := hb
    have e : b.toNat = a.toNat + ((b.toNat - a.toNat - 1) + 1) := by omega
    have p := p_pos a.toNat
    have e2 : (2 : Int) ^ b.toNat = 2 ^ a.toNat * (2 ^ (b.toNat - a.toNat - 1) * 2) := by
      conv => lhs; rw [e]
      rw [Int.pow_add, Int.pow_succ]
    generalize d / 2 ^ b.toNat = f at b1 b2
    have e3 : d / 2 ^ a.toNat = f * 2 ^ (b.toNat - a.toNat - 1) * 2 := by
      rw [b1, e2, Int.mul_left_comm, Int.mul_ediv_cancel_left _ (Int.ne_of_gt p), Int.mul_assoc]
    omega
  rcases Int.lt_trichotomy t u with c | c | c
  · exact (key h k c).elim
  · exact c
  · exact (key k h c).elim
def rot (w y t : Int) : Int := y / 2 ^ t.toNat + y % 2 ^ t.toNat * 2 ^ (w - t).toNat
theorem tw_step {d t : Int} (t0 : 0 ≤ t) {D : Int} (hd : D = d * 2 ^ t.toNat) (he : d % 2 = 0) : D = d / 2 * 2 ^ (t + 1).toNat := by
  have e : (t + 1).toNat = t.toNat + 1 := by omega
  rw [e, Int.pow_succ, hd]
  have : d = d / 2 * 2 := by omega
  conv => lhs; rw [this]
  rw [Int.mul_assoc, Int.mul_comm 2]
theorem tw_done {d t D : Int} (t0 : 0 ≤ t) (hd : D = d * 2 ^ t.toNat) (he : ¬ (d % 2 = 0)) : Tw D t := by
  have p := p_pos t.toNat
  have e : D / 2 ^ t.toNat = d := by rw [hd]; exact Int.mul_ediv_cancel _ (Int.ne_of_gt p)
  refine ⟨t0, ?_, ?_⟩
  · rw [e]; exact hd
  · rw [e]; omega
/-! ### sizes -/
theorem pw_bounds {w : Int} (h1 : 4 ≤ w) (h2 : w ≤ 32) : 16 ≤ (2 : Int) ^ w.toNat ∧ (2 : Int) ^ w.toNat ≤ 4294967296 := by
  have a : (2 : Int) ^ 4 ≤ 2 ^ w.toNat := p_mono (by omega)
  have b : (2 : Int) ^ w.toNat ≤ 2 ^ 32 := p_mono (by omega)
  exact ⟨a, b⟩
theorem log_small {m : Int} (h0 : 0 < m) (h : m < 2 ^ 80) : m.natAbs.log2 < 9000 := by
  have h1 : m.natAbs ≠ 0 := by omega
  have h2 : m.natAbs < 2 ^ 80 := by omega
  have := (Nat.log2_lt h1).mpr h2
  omega
theorem cpow1 {w : Int} (h1 : 0 ≤ w) (h2 : w ≤ 100000) : CPow 1 w := ⟨h1, by omega, by decide⟩
theorem cmul_l {x y : Int} (h0 : 0 ≤ x) (h : x < 2 ^ 64) : CMul x y := .inl ⟨by omega, h⟩
theorem sz2 : (2 : Nat) ≤ sizeLine := by decide
/-! ### two ints in a list: a box of draws -/
def Bx (H : Hp) (p : Addr) : Prop := ∃ r s : Int, H p = some (.lst [.int r, .int s])
theorem Bx.same {H H' : Hp} {p : Addr} (b : Bx H p) (s : Same H H') : Bx H' p := by
  obtain ⟨r, s', h⟩ := b
  exact ⟨r, s', s _ _ h⟩
theorem Same_thenX {p : Addr} {H H1 H2 : Hp} (hp : H p = none) (s : Same H H1) (x : SameX p H1 H2) : Same H H2 := fun b o h => x b o (ne_of_none h hp) (s b o h)
def Last (w d : Int) (xs : List Int) : Prop := ∀ s, xs[xs.length - 1]? = some s → s * d % 2 ^ w.toNat = 1
def spWhole : Sp := fun vs H Q _ => ∃ i : Int, vs = [.int i] ∧ Q (.bl true) H
def spBetween : Sp := fun vs H Q _ => ∃ i lo hi : Int, vs = [.int i, .int lo, .int hi] ∧ lo ≤ i ∧ i ≤ hi ∧ Q (.bl true) H
def spNeedW : Sp := fun vs H Q _ => ∃ i : Int, vs = [.int i] ∧ 4 ≤ i ∧ i ≤ 32 ∧ Q .non H
def spNeedD : Sp := fun vs H Q _ => ∃ w d : Int, vs = [.int w, .int d] ∧ 4 ≤ w ∧ w ≤ 32 ∧ 1 ≤ d ∧ d < 2 ^ w.toNat ∧ Q .non H
def spNeedOdd : Sp := fun vs H Q _ => ∃ w d : Int, vs = [.int w, .int d] ∧ 4 ≤ w ∧ w ≤ 32 ∧ 1 ≤ d ∧ d < 2 ^ w.toNat ∧ d % 2 = 1 ∧ Q .non H
def spSteps : Sp := fun vs H Q _ => ∃ w d : Int, vs = [.int w, .int d] ∧ 4 ≤ w ∧ w ≤ 32 ∧ 1 ≤ d ∧ d < 2 ^ w.toNat ∧ d % 2 = 1 ∧ ∀ (p : Addr) (xs : List Int) H', H p = none → H' p = some (.lst (xs.map V.int)) → Same H H' → Stp w d xs → Last w d xs → Q (.ref p) H'
def spInv : Sp := fun vs H Q _ => ∃ w d : Int, vs = [.int w, .int d] ∧ 4 ≤ w ∧ w ≤ 32 ∧ 1 ≤ d ∧ d < 2 ^ w.toNat ∧ d % 2 = 1 ∧ ∀ (v : Int) H', Same H H' → 0 ≤ v → v < 2 ^ w.toNat → v * d % 2 ^ w.toNat = 1 → Q (.int v) H'
def spStart (K : PySem.W.Frag) : Sp := fun vs H Q _ => ∃ (a : Addr) (ns : List Int) (k : Int), vs = [.ref a, .int k] ∧ SqL K H a (ns.map V.int) ∧ 0 ≤ k ∧ k ≤ 1000 ∧ ∀ p H', H p = none → Bx H' p → Same H H' → Q (.ref p) H'
def spTake : Sp := fun vs H Q _ => ∃ (p : Addr) (m : Int), vs = [.ref p, .int m] ∧ Bx H p ∧ 0 < m ∧ m < 2 ^ 80 ∧ ∀ (d : Int) H', 0 ≤ d → d < m → Bx H' p → SameX p H H' → Q (.int d) H'
def spDiv : Sp := fun vs H Q _ => ∃ (p : Addr) (w : Int), vs = [.ref p, .int w] ∧ Bx H p ∧ 4 ≤ w ∧ w ≤ 32 ∧ ∀ (d : Int) H', 1 ≤ d → d < 2 ^ w.toNat → Bx H' p → SameX p H H' → Q (.int d) H'
def spCase : Sp := fun vs H Q _ => ∃ p : Addr, vs = [.ref p] ∧ Bx H p ∧ ∀ H', SameX p H H' → Q (.bl true) H'
def spLaw (K : PySem.W.Frag) : Sp := fun vs H Q _ => ∃ (a : Addr) (ns : List Int), vs = [.ref a] ∧ SqL K H a (ns.map V.int) ∧ ns.length ≤ 63 ∧ ∀ H', Q (.bl true) H'
def lenOf : Option HO → Nat
  | some (.lst ys) => ys.length
  | _ => 0
def Iv (w d t i : Int) : Prop := 0 ≤ i ∧ i < 2 ^ w.toNat ∧ d / 2 ^ t.toNat * i % 2 ^ w.toNat = 1
def spTwos : Sp := fun vs H Q _ => ∃ d : Int, vs = [.int d] ∧ 1 ≤ d ∧ ∀ t : Int, Tw d t → Q (.int t) H
def spExact : Sp := fun vs H Q _ => ∃ w d : Int, vs = [.int w, .int d] ∧ 4 ≤ w ∧ w ≤ 32 ∧ 1 ≤ d ∧ d < 2 ^ w.toNat ∧ ∀ (p : Addr) (t i : Int) H', H p = none → H' p = some (.tup [.int t, .int i]) → Same H H' → Tw d t → Iv w d t i → Q (.ref p) H'
def spExq : Sp := fun vs H Q _ => ∃ w d x : Int, vs = [.int w, .int d, .int x] ∧ 4 ≤ w ∧ w ≤ 32 ∧ 1 ≤ d ∧ d < 2 ^ w.toNat ∧ 0 ≤ x ∧ x < 2 ^ w.toNat ∧ ∀ (t i : Int) H', Same H H' → Tw d t → Iv w d t i → Q (.int (x / 2 ^ t.toNat * i % (1 * 2 ^ w.toNat))) H'
def spTurned : Sp := fun vs H Q _ => ∃ w x k : Int, vs = [.int w, .int x, .int k] ∧ 4 ≤ w ∧ w ≤ 32 ∧ 0 ≤ k ∧ k < w ∧ Q (.int (rot w x k)) H
def spLTurned : Sp := fun vs H Q _ => ∃ w x k : Int, vs = [.int w, .int x, .int k] ∧ 4 ≤ w ∧ w ≤ 32 ∧ 0 ≤ k ∧ k < w ∧ Q (.int (rot w x k)) H
def spMultOf : Sp := fun vs H Q _ => ∃ w d : Int, vs = [.int w, .int d] ∧ 4 ≤ w ∧ w ≤ 32 ∧ 1 ≤ d ∧ d < 2 ^ w.toNat ∧ ∀ (p : Addr) (t i : Int) H', H p = none → H' p = some (.tup [.int i, .int t, .int ((1 * 2 ^ w.toNat - 1) / d)]) → Same H H' → Tw d t → Iv w d t i → Q (.ref p) H'
def spIsMult : Sp := fun vs H Q _ => ∃ w d x : Int, vs = [.int w, .int d, .int x] ∧ 4 ≤ w ∧ w ≤ 32 ∧ 1 ≤ d ∧ d < 2 ^ w.toNat ∧ 0 ≤ x ∧ x < 2 ^ w.toNat ∧ ∀ H', Same H H' → Q (.bl (decide (x % d = 0))) H'
def InW (w : Int) (xs : List Int) : Prop := ∀ (j : Nat) (x : Int), xs[j]? = some x → 0 ≤ x ∧ x < 2 ^ w.toNat
def spWords : Sp := fun vs H Q _ => ∃ (p : Addr) (w d : Int), vs = [.ref p, .int w, .int d] ∧ Bx H p ∧ 4 ≤ w ∧ w ≤ 32 ∧ 1 ≤ d ∧ d < 2 ^ w.toNat ∧ ∀ (l : Addr) (xs : List Int) H', H l = none → H' l = some (.lst (xs.map V.int)) → InW w xs → Bx H' p → SameX p H H' → Q (.ref l) H'
def spWordR : Sp := fun vs H Q _ => ∃ w d x t i : Int, vs = [.int w, .int d, .int x, .int t, .int i] ∧ 4 ≤ w ∧ w ≤ 32 ∧ 1 ≤ d ∧ d < 2 ^ w.toNat ∧ 0 ≤ x ∧ x < 2 ^ w.toNat ∧ Tw d t ∧ Iv w d t i ∧ ∀ H', Same H H' → Q (.bl true) H'
theorem tw_div {d t : Int} (d1 : 1 ≤ d) (h : Tw d t) : 1 ≤ d / 2 ^ t.toNat ∧ d / 2 ^ t.toNat ≤ d := by
  obtain ⟨t0, t1, t2⟩ := h
  have a := Int.ediv_nonneg (show 0 ≤ d by omega) (Int.le_of_lt (p_pos t.toNat))
  have b := Int.ediv_le_self (2 ^ t.toNat) (show 0 ≤ d by omega)
  omega
theorem InW.app {w : Int} {xs ys : List Int} (a : InW w xs) (b : InW w ys) : InW w (xs ++ ys) := by
  intro j x h
  by_cases hj : j < xs.length
  · rw [List.getElem?_append_left hj] at h
    exact a j x h
  · rw [List.getElem?_append_right (by omega)] at h
    exact b _ x h
theorem InW.nil {w : Int} : InW w [] := fun j x h => by simp at h
theorem InW.cons {w x : Int} {xs : List Int} (h0 : 0 ≤ x) (h1 : x < 2 ^ w.toNat) (a : InW w xs) : InW w (x :: xs) := by
  intro j y h
  cases j with
  | zero => cases h; exact ⟨h0, h1⟩
  | succ j => exact a j y h
theorem eqV_int (i : Int) : eqV (V.int i) (V.int i) = true := by show (i == i) = true; exact beq_self_eq_true i
def CorM (last d x : Int) : Prop := x = 0 ∨ x = (if d - 1 < last then d - 1 else last) ∨ x = last / d * d ∨ x = last ∨ (last / d ≠ 0 ∧ x = last / d * d - 1)
def Cor (last d : Int) (zs : List Int) : Prop := zs.Pairwise (· < ·) ∧ ∀ x, x ∈ zs ↔ CorM last d x
def brt (e f a t x : Int) : Int := (f * (x / 2 ^ e.toNat) + a) / 2 ^ t.toNat
theorem dv {n T k : Int} (hT : 0 < T) : n / T = k ↔ k * T ≤ n ∧ n < k * T + T := by
  constructor
  · rintro rfl
    have h1 := Int.mul_ediv_add_emod n T
    have h2 := Int.emod_nonneg n (Int.ne_of_gt hT)
    have h3 := Int.emod_lt_of_pos n hT
    rw [Int.mul_comm] at h1
    omega
  · rintro ⟨h1, h2⟩
    refine Int.le_antisymm ?_ ?_
    · exact Int.le_of_lt_add_one (Int.ediv_lt_of_lt_mul hT (by rw [Int.add_mul, Int.one_mul]; exact h2))
    · exact Int.le_ediv_of_mul_le hT h1
/-- a straight line between two places -/
theorem line {m c k q : Int} (h0 : 0 ≤ k) (h1 : k ≤ q) (a : 0 ≤ c) (b : 0 ≤ c + q * m) : 0 ≤ c + k * m := by
  by_cases hm : 0 ≤ m
  · have := Int.mul_nonneg h0 hm
    omega
  · have : q * m ≤ k * m := Int.mul_le_mul_of_nonpos_right h1 (by omega)
    omega
theorem corners_hold {last d e f a t : Int} (l0 : 0 ≤ last) (d1 : 1 ≤ d) (f0 : 0 ≤ f) (a0 : 0 ≤ a) (he : (2 : Int) ^ e.toNat ∣ d)
    (h : ∀ x, CorM last d x → brt e f a t x = x / d) : ∀ x, 0 ≤ x → x ≤ last → brt e f a t x = x / d := by
  obtain ⟨D, rfl⟩ := he
  have T0 : 0 < (2 : Int) ^ t.toNat := Int.pow_pos (by decide)
  have E0 : 0 < (2 : Int) ^ e.toNat := Int.pow_pos (by decide)
  unfold brt at h ⊢
  generalize (2 : Int) ^ t.toNat = T at *
  generalize (2 : Int) ^ e.toNat = E at *
  have D0 : 0 < D := Int.pos_of_mul_pos_right (show 0 < E * D by omega) E0
  have dd : ∀ x : Int, x / (E * D) = x / E / D := fun x => (Int.ediv_ediv_of_nonneg (Int.le_of_lt E0)).symm
  -- at y = x / E
  have at_ : ∀ x, CorM last (E * D) x → ∀ y, x / E = y → ∀ k, y / D = k → k * T ≤ f * y + a ∧ f * y + a < k * T + T := fun x hx y hy k hk => by
    have z := h x hx
    rw [dd, hy, hk] at z
    exact (dv T0).mp z
  intro x x0 x1
  rw [dd]
  refine (dv T0).mpr ?_
  have hq : last / (E * D) = last / E / D := dd last
  -- names
  have q0 : 0 ≤ last / (E * D) := Int.ediv_nonneg l0 (by omega)
  have hk0 : 0 ≤ x / E / D := Int.ediv_nonneg (Int.ediv_nonneg x0 (by omega)) (by omega)
  have hkq : x / E / D ≤ last / (E * D) := by
    rw [hq]
    exact Int.ediv_le_ediv D0 (Int.ediv_le_ediv E0 x1)
  have ylast : x / E ≤ last / E := Int.ediv_le_ediv E0 x1
  generalize hQ : last / (E * D) = q at *
  generalize hK : x / E / D = k at *
  generalize hY : x / E = y at *
  have yk := (dv D0).mp hK
  -- the corner at q * d
  have c1 : (q * (E * D)) / E = q * D := by
    rw [Int.mul_left_comm]
    exact Int.mul_ediv_cancel_left _ (Int.ne_of_gt E0)
  have c2 : q * D / D = q := Int.mul_ediv_cancel _ (Int.ne_of_gt D0)
  have k1 := at_ (q * (E * D)) (by unfold CorM; rw [hQ]; exact .inr (.inr (.inl rfl))) _ c1 _ c2
  have k0 := at_ 0 (.inl rfl) 0 (Int.zero_ediv _) 0 (Int.zero_ediv _)
  have kl := at_ last (.inr (.inr (.inr (.inl rfl)))) _ rfl q (by rw [← hq])
  have fD : ∀ z : Int, f * (z * D) = z * (f * D) := fun z => by rw [Int.mul_left_comm]
  constructor
  · -- from below
    have l1 := line (m := f * D - T) (c := a) hk0 hkq (by omega) (by
      have z := k1.1
      rw [fD] at z
      rw [Int.mul_sub]
      omega)
    rw [Int.mul_sub, ← fD] at l1
    have mono : f * (k * D) ≤ f * y := Int.mul_le_mul_of_nonneg_left yk.1 f0
    omega
  · -- from above
    by_cases hkk : k = q
    · subst hkk
      have mono : f * y ≤ f * (last / E) := Int.mul_le_mul_of_nonneg_left ylast f0
      omega
    · have qpos : 1 ≤ q := by omega
      -- the corners d - 1 and q d - 1
      have lastd : E * D ≤ last := by
        have z := (dv (show 0 < E * D by omega)).mp hQ
        have : 1 * (E * D) ≤ q * (E * D) := Int.mul_le_mul_of_nonneg_right qpos (by omega)
        omega
      have c3 : ∀ z : Int, (z * (E * D) - 1) / E = z * D - 1 := fun z => by
        refine (dv E0).mpr ?_
        have e1 : z * (E * D) = z * D * E := by rw [Int.mul_comm E D, Int.mul_assoc]
        rw [e1, Int.sub_mul, Int.one_mul]
        omega
      have c4 : ∀ z : Int, (z * D - 1) / D = z - 1 := fun z => by
        refine (dv D0).mpr ?_
        rw [Int.sub_mul, Int.one_mul]
        omega
      have u0 := at_ (1 * (E * D) - 1) (.inr (.inl (by rw [Int.one_mul, if_pos (by omega)]))) _ (c3 1) _ (c4 1)
      have uq := at_ (q * (E * D) - 1) (by unfold CorM; rw [hQ]; exact .inr (.inr (.inr (.inr ⟨by omega, rfl⟩)))) _ (c3 q) _ (c4 q)
      -- c + k m > 0 with c = T - f (D - 1) - a, m = T - f D
      have v0 := u0.2
      have vq := uq.2
      rw [Int.mul_sub, fD, Int.mul_one] at v0 vq
      have l2 := line (m := T - f * D) (c := T - f * D + f - a - 1) (k := k) (q := q - 1) hk0 (by omega) (by omega) (by
        rw [Int.mul_sub, Int.sub_mul, Int.sub_mul, Int.one_mul, Int.one_mul]
        rw [Int.sub_mul, Int.one_mul] at vq
        omega)
      rw [Int.mul_sub] at l2
      have mono : f * y ≤ f * (k * D + D - 1) := Int.mul_le_mul_of_nonneg_left (by omega) f0
      have e3 : f * (k * D + D - 1) = k * (f * D) + f * D - f := by rw [Int.mul_sub, Int.mul_add, fD, Int.mul_one]
      omega

theorem b200 {x : Int} (h1 : -(2 ^ 200) < x) (h2 : x < 2 ^ 200) : intBits x ≤ 100000 := Nat.le_trans (intBits_le_iff.mpr (show x.natAbs < 2 ^ 200 by omega)) (by decide)
theorem inV_ints {x : Int} {fs : List Int} : inV (V.int x) (fs.map V.int) = decide (x ∈ fs) := by
  unfold inV
  rw [Bool.eq_iff_iff, decide_eq_true_iff, List.any_eq_true]
  constructor
  · rintro ⟨y, hy, e⟩
    obtain ⟨z, hz, rfl⟩ := List.mem_map.mp hy
    have : z = x := beq_iff_eq.mp (show (z == x) = true from e)
    exact this ▸ hz
  · intro h
    exact ⟨V.int x, List.mem_map.mpr ⟨x, h, rfl⟩, eqV_int x⟩
theorem flat_all (fs : List Int) : (fs.map V.int).all flatV = true := by
  rw [List.all_eq_true]
  intro x hx
  obtain ⟨z, _, rfl⟩ := List.mem_map.mp hx
  rfl
def spCorners : Sp := fun vs H Q _ => ∃ last d : Int, vs = [.int last, .int d] ∧ 0 ≤ last ∧ last ≤ 18446744073709551616 ∧ 1 ≤ d ∧ d ≤ 18446744073709551616 ∧ ∀ (p : Addr) (zs : List Int) H', H p = none → H' p = some (.lst (zs.map V.int)) → Same H H' → Cor last d zs → zs.length ≤ 5 → Q (.ref p) H'
def spCWords : Sp := fun vs H Q _ => ∃ w d : Int, vs = [.int w, .int d] ∧ 4 ≤ w ∧ w ≤ 32 ∧ 1 ≤ d ∧ d < 2 ^ w.toNat ∧ ∀ (p : Addr) (zs : List Int) H', H p = none → H' p = some (.lst (zs.map V.int)) → Same H H' → Cor (1 * 2 ^ w.toNat - 1) d zs → zs.length ≤ 5 → Q (.ref p) H'
def Reck (d e f a t : Int) : Prop := 0 ≤ e ∧ (2 : Int) ^ e.toNat ∣ d ∧ 0 ≤ f ∧ f ≤ 1180591620717411303424 ∧ 0 ≤ a ∧ a ≤ 1180591620717411303424 ∧ 0 ≤ t ∧ t ≤ 130
def spReck : Sp := fun vs H Q _ => ∃ (p : Addr) (w d : Int), vs = [.ref p, .int w, .int d] ∧ Bx H p ∧ 2 ≤ w ∧ w ≤ 20 ∧ 1 ≤ d ∧ d ≤ 18446744073709551616 ∧ ∀ (r : Addr) (e f a t : Int) H', H' r = some (.tup [.int e, .int f, .int a, .int t]) → Reck d e f a t → Bx H' p → SameX p H H' → r ≠ p → Q (.ref r) H'
def spList : Sp := fun vs H Q _ => ∃ (a b : Addr) (zs : List Int), vs = [.ref a, .ref b] ∧ H a = some (.lst (zs.map V.int)) ∧ H b = some (.lst (zs.map V.int)) ∧ Q (.bl true) H
def spPair : Sp := fun vs H Q _ => ∃ p : Addr, vs = [.ref p] ∧ Bx H p ∧ ∀ (r : Addr) (d last : Int) H', H' r = some (.tup [.int d, .int last]) → 1 ≤ d → d ≤ 18446744073709551616 → 0 ≤ last → last ≤ 18446744073709551616 → Bx H' p → SameX p H H' → Q (.ref r) H'
theorem pw_of {zs : List Int} {fs : List Int} (pw : zs.Pairwise (· ≤ ·)) (pm : zs.Perm fs) (nd : fs.Nodup) : zs.Pairwise (· < ·) := strict pw (pm.nodup_iff.mpr nd)
/-- the bounds of the corners' numbers -/
theorem cor_nums {last d : Int} (l0 : 0 ≤ last) (l1 : last ≤ 18446744073709551616) (d1 : 1 ≤ d) : 0 ≤ last / d ∧ last / d ≤ last ∧ 0 ≤ last / d * d ∧ last / d * d ≤ last ∧ (last / d ≠ 0 → 1 ≤ last / d * d) := by
  have h0 := Int.ediv_nonneg l0 (show 0 ≤ d by omega)
  have h1 := Int.ediv_le_self d l0
  have h2 := Int.mul_nonneg h0 (show 0 ≤ d by omega)
  have h3 := Int.ediv_mul_le last (show d ≠ 0 by omega)
  refine ⟨h0, h1, h2, h3, fun hz => ?_⟩
  have := Int.mul_le_mul (show 1 ≤ last / d by omega) d1 (by decide) h0
  omega
theorem tw_small {d t : Int} (d1 : 1 ≤ d) (d2 : d ≤ 18446744073709551616) (h : Tw d t) : t ≤ 64 := by
  obtain ⟨t0, t1, t2⟩ := h
  refine Classical.byContradiction fun z => ?_
  have a : (2 : Int) ^ 65 ≤ 2 ^ t.toNat := p_mono (by omega)
  have b : d / 2 ^ t.toNat = 0 := Int.ediv_eq_zero_of_lt (by omega) (by omega)
  omega
theorem tw_dvd {d t y : Int} (h : Tw d t) (y0 : 0 ≤ y) (hy : y ≤ t) : (2 : Int) ^ y.toNat ∣ d := by
  obtain ⟨t0, t1, t2⟩ := h
  have e : t.toNat = y.toNat + (t.toNat - y.toNat) := by omega
  refine ⟨d / 2 ^ t.toNat * 2 ^ (t.toNat - y.toNat), ?_⟩
  conv => lhs; rw [t1]
  rw [Int.mul_left_comm]
  congr 1
  conv => lhs; rw [e]
  exact Int.pow_add ..
theorem upd_upd {H : Hp} {l : Addr} {a b : HO} : upd (upd H l a) l b = upd H l b := by
  funext c
  by_cases h : c = l
  · rw [h, upd_same, upd_same]
  · rw [upd_ne h, upd_ne h, upd_ne h]
theorem made_same {x dx C : Addr} {H H' : Hp} (hx : H x = none) (hd : H dx = none) (s : SameX x (upd (upd H dx (.own x)) x (.ins C dx [])) H') : Same H H' := fun b o h => s b o (ne_of_none h hx) (by rw [upd_ne (ne_of_none h hx), upd_ne (ne_of_none h hd)]; exact h)
theorem CorM.range {last d x : Int} (l0 : 0 ≤ last) (d1 : 1 ≤ d) (h : CorM last d x) : 0 ≤ x ∧ x ≤ last := by
  have h0 := Int.ediv_nonneg l0 (show 0 ≤ d by omega)
  have h2 := Int.mul_nonneg h0 (show 0 ≤ d by omega)
  have h3 := Int.ediv_mul_le last (show d ≠ 0 by omega)
  rcases h with e | e | e | e | ⟨hz, e⟩
  · omega
  · rw [e]; split <;> omega
  · omega
  · omega
  · have := Int.mul_le_mul (show 1 ≤ last / d by omega) d1 (by decide) h0
    omega
theorem iteC {c A B : Prop} [Decidable c] (h1 : c → A) (h2 : ¬ c → B) : if decide c = true then A else B := by
  by_cases h : c
  · exact iteD h (h1 h)
  · exact iteDN h (h2 h)
theorem iteCN {c A B : Prop} [Decidable c] (h1 : ¬ c → A) (h2 : c → B) : if (!decide c) = true then A else B := by
  by_cases h : c
  · exact iteNS h (h2 h)
  · exact iteN h (h1 h)
theorem iteI {a b : Int} {A B : Prop} (h1 : a = b → A) (h2 : a ≠ b → B) : if decide (V.int a = V.int b) = true then A else B := iteC (fun z => h1 (by injection z)) (fun z => h2 (fun e => z (congrArg V.int e)))
theorem iteIN {a b : Int} {A B : Prop} (h1 : a ≠ b → A) (h2 : a = b → B) : if (!decide (V.int a = V.int b)) = true then A else B := iteCN (fun z => h1 (fun e => z (congrArg V.int e))) (fun z => h2 (by injection z))
/-- the side of a rule -/
local macro_rules | `(tactic| walk_at "s") => `(tactic| first
  | omega | assumption | exact ty_int | exact rfl | (dsimp only; omega) | exact cpow1 (by omega) (by omega) | exact ⟨by decide, by decide⟩ | exact ⟨by omega, log_small (by omega) (by omega)⟩
  | exact .inr ⟨by decide, by decide⟩ | exact .inl ⟨by decide, by decide⟩ | exact .inl ⟨by omega, by omega⟩ | exact .inr ⟨by omega, by omega⟩ | exact ⟨b200 (by omega) (by omega), b200 (by omega) (by omega)⟩
  | exact ⟨by decide, by decide, by decide⟩ | exact Nat.le_of_ble_eq_true rfl)
local macro_rules | `(tactic| walk_at "q") => `(tactic| first | exact SqT.of (by first | assumption | exact upd_same) | exact SqL.of (by first | assumption | exact upd_same) | assumption)
/-- on, as far as nothing is to be told -/
local macro_rules | `(tactic| walk_at "o") => `(tactic| repeat (first
  | refine ⟨_, rfl, ?_⟩ | refine ⟨_, _, rfl, rfl, ?_⟩ | with_reducible refine iteF ?_ | with_reducible refine iteT ?_
  | refine ⟨_, _, _, _, rfl, rfl, (by walk_at "q"), rfl, ?_⟩
  | refine And.intro (by walk_at "s") ?_
  | refine ⟨_, _, rfl, ?_⟩ | refine ⟨_, _, _, rfl, ?_⟩
  | refine ⟨_, _, _, _, _, rfl, rfl, TyOf.int _, kit_int_int _, ?_⟩ | refine ⟨_, _, _, _, _, rfl, rfl, TyOf.int _, kit_int_bool _, ?_⟩
  | refine ⟨_, _, _, _, _, rfl, rfl, TyOf.bl _, rfl, ?_⟩
  | refine ⟨_, _, _, _, _, rfl, rfl, TyOf.tup (by assumption), rfl, ?_⟩
  | refine ⟨_, _, rfl, .inr (SqT.of (by assumption)), ?_⟩ | refine ⟨_, _, rfl, .inl (SqL.of (by assumption)), ?_⟩
  | with_reducible refine iteD (by omega) ?_ | with_reducible refine iteDN (by omega) ?_ | with_reducible refine iteN (by omega) ?_ | with_reducible refine iteNS (by omega) ?_
  | with_reducible refine iteNS rfl ?_))
/-- a way parts -/
local macro_rules | `(tactic| walk_at "c") => `(tactic| first | with_reducible refine iteI ?_ ?_ | with_reducible refine iteIN ?_ ?_ | with_reducible refine iteC ?_ ?_ | with_reducible refine iteCN ?_ ?_ | refine ite2 ?_ ?_)
local macro_rules | `(tactic| walk_at "n") => `(tactic| (intro z; injection z with z; revert z; decide +kernel))
theorem sz4 : (4 : Nat) ≤ sizeLine := by decide
/-! ### reckonings of any kind, and forms -/
def AllG (e f a t d n : Int) : Prop := ∀ x, 0 ≤ x → x ≤ n → brt e f a t x = x / d
theorem allG_corners {last d e f a t : Int} (l0 : 0 ≤ last) (d1 : 1 ≤ d) (f0 : 0 ≤ f) (a0 : 0 ≤ a) (he : (2 : Int) ^ e.toNat ∣ d) : (∀ x, CorM last d x → brt e f a t x = x / d) ↔ AllG e f a t d last :=
  ⟨fun h => corners_hold l0 d1 f0 a0 he h, fun h x hx => let ⟨a, b⟩ := hx.range l0 d1; h x a b⟩
theorem xdiv {x : Int} (x0 : 0 ≤ x) (e : Int) : 0 ≤ x / 2 ^ e.toNat ∧ x / 2 ^ e.toNat ≤ x := ⟨Int.ediv_nonneg x0 (Int.le_of_lt (p_pos _)), Int.ediv_le_self _ x0⟩
theorem e_small {w d e : Int} (w0 : 0 ≤ w) (d1 : 1 ≤ d) (d2 : d < 2 ^ w.toNat) (he : (2 : Int) ^ e.toNat ∣ d) (e0 : 0 ≤ e) : e < w := by
  refine Classical.byContradiction fun z => ?_
  have := Int.le_of_dvd (by omega) he
  have : (2 : Int) ^ w.toNat ≤ 2 ^ e.toNat := p_mono (by omega)
  omega
def RG (e f a t : Int) : Prop := 0 ≤ e ∧ e ≤ 64 ∧ 0 ≤ f ∧ f ≤ 1180591620717411303424 ∧ 0 ≤ a ∧ a ≤ 1180591620717411303424 ∧ 0 ≤ t ∧ t ≤ 130
def IsG (H : Hp) (r : Addr) (e f a t : Int) : Prop := H r = some (.tup [.int e, .int f, .int a, .int t])
def fOf (c : Ad) : Nat → Addr
  | 0 => c.Shifted
  | 1 => c.Scaled
  | 2 => c.Early
  | 3 => c.More
  | _ => c.Wide
def flds : Nat → Int → Int → Int → List (Str × V)
  | 0, _, _, s => [("shift", .int s)]
  | 2, e, f, s => [("early", .int e), ("factor", .int f), ("shift", .int s)]
  | _, _, f, s => [("factor", .int f), ("shift", .int s)]
def FO (c : Ad) (H : Hp) (x : Addr) (kd : Nat) (e f s : Int) : Prop := ∃ dx, H x = some (.ins (fOf c kd) dx (flds kd e f s))
structure Fm (kd : Nat) (e f s : Int) : Prop where
  k : kd < 5
  ea : 0 ≤ e
  eb : e ≤ 64
  e0 : kd ≠ 2 → e = 0
  fa : 0 ≤ f
  fb : f ≤ 4294967295
  sa : 0 ≤ s
  sb : s ≤ 64
  s1 : kd = 4 → 1 ≤ s
def nF : Nat → Int → Int → Int
  | 0, _, _ => 1
  | 4, w, f => 1 * 2 ^ w.toNat + f
  | _, _, f => f
def nA : Nat → Int → Int
  | 3, f => f
  | _, _ => 0
def nT : Nat → Int → Int → Int
  | 0, _, s => s
  | _, w, s => w + s
theorem Fm.rg {kd : Nat} {e f s w : Int} (h : Fm kd e f s) (h1 : 4 ≤ w) (h2 : w ≤ 32) : RG e (nF kd w f) (nA kd f) (nT kd w s) := by
  obtain ⟨k, ea, eb, e0, fa, fb, sa, sb, s1⟩ := h
  have pb := pw_bounds h1 h2
  rcases (by omega : kd = 0 ∨ kd = 1 ∨ kd = 2 ∨ kd = 3 ∨ kd = 4) with rfl | rfl | rfl | rfl | rfl <;> refine ⟨ea, eb, ?_⟩ <;> simp only [nF, nA, nT] <;> omega
def tlv : Nat → Int → Int → Int → List V
  | 0, _, _, s => [.str "shifted", .int s]
  | 1, _, f, s => [.str "scaled", .int f, .int s]
  | 2, e, f, s => [.str "early", .int e, .int f, .int s]
  | 3, _, f, s => [.str "more", .int f, .int s]
  | _, _, f, s => [.str "wide", .int f, .int s]
def spBroG : Sp := fun vs H Q _ => ∃ (r : Addr) (e f a t x : Int), vs = [.ref r, .int x] ∧ IsG H r e f a t ∧ RG e f a t ∧ 0 ≤ x ∧ x ≤ 18446744073709551616 ∧ Q (.int (brt e f a t x)) H
def spFac : Sp := fun vs H Q _ => ∃ i : Int, vs = [.int i] ∧ 0 ≤ i ∧ i ≤ 4294967295 ∧ Q (.bl true) H
def spShf : Sp := fun vs H Q _ => ∃ i : Int, vs = [.int i] ∧ 0 ≤ i ∧ i ≤ 64 ∧ Q (.bl true) H
def spIsG : Sp := fun vs H Q _ => ∃ (r : Addr) (e f a t : Int), vs = [.ref r] ∧ IsG H r e f a t ∧ RG e f a t ∧ Q (.bl true) H
def spNeedG : Sp := fun vs H Q _ => ∃ (w d : Int) (r : Addr) (e f a t : Int), vs = [.int w, .int d, .ref r] ∧ 4 ≤ w ∧ w ≤ 32 ∧ 1 ≤ d ∧ d < 2 ^ w.toNat ∧ IsG H r e f a t ∧ RG e f a t ∧ (2 : Int) ^ e.toNat ∣ d ∧ Q .non H
def spRightG : Sp := fun vs H Q _ => ∃ (last d : Int) (r : Addr) (e f a t : Int), vs = [.int last, .int d, .ref r] ∧ 0 ≤ last ∧ last ≤ 18446744073709551616 ∧ 1 ≤ d ∧ d ≤ 18446744073709551616 ∧ IsG H r e f a t ∧ RG e f a t ∧ (2 : Int) ^ e.toNat ∣ d ∧ ∀ (b : Bool) H', Same H H' → (b = true ↔ AllG e f a t d last) → Q (.bl b) H'
def spRRG : Sp := fun vs H Q _ => ∃ (w d : Int) (r : Addr) (e f a t : Int), vs = [.int w, .int d, .ref r] ∧ 4 ≤ w ∧ w ≤ 32 ∧ 1 ≤ d ∧ d < 2 ^ w.toNat ∧ IsG H r e f a t ∧ RG e f a t ∧ (2 : Int) ^ e.toNat ∣ d ∧ ∀ (b : Bool) H', Same H H' → (b = true ↔ AllG e f a t d (1 * 2 ^ w.toNat - 1)) → Q (.bl b) H'
def spI0 (c : Ad) : Sp := fun vs H Q _ => ∃ (x dx : Addr) (s : Int), vs = [.ref x, .int s] ∧ H x = some (.ins (fOf c 0) dx []) ∧ 0 ≤ s ∧ s ≤ 64 ∧ ∀ H', SameX x H H' → FO c H' x 0 0 0 s → Q .non H'
def spI2 (c : Ad) (kd : Nat) (lo : Int) : Sp := fun vs H Q _ => ∃ (x dx : Addr) (f s : Int), vs = [.ref x, .int f, .int s] ∧ H x = some (.ins (fOf c kd) dx []) ∧ 0 ≤ f ∧ f ≤ 4294967295 ∧ lo ≤ s ∧ s ≤ 64 ∧ ∀ H', SameX x H H' → FO c H' x kd 0 f s → Q .non H'
def spI3 (c : Ad) : Sp := fun vs H Q _ => ∃ (x dx : Addr) (e f s : Int), vs = [.ref x, .int e, .int f, .int s] ∧ H x = some (.ins (fOf c 2) dx []) ∧ 0 ≤ e ∧ e ≤ 64 ∧ 0 ≤ f ∧ f ≤ 4294967295 ∧ 0 ≤ s ∧ s ≤ 64 ∧ ∀ H', SameX x H H' → FO c H' x 2 e f s → Q .non H'
def spNums (c : Ad) (kd : Nat) : Sp := fun vs H Q _ => ∃ (x : Addr) (w e f s : Int), vs = [.ref x, .int w] ∧ FO c H x kd e f s ∧ Fm kd e f s ∧ 4 ≤ w ∧ w ≤ 32 ∧ ∀ r H', H r = none → IsG H' r e (nF kd w f) (nA kd f) (nT kd w s) → Same H H' → Q (.ref r) H'
def spNeedF (c : Ad) : Sp := fun vs H Q _ => ∃ (w d : Int) (x : Addr) (kd : Nat) (e f s : Int), vs = [.int w, .int d, .ref x] ∧ 4 ≤ w ∧ w ≤ 32 ∧ 1 ≤ d ∧ d < 2 ^ w.toNat ∧ FO c H x kd e f s ∧ Fm kd e f s ∧ (2 : Int) ^ e.toNat ∣ d ∧ ∀ H', Same H H' → Q .non H'
def spIR (c : Ad) : Sp := fun vs H Q _ => ∃ (w d : Int) (x : Addr) (kd : Nat) (e f s : Int), vs = [.int w, .int d, .ref x] ∧ 4 ≤ w ∧ w ≤ 32 ∧ 1 ≤ d ∧ d < 2 ^ w.toNat ∧ FO c H x kd e f s ∧ Fm kd e f s ∧ (2 : Int) ^ e.toNat ∣ d ∧ ∀ (b : Bool) H', Same H H' → (b = true ↔ AllG e (nF kd w f) (nA kd f) (nT kd w s) d (1 * 2 ^ w.toNat - 1)) → Q (.bl b) H'
def spNumb : Sp := fun vs H Q _ => ∃ (r : Addr) (w : Int) (kd : Nat) (e f s : Int), vs = [.ref r, .int w] ∧ H r = some (.tup (tlv kd e f s)) ∧ Fm kd e f s ∧ 4 ≤ w ∧ w ≤ 32 ∧ ∀ p H', H p = none → IsG H' p e (nF kd w f) (nA kd f) (nT kd w s) → Same H H' → Q (.ref p) H'
def spMakeF (c : Ad) : Sp := fun vs H Q _ => ∃ (r : Addr) (kd : Nat) (e f s : Int), vs = [.ref r] ∧ H r = some (.tup (tlv kd e f s)) ∧ Fm kd e f s ∧ ∀ x H', H x = none → FO c H' x kd e f s → Same H H' → Q (.ref x) H'
def spNear : Sp := fun vs H Q _ => ∃ (p : Addr) (w d : Int), vs = [.ref p, .int w, .int d] ∧ Bx H p ∧ 4 ≤ w ∧ w ≤ 32 ∧ 1 ≤ d ∧ d < 2 ^ w.toNat ∧ ∀ (r : Addr) (kd : Nat) (e f s : Int) H', H r = none → H' r = some (.tup (tlv kd e f s)) → Fm kd e f s → (2 : Int) ^ e.toNat ∣ d → Bx H' p → SameX p H H' → Q (.ref r) H'
def spReckG : Sp := fun vs H Q _ => ∃ (p : Addr) (w d : Int), vs = [.ref p, .int w, .int d] ∧ Bx H p ∧ 2 ≤ w ∧ w ≤ 32 ∧ 1 ≤ d ∧ d ≤ 18446744073709551616 ∧ ∀ (r : Addr) (e f a t : Int) H', H' r = some (.tup [.int e, .int f, .int a, .int t]) → Reck d e f a t → Bx H' p → SameX p H H' → r ≠ p → Q (.ref r) H'
def spDueG : Sp := fun vs H Q _ => ∃ (w d : Int) (r : Addr) (e f a t : Int), vs = [.int w, .int d, .ref r] ∧ 4 ≤ w ∧ w ≤ 32 ∧ 1 ≤ d ∧ d < 2 ^ w.toNat ∧ IsG H r e f a t ∧ RG e f a t ∧ (2 : Int) ^ e.toNat ∣ d ∧ ∀ (b : Bool) H', Same H H' → (b = true ↔ AllG e f a t d (1 * 2 ^ w.toNat - 1)) → Q (.bl b) H'
def spOther : Sp := fun vs H Q _ => ∃ (p : Addr) (w d e : Int), vs = [.ref p, .int w, .int d, .int e] ∧ Bx H p ∧ 4 ≤ w ∧ w ≤ 32 ∧ 1 ≤ d ∧ d < 2 ^ w.toNat ∧ 0 ≤ e ∧ (2 : Int) ^ e.toNat ∣ d ∧ ∀ (r : Addr) (i g : Int) H', H' r = some (.tup [.int i, .int g]) → 4 ≤ i → i ≤ 32 → 1 ≤ g → g < 2 ^ i.toNat → (2 : Int) ^ e.toNat ∣ g → Bx H' p → SameX p H H' → Q (.ref r) H'
def spCase23 (c : Ad) : Sp := fun vs H Q _ => ∃ p : Addr, vs = [.ref p] ∧ Bx H p ∧ ∀ H', SameX p H H' → Q (.bl true) H'
theorem pow32 : (2 ^ (32 : Int).toNat : Int) = 4294967296 := by decide
theorem Reck.rg {d e f a t : Int} (h : Reck d e f a t) (d1 : 1 ≤ d) (d2 : d < 4294967296) : RG e f a t := by
  obtain ⟨h1, h2, h3, h4, h5, h6, h7, h8⟩ := h
  have := e_small (w := 32) (by decide) d1 d2 h2 h1
  exact ⟨h1, by omega, h3, h4, h5, h6, h7, h8⟩
/-- the ceiling -/
theorem ceil_eq {a d : Int} (d1 : 1 ≤ d) : -(-a / d) = (a + d - 1) / d := by
  have h1 := Int.mul_ediv_add_emod (-a) d
  have h2 := Int.emod_nonneg (-a) (show d ≠ 0 by omega)
  have h3 := Int.emod_lt_of_pos (-a) (show 0 < d by omega)
  symm
  refine (dv (show 0 < d by omega)).mpr ?_
  rw [Int.mul_comm d] at h1
  rw [Int.neg_mul]
  omega
/-! ### k25: the candidates of a width and a divisor -/
theorem wide_div {A B d x : Int} (hA : 0 < A) (hB : 0 < B) (d1 : 1 ≤ d) (d2 : d ≤ B) (x0 : 0 ≤ x) (x1 : x < A) : (A * B + d - 1) / d * x / (A * B) = x / d := by
  have AB : 0 < A * B := Int.mul_pos hA hB
  have m1 := Int.ediv_mul_le (A * B + d - 1) (show d ≠ 0 by omega)
  have m2 := Int.lt_ediv_add_one_mul_self (A * B + d - 1) (show 0 < d by omega)
  have q1 := Int.ediv_mul_le x (show d ≠ 0 by omega)
  have q2 := Int.lt_ediv_add_one_mul_self x (show 0 < d by omega)
  have q0 : 0 ≤ x / d := Int.ediv_nonneg x0 (by omega)
  have m0 : 0 ≤ (A * B + d - 1) / d := Int.ediv_nonneg (by omega) (by omega)
  generalize (A * B + d - 1) / d = m at m0 m1 m2 ⊢
  generalize x / d = q at q0 q1 q2 ⊢
  generalize hT : A * B = T at AB m1 m2 ⊢
  rw [Int.add_mul, Int.one_mul] at m2 q2
  refine (dv AB).mpr ⟨?_, ?_⟩
  · have a : q * T ≤ q * (m * d) := Int.mul_le_mul_of_nonneg_left (by omega) q0
    have b : m * (q * d) ≤ m * x := Int.mul_le_mul_of_nonneg_left q1 m0
    rw [Int.mul_left_comm] at a
    omega
  · have a : m * d * x ≤ (T + d - 1) * x := Int.mul_le_mul_of_nonneg_right m1 x0
    have b : T * (x + 1) ≤ T * (q * d + d) := Int.mul_le_mul_of_nonneg_left (by omega) (by omega)
    have c : (d - 1) * x ≤ (B - 1) * (A - 1) := Int.mul_le_mul (by omega) (by omega) x0 (by omega)
    have e : (B - 1) * (A - 1) = T - A - B + 1 := by rw [← hT, Int.sub_mul, Int.mul_sub, Int.mul_sub, Int.mul_comm B A]; omega
    have f : (T + d - 1) * x = T * x + (d - 1) * x := by rw [show T + d - 1 = T + (d - 1) by omega, Int.add_mul]
    have g : T * (x + 1) = T * x + T := by rw [Int.mul_add, Int.mul_one]
    have h : m * x * d < (q * T + T) * d := by
      have h1 : m * x * d = m * d * x := by rw [Int.mul_assoc, Int.mul_comm x d, ← Int.mul_assoc]
      have h2 : (q * T + T) * d = T * (q * d + d) := by rw [Int.add_mul, Int.mul_add, Int.mul_right_comm, Int.mul_comm (q * d) T]
      rw [h1, h2]
      omega
    exact Int.lt_of_mul_lt_mul_right h (by omega)
theorem wide_fac {A B d : Int} (hA : 1 ≤ A) (d1 : 1 ≤ d) (d2 : d ≤ B) (d3 : B ≤ 2 * (d - 1)) (d4 : d < A) : A ≤ (A * B + d - 1) / d ∧ (A * B + d - 1) / d < 2 * A := by
  have a : A * d ≤ A * B := Int.mul_le_mul_of_nonneg_left d2 (by omega)
  have b : A * B ≤ A * (2 * (d - 1)) := Int.mul_le_mul_of_nonneg_left d3 (by omega)
  have e : A * (2 * (d - 1)) = 2 * (A * d) - 2 * A := by rw [Int.mul_left_comm, Int.mul_sub, Int.mul_one, Int.mul_sub]
  refine ⟨Int.le_ediv_of_mul_le (by omega) (by omega), Int.ediv_lt_of_lt_mul (by omega) ?_⟩
  rw [Int.mul_assoc]
  omega
theorem bl_le {d : Int} (d1 : 1 ≤ d) : d ≤ 2 ^ intBits (d - 1) := by
  have h : (d - 1).natAbs < 2 ^ intBits (d - 1) := intBits_le_iff.mp (Nat.le_refl _)
  have e : ((2 ^ intBits (d - 1) : Nat) : Int) = 2 ^ intBits (d - 1) := by rw [Int.natCast_pow]; rfl
  omega
theorem bl_ge {d : Int} (d1 : 1 ≤ d) (h0 : 0 < intBits (d - 1)) : (2 : Int) ^ intBits (d - 1) ≤ 2 * (d - 1) := by
  obtain ⟨n, hn⟩ : ∃ n, intBits (d - 1) = n + 1 := ⟨intBits (d - 1) - 1, by omega⟩
  have h : ¬ intBits (d - 1) ≤ n := by omega
  rw [intBits_le_iff] at h
  have e : ((2 ^ n : Nat) : Int) = 2 ^ n := by rw [Int.natCast_pow]; rfl
  rw [hn, Int.pow_succ]
  omega
theorem bl_32 {d : Int} {w : Int} (w2 : w ≤ 32) (d1 : 1 ≤ d) (d2 : d < 2 ^ w.toNat) : intBits (d - 1) ≤ 32 ∧ intBits d ≤ 32 ∧ 1 ≤ intBits d := by
  have : (2 : Int) ^ w.toNat ≤ 2 ^ 32 := p_mono (by omega)
  refine ⟨intBits_le_iff.mpr (show (d - 1).natAbs < 2 ^ 32 by omega), intBits_le_iff.mpr (show d.natAbs < 2 ^ 32 by omega), ?_⟩
  refine Classical.byContradiction fun z => ?_
  have h := (intBits_le_iff (m := 0) (x := d)).mp (by omega)
  omega
theorem bl_0 {d : Int} (d1 : 1 ≤ d) : intBits (d - 1) = 0 ↔ d = 1 := by
  constructor
  · intro h
    have := bl_le d1
    rw [h, Int.pow_zero] at this
    omega
  · rintro rfl
    rfl
structure Cd where
  kd : Nat
  e : Int
  f : Int
  s : Int
def upI (a b : Int) : Int := (a + b - 1) / b
def cSc (kd : Nat) (e A d : Int) (n : Nat) : List Cd := (List.range n).filterMap fun (k : Nat) => if upI (A * 2 ^ k) d < A then some ⟨kd, e, upI (A * 2 ^ k) d, (k : Int)⟩ else none
def cMo (A d : Int) (n : Nat) : List Cd := (List.range n).filterMap fun (k : Nat) => if 1 ≤ (A * 2 ^ k - 1) / d ∧ (A * 2 ^ k - 1) / d < A then some ⟨3, 0, (A * 2 ^ k - 1) / d, (k : Int)⟩ else none
def cWi (A d : Int) : List Cd := if 0 < intBits (d - 1) then [⟨4, 0, upI (A * 2 ^ intBits (d - 1)) d - A, (intBits (d - 1) : Int)⟩] else []
def cEa (A d t : Int) : List Cd := if 0 < t then cSc 2 t A (d / 2 ^ t.toNat) (intBits (d / 2 ^ t.toNat - 1) + 1) else []
def cAll (A d t : Int) : List Cd := [⟨0, 0, 0, (intBits d : Int) - 1⟩] ++ cSc 1 0 A d (intBits (d - 1) + 1) ++ cEa A d t ++ cMo A d (intBits (d - 1) + 1) ++ cWi A d
theorem cSc_succ (kd : Nat) (e A d : Int) (n : Nat) : cSc kd e A d (n + 1) = cSc kd e A d n ++ (if upI (A * 2 ^ n) d < A then [⟨kd, e, upI (A * 2 ^ n) d, (n : Int)⟩] else []) := by
  unfold cSc
  rw [List.range_succ, List.filterMap_append]
  congr 1
  by_cases h : upI (A * 2 ^ n) d < A
  · rw [if_pos h]; simp only [List.filterMap_cons, List.filterMap_nil, if_pos h]
  · rw [if_neg h]; simp only [List.filterMap_cons, List.filterMap_nil, if_neg h]
theorem cMo_succ (A d : Int) (n : Nat) : cMo A d (n + 1) = cMo A d n ++ (if 1 ≤ (A * 2 ^ n - 1) / d ∧ (A * 2 ^ n - 1) / d < A then [⟨3, 0, (A * 2 ^ n - 1) / d, (n : Int)⟩] else []) := by
  unfold cMo
  rw [List.range_succ, List.filterMap_append]
  congr 1
  by_cases h : 1 ≤ (A * 2 ^ n - 1) / d ∧ (A * 2 ^ n - 1) / d < A
  · rw [if_pos h]; simp only [List.filterMap_cons, List.filterMap_nil, if_pos h]
  · rw [if_neg h]; simp only [List.filterMap_cons, List.filterMap_nil, if_neg h]
theorem cSc_len (kd : Nat) (e A d : Int) (n : Nat) : (cSc kd e A d n).length ≤ n := by
  have := List.length_filterMap_le (fun (k : Nat) => if upI (A * 2 ^ k) d < A then some (⟨kd, e, upI (A * 2 ^ k) d, (k : Int)⟩ : Cd) else none) (List.range n)
  rw [List.length_range] at this
  exact this
theorem cMo_len (A d : Int) (n : Nat) : (cMo A d n).length ≤ n := by
  have := List.length_filterMap_le (fun (k : Nat) => if 1 ≤ (A * 2 ^ k - 1) / d ∧ (A * 2 ^ k - 1) / d < A then some (⟨3, 0, (A * 2 ^ k - 1) / d, (k : Int)⟩ : Cd) else none) (List.range n)
  rw [List.length_range] at this
  exact this
theorem upI_pos {a b : Int} (ha : 1 ≤ a) (hb : 1 ≤ b) : 1 ≤ upI a b := Int.le_ediv_of_mul_le (by omega) (by omega)
theorem cSc_fm {kd : Nat} {e A d : Int} {n : Nat} (hk : kd = 1 ∨ kd = 2) (he : kd ≠ 2 → e = 0) (e0 : 0 ≤ e) (e1 : e ≤ 64) (A1 : 1 ≤ A) (A2 : A ≤ 4294967296) (d1 : 1 ≤ d) (hn : n ≤ 65) : ∀ x ∈ cSc kd e A d n, Fm x.kd x.e x.f x.s ∧ x.e = e := by
  intro x hx
  obtain ⟨k, hk1, hk2⟩ := List.mem_filterMap.mp hx
  have := List.mem_range.mp hk1
  have P : 0 < A * 2 ^ k := Int.mul_pos (by omega) (Int.pow_pos (by decide))
  split at hk2
  · cases hk2
    have := upI_pos (show 1 ≤ A * 2 ^ k by omega) d1
    refine ⟨⟨?_, e0, e1, he, ?_, ?_, ?_, ?_, ?_⟩, rfl⟩ <;> dsimp only <;> omega
  · cases hk2
theorem cMo_fm {A d : Int} {n : Nat} (A2 : A ≤ 4294967296) (hn : n ≤ 65) : ∀ x ∈ cMo A d n, Fm x.kd x.e x.f x.s ∧ x.e = 0 := by
  intro x hx
  obtain ⟨k, hk1, hk2⟩ := List.mem_filterMap.mp hx
  have := List.mem_range.mp hk1
  split at hk2
  · cases hk2
    refine ⟨⟨?_, ?_, ?_, fun _ => rfl, ?_, ?_, ?_, ?_, ?_⟩, rfl⟩ <;> dsimp only <;> omega
  · cases hk2
theorem cWi_fm {w d : Int} (w1 : 4 ≤ w) (w2 : w ≤ 32) (d1 : 1 ≤ d) (d2 : d < 2 ^ w.toNat) : ∀ x ∈ cWi (1 * 2 ^ w.toNat) d, Fm x.kd x.e x.f x.s ∧ x.e = 0 := by
  intro x hx
  unfold cWi at hx
  split at hx
  · next h =>
    cases List.mem_singleton.mp hx
    have b1 := bl_le d1
    have b2 := bl_ge d1 h
    have b3 := (bl_32 w2 d1 d2).1
    have pb := pw_bounds w1 w2
    have b4 := wide_fac (A := 1 * 2 ^ w.toNat) (B := 2 ^ intBits (d - 1)) (by omega) d1 b1 b2 (by omega)
    refine ⟨⟨?_, ?_, ?_, fun _ => rfl, ?_, ?_, ?_, ?_, ?_⟩, rfl⟩ <;> dsimp only [upI] <;> omega
  · cases hx
/-- one of them is right -/
theorem cAll_right {w d t : Int} (w1 : 4 ≤ w) (w2 : w ≤ 32) (d1 : 1 ≤ d) (d2 : d < 2 ^ w.toNat) : ∃ x ∈ cAll (1 * 2 ^ w.toNat) d t, x.e = 0 ∧ AllG x.e (nF x.kd w x.f) (nA x.kd x.f) (nT x.kd w x.s) d (1 * 2 ^ w.toNat - 1) := by
  have pb := pw_bounds w1 w2
  by_cases h : 0 < intBits (d - 1)
  · refine ⟨⟨4, 0, upI (1 * 2 ^ w.toNat * 2 ^ intBits (d - 1)) d - 1 * 2 ^ w.toNat, (intBits (d - 1) : Int)⟩, List.mem_append_right _ (by unfold cWi; rw [if_pos h]; exact List.mem_singleton.mpr rfl), rfl, fun x x0 x1 => ?_⟩
    have b1 := bl_le d1
    have z := wide_div (A := 1 * 2 ^ w.toNat) (B := 2 ^ intBits (d - 1)) (x := x) (by omega) (Int.pow_pos (by decide)) d1 b1 x0 (by omega)
    rw [← z]
    show brt 0 (1 * 2 ^ w.toNat + (upI (1 * 2 ^ w.toNat * 2 ^ intBits (d - 1)) d - 1 * 2 ^ w.toNat)) 0 (w + (intBits (d - 1) : Int)) x = _
    unfold brt upI
    rw [show (w + (intBits (d - 1) : Int)).toNat = w.toNat + intBits (d - 1) by omega, Int.pow_add, Int.one_mul, show (0 : Int).toNat = 0 from rfl, Int.pow_zero, Int.ediv_one, Int.add_zero]
    congr 2
    omega
  · have e := (bl_0 d1).mp (by omega)
    subst e
    exact ⟨⟨0, 0, 0, (intBits 1 : Int) - 1⟩, List.mem_append_left _ (List.mem_append_left _ (List.mem_append_left _ (List.mem_append_left _ (List.mem_singleton.mpr rfl)))), rfl, fun x x0 x1 => by
      show (1 * (x / 2 ^ 0) + 0) / 2 ^ 0 = x / 1
      rw [Int.pow_zero, Int.ediv_one, Int.ediv_one, Int.one_mul, Int.add_zero]⟩
/-! ### lists of forms, lists of tuples -/
def wdF : Nat → Str
  | 0 => "shifted"
  | 1 => "scaled"
  | 2 => "early"
  | 3 => "more"
  | _ => "wide"
def PL (R : Hp → Addr → Cd → Prop) (H : Hp) (ps : List Addr) (xs : List Cd) : Prop := ps.length = xs.length ∧ ∀ (i : Nat) p x, ps[i]? = some p → xs[i]? = some x → R H p x
def FR (c : Ad) (H : Hp) (p : Addr) (x : Cd) : Prop := FO c H p x.kd x.e x.f x.s
def TR (H : Hp) (p : Addr) (x : Cd) : Prop := H p = some (.tup (tlv x.kd x.e x.f x.s))
theorem FR.same {c : Ad} {H H' : Hp} {p : Addr} {x : Cd} (h : FR c H p x) (s : Same H H') : FR c H' p x := let ⟨dx, hx⟩ := h; ⟨dx, s _ _ hx⟩
theorem TR.same {H H' : Hp} {p : Addr} {x : Cd} (h : TR H p x) (s : Same H H') : TR H' p x := s _ _ h
theorem PL.mono {R : Hp → Addr → Cd → Prop} {H H' : Hp} {ps : List Addr} {xs : List Cd} (h : PL R H ps xs) (f : ∀ p x, R H p x → R H' p x) : PL R H' ps xs := ⟨h.1, fun i p x a b => f _ _ (h.2 i p x a b)⟩
theorem PL.nil {R : Hp → Addr → Cd → Prop} {H : Hp} : PL R H [] [] := ⟨rfl, fun i p x a b => by simp at a⟩
theorem PL.append {R : Hp → Addr → Cd → Prop} {H : Hp} {ps qs : List Addr} {xs ys : List Cd} (h : PL R H ps xs) (g : PL R H qs ys) : PL R H (ps ++ qs) (xs ++ ys) := by
  refine ⟨by rw [List.length_append, List.length_append, h.1, g.1], fun i p x a b => ?_⟩
  by_cases hi : i < ps.length
  · rw [List.getElem?_append_left hi] at a
    rw [List.getElem?_append_left (by rw [← h.1]; exact hi)] at b
    exact h.2 i p x a b
  · rw [List.getElem?_append_right (by omega)] at a
    rw [List.getElem?_append_right (by rw [← h.1]; omega), ← h.1] at b
    exact g.2 _ p x a b
theorem PL.one {R : Hp → Addr → Cd → Prop} {H : Hp} {p : Addr} {x : Cd} (h : R H p x) : PL R H [p] [x] := ⟨rfl, fun i q y a b => by
  cases i with
  | zero => cases a; cases b; exact h
  | succ n => simp at a⟩
theorem PL.snoc {R : Hp → Addr → Cd → Prop} {H : Hp} {ps : List Addr} {xs : List Cd} {p : Addr} {x : Cd} (h : PL R H ps xs) (g : R H p x) : PL R H (ps ++ [p]) (xs ++ [x]) := h.append (.one g)
/-- a list of such, at an address -/
def AL (R : Hp → Addr → Cd → Prop) (H : Hp) (a : Addr) (xs : List Cd) : Prop := ∃ ps : List Addr, H a = some (.lst (ps.map V.ref)) ∧ PL R H ps xs
theorem AL.mono {R : Hp → Addr → Cd → Prop} {H H' : Hp} {a : Addr} {xs : List Cd} (h : AL R H a xs) (s : Same H H') (f : ∀ p x, R H p x → R H' p x) : AL R H' a xs := let ⟨ps, e, q⟩ := h; ⟨ps, s _ _ e, q.mono f⟩
theorem AL.sameF {c : Ad} {H H' : Hp} {a : Addr} {xs : List Cd} (h : AL (FR c) H a xs) (s : Same H H') : AL (FR c) H' a xs := h.mono s fun _ _ q => q.same s
theorem AL.sameT {H H' : Hp} {a : Addr} {xs : List Cd} (h : AL TR H a xs) (s : Same H H') : AL TR H' a xs := h.mono s fun _ _ q => q.same s
/-- a change of the list itself touches none of its forms -/
theorem PL.updF {c : Ad} {H : Hp} {l : Addr} {zs ys : List V} {ps : List Addr} {xs : List Cd} (h : PL (FR c) H ps xs) (e : H l = some (.lst zs)) : PL (FR c) (upd H l (.lst ys)) ps xs :=
  h.mono fun p x q => by
    obtain ⟨dx, hx⟩ := q
    exact ⟨dx, by rw [upd_ne (fun z => by rw [z, e] at hx; cases hx)]; exact hx⟩
theorem PL.updT {H : Hp} {l : Addr} {zs ys : List V} {ps : List Addr} {xs : List Cd} (h : PL TR H ps xs) (e : H l = some (.lst zs)) : PL TR (upd H l (.lst ys)) ps xs :=
  h.mono fun p x q => by
    show upd H l _ p = _
    rw [upd_ne (fun z => by unfold TR at q; rw [z, e] at q; cases q)]
    exact q
theorem Same.updL {H H' : Hp} {l : Addr} {o : HO} (s : Same H H') (hl : H l = none) : Same H (upd H' l o) := fun b u e => by rw [upd_ne (ne_of_none e hl)]; exact s b u e
theorem pw_up {w : Int} {n : Nat} (w1 : 4 ≤ w) (w2 : w ≤ 32) (hn : n ≤ 32) : 1 ≤ (1 : Int) * 2 ^ w.toNat * 2 ^ n ∧ (1 : Int) * 2 ^ w.toNat * 2 ^ n ≤ 18446744073709551616 := by
  have pb := pw_bounds w1 w2
  have np : (2 : Int) ^ n ≤ 2 ^ 32 := p_mono hn
  have n0 := p_pos n
  have a : (1 : Int) * 2 ^ w.toNat * 2 ^ n ≤ 4294967296 * 4294967296 := Int.mul_le_mul (by omega) (by omega) (by omega) (by omega)
  have b : 0 < (1 : Int) * 2 ^ w.toNat * 2 ^ n := Int.mul_pos (by omega) n0
  omega
def spWd (kd : Nat) : Sp := fun vs H Q _ => ∃ x : Addr, vs = [.ref x] ∧ Q (.str (wdF kd)) H
def spTold (c : Ad) (kd : Nat) : Sp := fun vs H Q _ => ∃ (x : Addr) (e f s : Int), vs = [.ref x] ∧ FO c H x kd e f s ∧ ∀ r H', H r = none → H' r = some (.tup (tlv kd e f s)) → Same H H' → Q (.ref r) H'
def spCeilF : Sp := fun vs H Q _ => ∃ a d : Int, vs = [.int a, .int d] ∧ 1 ≤ a ∧ a ≤ 18446744073709551616 ∧ 1 ≤ d ∧ d ≤ 18446744073709551616 ∧ Q (.int (upI a d)) H
def spScC (c : Ad) : Sp := fun vs H Q _ => ∃ w d : Int, vs = [.int w, .int d] ∧ 4 ≤ w ∧ w ≤ 32 ∧ 1 ≤ d ∧ d < 2 ^ w.toNat ∧ ∀ l H', H l = none → AL (FR c) H' l (cSc 1 0 (1 * 2 ^ w.toNat) d (intBits (d - 1) + 1)) → Same H H' → Q (.ref l) H'
def spEaC (c : Ad) : Sp := fun vs H Q _ => ∃ w d : Int, vs = [.int w, .int d] ∧ 4 ≤ w ∧ w ≤ 32 ∧ 1 ≤ d ∧ d < 2 ^ w.toNat ∧ ∀ (t : Int) l H', Tw d t → H l = none → AL (FR c) H' l (cEa (1 * 2 ^ w.toNat) d t) → Same H H' → Q (.ref l) H'
def spMoC (c : Ad) : Sp := fun vs H Q _ => ∃ w d : Int, vs = [.int w, .int d] ∧ 4 ≤ w ∧ w ≤ 32 ∧ 1 ≤ d ∧ d < 2 ^ w.toNat ∧ ∀ l H', H l = none → AL (FR c) H' l (cMo (1 * 2 ^ w.toNat) d (intBits (d - 1) + 1)) → Same H H' → Q (.ref l) H'
def spCand (c : Ad) : Sp := fun vs H Q _ => ∃ w d : Int, vs = [.int w, .int d] ∧ 4 ≤ w ∧ w ≤ 32 ∧ 1 ≤ d ∧ d < 2 ^ w.toNat ∧ ∀ (t : Int) l H', Tw d t → H l = none → AL (FR c) H' l (cAll (1 * 2 ^ w.toNat) d t) → Same H H' → Q (.ref l) H'
def spAllT : Sp := fun vs H Q _ => ∃ w d : Int, vs = [.int w, .int d] ∧ 4 ≤ w ∧ w ≤ 32 ∧ 1 ≤ d ∧ d < 2 ^ w.toNat ∧ ∀ (t : Int) l H', Tw d t → H l = none → AL TR H' l (cAll (1 * 2 ^ w.toNat) d t) → Same H H' → Q (.ref l) H'
def spOfC (c : Ad) : Sp := fun vs H Q _ => ∃ (x : Addr) (kd : Nat) (e f s : Int), vs = [.ref x, .str (wdF kd)] ∧ kd < 5 ∧ FO c H x kd e f s ∧ Q (.bl true) H
def spAgr (c : Ad) : Sp := fun vs H Q _ => ∃ (l m : Addr) (xs : List Cd), vs = [.ref l, .ref m] ∧ AL (FR c) H l xs ∧ AL TR H m xs ∧ xs.length ≤ 200 ∧ (∀ x ∈ xs, x.kd < 5) ∧ ∀ H', Same H H' → Q (.bl true) H'
section
variable {P : Program} {w : World} {K : PySem.W.Frag} {mg : Str → Option Value} {base : Heap} {c : Ad}
theorem ok_is_whole {f : Addr} {fd : FuncData} (F : Fun K "is_whole" "is_whole" s_is_whole f fd) (T : Txt K mg c)  : FnOk P w K mg base CX0 1 f fd ["thing"] spWhole := by
  refine F.ok sc_is_whole (fun vs H Q E h => ?_) (fun cdv A outer s H vs Q E hr h => ?_)
  · obtain ⟨i, rfl, _⟩ := h
    rfl
  obtain ⟨i, rfl, q⟩ := h
  refine ⟨_, (pss_one (ps_ret (pe_and (pe_callB call_isinst rfl T.n_isinstance boot_isinstance (pa_cons (pv 0) (pa_cons (pe_ty rfl T.n_int boot_int) pa_nil))) (pe_one (pe_not (pe_callB call_isinst rfl T.n_isinstance boot_isinstance (pa_cons (pv 0) (pa_cons (pe_ty rfl T.n_bool boot_bool) pa_nil)))))))), ?_⟩
  refine ⟨_, rfl, _, _, _, _, _, rfl, rfl, TyOf.int _, kit_int_int _, _, rfl, iteT ?_⟩
  refine ⟨_, rfl, _, _, _, _, _, rfl, rfl, TyOf.int _, kit_int_bool _, _, rfl, ?_⟩
  exact q
theorem ok_is_between {f : Addr} {fd : FuncData} (F : Fun K "is_between" "is_between" s_is_between f fd) (T : Txt K mg c) (H_is_whole : Has P w K mg base 1 "is_whole" ["thing"] spWhole) : FnOk P w K mg base CX0 2 f fd ["thing", "low", "high"] spBetween := by
  refine F.ok sc_is_between (fun vs H Q E h => ?_) (fun cdv A outer s H vs Q E hr h => ?_)
  · obtain ⟨i, lo, hi, rfl, _⟩ := h
    rfl
  obtain ⟨i, lo, hi, rfl, h1, h2, q⟩ := h
  refine ⟨_, (pss_one (ps_ret (pe_and (pe_fn H_is_whole (hr.mono (by omega)) rfl (pa_cons (pv 0) pa_nil)) (pe_one (pe_chain op_le op_le (pv 1) (pv 0) (pv 2)))))), ?_⟩
  refine ⟨_, rfl, _, rfl, _, rfl, iteT ?_⟩
  refine ⟨_, rfl, _, rfl, _, _, rfl, rfl, _, rfl, iteD h1 ?_⟩
  refine ⟨_, rfl, _, _, rfl, rfl, ?_⟩
  exact ret_true h2 q
theorem ok_need_width {f : Addr} {fd : FuncData} (F : Fun K "need_width" "need_width" s_need_width f fd) (T : Txt K mg c) (H_is_between : Has P w K mg base 2 "is_between" ["thing", "low", "high"] spBetween) : FnOk P w K mg base CX0 3 f fd ["width"] spNeedW := by
  refine F.ok sc_need_width (fun vs H Q E h => ?_) (fun cdv A outer s H vs Q E hr h => ?_)
  · obtain ⟨i, rfl, _⟩ := h
    rfl
  obtain ⟨i, rfl, h1, h2, q⟩ := h
  refine ⟨_, (pss_one (ps_if (pt_not (pt_val (pe_fn H_is_between (hr.mono (by omega)) rfl (pa_cons (pv 0) (pa_cons pe_int (pa_cons pe_int pa_nil))))))
      (pss_one ps_never)
      pss_nil)), ?_⟩
  refine ⟨_, rfl, _, _, _, rfl, h1, h2, _, rfl, iteF ?_⟩
  exact q
theorem ok_need_divisor {f : Addr} {fd : FuncData} (F : Fun K "need_divisor" "need_divisor" s_need_divisor f fd) (T : Txt K mg c) (H_need_width : Has P w K mg base 3 "need_width" ["width"] spNeedW) (H_is_between : Has P w K mg base 2 "is_between" ["thing", "low", "high"] spBetween) : FnOk P w K mg base CX0 4 f fd ["width", "d"] spNeedD := by
  refine F.ok sc_need_divisor (fun vs H Q E h => ?_) (fun cdv A outer s H vs Q E hr h => ?_)
  · obtain ⟨i, d, rfl, _⟩ := h
    rfl
  obtain ⟨i, d, rfl, h1, h2, d1, d2, q⟩ := h
  refine ⟨_, (pss_cons (ps_expr (pe_fn H_need_width (hr.mono (by omega)) rfl (pa_cons (pv 0) pa_nil)))
    (pss_one (ps_if (pt_not (pt_val (pe_fn H_is_between (hr.mono (by omega)) rfl (pa_cons (pv 1) (pa_cons pe_int (pa_cons (pe_op op_sub (pe_op op_shl pe_int (pv 0)) pe_int) pa_nil))))))
      (pss_one ps_never)
      pss_nil))), ?_⟩
  refine ⟨_, rfl, _, rfl, h1, h2, ?_⟩
  refine ⟨_, rfl, _, rfl, _, _, rfl, rfl, cpow1 (by omega) (by omega), _, _, rfl, rfl, _, _, _, rfl, d1, by omega, _, rfl, iteF ?_⟩
  exact q
theorem ok__law_start {f : Addr} {fd : FuncData} (F : Fun K "_law_start" "_law_start" s__law_start f fd) (T : Txt K mg c)  : FnOk P w K mg base CX0 1 f fd ["_law_script", "_law_k"] (spStart K) := by
  refine F.ok sc__law_start (fun vs H Q E h => ?_) (fun cdv A outer s H vs Q E hr h => ?_)
  · obtain ⟨a, ns, k, rfl, _⟩ := h
    rfl
  obtain ⟨a, ns, k, rfl, hS, k0, k1, q⟩ := h
  refine ⟨_, (pss_cons (ps_set (i := 2) sc__law_start.nd rfl (Or.inl rfl) pe_int)
    (pss_cons (ps_if (pt_cmpR (op_ne0 (Nat.lt_of_succ_lt (hu_of hr))) (pv 0) (pe_lst pa_nil) (nomark _))
      (pss_one (ps_set (i := 2) sc__law_start.nd rfl (Or.inl rfl) (pe_ix ix_list (pv 0) (pe_op op_mod (pv 1) (pe_callB call_len_seq rfl T.n_len boot_len (pa_cons (pv 0) pa_nil))) (fun _ _ => rfl))))
      pss_nil)
    (pss_cons (ps_set (i := 3) sc__law_start.nd rfl (Or.inl rfl) pe_int)
    (pss_cons (ps_if (pt_cmpR op_ge (pv 2) (pe_op op_pow pe_int pe_int) (nomark _))
      (pss_one (ps_set (i := 3) sc__law_start.nd rfl (Or.inl rfl) (pv 2)))
      pss_nil)
    (pss_one (ps_ret (pe_lst (pa_cons (pv 3) (pa_cons (pe_op op_add (pe_op op_mod (pe_op op_add (pv 2) (pe_op op_mul pe_int (pv 1))) pe_int) pe_int) pa_nil))))))))), ?_⟩
  have fin : ∀ (c : Int) (H1 : Hp), Same H H1 → (∃ t : L2.TS, True) → True := fun _ _ _ _ => trivial
  refine ⟨_, rfl, (by show 0 ≤ sizeLine; decide), fun l hl => ?_⟩
  have sl := same_new hl (.lst [])
  refine ⟨a, l, _, rfl, rfl, sl.seq hS, SqL.of upd_same, _, rfl, ?_⟩
  cases ns with
  | nil =>
    refine iteF ?_
    refine ⟨_, rfl, _, _, rfl, rfl, ⟨by decide, by decide, by decide⟩, _, _, rfl, rfl, _, rfl, iteDN (by decide) ?_⟩
    refine ⟨_, rfl, _, rfl, _, rfl, _, _, rfl, rfl, cmul_l (by decide) (by decide), _, _, rfl, rfl, _, _, rfl, rfl, (by show (0 : Int) < 2147483646; decide), _, _, rfl, rfl, sz2, fun p hp => ?_⟩
    exact q p _ (sl.free hp) ⟨_, _, upd_same⟩ (sl.trans (same_new hp _))
  | cons n ns' =>
    refine iteT ?_
    have hl2 : ((n :: ns').map V.int).length = (n :: ns').length := List.length_map _
    have hn : 0 < ((((n :: ns').map V.int).length : Nat) : Int) := by rw [hl2, List.length_cons]; omega
    have j0 := Int.emod_nonneg k (show ((((n :: ns').map V.int).length : Nat) : Int) ≠ 0 by omega)
    have j1 := Int.emod_lt_of_pos k hn
    have hj : (k % ((((n :: ns').map V.int).length : Nat) : Int)).toNat < (n :: ns').length := by rw [← hl2]; omega
    have g := getI (n :: ns') _ hj
    have e : k % ((((n :: ns').map V.int).length : Nat) : Int) = (((k % ((((n :: ns').map V.int).length : Nat) : Int)).toNat : Nat) : Int) := by omega
    rw [← e] at g
    refine ⟨_, rfl, _, rfl, _, rfl, a, _, rfl, .inl (sl.seq hS), _, _, rfl, rfl, hn, a, _, _, _, rfl, rfl, sl.seq hS, g, ?_⟩
    refine ⟨_, rfl, _, _, rfl, rfl, ⟨by decide, by decide, by decide⟩, _, _, rfl, rfl, _, rfl, ?_⟩
    refine ite2 (fun _ => ?_) (fun _ => ?_)
    · refine ⟨_, rfl, ?_⟩
      refine ⟨_, rfl, _, rfl, _, rfl, _, _, rfl, rfl, cmul_l (by decide) (by decide), _, _, rfl, rfl, _, _, rfl, rfl, (by show (0 : Int) < 2147483646; decide), _, _, rfl, rfl, sz2, fun p hp => ?_⟩
      exact q p _ (sl.free hp) ⟨_, _, upd_same⟩ (sl.trans (same_new hp _))
    · refine ⟨_, rfl, _, rfl, _, rfl, _, _, rfl, rfl, cmul_l (by decide) (by decide), _, _, rfl, rfl, _, _, rfl, rfl, (by show (0 : Int) < 2147483646; decide), _, _, rfl, rfl, sz2, fun p hp => ?_⟩
      exact q p _ (sl.free hp) ⟨_, _, upd_same⟩ (sl.trans (same_new hp _))
theorem ok__law_draw {f : Addr} {fd : FuncData} (F : Fun K "_law_draw" "_law_draw" s__law_draw f fd) (T : Txt K mg c)  : FnOk P w K mg base CX0 1 f fd ["_law_state", "_law_size"] spTake := by
  refine F.ok sc__law_draw (fun vs H Q E h => ?_) (fun cdv A outer s H vs Q E hr h => ?_)
  · obtain ⟨p, m, rfl, _⟩ := h
    rfl
  obtain ⟨p, m, rfl, ⟨r, s1, hp⟩, h1, h2, q⟩ := h
  refine ⟨_, (pss_cons (ps_if (pt_cmpR op_gt (pe_ix ix_list (pv 0) pe_int (fun _ _ => rfl)) pe_int (nomark _))
      (pss_cons (ps_set (i := 2) sc__law_draw.nd rfl (Or.inl rfl) (pe_op op_mod (pe_ix ix_list (pv 0) pe_int (fun _ _ => rfl)) (pv 1)))
      (pss_cons (ps_asg (pe_op op_fdivB (pe_ix ix_list (pv 0) pe_int (fun _ _ => rfl)) (pv 1)) (pg_sub (pv 0) pe_int set_list))
      (pss_one (ps_ret (pv 2)))))
      pss_nil)
    (pss_cons (ps_asg (pe_op op_mod (pe_op op_mul (pe_ix ix_list (pv 0) pe_int (fun _ _ => rfl)) pe_int) pe_int) (pg_sub (pv 0) pe_int set_list))
    (pss_cons (ps_set (i := 3) sc__law_draw.nd rfl (Or.inl rfl) (pe_op op_mod (pe_op op_mul (pe_op op_add (pe_ix ix_list (pv 0) pe_int (fun _ _ => rfl)) (pe_op op_mul pe_int (pe_op op_fdivB (pe_ix ix_list (pv 0) pe_int (fun _ _ => rfl)) pe_int))) pe_int) pe_int))
    (pss_cons (ps_set (i := 4) sc__law_draw.nd rfl (Or.inl rfl) (pe_op op_mod (pe_op op_add (pe_op op_mul (pv 3) pe_int) (pe_op op_fdivB (pe_ix ix_list (pv 0) pe_int (fun _ _ => rfl)) pe_int)) pe_int))
    (pss_one (ps_ret (pe_op op_mod (pe_op op_add (pe_op op_mul (pv 3) pe_int) (pv 4)) (pv 1)))))))), ?_⟩
  refine ⟨_, rfl, p, _, _, _, rfl, rfl, SqL.of hp, rfl, _, _, rfl, rfl, _, rfl, ?_⟩
  by_cases hc : 0 < r
  · refine iteD hc ?_
    refine ⟨_, rfl, p, _, _, _, rfl, rfl, SqL.of hp, rfl, _, rfl, _, _, rfl, rfl, h1, ?_⟩
    refine ⟨_, rfl, p, _, _, _, rfl, rfl, SqL.of hp, rfl, _, rfl, _, _, rfl, rfl, ⟨h1, log_small h1 h2⟩, ?_⟩
    refine ⟨_, rfl, p, _, _, _, rfl, rfl, hp, rfl, ?_⟩
    refine ⟨_, rfl, ?_⟩
    exact q _ _ (Int.emod_nonneg _ (by omega)) (Int.emod_lt_of_pos _ h1) ⟨_, _, upd_same⟩ SameX.upd
  · refine iteDN hc ?_
    refine ⟨_, rfl, p, _, _, _, rfl, rfl, SqL.of hp, rfl, _, _, rfl, rfl, .inr ⟨by decide, by decide⟩, _, _, rfl, rfl, (by show (0 : Int) < 2147483647; decide), ?_⟩
    refine ⟨_, rfl, p, _, _, _, rfl, rfl, hp, rfl, ?_⟩
    refine ⟨_, rfl, p, _, _, _, rfl, rfl, SqL.of upd_same, rfl, _, rfl, p, _, _, _, rfl, rfl, SqL.of upd_same, rfl, _, _, rfl, rfl, ⟨by decide, by decide⟩, _, _, rfl, rfl, .inl ⟨by decide, by decide⟩, _, _, rfl, rfl, _, _, rfl, rfl, .inr ⟨by decide, by decide⟩, _, _, rfl, rfl, (by show (0 : Int) < 2147483629; decide), ?_⟩
    refine ⟨_, rfl, _, _, rfl, rfl, .inr ⟨by decide, by decide⟩, _, rfl, p, _, _, _, rfl, rfl, SqL.of upd_same, rfl, _, _, rfl, rfl, ⟨by decide, by decide⟩, _, _, rfl, rfl, _, _, rfl, rfl, (by show (0 : Int) < 2147483399; decide), ?_⟩
    refine ⟨_, rfl, _, _, rfl, rfl, .inr ⟨by decide, by decide⟩, _, rfl, _, _, rfl, rfl, _, rfl, _, _, rfl, rfl, h1, ?_⟩
    exact q _ _ (Int.emod_nonneg _ (by omega)) (Int.emod_lt_of_pos _ h1) ⟨_, _, upd_same⟩ SameX.upd
theorem ok__law_divisor {f : Addr} {fd : FuncData} (F : Fun K "_law_divisor" "_law_divisor" s__law_divisor f fd) (T : Txt K mg c) (H__law_draw : Has P w K mg base 1 "_law_draw" ["_law_state", "_law_size"] spTake) : FnOk P w K mg base CX0 2 f fd ["_law_state", "_law_width"] spDiv := by
  refine F.ok sc__law_divisor (fun vs H Q E h => ?_) (fun cdv A outer s H vs Q E hr h => ?_)
  · obtain ⟨p, i, rfl, _⟩ := h
    rfl
  obtain ⟨p, i, rfl, hb, h1, h2, q⟩ := h
  have pb := pw_bounds h1 h2
  refine ⟨_, (pss_cons (ps_set (i := 2) sc__law_divisor.nd rfl (Or.inl rfl) (pe_op op_sub (pe_op op_shl pe_int (pv 1)) pe_int))
    (pss_cons (ps_set (i := 3) sc__law_divisor.nd rfl (Or.inl rfl) (pe_fn H__law_draw (hr.mono (by omega)) rfl (pa_cons (pv 0) (pa_cons pe_int pa_nil))))
    (pss_cons (ps_if (pt_cmpR op_eq (pv 3) pe_int (nomark _))
      (pss_one (ps_ret (pe_op op_shl pe_int (pe_fn H__law_draw (hr.mono (by omega)) rfl (pa_cons (pv 0) (pa_cons (pv 1) pa_nil))))))
      pss_nil)
    (pss_cons (ps_if (pt_cmpR op_eq (pv 3) pe_int (nomark _))
      (pss_one (ps_ret (pe_op op_sub (pv 2) (pe_fn H__law_draw (hr.mono (by omega)) rfl (pa_cons (pv 0) (pa_cons pe_int pa_nil))))))
      pss_nil)
    (pss_cons (ps_if (pt_cmpR op_eq (pv 3) pe_int (nomark _))
      (pss_one (ps_ret (pe_op op_add pe_int (pe_fn H__law_draw (hr.mono (by omega)) rfl (pa_cons (pv 0) (pa_cons pe_int pa_nil))))))
      pss_nil)
    (pss_cons (ps_if (pt_cmpR op_eq (pv 3) pe_int (nomark _))
      (pss_cons (ps_set (i := 4) sc__law_divisor.nd rfl (Or.inl rfl) (pe_op op_fdiv (pv 1) pe_int))
      (pss_one (ps_ret (pe_op op_shl (pe_op op_add pe_int (pe_fn H__law_draw (hr.mono (by omega)) rfl (pa_cons (pv 0) (pa_cons (pe_op op_shl pe_int (pe_op op_sub (pv 1) (pv 4))) pa_nil)))) (pe_fn H__law_draw (hr.mono (by omega)) rfl (pa_cons (pv 0) (pa_cons (pv 4) pa_nil)))))))
      pss_nil)
    (pss_one (ps_ret (pe_op op_add pe_int (pe_fn H__law_draw (hr.mono (by omega)) rfl (pa_cons (pv 0) (pa_cons (pv 2) pa_nil)))))))))))), ?_⟩
  refine ⟨_, rfl, _, _, rfl, rfl, cpow1 (by omega) (by omega), _, _, rfl, rfl, ?_⟩
  refine ⟨_, rfl, p, _, rfl, hb, by decide, by decide, fun k H1 k0 k1 b1 x1 => ?_⟩
  refine ⟨_, rfl, rfl, _, rfl, ?_⟩
  by_cases c0 : V.int k = V.int 0
  · refine iteD c0 ?_
    refine ⟨_, rfl, _, rfl, p, _, rfl, b1, by omega, by omega, fun e H2 e0 e1 b2 x2 => ⟨_, _, rfl, rfl, cpow1 e0 (by omega), ?_⟩⟩
    have a1 := p1_pos e.toNat
    have a2 : (2 : Int) ^ (e.toNat + 1) ≤ 2 ^ i.toNat := p_mono (by omega)
    rw [Int.pow_succ] at a2
    exact q _ _ (by omega) (by omega) b2 (x1.trans x2)
  refine iteDN c0 ?_
  refine ⟨_, rfl, rfl, _, rfl, ?_⟩
  by_cases c1 : V.int k = V.int 1
  · refine iteD c1 ?_
    refine ⟨_, rfl, _, rfl, p, _, rfl, b1, by decide, by decide, fun e H2 e0 e1 b2 x2 => ⟨_, _, rfl, rfl, ?_⟩⟩
    exact q _ _ (by omega) (by omega) b2 (x1.trans x2)
  refine iteDN c1 ?_
  refine ⟨_, rfl, rfl, _, rfl, ?_⟩
  by_cases c2 : V.int k = V.int 2
  · refine iteD c2 ?_
    refine ⟨_, rfl, p, _, rfl, b1, by decide, by decide, fun e H2 e0 e1 b2 x2 => ⟨_, _, rfl, rfl, ?_⟩⟩
    exact q _ _ (by omega) (by omega) b2 (x1.trans x2)
  refine iteDN c2 ?_
  refine ⟨_, rfl, rfl, _, rfl, ?_⟩
  by_cases c3 : V.int k = V.int 3
  · refine iteD c3 ?_
    refine ⟨_, rfl, _, _, rfl, rfl, ⟨by decide, by decide⟩, ?_⟩
    have a3 : (2 : Int) ^ (i - i / 2).toNat ≤ 2 ^ 32 := p_mono (by omega)
    have a4 := p1_pos (i - i / 2).toNat
    refine ⟨_, rfl, _, rfl, _, rfl, _, _, rfl, rfl, _, _, rfl, rfl, cpow1 (by omega) (by omega), p, _, rfl, b1, a4, by omega, fun e H2 e0 e1 b2 x2 => ⟨_, _, rfl, rfl, _, rfl, _, rfl, p, _, rfl, b2, by omega, by omega, fun f H3 f0 f1 b3 x3 => ⟨_, _, rfl, rfl, ⟨f0, by omega, by omega⟩, ?_⟩⟩⟩
    have a5 : (2 : Int) ^ ((i - i / 2).toNat + f.toNat + 1) ≤ 2 ^ i.toNat := p_mono (by omega)
    rw [Int.pow_succ, Int.pow_add] at a5
    have a6 := p_pos f.toNat
    have a7 : (1 + e) * 2 ^ f.toNat ≤ 2 ^ (i - i / 2).toNat * 2 ^ f.toNat := Int.mul_le_mul_of_nonneg_right (by omega) (by omega)
    have a8 : 1 * 2 ^ f.toNat ≤ (1 + e) * 2 ^ f.toNat := Int.mul_le_mul_of_nonneg_right (by omega) (by omega)
    exact q _ _ (by omega) (by omega) b3 (x1.trans (x2.trans x3))
  refine iteDN c3 ?_
  refine ⟨_, rfl, _, rfl, p, _, rfl, b1, by omega, by omega, fun e H2 e0 e1 b2 x2 => ⟨_, _, rfl, rfl, ?_⟩⟩
  exact q _ _ (by omega) (by omega) b2 (x1.trans x2)
theorem ok__law_twos {f : Addr} {fd : FuncData} (F : Fun K "_law_twos" "_law_twos" s__law_twos f fd) (T : Txt K mg c)  : FnOk P w K mg base CX0 1 f fd ["_law_d"] spTwos := by
  refine F.ok sc__law_twos (fun vs H Q E h => ?_) (fun cdv A outer s H vs Q E hr h => ?_)
  · obtain ⟨d, rfl, _⟩ := h
    rfl
  obtain ⟨D, rfl, d1, q⟩ := h
  refine ⟨_, (pss_cons (ps_set (i := 1) sc__law_twos.nd rfl (Or.inl rfl) pe_int)
    (pss_cons (ps_while PassesOwn.never (pt_cmpR op_eq (pe_op op_mod (pv 0) pe_int) pe_int (nomark _))
      (pss_cons (ps_set (i := 0) sc__law_twos.nd rfl (Or.inl rfl) (pe_op op_fdiv (pv 0) pe_int))
      (pss_one (ps_set (i := 1) sc__law_twos.nd rfl (Or.inl rfl) (pe_op op_add (pv 1) pe_int)))))
    (pss_one (ps_ret (pv 1))))), ?_⟩
  refine while_by (fun σ H1 => ∃ d t : Int, σ = [some (.int d), some (.int t)] ∧ H1 = H ∧ 1 ≤ d ∧ 0 ≤ t ∧ D = d * 2 ^ t.toNat) (fun σ _ => match σ with | [some (.int d), _] => d.toNat | _ => 0) ⟨D, 0, rfl, rfl, d1, by decide, by show D = D * 2 ^ 0; rw [Int.pow_zero, Int.mul_one]⟩ ?_ ?_
  · rintro σ H1 ⟨d, t, rfl, rfl, d0, t0, e⟩
    refine ⟨_, rfl, _, _, rfl, rfl, (by show (0 : Int) < 2; decide), rfl, _, rfl, ?_⟩
    by_cases hc : d % 2 = 0
    · refine iteD (congrArg V.int hc) ?_
      refine ⟨_, rfl, _, _, rfl, rfl, ⟨by decide, by decide⟩, ?_⟩
      refine ⟨_, rfl, _, _, rfl, rfl, ?_⟩
      refine ⟨⟨d / 2, t + 1, rfl, rfl, by omega, by omega, tw_step t0 e hc⟩, ?_⟩
      show (d / 2).toNat < d.toNat
      omega
    · refine iteDN (fun z => hc (by injection z)) ?_
      exact ⟨_, rfl, q t (tw_done t0 e hc)⟩
  · rintro σ H1 Q1 Q2 hQ ⟨v, hv, a, b, c, d, e, f, k, hk, q1⟩
    exact ⟨v, hv, a, b, c, d, e, f, k, hk, hQ _ _ q1⟩
theorem ok_twos_in {f : Addr} {fd : FuncData} (F : Fun K "twos_in" "twos_in" s_twos_in f fd) (T : Txt K mg c)  : FnOk P w K mg base CX0 1 f fd ["d"] spTwos := by
  refine F.ok sc_twos_in (fun vs H Q E h => ?_) (fun cdv A outer s H vs Q E hr h => ?_)
  · obtain ⟨d, rfl, _⟩ := h
    rfl
  obtain ⟨D, rfl, d1, q⟩ := h
  refine ⟨_, (pss_cons (ps_set (i := 1) sc_twos_in.nd rfl (Or.inl rfl) pe_int)
    (pss_cons (ps_while PassesOwn.never (pt_cmpR op_eq (pe_op op_mod (pv 0) pe_int) pe_int (nomark _))
      (pss_cons (ps_set (i := 0) sc_twos_in.nd rfl (Or.inl rfl) (pe_op op_fdiv (pv 0) pe_int))
      (pss_one (ps_set (i := 1) sc_twos_in.nd rfl (Or.inl rfl) (pe_op op_add (pv 1) pe_int)))))
    (pss_one (ps_ret (pv 1))))), ?_⟩
  refine while_by (fun σ H1 => ∃ d t : Int, σ = [some (.int d), some (.int t)] ∧ H1 = H ∧ 1 ≤ d ∧ 0 ≤ t ∧ D = d * 2 ^ t.toNat) (fun σ _ => match σ with | [some (.int d), _] => d.toNat | _ => 0) ⟨D, 0, rfl, rfl, d1, by decide, by show D = D * 2 ^ 0; rw [Int.pow_zero, Int.mul_one]⟩ ?_ ?_
  · rintro σ H1 ⟨d, t, rfl, rfl, d0, t0, e⟩
    refine ⟨_, rfl, _, _, rfl, rfl, (by show (0 : Int) < 2; decide), rfl, _, rfl, ?_⟩
    by_cases hc : d % 2 = 0
    · refine iteD (congrArg V.int hc) ?_
      refine ⟨_, rfl, _, _, rfl, rfl, ⟨by decide, by decide⟩, ?_⟩
      refine ⟨_, rfl, _, _, rfl, rfl, ?_⟩
      refine ⟨⟨d / 2, t + 1, rfl, rfl, by omega, by omega, tw_step t0 e hc⟩, ?_⟩
      show (d / 2).toNat < d.toNat
      omega
    · refine iteDN (fun z => hc (by injection z)) ?_
      exact ⟨_, rfl, q t (tw_done t0 e hc)⟩
  · rintro σ H1 Q1 Q2 hQ ⟨v, hv, a, b, c, d, e, f, k, hk, q1⟩
    exact ⟨v, hv, a, b, c, d, e, f, k, hk, hQ _ _ q1⟩
theorem ok__law_corners {f : Addr} {fd : FuncData} (F : Fun K "_law_corners" "_law_corners" s__law_corners f fd) (T : Txt K mg c)  : FnOk P w K mg base CX0 1 f fd ["_law_last", "_law_d"] spCorners := by
  refine F.ok sc__law_corners (fun vs H Q E h => ?_) (fun cdv A outer s H vs Q E hr h => ?_)
  · obtain ⟨last, d, rfl, _⟩ := h
    rfl
  obtain ⟨last, d, rfl, l0, l1, d1, d2, q⟩ := h
  refine ⟨_, (pss_cons (ps_set (i := 2) sc__law_corners.nd rfl (Or.inl rfl) (pe_op op_fdivB (pv 0) (pv 1)))
    (pss_cons (ps_set (i := 3) sc__law_corners.nd rfl (Or.inl rfl) (pe_lst pa_nil))
    (pss_cons (ps_for PassesOwn.never rfl (pi_list (pe_lst (pa_cons pe_int (pa_cons (pe_callB (call_min2 rfl) rfl T.n_min boot_min (pa_cons (pe_op op_sub (pv 1) pe_int) (pa_cons (pv 0) pa_nil))) (pa_cons (pe_op op_sub (pe_op op_mulB (pv 2) (pv 1)) pe_int) (pa_cons (pe_op op_mulB (pv 2) (pv 1)) (pa_cons (pv 0) pa_nil))))))) (pg_name (i := 4) sc__law_corners.nd rfl (Or.inl rfl))
      (pss_one (ps_if (PW.pt (pw_and (pt_cmpR op_ge (pv 4) pe_int (nomark _)) (pw_and1 (pt_cmpR op_notIn_seq (pv 4) (pv 3) (by with_unfolding_all rfl)))))
        (pss_one (ps_expr (pe_bm PySem.F.plainAttrs_list PySem.F.slot_list_append PySem.F.type_list_append mt_append (pv 3) (pa_cons (pv 4) pa_nil))))
        pss_nil)))
    (pss_one (ps_ret (pe_callB call_sorted_list rfl T.n_sorted boot_sorted (pa_cons (pv 3) pa_nil))))))), ?_⟩
  obtain ⟨n0, n1, n2, n3, n4⟩ := cor_nums l0 l1 d1
  have lg := log_small (m := d) (by omega) (by omega)
  have em : (if last < d - 1 then last else d - 1) = (if d - 1 < last then d - 1 else last) := by
    split <;> split <;> omega
  refine ⟨_, rfl, _, rfl, _, _, rfl, rfl, ⟨by omega, lg⟩, ?_⟩
  refine ⟨(by show 0 ≤ sizeLine; decide), fun l hl => ?_⟩
  refine ⟨_, rfl, _, _, rfl, rfl, _, rfl, _, _, rfl, _, rfl, _, rfl, _, _, rfl, rfl, ⟨b200 (by omega) (by omega), b200 (by omega) (by omega)⟩, _, _, rfl, rfl, _, rfl, _, rfl, _, _, rfl, rfl, ⟨b200 (by omega) (by omega), b200 (by omega) (by omega)⟩, _, rfl, (by show 5 ≤ sizeLine; decide), fun c hc => ?_⟩
  generalize hfv : [0, if last < d - 1 then last else d - 1, last / d * d - 1, last / d * d, last] = five
  have efv : [V.int 0, V.int (if last < d - 1 then last else d - 1), V.int (last / d * d - 1), V.int (last / d * d), V.int last] = five.map V.int := by rw [← hfv]; rfl
  have l5 : five.length = 5 := by rw [← hfv]; rfl
  rw [efv]
  have nel : l ≠ c := fun z => by rw [← z, upd_same] at hc; cases hc
  have s1 := same_new hl (.lst [])
  have hcH : H c = none := s1.free hc
  refine ⟨c, rfl, ⟨_, SqL.of upd_same⟩, for_list (xs := five.map V.int) (fun j σ H1 => ∃ (fs : List Int) (y : Option V), σ = [some (.int last), some (.int d), some (.int (last / d)), some (.ref l), y] ∧ H1 l = some (.lst (fs.map V.int)) ∧ H1 c = some (.lst (five.map V.int)) ∧ Same H H1 ∧ fs.Nodup ∧ fs.length ≤ j ∧ ∀ x, x ∈ fs ↔ 0 ≤ x ∧ x ∈ five.take j) ⟨[], _, rfl, by rw [upd_ne nel, upd_same]; rfl, upd_same, s1.trans (same_new hc _), List.nodup_nil, Nat.le_refl _, fun x => by simp⟩ ?_ ?_ ?_⟩
  · rintro j σ H1 hj ⟨fs, y, rfl, f1, f2, _⟩
    exact SqL.of f2
  · rintro j x σ H1 hj ⟨fs, y, rfl, f1, f2, sm, nd, len, mem⟩
    rw [List.getElem?_map] at hj
    cases hjx : five[j]? with
    | none => rw [hjx] at hj; cases hj
    | some z =>
      rw [hjx] at hj
      cases hj
      have tk : five.take (j + 1) = five.take j ++ [z] := by rw [List.take_add_one, hjx]; rfl
      have jl : j < 5 := by rw [← l5]; exact (List.getElem?_eq_some_iff.mp hjx).1
      refine ⟨_, rfl, _, _, rfl, rfl, _, rfl, ?_⟩
      by_cases z0 : z ≥ 0
      · refine iteD z0 ?_
        refine ⟨_, rfl, _, rfl, l, _, rfl, .inl (SqL.of f1), rfl, flat_all fs, _, rfl, ?_⟩
        rw [inV_ints]
        by_cases hm : z ∈ fs
        · refine iteNS hm ⟨fs, _, rfl, f1, f2, sm, nd, by omega, fun x => ?_⟩
          rw [mem x, tk, List.mem_append, List.mem_singleton]
          constructor
          · exact fun ⟨a, b⟩ => ⟨a, .inl b⟩
          · rintro ⟨a, b | rfl⟩
            · exact ⟨a, b⟩
            · exact (mem x).mp hm
        · refine iteN hm ?_
          refine ⟨_, rfl, .inl ⟨rfl, _, SqL.of f1⟩, _, rfl, l, _, _, rfl, rfl, f1, (by rw [List.length_map, sizeLine_eq]; omega), ?_⟩
          refine ⟨fs ++ [z], _, rfl, by rw [upd_same, List.map_append]; rfl, by rw [upd_ne (Ne.symm nel)]; exact f2, fun b o e => ?_, ?_, by rw [List.length_append]; exact Nat.add_le_add_right len 1, fun x => ?_⟩
          · rw [upd_ne (ne_of_none e hl)]
            exact sm b o e
          · rw [List.nodup_append]
            exact ⟨nd, List.nodup_cons.mpr ⟨List.not_mem_nil, List.nodup_nil⟩, fun a ha b hb e => by rw [List.mem_singleton] at hb; subst hb; subst e; exact hm ha⟩
          · rw [List.mem_append, mem x, tk, List.mem_append, List.mem_singleton]
            constructor
            · rintro (⟨a, b⟩ | rfl)
              · exact ⟨a, .inl b⟩
              · exact ⟨z0, .inr rfl⟩
            · rintro ⟨a, b | rfl⟩
              · exact .inl ⟨a, b⟩
              · exact .inr rfl
      · refine iteDN z0 (iteF ⟨fs, _, rfl, f1, f2, sm, nd, by omega, fun x => ?_⟩)
        rw [mem x, tk, List.mem_append, List.mem_singleton]
        constructor
        · exact fun ⟨a, b⟩ => ⟨a, .inl b⟩
        · rintro ⟨a, b | rfl⟩
          · exact ⟨a, b⟩
          · exact absurd a z0
  rintro σ H1 ⟨fs, y, rfl, f1, f2, sm, nd, len, mem⟩
  rw [List.length_map, l5] at len
  refine ⟨_, rfl, l, fs, rfl, SqL.of f1, by omega, fun r zs hr' pw pm => ?_⟩
  refine q r zs _ (sm.free hr') upd_same (sm.trans (same_new hr' _)) ⟨pw_of pw pm nd, fun x => ?_⟩ (by rw [pm.length_eq]; exact len)
  rw [pm.mem_iff, mem x, List.length_map, List.take_length, ← hfv, em]
  unfold CorM
  simp only [List.mem_cons, List.not_mem_nil, or_false]
  constructor
  · rintro ⟨x0, e | e | e | e | e⟩
    · exact .inl e
    · exact .inr (.inl e)
    · refine .inr (.inr (.inr (.inr ⟨fun z => ?_, e⟩)))
      rw [z, Int.zero_mul] at e
      omega
    · exact .inr (.inr (.inl e))
    · exact .inr (.inr (.inr (.inl e)))
  · rintro (e | e | e | e | ⟨hz, e⟩)
    · exact ⟨by omega, .inl e⟩
    · refine ⟨?_, .inr (.inl e)⟩
      rw [e]
      split <;> omega
    · exact ⟨by omega, .inr (.inr (.inr (.inl e)))⟩
    · exact ⟨by omega, .inr (.inr (.inr (.inr e)))⟩
    · have := n4 hz
      exact ⟨by omega, .inr (.inr (.inl e))⟩
theorem ok_is_factor {f : Addr} {fd : FuncData} (F : Fun K "is_factor" "is_factor" s_is_factor f fd) (T : Txt K mg c) (H_is_between : Has P w K mg base 2 "is_between" ["thing", "low", "high"] spBetween) : FnOk P w K mg base CX0 3 f fd ["thing"] spFac := by
  refine F.ok sc_is_factor (fun vs H Q E h => ?_) (fun cdv A outer s H vs Q E hr h => ?_)
  · obtain ⟨i, rfl, _⟩ := h
    rfl
  obtain ⟨i, rfl, h1, h2, q⟩ := h
  refine ⟨_, (pss_one (ps_ret (pe_fn H_is_between (hr.mono (by omega)) rfl (pa_cons (pv 0) (pa_cons pe_int (pa_cons (pe_op op_sub (pe_op op_pow pe_int pe_int) pe_int) pa_nil)))))), ?_⟩
  exact ⟨_, rfl, _, _, rfl, rfl, ⟨by decide, by decide, by decide⟩, _, _, rfl, rfl, _, _, _, rfl, h1, by rw [pow32]; omega, q⟩
theorem ok_is_shift {f : Addr} {fd : FuncData} (F : Fun K "is_shift" "is_shift" s_is_shift f fd) (T : Txt K mg c) (H_is_between : Has P w K mg base 2 "is_between" ["thing", "low", "high"] spBetween) : FnOk P w K mg base CX0 3 f fd ["thing"] spShf := by
  refine F.ok sc_is_shift (fun vs H Q E h => ?_) (fun cdv A outer s H vs Q E hr h => ?_)
  · obtain ⟨i, rfl, _⟩ := h
    rfl
  obtain ⟨i, rfl, h1, h2, q⟩ := h
  refine ⟨_, (pss_one (ps_ret (pe_fn H_is_between (hr.mono (by omega)) rfl (pa_cons (pv 0) (pa_cons pe_int (pa_cons pe_int pa_nil)))))), ?_⟩
  exact ⟨_, rfl, _, _, _, rfl, h1, h2, q⟩
theorem ok__law_brought {f : Addr} {fd : FuncData} (F : Fun K "_law_brought" "_law_brought" s__law_brought f fd) (T : Txt K mg c)  : FnOk P w K mg base CX0 1 f fd ["_law_numbers_here", "_law_x"] spBroG := by
  refine F.ok sc__law_brought (fun vs H Q E h => ?_) (fun cdv A outer s H vs Q E hr h => ?_)
  · obtain ⟨r, e, f, a, t, x, rfl, _⟩ := h
    rfl
  obtain ⟨r, e, f, a, t, x, rfl, ht, ⟨e0, e1, f0, f1, a0, a1, t0, t1⟩, x0, x1, q⟩ := h
  refine ⟨_, (pss_cons (ps_asg (pv 0) (pg_tup rfl (pgs_cons (pg_name (i := 2) sc__law_brought.nd rfl (Or.inl rfl)) (pgs_cons (pg_name (i := 3) sc__law_brought.nd rfl (Or.inl rfl)) (pgs_cons (pg_name (i := 4) sc__law_brought.nd rfl (Or.inl rfl)) (pgs_cons (pg_name (i := 5) sc__law_brought.nd rfl (Or.inl rfl)) pgs_nil))))))
    (pss_one (ps_ret (pe_op op_shr (pe_op op_add (pe_op op_mulB (pv 3) (pe_op op_shr (pv 1) (pv 2))) (pv 4)) (pv 5))))), ?_⟩
  have z := xdiv x0 e
  refine ⟨_, rfl, r, _, rfl, SqT.of ht, rfl, _, _, rfl, _, _, rfl, _, _, rfl, _, _, rfl, rfl, ?_⟩
  walk_at "o"
  exact q
theorem ok__law_right_to {f : Addr} {fd : FuncData} (F : Fun K "_law_right_to" "_law_right_to" s__law_right_to f fd) (T : Txt K mg c) (H__law_corners : Has P w K mg base 1 "_law_corners" ["_law_last", "_law_d"] spCorners) (H__law_brought : Has P w K mg base 1 "_law_brought" ["_law_numbers_here", "_law_x"] spBroG) : FnOk P w K mg base CX0 2 f fd ["_law_last", "_law_d", "_law_numbers_here"] spRightG := by
  refine F.ok sc__law_right_to (fun vs H Q E h => ?_) (fun cdv A outer s H vs Q E hr h => ?_)
  · obtain ⟨last, d, r, e, f, a, t, rfl, _⟩ := h
    rfl
  obtain ⟨last, d, r, e, f, a, t, rfl, l0, l1, d1, d2, ht, rg, hd, q⟩ := h
  refine ⟨_, (pss_cons (ps_for PassesOwn.never rfl (pi_list (pe_fn H__law_corners (hr.mono (by omega)) rfl (pa_cons (pv 0) (pa_cons (pv 1) pa_nil)))) (pg_name (i := 3) sc__law_right_to.nd rfl (Or.inl rfl))
      (pss_one (ps_if (pt_cmpR op_ne (pe_fn H__law_brought (hr.mono (by omega)) rfl (pa_cons (pv 2) (pa_cons (pv 3) pa_nil))) (pe_op op_fdivB (pv 3) (pv 1)) (nomark _))
        (pss_one (ps_ret pe_bl))
        pss_nil)))
    (pss_one (ps_ret pe_bl))), ?_⟩
  have lg := log_small (m := d) (by omega) (by omega)
  refine ⟨_, rfl, _, rfl, _, _, rfl, l0, l1, d1, d2, fun p zs H1 fp hp s1 cor ln => ?_⟩
  refine ⟨p, rfl, ⟨_, SqL.of hp⟩, for_list (xs := zs.map V.int) (fun j σ H2 => ∃ y : Option V, σ = [some (.int last), some (.int d), some (.ref r), y] ∧ H2 = H1 ∧ ∀ k z, k < j → zs[k]? = some z → brt e f a t z = z / d) ⟨_, rfl, rfl, fun k z hk => absurd hk (Nat.not_lt_zero k)⟩ ?_ ?_ ?_⟩
  · rintro j σ H2 hj ⟨y, rfl, rfl, _⟩
    exact SqL.of hp
  · rintro j x σ H2 hj ⟨y, rfl, rfl, al⟩
    rw [List.getElem?_map] at hj
    cases hz : zs[j]? with
    | none => rw [hz] at hj; cases hj
    | some z =>
      rw [hz] at hj
      cases hj
      have cz := (cor.2 z).mp (List.mem_of_getElem? hz)
      obtain ⟨z0, z1⟩ := cz.range l0 d1
      refine ⟨_, rfl, _, rfl, r, e, f, a, t, z, rfl, s1 _ _ ht, rg, z0, by omega, _, rfl, _, rfl, _, _, rfl, rfl, ⟨by omega, lg⟩, rfl, _, rfl, ?_⟩
      walk_at "c" <;> intro cc
      · exact q false H2 s1 ⟨fun z => (nomatch z), fun z2 => absurd (z2 z z0 z1) cc⟩
      · refine ⟨_, rfl, rfl, fun k u hk hu => ?_⟩
        by_cases e2 : k = j
        · subst e2; rw [hz] at hu; cases hu; exact cc
        · exact al k u (by omega) hu
  rintro σ H2 ⟨y, rfl, rfl, al⟩
  refine q true _ s1 ⟨fun _ => (allG_corners l0 d1 rg.2.2.1 rg.2.2.2.2.1 hd).mp fun x hx => ?_, fun _ => rfl⟩
  obtain ⟨k, hk⟩ := List.mem_iff_getElem?.mp ((cor.2 x).mpr hx)
  have hkl := (List.getElem?_eq_some_iff.mp hk).1
  exact al k x (by rw [List.length_map]; exact hkl) hk
theorem ok__law_numbers {f : Addr} {fd : FuncData} (F : Fun K "_law_numbers" "_law_numbers" s__law_numbers f fd) (T : Txt K mg c)  : FnOk P w K mg base CX0 1 f fd ["_law_told", "_law_width"] spNumb := by
  refine F.ok sc__law_numbers (fun vs H Q E h => ?_) (fun cdv A outer s H vs Q E hr h => ?_)
  · obtain ⟨r, i, kd, e, f, t, rfl, _⟩ := h
    rfl
  obtain ⟨r, i, kd, e, f, t, rfl, ht, fm, h1, h2, q⟩ := h
  refine ⟨_, (pss_cons (ps_if (pt_cmpR op_eq (pe_ix ix_tup (pv 0) pe_int (fun _ _ => rfl)) pe_str (nomark _))
      (pss_one (ps_ret (pe_tup (pa_cons pe_int (pa_cons pe_int (pa_cons pe_int (pa_cons (pe_ix ix_tup (pv 0) pe_int (fun _ _ => rfl)) pa_nil)))))))
      pss_nil)
    (pss_cons (ps_if (pt_cmpR op_eq (pe_ix ix_tup (pv 0) pe_int (fun _ _ => rfl)) pe_str (nomark _))
      (pss_one (ps_ret (pe_tup (pa_cons pe_int (pa_cons (pe_ix ix_tup (pv 0) pe_int (fun _ _ => rfl)) (pa_cons pe_int (pa_cons (pe_op op_add (pv 1) (pe_ix ix_tup (pv 0) pe_int (fun _ _ => rfl))) pa_nil)))))))
      pss_nil)
    (pss_cons (ps_if (pt_cmpR op_eq (pe_ix ix_tup (pv 0) pe_int (fun _ _ => rfl)) pe_str (nomark _))
      (pss_one (ps_ret (pe_tup (pa_cons (pe_ix ix_tup (pv 0) pe_int (fun _ _ => rfl)) (pa_cons (pe_ix ix_tup (pv 0) pe_int (fun _ _ => rfl)) (pa_cons pe_int (pa_cons (pe_op op_add (pv 1) (pe_ix ix_tup (pv 0) pe_int (fun _ _ => rfl))) pa_nil)))))))
      pss_nil)
    (pss_cons (ps_if (pt_cmpR op_eq (pe_ix ix_tup (pv 0) pe_int (fun _ _ => rfl)) pe_str (nomark _))
      (pss_one (ps_ret (pe_tup (pa_cons pe_int (pa_cons (pe_ix ix_tup (pv 0) pe_int (fun _ _ => rfl)) (pa_cons (pe_ix ix_tup (pv 0) pe_int (fun _ _ => rfl)) (pa_cons (pe_op op_add (pv 1) (pe_ix ix_tup (pv 0) pe_int (fun _ _ => rfl))) pa_nil)))))))
      pss_nil)
    (pss_one (ps_ret (pe_tup (pa_cons pe_int (pa_cons (pe_op op_add (pe_op op_shl pe_int (pv 1)) (pe_ix ix_tup (pv 0) pe_int (fun _ _ => rfl))) (pa_cons pe_int (pa_cons (pe_op op_add (pv 1) (pe_ix ix_tup (pv 0) pe_int (fun _ _ => rfl))) pa_nil))))))))))), ?_⟩
  have ez := fm.e0
  have kk := fm.k
  rcases (by omega : kd = 0 ∨ kd = 1 ∨ kd = 2 ∨ kd = 3 ∨ kd = 4) with rfl | rfl | rfl | rfl | rfl <;> unfold tlv at ht
  · obtain rfl := ez (by decide)
    refine ⟨_, rfl, r, _, _, _, rfl, rfl, SqT.of ht, rfl, rfl, _, rfl, iteD rfl ?_⟩
    exact ⟨_, rfl, r, _, _, _, rfl, rfl, SqT.of ht, rfl, sz4, fun p hp => q p _ hp upd_same (same_new hp _)⟩
  · obtain rfl := ez (by decide)
    refine ⟨_, rfl, r, _, _, _, rfl, rfl, SqT.of ht, rfl, rfl, _, rfl, iteDN (by walk_at "n") ?_⟩
    refine ⟨_, rfl, r, _, _, _, rfl, rfl, SqT.of ht, rfl, rfl, _, rfl, iteD rfl ?_⟩
    exact ⟨_, rfl, r, _, _, _, rfl, rfl, SqT.of ht, rfl, _, rfl, _, rfl, r, _, _, _, rfl, rfl, SqT.of ht, rfl, _, _, rfl, rfl, sz4, fun p hp => q p _ hp upd_same (same_new hp _)⟩
  · refine ⟨_, rfl, r, _, _, _, rfl, rfl, SqT.of ht, rfl, rfl, _, rfl, iteDN (by walk_at "n") ?_⟩
    refine ⟨_, rfl, r, _, _, _, rfl, rfl, SqT.of ht, rfl, rfl, _, rfl, iteDN (by walk_at "n") ?_⟩
    refine ⟨_, rfl, r, _, _, _, rfl, rfl, SqT.of ht, rfl, rfl, _, rfl, iteD rfl ?_⟩
    exact ⟨_, rfl, r, _, _, _, rfl, rfl, SqT.of ht, rfl, _, rfl, r, _, _, _, rfl, rfl, SqT.of ht, rfl, _, rfl, _, rfl, r, _, _, _, rfl, rfl, SqT.of ht, rfl, _, _, rfl, rfl, sz4, fun p hp => q p _ hp upd_same (same_new hp _)⟩
  · obtain rfl := ez (by decide)
    refine ⟨_, rfl, r, _, _, _, rfl, rfl, SqT.of ht, rfl, rfl, _, rfl, iteDN (by walk_at "n") ?_⟩
    refine ⟨_, rfl, r, _, _, _, rfl, rfl, SqT.of ht, rfl, rfl, _, rfl, iteDN (by walk_at "n") ?_⟩
    refine ⟨_, rfl, r, _, _, _, rfl, rfl, SqT.of ht, rfl, rfl, _, rfl, iteDN (by walk_at "n") ?_⟩
    refine ⟨_, rfl, r, _, _, _, rfl, rfl, SqT.of ht, rfl, rfl, _, rfl, iteD rfl ?_⟩
    exact ⟨_, rfl, r, _, _, _, rfl, rfl, SqT.of ht, rfl, _, rfl, r, _, _, _, rfl, rfl, SqT.of ht, rfl, _, rfl, _, rfl, r, _, _, _, rfl, rfl, SqT.of ht, rfl, _, _, rfl, rfl, sz4, fun p hp => q p _ hp upd_same (same_new hp _)⟩
  · obtain rfl := ez (by decide)
    refine ⟨_, rfl, r, _, _, _, rfl, rfl, SqT.of ht, rfl, rfl, _, rfl, iteDN (by walk_at "n") ?_⟩
    refine ⟨_, rfl, r, _, _, _, rfl, rfl, SqT.of ht, rfl, rfl, _, rfl, iteDN (by walk_at "n") ?_⟩
    refine ⟨_, rfl, r, _, _, _, rfl, rfl, SqT.of ht, rfl, rfl, _, rfl, iteDN (by walk_at "n") ?_⟩
    refine ⟨_, rfl, r, _, _, _, rfl, rfl, SqT.of ht, rfl, rfl, _, rfl, iteDN (by walk_at "n") ?_⟩
    exact ⟨_, rfl, _, _, rfl, rfl, cpow1 (by omega) (by omega), _, rfl, r, _, _, _, rfl, rfl, SqT.of ht, rfl, _, _, rfl, rfl, _, rfl, _, rfl, r, _, _, _, rfl, rfl, SqT.of ht, rfl, _, _, rfl, rfl, sz4, fun p hp => q p _ hp upd_same (same_new hp _)⟩
theorem ok_Shifted___init__ {f : Addr} {fd : FuncData} (F : Fun K "__init__" "Shifted.__init__" s_Shifted___init__ f fd) (T : Txt K mg c) (H_is_shift : Has P w K mg base 3 "is_shift" ["thing"] spShf) : FnOk P w K mg base CX0 4 f fd ["self", "shift"] (spI0 c) := by
  refine F.ok sc_Shifted___init__ (fun vs H Q E h => ?_) (fun cdv A outer s H vs Q E hr h => ?_)
  · obtain ⟨x, dx, s, rfl, _⟩ := h
    rfl
  obtain ⟨x, dx, s, rfl, hx, s0, s1, q⟩ := h
  refine ⟨_, (pss_cons (ps_fld (pv 0) (pv 1) rfl)
    (pss_one (ps_if (pt_not (pt_val (pe_fn H_is_shift (hr.mono (by omega)) rfl (pa_cons (pv 1) pa_nil))))
      (pss_one ps_never)
      pss_nil))), ?_⟩
  refine ⟨_, rfl, _, rfl, x, _, dx, _, rfl, hx, T.cl_Shifted, T.na_Shifted_shift, (by show 0 < 1000; decide), ?_⟩
  refine ⟨_, rfl, _, rfl, s0, s1, _, rfl, iteF ?_⟩
  exact q _ (SameX.upd) ⟨dx, upd_same⟩
theorem ok_Shifted_word {f : Addr} {fd : FuncData} (F : Fun K "word" "Shifted.word" s_Shifted_word f fd) (T : Txt K mg c)  : FnOk P w K mg base CX0 1 f fd ["self"] (spWd 0) := by
  refine F.ok sc_Shifted_word (fun vs H Q E h => ?_) (fun cdv A outer s H vs Q E hr h => ?_)
  · obtain ⟨x, rfl, _⟩ := h
    rfl
  obtain ⟨x, rfl, q⟩ := h
  exact ⟨_, (pss_one (ps_ret pe_str)), q⟩
theorem ok_Shifted_told {f : Addr} {fd : FuncData} (F : Fun K "told" "Shifted.told" s_Shifted_told f fd) (T : Txt K mg c)  (MW : MHas P w K mg base 1 c.Shifted "word" ["self"] (spWd 0)) : FnOk P w K mg base CX0 2 f fd ["self"] (spTold c 0) := by
  refine F.ok sc_Shifted_told (fun vs H Q E h => ?_) (fun cdv A outer s H vs Q E hr h => ?_)
  · obtain ⟨x, e, f, s, rfl, _⟩ := h
    rfl
  obtain ⟨x, e, f, s, rfl, ⟨dx, hx⟩, q⟩ := h
  refine ⟨_, (pss_one (ps_ret (pe_tup (pa_cons (pe_methP0 (k := 1) (pv 0) (hr.mono (by omega))) (pa_cons (pe_fld (pv 0) rfl) pa_nil))))), ?_⟩
  refine ⟨_, rfl, x, _, dx, _, _, _, rfl, hx, rfl, MW, x, rfl, _, rfl, x, _, dx, _, _, rfl, hx, T.cl_Shifted, T.na_Shifted_shift, rfl, (by show 2 ≤ sizeLine; decide), fun r hr' => q r _ hr' upd_same (same_new hr' _)⟩
theorem ok_Scaled___init__ {f : Addr} {fd : FuncData} (F : Fun K "__init__" "Scaled.__init__" s_Scaled___init__ f fd) (T : Txt K mg c) (H_is_factor : Has P w K mg base 3 "is_factor" ["thing"] spFac) (H_is_shift : Has P w K mg base 3 "is_shift" ["thing"] spShf) : FnOk P w K mg base CX0 4 f fd ["self", "factor", "shift"] (spI2 c 1 0) := by
  refine F.ok sc_Scaled___init__ (fun vs H Q E h => ?_) (fun cdv A outer s H vs Q E hr h => ?_)
  · obtain ⟨x, dx, f, s, rfl, _⟩ := h
    rfl
  obtain ⟨x, dx, f, s, rfl, hx, f0, f1, s0, s1, q⟩ := h
  refine ⟨_, (pss_cons (ps_fld (pv 0) (pv 1) rfl)
    (pss_cons (ps_fld (pv 0) (pv 2) rfl)
    (pss_one (ps_if (PW.pt (pw_or (pt_not (pt_val (pe_fn H_is_factor (hr.mono (by omega)) rfl (pa_cons (pv 1) pa_nil)))) (pw_or1 (pt_not (pt_val (pe_fn H_is_shift (hr.mono (by omega)) rfl (pa_cons (pv 2) pa_nil)))))))
      (pss_one ps_never)
      pss_nil)))), ?_⟩
  refine ⟨_, rfl, _, rfl, x, _, dx, _, rfl, hx, T.cl_Scaled, T.na_Scaled_factor, (by show 0 < 1000; decide), ?_⟩
  refine ⟨_, rfl, _, rfl, x, _, dx, _, rfl, upd_same, T.cl_Scaled, T.na_Scaled_shift, (by show 1 < 1000; decide), ?_⟩
  refine ⟨_, rfl, _, rfl, f0, f1, _, rfl, iteF ?_⟩
  refine ⟨_, rfl, _, rfl, s0, s1, _, rfl, iteF ?_⟩
  exact q _ (SameX.upd.trans (SameX.upd)) ⟨dx, upd_same⟩
theorem ok_Scaled_word {f : Addr} {fd : FuncData} (F : Fun K "word" "Scaled.word" s_Scaled_word f fd) (T : Txt K mg c)  : FnOk P w K mg base CX0 1 f fd ["self"] (spWd 1) := by
  refine F.ok sc_Scaled_word (fun vs H Q E h => ?_) (fun cdv A outer s H vs Q E hr h => ?_)
  · obtain ⟨x, rfl, _⟩ := h
    rfl
  obtain ⟨x, rfl, q⟩ := h
  exact ⟨_, (pss_one (ps_ret pe_str)), q⟩
theorem ok_Scaled_told {f : Addr} {fd : FuncData} (F : Fun K "told" "Scaled.told" s_Scaled_told f fd) (T : Txt K mg c)  (MW : MHas P w K mg base 1 c.Scaled "word" ["self"] (spWd 1)) : FnOk P w K mg base CX0 2 f fd ["self"] (spTold c 1) := by
  refine F.ok sc_Scaled_told (fun vs H Q E h => ?_) (fun cdv A outer s H vs Q E hr h => ?_)
  · obtain ⟨x, e, f, s, rfl, _⟩ := h
    rfl
  obtain ⟨x, e, f, s, rfl, ⟨dx, hx⟩, q⟩ := h
  refine ⟨_, (pss_one (ps_ret (pe_tup (pa_cons (pe_methP0 (k := 1) (pv 0) (hr.mono (by omega))) (pa_cons (pe_fld (pv 0) rfl) (pa_cons (pe_fld (pv 0) rfl) pa_nil)))))), ?_⟩
  refine ⟨_, rfl, x, _, dx, _, _, _, rfl, hx, rfl, MW, x, rfl, _, rfl, x, _, dx, _, _, rfl, hx, T.cl_Scaled, T.na_Scaled_factor, rfl, _, rfl, x, _, dx, _, _, rfl, hx, T.cl_Scaled, T.na_Scaled_shift, rfl, (by show 3 ≤ sizeLine; decide), fun r hr' => q r _ hr' upd_same (same_new hr' _)⟩
theorem ok_Early___init__ {f : Addr} {fd : FuncData} (F : Fun K "__init__" "Early.__init__" s_Early___init__ f fd) (T : Txt K mg c) (H_is_shift : Has P w K mg base 3 "is_shift" ["thing"] spShf) (H_is_factor : Has P w K mg base 3 "is_factor" ["thing"] spFac) : FnOk P w K mg base CX0 4 f fd ["self", "early", "factor", "shift"] (spI3 c) := by
  refine F.ok sc_Early___init__ (fun vs H Q E h => ?_) (fun cdv A outer s H vs Q E hr h => ?_)
  · obtain ⟨x, dx, e, f, s, rfl, _⟩ := h
    rfl
  obtain ⟨x, dx, e, f, s, rfl, hx, e0, e1, f0, f1, s0, s1, q⟩ := h
  refine ⟨_, (pss_cons (ps_fld (pv 0) (pv 1) rfl)
    (pss_cons (ps_fld (pv 0) (pv 2) rfl)
    (pss_cons (ps_fld (pv 0) (pv 3) rfl)
    (pss_one (ps_if (PW.pt (pw_or (pt_not (pt_val (pe_fn H_is_shift (hr.mono (by omega)) rfl (pa_cons (pv 1) pa_nil)))) (pw_or (pt_not (pt_val (pe_fn H_is_factor (hr.mono (by omega)) rfl (pa_cons (pv 2) pa_nil)))) (pw_or1 (pt_not (pt_val (pe_fn H_is_shift (hr.mono (by omega)) rfl (pa_cons (pv 3) pa_nil))))))))
      (pss_one ps_never)
      pss_nil))))), ?_⟩
  refine ⟨_, rfl, _, rfl, x, _, dx, _, rfl, hx, T.cl_Early, T.na_Early_early, (by show 0 < 1000; decide), ?_⟩
  refine ⟨_, rfl, _, rfl, x, _, dx, _, rfl, upd_same, T.cl_Early, T.na_Early_factor, (by show 1 < 1000; decide), ?_⟩
  refine ⟨_, rfl, _, rfl, x, _, dx, _, rfl, upd_same, T.cl_Early, T.na_Early_shift, (by show 2 < 1000; decide), ?_⟩
  refine ⟨_, rfl, _, rfl, e0, e1, _, rfl, iteF ?_⟩
  refine ⟨_, rfl, _, rfl, f0, f1, _, rfl, iteF ?_⟩
  refine ⟨_, rfl, _, rfl, s0, s1, _, rfl, iteF ?_⟩
  exact q _ (SameX.upd.trans (SameX.upd.trans (SameX.upd))) ⟨dx, upd_same⟩
theorem ok_Early_word {f : Addr} {fd : FuncData} (F : Fun K "word" "Early.word" s_Early_word f fd) (T : Txt K mg c)  : FnOk P w K mg base CX0 1 f fd ["self"] (spWd 2) := by
  refine F.ok sc_Early_word (fun vs H Q E h => ?_) (fun cdv A outer s H vs Q E hr h => ?_)
  · obtain ⟨x, rfl, _⟩ := h
    rfl
  obtain ⟨x, rfl, q⟩ := h
  exact ⟨_, (pss_one (ps_ret pe_str)), q⟩
theorem ok_Early_told {f : Addr} {fd : FuncData} (F : Fun K "told" "Early.told" s_Early_told f fd) (T : Txt K mg c)  (MW : MHas P w K mg base 1 c.Early "word" ["self"] (spWd 2)) : FnOk P w K mg base CX0 2 f fd ["self"] (spTold c 2) := by
  refine F.ok sc_Early_told (fun vs H Q E h => ?_) (fun cdv A outer s H vs Q E hr h => ?_)
  · obtain ⟨x, e, f, s, rfl, _⟩ := h
    rfl
  obtain ⟨x, e, f, s, rfl, ⟨dx, hx⟩, q⟩ := h
  refine ⟨_, (pss_one (ps_ret (pe_tup (pa_cons (pe_methP0 (k := 1) (pv 0) (hr.mono (by omega))) (pa_cons (pe_fld (pv 0) rfl) (pa_cons (pe_fld (pv 0) rfl) (pa_cons (pe_fld (pv 0) rfl) pa_nil))))))), ?_⟩
  refine ⟨_, rfl, x, _, dx, _, _, _, rfl, hx, rfl, MW, x, rfl, _, rfl, x, _, dx, _, _, rfl, hx, T.cl_Early, T.na_Early_early, rfl, _, rfl, x, _, dx, _, _, rfl, hx, T.cl_Early, T.na_Early_factor, rfl, _, rfl, x, _, dx, _, _, rfl, hx, T.cl_Early, T.na_Early_shift, rfl, (by show 4 ≤ sizeLine; decide), fun r hr' => q r _ hr' upd_same (same_new hr' _)⟩
theorem ok_More___init__ {f : Addr} {fd : FuncData} (F : Fun K "__init__" "More.__init__" s_More___init__ f fd) (T : Txt K mg c) (H_is_factor : Has P w K mg base 3 "is_factor" ["thing"] spFac) (H_is_shift : Has P w K mg base 3 "is_shift" ["thing"] spShf) : FnOk P w K mg base CX0 4 f fd ["self", "factor", "shift"] (spI2 c 3 0) := by
  refine F.ok sc_More___init__ (fun vs H Q E h => ?_) (fun cdv A outer s H vs Q E hr h => ?_)
  · obtain ⟨x, dx, f, s, rfl, _⟩ := h
    rfl
  obtain ⟨x, dx, f, s, rfl, hx, f0, f1, s0, s1, q⟩ := h
  refine ⟨_, (pss_cons (ps_fld (pv 0) (pv 1) rfl)
    (pss_cons (ps_fld (pv 0) (pv 2) rfl)
    (pss_one (ps_if (PW.pt (pw_or (pt_not (pt_val (pe_fn H_is_factor (hr.mono (by omega)) rfl (pa_cons (pv 1) pa_nil)))) (pw_or1 (pt_not (pt_val (pe_fn H_is_shift (hr.mono (by omega)) rfl (pa_cons (pv 2) pa_nil)))))))
      (pss_one ps_never)
      pss_nil)))), ?_⟩
  refine ⟨_, rfl, _, rfl, x, _, dx, _, rfl, hx, T.cl_More, T.na_More_factor, (by show 0 < 1000; decide), ?_⟩
  refine ⟨_, rfl, _, rfl, x, _, dx, _, rfl, upd_same, T.cl_More, T.na_More_shift, (by show 1 < 1000; decide), ?_⟩
  refine ⟨_, rfl, _, rfl, f0, f1, _, rfl, iteF ?_⟩
  refine ⟨_, rfl, _, rfl, s0, s1, _, rfl, iteF ?_⟩
  exact q _ (SameX.upd.trans (SameX.upd)) ⟨dx, upd_same⟩
theorem ok_More_word {f : Addr} {fd : FuncData} (F : Fun K "word" "More.word" s_More_word f fd) (T : Txt K mg c)  : FnOk P w K mg base CX0 1 f fd ["self"] (spWd 3) := by
  refine F.ok sc_More_word (fun vs H Q E h => ?_) (fun cdv A outer s H vs Q E hr h => ?_)
  · obtain ⟨x, rfl, _⟩ := h
    rfl
  obtain ⟨x, rfl, q⟩ := h
  exact ⟨_, (pss_one (ps_ret pe_str)), q⟩
theorem ok_More_told {f : Addr} {fd : FuncData} (F : Fun K "told" "More.told" s_More_told f fd) (T : Txt K mg c)  (MW : MHas P w K mg base 1 c.More "word" ["self"] (spWd 3)) : FnOk P w K mg base CX0 2 f fd ["self"] (spTold c 3) := by
  refine F.ok sc_More_told (fun vs H Q E h => ?_) (fun cdv A outer s H vs Q E hr h => ?_)
  · obtain ⟨x, e, f, s, rfl, _⟩ := h
    rfl
  obtain ⟨x, e, f, s, rfl, ⟨dx, hx⟩, q⟩ := h
  refine ⟨_, (pss_one (ps_ret (pe_tup (pa_cons (pe_methP0 (k := 1) (pv 0) (hr.mono (by omega))) (pa_cons (pe_fld (pv 0) rfl) (pa_cons (pe_fld (pv 0) rfl) pa_nil)))))), ?_⟩
  refine ⟨_, rfl, x, _, dx, _, _, _, rfl, hx, rfl, MW, x, rfl, _, rfl, x, _, dx, _, _, rfl, hx, T.cl_More, T.na_More_factor, rfl, _, rfl, x, _, dx, _, _, rfl, hx, T.cl_More, T.na_More_shift, rfl, (by show 3 ≤ sizeLine; decide), fun r hr' => q r _ hr' upd_same (same_new hr' _)⟩
theorem ok_Wide___init__ {f : Addr} {fd : FuncData} (F : Fun K "__init__" "Wide.__init__" s_Wide___init__ f fd) (T : Txt K mg c) (H_is_factor : Has P w K mg base 3 "is_factor" ["thing"] spFac) (H_is_between : Has P w K mg base 2 "is_between" ["thing", "low", "high"] spBetween) : FnOk P w K mg base CX0 4 f fd ["self", "factor", "shift"] (spI2 c 4 1) := by
  refine F.ok sc_Wide___init__ (fun vs H Q E h => ?_) (fun cdv A outer s H vs Q E hr h => ?_)
  · obtain ⟨x, dx, f, s, rfl, _⟩ := h
    rfl
  obtain ⟨x, dx, f, s, rfl, hx, f0, f1, s0, s1, q⟩ := h
  refine ⟨_, (pss_cons (ps_fld (pv 0) (pv 1) rfl)
    (pss_cons (ps_fld (pv 0) (pv 2) rfl)
    (pss_one (ps_if (PW.pt (pw_or (pt_not (pt_val (pe_fn H_is_factor (hr.mono (by omega)) rfl (pa_cons (pv 1) pa_nil)))) (pw_or1 (pt_not (pt_val (pe_fn H_is_between (hr.mono (by omega)) rfl (pa_cons (pv 2) (pa_cons pe_int (pa_cons pe_int pa_nil)))))))))
      (pss_one ps_never)
      pss_nil)))), ?_⟩
  refine ⟨_, rfl, _, rfl, x, _, dx, _, rfl, hx, T.cl_Wide, T.na_Wide_factor, (by show 0 < 1000; decide), ?_⟩
  refine ⟨_, rfl, _, rfl, x, _, dx, _, rfl, upd_same, T.cl_Wide, T.na_Wide_shift, (by show 1 < 1000; decide), ?_⟩
  refine ⟨_, rfl, _, rfl, f0, f1, _, rfl, iteF ?_⟩
  refine ⟨_, rfl, _, _, _, rfl, s0, s1, _, rfl, iteF ?_⟩
  exact q _ (SameX.upd.trans (SameX.upd)) ⟨dx, upd_same⟩
theorem ok_Wide_word {f : Addr} {fd : FuncData} (F : Fun K "word" "Wide.word" s_Wide_word f fd) (T : Txt K mg c)  : FnOk P w K mg base CX0 1 f fd ["self"] (spWd 4) := by
  refine F.ok sc_Wide_word (fun vs H Q E h => ?_) (fun cdv A outer s H vs Q E hr h => ?_)
  · obtain ⟨x, rfl, _⟩ := h
    rfl
  obtain ⟨x, rfl, q⟩ := h
  exact ⟨_, (pss_one (ps_ret pe_str)), q⟩
theorem ok_Wide_told {f : Addr} {fd : FuncData} (F : Fun K "told" "Wide.told" s_Wide_told f fd) (T : Txt K mg c)  (MW : MHas P w K mg base 1 c.Wide "word" ["self"] (spWd 4)) : FnOk P w K mg base CX0 2 f fd ["self"] (spTold c 4) := by
  refine F.ok sc_Wide_told (fun vs H Q E h => ?_) (fun cdv A outer s H vs Q E hr h => ?_)
  · obtain ⟨x, e, f, s, rfl, _⟩ := h
    rfl
  obtain ⟨x, e, f, s, rfl, ⟨dx, hx⟩, q⟩ := h
  refine ⟨_, (pss_one (ps_ret (pe_tup (pa_cons (pe_methP0 (k := 1) (pv 0) (hr.mono (by omega))) (pa_cons (pe_fld (pv 0) rfl) (pa_cons (pe_fld (pv 0) rfl) pa_nil)))))), ?_⟩
  refine ⟨_, rfl, x, _, dx, _, _, _, rfl, hx, rfl, MW, x, rfl, _, rfl, x, _, dx, _, _, rfl, hx, T.cl_Wide, T.na_Wide_factor, rfl, _, rfl, x, _, dx, _, _, rfl, hx, T.cl_Wide, T.na_Wide_shift, rfl, (by show 3 ≤ sizeLine; decide), fun r hr' => q r _ hr' upd_same (same_new hr' _)⟩
theorem ok_ceiling {f : Addr} {fd : FuncData} (F : Fun K "ceiling" "ceiling" s_ceiling f fd) (T : Txt K mg c)  : FnOk P w K mg base CX0 1 f fd ["top", "bottom"] spCeilF := by
  refine F.ok sc_ceiling (fun vs H Q E h => ?_) (fun cdv A outer s H vs Q E hr h => ?_)
  · obtain ⟨a, d, rfl, _⟩ := h
    rfl
  obtain ⟨a, d, rfl, a1, a2, d1, d2, q⟩ := h
  refine ⟨_, (pss_one (ps_ret (pe_un un_neg (pe_op op_fdivB (pe_un un_neg (pv 0)) (pv 1))))), ?_⟩
  refine ⟨_, rfl, _, rfl, _, rfl, _, _, rfl, rfl, ⟨by omega, log_small (by omega) (by omega)⟩, _, rfl, ?_⟩
  show Q (.int (-(-a / d))) H
  rw [ceil_eq d1]
  exact q
theorem ok__law_up {f : Addr} {fd : FuncData} (F : Fun K "_law_up" "_law_up" s__law_up f fd) (T : Txt K mg c)  : FnOk P w K mg base CX0 1 f fd ["_law_top", "_law_bottom"] spCeilF := by
  refine F.ok sc__law_up (fun vs H Q E h => ?_) (fun cdv A outer s H vs Q E hr h => ?_)
  · obtain ⟨a, d, rfl, _⟩ := h
    rfl
  obtain ⟨a, d, rfl, a1, a2, d1, d2, q⟩ := h
  refine ⟨_, (pss_one (ps_ret (pe_op op_fdivB (pe_op op_sub (pe_op op_add (pv 0) (pv 1)) pe_int) (pv 1)))), ?_⟩
  walk_at "o"
  exact q
theorem ok_scaled_candidates {f : Addr} {fd : FuncData} (F : Fun K "scaled_candidates" "scaled_candidates" s_scaled_candidates f fd) (T : Txt K mg c) (H_ceiling : Has P w K mg base 1 "ceiling" ["top", "bottom"] spCeilF) (C_Scaled : CHas P w K mg base 4 c.Scaled "Scaled" ["self", "factor", "shift"] (spI2 c 1 0)) : FnOk P w K mg base CX0 6 f fd ["width", "d"] (spScC c) := by
  refine F.ok sc_scaled_candidates (fun vs H Q E h => ?_) (fun cdv A outer s H vs Q E hr h => ?_)
  · obtain ⟨i, d, rfl, _⟩ := h
    rfl
  obtain ⟨i, d, rfl, h1, h2, d1, d2, q⟩ := h
  refine ⟨_, (pss_cons (ps_set (i := 2) sc_scaled_candidates.nd rfl (Or.inl rfl) (pe_lst pa_nil))
    (pss_cons (ps_for PassesOwn.never rfl (pi_range1 rfl T.n_range (pa_cons (pe_op op_add (pe_bm0 PySem.F.plainAttrs_int PySem.F.slot_int_bit_length PySem.F.type_int_bit_length mt_bits (pe_op op_sub (pv 1) pe_int)) pe_int) pa_nil)) (pg_name (i := 3) sc_scaled_candidates.nd rfl (Or.inl rfl))
      (pss_cons (ps_set (i := 4) sc_scaled_candidates.nd rfl (Or.inl rfl) (pe_fn H_ceiling (hr.mono (by omega)) rfl (pa_cons (pe_op op_shl pe_int (pe_op op_add (pv 0) (pv 3))) (pa_cons (pv 1) pa_nil))))
      (pss_one (ps_if (pt_cmpR op_lt (pv 4) (pe_op op_shl pe_int (pv 0)) (nomark _))
        (pss_one (ps_expr (pe_bm PySem.F.plainAttrs_list PySem.F.slot_list_append PySem.F.type_list_append mt_append (pv 2) (pa_cons (pe_mkP C_Scaled (hr.mono (by omega)) rfl (pa_cons (pv 4) (pa_cons (pv 3) pa_nil))) pa_nil))))
        pss_nil))))
    (pss_one (ps_ret (pv 2))))), ?_⟩
  have pb := pw_bounds h1 h2
  have lb := (bl_32 h2 d1 d2).1
  have L100 : (100 : Nat) ≤ sizeLine := by decide
  walk_at "o"; intro l hl
  refine ⟨_, rfl, _, _, rfl, rfl, ty_int, _, rfl, rfl, _, _, rfl, rfl, _, rfl, (by omega), (by omega), for_range (fun n σ H2 => ∃ y1 y2 : Option V, σ = [some (.int i), some (.int d), some (.ref l), y1, y2] ∧ (∃ ps : List Addr, H2 l = some (.lst (ps.map V.ref)) ∧ PL (FR c) H2 ps (cSc 1 0 (1 * 2 ^ i.toNat) d n)) ∧ Same H H2) ⟨_, _, rfl, ⟨[], upd_same, PL.nil⟩, same_new hl _⟩ ?_ ?_⟩
  · rintro n σ H2 hn ⟨y1, y2, rfl, ⟨ps, hp, pl⟩, sm⟩
    have ep : (1 : Int) * 2 ^ (i + (0 + (n : Int))).toNat = 1 * 2 ^ i.toNat * 2 ^ n := by rw [show (i + (0 + (n : Int))).toNat = i.toNat + n by omega, Int.pow_add, Int.mul_assoc]
    have ub := pw_up h1 h2 (show n ≤ 32 by omega)
    have ul := upI_pos ub.1 d1
    walk_at "o"
    rw [ep]
    have cl := cSc_len 1 0 (1 * 2 ^ i.toNat) d n
    rw [← pl.1] at cl
    walk_at "c" <;> intro c0
    · refine ⟨_, rfl, .inl ⟨rfl, _, SqL.of hp⟩, _, rfl, _, rfl, fun x dx hx hdx hne => ⟨x, dx, _, _, rfl, upd_same, by omega, by omega, by omega, by omega, fun H' s' fo => ⟨rfl, ?_⟩⟩⟩
      have sM := made_same hx hdx s'
      refine ⟨l, _, _, rfl, rfl, sM _ _ hp, (by rw [List.length_map]; omega), _, _, rfl, ⟨ps ++ [x], (by rw [upd_same, List.map_append]; rfl), ?_⟩, Same.updL (sm.trans sM) hl⟩
      rw [cSc_succ, if_pos c0]
      have fx : FR c H' x ⟨1, 0, upI (1 * 2 ^ i.toNat * 2 ^ n) d, (n : Int)⟩ := by
        have e0 : (0 : Int) + (n : Int) = n := by omega
        rw [e0] at fo
        exact fo
      exact ((pl.mono fun p x q => q.same sM).snoc fx).updF (sM _ _ hp)
    · refine ⟨_, _, rfl, ⟨ps, hp, ?_⟩, sm⟩
      rw [cSc_succ, if_neg c0, List.append_nil]
      exact pl
  · rintro σ H2 ⟨y1, y2, rfl, ⟨ps, hp, pl⟩, sm⟩
    refine ⟨_, rfl, q l H2 hl ⟨ps, hp, ?_⟩ sm⟩
    rw [show ((intBits (d - 1) : Int) + 1).toNat = intBits (d - 1) + 1 by omega] at pl
    exact pl
theorem ok_more_candidates {f : Addr} {fd : FuncData} (F : Fun K "more_candidates" "more_candidates" s_more_candidates f fd) (T : Txt K mg c)  (C_More : CHas P w K mg base 4 c.More "More" ["self", "factor", "shift"] (spI2 c 3 0)) : FnOk P w K mg base CX0 6 f fd ["width", "d"] (spMoC c) := by
  refine F.ok sc_more_candidates (fun vs H Q E h => ?_) (fun cdv A outer s H vs Q E hr h => ?_)
  · obtain ⟨i, d, rfl, _⟩ := h
    rfl
  obtain ⟨i, d, rfl, h1, h2, d1, d2, q⟩ := h
  refine ⟨_, (pss_cons (ps_set (i := 2) sc_more_candidates.nd rfl (Or.inl rfl) (pe_lst pa_nil))
    (pss_cons (ps_for PassesOwn.never rfl (pi_range1 rfl T.n_range (pa_cons (pe_op op_add (pe_bm0 PySem.F.plainAttrs_int PySem.F.slot_int_bit_length PySem.F.type_int_bit_length mt_bits (pe_op op_sub (pv 1) pe_int)) pe_int) pa_nil)) (pg_name (i := 3) sc_more_candidates.nd rfl (Or.inl rfl))
      (pss_cons (ps_set (i := 4) sc_more_candidates.nd rfl (Or.inl rfl) (pe_op op_fdivB (pe_op op_sub (pe_op op_shl pe_int (pe_op op_add (pv 0) (pv 3))) pe_int) (pv 1)))
      (pss_one (ps_if (pt_chain op_le op_lt pe_int (pv 4) (pe_op op_shl pe_int (pv 0)))
        (pss_one (ps_expr (pe_bm PySem.F.plainAttrs_list PySem.F.slot_list_append PySem.F.type_list_append mt_append (pv 2) (pa_cons (pe_mkP C_More (hr.mono (by omega)) rfl (pa_cons (pv 4) (pa_cons (pv 3) pa_nil))) pa_nil))))
        pss_nil))))
    (pss_one (ps_ret (pv 2))))), ?_⟩
  have pb := pw_bounds h1 h2
  have lb := (bl_32 h2 d1 d2).1
  have L100 : (100 : Nat) ≤ sizeLine := by decide
  walk_at "o"; intro l hl
  refine ⟨_, rfl, _, _, rfl, rfl, ty_int, _, rfl, rfl, _, _, rfl, rfl, _, rfl, (by omega), (by omega), for_range (fun n σ H2 => ∃ y1 y2 : Option V, σ = [some (.int i), some (.int d), some (.ref l), y1, y2] ∧ (∃ ps : List Addr, H2 l = some (.lst (ps.map V.ref)) ∧ PL (FR c) H2 ps (cMo (1 * 2 ^ i.toNat) d n)) ∧ Same H H2) ⟨_, _, rfl, ⟨[], upd_same, PL.nil⟩, same_new hl _⟩ ?_ ?_⟩
  · rintro n σ H2 hn ⟨y1, y2, rfl, ⟨ps, hp, pl⟩, sm⟩
    have ep : (1 : Int) * 2 ^ (i + (0 + (n : Int))).toNat = 1 * 2 ^ i.toNat * 2 ^ n := by rw [show (i + (0 + (n : Int))).toNat = i.toNat + n by omega, Int.pow_add, Int.mul_assoc]
    have ub := pw_up h1 h2 (show n ≤ 32 by omega)
    walk_at "o"
    rw [ep]
    have cl := cMo_len (1 * 2 ^ i.toNat) d n
    rw [← pl.1] at cl
    walk_at "c" <;> intro c0
    · walk_at "o"
      walk_at "c" <;> intro c1
      · refine ⟨_, rfl, .inl ⟨rfl, _, SqL.of hp⟩, _, rfl, _, rfl, fun x dx hx hdx hne => ⟨x, dx, _, _, rfl, upd_same, by omega, by omega, by omega, by omega, fun H' s' fo => ⟨rfl, ?_⟩⟩⟩
        have sM := made_same hx hdx s'
        refine ⟨l, _, _, rfl, rfl, sM _ _ hp, (by rw [List.length_map]; omega), _, _, rfl, ⟨ps ++ [x], (by rw [upd_same, List.map_append]; rfl), ?_⟩, Same.updL (sm.trans sM) hl⟩
        rw [cMo_succ, if_pos ⟨c0, c1⟩]
        have fx : FR c H' x ⟨3, 0, (1 * 2 ^ i.toNat * 2 ^ n - 1) / d, (n : Int)⟩ := by
          have e0 : (0 : Int) + (n : Int) = n := by omega
          rw [e0] at fo
          exact fo
        exact ((pl.mono fun p x q => q.same sM).snoc fx).updF (sM _ _ hp)
      · refine ⟨_, _, rfl, ⟨ps, hp, ?_⟩, sm⟩
        rw [cMo_succ, if_neg (fun z => c1 z.2), List.append_nil]
        exact pl
    · refine ⟨_, rfl, iteF ⟨_, _, rfl, ⟨ps, hp, ?_⟩, sm⟩⟩
      rw [cMo_succ, if_neg (fun z => c0 z.1), List.append_nil]
      exact pl
  · rintro σ H2 ⟨y1, y2, rfl, ⟨ps, hp, pl⟩, sm⟩
    refine ⟨_, rfl, q l H2 hl ⟨ps, hp, ?_⟩ sm⟩
    rw [show ((intBits (d - 1) : Int) + 1).toNat = intBits (d - 1) + 1 by omega] at pl
    exact pl
theorem Txt.tyF {K : PySem.W.Frag} {mg : Str → Option Value} {c : Ad} {H : Hp} {x dx : Addr} {fs : List (Str × V)} (T : Txt K mg c) (kd : Nat) (hk : kd < 5) (h : H x = some (.ins (fOf c kd) dx fs)) : TyOf K H (.ref x) (.ref (fOf c kd)) := by
  rcases (by omega : kd = 0 ∨ kd = 1 ∨ kd = 2 ∨ kd = 3 ∨ kd = 4) with rfl | rfl | rfl | rfl | rfl
  · exact TyOf.ins h T.cl_Shifted T.kf_dc_Shifted T.kf_og T.kf_ot T.kf_mo_Shifted
  · exact TyOf.ins h T.cl_Scaled T.kf_dc_Scaled T.kf_og T.kf_ot T.kf_mo_Scaled
  · exact TyOf.ins h T.cl_Early T.kf_dc_Early T.kf_og T.kf_ot T.kf_mo_Early
  · exact TyOf.ins h T.cl_More T.kf_dc_More T.kf_og T.kf_ot T.kf_mo_More
  · exact TyOf.ins h T.cl_Wide T.kf_dc_Wide T.kf_og T.kf_ot T.kf_mo_Wide
theorem Txt.isF {K : PySem.W.Frag} {mg : Str → Option Value} {c : Ad} (T : Txt K mg c) {kd : Nat} (hk : kd < 5) : PySem.W.kitOne K (.ref (fOf c kd)) (.ref c.Form) = some true ∧ PySem.W.kitOne K (.ref (fOf c kd)) (.ref (fOf c kd)) = some true := by
  rcases (by omega : kd = 0 ∨ kd = 1 ∨ kd = 2 ∨ kd = 3 ∨ kd = 4) with rfl | rfl | rfl | rfl | rfl
  · exact ⟨kit_of T.kf_kc_Form T.kf_kt_Form T.kf_m_Shifted_Form, kit_of T.kf_kc_Shifted T.kf_kt_Shifted T.kf_m_Shifted_Shifted⟩
  · exact ⟨kit_of T.kf_kc_Form T.kf_kt_Form T.kf_m_Scaled_Form, kit_of T.kf_kc_Scaled T.kf_kt_Scaled T.kf_m_Scaled_Scaled⟩
  · exact ⟨kit_of T.kf_kc_Form T.kf_kt_Form T.kf_m_Early_Form, kit_of T.kf_kc_Early T.kf_kt_Early T.kf_m_Early_Early⟩
  · exact ⟨kit_of T.kf_kc_Form T.kf_kt_Form T.kf_m_More_Form, kit_of T.kf_kc_More T.kf_kt_More T.kf_m_More_More⟩
  · exact ⟨kit_of T.kf_kc_Form T.kf_kt_Form T.kf_m_Wide_Form, kit_of T.kf_kc_Wide T.kf_kt_Wide T.kf_m_Wide_Wide⟩
theorem ok__law_of_class {f : Addr} {fd : FuncData} (F : Fun K "_law_of_class" "_law_of_class" s__law_of_class f fd) (T : Txt K mg c)  : FnOk P w K mg base CX0 1 f fd ["_law_form", "_law_word"] (spOfC c) := by
  refine F.ok sc__law_of_class (fun vs H Q E h => ?_) (fun cdv A outer s H vs Q E hr h => ?_)
  · obtain ⟨x, kd, e, f, t, rfl, _⟩ := h
    rfl
  obtain ⟨x, kd, e, f, t, rfl, hk, ⟨dx, hx⟩, q⟩ := h
  refine ⟨_, (pss_cons (ps_if (pt_not (pt_val (pe_callB call_isinst rfl T.n_isinstance boot_isinstance (pa_cons (pv 0) (pa_cons (pe_cls rfl T.g_Form) pa_nil)))))
      (pss_one (ps_ret pe_bl))
      pss_nil)
    (pss_cons (ps_if (pt_cmpR op_eq (pv 1) pe_str (nomark _))
      (pss_one (ps_ret (pe_callB call_isinst rfl T.n_isinstance boot_isinstance (pa_cons (pv 0) (pa_cons (pe_cls rfl T.g_Shifted) pa_nil)))))
      pss_nil)
    (pss_cons (ps_if (pt_cmpR op_eq (pv 1) pe_str (nomark _))
      (pss_one (ps_ret (pe_callB call_isinst rfl T.n_isinstance boot_isinstance (pa_cons (pv 0) (pa_cons (pe_cls rfl T.g_Scaled) pa_nil)))))
      pss_nil)
    (pss_cons (ps_if (pt_cmpR op_eq (pv 1) pe_str (nomark _))
      (pss_one (ps_ret (pe_callB call_isinst rfl T.n_isinstance boot_isinstance (pa_cons (pv 0) (pa_cons (pe_cls rfl T.g_Early) pa_nil)))))
      pss_nil)
    (pss_cons (ps_if (pt_cmpR op_eq (pv 1) pe_str (nomark _))
      (pss_one (ps_ret (pe_callB call_isinst rfl T.n_isinstance boot_isinstance (pa_cons (pv 0) (pa_cons (pe_cls rfl T.g_More) pa_nil)))))
      pss_nil)
    (pss_one (ps_ret (pe_callB call_isinst rfl T.n_isinstance boot_isinstance (pa_cons (pv 0) (pa_cons (pe_cls rfl T.g_Wide) pa_nil)))))))))), ?_⟩
  have tf := T.tyF kd hk hx
  obtain ⟨i1, i2⟩ := T.isF hk
  refine ⟨_, rfl, _, _, _, _, _, rfl, rfl, tf, i1, _, rfl, iteF ?_⟩
  rcases (by omega : kd = 0 ∨ kd = 1 ∨ kd = 2 ∨ kd = 3 ∨ kd = 4) with rfl | rfl | rfl | rfl | rfl
  · refine ⟨_, rfl, rfl, _, rfl, iteD rfl ?_⟩
    exact ⟨_, rfl, _, _, _, _, _, rfl, rfl, tf, i2, q⟩
  · refine ⟨_, rfl, rfl, _, rfl, iteDN (by walk_at "n") ?_⟩
    refine ⟨_, rfl, rfl, _, rfl, iteD rfl ?_⟩
    exact ⟨_, rfl, _, _, _, _, _, rfl, rfl, tf, i2, q⟩
  · refine ⟨_, rfl, rfl, _, rfl, iteDN (by walk_at "n") ?_⟩
    refine ⟨_, rfl, rfl, _, rfl, iteDN (by walk_at "n") ?_⟩
    refine ⟨_, rfl, rfl, _, rfl, iteD rfl ?_⟩
    exact ⟨_, rfl, _, _, _, _, _, rfl, rfl, tf, i2, q⟩
  · refine ⟨_, rfl, rfl, _, rfl, iteDN (by walk_at "n") ?_⟩
    refine ⟨_, rfl, rfl, _, rfl, iteDN (by walk_at "n") ?_⟩
    refine ⟨_, rfl, rfl, _, rfl, iteDN (by walk_at "n") ?_⟩
    refine ⟨_, rfl, rfl, _, rfl, iteD rfl ?_⟩
    exact ⟨_, rfl, _, _, _, _, _, rfl, rfl, tf, i2, q⟩
  · refine ⟨_, rfl, rfl, _, rfl, iteDN (by walk_at "n") ?_⟩
    refine ⟨_, rfl, rfl, _, rfl, iteDN (by walk_at "n") ?_⟩
    refine ⟨_, rfl, rfl, _, rfl, iteDN (by walk_at "n") ?_⟩
    refine ⟨_, rfl, rfl, _, rfl, iteDN (by walk_at "n") ?_⟩
    exact ⟨_, rfl, _, _, _, _, _, rfl, rfl, tf, i2, q⟩
theorem at0 (v : V) (r : List V) : atI (v :: r) 0 = some v := by
  show atI (v :: r) ((0 : Nat) : Int) = some v
  rw [atI_nat]
  rfl
theorem tlv_hd (kd : Nat) (e f s : Int) : ∃ r, tlv kd e f s = .str (wdF kd) :: r := by
  match kd with
  | 0 => exact ⟨_, rfl⟩
  | 1 => exact ⟨_, rfl⟩
  | 2 => exact ⟨_, rfl⟩
  | 3 => exact ⟨_, rfl⟩
  | _ + 4 => exact ⟨_, rfl⟩
theorem eqTl (kd : Nat) (e f s : Int) : eqVs (tlv kd e f s) (tlv kd e f s) = true ∧ (tlv kd e f s).all flatV = true := by
  match kd with
  | 0 => simp [eqVs, tlv, List.range, List.range.loop, eqV, flatV]
  | 1 => simp [eqVs, tlv, List.range, List.range.loop, eqV, flatV]
  | 2 => simp [eqVs, tlv, List.range, List.range.loop, eqV, flatV]
  | 3 => simp [eqVs, tlv, List.range, List.range.loop, eqV, flatV]
  | _ + 4 => simp [eqVs, tlv, List.range, List.range.loop, eqV, flatV]
theorem fl_told {kd : Nat} {e f s : Int} : (flds kd e f s).lookup ("told" : Str) = none := by
  unfold flds
  split <;> rfl
theorem ok__law_agree {f : Addr} {fd : FuncData} (F : Fun K "_law_agree" "_law_agree" s__law_agree f fd) (T : Txt K mg c) (H__law_of_class : Has P w K mg base 1 "_law_of_class" ["_law_form", "_law_word"] (spOfC c)) (MT : ∀ i, i < 5 → MHas P w K mg base 2 (fOf c i) "told" ["self"] (spTold c i)) : FnOk P w K mg base CX0 3 f fd ["_law_found", "_law_due"] (spAgr c) := by
  refine F.ok sc__law_agree (fun vs H Q E h => ?_) (fun cdv A outer s H vs Q E hr h => ?_)
  · obtain ⟨l, m, xs, rfl, _⟩ := h
    rfl
  obtain ⟨l, m, xs, rfl, ⟨ps, hp, pl⟩, ⟨ts, ht, tl⟩, ln, kb, q⟩ := h
  refine ⟨_, (pss_cons (ps_if (PW.pt (pw_or (pt_not (pt_val (pe_callB call_isinst rfl T.n_isinstance boot_isinstance (pa_cons (pv 0) (pa_cons (pe_ty rfl T.n_list boot_list) pa_nil))))) (pw_or1 (pt_cmpR op_ne (pe_callB call_len_seq rfl T.n_len boot_len (pa_cons (pv 0) pa_nil)) (pe_callB call_len_seq rfl T.n_len boot_len (pa_cons (pv 1) pa_nil)) (nomark _)))))
      (pss_one (ps_ret pe_bl))
      pss_nil)
    (pss_cons (ps_for PassesOwn.never rfl (pi_zipL rfl T.n_zip (pa_cons (pv 0) (pa_cons (pv 1) pa_nil))) (pg_tup rfl (pgs_cons (pg_name (i := 2) sc__law_agree.nd rfl (Or.inl rfl)) (pgs_cons (pg_name (i := 3) sc__law_agree.nd rfl (Or.inl rfl)) pgs_nil)))
      (pss_one (ps_if (PW.pt (pw_or (pt_not (pt_val (pe_fn H__law_of_class (hr.mono (by omega)) rfl (pa_cons (pv 2) (pa_cons (pe_ix ix_tup (pv 3) pe_int (fun _ _ => rfl)) pa_nil))))) (pw_or1 (pt_cmpR (op_neT (Nat.lt_of_succ_lt (hu_of hr))) (pe_methP0 (k := 2) (pv 2) (hr.mono (by omega))) (pv 3) (nomark _)))))
        (pss_one (ps_ret pe_bl))
        pss_nil)))
    (pss_one (ps_ret pe_bl)))), ?_⟩
  have el : (ps.map V.ref).length = (ts.map V.ref).length := by rw [List.length_map, List.length_map, pl.1, tl.1]
  refine ⟨_, rfl, _, _, _, _, _, rfl, rfl, TyOf.lst hp, rfl, _, rfl, iteF ?_⟩
  refine ⟨_, rfl, l, _, rfl, .inl (SqL.of hp), _, rfl, m, _, rfl, .inl (SqL.of ht), rfl, _, rfl, iteNS (by rw [el]) ?_⟩
  refine ⟨_, rfl, _, rfl, l, m, _, _, rfl, SqL.of hp, SqL.of ht, for_zipL (xs := ps.map V.ref) (ys := ts.map V.ref) (fun n σ H2 => ∃ y1 y2 : Option V, σ = [some (.ref l), some (.ref m), y1, y2] ∧ Same H H2) ⟨_, _, rfl, Same.refl _⟩ ?_ el ?_ ?_⟩
  · rintro n σ H2 ⟨y1, y2, rfl, s2⟩
    exact ⟨SqL.of (s2 _ _ hp), SqL.of (s2 _ _ ht)⟩
  · rintro n vx vy σ H2 hx hy ⟨y1, y2, rfl, s2⟩ z hz
    rw [List.getElem?_map] at hx hy
    cases e1 : ps[n]? with
    | none => rw [e1] at hx; cases hx
    | some p =>
      cases e2 : ts[n]? with
      | none => rw [e2] at hy; cases hy
      | some t =>
        rw [e1] at hx
        rw [e2] at hy
        cases hx
        cases hy
        obtain ⟨x, ex⟩ : ∃ x, xs[n]? = some x := ⟨_, List.getElem?_eq_getElem (by rw [← pl.1]; exact (List.getElem?_eq_some_iff.mp e1).1)⟩
        have sz := s2.trans (same_new hz (.tup [.ref p, .ref t]))
        have fp := (pl.2 n p x e1 ex).same sz
        have tp := (tl.2 n t x e2 ex).same sz
        have kx := kb x (List.mem_of_getElem? ex)
        obtain ⟨r0, hr0⟩ := tlv_hd x.kd x.e x.f x.s
        obtain ⟨eq1, eq2⟩ := eqTl x.kd x.e x.f x.s
        obtain ⟨dx, hx⟩ := id fp
        have tp' := tp
        unfold TR at tp'
        rw [hr0] at tp'
        refine ⟨z, _, rfl, SqT.of upd_same, rfl, _, _, rfl, _, _, rfl, rfl, ?_⟩
        refine ⟨_, rfl, _, rfl, t, _, _, _, rfl, rfl, SqT.of tp', at0 _ _, p, x.kd, x.e, x.f, x.s, rfl, kx, fp, _, rfl, iteF ?_⟩
        refine ⟨_, rfl, p, _, dx, _, _, _, rfl, hx, fl_told, MT x.kd kx, p, x.e, x.f, x.s, rfl, fp, fun r H' rn hr' s' => ⟨_, rfl, r, t, _, _, rfl, rfl, SqT.of hr', SqT.of (s' _ _ tp), eq2, eq2, _, rfl, ?_⟩⟩
        rw [eq1]
        exact iteF ⟨_, _, rfl, sz.trans s'⟩
  · rintro σ H2 ⟨y1, y2, rfl, s2⟩
    exact q H2 s2
theorem cEa_len (A d t : Int) : (cEa A d t).length ≤ intBits (d / 2 ^ t.toNat - 1) + 1 := by
  unfold cEa
  split
  · exact cSc_len _ _ _ _ _
  · exact Nat.zero_le _
def AllJ (H : Hp) (i d t : Int) (l : Addr) (xs : List Cd) (σ : L2.St) (H2 : Hp) : Prop := ∃ y1 y2 : Option V, σ = [some (.int i), some (.int d), some (.int (1 * 2 ^ i.toNat)), some (.int (intBits (d - 1) : Int)), some (.int t), some (.ref l), y1, y2] ∧ AL TR H2 l xs ∧ Same H H2
theorem AL.app {H2 : Hp} {l r : Addr} {ps : List Addr} {xs : List Cd} (h : PL TR H2 ps xs) (hp : H2 l = some (.lst (ps.map V.ref))) (hr : H2 r = none) (x : Cd) : AL TR (upd (upd H2 r (.tup (tlv x.kd x.e x.f x.s))) l (.lst (ps.map V.ref ++ [.ref r]))) l (xs ++ [x]) := by
  have sM := same_new hr (.tup (tlv x.kd x.e x.f x.s))
  refine ⟨ps ++ [r], by rw [upd_same, List.map_append]; rfl, ?_⟩
  have fx : TR (upd H2 r (.tup (tlv x.kd x.e x.f x.s))) r x := upd_same
  exact ((h.mono fun p x q => q.same sM).snoc fx).updT (sM _ _ hp)
theorem ok__law_all {f : Addr} {fd : FuncData} (F : Fun K "_law_all" "_law_all" s__law_all f fd) (T : Txt K mg c) (H__law_twos : Has P w K mg base 1 "_law_twos" ["_law_d"] spTwos) (H__law_up : Has P w K mg base 1 "_law_up" ["_law_top", "_law_bottom"] spCeilF) : FnOk P w K mg base CX0 2 f fd ["_law_width", "_law_d"] spAllT := by
  refine F.ok sc__law_all (fun vs H Q E h => ?_) (fun cdv A outer s H vs Q E hr h => ?_)
  · obtain ⟨i, d, rfl, _⟩ := h
    rfl
  obtain ⟨i, d, rfl, h1, h2, d1, d2, q⟩ := h
  refine ⟨_, (pss_cons (ps_set (i := 2) sc__law_all.nd rfl (Or.inl rfl) (pe_op op_shl pe_int (pv 0)))
    (pss_cons (ps_set (i := 3) sc__law_all.nd rfl (Or.inl rfl) (pe_bm0 PySem.F.plainAttrs_int PySem.F.slot_int_bit_length PySem.F.type_int_bit_length mt_bits (pe_op op_sub (pv 1) pe_int)))
    (pss_cons (ps_set (i := 4) sc__law_all.nd rfl (Or.inl rfl) (pe_fn H__law_twos (hr.mono (by omega)) rfl (pa_cons (pv 1) pa_nil)))
    (pss_cons (ps_set (i := 5) sc__law_all.nd rfl (Or.inl rfl) (pe_lst (pa_cons (pe_tup (pa_cons pe_str (pa_cons (pe_op op_sub (pe_bm0 PySem.F.plainAttrs_int PySem.F.slot_int_bit_length PySem.F.type_int_bit_length mt_bits (pv 1)) pe_int) pa_nil))) pa_nil)))
    (pss_cons (ps_for PassesOwn.never rfl (pi_range1 rfl T.n_range (pa_cons (pe_op op_add (pv 3) pe_int) pa_nil)) (pg_name (i := 6) sc__law_all.nd rfl (Or.inl rfl))
      (pss_cons (ps_set (i := 7) sc__law_all.nd rfl (Or.inl rfl) (pe_fn H__law_up (hr.mono (by omega)) rfl (pa_cons (pe_op op_shl (pv 2) (pv 6)) (pa_cons (pv 1) pa_nil))))
      (pss_one (ps_if (pt_cmpR op_lt (pv 7) (pv 2) (nomark _))
        (pss_one (ps_expr (pe_bm PySem.F.plainAttrs_list PySem.F.slot_list_append PySem.F.type_list_append mt_append (pv 5) (pa_cons (pe_tup (pa_cons pe_str (pa_cons (pv 7) (pa_cons (pv 6) pa_nil)))) pa_nil))))
        pss_nil))))
    (pss_join (ps_if (pt_cmpR op_gt (pv 4) pe_int (nomark _))
      (pss_one (ps_for PassesOwn.never rfl (pi_range1 rfl T.n_range (pa_cons (pe_op op_add (pe_bm0 PySem.F.plainAttrs_int PySem.F.slot_int_bit_length PySem.F.type_int_bit_length mt_bits (pe_op op_sub (pe_op op_shr (pv 1) (pv 4)) pe_int)) pe_int) pa_nil)) (pg_name (i := 6) sc__law_all.nd rfl (Or.inl rfl))
        (pss_cons (ps_set (i := 7) sc__law_all.nd rfl (Or.inl rfl) (pe_fn H__law_up (hr.mono (by omega)) rfl (pa_cons (pe_op op_shl (pv 2) (pv 6)) (pa_cons (pe_op op_shr (pv 1) (pv 4)) pa_nil))))
        (pss_one (ps_if (pt_cmpR op_lt (pv 7) (pv 2) (nomark _))
          (pss_one (ps_expr (pe_bm PySem.F.plainAttrs_list PySem.F.slot_list_append PySem.F.type_list_append mt_append (pv 5) (pa_cons (pe_tup (pa_cons pe_str (pa_cons (pv 4) (pa_cons (pv 7) (pa_cons (pv 6) pa_nil))))) pa_nil))))
          pss_nil)))))
      pss_nil)
    (pss_cons (ps_for PassesOwn.never rfl (pi_range1 rfl T.n_range (pa_cons (pe_op op_add (pv 3) pe_int) pa_nil)) (pg_name (i := 6) sc__law_all.nd rfl (Or.inl rfl))
      (pss_cons (ps_set (i := 7) sc__law_all.nd rfl (Or.inl rfl) (pe_op op_fdivB (pe_op op_sub (pe_op op_shl (pv 2) (pv 6)) pe_int) (pv 1)))
      (pss_one (ps_if (pt_chain op_le op_lt pe_int (pv 7) (pv 2))
        (pss_one (ps_expr (pe_bm PySem.F.plainAttrs_list PySem.F.slot_list_append PySem.F.type_list_append mt_append (pv 5) (pa_cons (pe_tup (pa_cons pe_str (pa_cons (pv 7) (pa_cons (pv 6) pa_nil)))) pa_nil))))
        pss_nil))))
    (pss_join (ps_if (pt_cmpR op_gt (pv 3) pe_int (nomark _))
      (pss_one (ps_expr (pe_bm PySem.F.plainAttrs_list PySem.F.slot_list_append PySem.F.type_list_append mt_append (pv 5) (pa_cons (pe_tup (pa_cons pe_str (pa_cons (pe_op op_sub (pe_fn H__law_up (hr.mono (by omega)) rfl (pa_cons (pe_op op_shl (pv 2) (pv 3)) (pa_cons (pv 1) pa_nil))) (pv 2)) (pa_cons (pv 3) pa_nil)))) pa_nil))))
      pss_nil)
    (pss_one (ps_ret (pv 5))))))))))), ?_⟩
  have pb := pw_bounds h1 h2
  have lb := (bl_32 h2 d1 d2).1
  have L100 : (1000 : Nat) ≤ sizeLine := by decide
  walk_at "o"; intro t tw
  have t0 := tw.1
  have tl := tw_small d1 (by omega) tw
  walk_at "o"
  intro p0 hp0
  refine ⟨(by show 1 ≤ sizeLine; decide), fun l hl => ?_⟩
  have n0 := same_new hp0 (.tup [.str "shifted", .int ((intBits d : Int) - 1)])
  have n1 := same_new hl (.lst [.ref p0])
  have J0 : AL TR (upd (upd H p0 (.tup [.str "shifted", .int ((intBits d : Int) - 1)])) l (.lst [.ref p0])) l [⟨0, 0, 0, (intBits d : Int) - 1⟩] := ⟨[p0], upd_same, .one (n1 _ _ (upd_same (H := H) (a := p0)))⟩
  have e0 : ∀ n : Nat, (0 : Int) + (n : Int) = n := fun n => Int.zero_add _
  have hz : H l = none := by
    cases e : H l with
    | none => rfl
    | some o => have := n0 _ _ e; rw [show upd H p0 _ l = none from hl] at this; cases this
  refine ⟨_, rfl, _, _, rfl, rfl, _, rfl, (by omega), (by omega), for_range (fun n => AllJ H i d t l ([⟨0, 0, 0, (intBits d : Int) - 1⟩] ++ cSc 1 0 (1 * 2 ^ i.toNat) d n)) ⟨_, _, rfl, J0, n0.trans n1⟩ ?_ ?_⟩
  · rintro n σ H2 hn ⟨y1, y2, rfl, ⟨ps, hp, pl⟩, sm⟩
    have ep : (1 : Int) * 2 ^ i.toNat * 2 ^ (0 + (n : Int)).toNat = 1 * 2 ^ i.toNat * 2 ^ n := by rw [show (0 + (n : Int)).toNat = n by omega]
    have ub := pw_up h1 h2 (show n ≤ 32 by omega)
    have ul := upI_pos ub.1 d1
    have cl := cSc_len 1 0 (1 * 2 ^ i.toNat) d n
    have pln := pl.1
    rw [List.length_append] at pln
    have pln' : ps.length = 1 + (cSc 1 0 (1 * 2 ^ i.toNat) d n).length := pln
    have cp : CPow (1 * 2 ^ i.toNat) (0 + (n : Int)) := ⟨by omega, by omega, by omega⟩
    walk_at "o"
    rw [ep]
    walk_at "c" <;> intro c0
    · refine ⟨_, rfl, .inl ⟨rfl, _, SqL.of hp⟩, _, rfl, _, rfl, (by show 3 ≤ sizeLine; decide), fun r hr' => ?_⟩
      have sM := same_new hr' (.tup (tlv 1 0 (upI (1 * 2 ^ i.toNat * 2 ^ n) d) (0 + (n : Int))))
      have ap := AL.app pl hp hr' ⟨1, 0, upI (1 * 2 ^ i.toNat * 2 ^ n) d, 0 + (n : Int)⟩
      refine ⟨l, _, _, rfl, rfl, sM _ _ hp, (by rw [List.length_map]; omega), _, _, rfl, ?_, Same.updL (sm.trans sM) hz⟩
      rw [cSc_succ, if_pos c0, ← List.append_assoc, show (⟨1, 0, upI (1 * 2 ^ i.toNat * 2 ^ n) d, (n : Int)⟩ : Cd) = ⟨1, 0, upI (1 * 2 ^ i.toNat * 2 ^ n) d, 0 + (n : Int)⟩ by rw [e0]]
      exact ap
    · refine ⟨_, _, rfl, ⟨ps, hp, ?_⟩, sm⟩
      rw [cSc_succ, if_neg c0, List.append_nil]
      exact pl
  rw [show ((intBits (d - 1) : Int) + 1).toNat = intBits (d - 1) + 1 by omega]
  rintro σ H2 ⟨y1, y2, rfl, a1, sm⟩
  have o1 := xdiv (x := d) (by omega) t
  have o2 : 1 ≤ d / 2 ^ t.toNat := Classical.byContradiction fun z => by
    have a := Int.mul_nonpos_of_nonpos_of_nonneg (show d / 2 ^ t.toNat ≤ 0 by omega) (Int.le_of_lt (p_pos t.toNat))
    have b := tw.2.1
    omega
  have lo := (bl_32 h2 o2 (Int.lt_of_le_of_lt o1.2 d2)).1
  have c1 := cSc_len 1 0 (1 * 2 ^ i.toNat) d (intBits (d - 1) + 1)
  refine ⟨AllJ H i d t l ([⟨0, 0, 0, (intBits d : Int) - 1⟩] ++ cSc 1 0 (1 * 2 ^ i.toNat) d (intBits (d - 1) + 1) ++ cEa (1 * 2 ^ i.toNat) d t), ?_, ?_⟩
  · refine ⟨_, rfl, _, _, rfl, rfl, _, rfl, ?_⟩
    walk_at "c" <;> intro c2
    · refine ⟨_, rfl, _, rfl, _, _, rfl, rfl, t0, _, _, rfl, rfl, ty_int, _, rfl, rfl, _, _, rfl, rfl, _, rfl, (by omega), (by omega), for_range (fun n => AllJ H i d t l ([⟨0, 0, 0, (intBits d : Int) - 1⟩] ++ cSc 1 0 (1 * 2 ^ i.toNat) d (intBits (d - 1) + 1) ++ cSc 2 t (1 * 2 ^ i.toNat) (d / 2 ^ t.toNat) n)) ⟨_, _, rfl, (by rw [show cSc 2 t (1 * 2 ^ i.toNat) (d / 2 ^ t.toNat) 0 = [] from rfl, List.append_nil]; exact a1), sm⟩ ?_ ?_⟩
      · clear a1 sm
        rintro n σ H2 hn ⟨y1, y2, rfl, ⟨ps, hp, pl⟩, sm⟩
        have ep : (1 : Int) * 2 ^ i.toNat * 2 ^ (0 + (n : Int)).toNat = 1 * 2 ^ i.toNat * 2 ^ n := by rw [show (0 + (n : Int)).toNat = n by omega]
        have ub := pw_up h1 h2 (show n ≤ 32 by omega)
        have ul := upI_pos ub.1 o2
        have cl := cSc_len 2 t (1 * 2 ^ i.toNat) (d / 2 ^ t.toNat) n
        have pln := pl.1
        rw [List.length_append, List.length_append] at pln
        have pln' : ps.length = 1 + (cSc 1 0 (1 * 2 ^ i.toNat) d (intBits (d - 1) + 1)).length + (cSc 2 t (1 * 2 ^ i.toNat) (d / 2 ^ t.toNat) n).length := pln
        have cp : CPow (1 * 2 ^ i.toNat) (0 + (n : Int)) := ⟨by omega, by omega, by omega⟩
        walk_at "o"
        rw [ep]
        walk_at "c" <;> intro c0
        · refine ⟨_, rfl, .inl ⟨rfl, _, SqL.of hp⟩, _, rfl, _, rfl, _, rfl, (by show 4 ≤ sizeLine; decide), fun r hr' => ?_⟩
          have sM := same_new hr' (.tup (tlv 2 t (upI (1 * 2 ^ i.toNat * 2 ^ n) (d / 2 ^ t.toNat)) (0 + (n : Int))))
          have ap := AL.app pl hp hr' ⟨2, t, upI (1 * 2 ^ i.toNat * 2 ^ n) (d / 2 ^ t.toNat), 0 + (n : Int)⟩
          refine ⟨l, _, _, rfl, rfl, sM _ _ hp, (by rw [List.length_map]; omega), _, _, rfl, ?_, Same.updL (sm.trans sM) hz⟩
          rw [cSc_succ 2, if_pos c0, ← List.append_assoc, show (⟨2, t, upI (1 * 2 ^ i.toNat * 2 ^ n) (d / 2 ^ t.toNat), (n : Int)⟩ : Cd) = ⟨2, t, upI (1 * 2 ^ i.toNat * 2 ^ n) (d / 2 ^ t.toNat), 0 + (n : Int)⟩ by rw [e0]]
          exact ap
        · refine ⟨_, _, rfl, ⟨ps, hp, ?_⟩, sm⟩
          rw [cSc_succ 2, if_neg c0, List.append_nil]
          exact pl
      · rintro σ H2 h
        rw [show ((intBits (d / 2 ^ t.toNat - 1) : Int) + 1).toNat = intBits (d / 2 ^ t.toNat - 1) + 1 by omega] at h
        unfold cEa
        rw [if_pos c2]
        exact h
    · exact ⟨_, _, rfl, (by unfold cEa; rw [if_neg c2, List.append_nil]; exact a1), sm⟩
  clear a1 sm
  rintro σ H2 ⟨y1, y2, rfl, a1, sm⟩
  have c3 := cEa_len (1 * 2 ^ i.toNat) d t
  refine ⟨_, rfl, _, _, rfl, rfl, _, rfl, (by omega), (by omega), for_range (fun n => AllJ H i d t l ([⟨0, 0, 0, (intBits d : Int) - 1⟩] ++ cSc 1 0 (1 * 2 ^ i.toNat) d (intBits (d - 1) + 1) ++ cEa (1 * 2 ^ i.toNat) d t ++ cMo (1 * 2 ^ i.toNat) d n)) ⟨_, _, rfl, (by rw [show cMo (1 * 2 ^ i.toNat) d 0 = [] from rfl, List.append_nil]; exact a1), sm⟩ ?_ ?_⟩
  · clear a1 sm
    rintro n σ H2 hn ⟨y1, y2, rfl, ⟨ps, hp, pl⟩, sm⟩
    have ep : (1 : Int) * 2 ^ i.toNat * 2 ^ (0 + (n : Int)).toNat = 1 * 2 ^ i.toNat * 2 ^ n := by rw [show (0 + (n : Int)).toNat = n by omega]
    have ub := pw_up h1 h2 (show n ≤ 32 by omega)
    have cl := cMo_len (1 * 2 ^ i.toNat) d n
    have pln := pl.1
    rw [List.length_append, List.length_append, List.length_append] at pln
    have pln' : ps.length = 1 + (cSc 1 0 (1 * 2 ^ i.toNat) d (intBits (d - 1) + 1)).length + (cEa (1 * 2 ^ i.toNat) d t).length + (cMo (1 * 2 ^ i.toNat) d n).length := pln
    have cp : CPow (1 * 2 ^ i.toNat) (0 + (n : Int)) := ⟨by omega, by omega, by omega⟩
    walk_at "o"
    rw [ep]
    walk_at "c" <;> intro c0
    · walk_at "o"
      walk_at "c" <;> intro c4
      · refine ⟨_, rfl, .inl ⟨rfl, _, SqL.of hp⟩, _, rfl, _, rfl, (by show 3 ≤ sizeLine; decide), fun r hr' => ?_⟩
        have sM := same_new hr' (.tup (tlv 3 0 ((1 * 2 ^ i.toNat * 2 ^ n - 1) / d) (0 + (n : Int))))
        have ap := AL.app pl hp hr' ⟨3, 0, (1 * 2 ^ i.toNat * 2 ^ n - 1) / d, 0 + (n : Int)⟩
        refine ⟨l, _, _, rfl, rfl, sM _ _ hp, (by rw [List.length_map]; omega), _, _, rfl, ?_, Same.updL (sm.trans sM) hz⟩
        rw [cMo_succ, if_pos ⟨c0, c4⟩, ← List.append_assoc, show (⟨3, 0, (1 * 2 ^ i.toNat * 2 ^ n - 1) / d, (n : Int)⟩ : Cd) = ⟨3, 0, (1 * 2 ^ i.toNat * 2 ^ n - 1) / d, 0 + (n : Int)⟩ by rw [e0]]
        exact ap
      · refine ⟨_, _, rfl, ⟨ps, hp, ?_⟩, sm⟩
        rw [cMo_succ, if_neg (fun z => c4 z.2), List.append_nil]
        exact pl
    · refine ⟨_, rfl, iteF ⟨_, _, rfl, ⟨ps, hp, ?_⟩, sm⟩⟩
      rw [cMo_succ, if_neg (fun z => c0 z.1), List.append_nil]
      exact pl
  clear a1 sm
  rw [show ((intBits (d - 1) : Int) + 1).toNat = intBits (d - 1) + 1 by omega]
  rintro σ H2 ⟨y1, y2, rfl, a1, sm⟩
  refine ⟨AllJ H i d t l (cAll (1 * 2 ^ i.toNat) d t), ?_, ?_⟩
  · refine ⟨_, rfl, _, _, rfl, rfl, _, rfl, ?_⟩
    walk_at "c" <;> intro c5
    · obtain ⟨ps, hp, pl⟩ := a1
      have ub := pw_up h1 h2 lb
      have cp : CPow (1 * 2 ^ i.toNat) (intBits (d - 1) : Int) := ⟨by omega, by omega, by omega⟩
      have cl := cMo_len (1 * 2 ^ i.toNat) d (intBits (d - 1) + 1)
      have pln := pl.1
      rw [List.length_append, List.length_append, List.length_append] at pln
      have pln' : ps.length = 1 + (cSc 1 0 (1 * 2 ^ i.toNat) d (intBits (d - 1) + 1)).length + (cEa (1 * 2 ^ i.toNat) d t).length + (cMo (1 * 2 ^ i.toNat) d (intBits (d - 1) + 1)).length := pln
      refine ⟨_, rfl, .inl ⟨rfl, _, SqL.of hp⟩, _, rfl, _, rfl, _, _, rfl, rfl, cp, _, rfl, _, _, rfl, ub.1, ub.2, d1, (by omega), _, rfl, _, _, rfl, rfl, _, rfl, (by show 3 ≤ sizeLine; decide), fun r hr' => ?_⟩
      have sM := same_new hr' (.tup (tlv 4 0 (upI (1 * 2 ^ i.toNat * 2 ^ intBits (d - 1)) d - 1 * 2 ^ i.toNat) (intBits (d - 1) : Int)))
      have ap := AL.app pl hp hr' ⟨4, 0, upI (1 * 2 ^ i.toNat * 2 ^ intBits (d - 1)) d - 1 * 2 ^ i.toNat, (intBits (d - 1) : Int)⟩
      refine ⟨l, _, _, rfl, rfl, sM _ _ hp, (by rw [List.length_map]; omega), _, _, rfl, ?_, Same.updL (sm.trans sM) hz⟩
      unfold cAll cWi
      rw [if_pos (by omega)]
      exact ap
    · exact ⟨_, _, rfl, (by unfold cAll cWi; rw [if_neg (by omega), List.append_nil]; exact a1), sm⟩
  · rintro σ H3 ⟨z1, z2, rfl, a2, s3⟩
    exact ⟨_, rfl, q t l H3 tw hz a2 s3⟩
theorem AL.ext {c : Ad} {H2 : Hp} {l : Addr} {ps qs : List Addr} {xs ys : List Cd} (h : PL (FR c) H2 ps xs) (hl : H2 l = some (.lst (ps.map V.ref))) (g : PL (FR c) H2 qs ys) : AL (FR c) (upd H2 l (.lst (ps.map V.ref ++ qs.map V.ref))) l (xs ++ ys) :=
  ⟨ps ++ qs, by rw [upd_same, List.map_append], (h.append g).updF hl⟩
theorem ok_candidates {f : Addr} {fd : FuncData} (F : Fun K "candidates" "candidates" s_candidates f fd) (T : Txt K mg c) (H_need_divisor : Has P w K mg base 4 "need_divisor" ["width", "d"] spNeedD) (H_scaled_candidates : Has P w K mg base 6 "scaled_candidates" ["width", "d"] (spScC c)) (H_early_candidates : Has P w K mg base 7 "early_candidates" ["width", "d"] (spEaC c)) (H_more_candidates : Has P w K mg base 6 "more_candidates" ["width", "d"] (spMoC c)) (H_ceiling : Has P w K mg base 1 "ceiling" ["top", "bottom"] spCeilF) (C_Shifted : CHas P w K mg base 4 c.Shifted "Shifted" ["self", "shift"] (spI0 c)) (C_Wide : CHas P w K mg base 4 c.Wide "Wide" ["self", "factor", "shift"] (spI2 c 4 1)) : FnOk P w K mg base CX0 8 f fd ["width", "d"] (spCand c) := by
  refine F.ok sc_candidates (fun vs H Q E h => ?_) (fun cdv A outer s H vs Q E hr h => ?_)
  · obtain ⟨i, d, rfl, _⟩ := h
    rfl
  obtain ⟨i, d, rfl, h1, h2, d1, d2, q⟩ := h
  refine ⟨_, (pss_cons (ps_expr (pe_fn H_need_divisor (hr.mono (by omega)) rfl (pa_cons (pv 0) (pa_cons (pv 1) pa_nil))))
    (pss_cons (ps_set (i := 2) sc_candidates.nd rfl (Or.inl rfl) (pe_lst (pa_cons (pe_mkP C_Shifted (hr.mono (by omega)) rfl (pa_cons (pe_op op_sub (pe_bm0 PySem.F.plainAttrs_int PySem.F.slot_int_bit_length PySem.F.type_int_bit_length mt_bits (pv 1)) pe_int) pa_nil)) pa_nil)))
    (pss_cons (ps_expr (pe_bm PySem.F.plainAttrs_list PySem.F.slot_list_extend PySem.F.type_list_extend mt_extend (pv 2) (pa_cons (pe_fn H_scaled_candidates (hr.mono (by omega)) rfl (pa_cons (pv 0) (pa_cons (pv 1) pa_nil))) pa_nil)))
    (pss_cons (ps_expr (pe_bm PySem.F.plainAttrs_list PySem.F.slot_list_extend PySem.F.type_list_extend mt_extend (pv 2) (pa_cons (pe_fn H_early_candidates (hr.mono (by omega)) rfl (pa_cons (pv 0) (pa_cons (pv 1) pa_nil))) pa_nil)))
    (pss_cons (ps_expr (pe_bm PySem.F.plainAttrs_list PySem.F.slot_list_extend PySem.F.type_list_extend mt_extend (pv 2) (pa_cons (pe_fn H_more_candidates (hr.mono (by omega)) rfl (pa_cons (pv 0) (pa_cons (pv 1) pa_nil))) pa_nil)))
    (pss_cons (ps_set (i := 3) sc_candidates.nd rfl (Or.inl rfl) (pe_bm0 PySem.F.plainAttrs_int PySem.F.slot_int_bit_length PySem.F.type_int_bit_length mt_bits (pe_op op_sub (pv 1) pe_int)))
    (pss_join (ps_if (pt_cmpR op_ne (pv 3) pe_int (nomark _))
      (pss_one (ps_expr (pe_bm PySem.F.plainAttrs_list PySem.F.slot_list_append PySem.F.type_list_append mt_append (pv 2) (pa_cons (pe_mkP C_Wide (hr.mono (by omega)) rfl (pa_cons (pe_op op_sub (pe_fn H_ceiling (hr.mono (by omega)) rfl (pa_cons (pe_op op_shl pe_int (pe_op op_add (pv 0) (pv 3))) (pa_cons (pv 1) pa_nil))) (pe_op op_shl pe_int (pv 0))) (pa_cons (pv 3) pa_nil))) pa_nil))))
      pss_nil)
    (pss_one (ps_ret (pv 2)))))))))), ?_⟩
  have pb := pw_bounds h1 h2
  have lb := bl_32 h2 d1 d2
  have L100 : (1000 : Nat) ≤ sizeLine := by decide
  walk_at "o"
  refine fun x dx hx hdx hne => ⟨x, dx, _, rfl, upd_same, (by omega), (by omega), fun H1 s1 fo => ⟨rfl, (by show 1 ≤ sizeLine; decide), fun l hl => ?_⟩⟩
  have sM := made_same hx hdx s1
  have hz : H l = none := by
    cases e : H l with
    | none => rfl
    | some o => have := sM _ _ e; rw [hl] at this; cases this
  have n1 := same_new hl (.lst [.ref x])
  have A1 : AL (FR c) (upd H1 l (.lst [.ref x])) l [⟨0, 0, 0, (intBits d : Int) - 1⟩] := ⟨[x], upd_same, .one (FR.same (x := ⟨0, 0, 0, (intBits d : Int) - 1⟩) fo n1)⟩
  have S1 := sM.trans n1
  generalize upd H1 l (.lst [.ref x]) = G1 at A1 S1 ⊢
  obtain ⟨ps1, hp1, pl1⟩ := A1
  refine ⟨_, rfl, .inl ⟨rfl, _, SqL.of hp1⟩, _, rfl, _, rfl, i, d, rfl, h1, h2, d1, d2, fun b2 H2 b20 ⟨qs2, hq2, ql2⟩ s2 => ⟨l, b2, _, _, rfl, rfl, s2 _ _ hp1, hq2, ?_, ?_⟩⟩
  · have := pl1.1
    have := ql2.1
    have := cSc_len 1 0 (1 * 2 ^ i.toNat) d (intBits (d - 1) + 1)
    rw [List.length_map, List.length_map]
    simp only [List.length_cons, List.length_nil] at *
    omega
  have A2 := AL.ext (pl1.mono fun _ _ q => q.same s2) (s2 _ _ hp1) ql2
  have S2 := Same.updL (o := .lst (ps1.map V.ref ++ qs2.map V.ref)) (S1.trans s2) hz
  have l2 : ([⟨0, 0, 0, (intBits d : Int) - 1⟩] ++ cSc 1 0 (1 * 2 ^ i.toNat) d (intBits (d - 1) + 1) : List Cd).length ≤ 40 := by
    have := cSc_len 1 0 (1 * 2 ^ i.toNat) d (intBits (d - 1) + 1)
    rw [List.length_append]
    show 1 + _ ≤ 40
    omega
  generalize upd H2 l (.lst (ps1.map V.ref ++ qs2.map V.ref)) = G2 at A2 S2 ⊢
  clear pl1 hp1 S1 s2 hq2 ql2 n1 fo s1 sM
  obtain ⟨ps2, hp2, pl2⟩ := A2
  refine ⟨_, rfl, .inl ⟨rfl, _, SqL.of hp2⟩, _, rfl, _, rfl, i, d, rfl, h1, h2, d1, d2, fun t b3 H3 tw b30 ⟨qs3, hq3, ql3⟩ s3 => ?_⟩
  have t0 := tw.1
  have o1 := xdiv (x := d) (by omega) t
  have o2 : 1 ≤ d / 2 ^ t.toNat := Classical.byContradiction fun z => by
    have a := Int.mul_nonpos_of_nonpos_of_nonneg (show d / 2 ^ t.toNat ≤ 0 by omega) (Int.le_of_lt (p_pos t.toNat))
    have b := tw.2.1
    omega
  have lo := (bl_32 h2 o2 (Int.lt_of_le_of_lt o1.2 d2)).1
  have l3 : ([⟨0, 0, 0, (intBits d : Int) - 1⟩] ++ cSc 1 0 (1 * 2 ^ i.toNat) d (intBits (d - 1) + 1) ++ cEa (1 * 2 ^ i.toNat) d t : List Cd).length ≤ 80 := by
    have := cEa_len (1 * 2 ^ i.toNat) d t
    rw [List.length_append]
    omega
  have A3 := AL.ext (pl2.mono fun _ _ q => q.same s3) (s3 _ _ hp2) ql3
  have S3 := Same.updL (o := .lst (ps2.map V.ref ++ qs3.map V.ref)) (S2.trans s3) hz
  have e3 : ps2.length + qs3.length ≤ 80 := by
    have a := pl2.1
    have b := ql3.1
    rw [List.length_append] at l3
    omega
  refine ⟨l, b3, _, _, rfl, rfl, s3 _ _ hp2, hq3, (by rw [List.length_map, List.length_map]; omega), ?_⟩
  show tSeq _ _ _ _ _
  generalize upd H3 l (.lst (ps2.map V.ref ++ qs3.map V.ref)) = G3 at A3 S3 ⊢
  clear pl2 hp2 S2 s3 hq3 ql3
  obtain ⟨ps3, hp3, pl3⟩ := A3
  refine ⟨_, rfl, .inl ⟨rfl, _, SqL.of hp3⟩, _, rfl, _, rfl, i, d, rfl, h1, h2, d1, d2, fun b4 H4 b40 ⟨qs4, hq4, ql4⟩ s4 => ?_⟩
  have l4 := cMo_len (1 * 2 ^ i.toNat) d (intBits (d - 1) + 1)
  have A4 := AL.ext (pl3.mono fun _ _ q => q.same s4) (s4 _ _ hp3) ql4
  have S4 := Same.updL (o := .lst (ps3.map V.ref ++ qs4.map V.ref)) (S3.trans s4) hz
  have e4 : ps3.length + qs4.length ≤ 120 := by
    have a := pl3.1
    have b := ql4.1
    omega
  refine ⟨l, b4, _, _, rfl, rfl, s4 _ _ hp3, hq4, (by rw [List.length_map, List.length_map]; omega), ?_⟩
  show tSeq _ _ _ _ _
  generalize upd H4 l (.lst (ps3.map V.ref ++ qs4.map V.ref)) = G4 at A4 S4 ⊢
  refine ⟨_, rfl, _, _, rfl, rfl, ty_int, _, rfl, rfl, ?_⟩
  refine ⟨fun σ HZ => σ = [some (.int i), some (.int d), some (.ref l), some (.int (intBits (d - 1) : Int))] ∧ AL (FR c) HZ l (cAll (1 * 2 ^ i.toNat) d t) ∧ Same H HZ, ?_, ?_⟩
  · refine ⟨_, rfl, rfl, _, rfl, ?_⟩
    by_cases c5 : intBits (d - 1) = 0
    · refine iteNS (by rw [c5]; rfl) ⟨rfl, ?_, S4⟩
      unfold cAll cWi
      rw [if_neg (by omega), List.append_nil]
      exact A4
    · have ep : (1 : Int) * 2 ^ (i + (intBits (d - 1) : Int)).toNat = 1 * 2 ^ i.toNat * 2 ^ intBits (d - 1) := by rw [show (i + (intBits (d - 1) : Int)).toNat = i.toNat + intBits (d - 1) by omega, Int.pow_add, Int.mul_assoc]
      have ub := pw_up h1 h2 lb.1
      have wf := wide_fac (A := 1 * 2 ^ i.toNat) (B := 2 ^ intBits (d - 1)) (by omega) d1 (bl_le d1) (bl_ge d1 (by omega)) (by omega)
      have wu : upI (1 * 2 ^ i.toNat * 2 ^ intBits (d - 1)) d = (1 * 2 ^ i.toNat * 2 ^ intBits (d - 1) + d - 1) / d := rfl
      obtain ⟨ps, hp, pl⟩ := A4
      have pln := pl.1
      rw [List.length_append] at pln
      refine iteN (fun z => c5 (by injection z with z; omega)) ?_
      refine ⟨_, rfl, .inl ⟨rfl, _, SqL.of hp⟩, _, rfl, _, rfl, _, _, rfl, rfl, _, _, rfl, rfl, cpow1 (by omega) (by omega), _, rfl, _, _, rfl, ?_⟩
      rw [ep]
      refine ⟨ub.1, ub.2, d1, (by omega), ?_⟩
      refine ⟨_, rfl, _, _, rfl, rfl, cpow1 (by omega) (by omega), _, _, rfl, rfl, _, rfl, fun x dx hx hdx hne => ⟨x, dx, _, _, rfl, upd_same, (by omega), (by omega), (by omega), (by omega), fun H' s' fo => ⟨rfl, ?_⟩⟩⟩
      have sM := made_same hx hdx s'
      have Sx := Same.updL (o := .lst (ps.map V.ref ++ [.ref x])) (S4.trans sM) hz
      refine ⟨l, _, _, rfl, rfl, sM _ _ hp, (by rw [List.length_map]; omega), rfl, ?_, Sx⟩
      unfold cAll cWi
      rw [if_pos (by omega)]
      have fx : FR c H' x ⟨4, 0, upI (1 * 2 ^ i.toNat * 2 ^ intBits (d - 1)) d - 1 * 2 ^ i.toNat, (intBits (d - 1) : Int)⟩ := fo
      exact ⟨ps ++ [x], (by rw [upd_same, List.map_append]; rfl), ((pl.mono fun _ _ q => q.same sM).snoc fx).updF (sM _ _ hp)⟩
  · rintro σ HZ ⟨rfl, a, s'⟩
    exact ⟨_, rfl, q t l HZ tw hz a s'⟩
theorem pe_fldK {X : Cx} {K : PySem.W.Frag} {e : Expr} {f : Str} {pos : Pos} {ta : TE} (hK : X.K = K) (he : PE X e ta) (hb : attributeBase e f X.env (eval e X.env) = eval e X.env) : PE X (.Attribute e f pos) (tFld K ta f) := by
  subst hK
  exact pe_fld he hb
theorem cSc_map (t A d : Int) (n : Nat) : cSc 2 t A d n = (cSc 1 0 A d n).map fun x => ⟨2, t, x.f, x.s⟩ := by
  induction n with
  | zero => rfl
  | succ n ih =>
    rw [cSc_succ, cSc_succ, List.map_append, ih]
    congr 1
    split <;> rfl
theorem cSc_k {kd : Nat} {e A d : Int} {n : Nat} : ∀ x ∈ cSc kd e A d n, x.kd = kd := by
  intro x hx
  obtain ⟨k, _, hk2⟩ := List.mem_filterMap.mp hx
  split at hk2
  · cases hk2; rfl
  · cases hk2
theorem ok_early_candidates {f : Addr} {fd : FuncData} (F : Fun K "early_candidates" "early_candidates" s_early_candidates f fd) (T : Txt K mg c) (H_twos_in : Has P w K mg base 1 "twos_in" ["d"] spTwos) (H_scaled_candidates : Has P w K mg base 6 "scaled_candidates" ["width", "d"] (spScC c)) (C_Early : CHas P w K mg base 4 c.Early "Early" ["self", "early", "factor", "shift"] (spI3 c)) : FnOk P w K mg base CX0 7 f fd ["width", "d"] (spEaC c) := by
  refine F.ok sc_early_candidates (fun vs H Q E h => ?_) (fun cdv A outer s H vs Q E hr h => ?_)
  · obtain ⟨i, d, rfl, _⟩ := h
    rfl
  obtain ⟨i, d, rfl, h1, h2, d1, d2, q⟩ := h
  refine ⟨_, (pss_cons (ps_set (i := 2) sc_early_candidates.nd rfl (Or.inr rfl) (pe_fn H_twos_in (hr.mono (by omega)) rfl (pa_cons (pv 1) pa_nil)))
    (pss_cons (ps_if (pt_cmpR op_eq (pv 2) pe_int (nomark _))
      (pss_one (ps_ret (pe_lst pa_nil)))
      pss_nil)
    (pss_one (ps_ret (pe_compC [2] ["twos"] rfl (by first | rfl | with_unfolding_all rfl) (by rfl) (by exact (List.forall_mem_cons.mpr ⟨rfl, (fun _ h => nomatch h)⟩)) (by decide +kernel) rfl (by decide +kernel) rfl (by decide +kernel) (by exact (List.forall_mem_cons.mpr ⟨⟨by first | exact Or.inl rfl | exact Or.inr rfl, rfl⟩, (fun _ h => nomatch h)⟩)) rfl (by rfl) (pi_list (pe_fn H_scaled_candidates (hr.mono (by omega)) rfl (pa_cons (pv 0) (pa_cons (pe_op op_shr (pv 1) (pv 2)) pa_nil)))) (fun C s2 H2 fp => (pe_mkP C_Early (hr.mono (by omega)) rfl (pa_cons (pv 1) (pa_cons (pe_fldK (K := K) rfl (pv 0) rfl) (pa_cons (pe_fldK (K := K) rfl (pv 0) rfl) pa_nil)))))))))), ?_⟩
  have L100 : (1000 : Nat) ≤ sizeLine := by decide
  walk_at "o"; intro t tw
  have t0 := tw.1
  have tl := tw_small d1 (by have := pw_bounds h1 h2; omega) tw
  have o1 := xdiv (x := d) (by omega) t
  have o2 : 1 ≤ d / 2 ^ t.toNat := Classical.byContradiction fun z => by
    have a := Int.mul_nonpos_of_nonpos_of_nonneg (show d / 2 ^ t.toNat ≤ 0 by omega) (Int.le_of_lt (p_pos t.toNat))
    have b := tw.2.1
    omega
  have lo := (bl_32 h2 o2 (Int.lt_of_le_of_lt o1.2 d2)).1
  refine ⟨_, rfl, rfl, _, rfl, ?_⟩
  by_cases c0 : t = 0
  · subst c0
    refine iteD rfl ⟨(by show 0 ≤ sizeLine; decide), fun l hl => q 0 l _ tw hl ⟨[], upd_same, ?_⟩ (same_new hl _)⟩
    unfold cEa
    rw [if_neg (by omega)]
    exact PL.nil
  · refine iteDN (fun z => c0 (by injection z)) ?_
    refine ⟨_, rfl, _, rfl, _, rfl, _, _, rfl, rfl, t0, i, _, rfl, h1, h2, o2, Int.lt_of_le_of_lt o1.2 d2, fun b H1 b0 ⟨ps, hp, pl⟩ s1 => ⟨b, rfl, ⟨_, SqL.of hp⟩, fun D hD => ?_⟩⟩
    have pb := pw_bounds h1 h2
    refine comp_list (xs := ps.map V.ref) (fun n HJ => ∃ qs : List Addr, HJ D = some (.lst (qs.map V.ref)) ∧ PL (FR c) HJ qs (((cSc 1 0 (1 * 2 ^ i.toNat) (d / 2 ^ t.toNat) (intBits (d / 2 ^ t.toNat - 1) + 1)).take n).map fun x => ⟨2, t, x.f, x.s⟩) ∧ Same H1 HJ) ⟨[], upd_same, PL.nil, same_new hD _⟩ ?_ ?_ ?_
    · rintro n HJ hn ⟨qs, hq, ql, sJ⟩
      exact SqL.of (sJ _ _ hp)
    · rintro n v HJ hv ⟨qs, hq, ql, sJ⟩
      rw [List.getElem?_map] at hv
      cases e1 : ps[n]? with
      | none => rw [e1] at hv; cases hv
      | some p =>
        rw [e1] at hv
        cases hv
        have np := (List.getElem?_eq_some_iff.mp e1).1
        obtain ⟨x, ex⟩ : ∃ x, (cSc 1 0 (1 * 2 ^ i.toNat) (d / 2 ^ t.toNat) (intBits (d / 2 ^ t.toNat - 1) + 1))[n]? = some x := ⟨_, List.getElem?_eq_getElem (by rw [← pl.1]; exact np)⟩
        have xm := List.mem_of_getElem? ex
        have fm := (cSc_fm (.inl rfl) (fun _ => rfl) (by decide) (by decide) (by omega) (by omega) o2 (by omega) x xm).1
        obtain ⟨dx, hx⟩ := (pl.2 n p x e1 ex).same sJ
        rw [cSc_k x xm] at hx
        have qn := ql.1
        rw [List.length_map, List.length_take] at qn
        have pn := pl.1
        have cn := cSc_len 1 0 (1 * 2 ^ i.toNat) (d / 2 ^ t.toNat) (intBits (d / 2 ^ t.toNat - 1) + 1)
        refine ⟨_, rfl, _, rfl, p, _, dx, _, _, rfl, hx, T.cl_Scaled, T.na_Scaled_factor, rfl, _, rfl, p, _, dx, _, _, rfl, hx, T.cl_Scaled, T.na_Scaled_shift, rfl, fun y dy hy hdy hne => ⟨y, dy, t, x.f, x.s, rfl, upd_same, t0, tl, fm.fa, fm.fb, fm.sa, fm.sb, fun H' s' fo => ⟨rfl, ?_⟩⟩⟩
        have sM := made_same hy hdy s'
        refine ⟨_, sM _ _ hq, (by rw [List.length_map]; omega), (ps.map V.ref).length - (n + 1), (by rw [List.length_map]; omega), rfl, (by rw [List.length_map]; omega), qs ++ [y], (by rw [upd_same, List.map_append]; rfl), ?_, Same.updL (sJ.trans sM) hD⟩
        rw [List.take_succ, ex, List.map_append]
        have fx : FR c H' y ⟨2, t, x.f, x.s⟩ := fo
        exact ((ql.mono fun _ _ q => q.same sM).snoc fx).updF (sM _ _ hq)
    · rintro HJ ⟨qs, hq, ql, sJ⟩
      refine q t D HJ tw ?_ ⟨qs, hq, ?_⟩ (s1.trans sJ)
      · cases e : H D with
        | none => rfl
        | some o => have := s1 _ _ e; rw [hD] at this; cases this
      · unfold cEa
        rw [if_pos (by omega), cSc_map]
        rw [List.length_map, pl.1, List.take_length] at ql
        exact ql
theorem cAll_fm {w d t : Int} (w1 : 4 ≤ w) (w2 : w ≤ 32) (d1 : 1 ≤ d) (d2 : d < 2 ^ w.toNat) (tw : Tw d t) : ∀ x ∈ cAll (1 * 2 ^ w.toNat) d t, Fm x.kd x.e x.f x.s ∧ (2 : Int) ^ x.e.toNat ∣ d := by
  have pb := pw_bounds w1 w2
  have lb := bl_32 w2 d1 d2
  have tl := tw_small d1 (by omega) tw
  have td := tw_div d1 tw
  have lo := (bl_32 w2 td.1 (Int.lt_of_le_of_lt td.2 d2)).1
  have z : ∀ e : Int, e = 0 → (2 : Int) ^ e.toNat ∣ d := fun e h => by rw [h]; exact Int.one_dvd d
  intro x hx
  unfold cAll at hx
  rcases List.mem_append.mp hx with hx | hx
  · rcases List.mem_append.mp hx with hx | hx
    · rcases List.mem_append.mp hx with hx | hx
      · rcases List.mem_append.mp hx with hx | hx
        · cases List.mem_singleton.mp hx
          refine ⟨⟨(by show 0 < 5; decide), ?_, ?_, fun _ => rfl, ?_, ?_, ?_, ?_, ?_⟩, z _ rfl⟩ <;> dsimp only <;> omega
        · have f := cSc_fm (.inl rfl) (fun _ => rfl) (by decide) (by decide) (by omega) (by omega) d1 (by omega) x hx
          exact ⟨f.1, z _ f.2⟩
      · unfold cEa at hx
        split at hx
        · have f := cSc_fm (.inr rfl) (fun h => absurd rfl h) tw.1 tl (by omega) (by omega) td.1 (by omega) x hx
          refine ⟨f.1, ?_⟩
          rw [f.2]
          exact tw_dvd tw tw.1 (Int.le_refl _)
        · cases hx
    · have f := cMo_fm (by omega) (by omega) x hx
      exact ⟨f.1, z _ f.2⟩
  · have f := cWi_fm w1 w2 d1 d2 x hx
    exact ⟨f.1, z _ f.2⟩
theorem cAll_len {w d t : Int} (w1 : 4 ≤ w) (w2 : w ≤ 32) (d1 : 1 ≤ d) (d2 : d < 2 ^ w.toNat) (tw : Tw d t) : (cAll (1 * 2 ^ w.toNat) d t).length ≤ 200 ∧ 1 ≤ (cAll (1 * 2 ^ w.toNat) d t).length := by
  have lb := bl_32 w2 d1 d2
  have td := tw_div d1 tw
  have lo := (bl_32 w2 td.1 (Int.lt_of_le_of_lt td.2 d2)).1
  have a := cSc_len 1 0 (1 * 2 ^ w.toNat) d (intBits (d - 1) + 1)
  have b := cEa_len (1 * 2 ^ w.toNat) d t
  have c := cMo_len (1 * 2 ^ w.toNat) d (intBits (d - 1) + 1)
  have e : (cWi (1 * 2 ^ w.toNat) d).length ≤ 1 := by unfold cWi; split <;> simp
  unfold cAll
  rw [List.length_append, List.length_append, List.length_append, List.length_append, List.length_singleton]
  omega
theorem AL.ne {c : Ad} {H : Hp} {l : Addr} {xs : List Cd} (h : AL (FR c) H l xs) {p : Addr} {u : HO} (e : H p = some u) (n : ∀ ps : List Addr, u ≠ .lst (ps.map V.ref)) : l ≠ p := fun z => by
  obtain ⟨ps, hp, _⟩ := h
  rw [z, e] at hp
  cases hp
  exact n _ rfl
theorem ok__law_case {f : Addr} {fd : FuncData} (F : Fun K "_law_case" "_law_case" s__law_case f fd) (T : Txt K mg c) (H__law_divisor : Has P w K mg base 2 "_law_divisor" ["_law_state", "_law_width"] spDiv) (H__law_all : Has P w K mg base 2 "_law_all" ["_law_width", "_law_d"] spAllT) (H_candidates : Has P w K mg base 8 "candidates" ["width", "d"] (spCand c)) (H__law_draw : Has P w K mg base 1 "_law_draw" ["_law_state", "_law_size"] spTake) (H__law_agree : Has P w K mg base 3 "_law_agree" ["_law_found", "_law_due"] (spAgr c)) (H__law_right_to : Has P w K mg base 2 "_law_right_to" ["_law_last", "_law_d", "_law_numbers_here"] spRightG) (H__law_numbers : Has P w K mg base 1 "_law_numbers" ["_law_told", "_law_width"] spNumb) : FnOk P w K mg base CX0 9 f fd ["_law_state"] (spCase23 c) := by
  refine F.ok sc__law_case (fun vs H Q E h => ?_) (fun cdv A outer s H vs Q E hr h => ?_)
  · obtain ⟨p, rfl, _⟩ := h
    rfl
  obtain ⟨p, rfl, hb, q⟩ := h
  refine ⟨_, (pss_cons (ps_set (i := 1) sc__law_case.nd rfl (Or.inr rfl) (pe_op op_add pe_int (pe_fn H__law_draw (hr.mono (by omega)) rfl (pa_cons (pv 0) (pa_cons pe_int pa_nil)))))
    (pss_cons (ps_set (i := 2) sc__law_case.nd rfl (Or.inr rfl) (pe_fn H__law_divisor (hr.mono (by omega)) rfl (pa_cons (pv 0) (pa_cons (pv 1) pa_nil))))
    (pss_cons (ps_set (i := 3) sc__law_case.nd rfl (Or.inl rfl) (pe_fn H__law_all (hr.mono (by omega)) rfl (pa_cons (pv 1) (pa_cons (pv 2) pa_nil))))
    (pss_cons (ps_set (i := 4) sc__law_case.nd rfl (Or.inl rfl) (pe_fn H_candidates (hr.mono (by omega)) rfl (pa_cons (pv 1) (pa_cons (pv 2) pa_nil))))
    (pss_cons (ps_if (pt_not (pt_val (pe_fn H__law_agree (hr.mono (by omega)) rfl (pa_cons (pv 4) (pa_cons (pv 3) pa_nil)))))
      (pss_one (ps_ret pe_bl))
      pss_nil)
    (pss_cons (ps_expr (pe_bm PySem.F.plainAttrs_list PySem.F.slot_list_pop PySem.F.type_list_pop mt_popAt (pv 4) (pa_cons pe_int pa_nil)))
    (pss_cons (ps_expr (pe_bm PySem.F.plainAttrs_list PySem.F.slot_list_append PySem.F.type_list_append mt_append (pv 4) (pa_cons pe_non pa_nil)))
    (pss_cons (ps_if (pt_not (pt_val (pe_fn H__law_agree (hr.mono (by omega)) rfl (pa_cons (pe_fn H_candidates (hr.mono (by omega)) rfl (pa_cons (pv 1) (pa_cons (pv 2) pa_nil))) (pa_cons (pv 3) pa_nil)))))
      (pss_one (ps_ret pe_bl))
      pss_nil)
    (pss_cons (ps_compCT (i := 5) sc__law_case.nd rfl (Or.inl rfl) rfl [1, 2] ["_law_width", "_law_d"] rfl (by first | rfl | with_unfolding_all rfl) (by rfl) (by exact (List.forall_mem_cons.mpr ⟨rfl, (List.forall_mem_cons.mpr ⟨rfl, (fun _ h => nomatch h)⟩)⟩)) (by decide +kernel) rfl (by decide +kernel) rfl (by decide +kernel) (by exact (List.forall_mem_cons.mpr ⟨⟨by first | exact Or.inl rfl | exact Or.inr rfl, rfl⟩, (List.forall_mem_cons.mpr ⟨⟨by first | exact Or.inl rfl | exact Or.inr rfl, rfl⟩, (fun _ h => nomatch h)⟩)⟩)) rfl (by rfl) (pi_list (pv 3)) (fun C s2 H2 fp => (pt_val (pe_fn H__law_right_to (hr.mono (by omega)) rfl (pa_cons (pe_op op_sub (pe_op op_shl pe_int (pv 1)) pe_int) (pa_cons (pv 2) (pa_cons (pe_fn H__law_numbers (hr.mono (by omega)) rfl (pa_cons (pv 0) (pa_cons (pv 1) pa_nil))) pa_nil)))))) (fun C s2 H2 fp => (pv 0)))
    (pss_one (ps_ret (pe_cmpR (op_ne0 (Nat.lt_of_succ_lt (hu_of hr))) (pv 5) (pe_lst pa_nil) (nomark _))))))))))))), ?_⟩
  have L1000 : (1000 : Nat) ≤ sizeLine := by decide
  walk_at "o"; intro w0 H1 w00 w01 b1 x1
  walk_at "o"; intro d H2 d1 d2 b2 x2
  have h1 : 4 ≤ 4 + w0 := by omega
  have h2 : 4 + w0 ≤ 32 := by omega
  walk_at "o"
  intro t lD H3 tw lD0 aD s3
  change 1 ≤ d at d1
  have x3 := x2.trans (SameX.of s3)
  have b3 := b2.same s3
  have fm := cAll_fm h1 h2 d1 d2 tw
  have ln := cAll_len h1 h2 d1 d2 tw
  have rgt := cAll_right (t := t) h1 h2 d1 d2
  generalize hxs : cAll (1 * 2 ^ (4 + w0).toNat) d t = xs at aD fm ln rgt
  refine ⟨_, rfl, _, rfl, 4 + w0, d, rfl, h1, h2, d1, d2, fun t' l H4 tw' l0 aF s4 => ?_⟩
  cases tw_unique tw tw'
  rw [hxs] at aF
  have aD4 := aD.sameT s4
  have x4 := x3.trans (SameX.of s4)
  have b4 := b3.same s4
  have kb : ∀ x ∈ xs, x.kd < 5 := fun x hx => (fm x hx).1.k
  refine ⟨_, rfl, _, rfl, l, lD, xs, rfl, aF, aD4, ln.1, kb, fun H5 s5 => ⟨_, rfl, iteF ?_⟩⟩
  have aF5 := aF.sameF s5
  have aD5 := aD4.sameT s5
  have x5 := x4.trans (SameX.of s5)
  have b5 := b4.same s5
  obtain ⟨ps, hp, pl⟩ := aF5
  have pn := pl.1
  cases ps with
  | nil => rw [← pn] at ln; exact absurd ln.2 (by decide)
  | cons p0 ps' =>
  have sq : seqIndex? 0 (List.map V.ref (p0 :: ps')).length = some 0 := by
    unfold seqIndex?
    rw [List.length_map, List.length_cons]
    simp
  have L1 := ln.1
  rw [← pn, List.length_cons] at L1
  have lH : H l = none := by
    cases e : H l with
    | none => rfl
    | some o =>
      exfalso
      by_cases z : l = p
      · obtain ⟨u1, u2, hb3⟩ := b3
        rw [z, hb3] at l0
        cases l0
      · have := (x1.trans x3) l o z e
        rw [l0] at this
        cases this
  have nD : lD ≠ l := fun z => by
    obtain ⟨ts, ht, _⟩ := aD
    rw [z, l0] at ht
    cases ht
  refine ⟨_, rfl, .inl ⟨rfl, _, SqL.of hp⟩, l, _, 0, 0, _, rfl, rfl, hp, by decide, by decide, sq, rfl, ?_⟩
  have hp1 : upd H5 l (.lst ((List.map V.ref (p0 :: ps')).eraseIdx 0)) l = some (.lst (List.map V.ref ps')) := upd_same
  refine ⟨_, rfl, .inl ⟨rfl, _, SqL.of hp1⟩, l, _, _, rfl, rfl, hp1, (by rw [List.length_map]; omega), ?_⟩
  have aG : ∀ zs1 zs2, AL TR (upd (upd H5 l (.lst zs1)) l (.lst zs2)) lD xs := fun zs1 zs2 => by
    obtain ⟨ts, ht, tl⟩ := aD5
    refine ⟨ts, ?_, (tl.updT hp).updT upd_same⟩
    rw [upd_ne nD, upd_ne nD]
    exact ht
  have xG : ∀ zs1 zs2, SameX p H (upd (upd H5 l (.lst zs1)) l (.lst zs2)) := fun zs1 zs2 b u n e => by
    rw [upd_ne (ne_of_none e lH), upd_ne (ne_of_none e lH)]
    exact (x1.trans x5) b u n e
  refine ⟨_, rfl, _, rfl, 4 + w0, d, rfl, h1, h2, d1, d2, fun t' l6 H6 tw' l60 aF6 s6 => ?_⟩
  cases tw_unique tw tw'
  rw [hxs] at aF6
  have aD6 := (aG _ _).sameT s6
  have x6 := (xG _ _).trans (SameX.of s6)
  refine ⟨_, rfl, l6, lD, xs, rfl, aF6, aD6, ln.1, kb, fun H7 s7 => ⟨_, rfl, iteF ?_⟩⟩
  have aD7 := aD6.sameT s7
  have x7 := x6.trans (SameX.of s7)
  obtain ⟨ts, ht, tl⟩ := aD7
  have tn := tl.1
  refine ⟨_, rfl, lD, rfl, ⟨_, SqL.of ht⟩, fun D hD => ?_⟩
  refine compT_list (xs := ts.map V.ref) (fun n HJ => ∃ ys : List V, HJ D = some (.lst ys) ∧ ys.length ≤ n ∧ Same H7 HJ ∧ ∀ k x, k < n → xs[k]? = some x → AllG x.e (nF x.kd (4 + w0) x.f) (nA x.kd x.f) (nT x.kd (4 + w0) x.s) d (1 * 2 ^ (4 + w0).toNat - 1) → ys ≠ []) ⟨[], upd_same, Nat.le_refl _, same_new hD _, fun k x hk => absurd hk (Nat.not_lt_zero _)⟩ ?_ ?_ ?_
  · rintro n HJ hn ⟨ys, hy, yn, sJ, al⟩
    exact SqL.of (sJ _ _ ht)
  · rintro n v HJ hv ⟨ys, hy, yn, sJ, al⟩
    rw [List.getElem?_map] at hv
    cases e1 : ts[n]? with
    | none => rw [e1] at hv; cases hv
    | some r =>
      rw [e1] at hv
      cases hv
      have np := (List.getElem?_eq_some_iff.mp e1).1
      obtain ⟨x, ex⟩ : ∃ x, xs[n]? = some x := ⟨_, List.getElem?_eq_getElem (by rw [← tn]; exact np)⟩
      obtain ⟨fx, dx⟩ := fm x (List.mem_of_getElem? ex)
      have tr := (tl.2 n r x e1 ex).same sJ
      have pb := pw_bounds h1 h2
      walk_at "o"
      refine ⟨r, 4 + w0, x.kd, x.e, x.f, x.s, rfl, tr, fx, h1, h2, fun g H8 g0 hg s8 => ?_⟩
      refine ⟨1 * 2 ^ (4 + w0).toNat - 1, d, g, _, _, _, _, rfl, by omega, by omega, d1, by omega, hg, fx.rg h1 h2, dx, fun b H9 s9 hb => ⟨_, rfl, ?_⟩⟩
      have s79 := sJ.trans (s8.trans s9)
      have hy9 := s9 _ _ (s8 _ _ hy)
      cases b with
      | true =>
        refine ⟨_, rfl, ys, hy9, (by omega), (ts.map V.ref).length - (n + 1), (by rw [List.length_map]; omega), rfl, (by rw [List.length_map]; omega), _, upd_same, (by rw [List.length_append, List.length_singleton]; omega), Same.updL s79 hD, fun k x hk e al' z => ?_⟩
        simp at z
      | false =>
        refine ⟨(ts.map V.ref).length - (n + 1), (by rw [List.length_map]; omega), rfl, (by rw [List.length_map]; omega), ys, hy9, by omega, s79, fun k u hk e al' => ?_⟩
        by_cases c : k < n
        · exact al k u c e al'
        · have : k = n := by omega
          subst this
          rw [ex] at e
          cases e
          exact absurd (hb.mpr al') (by decide)
  · rintro HJ ⟨ys, hy, yn, sJ, al⟩
    obtain ⟨x, hx, x0, rx⟩ := rgt
    obtain ⟨k, hk⟩ := List.mem_iff_getElem?.mp hx
    have kl := (List.getElem?_eq_some_iff.mp hk).1
    have ne := al k x (by rw [List.length_map, tn]; exact kl) hk rx
    refine ⟨_, rfl, (by show 0 ≤ sizeLine; decide), fun l9 hl9 => ?_⟩
    have s9 := same_new hl9 (.lst [])
    refine ⟨D, l9, ys, rfl, rfl, SqL.of (s9 _ _ hy), SqL.of upd_same, ?_⟩
    have en : (if true then !ys.isEmpty else ys.isEmpty) = true := by
      cases ys with
      | nil => exact absurd rfl ne
      | cons _ _ => rfl
    rw [en]
    exact q _ (x7.trans (SameX.of (sJ.trans s9)))
theorem ok_law {f : Addr} {fd : FuncData} (F : Fun K "law" "law" s_law f fd) (T : Txt K mg c) (H__law_case : Has P w K mg base 9 "_law_case" ["_law_state"] (spCase23 c)) (H__law_start : Has P w K mg base 1 "_law_start" ["_law_script", "_law_k"] (spStart K)) : FnOk P w K mg base CX0 10 f fd ["_law_script"] (spLaw K) := by
  refine F.ok sc_law (fun vs H Q E h => ?_) (fun cdv A outer s H vs Q E hr h => ?_)
  · obtain ⟨a, ns, rfl, _⟩ := h
    rfl
  obtain ⟨a, ns, rfl, hS, hlen, q⟩ := h
  have hl : (ns.map V.int).length = ns.length := List.length_map _
  refine ⟨_, (pss_cons (ps_for PassesOwn.never rfl (pi_range1 rfl T.n_range (pa_cons (pe_callB (call_max2 rfl) rfl T.n_max boot_max (pa_cons pe_int (pa_cons (pe_callB (call_min2 rfl) rfl T.n_min boot_min (pa_cons (pe_callB call_len_seq rfl T.n_len boot_len (pa_cons (pv 0) pa_nil)) (pa_cons pe_int pa_nil))) pa_nil))) pa_nil)) (pg_name (i := 1) sc_law.nd rfl (Or.inl rfl))
      (pss_one (ps_if (pt_not (pt_val (pe_fn H__law_case (hr.mono (by omega)) rfl (pa_cons (pe_fn H__law_start (hr.mono (by omega)) rfl (pa_cons (pv 0) (pa_cons (pv 1) pa_nil))) pa_nil))))
        (pss_one (ps_ret pe_bl))
        pss_nil)))
    (pss_one (ps_ret pe_bl))), ?_⟩
  refine ⟨_, rfl, a, _, rfl, .inl hS, _, _, rfl, _, _, rfl, _, rfl, (by rw [hl]; split <;> (try split) <;> omega), (by rw [hl]; split <;> (try split) <;> omega), for_range (fun i σ H2 => ∃ x1 : Option V, σ = [some (.ref a), x1] ∧ SqL K H2 a (ns.map V.int)) ⟨_, rfl, hS⟩ ?_ ?_⟩
  · rintro i σ H2 hi ⟨x1, rfl, hS2⟩
    have hi' : (i : Int) < 100 := by
      rw [hl] at hi
      revert hi
      split <;> (try split) <;> omega
    refine ⟨_, rfl, _, rfl, a, ns, _, rfl, hS2, by omega, by omega, fun p H3 hp b3 s3 => ?_⟩
    exact ⟨p, rfl, b3, fun H4 y4 => ⟨_, rfl, iteF ⟨_, rfl, (Same_thenX hp s3 y4).seq hS2⟩⟩⟩
  · rintro σ H2 ⟨x1, rfl, s2⟩
    exact q H2
end
theorem all_mk {l : PySem.W.OpenLaw} {w : World} {K : PySem.W.Frag} {h : Heap} {mg : Str → Option Value} {fa f1 f2 f3 f4 f5 f6 f7 f8 f9 f10 f11 f12 f13 f14 f15 f16 f17 f18 f19 f20 f21 f22 f23 f24 f25 f26 f27 f28 f29 f30 f31 f32 f33 f34 f35 f36 f37 f38 f39 f40 f41 c_Shifted c_Scaled c_Early c_More c_Wide c_Form : Addr} (X : K.In h) (G : h.Ns mainGlobals mg) (hfa : mg "law" = some (.ref fa))
    {od1 an1 od2 an2 od3 an3 od4 an4 od5 an5 od6 an6 od7 an7 od8 an8 od9 an9 od10 an10 od11 an11 od12 an12 od13 an13 od14 an14 od15 an15 od16 an16 od17 an17 od18 an18 od19 an19 od20 an20 od21 an21 od22 an22 od23 an23 od24 an24 od25 an25 od26 an26 od27 an27 od28 an28 od29 an29 od30 an30 od31 an31 od32 an32 od33 an33 od34 an34 od35 an35 od36 an36 od37 an37 od38 an38 od39 an39 od40 an40 od41 an41 : Option Addr} {sl1 sl2 sl3 sl4 sl5 sl6 sl7 sl8 sl9 sl10 sl11 sl12 sl13 sl14 sl15 sl16 sl17 sl18 sl19 sl20 sl21 sl22 sl23 sl24 sl25 sl26 sl27 sl28 sl29 sl30 sl31 sl32 sl33 sl34 sl35 sl36 sl37 sl38 sl39 sl40 sl41 : Array (Option Value)} {oc1 kV1 dc1 pm1 cd1 ct1 oc2 kV2 dc2 pm2 cd2 ct2 oc3 kV3 dc3 pm3 cd3 ct3 oc4 kV4 dc4 pm4 cd4 ct4 oc5 kV5 dc5 pm5 cd5 ct5 oc6 kV6 dc6 pm6 cd6 ct6 oc7 kV7 dc7 pm7 cd7 ct7 oc8 kV8 dc8 pm8 cd8 ct8 oc9 kV9 dc9 pm9 cd9 ct9 oc10 kV10 dc10 pm10 cd10 ct10 oc11 kV11 dc11 pm11 cd11 ct11 oc12 kV12 dc12 pm12 cd12 ct12 oc13 kV13 dc13 pm13 cd13 ct13 oc14 kV14 dc14 pm14 cd14 ct14 oc15 kV15 dc15 pm15 cd15 ct15 oc16 kV16 dc16 pm16 cd16 ct16 oc17 kV17 dc17 pm17 cd17 ct17 oc18 kV18 dc18 pm18 cd18 ct18 oc19 kV19 dc19 pm19 cd19 ct19 oc20 kV20 dc20 pm20 cd20 ct20 oc21 kV21 dc21 pm21 cd21 ct21 oc22 kV22 dc22 pm22 cd22 ct22 oc23 kV23 dc23 pm23 cd23 ct23 oc24 kV24 dc24 pm24 cd24 ct24 oc25 kV25 dc25 pm25 cd25 ct25 oc26 kV26 dc26 pm26 cd26 ct26 oc27 kV27 dc27 pm27 cd27 ct27 oc28 kV28 dc28 pm28 cd28 ct28 oc29 kV29 dc29 pm29 cd29 ct29 oc30 kV30 dc30 pm30 cd30 ct30 oc31 kV31 dc31 pm31 cd31 ct31 oc32 kV32 dc32 pm32 cd32 ct32 oc33 kV33 dc33 pm33 cd33 ct33 oc34 kV34 dc34 pm34 cd34 ct34 oc35 kV35 dc35 pm35 cd35 ct35 oc36 kV36 dc36 pm36 cd36 ct36 oc37 kV37 dc37 pm37 cd37 ct37 oc38 kV38 dc38 pm38 cd38 ct38 oc39 kV39 dc39 pm39 cd39 ct39 oc40 kV40 dc40 pm40 cd40 ct40 oc41 kV41 dc41 pm41 cd41 ct41 : Value}
    (a1 : PySem.W.nsIn K mainGlobals "is_whole" = some (some (.ref f1)))
    (l1 : K.lookup f1 = some ⟨oc1, od1, .func (PySem.W.fnOf "is_whole" "is_whole" (defArgs s_is_whole) (defBody s_is_whole) (defScope s_is_whole) .none kV1 dc1 pm1 an1 cd1 ct1), sl1⟩) (c1 : PySem.W.codeIn K cd1 "is_whole" = true) (k1 : PySem.W.keepIn K (.ref f1) = true)
    (a2 : PySem.W.nsIn K mainGlobals "is_between" = some (some (.ref f2)))
    (l2 : K.lookup f2 = some ⟨oc2, od2, .func (PySem.W.fnOf "is_between" "is_between" (defArgs s_is_between) (defBody s_is_between) (defScope s_is_between) .none kV2 dc2 pm2 an2 cd2 ct2), sl2⟩) (c2 : PySem.W.codeIn K cd2 "is_between" = true) (k2 : PySem.W.keepIn K (.ref f2) = true)
    (a3 : PySem.W.nsIn K mainGlobals "need_width" = some (some (.ref f3)))
    (l3 : K.lookup f3 = some ⟨oc3, od3, .func (PySem.W.fnOf "need_width" "need_width" (defArgs s_need_width) (defBody s_need_width) (defScope s_need_width) .none kV3 dc3 pm3 an3 cd3 ct3), sl3⟩) (c3 : PySem.W.codeIn K cd3 "need_width" = true) (k3 : PySem.W.keepIn K (.ref f3) = true)
    (a4 : PySem.W.nsIn K mainGlobals "need_divisor" = some (some (.ref f4)))
    (l4 : K.lookup f4 = some ⟨oc4, od4, .func (PySem.W.fnOf "need_divisor" "need_divisor" (defArgs s_need_divisor) (defBody s_need_divisor) (defScope s_need_divisor) .none kV4 dc4 pm4 an4 cd4 ct4), sl4⟩) (c4 : PySem.W.codeIn K cd4 "need_divisor" = true) (k4 : PySem.W.keepIn K (.ref f4) = true)
    (a5 : PySem.W.nsIn K mainGlobals "twos_in" = some (some (.ref f5)))
    (l5 : K.lookup f5 = some ⟨oc5, od5, .func (PySem.W.fnOf "twos_in" "twos_in" (defArgs s_twos_in) (defBody s_twos_in) (defScope s_twos_in) .none kV5 dc5 pm5 an5 cd5 ct5), sl5⟩) (c5 : PySem.W.codeIn K cd5 "twos_in" = true) (k5 : PySem.W.keepIn K (.ref f5) = true)
    (a6 : PySem.W.findIn K (.ref c_Shifted) "__init__" = some (some (.ref f6))) (i6 : PySem.W.isFn K (.ref f6) = true)
    (l6 : K.lookup f6 = some ⟨oc6, od6, .func (PySem.W.fnOf "__init__" "Shifted.__init__" (defArgs s_Shifted___init__) (defBody s_Shifted___init__) (defScope s_Shifted___init__) .none kV6 dc6 pm6 an6 cd6 ct6), sl6⟩) (c6 : PySem.W.codeIn K cd6 "Shifted.__init__" = true) (k6 : PySem.W.keepIn K (.ref f6) = true)
    (a7 : PySem.W.findIn K (.ref c_Shifted) "word" = some (some (.ref f7))) (i7 : PySem.W.isFn K (.ref f7) = true)
    (l7 : K.lookup f7 = some ⟨oc7, od7, .func (PySem.W.fnOf "word" "Shifted.word" (defArgs s_Shifted_word) (defBody s_Shifted_word) (defScope s_Shifted_word) .none kV7 dc7 pm7 an7 cd7 ct7), sl7⟩) (c7 : PySem.W.codeIn K cd7 "Shifted.word" = true) (k7 : PySem.W.keepIn K (.ref f7) = true)
    (a8 : PySem.W.findIn K (.ref c_Shifted) "told" = some (some (.ref f8))) (i8 : PySem.W.isFn K (.ref f8) = true)
    (l8 : K.lookup f8 = some ⟨oc8, od8, .func (PySem.W.fnOf "told" "Shifted.told" (defArgs s_Shifted_told) (defBody s_Shifted_told) (defScope s_Shifted_told) .none kV8 dc8 pm8 an8 cd8 ct8), sl8⟩) (c8 : PySem.W.codeIn K cd8 "Shifted.told" = true) (k8 : PySem.W.keepIn K (.ref f8) = true)
    (a9 : PySem.W.findIn K (.ref c_Scaled) "__init__" = some (some (.ref f9))) (i9 : PySem.W.isFn K (.ref f9) = true)
    (l9 : K.lookup f9 = some ⟨oc9, od9, .func (PySem.W.fnOf "__init__" "Scaled.__init__" (defArgs s_Scaled___init__) (defBody s_Scaled___init__) (defScope s_Scaled___init__) .none kV9 dc9 pm9 an9 cd9 ct9), sl9⟩) (c9 : PySem.W.codeIn K cd9 "Scaled.__init__" = true) (k9 : PySem.W.keepIn K (.ref f9) = true)
    (a10 : PySem.W.findIn K (.ref c_Scaled) "word" = some (some (.ref f10))) (i10 : PySem.W.isFn K (.ref f10) = true)
    (l10 : K.lookup f10 = some ⟨oc10, od10, .func (PySem.W.fnOf "word" "Scaled.word" (defArgs s_Scaled_word) (defBody s_Scaled_word) (defScope s_Scaled_word) .none kV10 dc10 pm10 an10 cd10 ct10), sl10⟩) (c10 : PySem.W.codeIn K cd10 "Scaled.word" = true) (k10 : PySem.W.keepIn K (.ref f10) = true)
    (a11 : PySem.W.findIn K (.ref c_Scaled) "told" = some (some (.ref f11))) (i11 : PySem.W.isFn K (.ref f11) = true)
    (l11 : K.lookup f11 = some ⟨oc11, od11, .func (PySem.W.fnOf "told" "Scaled.told" (defArgs s_Scaled_told) (defBody s_Scaled_told) (defScope s_Scaled_told) .none kV11 dc11 pm11 an11 cd11 ct11), sl11⟩) (c11 : PySem.W.codeIn K cd11 "Scaled.told" = true) (k11 : PySem.W.keepIn K (.ref f11) = true)
    (a12 : PySem.W.findIn K (.ref c_Early) "__init__" = some (some (.ref f12))) (i12 : PySem.W.isFn K (.ref f12) = true)
    (l12 : K.lookup f12 = some ⟨oc12, od12, .func (PySem.W.fnOf "__init__" "Early.__init__" (defArgs s_Early___init__) (defBody s_Early___init__) (defScope s_Early___init__) .none kV12 dc12 pm12 an12 cd12 ct12), sl12⟩) (c12 : PySem.W.codeIn K cd12 "Early.__init__" = true) (k12 : PySem.W.keepIn K (.ref f12) = true)
    (a13 : PySem.W.findIn K (.ref c_Early) "word" = some (some (.ref f13))) (i13 : PySem.W.isFn K (.ref f13) = true)
    (l13 : K.lookup f13 = some ⟨oc13, od13, .func (PySem.W.fnOf "word" "Early.word" (defArgs s_Early_word) (defBody s_Early_word) (defScope s_Early_word) .none kV13 dc13 pm13 an13 cd13 ct13), sl13⟩) (c13 : PySem.W.codeIn K cd13 "Early.word" = true) (k13 : PySem.W.keepIn K (.ref f13) = true)
    (a14 : PySem.W.findIn K (.ref c_Early) "told" = some (some (.ref f14))) (i14 : PySem.W.isFn K (.ref f14) = true)
    (l14 : K.lookup f14 = some ⟨oc14, od14, .func (PySem.W.fnOf "told" "Early.told" (defArgs s_Early_told) (defBody s_Early_told) (defScope s_Early_told) .none kV14 dc14 pm14 an14 cd14 ct14), sl14⟩) (c14 : PySem.W.codeIn K cd14 "Early.told" = true) (k14 : PySem.W.keepIn K (.ref f14) = true)
    (a15 : PySem.W.findIn K (.ref c_More) "__init__" = some (some (.ref f15))) (i15 : PySem.W.isFn K (.ref f15) = true)
    (l15 : K.lookup f15 = some ⟨oc15, od15, .func (PySem.W.fnOf "__init__" "More.__init__" (defArgs s_More___init__) (defBody s_More___init__) (defScope s_More___init__) .none kV15 dc15 pm15 an15 cd15 ct15), sl15⟩) (c15 : PySem.W.codeIn K cd15 "More.__init__" = true) (k15 : PySem.W.keepIn K (.ref f15) = true)
    (a16 : PySem.W.findIn K (.ref c_More) "word" = some (some (.ref f16))) (i16 : PySem.W.isFn K (.ref f16) = true)
    (l16 : K.lookup f16 = some ⟨oc16, od16, .func (PySem.W.fnOf "word" "More.word" (defArgs s_More_word) (defBody s_More_word) (defScope s_More_word) .none kV16 dc16 pm16 an16 cd16 ct16), sl16⟩) (c16 : PySem.W.codeIn K cd16 "More.word" = true) (k16 : PySem.W.keepIn K (.ref f16) = true)
    (a17 : PySem.W.findIn K (.ref c_More) "told" = some (some (.ref f17))) (i17 : PySem.W.isFn K (.ref f17) = true)
    (l17 : K.lookup f17 = some ⟨oc17, od17, .func (PySem.W.fnOf "told" "More.told" (defArgs s_More_told) (defBody s_More_told) (defScope s_More_told) .none kV17 dc17 pm17 an17 cd17 ct17), sl17⟩) (c17 : PySem.W.codeIn K cd17 "More.told" = true) (k17 : PySem.W.keepIn K (.ref f17) = true)
    (a18 : PySem.W.findIn K (.ref c_Wide) "__init__" = some (some (.ref f18))) (i18 : PySem.W.isFn K (.ref f18) = true)
    (l18 : K.lookup f18 = some ⟨oc18, od18, .func (PySem.W.fnOf "__init__" "Wide.__init__" (defArgs s_Wide___init__) (defBody s_Wide___init__) (defScope s_Wide___init__) .none kV18 dc18 pm18 an18 cd18 ct18), sl18⟩) (c18 : PySem.W.codeIn K cd18 "Wide.__init__" = true) (k18 : PySem.W.keepIn K (.ref f18) = true)
    (a19 : PySem.W.findIn K (.ref c_Wide) "word" = some (some (.ref f19))) (i19 : PySem.W.isFn K (.ref f19) = true)
    (l19 : K.lookup f19 = some ⟨oc19, od19, .func (PySem.W.fnOf "word" "Wide.word" (defArgs s_Wide_word) (defBody s_Wide_word) (defScope s_Wide_word) .none kV19 dc19 pm19 an19 cd19 ct19), sl19⟩) (c19 : PySem.W.codeIn K cd19 "Wide.word" = true) (k19 : PySem.W.keepIn K (.ref f19) = true)
    (a20 : PySem.W.findIn K (.ref c_Wide) "told" = some (some (.ref f20))) (i20 : PySem.W.isFn K (.ref f20) = true)
    (l20 : K.lookup f20 = some ⟨oc20, od20, .func (PySem.W.fnOf "told" "Wide.told" (defArgs s_Wide_told) (defBody s_Wide_told) (defScope s_Wide_told) .none kV20 dc20 pm20 an20 cd20 ct20), sl20⟩) (c20 : PySem.W.codeIn K cd20 "Wide.told" = true) (k20 : PySem.W.keepIn K (.ref f20) = true)
    (a21 : PySem.W.nsIn K mainGlobals "is_factor" = some (some (.ref f21)))
    (l21 : K.lookup f21 = some ⟨oc21, od21, .func (PySem.W.fnOf "is_factor" "is_factor" (defArgs s_is_factor) (defBody s_is_factor) (defScope s_is_factor) .none kV21 dc21 pm21 an21 cd21 ct21), sl21⟩) (c21 : PySem.W.codeIn K cd21 "is_factor" = true) (k21 : PySem.W.keepIn K (.ref f21) = true)
    (a22 : PySem.W.nsIn K mainGlobals "is_shift" = some (some (.ref f22)))
    (l22 : K.lookup f22 = some ⟨oc22, od22, .func (PySem.W.fnOf "is_shift" "is_shift" (defArgs s_is_shift) (defBody s_is_shift) (defScope s_is_shift) .none kV22 dc22 pm22 an22 cd22 ct22), sl22⟩) (c22 : PySem.W.codeIn K cd22 "is_shift" = true) (k22 : PySem.W.keepIn K (.ref f22) = true)
    (a23 : PySem.W.nsIn K mainGlobals "ceiling" = some (some (.ref f23)))
    (l23 : K.lookup f23 = some ⟨oc23, od23, .func (PySem.W.fnOf "ceiling" "ceiling" (defArgs s_ceiling) (defBody s_ceiling) (defScope s_ceiling) .none kV23 dc23 pm23 an23 cd23 ct23), sl23⟩) (c23 : PySem.W.codeIn K cd23 "ceiling" = true) (k23 : PySem.W.keepIn K (.ref f23) = true)
    (a24 : PySem.W.nsIn K mainGlobals "scaled_candidates" = some (some (.ref f24)))
    (l24 : K.lookup f24 = some ⟨oc24, od24, .func (PySem.W.fnOf "scaled_candidates" "scaled_candidates" (defArgs s_scaled_candidates) (defBody s_scaled_candidates) (defScope s_scaled_candidates) .none kV24 dc24 pm24 an24 cd24 ct24), sl24⟩) (c24 : PySem.W.codeIn K cd24 "scaled_candidates" = true) (k24 : PySem.W.keepIn K (.ref f24) = true)
    (a25 : PySem.W.nsIn K mainGlobals "early_candidates" = some (some (.ref f25)))
    (l25 : K.lookup f25 = some ⟨oc25, od25, .func (PySem.W.fnOf "early_candidates" "early_candidates" (defArgs s_early_candidates) (defBody s_early_candidates) (defScope s_early_candidates) .none kV25 dc25 pm25 an25 cd25 ct25), sl25⟩) (c25 : PySem.W.codeIn K cd25 "early_candidates" = true) (k25 : PySem.W.keepIn K (.ref f25) = true)
    (a26 : PySem.W.nsIn K mainGlobals "more_candidates" = some (some (.ref f26)))
    (l26 : K.lookup f26 = some ⟨oc26, od26, .func (PySem.W.fnOf "more_candidates" "more_candidates" (defArgs s_more_candidates) (defBody s_more_candidates) (defScope s_more_candidates) .none kV26 dc26 pm26 an26 cd26 ct26), sl26⟩) (c26 : PySem.W.codeIn K cd26 "more_candidates" = true) (k26 : PySem.W.keepIn K (.ref f26) = true)
    (a27 : PySem.W.nsIn K mainGlobals "candidates" = some (some (.ref f27)))
    (l27 : K.lookup f27 = some ⟨oc27, od27, .func (PySem.W.fnOf "candidates" "candidates" (defArgs s_candidates) (defBody s_candidates) (defScope s_candidates) .none kV27 dc27 pm27 an27 cd27 ct27), sl27⟩) (c27 : PySem.W.codeIn K cd27 "candidates" = true) (k27 : PySem.W.keepIn K (.ref f27) = true)
    (a28 : PySem.W.nsIn K mainGlobals "_law_start" = some (some (.ref f28)))
    (l28 : K.lookup f28 = some ⟨oc28, od28, .func (PySem.W.fnOf "_law_start" "_law_start" (defArgs s__law_start) (defBody s__law_start) (defScope s__law_start) .none kV28 dc28 pm28 an28 cd28 ct28), sl28⟩) (c28 : PySem.W.codeIn K cd28 "_law_start" = true) (k28 : PySem.W.keepIn K (.ref f28) = true)
    (a29 : PySem.W.nsIn K mainGlobals "_law_draw" = some (some (.ref f29)))
    (l29 : K.lookup f29 = some ⟨oc29, od29, .func (PySem.W.fnOf "_law_draw" "_law_draw" (defArgs s__law_draw) (defBody s__law_draw) (defScope s__law_draw) .none kV29 dc29 pm29 an29 cd29 ct29), sl29⟩) (c29 : PySem.W.codeIn K cd29 "_law_draw" = true) (k29 : PySem.W.keepIn K (.ref f29) = true)
    (a30 : PySem.W.nsIn K mainGlobals "_law_twos" = some (some (.ref f30)))
    (l30 : K.lookup f30 = some ⟨oc30, od30, .func (PySem.W.fnOf "_law_twos" "_law_twos" (defArgs s__law_twos) (defBody s__law_twos) (defScope s__law_twos) .none kV30 dc30 pm30 an30 cd30 ct30), sl30⟩) (c30 : PySem.W.codeIn K cd30 "_law_twos" = true) (k30 : PySem.W.keepIn K (.ref f30) = true)
    (a31 : PySem.W.nsIn K mainGlobals "_law_divisor" = some (some (.ref f31)))
    (l31 : K.lookup f31 = some ⟨oc31, od31, .func (PySem.W.fnOf "_law_divisor" "_law_divisor" (defArgs s__law_divisor) (defBody s__law_divisor) (defScope s__law_divisor) .none kV31 dc31 pm31 an31 cd31 ct31), sl31⟩) (c31 : PySem.W.codeIn K cd31 "_law_divisor" = true) (k31 : PySem.W.keepIn K (.ref f31) = true)
    (a32 : PySem.W.nsIn K mainGlobals "_law_corners" = some (some (.ref f32)))
    (l32 : K.lookup f32 = some ⟨oc32, od32, .func (PySem.W.fnOf "_law_corners" "_law_corners" (defArgs s__law_corners) (defBody s__law_corners) (defScope s__law_corners) .none kV32 dc32 pm32 an32 cd32 ct32), sl32⟩) (c32 : PySem.W.codeIn K cd32 "_law_corners" = true) (k32 : PySem.W.keepIn K (.ref f32) = true)
    (a33 : PySem.W.nsIn K mainGlobals "_law_brought" = some (some (.ref f33)))
    (l33 : K.lookup f33 = some ⟨oc33, od33, .func (PySem.W.fnOf "_law_brought" "_law_brought" (defArgs s__law_brought) (defBody s__law_brought) (defScope s__law_brought) .none kV33 dc33 pm33 an33 cd33 ct33), sl33⟩) (c33 : PySem.W.codeIn K cd33 "_law_brought" = true) (k33 : PySem.W.keepIn K (.ref f33) = true)
    (a34 : PySem.W.nsIn K mainGlobals "_law_right_to" = some (some (.ref f34)))
    (l34 : K.lookup f34 = some ⟨oc34, od34, .func (PySem.W.fnOf "_law_right_to" "_law_right_to" (defArgs s__law_right_to) (defBody s__law_right_to) (defScope s__law_right_to) .none kV34 dc34 pm34 an34 cd34 ct34), sl34⟩) (c34 : PySem.W.codeIn K cd34 "_law_right_to" = true) (k34 : PySem.W.keepIn K (.ref f34) = true)
    (a35 : PySem.W.nsIn K mainGlobals "_law_numbers" = some (some (.ref f35)))
    (l35 : K.lookup f35 = some ⟨oc35, od35, .func (PySem.W.fnOf "_law_numbers" "_law_numbers" (defArgs s__law_numbers) (defBody s__law_numbers) (defScope s__law_numbers) .none kV35 dc35 pm35 an35 cd35 ct35), sl35⟩) (c35 : PySem.W.codeIn K cd35 "_law_numbers" = true) (k35 : PySem.W.keepIn K (.ref f35) = true)
    (a36 : PySem.W.nsIn K mainGlobals "_law_up" = some (some (.ref f36)))
    (l36 : K.lookup f36 = some ⟨oc36, od36, .func (PySem.W.fnOf "_law_up" "_law_up" (defArgs s__law_up) (defBody s__law_up) (defScope s__law_up) .none kV36 dc36 pm36 an36 cd36 ct36), sl36⟩) (c36 : PySem.W.codeIn K cd36 "_law_up" = true) (k36 : PySem.W.keepIn K (.ref f36) = true)
    (a37 : PySem.W.nsIn K mainGlobals "_law_all" = some (some (.ref f37)))
    (l37 : K.lookup f37 = some ⟨oc37, od37, .func (PySem.W.fnOf "_law_all" "_law_all" (defArgs s__law_all) (defBody s__law_all) (defScope s__law_all) .none kV37 dc37 pm37 an37 cd37 ct37), sl37⟩) (c37 : PySem.W.codeIn K cd37 "_law_all" = true) (k37 : PySem.W.keepIn K (.ref f37) = true)
    (a38 : PySem.W.nsIn K mainGlobals "_law_of_class" = some (some (.ref f38)))
    (l38 : K.lookup f38 = some ⟨oc38, od38, .func (PySem.W.fnOf "_law_of_class" "_law_of_class" (defArgs s__law_of_class) (defBody s__law_of_class) (defScope s__law_of_class) .none kV38 dc38 pm38 an38 cd38 ct38), sl38⟩) (c38 : PySem.W.codeIn K cd38 "_law_of_class" = true) (k38 : PySem.W.keepIn K (.ref f38) = true)
    (a39 : PySem.W.nsIn K mainGlobals "_law_agree" = some (some (.ref f39)))
    (l39 : K.lookup f39 = some ⟨oc39, od39, .func (PySem.W.fnOf "_law_agree" "_law_agree" (defArgs s__law_agree) (defBody s__law_agree) (defScope s__law_agree) .none kV39 dc39 pm39 an39 cd39 ct39), sl39⟩) (c39 : PySem.W.codeIn K cd39 "_law_agree" = true) (k39 : PySem.W.keepIn K (.ref f39) = true)
    (a40 : PySem.W.nsIn K mainGlobals "_law_case" = some (some (.ref f40)))
    (l40 : K.lookup f40 = some ⟨oc40, od40, .func (PySem.W.fnOf "_law_case" "_law_case" (defArgs s__law_case) (defBody s__law_case) (defScope s__law_case) .none kV40 dc40 pm40 an40 cd40 ct40), sl40⟩) (c40 : PySem.W.codeIn K cd40 "_law_case" = true) (k40 : PySem.W.keepIn K (.ref f40) = true)
    (a41 : PySem.W.nsIn K mainGlobals "law" = some (some (.ref f41)))
    (l41 : K.lookup f41 = some ⟨oc41, od41, .func (PySem.W.fnOf "law" "law" (defArgs s_law) (defBody s_law) (defScope s_law) .none kV41 dc41 pm41 an41 cd41 ct41), sl41⟩) (c41 : PySem.W.codeIn K cd41 "law" = true) (k41 : PySem.W.keepIn K (.ref f41) = true)
    (aC_Shifted : PySem.W.nsIn K mainGlobals "Shifted" = some (some (.ref c_Shifted))) (pg_Shifted : PySem.W.plainGet K c_Shifted Str.empty = true) (hd_Shifted : PySem.W.hasDictIn K c_Shifted = true) (po_Shifted : PySem.W.plainOver K c_Shifted = true) (sa_Shifted : PySem.W.findIn K (.ref c_Shifted) "__setattr__" = some (some (.builtin "object.__setattr__")))
    (mk_Shifted : PySem.W.makesIn K c_Shifted = true) (kc_Shifted : PySem.W.keepIn K (.ref c_Shifted) = true)
    (na_Shifted_shift : PySem.W.findIn K (.ref c_Shifted) "shift" = some none)
    (aC_Scaled : PySem.W.nsIn K mainGlobals "Scaled" = some (some (.ref c_Scaled))) (pg_Scaled : PySem.W.plainGet K c_Scaled Str.empty = true) (hd_Scaled : PySem.W.hasDictIn K c_Scaled = true) (po_Scaled : PySem.W.plainOver K c_Scaled = true) (sa_Scaled : PySem.W.findIn K (.ref c_Scaled) "__setattr__" = some (some (.builtin "object.__setattr__")))
    (mk_Scaled : PySem.W.makesIn K c_Scaled = true) (kc_Scaled : PySem.W.keepIn K (.ref c_Scaled) = true)
    (na_Scaled_factor : PySem.W.findIn K (.ref c_Scaled) "factor" = some none)
    (na_Scaled_shift : PySem.W.findIn K (.ref c_Scaled) "shift" = some none)
    (aC_Early : PySem.W.nsIn K mainGlobals "Early" = some (some (.ref c_Early))) (pg_Early : PySem.W.plainGet K c_Early Str.empty = true) (hd_Early : PySem.W.hasDictIn K c_Early = true) (po_Early : PySem.W.plainOver K c_Early = true) (sa_Early : PySem.W.findIn K (.ref c_Early) "__setattr__" = some (some (.builtin "object.__setattr__")))
    (mk_Early : PySem.W.makesIn K c_Early = true) (kc_Early : PySem.W.keepIn K (.ref c_Early) = true)
    (na_Early_early : PySem.W.findIn K (.ref c_Early) "early" = some none)
    (na_Early_factor : PySem.W.findIn K (.ref c_Early) "factor" = some none)
    (na_Early_shift : PySem.W.findIn K (.ref c_Early) "shift" = some none)
    (aC_More : PySem.W.nsIn K mainGlobals "More" = some (some (.ref c_More))) (pg_More : PySem.W.plainGet K c_More Str.empty = true) (hd_More : PySem.W.hasDictIn K c_More = true) (po_More : PySem.W.plainOver K c_More = true) (sa_More : PySem.W.findIn K (.ref c_More) "__setattr__" = some (some (.builtin "object.__setattr__")))
    (mk_More : PySem.W.makesIn K c_More = true) (kc_More : PySem.W.keepIn K (.ref c_More) = true)
    (na_More_factor : PySem.W.findIn K (.ref c_More) "factor" = some none)
    (na_More_shift : PySem.W.findIn K (.ref c_More) "shift" = some none)
    (aC_Wide : PySem.W.nsIn K mainGlobals "Wide" = some (some (.ref c_Wide))) (pg_Wide : PySem.W.plainGet K c_Wide Str.empty = true) (hd_Wide : PySem.W.hasDictIn K c_Wide = true) (po_Wide : PySem.W.plainOver K c_Wide = true) (sa_Wide : PySem.W.findIn K (.ref c_Wide) "__setattr__" = some (some (.builtin "object.__setattr__")))
    (mk_Wide : PySem.W.makesIn K c_Wide = true) (kc_Wide : PySem.W.keepIn K (.ref c_Wide) = true)
    (na_Wide_factor : PySem.W.findIn K (.ref c_Wide) "factor" = some none)
    (na_Wide_shift : PySem.W.findIn K (.ref c_Wide) "shift" = some none)
    (aC_Form : PySem.W.nsIn K mainGlobals "Form" = some (some (.ref c_Form))) (pg_Form : PySem.W.plainGet K c_Form Str.empty = true) (hd_Form : PySem.W.hasDictIn K c_Form = true) (po_Form : PySem.W.plainOver K c_Form = true) (sa_Form : PySem.W.findIn K (.ref c_Form) "__setattr__" = some (some (.builtin "object.__setattr__")))
    (kf_kc : PySem.W.isClsIn K c_Form = true)
    (kf_kt : PySem.W.typeIn K (.ref c_Form) = some (.type "type"))
    (kf_og : PySem.W.specialIn K (.builtin "object.__class__") "__get__" = some (some (.builtin "getset_descriptor.__get__")))
    (kf_ot : PySem.W.takesIn K (.builtin "object.__class__") = some true)
    (kf_dc_Shifted : PySem.W.findIn K (.ref c_Shifted) "__class__" = some (some (.builtin "object.__class__")))
    (kf_dc_Scaled : PySem.W.findIn K (.ref c_Scaled) "__class__" = some (some (.builtin "object.__class__")))
    (kf_dc_Early : PySem.W.findIn K (.ref c_Early) "__class__" = some (some (.builtin "object.__class__")))
    (kf_dc_More : PySem.W.findIn K (.ref c_More) "__class__" = some (some (.builtin "object.__class__")))
    (kf_dc_Wide : PySem.W.findIn K (.ref c_Wide) "__class__" = some (some (.builtin "object.__class__")))
    (kf_mo_Shifted : PySem.W.mroIn K c_Shifted (.type "object") = some true)
    (kf_mo_Scaled : PySem.W.mroIn K c_Scaled (.type "object") = some true)
    (kf_mo_Early : PySem.W.mroIn K c_Early (.type "object") = some true)
    (kf_mo_More : PySem.W.mroIn K c_More (.type "object") = some true)
    (kf_mo_Wide : PySem.W.mroIn K c_Wide (.type "object") = some true)
    (kf_ik_Shifted : PySem.W.mroIn K c_Shifted (.ref c_Form) = some true)
    (kf_ik_Scaled : PySem.W.mroIn K c_Scaled (.ref c_Form) = some true)
    (kf_ik_Early : PySem.W.mroIn K c_Early (.ref c_Form) = some true)
    (kf_ik_More : PySem.W.mroIn K c_More (.ref c_Form) = some true)
    (kf_ik_Wide : PySem.W.mroIn K c_Wide (.ref c_Form) = some true)
    (kf_kc_Shifted : PySem.W.isClsIn K c_Shifted = true)
    (kf_kt_Shifted : PySem.W.typeIn K (.ref c_Shifted) = some (.type "type"))
    (kf_kc_Scaled : PySem.W.isClsIn K c_Scaled = true)
    (kf_kt_Scaled : PySem.W.typeIn K (.ref c_Scaled) = some (.type "type"))
    (kf_kc_Early : PySem.W.isClsIn K c_Early = true)
    (kf_kt_Early : PySem.W.typeIn K (.ref c_Early) = some (.type "type"))
    (kf_kc_More : PySem.W.isClsIn K c_More = true)
    (kf_kt_More : PySem.W.typeIn K (.ref c_More) = some (.type "type"))
    (kf_kc_Wide : PySem.W.isClsIn K c_Wide = true)
    (kf_kt_Wide : PySem.W.typeIn K (.ref c_Wide) = some (.type "type"))
    (kf_kc_Form : PySem.W.isClsIn K c_Form = true)
    (kf_kt_Form : PySem.W.typeIn K (.ref c_Form) = some (.type "type"))
    (kf_m_Shifted_Shifted : PySem.W.mroIn K c_Shifted (.ref c_Shifted) = some true)
    (kf_m_Shifted_Scaled : PySem.W.mroIn K c_Shifted (.ref c_Scaled) = some false)
    (kf_m_Shifted_Early : PySem.W.mroIn K c_Shifted (.ref c_Early) = some false)
    (kf_m_Shifted_More : PySem.W.mroIn K c_Shifted (.ref c_More) = some false)
    (kf_m_Shifted_Wide : PySem.W.mroIn K c_Shifted (.ref c_Wide) = some false)
    (kf_m_Shifted_Form : PySem.W.mroIn K c_Shifted (.ref c_Form) = some true)
    (kf_m_Scaled_Shifted : PySem.W.mroIn K c_Scaled (.ref c_Shifted) = some false)
    (kf_m_Scaled_Scaled : PySem.W.mroIn K c_Scaled (.ref c_Scaled) = some true)
    (kf_m_Scaled_Early : PySem.W.mroIn K c_Scaled (.ref c_Early) = some false)
    (kf_m_Scaled_More : PySem.W.mroIn K c_Scaled (.ref c_More) = some false)
    (kf_m_Scaled_Wide : PySem.W.mroIn K c_Scaled (.ref c_Wide) = some false)
    (kf_m_Scaled_Form : PySem.W.mroIn K c_Scaled (.ref c_Form) = some true)
    (kf_m_Early_Shifted : PySem.W.mroIn K c_Early (.ref c_Shifted) = some false)
    (kf_m_Early_Scaled : PySem.W.mroIn K c_Early (.ref c_Scaled) = some false)
    (kf_m_Early_Early : PySem.W.mroIn K c_Early (.ref c_Early) = some true)
    (kf_m_Early_More : PySem.W.mroIn K c_Early (.ref c_More) = some false)
    (kf_m_Early_Wide : PySem.W.mroIn K c_Early (.ref c_Wide) = some false)
    (kf_m_Early_Form : PySem.W.mroIn K c_Early (.ref c_Form) = some true)
    (kf_m_More_Shifted : PySem.W.mroIn K c_More (.ref c_Shifted) = some false)
    (kf_m_More_Scaled : PySem.W.mroIn K c_More (.ref c_Scaled) = some false)
    (kf_m_More_Early : PySem.W.mroIn K c_More (.ref c_Early) = some false)
    (kf_m_More_More : PySem.W.mroIn K c_More (.ref c_More) = some true)
    (kf_m_More_Wide : PySem.W.mroIn K c_More (.ref c_Wide) = some false)
    (kf_m_More_Form : PySem.W.mroIn K c_More (.ref c_Form) = some true)
    (kf_m_Wide_Shifted : PySem.W.mroIn K c_Wide (.ref c_Shifted) = some false)
    (kf_m_Wide_Scaled : PySem.W.mroIn K c_Wide (.ref c_Scaled) = some false)
    (kf_m_Wide_Early : PySem.W.mroIn K c_Wide (.ref c_Early) = some false)
    (kf_m_Wide_More : PySem.W.mroIn K c_Wide (.ref c_More) = some false)
    (kf_m_Wide_Wide : PySem.W.mroIn K c_Wide (.ref c_Wide) = some true)
    (kf_m_Wide_Form : PySem.W.mroIn K c_Wide (.ref c_Form) = some true)
    (z_isinstance : PySem.W.nsIn K mainGlobals "isinstance" = some none) (z_int : PySem.W.nsIn K mainGlobals "int" = some none) (z_bool : PySem.W.nsIn K mainGlobals "bool" = some none) (z_list : PySem.W.nsIn K mainGlobals "list" = some none) (z_len : PySem.W.nsIn K mainGlobals "len" = some none) (z_max : PySem.W.nsIn K mainGlobals "max" = some none) (z_min : PySem.W.nsIn K mainGlobals "min" = some none) (z_range : PySem.W.nsIn K mainGlobals "range" = some none) (z_sorted : PySem.W.nsIn K mainGlobals "sorted" = some none) (z_zip : PySem.W.nsIn K mainGlobals "zip" = some none) :
    ∃ fd : FuncData, (∀ (s : Shared) (v : Value), BindsTo s fd ⟨[v], []⟩ [("_law_script", v)]) ∧ ∀ base : Heap, K.In base → base.Ns mainGlobals mg → FnOk l.prog w K mg base CX0 10 fa fd ["_law_script"] ((spLaw K)) := by
  have e := hfa.symm.trans (PySem.W.mg_of X G a41)
  cases e
  have T : Txt K mg ⟨c_Shifted, c_Scaled, c_Early, c_More, c_Wide, c_Form⟩ := ⟨PySem.W.mg_none_of X G z_isinstance, PySem.W.mg_none_of X G z_int, PySem.W.mg_none_of X G z_bool, PySem.W.mg_none_of X G z_list, PySem.W.mg_none_of X G z_len, PySem.W.mg_none_of X G z_max, PySem.W.mg_none_of X G z_min, PySem.W.mg_none_of X G z_range, PySem.W.mg_none_of X G z_sorted, PySem.W.mg_none_of X G z_zip, PySem.W.mg_of X G aC_Shifted, ⟨pg_Shifted, hd_Shifted, po_Shifted, sa_Shifted⟩, na_Shifted_shift, PySem.W.mg_of X G aC_Scaled, ⟨pg_Scaled, hd_Scaled, po_Scaled, sa_Scaled⟩, na_Scaled_factor, na_Scaled_shift, PySem.W.mg_of X G aC_Early, ⟨pg_Early, hd_Early, po_Early, sa_Early⟩, na_Early_early, na_Early_factor, na_Early_shift, PySem.W.mg_of X G aC_More, ⟨pg_More, hd_More, po_More, sa_More⟩, na_More_factor, na_More_shift, PySem.W.mg_of X G aC_Wide, ⟨pg_Wide, hd_Wide, po_Wide, sa_Wide⟩, na_Wide_factor, na_Wide_shift, PySem.W.mg_of X G aC_Form, ⟨pg_Form, hd_Form, po_Form, sa_Form⟩, kf_kc, kf_kt, kf_og, kf_ot, kf_dc_Shifted, kf_dc_Scaled, kf_dc_Early, kf_dc_More, kf_dc_Wide, kf_mo_Shifted, kf_mo_Scaled, kf_mo_Early, kf_mo_More, kf_mo_Wide, kf_ik_Shifted, kf_ik_Scaled, kf_ik_Early, kf_ik_More, kf_ik_Wide, kf_kc_Shifted, kf_kt_Shifted, kf_kc_Scaled, kf_kt_Scaled, kf_kc_Early, kf_kt_Early, kf_kc_More, kf_kt_More, kf_kc_Wide, kf_kt_Wide, kf_kc_Form, kf_kt_Form, kf_m_Shifted_Shifted, kf_m_Shifted_Scaled, kf_m_Shifted_Early, kf_m_Shifted_More, kf_m_Shifted_Wide, kf_m_Shifted_Form, kf_m_Scaled_Shifted, kf_m_Scaled_Scaled, kf_m_Scaled_Early, kf_m_Scaled_More, kf_m_Scaled_Wide, kf_m_Scaled_Form, kf_m_Early_Shifted, kf_m_Early_Scaled, kf_m_Early_Early, kf_m_Early_More, kf_m_Early_Wide, kf_m_Early_Form, kf_m_More_Shifted, kf_m_More_Scaled, kf_m_More_Early, kf_m_More_More, kf_m_More_Wide, kf_m_More_Form, kf_m_Wide_Shifted, kf_m_Wide_Scaled, kf_m_Wide_Early, kf_m_Wide_More, kf_m_Wide_Wide, kf_m_Wide_Form⟩
  have F1 := fun_mk (st := s_is_whole) l1 c1 k1
  have b1 := F1.binds (ps := ["thing"]) fun _ _ _ _ _ _ us hl => match us, hl with | [_], _ => rfl
  have F2 := fun_mk (st := s_is_between) l2 c2 k2
  have b2 := F2.binds (ps := ["thing", "low", "high"]) fun _ _ _ _ _ _ us hl => match us, hl with | [_, _, _], _ => rfl
  have F3 := fun_mk (st := s_need_width) l3 c3 k3
  have b3 := F3.binds (ps := ["width"]) fun _ _ _ _ _ _ us hl => match us, hl with | [_], _ => rfl
  have F4 := fun_mk (st := s_need_divisor) l4 c4 k4
  have b4 := F4.binds (ps := ["width", "d"]) fun _ _ _ _ _ _ us hl => match us, hl with | [_, _], _ => rfl
  have F5 := fun_mk (st := s_twos_in) l5 c5 k5
  have b5 := F5.binds (ps := ["d"]) fun _ _ _ _ _ _ us hl => match us, hl with | [_], _ => rfl
  have F6 := fun_mk (st := s_Shifted___init__) l6 c6 k6
  have b6 := F6.binds (ps := ["self", "shift"]) fun _ _ _ _ _ _ us hl => match us, hl with | [_, _], _ => rfl
  have F7 := fun_mk (st := s_Shifted_word) l7 c7 k7
  have b7 := F7.binds (ps := ["self"]) fun _ _ _ _ _ _ us hl => match us, hl with | [_], _ => rfl
  have F8 := fun_mk (st := s_Shifted_told) l8 c8 k8
  have b8 := F8.binds (ps := ["self"]) fun _ _ _ _ _ _ us hl => match us, hl with | [_], _ => rfl
  have F9 := fun_mk (st := s_Scaled___init__) l9 c9 k9
  have b9 := F9.binds (ps := ["self", "factor", "shift"]) fun _ _ _ _ _ _ us hl => match us, hl with | [_, _, _], _ => rfl
  have F10 := fun_mk (st := s_Scaled_word) l10 c10 k10
  have b10 := F10.binds (ps := ["self"]) fun _ _ _ _ _ _ us hl => match us, hl with | [_], _ => rfl
  have F11 := fun_mk (st := s_Scaled_told) l11 c11 k11
  have b11 := F11.binds (ps := ["self"]) fun _ _ _ _ _ _ us hl => match us, hl with | [_], _ => rfl
  have F12 := fun_mk (st := s_Early___init__) l12 c12 k12
  have b12 := F12.binds (ps := ["self", "early", "factor", "shift"]) fun _ _ _ _ _ _ us hl => match us, hl with | [_, _, _, _], _ => rfl
  have F13 := fun_mk (st := s_Early_word) l13 c13 k13
  have b13 := F13.binds (ps := ["self"]) fun _ _ _ _ _ _ us hl => match us, hl with | [_], _ => rfl
  have F14 := fun_mk (st := s_Early_told) l14 c14 k14
  have b14 := F14.binds (ps := ["self"]) fun _ _ _ _ _ _ us hl => match us, hl with | [_], _ => rfl
  have F15 := fun_mk (st := s_More___init__) l15 c15 k15
  have b15 := F15.binds (ps := ["self", "factor", "shift"]) fun _ _ _ _ _ _ us hl => match us, hl with | [_, _, _], _ => rfl
  have F16 := fun_mk (st := s_More_word) l16 c16 k16
  have b16 := F16.binds (ps := ["self"]) fun _ _ _ _ _ _ us hl => match us, hl with | [_], _ => rfl
  have F17 := fun_mk (st := s_More_told) l17 c17 k17
  have b17 := F17.binds (ps := ["self"]) fun _ _ _ _ _ _ us hl => match us, hl with | [_], _ => rfl
  have F18 := fun_mk (st := s_Wide___init__) l18 c18 k18
  have b18 := F18.binds (ps := ["self", "factor", "shift"]) fun _ _ _ _ _ _ us hl => match us, hl with | [_, _, _], _ => rfl
  have F19 := fun_mk (st := s_Wide_word) l19 c19 k19
  have b19 := F19.binds (ps := ["self"]) fun _ _ _ _ _ _ us hl => match us, hl with | [_], _ => rfl
  have F20 := fun_mk (st := s_Wide_told) l20 c20 k20
  have b20 := F20.binds (ps := ["self"]) fun _ _ _ _ _ _ us hl => match us, hl with | [_], _ => rfl
  have F21 := fun_mk (st := s_is_factor) l21 c21 k21
  have b21 := F21.binds (ps := ["thing"]) fun _ _ _ _ _ _ us hl => match us, hl with | [_], _ => rfl
  have F22 := fun_mk (st := s_is_shift) l22 c22 k22
  have b22 := F22.binds (ps := ["thing"]) fun _ _ _ _ _ _ us hl => match us, hl with | [_], _ => rfl
  have F23 := fun_mk (st := s_ceiling) l23 c23 k23
  have b23 := F23.binds (ps := ["top", "bottom"]) fun _ _ _ _ _ _ us hl => match us, hl with | [_, _], _ => rfl
  have F24 := fun_mk (st := s_scaled_candidates) l24 c24 k24
  have b24 := F24.binds (ps := ["width", "d"]) fun _ _ _ _ _ _ us hl => match us, hl with | [_, _], _ => rfl
  have F25 := fun_mk (st := s_early_candidates) l25 c25 k25
  have b25 := F25.binds (ps := ["width", "d"]) fun _ _ _ _ _ _ us hl => match us, hl with | [_, _], _ => rfl
  have F26 := fun_mk (st := s_more_candidates) l26 c26 k26
  have b26 := F26.binds (ps := ["width", "d"]) fun _ _ _ _ _ _ us hl => match us, hl with | [_, _], _ => rfl
  have F27 := fun_mk (st := s_candidates) l27 c27 k27
  have b27 := F27.binds (ps := ["width", "d"]) fun _ _ _ _ _ _ us hl => match us, hl with | [_, _], _ => rfl
  have F28 := fun_mk (st := s__law_start) l28 c28 k28
  have b28 := F28.binds (ps := ["_law_script", "_law_k"]) fun _ _ _ _ _ _ us hl => match us, hl with | [_, _], _ => rfl
  have F29 := fun_mk (st := s__law_draw) l29 c29 k29
  have b29 := F29.binds (ps := ["_law_state", "_law_size"]) fun _ _ _ _ _ _ us hl => match us, hl with | [_, _], _ => rfl
  have F30 := fun_mk (st := s__law_twos) l30 c30 k30
  have b30 := F30.binds (ps := ["_law_d"]) fun _ _ _ _ _ _ us hl => match us, hl with | [_], _ => rfl
  have F31 := fun_mk (st := s__law_divisor) l31 c31 k31
  have b31 := F31.binds (ps := ["_law_state", "_law_width"]) fun _ _ _ _ _ _ us hl => match us, hl with | [_, _], _ => rfl
  have F32 := fun_mk (st := s__law_corners) l32 c32 k32
  have b32 := F32.binds (ps := ["_law_last", "_law_d"]) fun _ _ _ _ _ _ us hl => match us, hl with | [_, _], _ => rfl
  have F33 := fun_mk (st := s__law_brought) l33 c33 k33
  have b33 := F33.binds (ps := ["_law_numbers_here", "_law_x"]) fun _ _ _ _ _ _ us hl => match us, hl with | [_, _], _ => rfl
  have F34 := fun_mk (st := s__law_right_to) l34 c34 k34
  have b34 := F34.binds (ps := ["_law_last", "_law_d", "_law_numbers_here"]) fun _ _ _ _ _ _ us hl => match us, hl with | [_, _, _], _ => rfl
  have F35 := fun_mk (st := s__law_numbers) l35 c35 k35
  have b35 := F35.binds (ps := ["_law_told", "_law_width"]) fun _ _ _ _ _ _ us hl => match us, hl with | [_, _], _ => rfl
  have F36 := fun_mk (st := s__law_up) l36 c36 k36
  have b36 := F36.binds (ps := ["_law_top", "_law_bottom"]) fun _ _ _ _ _ _ us hl => match us, hl with | [_, _], _ => rfl
  have F37 := fun_mk (st := s__law_all) l37 c37 k37
  have b37 := F37.binds (ps := ["_law_width", "_law_d"]) fun _ _ _ _ _ _ us hl => match us, hl with | [_, _], _ => rfl
  have F38 := fun_mk (st := s__law_of_class) l38 c38 k38
  have b38 := F38.binds (ps := ["_law_form", "_law_word"]) fun _ _ _ _ _ _ us hl => match us, hl with | [_, _], _ => rfl
  have F39 := fun_mk (st := s__law_agree) l39 c39 k39
  have b39 := F39.binds (ps := ["_law_found", "_law_due"]) fun _ _ _ _ _ _ us hl => match us, hl with | [_, _], _ => rfl
  have F40 := fun_mk (st := s__law_case) l40 c40 k40
  have b40 := F40.binds (ps := ["_law_state"]) fun _ _ _ _ _ _ us hl => match us, hl with | [_], _ => rfl
  have F41 := fun_mk (st := s_law) l41 c41 k41
  refine ⟨PySem.W.fnOf "law" "law" (defArgs s_law) (defBody s_law) (defScope s_law) .none kV41 dc41 pm41 an41 cd41 ct41, fun s v => .of_eq rfl, fun base _ _ => ?_⟩
  have H_is_whole : Has l.prog w K mg base 1 "is_whole" ["thing"] spWhole := ⟨_, _, ok_is_whole F1 T , b1, k1, PySem.W.mg_of X G a1⟩
  have H_is_between : Has l.prog w K mg base 2 "is_between" ["thing", "low", "high"] spBetween := ⟨_, _, ok_is_between F2 T H_is_whole, b2, k2, PySem.W.mg_of X G a2⟩
  have H_is_shift : Has l.prog w K mg base 3 "is_shift" ["thing"] spShf := ⟨_, _, ok_is_shift F22 T H_is_between, b22, k22, PySem.W.mg_of X G a22⟩
  have C_Shifted : CHas l.prog w K mg base 4 c_Shifted "Shifted" ["self", "shift"] (spI0 ⟨c_Shifted, c_Scaled, c_Early, c_More, c_Wide, c_Form⟩) := ⟨_, _, ⟨mk_Shifted, a6, i6, kc_Shifted⟩, ok_Shifted___init__ F6 T H_is_shift, b6, PySem.W.mg_of X G aC_Shifted⟩
  have M_Shifted_word : MHas l.prog w K mg base 1 c_Shifted "word" ["self"] (spWd 0) := ⟨T.cl_Shifted, _, _, ⟨a7, i7, k7⟩, ok_Shifted_word F7 T , b7⟩
  have M_Shifted_told : MHas l.prog w K mg base 2 c_Shifted "told" ["self"] (spTold ⟨c_Shifted, c_Scaled, c_Early, c_More, c_Wide, c_Form⟩ 0) := ⟨T.cl_Shifted, _, _, ⟨a8, i8, k8⟩, ok_Shifted_told F8 T  M_Shifted_word, b8⟩
  have H_is_factor : Has l.prog w K mg base 3 "is_factor" ["thing"] spFac := ⟨_, _, ok_is_factor F21 T H_is_between, b21, k21, PySem.W.mg_of X G a21⟩
  have C_Scaled : CHas l.prog w K mg base 4 c_Scaled "Scaled" ["self", "factor", "shift"] (spI2 ⟨c_Shifted, c_Scaled, c_Early, c_More, c_Wide, c_Form⟩ 1 0) := ⟨_, _, ⟨mk_Scaled, a9, i9, kc_Scaled⟩, ok_Scaled___init__ F9 T H_is_factor H_is_shift, b9, PySem.W.mg_of X G aC_Scaled⟩
  have M_Scaled_word : MHas l.prog w K mg base 1 c_Scaled "word" ["self"] (spWd 1) := ⟨T.cl_Scaled, _, _, ⟨a10, i10, k10⟩, ok_Scaled_word F10 T , b10⟩
  have M_Scaled_told : MHas l.prog w K mg base 2 c_Scaled "told" ["self"] (spTold ⟨c_Shifted, c_Scaled, c_Early, c_More, c_Wide, c_Form⟩ 1) := ⟨T.cl_Scaled, _, _, ⟨a11, i11, k11⟩, ok_Scaled_told F11 T  M_Scaled_word, b11⟩
  have C_Early : CHas l.prog w K mg base 4 c_Early "Early" ["self", "early", "factor", "shift"] (spI3 ⟨c_Shifted, c_Scaled, c_Early, c_More, c_Wide, c_Form⟩) := ⟨_, _, ⟨mk_Early, a12, i12, kc_Early⟩, ok_Early___init__ F12 T H_is_shift H_is_factor, b12, PySem.W.mg_of X G aC_Early⟩
  have M_Early_word : MHas l.prog w K mg base 1 c_Early "word" ["self"] (spWd 2) := ⟨T.cl_Early, _, _, ⟨a13, i13, k13⟩, ok_Early_word F13 T , b13⟩
  have M_Early_told : MHas l.prog w K mg base 2 c_Early "told" ["self"] (spTold ⟨c_Shifted, c_Scaled, c_Early, c_More, c_Wide, c_Form⟩ 2) := ⟨T.cl_Early, _, _, ⟨a14, i14, k14⟩, ok_Early_told F14 T  M_Early_word, b14⟩
  have C_More : CHas l.prog w K mg base 4 c_More "More" ["self", "factor", "shift"] (spI2 ⟨c_Shifted, c_Scaled, c_Early, c_More, c_Wide, c_Form⟩ 3 0) := ⟨_, _, ⟨mk_More, a15, i15, kc_More⟩, ok_More___init__ F15 T H_is_factor H_is_shift, b15, PySem.W.mg_of X G aC_More⟩
  have M_More_word : MHas l.prog w K mg base 1 c_More "word" ["self"] (spWd 3) := ⟨T.cl_More, _, _, ⟨a16, i16, k16⟩, ok_More_word F16 T , b16⟩
  have M_More_told : MHas l.prog w K mg base 2 c_More "told" ["self"] (spTold ⟨c_Shifted, c_Scaled, c_Early, c_More, c_Wide, c_Form⟩ 3) := ⟨T.cl_More, _, _, ⟨a17, i17, k17⟩, ok_More_told F17 T  M_More_word, b17⟩
  have C_Wide : CHas l.prog w K mg base 4 c_Wide "Wide" ["self", "factor", "shift"] (spI2 ⟨c_Shifted, c_Scaled, c_Early, c_More, c_Wide, c_Form⟩ 4 1) := ⟨_, _, ⟨mk_Wide, a18, i18, kc_Wide⟩, ok_Wide___init__ F18 T H_is_factor H_is_between, b18, PySem.W.mg_of X G aC_Wide⟩
  have M_Wide_word : MHas l.prog w K mg base 1 c_Wide "word" ["self"] (spWd 4) := ⟨T.cl_Wide, _, _, ⟨a19, i19, k19⟩, ok_Wide_word F19 T , b19⟩
  have M_Wide_told : MHas l.prog w K mg base 2 c_Wide "told" ["self"] (spTold ⟨c_Shifted, c_Scaled, c_Early, c_More, c_Wide, c_Form⟩ 4) := ⟨T.cl_Wide, _, _, ⟨a20, i20, k20⟩, ok_Wide_told F20 T  M_Wide_word, b20⟩
  have MT : ∀ i, i < 5 → MHas l.prog w K mg base 2 (fOf ⟨c_Shifted, c_Scaled, c_Early, c_More, c_Wide, c_Form⟩ i) "told" ["self"] (spTold ⟨c_Shifted, c_Scaled, c_Early, c_More, c_Wide, c_Form⟩ i) := fun i hi => by
    rcases (by omega : i = 0 ∨ i = 1 ∨ i = 2 ∨ i = 3 ∨ i = 4) with rfl | rfl | rfl | rfl | rfl
    · exact M_Shifted_told
    · exact M_Scaled_told
    · exact M_Early_told
    · exact M_More_told
    · exact M_Wide_told
  have H__law_draw : Has l.prog w K mg base 1 "_law_draw" ["_law_state", "_law_size"] spTake := ⟨_, _, ok__law_draw F29 T , b29, k29, PySem.W.mg_of X G a29⟩
  have H__law_divisor : Has l.prog w K mg base 2 "_law_divisor" ["_law_state", "_law_width"] spDiv := ⟨_, _, ok__law_divisor F31 T H__law_draw, b31, k31, PySem.W.mg_of X G a31⟩
  have H__law_twos : Has l.prog w K mg base 1 "_law_twos" ["_law_d"] spTwos := ⟨_, _, ok__law_twos F30 T , b30, k30, PySem.W.mg_of X G a30⟩
  have H__law_up : Has l.prog w K mg base 1 "_law_up" ["_law_top", "_law_bottom"] spCeilF := ⟨_, _, ok__law_up F36 T , b36, k36, PySem.W.mg_of X G a36⟩
  have H__law_all : Has l.prog w K mg base 2 "_law_all" ["_law_width", "_law_d"] spAllT := ⟨_, _, ok__law_all F37 T H__law_twos H__law_up, b37, k37, PySem.W.mg_of X G a37⟩
  have H_need_width : Has l.prog w K mg base 3 "need_width" ["width"] spNeedW := ⟨_, _, ok_need_width F3 T H_is_between, b3, k3, PySem.W.mg_of X G a3⟩
  have H_need_divisor : Has l.prog w K mg base 4 "need_divisor" ["width", "d"] spNeedD := ⟨_, _, ok_need_divisor F4 T H_need_width H_is_between, b4, k4, PySem.W.mg_of X G a4⟩
  have H_ceiling : Has l.prog w K mg base 1 "ceiling" ["top", "bottom"] spCeilF := ⟨_, _, ok_ceiling F23 T , b23, k23, PySem.W.mg_of X G a23⟩
  have H_scaled_candidates : Has l.prog w K mg base 6 "scaled_candidates" ["width", "d"] (spScC ⟨c_Shifted, c_Scaled, c_Early, c_More, c_Wide, c_Form⟩) := ⟨_, _, ok_scaled_candidates F24 T H_ceiling C_Scaled, b24, k24, PySem.W.mg_of X G a24⟩
  have H_twos_in : Has l.prog w K mg base 1 "twos_in" ["d"] spTwos := ⟨_, _, ok_twos_in F5 T , b5, k5, PySem.W.mg_of X G a5⟩
  have H_early_candidates : Has l.prog w K mg base 7 "early_candidates" ["width", "d"] (spEaC ⟨c_Shifted, c_Scaled, c_Early, c_More, c_Wide, c_Form⟩) := ⟨_, _, ok_early_candidates F25 T H_twos_in H_scaled_candidates C_Early, b25, k25, PySem.W.mg_of X G a25⟩
  have H_more_candidates : Has l.prog w K mg base 6 "more_candidates" ["width", "d"] (spMoC ⟨c_Shifted, c_Scaled, c_Early, c_More, c_Wide, c_Form⟩) := ⟨_, _, ok_more_candidates F26 T C_More, b26, k26, PySem.W.mg_of X G a26⟩
  have H_candidates : Has l.prog w K mg base 8 "candidates" ["width", "d"] (spCand ⟨c_Shifted, c_Scaled, c_Early, c_More, c_Wide, c_Form⟩) := ⟨_, _, ok_candidates F27 T H_need_divisor H_scaled_candidates H_early_candidates H_more_candidates H_ceiling C_Shifted C_Wide, b27, k27, PySem.W.mg_of X G a27⟩
  have H__law_of_class : Has l.prog w K mg base 1 "_law_of_class" ["_law_form", "_law_word"] (spOfC ⟨c_Shifted, c_Scaled, c_Early, c_More, c_Wide, c_Form⟩) := ⟨_, _, ok__law_of_class F38 T , b38, k38, PySem.W.mg_of X G a38⟩
  have H__law_agree : Has l.prog w K mg base 3 "_law_agree" ["_law_found", "_law_due"] (spAgr ⟨c_Shifted, c_Scaled, c_Early, c_More, c_Wide, c_Form⟩) := ⟨_, _, ok__law_agree F39 T H__law_of_class MT, b39, k39, PySem.W.mg_of X G a39⟩
  have H__law_corners : Has l.prog w K mg base 1 "_law_corners" ["_law_last", "_law_d"] spCorners := ⟨_, _, ok__law_corners F32 T , b32, k32, PySem.W.mg_of X G a32⟩
  have H__law_brought : Has l.prog w K mg base 1 "_law_brought" ["_law_numbers_here", "_law_x"] spBroG := ⟨_, _, ok__law_brought F33 T , b33, k33, PySem.W.mg_of X G a33⟩
  have H__law_right_to : Has l.prog w K mg base 2 "_law_right_to" ["_law_last", "_law_d", "_law_numbers_here"] spRightG := ⟨_, _, ok__law_right_to F34 T H__law_corners H__law_brought, b34, k34, PySem.W.mg_of X G a34⟩
  have H__law_numbers : Has l.prog w K mg base 1 "_law_numbers" ["_law_told", "_law_width"] spNumb := ⟨_, _, ok__law_numbers F35 T , b35, k35, PySem.W.mg_of X G a35⟩
  have H__law_case : Has l.prog w K mg base 9 "_law_case" ["_law_state"] (spCase23 ⟨c_Shifted, c_Scaled, c_Early, c_More, c_Wide, c_Form⟩) := ⟨_, _, ok__law_case F40 T H__law_divisor H__law_all H_candidates H__law_draw H__law_agree H__law_right_to H__law_numbers, b40, k40, PySem.W.mg_of X G a40⟩
  have H__law_start : Has l.prog w K mg base 1 "_law_start" ["_law_script", "_law_k"] (spStart K) := ⟨_, _, ok__law_start F28 T , b28, k28, PySem.W.mg_of X G a28⟩
  exact ok_law F41 T H__law_case H__law_start
theorem walk {l : PySem.W.OpenLaw} {q : Program} {loose : List Str} {XP : (Str → Option Value) → Heap → Prop} {YP : World → Heap → Prop} {d : DefRec} {K : Params → PySem.W.Frag} (hn : l.most = some 63) (hdf : d.params.defaults = [])
    (hY : ∀ (w : World) (h : Heap), YP w h → (K w.params).In h)
    (F : ∀ (w : World) (mg : Str → Option Value) (fa : Addr) (h : Heap), (K w.params).In h → h.Ns mainGlobals mg → mg d.name = some (.ref fa) →
      ∃ fd : FuncData, (∀ (s : Shared) (u : Value), BindsTo s fd ⟨[u], []⟩ [("_law_script", u)]) ∧ ∀ base : Heap, (K w.params).In base → base.Ns mainGlobals mg → FnOk l.prog w (K w.params) mg base CX0 10 fa fd ["_law_script"] (spLaw (K w.params))) :
    PySem.W.WalkO q loose XP YP l.row.toRowW d [] (fun f vs => PySem.call f vs) :=
  L2.walk_of (n := 63) (k := 10) (x := "_law_script") (CX := fun _ => CX0) (sp := fun w => spLaw (K w.params)) hn (by decide) hdf ⟨rfl, by decide, by decide⟩ hY F (fun _ _ a ns hl _ hS => ⟨a, ns, rfl, hS, hl, fun _ => rfl⟩) fun _ _ _ _ _ z => z
end Ow
open PySem PySem.W PyProof.Rows
def PySem.W.Fast.tw14995957635569577875 : Nat := 0
def PySem.W.Fast.tw6800730687886360336 : Nat := 0
def PySem.W.Fast.tw6835150443871180238 : Nat := 0
def PySem.W.Fast.tw3293632508272975928 : Nat := 0
def PySem.W.Fast.tw9677542013086730947 : Nat := 0
def PySem.W.Fast.tw1964449390228356433 : Nat := 0
def PySem.W.Fast.tw17714804002365474200 : Nat := 0
def PySem.W.Fast.tw10508477898651231561 : Nat := 0
def PySem.W.Fast.tw9887070008820158985 : Nat := 0
def PySem.W.Fast.tw13422281709835068786 : Nat := 0
def PySem.W.Fast.tw10937842389728370098 : Nat := 0
def PySem.W.Fast.tw2203239390359143398 : Nat := 0
def PySem.W.Fast.tw17684197982832323763 : Nat := 0
def PySem.W.Fast.tw6872061428763114312 : Nat := 0
def PySem.W.Fast.tw9013354192815657242 : Nat := 0
def PySem.W.Fast.tw5341054891016317874 : Nat := 0
def PySem.W.Fast.tw17367786224015615990 : Nat := 0
def PySem.W.Fast.tw2179511402494348735 : Nat := 0
def PySem.W.Fast.tw301790991982666243 : Nat := 0
def PySem.W.Fast.tw4518921302867776603 : Nat := 0
def PySem.W.Fast.tw2786572272457300392 : Nat := 0
def PySem.W.Fast.tw3804244165310644227 : Nat := 0
def PySem.W.Fast.tw18204654532849390561 : Nat := 0
def PySem.W.Fast.tw15318934271560407506 : Nat := 0
def PySem.W.Fast.tw2273776183751653890 : Nat := 0
def PySem.W.Fast.tw6922053899563414369 : Nat := 0
def PySem.W.Fast.tw16642258113231046539 : Nat := 0
def PySem.W.Fast.tw6403973008350881496 : Nat := 0
def PySem.W.Fast.tw6705461883861710930 : Nat := 0
def PySem.W.Fast.tw15555288696677375281 : Nat := 0
set_option maxRecDepth 100000 in
set_option maxHeartbeats 0 in
theorem PySem.Challenge.cw_overwise_k25_candidates_holds : PySem.Challenge.rw_overwise_k25_candidates.Holds := by
  w_on; o_law; k_head; (case hw => w_witness2)
  k_fill
  refine Ow.walk (l := PySem.Challenge.rw_overwise_k25_candidates) rfl rfl (fun w h Y => PySem.W.kIn_of Y) ?F
  case F =>
    intro w mg fa h KX G hmg
    refine' Ow.all_mk KX G hmg ?a1 ?l1 ?c1 ?k1 ?a2 ?l2 ?c2 ?k2 ?a3 ?l3 ?c3 ?k3 ?a4 ?l4 ?c4 ?k4 ?a5 ?l5 ?c5 ?k5 ?a6 ?i6 ?l6 ?c6 ?k6 ?a7 ?i7 ?l7 ?c7 ?k7 ?a8 ?i8 ?l8 ?c8 ?k8 ?a9 ?i9 ?l9 ?c9 ?k9 ?a10 ?i10 ?l10 ?c10 ?k10 ?a11 ?i11 ?l11 ?c11 ?k11 ?a12 ?i12 ?l12 ?c12 ?k12 ?a13 ?i13 ?l13 ?c13 ?k13 ?a14 ?i14 ?l14 ?c14 ?k14 ?a15 ?i15 ?l15 ?c15 ?k15 ?a16 ?i16 ?l16 ?c16 ?k16 ?a17 ?i17 ?l17 ?c17 ?k17 ?a18 ?i18 ?l18 ?c18 ?k18 ?a19 ?i19 ?l19 ?c19 ?k19 ?a20 ?i20 ?l20 ?c20 ?k20 ?a21 ?l21 ?c21 ?k21 ?a22 ?l22 ?c22 ?k22 ?a23 ?l23 ?c23 ?k23 ?a24 ?l24 ?c24 ?k24 ?a25 ?l25 ?c25 ?k25 ?a26 ?l26 ?c26 ?k26 ?a27 ?l27 ?c27 ?k27 ?a28 ?l28 ?c28 ?k28 ?a29 ?l29 ?c29 ?k29 ?a30 ?l30 ?c30 ?k30 ?a31 ?l31 ?c31 ?k31 ?a32 ?l32 ?c32 ?k32 ?a33 ?l33 ?c33 ?k33 ?a34 ?l34 ?c34 ?k34 ?a35 ?l35 ?c35 ?k35 ?a36 ?l36 ?c36 ?k36 ?a37 ?l37 ?c37 ?k37 ?a38 ?l38 ?c38 ?k38 ?a39 ?l39 ?c39 ?k39 ?a40 ?l40 ?c40 ?k40 ?a41 ?l41 ?c41 ?k41 ?aC_Shifted ?pg_Shifted ?hd_Shifted ?po_Shifted ?sa_Shifted ?mk_Shifted ?kc_Shifted ?na_Shifted_shift ?aC_Scaled ?pg_Scaled ?hd_Scaled ?po_Scaled ?sa_Scaled ?mk_Scaled ?kc_Scaled ?na_Scaled_factor ?na_Scaled_shift ?aC_Early ?pg_Early ?hd_Early ?po_Early ?sa_Early ?mk_Early ?kc_Early ?na_Early_early ?na_Early_factor ?na_Early_shift ?aC_More ?pg_More ?hd_More ?po_More ?sa_More ?mk_More ?kc_More ?na_More_factor ?na_More_shift ?aC_Wide ?pg_Wide ?hd_Wide ?po_Wide ?sa_Wide ?mk_Wide ?kc_Wide ?na_Wide_factor ?na_Wide_shift ?aC_Form ?pg_Form ?hd_Form ?po_Form ?sa_Form   ?kf_kc ?kf_kt ?kf_og ?kf_ot ?kf_dc_Shifted ?kf_dc_Scaled ?kf_dc_Early ?kf_dc_More ?kf_dc_Wide ?kf_mo_Shifted ?kf_mo_Scaled ?kf_mo_Early ?kf_mo_More ?kf_mo_Wide ?kf_ik_Shifted ?kf_ik_Scaled ?kf_ik_Early ?kf_ik_More ?kf_ik_Wide ?kf_kc_Shifted ?kf_kt_Shifted ?kf_kc_Scaled ?kf_kt_Scaled ?kf_kc_Early ?kf_kt_Early ?kf_kc_More ?kf_kt_More ?kf_kc_Wide ?kf_kt_Wide ?kf_kc_Form ?kf_kt_Form ?kf_m_Shifted_Shifted ?kf_m_Shifted_Scaled ?kf_m_Shifted_Early ?kf_m_Shifted_More ?kf_m_Shifted_Wide ?kf_m_Shifted_Form ?kf_m_Scaled_Shifted ?kf_m_Scaled_Scaled ?kf_m_Scaled_Early ?kf_m_Scaled_More ?kf_m_Scaled_Wide ?kf_m_Scaled_Form ?kf_m_Early_Shifted ?kf_m_Early_Scaled ?kf_m_Early_Early ?kf_m_Early_More ?kf_m_Early_Wide ?kf_m_Early_Form ?kf_m_More_Shifted ?kf_m_More_Scaled ?kf_m_More_Early ?kf_m_More_More ?kf_m_More_Wide ?kf_m_More_Form ?kf_m_Wide_Shifted ?kf_m_Wide_Scaled ?kf_m_Wide_Early ?kf_m_Wide_More ?kf_m_Wide_Wide ?kf_m_Wide_Form ?z_isinstance ?z_int ?z_bool ?z_list ?z_len ?z_max ?z_min ?z_range ?z_sorted ?z_zip
    (case aC_Shifted => k_is); (case pg_Shifted => k_is); (case hd_Shifted => k_is); (case po_Shifted => k_is); (case sa_Shifted => k_is)
    (case mk_Shifted => k_is); (case kc_Shifted => k_is)
    (case na_Shifted_shift => k_is)
    (case aC_Scaled => k_is); (case pg_Scaled => k_is); (case hd_Scaled => k_is); (case po_Scaled => k_is); (case sa_Scaled => k_is)
    (case mk_Scaled => k_is); (case kc_Scaled => k_is)
    (case na_Scaled_factor => k_is)
    (case na_Scaled_shift => k_is)
    (case aC_Early => k_is); (case pg_Early => k_is); (case hd_Early => k_is); (case po_Early => k_is); (case sa_Early => k_is)
    (case mk_Early => k_is); (case kc_Early => k_is)
    (case na_Early_early => k_is)
    (case na_Early_factor => k_is)
    (case na_Early_shift => k_is)
    (case aC_More => k_is); (case pg_More => k_is); (case hd_More => k_is); (case po_More => k_is); (case sa_More => k_is)
    (case mk_More => k_is); (case kc_More => k_is)
    (case na_More_factor => k_is)
    (case na_More_shift => k_is)
    (case aC_Wide => k_is); (case pg_Wide => k_is); (case hd_Wide => k_is); (case po_Wide => k_is); (case sa_Wide => k_is)
    (case mk_Wide => k_is); (case kc_Wide => k_is)
    (case na_Wide_factor => k_is)
    (case na_Wide_shift => k_is)
    (case aC_Form => k_is); (case pg_Form => k_is); (case hd_Form => k_is); (case po_Form => k_is); (case sa_Form => k_is)
    (case a1 => k_is); (case l1 => k_is); (case c1 => k_is); (case k1 => k_is)
    (case a2 => k_is); (case l2 => k_is); (case c2 => k_is); (case k2 => k_is)
    (case a3 => k_is); (case l3 => k_is); (case c3 => k_is); (case k3 => k_is)
    (case a4 => k_is); (case l4 => k_is); (case c4 => k_is); (case k4 => k_is)
    (case a5 => k_is); (case l5 => k_is); (case c5 => k_is); (case k5 => k_is)
    (case a6 => k_is); (case i6 => k_is); (case l6 => k_is); (case c6 => k_is); (case k6 => k_is)
    (case a7 => k_is); (case i7 => k_is); (case l7 => k_is); (case c7 => k_is); (case k7 => k_is)
    (case a8 => k_is); (case i8 => k_is); (case l8 => k_is); (case c8 => k_is); (case k8 => k_is)
    (case a9 => k_is); (case i9 => k_is); (case l9 => k_is); (case c9 => k_is); (case k9 => k_is)
    (case a10 => k_is); (case i10 => k_is); (case l10 => k_is); (case c10 => k_is); (case k10 => k_is)
    (case a11 => k_is); (case i11 => k_is); (case l11 => k_is); (case c11 => k_is); (case k11 => k_is)
    (case a12 => k_is); (case i12 => k_is); (case l12 => k_is); (case c12 => k_is); (case k12 => k_is)
    (case a13 => k_is); (case i13 => k_is); (case l13 => k_is); (case c13 => k_is); (case k13 => k_is)
    (case a14 => k_is); (case i14 => k_is); (case l14 => k_is); (case c14 => k_is); (case k14 => k_is)
    (case a15 => k_is); (case i15 => k_is); (case l15 => k_is); (case c15 => k_is); (case k15 => k_is)
    (case a16 => k_is); (case i16 => k_is); (case l16 => k_is); (case c16 => k_is); (case k16 => k_is)
    (case a17 => k_is); (case i17 => k_is); (case l17 => k_is); (case c17 => k_is); (case k17 => k_is)
    (case a18 => k_is); (case i18 => k_is); (case l18 => k_is); (case c18 => k_is); (case k18 => k_is)
    (case a19 => k_is); (case i19 => k_is); (case l19 => k_is); (case c19 => k_is); (case k19 => k_is)
    (case a20 => k_is); (case i20 => k_is); (case l20 => k_is); (case c20 => k_is); (case k20 => k_is)
    (case a21 => k_is); (case l21 => k_is); (case c21 => k_is); (case k21 => k_is)
    (case a22 => k_is); (case l22 => k_is); (case c22 => k_is); (case k22 => k_is)
    (case a23 => k_is); (case l23 => k_is); (case c23 => k_is); (case k23 => k_is)
    (case a24 => k_is); (case l24 => k_is); (case c24 => k_is); (case k24 => k_is)
    (case a25 => k_is); (case l25 => k_is); (case c25 => k_is); (case k25 => k_is)
    (case a26 => k_is); (case l26 => k_is); (case c26 => k_is); (case k26 => k_is)
    (case a27 => k_is); (case l27 => k_is); (case c27 => k_is); (case k27 => k_is)
    (case a28 => k_is); (case l28 => k_is); (case c28 => k_is); (case k28 => k_is)
    (case a29 => k_is); (case l29 => k_is); (case c29 => k_is); (case k29 => k_is)
    (case a30 => k_is); (case l30 => k_is); (case c30 => k_is); (case k30 => k_is)
    (case a31 => k_is); (case l31 => k_is); (case c31 => k_is); (case k31 => k_is)
    (case a32 => k_is); (case l32 => k_is); (case c32 => k_is); (case k32 => k_is)
    (case a33 => k_is); (case l33 => k_is); (case c33 => k_is); (case k33 => k_is)
    (case a34 => k_is); (case l34 => k_is); (case c34 => k_is); (case k34 => k_is)
    (case a35 => k_is); (case l35 => k_is); (case c35 => k_is); (case k35 => k_is)
    (case a36 => k_is); (case l36 => k_is); (case c36 => k_is); (case k36 => k_is)
    (case a37 => k_is); (case l37 => k_is); (case c37 => k_is); (case k37 => k_is)
    (case a38 => k_is); (case l38 => k_is); (case c38 => k_is); (case k38 => k_is)
    (case a39 => k_is); (case l39 => k_is); (case c39 => k_is); (case k39 => k_is)
    (case a40 => k_is); (case l40 => k_is); (case c40 => k_is); (case k40 => k_is)
    (case a41 => k_is); (case l41 => k_is); (case c41 => k_is); (case k41 => k_is)
    (case kf_kc => k_is)
    (case kf_kt => k_is)
    (case kf_og => k_is)
    (case kf_ot => k_is)
    (case kf_dc_Shifted => k_is)
    (case kf_dc_Scaled => k_is)
    (case kf_dc_Early => k_is)
    (case kf_dc_More => k_is)
    (case kf_dc_Wide => k_is)
    (case kf_mo_Shifted => k_is)
    (case kf_mo_Scaled => k_is)
    (case kf_mo_Early => k_is)
    (case kf_mo_More => k_is)
    (case kf_mo_Wide => k_is)
    (case kf_ik_Shifted => k_is)
    (case kf_ik_Scaled => k_is)
    (case kf_ik_Early => k_is)
    (case kf_ik_More => k_is)
    (case kf_ik_Wide => k_is)
    (case kf_kc_Shifted => k_is)
    (case kf_kt_Shifted => k_is)
    (case kf_kc_Scaled => k_is)
    (case kf_kt_Scaled => k_is)
    (case kf_kc_Early => k_is)
    (case kf_kt_Early => k_is)
    (case kf_kc_More => k_is)
    (case kf_kt_More => k_is)
    (case kf_kc_Wide => k_is)
    (case kf_kt_Wide => k_is)
    (case kf_kc_Form => k_is)
    (case kf_kt_Form => k_is)
    (case kf_m_Shifted_Shifted => k_is)
    (case kf_m_Shifted_Scaled => k_is)
    (case kf_m_Shifted_Early => k_is)
    (case kf_m_Shifted_More => k_is)
    (case kf_m_Shifted_Wide => k_is)
    (case kf_m_Shifted_Form => k_is)
    (case kf_m_Scaled_Shifted => k_is)
    (case kf_m_Scaled_Scaled => k_is)
    (case kf_m_Scaled_Early => k_is)
    (case kf_m_Scaled_More => k_is)
    (case kf_m_Scaled_Wide => k_is)
    (case kf_m_Scaled_Form => k_is)
    (case kf_m_Early_Shifted => k_is)
    (case kf_m_Early_Scaled => k_is)
    (case kf_m_Early_Early => k_is)
    (case kf_m_Early_More => k_is)
    (case kf_m_Early_Wide => k_is)
    (case kf_m_Early_Form => k_is)
    (case kf_m_More_Shifted => k_is)
    (case kf_m_More_Scaled => k_is)
    (case kf_m_More_Early => k_is)
    (case kf_m_More_More => k_is)
    (case kf_m_More_Wide => k_is)
    (case kf_m_More_Form => k_is)
    (case kf_m_Wide_Shifted => k_is)
    (case kf_m_Wide_Scaled => k_is)
    (case kf_m_Wide_Early => k_is)
    (case kf_m_Wide_More => k_is)
    (case kf_m_Wide_Wide => k_is)
    (case kf_m_Wide_Form => k_is)
    (case z_isinstance => k_is)
    (case z_int => k_is)
    (case z_bool => k_is)
    (case z_list => k_is)
    (case z_len => k_is)
    (case z_max => k_is)
    (case z_min => k_is)
    (case z_range => k_is)
    (case z_sorted => k_is)
    (case z_zip => k_is)

