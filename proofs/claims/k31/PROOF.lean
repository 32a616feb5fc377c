import PyProof.Rows.All
import Wide.All
import OpenK.AllK
import Wide.FinOn
import Lean
import PyProof.EqAt
import PyProof.EqKinds
import PyProof.TupleCall
import KE.BitLaws
import KE.IntBitsLaws
import KE.KIntText
import PySem.Challenge.RW_overwise_k31_signed_forms_told
set_option Elab.async false
set_option linter.all false
set_option maxRecDepth 100000
/-! THE HAND LAYER, for ints, bools, texts, own classes, LISTS and tuples (index, slices, in, append, pop ..), calls, loops. Paste it whole ahead of your own text; what your proof does not reach may be deleted. -/
namespace L2
open PySem PySem.Spec PyProof.Rows

/-- a key: an int or a str -/
abbrev Key := Sum Int Str
def keyIs : Key → Value → Bool
  | .inl k, v => Value.isInt k v
  | .inr x, v => Value.isStrOf x v
def keyH (w : World) : Key → Int
  | .inl k => hashInt k
  | .inr x => hashStr w x
theorem keyIs_shape : ∀ {k : Key} {v : Value}, keyIs k v = true → (∃ i t, k = Sum.inl i ∧ v = Value.int i t) ∨ (∃ x t, k = Sum.inr x ∧ v = Value.str x t)
  | .inl i, v, h => by
    obtain ⟨t, e⟩ := Value.isInt_shape (k := i) (v := v) h
    exact .inl ⟨i, t, rfl, e⟩
  | .inr x, v, h => by
    obtain ⟨t, e⟩ := Value.isStrOf_shape (x := x) (v := v) h
    exact .inr ⟨x, t, rfl, e⟩
theorem key_ll (a b : Int) : decide ((Sum.inl a : Key) = Sum.inl b) = (a == b) := by
  by_cases e : a = b
  · subst e; simp
  · have h : ¬ (Sum.inl a : Key) = Sum.inl b := fun q => e (Sum.inl.inj q)
    rw [decide_eq_false h]
    exact (beq_eq_false_iff_ne.mpr e).symm
theorem key_rr (a b : Str) : decide ((Sum.inr a : Key) = Sum.inr b) = decide (a = b) := by
  by_cases e : a = b
  · subst e; simp
  · have h : ¬ (Sum.inr a : Key) = Sum.inr b := fun q => e (Sum.inr.inj q)
    rw [decide_eq_false h, decide_eq_false e]
theorem key_lr (a : Int) (b : Str) : decide ((Sum.inl a : Key) = Sum.inr b) = false := decide_eq_false (fun q => nomatch q)
theorem key_rl (a : Str) (b : Int) : decide ((Sum.inr a : Key) = Sum.inl b) = false := decide_eq_false (fun q => nomatch q)

def mixKind (prog : Program) (w : World) : PySem.KeyKind prog w Key where
  is := keyIs
  hash := keyH w
  inj := fun v a b ha hb => by
    rcases keyIs_shape ha with ⟨i, t, rfl, rfl⟩ | ⟨x, t, rfl, rfl⟩
    · rcases keyIs_shape hb with ⟨j, u, rfl, e⟩ | ⟨y, u, rfl, e⟩
      · injection e with e1 _; rw [e1]
      · exact nomatch e
    · rcases keyIs_shape hb with ⟨j, u, rfl, e⟩ | ⟨y, u, rfl, e⟩
      · exact nomatch e
      · injection e with e1 _; rw [e1]
  byValue := fun k v h => by
    rcases keyIs_shape h with ⟨i, t, rfl, rfl⟩ | ⟨x, t, rfl, rfl⟩ <;> rfl
  pyHash := fun hv h => by
    rcases keyIs_shape hv with ⟨i, t, rfl, rfl⟩ | ⟨x, t, rfl, rfl⟩
    · exact wpAny_pyHash_int h
    · exact wpAny_pyHash_str h
  eqBool := fun hu hv h => by
    rcases keyIs_shape hu with ⟨i, t, rfl, rfl⟩ | ⟨x, t, rfl, rfl⟩
    · rcases keyIs_shape hv with ⟨j, u, rfl, rfl⟩ | ⟨y, u, rfl, rfl⟩
      · rw [key_ll] at h; exact wpAny_eqBool_int h
      · rw [key_lr] at h; exact SeqAt.EqAt.int_str i t y u _ _ _ _ h
    · rcases keyIs_shape hv with ⟨j, u, rfl, rfl⟩ | ⟨y, u, rfl, rfl⟩
      · rw [key_rl] at h; exact SeqAt.EqAt.str_int x t j u _ _ _ _ h
      · rw [key_rr] at h; exact wpAny_eqBool_str h
  «strs» := fun k x t v h => by
    rcases keyIs_shape h with ⟨i, u, rfl, e⟩ | ⟨y, u, rfl, e⟩
    · exact nomatch e
    · injection e with e1 _
      subst e1
      cases v <;> rfl

end L2

namespace L2
open PySem PySem.Spec PyProof.Rows

/-- a value, without the heap -/
inductive V where
  | non | bl (b : Bool) | int (i : Int) | str (x : Str) | byt (b : Array UInt8) | flt (b : UInt64) | ref (a : Addr) | ty (n : String)
  deriving DecidableEq

def RelV : V → Value → Prop
  | .non, u => u = Value.none
  | .bl b, u => u = Value.bool b
  | .int i, u => ∃ t, u = Value.int i t
  | .str x, u => ∃ t, u = Value.str x t
  | .byt b, u => ∃ t, u = Value.bytes b t
  | .flt b, u => ∃ t, u = Value.float b t
  | .ref a, u => u = Value.ref a
  | .ty n, u => u = Value.type n

abbrev Vals : List V → List Value → Prop := Paired RelV
theorem Vals.length {xs : List V} {us : List Value} (r : Vals xs us) : xs.length = us.length := Paired.length r
theorem Vals.get : ∀ {xs : List V} {us : List Value} {i : Nat} {x : V}, Vals xs us → xs[i]? = some x → ∃ u, us[i]? = some u ∧ RelV x u
  | _, _, _, _, .nil, e => by simp at e
  | _, _, 0, _, .cons r _, e => by simp at e; subst e; exact ⟨_, rfl, r⟩
  | _, _, i + 1, x, .cons _ t, e => by
    obtain ⟨u, h1, h2⟩ := Vals.get (i := i) (x := x) t (by simpa using e)
    exact ⟨u, by simpa using h1, h2⟩
theorem Vals.set {x : V} {u : Value} (r : RelV x u) : ∀ {xs : List V} {us : List Value} (i : Nat), Vals xs us → Vals (xs.set i x) (us.set i u)
  | _, _, _, .nil => .nil
  | _, _, 0, .cons _ t => .cons r t
  | _, _, i + 1, .cons q t => .cons q (Vals.set r i t)
theorem Vals.append : ∀ {xs ys : List V} {us ws : List Value}, Vals xs us → Vals ys ws → Vals (xs ++ ys) (us ++ ws)
  | _, _, _, _, .nil, s => s
  | _, _, _, _, .cons r t, s => .cons r (Vals.append t s)
theorem Vals.take : ∀ {xs : List V} {us : List Value} (n : Nat), Vals xs us → Vals (xs.take n) (us.take n)
  | _, _, 0, _ => .nil
  | _, _, _ + 1, .nil => .nil
  | _, _, n + 1, .cons r t => .cons r (Vals.take n t)
theorem Vals.drop : ∀ {xs : List V} {us : List Value} (n : Nat), Vals xs us → Vals (xs.drop n) (us.drop n)
  | _, _, 0, r => r
  | _, _, _ + 1, .nil => .nil
  | _, _, n + 1, .cons _ t => Vals.drop n t
theorem Vals.none_of : ∀ {xs : List V} {us : List Value} {i : Nat}, Vals xs us → xs[i]? = none → us[i]? = none := fun {xs us i} r e => by
  have h1 := r.length
  have h2 : xs.length ≤ i := List.getElem?_eq_none_iff.mp e
  exact List.getElem?_eq_none_iff.mpr (by omega)

def RelO : Option V → Option Value → Prop
  | some v, some u => RelV v u
  | none, none => True
  | _, _ => False
def KV {κ : Type} : List (κ × V) → List (κ × Value) → Prop := Paired fun (p : κ × V) (q : κ × Value) => p.1 = q.1 ∧ RelV p.2 q.2

/-- a key of a dict (00_mix): an int or a text -/
def kV : Key → V
  | .inl i => .int i
  | .inr x => .str x

/-- what stands at a tracked address -/
inductive HO where
  /-- a list -/
  | lst (xs : List V)
  /-- a tuple (never changes) -/
  | tup (xs : List V)
  /-- a dict whose keys are ints and texts; one whose keys are tuples of ints and texts (the empty one is both) -/
  | dK (kvs : List (Key × V)) | dT (kvs : List (List Key × V))
  /-- a set of ints: its members, its size -/
  | set (S : Int → Bool) (n : Nat)
  /-- an instance of the class at C, its dict at dx, its attributes -/
  | ins (C dx : Addr) (fs : List (Str × V))
  /-- the dict of the instance at x -/
  | own (x : Addr)
  /-- the dict of an exception -/
  | xd (fs : List (Str × V))
  /-- a bound method, f of x -/
  | met (f x : Addr)
  /-- a range object lo, lo + 1, .. below hi -/
  | rng (lo hi : Int)
  /-- a thing that is known to the object (the script; a dict while a loop walks it): read, never written while it is so -/
  | frz (o : Obj) (u : HO)
  /-- a code object's table -/
  | tbl (ps : Array Value)
  /-- any other thing, by what is true of its one object (a def of one's own: SetO a S n := HO.ext fun h => ..) -/
  | ext (φ : Heap → Prop)

abbrev Hp := Addr → Option HO
def upd (H : Hp) (a : Addr) (o : HO) : Hp := fun b => if b = a then some o else H b
theorem upd_same {H : Hp} {a : Addr} {o : HO} : upd H a o a = some o := by unfold upd; rw [if_pos rfl]
theorem upd_ne {H : Hp} {a b : Addr} {o : HO} (h : b ≠ a) : upd H a o b = H b := by unfold upd; rw [if_neg h]
theorem upd_upd {H : Hp} {a : Addr} {o u : HO} : upd (upd H a o) a u = upd H a u := by
  funext b; unfold upd; split <;> rfl
theorem ne_of_none {H : Hp} {a b : Addr} {o : HO} (h : H a = some o) (h' : H b = none) : a ≠ b := by
  intro e; subst e; rw [h] at h'; cases h'

section
variable (P : Program) (w : World)
def ObjOk (H : Hp) (h : Heap) (a : Addr) : HO → Prop
  | .lst xs => xs.length ≤ sizeLine ∧ ∃ (its : List Value) (n : Nat), Vals xs its ∧ h.get? a = some { cls := .type "list", data := .seq its.toArray n }
  | .tup xs => xs.length ≤ sizeLine ∧ ∃ its : List Value, Vals xs its ∧ IsTup h a its.toArray
  | .dK kvs => kvs.length ≤ sizeLine ∧ (a == sysModules) = false ∧ ∃ vs, KV kvs vs ∧ h.DictOf (mixKind P w) a vs
  | .dT kvs => kvs.length ≤ sizeLine ∧ (a == sysModules) = false ∧ ∃ xs : List (List Key × Addr × Value),
      Paired (fun (p : List Key × V) (q : List Key × Addr × Value) => p.1 = q.1 ∧ H q.2.1 = some (.tup (p.1.map kV)) ∧ RelV p.2 q.2.2) kvs xs ∧
      ∃ o es ep, h.get? a = some o ∧ o.ExactDict ∧ o.data = .dict es ep ∧ es.toList = xs.map (entryOfKey (tupleKind (mixKind P w))) ∧ (xs.map (·.1)).Nodup
  | .set S n => h.SetOf (intKind P w) a S n
  | .ins C dx fs => H dx = some (.own a) ∧ fs.length ≤ 1000 ∧ dx ≠ a ∧ h.get? a = some (PySem.W.instObj C dx) ∧
      ∃ mA, h.Ns1 dx mA ∧ (∀ f, RelO (fs.lookup f) (mA f)) ∧ PySem.Within mA (fs.map (·.1))
  | .own _ => ∃ o, h.get? a = some o
  | .xd fs => ∃ mA, h.Ns1 a mA ∧ ∀ f, RelO (fs.lookup f) (mA f)
  | .rng lo hi => ∃ t u v, h.get? a = some { cls := .type "range", data := .fields #[.int lo t, .int hi u, .int 1 v] }
  | .frz o u => h.get? a = some o ∧ ObjOk H h a u
  | .tbl ps => h.get? a = some { cls := .none, data := .fields ps }
  | .met f x => h.get? a = some (PySem.W.methodObj (.ref f) (.ref x))
  | .ext φ => φ h ∧ (∃ o, h.get? a = some o) ∧ ∀ h1 h2 : Heap, φ h1 → (∀ o, h1.get? a = some o → h2.get? a = some o) → φ h2
/-- the abstract heap is held -/
def HOk (H : Hp) (h : Heap) : Prop := ∀ a o, H a = some o → ObjOk P w H h a o
end

section
variable {P : Program} {w : World} {H H' : Hp} {h h' : Heap} {a : Addr} {o : HO}
theorem ObjOk.lt (x : ObjOk P w H h a o) : a < h.objs.size := by
  cases o with
  | lst xs => obtain ⟨_, _, _, _, e⟩ := x; exact Heap.lt_size e
  | tup xs => obtain ⟨_, _, _, p⟩ := x; exact p.lt
  | dK kvs => obtain ⟨_, _, _, _, o, _, _, e, _⟩ := x; exact Heap.lt_size e
  | dT kvs => obtain ⟨_, _, _, _, o, _, _, e, _⟩ := x; exact Heap.lt_size e
  | set S n => obtain ⟨o, _, _, _, e, _⟩ := x; exact Heap.lt_size e
  | ins C dx fs => obtain ⟨_, _, _, e, _⟩ := x; exact Heap.lt_size e
  | own y => obtain ⟨_, e⟩ := x; exact Heap.lt_size e
  | xd fs => obtain ⟨_, ⟨_, _, _, e, _⟩, _⟩ := x; exact Heap.lt_size e
  | rng lo hi => obtain ⟨_, _, _, e⟩ := x; exact Heap.lt_size e
  | frz ob u => obtain ⟨e, _⟩ := x; exact Heap.lt_size e
  | tbl ps => exact Heap.lt_size (show h.get? a = some _ from x)
  | met f y => exact Heap.lt_size (show h.get? a = some _ from x)
  | ext φ => obtain ⟨_, ⟨_, e⟩, _⟩ := x; exact Heap.lt_size e
theorem Paired.mapP {α β : Type} {F G : α → β → Prop} : ∀ {l₁ : List α} {l₂ : List β}, Paired F l₁ l₂ → (∀ a b, F a b → G a b) → Paired G l₁ l₂
  | _, _, .nil, _ => .nil
  | _, _, .cons r t, f => .cons (f _ _ r) (Paired.mapP t f)
/-- what an object's description leans on: its own object, its own dict, the tuples -/
theorem ObjOk.stay (x : ObjOk P w H h a o) (k : ∀ b u, (b = a ∨ H b = some (.own a)) → h.get? b = some u → h'.get? b = some u)
    (ho : ∀ b, H b = some (.own a) → H' b = some (.own a)) (ht : ∀ b xs, H b = some (.tup xs) → H' b = some (.tup xs)) : ObjOk P w H' h' a o := by
  induction o with
  | lst xs => obtain ⟨z, its, n, r, e⟩ := x; exact ⟨z, its, n, r, k _ _ (.inl rfl) e⟩
  | tup xs => obtain ⟨z, its, r, ob, e, c⟩ := x; exact ⟨z, its, r, ob, k _ _ (.inl rfl) e, c⟩
  | dK kvs => obtain ⟨z, y, vs, r, ob, es, ep, e, c⟩ := x; exact ⟨z, y, vs, r, ob, es, ep, k _ _ (.inl rfl) e, c⟩
  | dT kvs =>
    obtain ⟨z, y, xs, r, ob, es, ep, e, c⟩ := x
    exact ⟨z, y, xs, Paired.mapP r fun p q z => ⟨z.1, ht _ _ z.2.1, z.2.2⟩, ob, es, ep, k _ _ (.inl rfl) e, c⟩
  | set S n => obtain ⟨ob, es, ep, t, e, c⟩ := x; exact ⟨ob, es, ep, t, k _ _ (.inl rfl) e, c⟩
  | ins C dx fs =>
    obtain ⟨d, z, ne, e, mA, ⟨od, es, ep, e2, c⟩, r⟩ := x
    exact ⟨ho _ d, z, ne, k _ _ (.inl rfl) e, mA, ⟨od, es, ep, k _ _ (.inr d) e2, c⟩, r⟩
  | own y => obtain ⟨ob, e⟩ := x; exact ⟨ob, k _ _ (.inl rfl) e⟩
  | xd fs => obtain ⟨mA, ⟨od, es, ep, e, c⟩, r⟩ := x; exact ⟨mA, ⟨od, es, ep, k _ _ (.inl rfl) e, c⟩, r⟩
  | rng lo hi => obtain ⟨t, u, v, e⟩ := x; exact ⟨t, u, v, k _ _ (.inl rfl) e⟩
  | frz ob u ih => obtain ⟨e, q⟩ := x; exact ⟨k _ _ (.inl rfl) e, ih q⟩
  | tbl ps =>
    have e : h.get? a = some { cls := .none, data := .fields ps } := x
    show h'.get? a = some { cls := .none, data := .fields ps }
    exact k a _ (.inl rfl) e
  | met f y =>
    have e : h.get? a = some (PySem.W.methodObj (.ref f) (.ref y)) := x
    show h'.get? a = some (PySem.W.methodObj (.ref f) (.ref y))
    exact k a _ (.inl rfl) e
  | ext φ => obtain ⟨p, ⟨o, e⟩, st⟩ := x; exact ⟨st _ _ p fun o q => k _ _ (.inl rfl) q, ⟨o, k _ _ (.inl rfl) e⟩, st⟩
theorem HOk.lt (x : HOk P w H h) (e : H a = some o) : a < h.objs.size := (x a o e).lt
theorem HOk.fresh (x : HOk P w H h) (e : h.objs.size ≤ a) : H a = none := by
  cases q : H a with
  | none => rfl
  | some u => exact absurd (Nat.lt_of_lt_of_le (x.lt q) e) (Nat.lt_irrefl _)
/-- every object of the heap is kept -/
theorem HOk.kept (x : HOk P w H h) (k : ∀ b u, h.get? b = some u → h'.get? b = some u) : HOk P w H h' := fun a o e =>
  (x a o e).stay (fun b u _ q => k b u q) (fun _ q => q) fun _ _ q => q
/-- a new object is laid and tracked -/
theorem HOk.laid (x : HOk P w H h) (k : ∀ b u, h.get? b = some u → h'.get? b = some u) (hp : h.objs.size ≤ a) (new : ObjOk P w (upd H a o) h' a o) : HOk P w (upd H a o) h' := fun b u e => by
  have hn := x.fresh hp
  by_cases hb : b = a
  · subst hb; rw [upd_same] at e; cases e; exact new
  · rw [upd_ne hb] at e
    exact (x b u e).stay (fun c v _ q => k c v q) (fun c q => by rw [upd_ne (ne_of_none q hn)]; exact q) fun c xs q => by rw [upd_ne (ne_of_none q hn)]; exact q
end

/-- what may be read as u: it is u, or a known u -/
def Rd (H : Hp) (a : Addr) (u : HO) : Prop := H a = some u ∨ ∃ o, H a = some (.frz o u)
theorem Rd.of {H : Hp} {a : Addr} {u : HO} (h : H a = some u) : Rd H a u := .inl h
theorem Rd.ok {P : Program} {w : World} {H : Hp} {h : Heap} {a : Addr} {u : HO} (r : Rd H a u) (x : HOk P w H h) : ObjOk P w H h a u := by
  rcases r with r | ⟨o, r⟩
  · exact x a u r
  · obtain ⟨_, q⟩ := x a _ r
    exact q
/-- what may be written -/
def Mut : Option HO → Prop
  | some (.lst _) => True
  | some (.dK _) => True
  | some (.dT _) => True
  | some (.set _ _) => True
  | some (.ins _ _ _) => True
  | some (.ext _) => True
  | _ => False
section
variable {P : Program} {w : World} {H : Hp} {h h' : Heap} {x e : Addr} {o' : HO}
/-- the object at e is changed: x itself, or the dict of the instance x -/
theorem HOk.write (ok : HOk P w H h) (mu : Mut (H x)) (he : e = x ∨ H e = some (.own x)) (k : ∀ b u, b ≠ e → h.get? b = some u → h'.get? b = some u) (heo : ∃ u, h'.get? e = some u)
    (new : ObjOk P w (upd H x o') h' x o') : HOk P w (upd H x o') h' := fun b u q => by
  have nown : ∀ c y, H c = some (.own y) → c ≠ x := fun c y r z => by subst z; rw [r] at mu; exact mu
  have ntup : ∀ c xs, H c = some (.tup xs) → c ≠ x := fun c xs r z => by subst z; rw [r] at mu; exact mu
  by_cases hb : b = x
  · subst hb; rw [upd_same] at q; cases q; exact new
  · rw [upd_ne hb] at q
    by_cases hbe : b = e
    · have q' : H b = some (.own x) := by
        rcases he with z | z
        · exact absurd (hbe.trans z) hb
        · rw [hbe]; exact z
      rw [q] at q'; cases q'
      obtain ⟨v, hv⟩ := heo
      exact ⟨v, by rw [hbe]; exact hv⟩
    · refine (ok b u q).stay (fun c v hc r => k c v ?_ r) (fun c r => by rw [upd_ne (nown c b r)]; exact r) fun c xs r => by rw [upd_ne (ntup c xs r)]; exact r
      rcases hc with rfl | hc
      · exact hbe
      · rintro rfl
        rcases he with z | z
        · exact nown c b hc z
        · rw [hc] at z; cases z; exact hb rfl
end

/-! ### kept unless tracked; of the frames at fs (the callers') the slots may change (an exception that passes writes there); of the records at ex (iterators) nothing is said -/
structure Un (fs ex : List Addr) (H H' : Hp) (h h' : Heap) : Prop where
  keep : ∀ b o, h.get? b = some o → H b = none → b ∉ fs → b ∉ ex → h'.get? b = some o
  slot : ∀ b o, h.get? b = some o → H b = none → b ∈ fs → b ∉ ex → ∃ sl, h'.get? b = some { o with slots := sl }
  free : ∀ b o, h.get? b = some o → H b = none → b ∉ ex → H' b = none
  there : ∀ b o, h.get? b = some o → b ∉ ex → ∃ o', h'.get? b = some o'
  tups : ∀ b xs, H b = some (.tup xs) → H' b = some (.tup xs)
  frzs : ∀ b o u, H b = some (.frz o u) → H' b = some (.frz o u)
  tbls : ∀ b ps, H b = some (.tbl ps) → ∃ more, H' b = some (.tbl (ps ++ more))
section
variable {fs fs' ex ex' : List Addr} {H H1 H2 : Hp} {h h1 h2 h' : Heap} {a x e : Addr} {o : HO}
theorem Un.any (u : Un fs ex H H1 h h1) {b : Addr} {ob : Obj} (q : h.get? b = some ob) (n : H b = none) (hx : b ∉ ex) : ∃ sl, h1.get? b = some { ob with slots := sl } := by
  by_cases hb : b ∈ fs
  · exact u.slot b ob q n hb hx
  · exact ⟨ob.slots, u.keep b ob q n hb hx⟩
theorem Un.trans (a : Un fs ex H H1 h h1) (b : Un fs ex H1 H2 h1 h2) : Un fs ex H H2 h h2 where
  keep := fun c ob q n hc hx => b.keep c ob (a.keep c ob q n hc hx) (a.free c ob q n hx) hc hx
  slot := fun c ob q n hc hx => by
    obtain ⟨sl, e1⟩ := a.slot c ob q n hc hx
    obtain ⟨sl', e2⟩ := b.slot c _ e1 (a.free c ob q n hx) hc hx
    exact ⟨sl', e2⟩
  free := fun c ob q n hx => by
    obtain ⟨o', e1⟩ := a.there c ob q hx
    exact b.free c o' e1 (a.free c ob q n hx) hx
  there := fun c ob q hx => by
    obtain ⟨o', e1⟩ := a.there c ob q hx
    exact b.there c o' e1 hx
  tups := fun c xs q => b.tups c xs (a.tups c xs q)
  frzs := fun c ob xs q => b.frzs c ob xs (a.frzs c ob xs q)
  tbls := fun c ps q => by
    obtain ⟨m1, e1⟩ := a.tbls c ps q
    obtain ⟨m2, e2⟩ := b.tbls c _ e1
    exact ⟨m1 ++ m2, by rw [e2, Array.append_assoc]⟩
theorem Un.kept (k : ∀ b u, h.get? b = some u → h'.get? b = some u) : Un fs ex H H h h' :=
  ⟨fun b ob q _ _ _ => k b ob q, fun b ob q _ _ _ => ⟨ob.slots, k b ob q⟩, fun _ _ _ n _ => n, fun b ob q _ => ⟨ob, k b ob q⟩, fun _ _ q => q, fun _ _ _ q => q, fun _ ps q => ⟨#[], by rw [q]; simp⟩⟩
theorem Un.refl : Un fs ex H H h h := Un.kept fun _ _ q => q
theorem Un.laid (k : ∀ b u, h.get? b = some u → h'.get? b = some u) (hp : h.objs.size ≤ a) (hn : H a = none) : Un fs ex H (upd H a o) h h' where
  keep := fun b u q _ _ _ => k b u q
  slot := fun b u q _ _ _ => ⟨u.slots, k b u q⟩
  free := fun b u q n _ => by rw [upd_ne (Nat.ne_of_lt (Nat.lt_of_lt_of_le (Heap.lt_size q) hp))]; exact n
  there := fun b u q _ => ⟨u, k b u q⟩
  tups := fun b xs q => by rw [upd_ne (ne_of_none q hn)]; exact q
  frzs := fun b u xs q => by rw [upd_ne (ne_of_none q hn)]; exact q
  tbls := fun b ps q => ⟨#[], by rw [upd_ne (ne_of_none q hn), q]; simp⟩
theorem Un.write (mu : Mut (H x)) (he : e = x ∨ H e = some (.own x)) (k : ∀ b u, b ≠ e → h.get? b = some u → h'.get? b = some u) (heo : ∃ u, h'.get? e = some u) : Un fs ex H (upd H x o) h h' := by
  have hx : ∀ b, H b = none → b ≠ x := fun b n z => by subst z; rw [n] at mu; exact mu
  have hb : ∀ b, H b = none → b ≠ e := fun b n z => by
    subst z
    rcases he with r | r
    · exact hx b n r
    · rw [n] at r; cases r
  have hm : ∀ b u, H b = some u → ¬ Mut (some u) → b ≠ x := fun b u q nm z => by subst z; rw [q] at mu; exact nm mu
  refine ⟨fun b u q n _ _ => k b u (hb b n) q, fun b u q n _ _ => ⟨u.slots, k b u (hb b n) q⟩, fun b u q n _ => by rw [upd_ne (hx b n)]; exact n, fun b u q _ => ?_,
    fun b xs q => by rw [upd_ne (hm b _ q fun z => z)]; exact q, fun b u xs q => by rw [upd_ne (hm b _ q fun z => z)]; exact q, fun b ps q => ⟨#[], by rw [upd_ne (hm b _ q fun z => z), q]; simp⟩⟩
  by_cases hbe : b = e
  · subst hbe; exact heo
  · exact ⟨u, k b u hbe q⟩
theorem Un.mono (u : Un fs ex H H1 h h1) (hs : ∀ b ∈ fs, b ∈ fs') (hx : ∀ b ∈ ex, b ∈ ex') : Un fs' ex' H H1 h h1 :=
  ⟨fun b ob q n hb he => u.keep b ob q n (fun z => hb (hs b z)) fun z => he (hx b z), fun _ _ q n _ he => u.any q n fun z => he (hx _ z), fun b ob q n he => u.free b ob q n fun z => he (hx b z), fun b ob q he => u.there b ob q fun z => he (hx b z), u.tups, u.frzs, u.tbls⟩
end

/-! ### the heap without what is tracked -/
def trk (h : Heap) (H : Hp) : List Addr := (List.range h.objs.size).filter fun a => (H a).isSome
def hidT (h : Heap) (H : Hp) : Heap := PySem.W.hideAll h (trk h H)
theorem hidT_size (h : Heap) (H : Hp) : (hidT h H).objs.size = h.objs.size := PySem.W.hideAll_size _ _
theorem hidT_get {h : Heap} {H : Hp} {b : Addr} {o : Obj} (e : h.get? b = some o) (n : H b = none) : (hidT h H).get? b = some o :=
  PySem.W.hideAll_get _ e fun hm => by
    have q : (H b).isSome = true := (List.mem_filter.mp hm).2
    rw [n] at q; simp at q
theorem of_hidT {h : Heap} {H : Hp} {b : Addr} {o : Obj} (e : (hidT h H).get? b = some o) : h.get? b = some o ∧ H b = none := by
  have e' : h.get? b = some o := PySem.W.of_hideAll (trk h H) e
  refine ⟨e', ?_⟩
  cases q : H b with
  | none => rfl
  | some x =>
    have hm : b ∈ trk h H := List.mem_filter.mpr ⟨List.mem_range.mpr (Heap.lt_size e'), by simp [q]⟩
    have z : (hidT h H).get? b = none := PySem.W.hideAll_none (trk h H) hm
    rw [z] at e; cases e

/-! ### OpenK's ledger, filled with every new object but one -/
def allNews (g h : Heap) (L : Addr) : List (Addr × Obj) := (List.range h.objs.size).filterMap fun a => if a = L ∨ (g.get? a).isSome = true then none else (h.get? a).map fun o => (a, o)
def rest (g h : Heap) (L d : Addr) : List (Addr × Obj) := (allNews g h L).filter fun p => decide (p.1 ≠ d)
end L2

namespace L2
open PySem PySem.Spec PyProof.Rows

/-- the module's facts, over the base: the heap at the law's entry without what is tracked there -/
structure Mod (K : PySem.W.Frag) (mg : Str → Option Value) (base : Heap) : Prop where
  kin : K.In base
  glob : base.Ns mainGlobals mg
  blt : ∃ mb, base.Ns builtinsNs mb ∧ ∀ x : Str, x ≠ "__name__" → mb x = bootBuiltins x
  nolimit : base.NoLimit

/-- the context: a def's body (or a comprehension's block) running. base: fixed through the whole law; s₀, H₀: the entry; outer: the frames whose slots others may change (a def's callers); stack: all frames that run;
   ex: iterators that were made ahead of the entry and are walked here (a comprehension's); fn: the names whose cells were made at the entry (a def: all; a comprehension's block: its own); calm: not within an except suite; pn: pins that every state bears; xe: what is wanted of an exception that leaves the code -/
structure Cx where
  prog : Program
  w : World
  K : PySem.W.Frag
  mg : Str → Option Value
  base : Heap
  A : Around
  N : List Str
  s₀ : Shared
  H₀ : Hp
  env : Env
  outer : List Env
  stack : List Env
  ex : List Addr
  fn : Str → Bool
  calm : Bool
  pn : List (Addr × Obj)
  xe : Value → Shared → Prop
/-- the callers' frames -/
def frs (l : List Env) : List Addr := l.filterMap (·.frame)
abbrev Cx.fs (X : Cx) : List Addr := frs X.outer

def Vis (sc : Scope) (x : Str) : Prop := sc.names.lookup x = some .local ∨ sc.names.lookup x = some .cell ∨ sc.names.lookup x = some .free
def Loc (sc : Scope) (x : Str) : Prop := sc.names.lookup x = some .local ∨ sc.names.lookup x = some .cell
def Look (env : Env) (h : Heap) (m : Str → Option Value) (x : Str) (u : Value) : Prop :=
  (env.kindOf x = some .local ∧ m x = some u) ∨ ((env.kindOf x = some .cell ∨ env.kindOf x = some .free) ∧ ∃ c, env.cells.lookup x = some c ∧ h.IsCell c (some u))

structure Cx.Ok (X : Cx) : Prop where
  mod : Mod X.K X.mg X.base
  kind : X.env.scope.kind = .function
  glob : X.env.globals = mainGlobals
  blt : X.env.builtins = builtinsNs
  above : X.s₀.heap.objs.size ≤ X.env.locals
  inj : ∀ x y c, X.env.cells.lookup x = some c → X.env.cells.lookup y = some c → x = y
  has : ∀ x, (X.env.kindOf x = some .cell ∨ X.env.kindOf x = some .free) → ∃ c, X.env.cells.lookup x = some c
  cab : ∀ x c, X.fn x = true → X.env.cells.lookup x = some c → X.s₀.heap.objs.size ≤ c
  hd : X.calm = true → X.A.handled = none
  frames : X.A.frames = some X.stack
  stk : X.stack = X.outer ∨ (X.stack = X.env :: X.outer ∧ X.env.frame = some X.env.locals)
  exf : ∀ b ∈ X.ex, b ≠ X.env.locals ∧ ∀ x c, X.env.cells.lookup x = some c → c ≠ b
  bs : ∀ b o, X.base.get? b = some o → X.s₀.heap.get? b = some o ∧ X.H₀ b = none
  bsz : X.base.objs.size ≤ X.s₀.heap.objs.size
  noex : ∀ b o, X.base.get? b = some o → b ∉ X.ex
  exfs : ∀ b ∈ X.ex, b ∉ X.fs
  funs : X.s₀.heap.FunFrames X.base X.outer
  frf : ∀ b ∈ X.fs, X.H₀ b = none

structure Inv (X : Cx) (pins : List (Addr × Obj)) (σ : List (Option V)) (H : Hp) (s : Shared) : Prop where
  ok : X.Ok
  os : s.os = X.s₀.os
  bare : AllBare s.gens
  base : Un X.fs X.ex X.H₀ H X.s₀.heap s.heap
  loc : ∃ m, s.heap.Ns X.env.locals m ∧ ∀ (i : Nat) (x : Str) (v : V), X.N[i]? = some x → σ[i]? = some (some v) → Vis X.env.scope x → ∃ u, RelV v u ∧ Look X.env s.heap m x u
  cell : ∀ x c, X.env.cells.lookup x = some c → ∃ v, s.heap.IsCell c v
  free : H X.env.locals = none
  freeC : ∀ x c, X.env.cells.lookup x = some c → H c = none
  pin : ∀ p ∈ X.pn ++ pins, s.heap.get? p.1 = some p.2 ∧ H p.1 = none ∧ p.1 ≠ X.env.locals ∧ p.1 ∉ X.fs ∧ ∀ v, p.2.data ≠ .cell v
  hok : HOk X.prog X.w H s.heap
  len : σ.length = X.N.length

section
variable {X : Cx} {pins : List (Addr × Obj)} {σ : List (Option V)} {H H' : Hp} {s : Shared} {h' : Heap}

theorem Cx.Ok.nofr (ok : X.Ok) {b : Addr} {o : Obj} (e : X.base.get? b = some o) : b ∉ X.fs := fun hb => by
  have := (ok.funs.mem hb).1
  rw [e] at this; cases this
theorem Inv.bs (I : Inv X pins σ H s) : ∀ b o, X.base.get? b = some o → s.heap.get? b = some o ∧ H b = none := fun b o e =>
  ⟨I.base.keep b o (I.ok.bs b o e).1 (I.ok.bs b o e).2 (I.ok.nofr e) (I.ok.noex b o e), I.base.free b o (I.ok.bs b o e).1 (I.ok.bs b o e).2 (I.ok.noex b o e)⟩
theorem Inv.bk (I : Inv X pins σ H s) : ∀ b o, X.base.get? b = some o → s.heap.get? b = some o := fun b o e => (I.bs b o e).1
theorem Inv.mod (I : Inv X pins σ H s) : Mod X.K X.mg X.base := I.ok.mod
theorem Inv.kIn (I : Inv X pins σ H s) : X.K.In s.heap := I.ok.mod.kin.keeps I.bk
theorem Inv.nolimit (I : Inv X pins σ H s) : s.heap.NoLimit := I.ok.mod.nolimit.keeps I.bk
/-- the frame over the base: for OpenK's rules (K.In X.base is I.mod.kin) -/
theorem Inv.fr (I : Inv X pins σ H s) : ∃ m, Fr X.base X.env.locals s.heap m :=
  let ⟨m, hn, _⟩ := I.loc
  ⟨m, hn, I.bk, Nat.le_trans I.ok.bsz I.ok.above⟩
theorem Inv.lt (I : Inv X pins σ H s) : X.env.locals < s.heap.objs.size := let ⟨_, hn, _⟩ := I.loc; hn.lt
theorem Inv.sz (I : Inv X pins σ H s) : X.s₀.heap.objs.size ≤ s.heap.objs.size := Nat.le_trans I.ok.above (Nat.le_of_lt I.lt)
theorem Inv.nofs (I : Inv X pins σ H s) {a : Addr} (h : s.heap.objs.size ≤ a) : a ∉ X.fs := fun hb => by
  obtain ⟨_, o, ho, _⟩ := I.ok.funs.mem hb
  exact absurd (Nat.lt_of_lt_of_le (Heap.lt_size ho) (Nat.le_trans I.sz h)) (Nat.lt_irrefl _)
theorem Inv.cne (I : Inv X pins σ H s) : ∀ x c, X.env.cells.lookup x = some c → c ≠ X.env.locals := fun x c e z => by
  obtain ⟨v, o, ho, hd⟩ := I.cell x c e
  obtain ⟨m, ⟨o', es, ep, ho', hd', _⟩, _⟩ := I.loc
  rw [z, ho'] at ho; cases ho; rw [hd'] at hd; cases hd
theorem Inv.funs (I : Inv X pins σ H s) : s.heap.FunFrames X.base X.outer := by
  have all : ∀ (l : List Env), (∀ b ∈ frs l, b ∈ X.fs) → X.s₀.heap.FunFrames X.base l → s.heap.FunFrames X.base l := by
    intro l
    induction l with
    | nil => intro _ _; trivial
    | cons env r ih =>
      intro hs hl
      obtain ⟨hk, ⟨L, o, hf, hn, ho, hd⟩, hr⟩ := hl
      have hL : L ∈ X.fs := hs L (by unfold frs; rw [List.filterMap_cons, hf]; exact List.mem_cons_self)
      obtain ⟨sl, e⟩ := I.base.slot L o ho (I.ok.frf L hL) hL fun z => I.ok.exfs L z hL
      exact ⟨hk, ⟨L, _, hf, hn, e, hd⟩, ih (fun b hb => hs b (by unfold frs; rw [List.filterMap_cons, hf]; exact List.mem_cons_of_mem _ hb)) hr⟩
  exact all X.outer (fun _ hb => hb) I.ok.funs

/-- the frames that run, for a call -/
theorem Inv.stack (I : Inv X pins σ H s) : s.heap.FunFrames X.base X.stack := by
  rcases I.ok.stk with e | ⟨e, hf⟩
  · rw [e]; exact I.funs
  · rw [e]
    obtain ⟨m, hn, _⟩ := I.loc
    refine .cons (by rw [I.ok.kind]; decide) hf hn ?_ I.funs
    exact Heap.get?_none_of_le (Nat.le_trans I.ok.bsz I.ok.above)
theorem Inv.stkSub (I : Inv X pins σ H s) : ∀ b ∈ frs X.stack, b ∈ X.env.locals :: X.fs := fun b hb => by
  rcases I.ok.stk with e | ⟨e, hf⟩
  · rw [e] at hb; exact List.mem_cons_of_mem _ hb
  · rw [e] at hb
    unfold frs at hb
    rw [List.filterMap_cons, hf] at hb
    exact hb
theorem Inv.stkFree (I : Inv X pins σ H s) : ∀ b ∈ frs X.stack, H b = none := fun b hb => by
  rcases List.mem_cons.mp (I.stkSub b hb) with e | hb
  · rw [e]; exact I.free
  · obtain ⟨_, o, ho, _⟩ := I.ok.funs.mem hb
    exact I.base.free b o ho (I.ok.frf b hb) fun z => I.ok.exfs b z hb

/-- THE STEP: the untracked objects but the frame and the records at ch are kept (the callers' frames up to slots), the frame's map is kept, the new abstract heap is held -/
theorem Inv.step {g' : Array GenState} {t' : Nat} {d' : Drawn} {ch : List Addr} (I : Inv X pins σ H s)
    (hch : ∀ b ∈ ch, (b ∈ X.ex ∨ X.s₀.heap.objs.size ≤ b) ∧ b ≠ X.env.locals ∧ (∀ x c, X.env.cells.lookup x = some c → c ≠ b) ∧ ∀ p ∈ X.pn ++ pins, p.1 ≠ b)
    (keep : ∀ b o, b ≠ X.env.locals → b ∉ X.fs → b ∉ ch → s.heap.get? b = some o → H b = none → h'.get? b = some o)
    (slot : ∀ b o, b ≠ X.env.locals → b ∈ X.fs → b ∉ ch → s.heap.get? b = some o → H b = none → ∃ sl, h'.get? b = some { o with slots := sl }) (free : ∀ b o, b ∉ ch → s.heap.get? b = some o → H b = none → H' b = none)
    (there : ∀ b o, b ∉ ch → s.heap.get? b = some o → ∃ o', h'.get? b = some o')
    (tups : ∀ b xs, H b = some (.tup xs) → H' b = some (.tup xs)) (frzs : ∀ b o u, H b = some (.frz o u) → H' b = some (.frz o u)) (tbls : ∀ b ps, H b = some (.tbl ps) → ∃ more, H' b = some (.tbl (ps ++ more)))
    (ns : ∀ m, s.heap.Ns X.env.locals m → h'.Ns X.env.locals m) (hok : HOk X.prog X.w H' h') (hg : AllBare g') :
    Inv X pins σ H' { s with heap := h', gens := g', drawn := d', toks := t' } := by
  have neL : ∀ b o, X.s₀.heap.get? b = some o → b ≠ X.env.locals := fun b o e => Nat.ne_of_lt (Nat.lt_of_lt_of_le (Heap.lt_size e) I.ok.above)
  have neC : ∀ b o, X.s₀.heap.get? b = some o → b ∉ X.ex → b ∉ ch := fun b o e hx hb => by
    rcases (hch b hb).1 with z | z
    · exact hx z
    · exact absurd (Nat.lt_of_lt_of_le (Heap.lt_size e) z) (Nat.lt_irrefl _)
  have cellK : ∀ x c, X.env.cells.lookup x = some c → ∀ v, s.heap.IsCell c v → h'.IsCell c v := fun x c e v ⟨o, ho, hd⟩ => by
    have nch : c ∉ ch := fun z => (hch c z).2.2.1 x c e rfl
    by_cases hc : c ∈ X.fs
    · obtain ⟨sl, q⟩ := slot c o (I.cne x c e) hc nch ho (I.freeC x c e)
      exact ⟨_, q, hd⟩
    · exact ⟨o, keep c o (I.cne x c e) hc nch ho (I.freeC x c e), hd⟩
  refine ⟨I.ok, I.os, hg, ⟨fun b o e n hb hx => ?_, fun b o e n hb hx => ?_, fun b o e n hx => ?_, fun b o e hx => ?_, fun b xs e => tups b xs (I.base.tups b xs e), fun b o xs e => frzs b o xs (I.base.frzs b o xs e), fun b ps e => ?_⟩, ?_, fun x c e => ?_, ?_, fun x c e => ?_, fun p hp => ?_, hok, I.len⟩
  · exact keep b o (neL b o e) hb (neC b o e hx) (I.base.keep b o e n hb hx) (I.base.free b o e n hx)
  · obtain ⟨sl, e1⟩ := I.base.slot b o e n hb hx
    obtain ⟨sl', e2⟩ := slot b _ (neL b o e) hb (neC b o e hx) e1 (I.base.free b o e n hx)
    exact ⟨sl', e2⟩
  · obtain ⟨o', e1⟩ := I.base.there b o e hx
    exact free b o' (neC b o e hx) e1 (I.base.free b o e n hx)
  · obtain ⟨o', e1⟩ := I.base.there b o e hx
    exact there b o' (neC b o e hx) e1
  · obtain ⟨m1, e1⟩ := I.base.tbls b ps e
    obtain ⟨m2, e2⟩ := tbls b _ e1
    exact ⟨m1 ++ m2, by rw [e2, Array.append_assoc]⟩
  · obtain ⟨m, hn, hl⟩ := I.loc
    refine ⟨m, ns m hn, fun i x v e1 e2 e3 => ?_⟩
    obtain ⟨u, r, l⟩ := hl i x v e1 e2 e3
    refine ⟨u, r, ?_⟩
    rcases l with l | ⟨k, c, e, z⟩
    · exact .inl l
    · exact .inr ⟨k, c, e, cellK x c e _ z⟩
  · obtain ⟨v, z⟩ := I.cell x c e
    exact ⟨v, cellK x c e v z⟩
  · obtain ⟨m, ⟨o, _, _, ho, _⟩, _⟩ := I.loc
    exact free _ o (fun z => (hch _ z).2.1 rfl) ho I.free
  · obtain ⟨v, o, ho, hd⟩ := I.cell x c e
    exact free c o (fun z => (hch c z).2.2.1 x c e rfl) ho (I.freeC x c e)
  · obtain ⟨e, n, ne, nf, d⟩ := I.pin p hp
    have nch : p.1 ∉ ch := fun z => (hch p.1 z).2.2.2 p hp rfl
    exact ⟨keep p.1 p.2 ne nf nch e n, free p.1 p.2 nch e n, ne, nf, d⟩
/-- .. where the frame's own object is kept too -/
theorem Inv.un {t' : Nat} (I : Inv X pins σ H s) (u : Un X.fs [] H H' s.heap h') (hok : HOk X.prog X.w H' h') : Inv X pins σ H' { s with heap := h', toks := t' } := by
  obtain ⟨m, ⟨o, es, ep, ho, r⟩, _⟩ := id I.loc
  obtain ⟨sl, hL⟩ := u.any ho I.free (by simp)
  exact I.step (g' := s.gens) (d' := s.drawn) (ch := []) (fun _ z => nomatch z) (fun b o _ hb _ e n => u.keep b o e n hb (by simp)) (fun b o _ hb _ e n => u.slot b o e n hb (by simp)) (fun b o _ e n => u.free b o e n (by simp)) (fun b o _ e => u.there b o e (by simp)) u.tups u.frzs u.tbls (fun m' hm => by
    obtain ⟨o', es', ep', ho', r'⟩ := hm
    rw [ho] at ho'; cases ho'
    exact ⟨_, es', ep', hL, r'⟩) hok I.bare
/-- behind a call (or a comprehension's block): the slots of this frame may have changed too, the records at ch may have turned -/
theorem Inv.call {g' : Array GenState} {t' : Nat} {d' : Drawn} {ch : List Addr} (I : Inv X pins σ H s) (u : Un (frs X.stack) ch H H' s.heap h') (hok : HOk X.prog X.w H' h') (hg : AllBare g')
    (hch : ∀ b ∈ ch, (b ∈ X.ex ∨ X.s₀.heap.objs.size ≤ b) ∧ b ≠ X.env.locals ∧ (∀ x c, X.env.cells.lookup x = some c → c ≠ b) ∧ ∀ p ∈ X.pn ++ pins, p.1 ≠ b) :
    Inv X pins σ H' { s with heap := h', gens := g', drawn := d', toks := t' } := by
  obtain ⟨m, ⟨o, es, ep, ho, r⟩, _⟩ := id I.loc
  obtain ⟨sl, hL⟩ := u.any ho I.free fun z => (hch _ z).2.1 rfl
  exact I.step (ch := ch) hch (fun b o hL hb hc e n => u.keep b o e n (fun z => (List.mem_cons.mp (I.stkSub b z)).elim hL hb) hc) (fun b o _ _ hc e n => u.any e n hc) (fun b o hc e n => u.free b o e n hc) (fun b o hc e => u.there b o e hc) u.tups u.frzs u.tbls (fun m' hm => by
    obtain ⟨o', es', ep', ho', r'⟩ := hm
    rw [ho] at ho'; cases ho'
    exact ⟨_, es', ep', hL, r'⟩) hok hg
/-- an untracked record of ours (an iterator) has turned -/
theorem Inv.turned {t' : Nat} {it : Addr} (I : Inv X pins σ H s) (k : ∀ b o, b ≠ it → s.heap.get? b = some o → h'.get? b = some o) (hn : H it = none) (hL : it ≠ X.env.locals)
    (h1 : it ∈ X.ex ∨ X.s₀.heap.objs.size ≤ it) (h2 : ∀ x c, X.env.cells.lookup x = some c → c ≠ it) (h3 : ∀ p ∈ X.pn ++ pins, p.1 ≠ it) : Inv X pins σ H { s with heap := h', toks := t' } := by
  have nit : ∀ b u, H b = some u → b ≠ it := fun b u e z => by rw [z, hn] at e; cases e
  refine I.step (g' := s.gens) (d' := s.drawn) (ch := [it]) (fun b hb => ?_) (fun b o _ _ hc e _ => k b o (fun z => hc (by simp [z])) e) (fun b o _ _ hc e _ => ⟨o.slots, k b o (fun z => hc (by simp [z])) e⟩) (fun _ _ _ _ n => n)
    (fun b o hc e => ⟨o, k b o (fun z => hc (by simp [z])) e⟩) (fun _ _ e => e) (fun _ _ _ e => e) (fun b ps e => ⟨#[], by rw [e]; simp⟩) (fun m hm => ?_) (fun b u e => ?_) I.bare
  · have e : b = it := by simpa using hb
    subst e
    exact ⟨h1, hL, h2, h3⟩
  · obtain ⟨o, es, ep, ho, r⟩ := hm
    exact ⟨o, es, ep, k _ o (Ne.symm hL) ho, r⟩
  · refine (I.hok b u e).stay (fun c v hc q => k c v ?_ q) (fun _ q => q) fun _ _ q => q
    rcases hc with z | z
    · rw [z]; exact nit b u e
    · exact nit c _ z
theorem Inv.tok (I : Inv X pins σ H s) (t : Nat) : Inv X pins σ H { s with toks := t } := I.un (h' := s.heap) (t' := t) Un.refl I.hok
/-- all objects kept -/
theorem Inv.kept {t' : Nat} (I : Inv X pins σ H s) (k : ∀ b u, s.heap.get? b = some u → h'.get? b = some u) : Inv X pins σ H { s with heap := h', toks := t' } := I.un (Un.kept k) (I.hok.kept k)
/-- a new object laid and tracked -/
theorem Inv.laid {a : Addr} {o : HO} {t' : Nat} (I : Inv X pins σ H s) (k : ∀ b u, s.heap.get? b = some u → h'.get? b = some u) (hp : s.heap.objs.size ≤ a) (new : ObjOk X.prog X.w (upd H a o) h' a o) :
    Inv X pins σ (upd H a o) { s with heap := h', toks := t' } := I.un (Un.laid k hp (I.hok.fresh hp)) (I.hok.laid k hp new)
/-- an object written -/
theorem Inv.write {x e : Addr} {o : HO} {t' : Nat} (I : Inv X pins σ H s) (mu : Mut (H x)) (he : e = x ∨ H e = some (.own x)) (k : ∀ b u, b ≠ e → s.heap.get? b = some u → h'.get? b = some u) (heo : ∃ u, h'.get? e = some u)
    (new : ObjOk X.prog X.w (upd H x o) h' x o) : Inv X pins σ (upd H x o) { s with heap := h', toks := t' } := I.un (Un.write mu he k heo) (I.hok.write mu he k heo new)
theorem Inv.pins_of {pins' : List (Addr × Obj)} (I : Inv X pins σ H s) (h : ∀ p ∈ pins', s.heap.get? p.1 = some p.2 ∧ H p.1 = none ∧ p.1 ≠ X.env.locals ∧ p.1 ∉ X.fs ∧ ∀ v, p.2.data ≠ .cell v) : Inv X pins' σ H s :=
  ⟨I.ok, I.os, I.bare, I.base, I.loc, I.cell, I.free, I.freeC, fun p hp => (List.mem_append.mp hp).elim (fun z => I.pin p (List.mem_append_left _ z)) (h p), I.hok, I.len⟩

theorem nodup_ix {N : List Str} (hN : N.Nodup) {i j : Nat} {x : Str} (a : N[i]? = some x) (b : N[j]? = some x) : i = j := by
  obtain ⟨h1, e1⟩ := List.getElem?_eq_some_iff.mp a
  obtain ⟨h2, e2⟩ := List.getElem?_eq_some_iff.mp b
  exact (List.getElem_inj hN).mp (e1.trans e2.symm)

/-- a name is stored; what changed -/
theorem store_ok2 {M : Model} {A : Around} {E : Value → Shared → Prop} {i : Nat} {x : Str} {v : V} {u : Value} {Q : Unit → Shared → Prop} (I : Inv X pins σ H s) (hN : X.N.Nodup) (hi : X.N[i]? = some x) (hx : Loc X.env.scope x) (r : RelV v u)
    (h : ∀ s', Inv X pins (σ.set i (some v)) H s' → (∃ a, Heap.SameBut a s.heap s'.heap ∧ (a = X.env.locals ∨ X.env.cells.lookup x = some a)) → Q () s') (hf : X.fn x = true ∨ X.env.scope.names.lookup x = some .local := by first | exact .inl rfl | exact .inr rfl | assumption) : wpAny M A (storeName X.env x u) Q E s := by
  obtain ⟨m, hn, hl⟩ := id I.loc
  have hcls : (X.env.scope.kind == .class || (X.env.scope.kind == .module && X.env.locals != X.env.globals)) = false := by rw [I.ok.kind]; rfl
  have hiσ : i < σ.length := by rw [I.len]; exact (List.getElem?_eq_some_iff.mp hi).1
  have cne := I.cne
  have tracked : ∀ {a : Addr} {h' : Heap}, (∃ o, s.heap.get? a = some o ∧ H a = none) → Heap.SameBut a s.heap h' → HOk X.prog X.w H h' := fun {a h'} ha hs b ob e => by
    obtain ⟨_, _, hfree⟩ := ha
    refine (I.hok b ob e).stay (fun c w' hc q => (hs.2 c ?_).trans q) (fun _ q => q) fun _ _ q => q
    rintro rfl
    rcases hc with rfl | hc
    · rw [hfree] at e; cases e
    · rw [hfree] at hc; cases hc
  rcases hx with hk | hk
  · refine wpAny_storeName_local hk hn (fun h' hn' hs => ?_) hcls
    obtain ⟨oL, _, _, hoL, _⟩ := id hn
    refine h _ ⟨I.ok, I.os, I.bare, ⟨fun b o e n hb hx => ?_, fun b o e n hb hx => ?_, I.base.free, fun b o e hx => ?_, I.base.tups, I.base.frzs, I.base.tbls⟩, ⟨_, hn', fun j y v' e1 e2 e3 => ?_⟩, fun y c e => ?_, I.free, I.freeC, fun p hp => ?_, tracked ⟨oL, hoL, I.free⟩ hs, by simpa using I.len⟩ ⟨_, hs, .inl rfl⟩
    · exact (hs.2 b (Nat.ne_of_lt (Nat.lt_of_lt_of_le (Heap.lt_size e) I.ok.above))).trans (I.base.keep b o e n hb hx)
    · obtain ⟨sl, e1⟩ := I.base.slot b o e n hb hx
      exact ⟨sl, (hs.2 b (Nat.ne_of_lt (Nat.lt_of_lt_of_le (Heap.lt_size e) I.ok.above))).trans e1⟩
    · obtain ⟨o', e1⟩ := I.base.there b o e hx
      exact ⟨o', (hs.2 b (Nat.ne_of_lt (Nat.lt_of_lt_of_le (Heap.lt_size e) I.ok.above))).trans e1⟩
    · by_cases hj : j = i
      · subst hj
        rw [hi] at e1; cases e1
        rw [List.getElem?_set_self hiσ] at e2
        cases e2
        exact ⟨u, r, .inl ⟨hk, by simp⟩⟩
      · rw [List.getElem?_set_ne (Ne.symm hj)] at e2
        obtain ⟨u', r', q⟩ := hl j y v' e1 e2 e3
        refine ⟨u', r', ?_⟩
        rcases q with ⟨k, e⟩ | ⟨k, c, e, z⟩
        · refine .inl ⟨k, ?_⟩
          have : y ≠ x := fun e => hj (nodup_ix hN e1 (e ▸ hi))
          simp [this, e]
        · exact .inr ⟨k, c, e, z.sameBut hs (cne y c e)⟩
    · obtain ⟨w', z⟩ := I.cell y c e
      exact ⟨w', z.sameBut hs (cne y c e)⟩
    · obtain ⟨e, n, ne, nf, d⟩ := I.pin p hp
      exact ⟨(hs.2 p.1 ne).trans e, n, ne, nf, d⟩
  · have hfn : X.fn x = true := by
      rcases hf with z | z
      · exact z
      · rw [z] at hk; cases hk
    obtain ⟨c, hc⟩ := I.ok.has x (.inl hk)
    obtain ⟨w', z⟩ := I.cell x c hc
    refine wpAny_storeName_cell I.ok.kind hk hc z (fun h' hc' hs => ?_)
    obtain ⟨oc, hoc, hocd⟩ := id z
    refine h { s with heap := h' } ⟨I.ok, I.os, I.bare, ⟨fun b o e n hb hx => ?_, fun b o e n hb hx => ?_, I.base.free, fun b o e hx => ?_, I.base.tups, I.base.frzs, I.base.tbls⟩, ⟨m, hn.sameBut hs (Ne.symm (cne x c hc)), fun j y v' e1 e2 e3 => ?_⟩, fun y c' e => ?_, I.free, I.freeC, fun p hp => ?_, tracked ⟨oc, hoc, I.freeC x c hc⟩ hs, by simpa using I.len⟩ ⟨c, hs, .inr hc⟩
    · exact (hs.2 b (Nat.ne_of_lt (Nat.lt_of_lt_of_le (Heap.lt_size e) (I.ok.cab x c hfn hc)))).trans (I.base.keep b o e n hb hx)
    · obtain ⟨sl, e1⟩ := I.base.slot b o e n hb hx
      exact ⟨sl, (hs.2 b (Nat.ne_of_lt (Nat.lt_of_lt_of_le (Heap.lt_size e) (I.ok.cab x c hfn hc)))).trans e1⟩
    · obtain ⟨o', e1⟩ := I.base.there b o e hx
      exact ⟨o', (hs.2 b (Nat.ne_of_lt (Nat.lt_of_lt_of_le (Heap.lt_size e) (I.ok.cab x c hfn hc)))).trans e1⟩
    · by_cases hj : j = i
      · subst hj
        rw [hi] at e1; cases e1
        rw [List.getElem?_set_self hiσ] at e2
        cases e2
        exact ⟨u, r, .inr ⟨.inl hk, c, hc, hc'⟩⟩
      · rw [List.getElem?_set_ne (Ne.symm hj)] at e2
        obtain ⟨u', r', q⟩ := hl j y v' e1 e2 e3
        refine ⟨u', r', ?_⟩
        rcases q with q | ⟨k, c', e, z'⟩
        · exact .inl q
        · refine .inr ⟨k, c', e, z'.sameBut hs ?_⟩
          rintro rfl
          exact hj (nodup_ix hN e1 (I.ok.inj _ _ _ e hc ▸ hi))
    · by_cases hcc : c' = c
      · subst hcc; exact ⟨_, hc'⟩
      · obtain ⟨w2, z2⟩ := I.cell y c' e
        exact ⟨w2, z2.sameBut hs hcc⟩
    · obtain ⟨e, n, ne, nf, d⟩ := I.pin p hp
      refine ⟨(hs.2 p.1 ?_).trans e, n, ne, nf, d⟩
      intro q
      rw [q, hoc] at e
      have q' : oc = p.2 := Option.some.inj e
      exact d w' (by rw [← q']; exact hocd)
theorem store_ok {M : Model} {A : Around} {E : Value → Shared → Prop} {i : Nat} {x : Str} {v : V} {u : Value} {Q : Unit → Shared → Prop} (I : Inv X pins σ H s) (hN : X.N.Nodup) (hi : X.N[i]? = some x) (hx : Loc X.env.scope x) (r : RelV v u)
    (h : ∀ s', Inv X pins (σ.set i (some v)) H s' → Q () s') (hf : X.fn x = true ∨ X.env.scope.names.lookup x = some .local := by first | exact .inl rfl | exact .inr rfl | assumption) : wpAny M A (storeName X.env x u) Q E s :=
  store_ok2 I hN hi hx r (fun s' I' _ => h s' I') hf
/-- behind a call or a block, the state as it is -/
theorem Inv.call' {s' : Shared} {ch : List Addr} (I : Inv X pins σ H s) (ho : s'.os = s.os) (u : Un (frs X.stack) ch H H' s.heap s'.heap) (hok : HOk X.prog X.w H' s'.heap) (hg : AllBare s'.gens)
    (hch : ∀ b ∈ ch, (b ∈ X.ex ∨ X.s₀.heap.objs.size ≤ b) ∧ b ≠ X.env.locals ∧ (∀ x c, X.env.cells.lookup x = some c → c ≠ b) ∧ ∀ p ∈ X.pn ++ pins, p.1 ≠ b) : Inv X pins σ H' s' := by
  obtain ⟨h', g', d', t', o'⟩ := s'
  have e : o' = s.os := ho
  subst e
  exact I.call (g' := g') (t' := t') (d' := d') u hok hg hch
end

/-! ### the judgements -/
/-- an exception: its class, its own dict's address (where it has one), the abstract heap behind it -/
abbrev XK := Value → Option Addr → Hp → Prop
abbrev St := List (Option V)
abbrev VK := V → Hp → Prop
/-- an expression's reading; a test's; an argument list's -/
abbrev TE := St → Hp → VK → Prop
abbrev TT := St → Hp → (Bool → Hp → Prop) → Prop
abbrev TA := St → Hp → (List V → Hp → Prop) → Prop
/-- what is wanted behind a statement -/
structure Ends where
  nx : St → Hp → Prop
  rt : VK
  bk : St → Hp → Prop := fun _ _ => False
  ct : St → Hp → Prop := fun _ _ => False
abbrev TS := Ends → St → Hp → Prop

def EP (X : Cx) (pins : List (Addr × Obj)) (σ : St) (Q : VK) (u : Value) (s' : Shared) : Prop := ∃ v H', Inv X pins σ H' s' ∧ RelV v u ∧ Q v H'
def TP (X : Cx) (pins : List (Addr × Obj)) (σ : St) (Q : Bool → Hp → Prop) (b : Bool) (s' : Shared) : Prop := ∃ H', Inv X pins σ H' s' ∧ Q b H'
def AP (X : Cx) (pins : List (Addr × Obj)) (σ : St) (Q : List V → Hp → Prop) (us : List Value) (s' : Shared) : Prop := ∃ vs H', Inv X pins σ H' s' ∧ Vals vs us ∧ Q vs H'
def SP (X : Cx) (pins : List (Addr × Obj)) (D : Ends) (f : Flow) (s' : Shared) : Prop :=
  match f with
  | .next => ∃ σ' H', Inv X pins σ' H' s' ∧ D.nx σ' H'
  | .brk => ∃ σ' H', Inv X pins σ' H' s' ∧ D.bk σ' H'
  | .cont => ∃ σ' H', Inv X pins σ' H' s' ∧ D.ct σ' H'
  | .ret u => ∃ v σ' H', Inv X pins σ' H' s' ∧ RelV v u ∧ D.rt v H'

def PE (X : Cx) (e : Expr) (t : TE) : Prop :=
  ∀ (pins : List (Addr × Obj)) (s : Shared) (σ : St) (H : Hp) (Q : VK), Inv X pins σ H s → t σ H Q → wpAny (model X.prog X.w) X.A (eval e X.env) (EP X pins σ Q) X.xe s
def PT (X : Cx) (e : Expr) (t : TT) : Prop :=
  ∀ (pins : List (Addr × Obj)) (s : Shared) (σ : St) (H : Hp) (Q : Bool → Hp → Prop), Inv X pins σ H s → t σ H Q → wpAny (model X.prog X.w) X.A (isTrue e X.env (eval e X.env)) (TP X pins σ Q) X.xe s
/-- a test whatever its 'whole' is (and, or) -/
def PW (X : Cx) (e : Expr) (t : TT) : Prop :=
  ∀ (whole : Sem Value) (pins : List (Addr × Obj)) (s : Shared) (σ : St) (H : Hp) (Q : Bool → Hp → Prop), Inv X pins σ H s → t σ H Q → wpAny (model X.prog X.w) X.A (isTrue e X.env whole) (TP X pins σ Q) X.xe s
theorem PW.pt {X : Cx} {e : Expr} {t : TT} (h : PW X e t) : PT X e t := h _
/-- an argument list (no star), from the left -/
def PA (X : Cx) (es : List Expr) (t : TA) : Prop :=
  ∀ (pos : Pos) (pins : List (Addr × Obj)) (s : Shared) (σ : St) (H : Hp) (Q : List V → Hp → Prop), Inv X pins σ H s → t σ H Q → wpAny (model X.prog X.w) X.A (spliced (backTo pos (starEach es X.env))) (AP X pins σ Q) X.xe s
def PS (X : Cx) (st : Stmt) (t : TS) : Prop :=
  ∀ (pins : List (Addr × Obj)) (s : Shared) (σ : St) (H : Hp) (D : Ends), Inv X pins σ H s → t D σ H → wpAny (model X.prog X.w) X.A (exec st X.env) (SP X pins D) X.xe s
def PSs (X : Cx) (st : List Stmt) (t : TS) : Prop :=
  ∀ (pins : List (Addr × Obj)) (s : Shared) (σ : St) (H : Hp) (D : Ends), Inv X pins σ H s → t D σ H → wpAny (model X.prog X.w) X.A (execs st X.env) (SP X pins D) X.xe s
/-- weaken the end -/
theorem thn {α : Type} {t : Sem α} {Q Q' : α → Shared → Prop} {M : Model} {A : Around} {E : Value → Shared → Prop} {s : Shared} (h : wpAny M A t Q E s) (hQ : ∀ a s, Q a s → Q' a s) : wpAny M A t Q' E s := wpAny_mono h hQ fun _ _ x => x
end L2

namespace L2
open PySem PySem.Spec PyProof.Rows
section
variable {X : Cx}

/-! ### names and constants -/
def tVar (i : Nat) : TE := fun σ H Q => ∃ v, σ[i]? = some (some v) ∧ Q v H
def tC (v : V) : TE := fun _ H Q => Q v H
theorem pe_var {i : Nat} {x : Str} {pos : Pos} (hN : X.N[i]? = some x) (hv : Vis X.env.scope x) (hd : (x == ("__debug__" : Str)) = false := by decide) (hcd : (x == ("__classdict__" : Str)) = false := by decide) : PE X (.Name x pos) (tVar i) := by
  intro pins s σ H Q I h
  obtain ⟨v, e, h⟩ := h
  obtain ⟨m, hn, hl⟩ := I.loc
  obtain ⟨u, r, l⟩ := hl i x v hN e hv
  have fin : EP X pins σ Q u s := ⟨v, H, I, r, h⟩
  rcases l with ⟨hk, hm⟩ | ⟨hk, c, hc, hcell⟩
  · exact wpAny_Name (wpAny_loadName_local I.ok.kind hk hn hm fin) hd
  · rcases hk with hk | hk
    · exact wpAny_Name (wpAny_loadName_cell I.ok.kind hk hc hcell fin) hd
    · exact wpAny_Name (wpAny_loadName_free I.ok.kind hk hc hcell fin hcd) hd
theorem pe_int {i j pos} : PE X (.Constant (.int i) j pos) (tC (.int i)) := fun _ _ _ H _ I h => wpAny_Constant_int ⟨.int i, H, I.tok _, ⟨_, rfl⟩, h⟩
theorem pe_bl {b j pos} : PE X (.Constant (.bool b) j pos) (tC (.bl b)) := fun _ _ _ H _ I h => Constant_bool ⟨.bl b, H, I, rfl, h⟩
theorem pe_non {j pos} : PE X (.Constant .none j pos) (tC .non) := fun _ _ _ H _ I h => Constant_none ⟨.non, H, I, rfl, h⟩
theorem pe_str {x j pos} : PE X (.Constant (.str x) j pos) (tC (.str x)) := fun _ _ _ H _ I h => Calls.Constant_str ⟨.str x, H, I.tok _, ⟨_, rfl⟩, h⟩

/-- a global name of the def -/
def Gl (X : Cx) (x : Str) : Prop := X.env.kindOf x = some .globalImplicit
theorem ld_glob {E : Value → Shared → Prop} {pins : List (Addr × Obj)} {s : Shared} {σ : St} {H : Hp} {x : Str} {u : Value} {pos : Pos} {Q : Value → Shared → Prop} (I : Inv X pins σ H s) (hg : Gl X x) (hm : X.mg x = some u) (h : Q u s)
    (hd : (x == ("__debug__" : Str)) = false := by decide) : wpAny (model X.prog X.w) X.A (eval (.Name x pos) X.env) Q E s :=
  Calls.Name_function_global I.ok.kind hg (Calls.loadGlobal_global (by rw [I.ok.glob]; exact I.mod.glob.keeps I.bk) hm h) hd
theorem ld_blt {E : Value → Shared → Prop} {pins : List (Addr × Obj)} {s : Shared} {σ : St} {H : Hp} {x : Str} {u : Value} {pos : Pos} {Q : Value → Shared → Prop} (I : Inv X pins σ H s) (hg : Gl X x) (hm : X.mg x = none) (hv : bootBuiltins x = some u) (h : Q u s)
    (hn : x ≠ "__name__" := by decide) (hd : (x == ("__debug__" : Str)) = false := by decide) : wpAny (model X.prog X.w) X.A (eval (.Name x pos) X.env) Q E s := by
  obtain ⟨mb, h1, h2⟩ := I.mod.blt
  exact Calls.Name_function_global I.ok.kind hg (Calls.loadGlobal_builtin (by rw [I.ok.glob]; exact I.mod.glob.keeps I.bk) hm (by rw [I.ok.blt]; exact h1.keeps I.bk) ((h2 x hn).trans hv) h) hd
/-- a module's constant, a class, a function, as a value -/
theorem pe_glob {x : Str} {v : V} {u : Value} {pos : Pos} (hg : Gl X x) (hm : X.mg x = some u) (r : RelV v u) (hd : (x == ("__debug__" : Str)) = false := by decide) : PE X (.Name x pos) (tC v) :=
  fun _ _ _ H _ I h => ld_glob I hg hm ⟨v, H, I, r, h⟩ hd
theorem pe_bltn {x : Str} {v : V} {u : Value} {pos : Pos} (hg : Gl X x) (hm : X.mg x = none) (hv : bootBuiltins x = some u) (r : RelV v u) (hn : x ≠ "__name__" := by decide) (hd : (x == ("__debug__" : Str)) = false := by decide) : PE X (.Name x pos) (tC v) :=
  fun _ _ _ H _ I h => ld_blt I hg hm hv ⟨v, H, I, r, h⟩ hn hd

/-! ### arithmetic -/
/-- two ints -/
def t2I (ta tb : TE) (k : Int → Int → Hp → Prop) : St → Hp → Prop := fun σ H => ta σ H fun x H1 => tb σ H1 fun y H2 => ∃ i j, x = .int i ∧ y = .int j ∧ k i j H2
def tAdd (ta tb : TE) : TE := fun σ H Q => t2I ta tb (fun i j H2 => Q (.int (i + j)) H2) σ H
def tSub (ta tb : TE) : TE := fun σ H Q => t2I ta tb (fun i j H2 => Q (.int (i - j)) H2) σ H
/-- the left factor below 2^64 -/
def tMul (ta tb : TE) : TE := fun σ H Q => t2I ta tb (fun i j H2 => (-(2 ^ 64) < i ∧ i < 2 ^ 64) ∧ Q (.int (i * j)) H2) σ H
variable {a b : Expr} {ta tb : TE} {pos : Pos}
/-! ### comparisons -/
def PC (X : Cx) (op : CmpOp) (a b : Expr) (t : TE) : Prop :=
  ∀ (pins : List (Addr × Obj)) (s : Shared) (σ : St) (H : Hp) (Q : VK), Inv X pins σ H s → t σ H Q →
    wpAny (model X.prog X.w) X.A (eval a X.env) (fun v s₁ => wpAny (model X.prog X.w) X.A (eval b X.env) (fun u s₂ => wpAny (model X.prog X.w) X.A (compareOp op v u) (EP X pins σ Q) X.xe s₂) X.xe s₁) X.xe s
def tCmp (p : Int → Int → Bool) (ta tb : TE) : TE := fun σ H Q => t2I ta tb (fun i j H2 => Q (.bl (p i j)) H2) σ H
abbrev tLt : TE → TE → TE := tCmp fun i j => decide (i < j)
abbrev tLe : TE → TE → TE := tCmp fun i j => decide (i ≤ j)
abbrev tGt : TE → TE → TE := tCmp fun i j => decide (j < i)
abbrev tGe : TE → TE → TE := tCmp fun i j => decide (j ≤ i)
abbrev tEqI : TE → TE → TE := tCmp fun i j => decide (i = j)
abbrev tNeI : TE → TE → TE := tCmp fun i j => !decide (i = j)
/-- is None -/
def tIsN (ta : TE) : TE := fun σ H Q => ta σ H fun x H1 => Q (.bl (decide (x = .non))) H1
def tNotN (ta : TE) : TE := fun σ H Q => ta σ H fun x H1 => Q (.bl (!decide (x = .non))) H1
/-- a comparison as a value, as a test -/
def tB (t : TE) : TT := fun σ H Q => t σ H fun x H1 => ∃ c, x = .bl c ∧ Q c H1
/-- an expression whose value is a bool, as a test -/
theorem pt_val {e : Expr} {t : TE} (h : PE X e t) (he : ∀ whole, isTrue e X.env whole = (do let v ← whole; standAt e.pos; holding [v] (truthy v)) := by intro _; rfl) : PT X e (tB t) := by
  intro pins s σ H Q I hw
  refine isTrue_plain (thn (h pins s σ H _ I hw) fun v s1 ⟨x, H1, I1, r1, q1⟩ => ?_) (he _)
  obtain ⟨d, rfl, q⟩ := q1
  cases r1
  exact wpAny_truthy_bool ⟨H1, I1, q⟩

/-! ### and, or, not -/
variable {tA tB' : TT} {rest : List Expr}
def tAnd (t u : TT) : TT := fun σ H Q => t σ H fun c H1 => if c = true then u σ H1 Q else Q false H1
def tOr (t u : TT) : TT := fun σ H Q => t σ H fun c H1 => if c = true then Q true H1 else u σ H1 Q
def tNot (t : TT) : TT := fun σ H Q => t σ H fun c H1 => Q (!c) H1
theorem pw_or1 (ha : PT X a tA) : PW X (.BoolOp .Or [a] pos) tA := by
  intro wh pins s σ H Q I h
  refine isTrue_or (thn (ha pins s σ H Q I h) fun c s1 e => ?_)
  cases c with
  | false => exact isTrue_or_nil e
  | true => exact e
theorem pw_or (ha : PT X a tA) (hb : PW X (.BoolOp .Or (b :: rest) pos) tB') : PW X (.BoolOp .Or (a :: b :: rest) pos) (tOr tA tB') := by
  intro wh pins s σ H Q I h
  refine isTrue_or (thn (ha pins s σ H _ I h) fun c s1 ⟨H1, I1, q1⟩ => ?_)
  cases c with
  | true => exact ⟨H1, I1, q1⟩
  | false => exact hb wh pins s1 σ H1 Q I1 q1
theorem pt_not (ha : PT X a tA) : PT X (.UnaryOp .Not a pos) (tNot tA) := by
  intro pins s σ H Q I h
  exact isTrue_not (ha pins s σ H (fun c H1 => Q (!c) H1) I h)
/-- .. as values (bools) -/
def tAndV (ta tb : TE) : TE := fun σ H Q => ta σ H fun x H1 => ∃ c, x = .bl c ∧ if c = true then tb σ H1 Q else Q (.bl false) H1
def tOrV (ta tb : TE) : TE := fun σ H Q => ta σ H fun x H1 => ∃ c, x = .bl c ∧ if c = true then Q (.bl true) H1 else tb σ H1 Q
def tNotV (ta : TE) : TE := fun σ H Q => ta σ H fun x H1 => ∃ c, x = .bl c ∧ Q (.bl (!c)) H1
theorem pe_one {op} {t : TE} (h : PE X a t) : PE X (.BoolOp op [a] pos) t := fun pins s σ H Q I hw => BoolOp_one (h pins s σ H Q I hw)
theorem pe_and (ha : PE X a ta) (hb : PE X (.BoolOp .And (b :: rest) pos) tb) : PE X (.BoolOp .And (a :: b :: rest) pos) (tAndV ta tb) := by
  intro pins s σ H Q I h
  refine BoolOp_and (thn (ha pins s σ H _ I h) fun v s1 ⟨x, H1, I1, r1, q1⟩ => ?_)
  obtain ⟨c, rfl, q1⟩ := q1
  cases r1
  refine wpAny_truthy_bool ?_
  cases c with
  | true => exact hb pins s1 σ H1 Q I1 q1
  | false => exact ⟨.bl false, H1, I1, rfl, q1⟩
theorem pe_not (ha : PE X a ta) : PE X (.UnaryOp .Not a pos) (tNotV ta) := by
  intro pins s σ H Q I h
  refine UnaryOp_ (thn (ha pins s σ H _ I h) fun v s1 ⟨x, H1, I1, r1, q1⟩ => ?_)
  obtain ⟨c, rfl, q1⟩ := q1
  cases r1
  exact not_of (wpAny_truthy_bool ⟨.bl (!c), H1, I1, rfl, q1⟩)
/-- a if t else b -/
def tIf (t : TT) (ta tb : TE) : TE := fun σ H Q => t σ H fun c H1 => if c = true then ta σ H1 Q else tb σ H1 Q
theorem pe_ifExp {c : Expr} (hc : PT X c tA) (ha : PE X a ta) (hb : PE X b tb) : PE X (.IfExp c a b pos) (tIf tA ta tb) := by
  intro pins s σ H Q I h
  refine wpAny_IfExp (thn (hc pins s σ H _ I h) fun d s1 ⟨H1, I1, q1⟩ => ?_)
  cases d with
  | true => exact ha pins s1 σ H1 Q I1 q1
  | false => exact hb pins s1 σ H1 Q I1 q1
end
end L2

namespace L2
open PySem PySem.Spec PyProof.Rows

/-! ### a list, a tuple that is read: tracked, frozen, or an object of the module -/
def SqL (K : PySem.W.Frag) (H : Hp) (a : Addr) (xs : List V) : Prop :=
  Rd H a (.lst xs) ∨
    ∃ (o : Obj) (its : Array Value) (n : Nat), K.lookup a = some o ∧ o.cls = .type "list" ∧ o.dict = none ∧ o.data = .seq its n ∧ its.size ≤ sizeLine ∧ Vals xs its.toList
def SqT (K : PySem.W.Frag) (H : Hp) (a : Addr) (xs : List V) : Prop :=
  Rd H a (.tup xs) ∨
    ∃ (o : Obj) (its : Array Value) (n : Nat), K.lookup a = some o ∧ o.cls = .type "tuple" ∧ o.data = .seq its n ∧ its.size ≤ sizeLine ∧ Vals xs its.toList
def absV : Value → Option V
  | .none => some .non
  | .bool b => some (.bl b)
  | .int i _ => some (.int i)
  | .str x _ => some (.str x)
  | .bytes b _ => some (.byt b)
  | .float b _ => some (.flt b)
  | .ref a => some (.ref a)
  | .type n => some (.ty n)
  | _ => none
theorem RelV.abs {x : V} {u : Value} (r : RelV x u) : absV u = some x := by
  cases x with
  | non => cases r; rfl
  | bl _ => cases r; rfl
  | int _ => obtain ⟨t, rfl⟩ := r; rfl
  | str _ => obtain ⟨t, rfl⟩ := r; rfl
  | byt _ => obtain ⟨t, rfl⟩ := r; rfl
  | flt _ => obtain ⟨t, rfl⟩ := r; rfl
  | ref _ => cases r; rfl
  | ty _ => cases r; rfl
theorem RelV.inj {x y : V} {u : Value} (r : RelV x u) (q : RelV y u) : x = y := Option.some.inj (r.abs.symm.trans q.abs)
theorem Vals.inj : ∀ {xs ys : List V} {us : List Value}, Vals xs us → Vals ys us → xs = ys
  | _, _, _, .nil, .nil => rfl
  | _, _, _, .cons r t, .cons r' t' => by rw [r.inj r', Vals.inj t t']
section
variable {X : Cx} {pins : List (Addr × Obj)} {σ : St} {H : Hp} {s : Shared} {a : Addr} {xs ys : List V}
theorem SqL.of {K : PySem.W.Frag} (h : H a = some (.lst xs)) : SqL K H a xs := .inl (.inl h)
theorem SqT.of {K : PySem.W.Frag} (h : H a = some (.tup xs)) : SqT K H a xs := .inl (.inl h)
theorem Inv.list (I : Inv X pins σ H s) (h : SqL X.K H a xs) : ∃ its : List Value, Vals xs its ∧ PlainL s.heap a its.toArray ∧ xs.length ≤ sizeLine := by
  rcases h with h | ⟨o, its, n, hk, hc, hd, hs, hz, r⟩
  · obtain ⟨z, its, n, r, e⟩ := h.ok I.hok
    exact ⟨its, r, ⟨_, n, e, rfl, rfl, rfl⟩, z⟩
  · refine ⟨its.toList, r, ⟨o, n, I.kIn a o hk, hc, hd, by simpa using hs⟩, ?_⟩
    have e := r.length
    simp only [Array.length_toList] at e
    omega
theorem Inv.tuple (I : Inv X pins σ H s) (h : SqT X.K H a xs) : ∃ its : List Value, Vals xs its ∧ IsTup s.heap a its.toArray ∧ xs.length ≤ sizeLine := by
  rcases h with h | ⟨o, its, n, hk, hc, hs, hz, r⟩
  · obtain ⟨z, its, r, p⟩ := h.ok I.hok
    exact ⟨its, r, p, z⟩
  · refine ⟨its.toList, r, ⟨o, I.kIn a o hk, hc, n, by simpa using hs⟩, ?_⟩
    have e := r.length
    simp only [Array.length_toList] at e
    omega
end

/-! ### another wish about exceptions -/
abbrev Cx.wish (X : Cx) (E : Value → Shared → Prop) : Cx := { X with xe := E }
/-- no exception leaves -/
abbrev Cx.nox (X : Cx) : Cx := X.wish fun _ _ => False
theorem Cx.Ok.wish {X : Cx} (ok : X.Ok) (E : Value → Shared → Prop) : (X.wish E).Ok :=
  ⟨ok.mod, ok.kind, ok.glob, ok.blt, ok.above, ok.inj, ok.has, ok.cab, ok.hd, ok.frames, ok.stk, ok.exf, ok.bs, ok.bsz, ok.noex, ok.exfs, ok.funs, ok.frf⟩
theorem Cx.Ok.unwish {X : Cx} {E : Value → Shared → Prop} (ok : (X.wish E).Ok) : X.Ok :=
  ⟨ok.mod, ok.kind, ok.glob, ok.blt, ok.above, ok.inj, ok.has, ok.cab, ok.hd, ok.frames, ok.stk, ok.exf, ok.bs, ok.bsz, ok.noex, ok.exfs, ok.funs, ok.frf⟩
section
variable {X : Cx} {pins : List (Addr × Obj)} {σ : St} {H : Hp} {s : Shared} {E : Value → Shared → Prop}
theorem Inv.wish (I : Inv X pins σ H s) (E : Value → Shared → Prop) : Inv (X.wish E) pins σ H s := ⟨I.ok.wish E, I.os, I.bare, I.base, I.loc, I.cell, I.free, I.freeC, I.pin, I.hok, I.len⟩
theorem Inv.unwish (I : Inv (X.wish E) pins σ H s) : Inv X pins σ H s := ⟨I.ok.unwish, I.os, I.bare, I.base, I.loc, I.cell, I.free, I.freeC, I.pin, I.hok, I.len⟩
theorem SP.unwish {D : Ends} {f : Flow} {s' : Shared} (h : SP (X.wish E) pins D f s') : SP X pins D f s' := by
  cases f with
  | next => obtain ⟨σ', H', I, q⟩ := h; exact ⟨σ', H', I.unwish, q⟩
  | brk => obtain ⟨σ', H', I, q⟩ := h; exact ⟨σ', H', I.unwish, q⟩
  | cont => obtain ⟨σ', H', I, q⟩ := h; exact ⟨σ', H', I.unwish, q⟩
  | ret u => obtain ⟨v, σ', H', I, r, q⟩ := h; exact ⟨v, σ', H', I.unwish, r, q⟩
theorem PE.nox {e : Expr} {t : TE} (h : PE X.nox e t) : PE X e t := fun pins s σ H Q I hw =>
  wpAny_mono (h pins s σ H Q (I.wish _) hw) (fun _ _ ⟨v, H', I', r, q⟩ => ⟨v, H', I'.unwish, r, q⟩) fun _ _ z => False.elim z
theorem PT.nox {e : Expr} {t : TT} (h : PT X.nox e t) : PT X e t := fun pins s σ H Q I hw =>
  wpAny_mono (h pins s σ H Q (I.wish _) hw) (fun _ _ ⟨H', I', q⟩ => ⟨H', I'.unwish, q⟩) fun _ _ z => False.elim z
theorem PSs.nox {st : List Stmt} {t : TS} (h : PSs X.nox st t) : PSs X st t := fun pins s σ H D I hw =>
  wpAny_mono (h pins s σ H D (I.wish _) hw) (fun _ _ q => q.unwish) fun _ _ z => False.elim z
end

/-! ### blocks and small statements -/
section
variable {X : Cx} {st : Stmt} {rest : List Stmt} {t u : TS} {e : Expr} {te : TE} {pos : Pos}
def tNext : TS := fun D σ H => D.nx σ H
def tSeq (t u : TS) : TS := fun D σ H => t { D with nx := u D } σ H
theorem pss_nil : PSs X [] tNext := fun _ _ σ H _ I h => wpAny_execs_nil ⟨σ, H, I, h⟩
theorem pss_cons (h1 : PS X st t) (h2 : PSs X rest u) : PSs X (st :: rest) (tSeq t u) := by
  intro pins s σ H D I h
  refine wpAny_execs_cons (thn (h1 pins s σ H { D with nx := u D } I h) fun f s1 q => ?_)
  cases f with
  | next =>
    obtain ⟨σ', H', I', q⟩ := q
    exact h2 pins s1 σ' H' D I' q
  | ret v => exact q
  | brk => exact q
  | cont => exact q
theorem pss_one (h1 : PS X st t) : PSs X [st] t := by
  intro pins s σ H D I h
  refine wpAny_execs_cons (thn (h1 pins s σ H D I h) fun f s1 q => ?_)
  cases f with
  | next => exact wpAny_execs_nil q
  | ret v => exact q
  | brk => exact q
  | cont => exact q
def tBreak : TS := fun D σ H => D.bk σ H
def tCont : TS := fun D σ H => D.ct σ H
/-- in a def's body nothing is shown -/
theorem Inv.quiet {pins : List (Addr × Obj)} {σ : St} {H : Hp} {s : Shared} (I : Inv X pins σ H s) : interactive X.env = false := by simp [interactive, I.ok.kind]
/-- an expression whose value is dropped -/
def tDrop (te : TE) : TS := fun D σ H => te σ H fun _ H1 => D.nx σ H1
theorem ps_expr (he : PE X e te) (hs : swapsWith e none pos.line X.env = pure false := by rfl) : PS X (.Expr e pos) (tDrop te) := by
  intro pins s σ H D I h
  exact wpAny_Expr_any (thn (he pins s σ H _ I h) fun v s1 ⟨x, H1, I1, r1, q1⟩ => ⟨σ, H1, I1, q1⟩) I.quiet hs
def tRet (te : TE) : TS := fun D σ H => te σ H D.rt
theorem ps_ret (he : PE X e te) : PS X (.Return (some e) pos) (tRet te) := by
  intro pins s σ H D I h
  exact wpAny_Return_some (thn (he pins s σ H _ I h) fun v s1 ⟨x, H1, I1, r1, q1⟩ => ⟨x, σ, H1, I1, r1, q1⟩)
def tRetN : TS := fun D _ H => D.rt .non H
def tIfS (c : TT) (t u : TS) : TS := fun D σ H => c σ H fun b H1 => if b = true then t D σ H1 else u D σ H1
theorem ps_if {c : Expr} {a b : List Stmt} {tc : TT} (hc : PT X c tc) (ha : PSs X a t) (hb : PSs X b u) : PS X (.If c a b pos) (tIfS tc t u) := by
  intro pins s σ H D I h
  refine wpAny_If (thn (hc pins s σ H _ I h) fun d s1 ⟨H1, I1, q1⟩ => ?_)
  cases d with
  | true => exact ha pins s1 σ H1 D I1 q1
  | false => exact hb pins s1 σ H1 D I1 q1
/-- code that the proof never comes to -/
def tNever : TS := fun _ _ _ => False
end

/-! ### targets -/
abbrev TG := V → St → Hp → (St → Hp → Prop) → Prop
abbrev TGs := List V → St → Hp → (St → Hp → Prop) → Prop
def PG (X : Cx) (target : Expr) (t : TG) : Prop :=
  ∀ (pins : List (Addr × Obj)) (s : Shared) (σ : St) (H : Hp) (v : V) (u : Value) (Q : St → Hp → Prop), Inv X pins σ H s → RelV v u → t v σ H Q →
    wpAny (model X.prog X.w) X.A (assign target X.env u) (fun _ s' => ∃ σ' H', Inv X pins σ' H' s' ∧ Q σ' H') X.xe s
/-- several targets, one after another -/
def PGs (X : Cx) (ts : List Expr) (t : TGs) : Prop :=
  ∀ (pins : List (Addr × Obj)) (s : Shared) (σ : St) (H : Hp) (vs : List V) (us : List Value) (Q : St → Hp → Prop), Inv X pins σ H s → Vals vs us → t vs σ H Q →
    wpAny (model X.prog X.w) X.A (assignInOrder ((assignEach ts X.env).map (·.2)) us) (fun _ s' => ∃ σ' H', Inv X pins σ' H' s' ∧ Q σ' H') X.xe s
/-- o[i] = v, by values -/
abbrev TSet := V → V → V → Hp → (Hp → Prop) → Prop
def PSet (X : Cx) (t : TSet) : Prop :=
  ∀ (pins : List (Addr × Obj)) (s : Shared) (σ : St) (H : Hp) (o i v : V) (ov iv u : Value) (Q : Hp → Prop), Inv X pins σ H s → RelV o ov → RelV i iv → RelV v u → t o i v H Q →
    wpAny (model X.prog X.w) X.A (setItem ov iv u) (fun _ s' => ∃ H', Inv X pins σ H' s' ∧ Q H') X.xe s
/-- a op= b, by values -/
abbrev TIp := V → V → Hp → VK → Prop
def PIp (X : Cx) (op : Operator) (t : TIp) : Prop :=
  ∀ (pins : List (Addr × Obj)) (s : Shared) (σ : St) (H : Hp) (x y : V) (v u : Value) (Q : VK), Inv X pins σ H s → RelV x v → RelV y u → t x y H Q →
    wpAny (model X.prog X.w) X.A (inplaceOp op v u) (EP X pins σ Q) X.xe s
section
variable {X : Cx} {pos : Pos}
def gName (i : Nat) : TG := fun v σ H Q => Q (σ.set i (some v)) H
theorem pg_name {i : Nat} {x : Str} (hN : X.N.Nodup) (hi : X.N[i]? = some x) (hx : Loc X.env.scope x) (hf : X.fn x = true ∨ X.env.scope.names.lookup x = some .local := by first | exact .inl rfl | exact .inr rfl | assumption) : PG X (.Name x pos) (gName i) := by
  intro pins s σ H v u Q I r h
  exact wpAny_assign_Name (store_ok I hN hi hx r (fun s' I' => ⟨_, H, I', h⟩) hf)
def gNil : TGs := fun vs σ H Q => vs = [] ∧ Q σ H
def gCons (t : TG) (u : TGs) : TGs := fun vs σ H Q => ∃ v r, vs = v :: r ∧ t v σ H fun σ' H' => u r σ' H' Q
theorem pgs_nil : PGs X [] gNil := by
  intro pins s σ H vs us Q I r h
  obtain ⟨e, h⟩ := h
  subst e
  cases r
  exact assignInOrder_nil ⟨σ, H, I, h⟩
theorem pgs_cons {e : Expr} {es : List Expr} {t : TG} {u : TGs} (h1 : PG X e t) (h2 : PGs X es u)
    (hs : (assignEach (e :: es) X.env).map (·.2) = assign e X.env :: (assignEach es X.env).map (·.2) := by rfl) : PGs X (e :: es) (gCons t u) := by
  intro pins s σ H vs us Q I r h
  obtain ⟨v, vr, e1, h⟩ := h
  subst e1
  cases r with
  | cons r rr =>
    rw [hs]
    refine assignInOrder_cons (thn (h1 pins s σ H _ _ _ I r h) fun _ s1 ⟨σ1, H1, I1, q1⟩ => ?_)
    exact h2 pins s1 σ1 H1 _ _ Q I1 rr q1
/-- (a, b, ..) = a tuple of that length -/
def gTup (K : PySem.W.Frag) (n : Nat) (t : TGs) : TG := fun v σ H Q => ∃ a xs, v = .ref a ∧ SqT K H a xs ∧ xs.length = n ∧ t xs σ H Q
theorem pg_tup {es : List Expr} {k : Nat} {t : TGs} {n : Nat} (hc : X.calm = true) (h : PGs X es t)
    (hn : (assignEach es X.env).length = n := by rfl) (hst : (assignEach es X.env).findIdx? (·.1) = none := by rfl) : PG X (.Tuple es k pos) (gTup X.K n t) := by
  intro pins s σ H v u Q I r hw
  obtain ⟨a, xs, e1, hq, hl, hw⟩ := hw
  subst e1
  cases r
  obtain ⟨its, rv, ht, hz⟩ := I.tuple hq
  refine assign_Tuple_tuple (I.ok.hd hc) ht (by simp [hn, ← hl, rv.length]) hst fun h' hx => ?_
  have I1 : Inv X pins σ H { s with heap := h' } := I.kept (t' := s.toks) fun b o e => hx b o (Nat.ne_of_lt (Heap.lt_size e)) e
  exact h pins _ σ H xs _ Q I1 (by simpa using rv) hw
/-- o[i] = .. -/
def gSub (to ti : TE) (t : TSet) : TG := fun v σ H Q => to σ H fun o H1 => ti σ H1 fun i H2 => t o i v H2 fun H3 => Q σ H3
theorem pg_sub {o i : Expr} {to ti : TE} {t : TSet} (ho : PE X o to) (hi : PE X i ti) (hs : PSet X t)
    (ha : ∀ v, assign (.Subscript o i pos) X.env v = (do
      let ov ← holding [v] (eval o X.env)
      let iv ← holding [v, ov] (eval i X.env)
      standAt pos
      holding [v, ov, iv] (setItem ov iv v)
      release [v, ov, iv] []) := by intro _; rfl) : PG X (.Subscript o i pos) (gSub to ti t) := by
  intro pins s σ H v u Q I r h
  rw [ha]
  refine wpAny_bind (wpAny_holding (thn (ho pins s σ H _ I h) fun ov s1 ⟨x, H1, I1, r1, q1⟩ => ?_))
  refine wpAny_bind (wpAny_holding (thn (hi pins s1 σ H1 _ I1 q1) fun iv s2 ⟨y, H2, I2, r2, q2⟩ => ?_))
  refine wpAny_bind (wpAny_standAt (wpAny_bind (wpAny_holding (thn (hs pins s2 σ H2 x y v ov iv u _ I2 r1 r2 r q2) fun _ s3 ⟨H3, I3, q3⟩ => ?_))))
  exact wpAny_release ⟨σ, H3, I3, q3⟩
/-- target = value -/
def tAsg (te : TE) (g : TG) : TS := fun D σ H => te σ H fun x H1 => g x σ H1 D.nx
theorem ps_asg {tg e : Expr} {te : TE} {g : TG} (he : PE X e te) (hg : PG X tg g) (hs : swapsWithSole [tg] e pos.line X.env = pure false := by rfl) (hw : swappedStores [tg] e X.env = pure none := by rfl)
    (h1 : (assignEach [tg] X.env).map (·.2) = [assign tg X.env] := by rfl) : PS X (.Assign [tg] e pos) (tAsg te g) := by
  intro pins s σ H D I h
  refine wpAny_Assign_stores (thn (he pins s σ H _ I h) fun v s1 ⟨x, H1, I1, r1, q1⟩ => ?_) hs hw
  rw [h1]
  exact thn (hg pins s1 σ H1 x v _ I1 r1 q1) fun _ s2 q => q
/-- name = value -/
theorem ps_set {i : Nat} {x : Str} {e : Expr} {te : TE} {pos' : Pos} (hN : X.N.Nodup) (hi : X.N[i]? = some x) (hx : Loc X.env.scope x) (he : PE X e te) (hs : swapsWith e (some (.Name x pos')) pos.line X.env = pure false := by rfl) (hf : X.fn x = true ∨ X.env.scope.names.lookup x = some .local := by first | exact .inl rfl | exact .inr rfl | assumption) :
    PS X (.Assign [.Name x pos'] e pos) (tAsg te (gName i)) := by
  intro pins s σ H D I h
  refine wpAny_Assign_Name (thn (he pins s σ H _ I h) fun v s1 ⟨y, H1, I1, r1, q1⟩ => ?_) hs
  exact store_ok I1 hN hi hx r1 (fun s2 I2 => ⟨_, H1, I2, q1⟩) hf
/-- a, b = x, y with plain local names: stored from the right; the pair itself is not tracked (the opening rows as in PyProof/Rows/TupAssign.lean:23) -/
def tPar (i j : Nat) (ta : TA) : TS := fun D σ H => ta σ H fun vs H1 => ∃ v w, vs = [v, w] ∧ D.nx ((σ.set i (some v)).set j (some w)) H1
/-- name op= e -/
def tAug (i : Nat) (te : TE) (ti : TIp) : TS := fun D σ H => ∃ x, σ[i]? = some (some x) ∧ te σ H fun y H1 => ti x y H1 fun z H2 => D.nx (σ.set i (some z)) H2
/-- o[i] op= e -/
def tAugS (to ti te : TE) (tget : V → V → Hp → VK → Prop) (tip : TIp) (tset : TSet) : TS := fun D σ H => to σ H fun o H1 => ti σ H1 fun i H2 => tget o i H2 fun x H3 => te σ H3 fun y H4 => tip x y H4 fun z H5 => tset o i z H5 fun H6 => D.nx σ H6
/-- o[i], by values -/
def PGet (X : Cx) (t : V → V → Hp → VK → Prop) : Prop :=
  ∀ (pins : List (Addr × Obj)) (s : Shared) (σ : St) (H : Hp) (o i : V) (ov iv : Value) (Q : VK), Inv X pins σ H s → RelV o ov → RelV i iv → t o i H Q →
    wpAny (model X.prog X.w) X.A (getItem ov iv) (EP X pins σ Q) X.xe s
/-- ints -/
def ipI (f : Int → Int → Int) : TIp := fun x y H Q => ∃ i j, x = .int i ∧ y = .int j ∧ Q (.int (f i j)) H
end

/-! ### while -/
section
variable {X : Cx} {pos : Pos}
/-- the invariant W with its measure -/
def tWhile (c : TT) (tb : TS) : TS := fun D σ H => ∃ W : Nat → St → Hp → Prop, (∃ m, W m σ H) ∧ ∀ m σ H, W m σ H →
  c σ H fun b H1 => if b = true then ∃ N : St → Hp → Prop, (∀ σ' H', N σ' H' → ∃ m', m' < m ∧ W m' σ' H') ∧ tb { D with nx := N, ct := N, bk := D.nx } σ H1 else D.nx σ H1
end

/-! ### what a loop or a comprehension walks -/
/-- at turn i: it yields x (the heap may grow), or it stops -/
structure It where
  go : Nat → Hp → Prop
  yld : Nat → Hp → V → Hp → Prop
  stop : Nat → Hp → Prop
/-- the iterator's own objects may turn: they are not the frame's, not pinned, younger than the entry (or a comprehension's own) -/
def FpOk (X : Cx) (pins : List (Addr × Obj)) (H : Hp) (b : Addr) : Prop :=
  H b = none ∧ b ≠ X.env.locals ∧ b ∉ X.fs ∧ (b ∈ X.ex ∨ X.s₀.heap.objs.size ≤ b) ∧ (∀ x c, X.env.cells.lookup x = some c → c ≠ b) ∧ ∀ p ∈ X.pn ++ pins, p.1 ≠ b
theorem Inv.fpOk {X : Cx} {pins : List (Addr × Obj)} {σ : St} {H H' : Hp} {s : Shared} {b : Addr} (I : Inv X pins σ H s) (hb : s.heap.objs.size ≤ b) (hn : H' b = none) : FpOk X pins H' b := by
  refine ⟨hn, Nat.ne_of_gt (Nat.lt_of_lt_of_le I.lt hb), I.nofs hb, .inr (Nat.le_trans I.sz hb), fun x c e z => ?_, fun p hp z => ?_⟩
  · obtain ⟨v, q⟩ := I.cell x c e
    exact absurd (Nat.lt_of_lt_of_le q.lt (by rw [z]; exact hb)) (Nat.lt_irrefl _)
  · exact absurd (Nat.lt_of_lt_of_le (Heap.lt_size (I.pin p hp).1) (by rw [z]; exact hb)) (Nat.lt_irrefl _)
structure Turn (P : Program) (w : World) (K : PySem.W.Frag) (tg : Expr) (J : It) (fp : List Addr) (it : Addr) (tn : Nat → Heap → Prop) : Prop where
  mem : it ∈ fp
  obj : ∀ i h, tn i h → ∀ b ∈ fp, ∃ o, h.get? b = some o ∧ ∀ v, o.data ≠ .cell v
  keep : ∀ i h h', tn i h → (∀ b ∈ fp, ∀ o, h.get? b = some o → h'.get? b = some o) → tn i h'
  item : ∀ (X : Cx), X.prog = P → X.w = w → X.K = K → X.calm = true → ∀ (i : Nat) (pins : List (Addr × Obj)) (s : Shared) (σ : St) (H : Hp) (E : Value → Shared → Prop), Inv X pins σ H s → (∀ b ∈ fp, FpOk X pins H b) → tn i s.heap → J.go i H →
    wpAny (model P w) X.A (pyNext (.ref it)) (fun r s1 => ∃ u, r = some u ∧
      wpAny (model P w) X.A (letOwnedTupleGo tg (.ref it) u) (fun _ s2 => ∃ x H', Inv X pins σ H' s2 ∧ RelV x u ∧ J.yld i H x H' ∧ tn (i + 1) s2.heap ∧ ∀ b ∈ fp, H' b = none) E s1) E s
  done : ∀ (X : Cx), X.prog = P → X.w = w → X.K = K → X.calm = true → ∀ (i : Nat) (pins : List (Addr × Obj)) (s : Shared) (σ : St) (H : Hp) (E : Value → Shared → Prop), Inv X pins σ H s → (∀ b ∈ fp, FpOk X pins H b) → tn i s.heap → J.stop i H →
    wpAny (model P w) X.A (pyNext (.ref it)) (fun r s1 => r = none ∧ Inv X pins σ H s1) E s
  self : ∀ (A : Around) (i : Nat) (s : Shared) (Q : Value → Shared → Prop) (E : Value → Shared → Prop), tn i s.heap → Q (.ref it) s → wpAny (model P w) A (pyIter (.ref it)) Q E s
abbrev TI := St → Hp → (It → Hp → Prop) → Prop
/-- an iterator has come -/
def PIE (X : Cx) (pins : List (Addr × Obj)) (σ : St) (tg : Expr) (R : It → Hp → Prop) (itv : Value) (s2 : Shared) : Prop :=
  ∃ (it : Addr) (fp : List Addr) (tn : Nat → Heap → Prop) (J : It) (H' : Hp), itv = .ref it ∧ Inv X pins σ H' s2 ∧ Turn X.prog X.w X.K tg J fp it tn ∧ tn 0 s2.heap ∧ (∀ b ∈ fp, FpOk X pins H' b) ∧ R J H'
def PI (X : Cx) (tg iter : Expr) (wi : TI) : Prop :=
  ∀ (pins : List (Addr × Obj)) (s : Shared) (σ : St) (H : Hp) (R : It → Hp → Prop), Inv X pins σ H s → wi σ H R →
    wpAny (model X.prog X.w) X.A (eval iter X.env) (fun v s1 => wpAny (model X.prog X.w) X.A (pyIter v) (PIE X pins σ tg R) X.xe s1) X.xe s

/-- the step ahead of the store is nothing for an iterator that keeps no tuple -/
theorem go_of {M : Model} {A : Around} {E : Value → Shared → Prop} {s : Shared} {tg : Expr} {it : Addr} {u : Value} {o : Obj} {n : String} {vs : Array Value} {Q : Unit → Shared → Prop} (ho : s.heap.get? it = some o) (hc : o.cls = .type n) (hd : o.data = .fields vs)
    (hn : ["enumerate", "zip", "dict_itemiterator", "dict_reverseitemiterator", "odict_iterator", "itertools.zip_longest", "itertools.pairwise"].contains n = false) (hQ : Q () s) : wpAny M A (letOwnedTupleGo tg (.ref it) u) Q E s := by
  unfold letOwnedTupleGo
  cases tg <;> first
    | exact wpAny_pure hQ
    | (cases u <;> first
        | exact wpAny_pure hQ
        | (refine wpAny_bind (wpAny_load ho ?_)
           rw [hc, hd]
           show wpAny M A (if (["enumerate", "zip", "dict_itemiterator", "dict_reverseitemiterator", "odict_iterator", "itertools.zip_longest", "itertools.pairwise"].contains n && vs[0]? == some (rawInt _)) = true then _ else _) Q E s
           rw [if_neg (by intro h; rw [hn, Bool.false_and] at h; cases h)]
           exact wpAny_pure hQ))

/-- the list at a, as it stands at each turn (a loop may append to it) -/
def Itl (K : PySem.W.Frag) (a : Addr) : It :=
  ⟨fun i H => ∃ xs x, SqL K H a xs ∧ xs[i]? = some x, fun i H x H' => H' = H ∧ ∀ xs, SqL K H a xs → xs[i]? = some x, fun i H => ∃ xs, SqL K H a xs ∧ xs.length ≤ i⟩
def Itt (K : PySem.W.Frag) (a : Addr) : It :=
  ⟨fun i H => ∃ xs x, SqT K H a xs ∧ xs[i]? = some x, fun i H x H' => H' = H ∧ ∀ xs, SqT K H a xs → xs[i]? = some x, fun i H => ∃ xs, SqT K H a xs ∧ xs.length ≤ i⟩
/-- lo, lo + 1, .. (n of them) -/
def Itr (lo : Int) (n : Nat) : It := ⟨fun i _ => i < n, fun i H x H' => H' = H ∧ x = .int (lo + i), fun i _ => n ≤ i⟩
theorem turn_range {P : Program} {w : World} {K : PySem.W.Frag} {tg : Expr} (it : Addr) (lo : Int) (n : Nat) : Turn P w K tg (Itr lo n) [it] it (fun i h => IsRangeIter h it (lo + (i : Nat) * 1) ((n : Int) - (i : Nat)) 1) where
  mem := by simp
  obj := fun i h st b hb => by
    have e : b = it := by simpa using hb
    subst e
    exact ⟨_, st, fun v z => by
      have z' : Data.fields _ = Data.cell v := z
      cases z'⟩
  keep := fun i h h' st k => k it (by simp) _ st
  item := by
    intro X hP hw hK hc i pins s σ H E I hf st hg
    subst hP hw hK
    obtain ⟨f0, f1, f2, f3, f4, f5⟩ := hf it (by simp)
    have W := Walks.range (prog := X.prog) (w := X.w) (I.ok.hd hc) it lo 1 n
    refine W.item i s _ _ hg st fun v h' tk hv st' kk => ?_
    obtain ⟨t, rfl⟩ := hv
    have I1 : Inv X pins σ H { s with heap := h', toks := tk } := I.turned (fun b o hb e => kk b o (by simpa using hb) e) f0 f1 f3 f4 f5
    refine ⟨_, rfl, go_of (s := { s with heap := h', toks := tk }) (n := "range_iterator") st' rfl rfl (by decide) ⟨.int (lo + i), H, I1, ⟨t, ?_⟩, ⟨rfl, rfl⟩, st', fun b hb => (hf b hb).1⟩⟩
    rw [Int.mul_one]
  done := by
    intro X hP hw hK hc i pins s σ H E I hf st hg
    subst hP hw hK
    obtain ⟨f0, f1, f2, f3, f4, f5⟩ := hf it (by simp)
    exact wpAny_pyNext_range_end (I.ok.hd hc) st (by have : n ≤ i := hg; omega) fun h' eb => ⟨rfl, I.turned (t' := s.toks) (fun b o hb e => eb b o hb e) f0 f1 f3 f4 f5⟩
  self := fun _ _ _ _ _ st h => wpAny_pyIter_rangeiter st h
end L2

namespace L2
open PySem PySem.Spec PyProof.Rows
section
variable {X : Cx} {tg : Expr}
def iList (K : PySem.W.Frag) (tl : TE) : TI := fun σ H R => tl σ H fun x H1 => ∃ a, x = .ref a ∧ (∃ xs, SqL K H1 a xs) ∧ R (Itl K a) H1
def iTup (K : PySem.W.Frag) (tl : TE) : TI := fun σ H R => tl σ H fun x H1 => ∃ a, x = .ref a ∧ (∃ xs, SqT K H1 a xs) ∧ R (Itt K a) H1
/-- a range object just made, walked -/
theorem range_it {pins : List (Addr × Obj)} {σ : St} {H : Hp} {s : Shared} {R : It → Hp → Prop} {E : Value → Shared → Prop} {lo hi : Int} {t u v : Tok} {tk : Nat} (I : Inv X pins σ H s) (h1 : -(2 ^ 62) ≤ lo) (h2 : lo < 2 ^ 62) (h3 : -(2 ^ 62) ≤ hi) (h4 : hi < 2 ^ 62)
    (q : R (Itr lo (hi - lo).toNat) H) : wpAny (model X.prog X.w) X.A (pyIter (.ref s.heap.objs.size)) (PIE X pins σ tg R) E { s with heap := s.heap.push { cls := .type "range", data := .fields #[.int lo t, .int hi u, .int 1 v] }, toks := tk } := by
  refine wpAny_pyIter_range (IsRange.new ..) (small_one h1 h2 h3 h4) ?_
  have I1 : Inv X pins σ H { s with heap := s.heap.push { cls := .type "range", data := .fields #[.int lo t, .int hi u, .int 1 v] }, toks := tk } := I.kept fun b o e => Heap.get?_push_of_some _ e
  refine ⟨(s.heap.push { cls := .type "range", data := .fields #[.int lo t, .int hi u, .int 1 v] }).objs.size, [(s.heap.push { cls := .type "range", data := .fields #[.int lo t, .int hi u, .int 1 v] }).objs.size], _, _, H, rfl,
    I1.kept (t' := tk) fun b o e => Heap.get?_push_of_some _ e, turn_range _ lo (hi - lo).toNat, ?_, fun b hb => ?_, q⟩
  · have e1 : lo + ((0 : Nat) : Int) * 1 = lo := by simp
    have e2 : (((hi - lo).toNat : Nat) : Int) - ((0 : Nat) : Int) = Builtin.Range.rangeSize lo hi 1 := by rw [rangeSize_one]; split <;> omega
    show IsRangeIter _ _ (lo + ((0 : Nat) : Int) * 1) ((((hi - lo).toNat : Nat) : Int) - ((0 : Nat) : Int)) 1
    rw [e1, e2]
    exact Heap.get?_push_size _ rfl
  · have e : b = (s.heap.push { cls := .type "range", data := .fields #[.int lo t, .int hi u, .int 1 v] }).objs.size := by simpa using hb
    subst e
    exact I1.fpOk (Nat.le_refl _) (I1.hok.fresh (Nat.le_refl _))
def iRng1 (ta : TA) : TI := fun σ H R => ta σ H fun vs H1 => ∃ j : Int, vs = [.int j] ∧ -(2 ^ 62) ≤ j ∧ j < 2 ^ 62 ∧ R (Itr 0 j.toNat) H1
def iRng2 (ta : TA) : TI := fun σ H R => ta σ H fun vs H1 => ∃ i j : Int, vs = [.int i, .int j] ∧ (-(2 ^ 62) ≤ i ∧ i < 2 ^ 62 ∧ -(2 ^ 62) ≤ j ∧ j < 2 ^ 62) ∧ R (Itr i (j - i).toNat) H1
theorem pi_range1 {a : Expr} {ta : TA} {p pos : Pos} (hg : Gl X "range") (hm : X.mg "range" = none) (ha : PA X [a] ta) (hs : starEach [a] X.env = [(false, eval a X.env)] := by rfl) : PI X tg (.Call (.Name "range" p) [a] [] pos) (iRng1 ta) := by
  intro pins s σ H R I h
  refine Call_ (ld_blt I hg hm boot_range (PyProof.Rows.callWith_type1 (thn (ha pos pins s σ H _ I h) fun us s1 ⟨vs, H1, I1, r1, q1⟩ => ?_) hs rfl))
  obtain ⟨j, e, q1, q2, q⟩ := q1
  subst e
  cases r1 with
  | cons r rr =>
    cases rr
    obtain ⟨t, rfl⟩ := r
    exact call_range_1 (range_it I1 (by omega) (by omega) q1 q2 (by simpa using q))
/-! ### for -/
/-- W: the invariant by the turn and a measure; N: what the body is to reach -/
def tFor (wi : TI) (g : TG) (tb : TS) : TS := fun D σ H => wi σ H fun J H1 => ∃ W : Nat → Nat → St → Hp → Prop, (∃ m, W 0 m σ H1) ∧ ∀ i m σ H, W i m σ H →
  (J.stop i H ∧ D.nx σ H) ∨ (J.go i H ∧ ∃ N : St → Hp → Prop, (∀ σ' H', N σ' H' → ∃ m', m' < m ∧ W (i + 1) m' σ' H') ∧ ∀ x H', J.yld i H x H' → g x σ H' fun σ2 H2 => tb { D with nx := N, ct := N, bk := D.nx } σ2 H2)
/-- the records at fp as they stand -/
def pinsAt (fp : List Addr) (h : Heap) : List (Addr × Obj) := fp.filterMap fun b => (h.get? b).map fun o => (b, o)
theorem mem_pinsAt {fp : List Addr} {h : Heap} {b : Addr} {o : Obj} (hb : b ∈ fp) (e : h.get? b = some o) : (b, o) ∈ pinsAt fp h := List.mem_filterMap.mpr ⟨b, hb, by rw [e]; rfl⟩
theorem of_pinsAt {fp : List Addr} {h : Heap} {p : Addr × Obj} (hp : p ∈ pinsAt fp h) : p.1 ∈ fp ∧ h.get? p.1 = some p.2 := by
  obtain ⟨b, hb, e⟩ := List.mem_filterMap.mp hp
  cases q : h.get? b with
  | none => rw [q] at e; cases e
  | some o =>
    rw [q] at e
    have e' : (b, o) = p := Option.some.inj e
    subst e'
    exact ⟨hb, q⟩
theorem Inv.pinned {pins : List (Addr × Obj)} {σ : St} {H : Hp} {s : Shared} {fp : List Addr} (I : Inv X pins σ H s) (hf : ∀ b ∈ fp, FpOk X pins H b) (ho : ∀ b ∈ fp, ∃ o, s.heap.get? b = some o ∧ ∀ v, o.data ≠ .cell v) : Inv X (pins ++ pinsAt fp s.heap) σ H s :=
  I.pins_of fun p hp => (List.mem_append.mp hp).elim (fun z => I.pin p (List.mem_append_right _ z)) fun z => by
    obtain ⟨hb, e⟩ := of_pinsAt z
    obtain ⟨f0, f1, f2, _⟩ := hf p.1 hb
    obtain ⟨o, e', d⟩ := ho p.1 hb
    rw [e] at e'; cases e'
    exact ⟨e, f0, f1, f2, d⟩
theorem Inv.unpinned {pins pl : List (Addr × Obj)} {σ : St} {H : Hp} {s : Shared} (I : Inv X (pins ++ pl) σ H s) : Inv X pins σ H s := I.pins_of fun p hp => I.pin p (List.mem_append_right _ (List.mem_append_left _ hp))
theorem ps_for {iter : Expr} {body : List Stmt} {wi : TI} {g : TG} {tb : TS} {pos : Pos} (hp : PassesOwn (model X.prog X.w) X.A X.env X.xe) (hc : X.calm = true) (hi : PI X tg iter wi) (hg : PG X tg g) (hb : PSs X body tb)
    (hs : ∀ x, foldedSetIterable iter X.env x = pure x := by intro _; rfl) : PS X (.For tg iter body [] pos) (tFor wi g tb) := by
  intro pins s σ H D I h
  refine wpAny_For (thn (hi pins s σ H _ I h) fun v s1 h1 => thn h1 fun itv s2 h2 => ?_) hs
  obtain ⟨it, fp, tn, J, H2, e, I2, T, st2, f2, W, ⟨m0, w0⟩, turn⟩ := h2
  subst e
  -- what stays true of the iterator's objects through the loop
  have stat : ∀ {H' : Hp}, (∀ b ∈ fp, H' b = none) → ∀ b ∈ fp, FpOk X pins H' b := fun hn b hb => ⟨hn b hb, (f2 b hb).2⟩
  refine codeAny_forLoop_any (fun n s' => ∃ i σ' H', Inv X pins σ' H' s' ∧ tn i s'.heap ∧ (∀ b ∈ fp, H' b = none) ∧ W i n σ' H') ?_ m0 ⟨0, σ, H2, I2, st2, fun b hb => (f2 b hb).1, w0⟩
  rintro n s3 ⟨i, σ3, H3, I3, st3, fr3, w3⟩
  rcases turn i n σ3 H3 w3 with ⟨stop, qn⟩ | ⟨go, N, hN, step⟩
  · refine wpAny_passesOwn hp (thn (T.done X rfl rfl rfl hc i pins s3 σ3 H3 X.xe I3 (stat fr3) st3 stop) fun r s4 ⟨hr, I4⟩ => ?_)
    subst hr
    exact wpAny_execs_nil ⟨σ3, H3, I4, qn⟩
  · refine wpAny_passesOwn hp (thn (T.item X rfl rfl rfl hc i pins s3 σ3 H3 X.xe I3 (stat fr3) st3 go) fun r s4 ⟨u, hr, h4⟩ => ?_)
    subst hr
    refine wpAny_passesOwn hp (thn h4 fun _ s5 ⟨x, H5, I5, r5, y5, st5, fr5⟩ => ?_)
    have I5' := I5.pinned (stat fr5) (T.obj _ _ st5)
    refine wpAny_passesOwn hp (thn (hg _ s5 σ3 H5 x u _ I5' r5 (step x H5 y5)) fun _ s6 ⟨σ6, H6, I6, q6⟩ => ?_)
    refine wpAny_passesOwn hp (thn (hb _ s6 σ6 H6 _ I6 q6) fun f s7 q7 => ?_)
    have again : ∀ {σ7 : St} {H7 : Hp}, Inv X (pins ++ pinsAt fp s5.heap) σ7 H7 s7 → N σ7 H7 → ∃ m, m < n ∧ ∃ i σ' H', Inv X pins σ' H' s7 ∧ tn i s7.heap ∧ (∀ b ∈ fp, H' b = none) ∧ W i m σ' H' := fun {σ7 H7} I7 n7 => by
      obtain ⟨m', hm, w7⟩ := hN σ7 H7 n7
      refine ⟨m', hm, i + 1, σ7, H7, I7.unpinned, T.keep _ _ _ st5 fun b hb o e => (I7.pin (b, o) (List.mem_append_right _ (List.mem_append_right _ (mem_pinsAt hb e)))).1, fun b hb => ?_, w7⟩
      obtain ⟨o, e, d⟩ := T.obj _ _ st5 b hb
      exact (I7.pin (b, o) (List.mem_append_right _ (List.mem_append_right _ (mem_pinsAt hb e)))).2.1
    cases f with
    | next => obtain ⟨σ7, H7, I7, n7⟩ := q7; exact again I7 n7
    | cont => obtain ⟨σ7, H7, I7, n7⟩ := q7; exact again I7 n7
    | brk => obtain ⟨σ7, H7, I7, q7⟩ := q7; exact ⟨σ7, H7, I7.unpinned, q7⟩
    | ret v => obtain ⟨x7, σ7, H7, I7, r7, q7⟩ := q7; exact ⟨x7, σ7, H7, I7.unpinned, r7, q7⟩
end

/-! ### the forms one uses -/
theorem for_range {lo : Int} {n : Nat} {g : TG} {tb : TS} {D : Ends} {σ : St} {H : Hp} (Pv : Nat → St → Hp → Prop) (h0 : Pv 0 σ H)
    (hs : ∀ i σ H, i < n → Pv i σ H → g (.int (lo + i)) σ H fun σ2 H2 => tb { D with nx := Pv (i + 1), ct := Pv (i + 1), bk := D.nx } σ2 H2) (hd : ∀ σ H, Pv n σ H → D.nx σ H) :
    ∃ W : Nat → Nat → St → Hp → Prop, (∃ m, W 0 m σ H) ∧ ∀ i m σ H, W i m σ H →
      ((Itr lo n).stop i H ∧ D.nx σ H) ∨ ((Itr lo n).go i H ∧ ∃ N : St → Hp → Prop, (∀ σ' H', N σ' H' → ∃ m', m' < m ∧ W (i + 1) m' σ' H') ∧ ∀ x H', (Itr lo n).yld i H x H' → g x σ H' fun σ2 H2 => tb { D with nx := N, ct := N, bk := D.nx } σ2 H2) := by
  refine ⟨fun i m σ H => m = n - i ∧ i ≤ n ∧ Pv i σ H, ⟨n, by simp, Nat.zero_le _, h0⟩, ?_⟩
  rintro i m σ H ⟨rfl, hi, p⟩
  by_cases hlt : i < n
  · refine .inr ⟨hlt, Pv (i + 1), fun σ' H' p' => ⟨n - (i + 1), by omega, rfl, hlt, p'⟩, fun x H' y => ?_⟩
    obtain ⟨e, y⟩ := y
    subst e y
    exact hs i σ _ hlt p
  · have e : i = n := by omega
    subst e
    exact .inl ⟨Nat.le_refl _, hd σ H p⟩
end L2

namespace L2
open PySem PySem.Spec PyProof.Rows

abbrev R2 := V → V → Hp → VK → Prop
/-- a two-place operation on values: f is binaryOp op, inplaceOp op or compareOp op -/
def OpR (X : Cx) (f : Value → Value → Sem Value) (r : R2) : Prop :=
  ∀ (pins : List (Addr × Obj)) (s : Shared) (σ : St) (H : Hp) (x y : V) (v u : Value) (Q : VK), Inv X pins σ H s → RelV x v → RelV y u → r x y H Q →
    wpAny (model X.prog X.w) X.A (f v u) (EP X pins σ Q) X.xe s
/-- a one-place operation -/
def UnR (X : Cx) (f : Value → Sem Value) (r : V → Hp → VK → Prop) : Prop :=
  ∀ (pins : List (Addr × Obj)) (s : Shared) (σ : St) (H : Hp) (x : V) (v : Value) (Q : VK), Inv X pins σ H s → RelV x v → r x H Q →
    wpAny (model X.prog X.w) X.A (f v) (EP X pins σ Q) X.xe s
/-- a call of a value that is known (a builtin, a type) with values -/
def CallR (X : Cx) (f : Value) (r : List V → Hp → VK → Prop) : Prop :=
  ∀ (pins : List (Addr × Obj)) (s : Shared) (σ : St) (H : Hp) (xs : List V) (us : List Value) (Q : VK), Inv X pins σ H s → Vals xs us → r xs H Q →
    wpAny (model X.prog X.w) X.A (call f us) (EP X pins σ Q) X.xe s
/-- a value's truth -/
def TruR (X : Cx) (r : V → Hp → (Bool → Hp → Prop) → Prop) : Prop :=
  ∀ (pins : List (Addr × Obj)) (s : Shared) (σ : St) (H : Hp) (x : V) (v : Value) (Q : Bool → Hp → Prop), Inv X pins σ H s → RelV x v → r x H Q →
    wpAny (model X.prog X.w) X.A (truthy v) (TP X pins σ Q) X.xe s

def tOp (r : R2) (ta tb : TE) : TE := fun σ H Q => ta σ H fun x H1 => tb σ H1 fun y H2 => r x y H2 Q
def tUn (r : V → Hp → VK → Prop) (ta : TE) : TE := fun σ H Q => ta σ H fun x H1 => r x H1 Q
/-- ints in, under C, and a value out -/
def rI (C : Int → Int → Prop) (g : Int → Int → V) : R2 := fun x y H Q => ∃ i j, x = .int i ∧ y = .int j ∧ C i j ∧ Q (g i j) H
def rI0 (g : Int → Int → V) : R2 := fun x y H Q => ∃ i j, x = .int i ∧ y = .int j ∧ Q (g i j) H
def rU (g : Int → V) : V → Hp → VK → Prop := fun x H Q => ∃ i, x = .int i ∧ Q (g i) H

section
variable {X : Cx} {a b c : Expr} {ta tb tc : TE} {pos : Pos}

theorem binT (ha : PE X a ta) (hb : PE X b tb) {pins : List (Addr × Obj)} {s : Shared} {σ : St} {H : Hp} {R : V → V → Hp → Prop} (I : Inv X pins σ H s)
    (h : ta σ H fun x H1 => tb σ H1 fun y H2 => R x y H2) {Q : Value → Shared → Prop} {f : Value → Value → Sem Value}
    (hf : ∀ v u s2 x y H2, Inv X pins σ H2 s2 → RelV x v → RelV y u → R x y H2 → wpAny (model X.prog X.w) X.A (f v u) Q X.xe s2) :
    wpAny (model X.prog X.w) X.A (eval a X.env) (fun v s₁ => wpAny (model X.prog X.w) X.A (eval b X.env) (fun u s₂ => wpAny (model X.prog X.w) X.A (f v u) Q X.xe s₂) X.xe s₁) X.xe s := by
  refine thn (ha pins s σ H _ I h) fun v s1 ⟨x, H1, I1, r1, q1⟩ => ?_
  refine thn (hb pins s1 σ H1 _ I1 q1) fun u s2 ⟨y, H2, I2, r2, q2⟩ => ?_
  exact hf v u s2 x y H2 I2 r1 r2 q2

theorem pe_op {op : Operator} {r : R2} (ho : OpR X (binaryOp op) r) (ha : PE X a ta) (hb : PE X b tb) : PE X (.BinOp a op b pos) (tOp r ta tb) := by
  intro pins s σ H Q I h
  exact wpAny_BinOp (binT ha hb I h fun v u s2 x y H2 I2 rx ry q => ho pins s2 σ H2 x y v u Q I2 rx ry q)
theorem pe_un {op : UnaryOp} {r : V → Hp → VK → Prop} (ho : UnR X (unaryOp op) r) (ha : PE X a ta) : PE X (.UnaryOp op a pos) (tUn r ta) := by
  intro pins s σ H Q I h
  exact UnaryOp_ (thn (ha pins s σ H _ I h) fun v s1 ⟨x, H1, I1, r1, q1⟩ => ho pins s1 σ H1 x v Q I1 r1 q1)
/-! ### ints -/
theorem opI {f : Value → Value → Sem Value} {C : Int → Int → Prop} {g : Int → Int → Int}
    (rule : ∀ (i j : Int) (t u : Tok) (s : Shared) (Q : Value → Shared → Prop) (E : Value → Shared → Prop), C i j → Q (.int (g i j) s.toks) { s with toks := s.toks + 1 } → wpAny (model X.prog X.w) X.A (f (.int i t) (.int j u)) Q E s) :
    OpR X f (rI C fun i j => .int (g i j)) := by
  intro pins s σ H x y v u Q I rx ry h
  obtain ⟨i, j, rfl, rfl, hc, q⟩ := h
  obtain ⟨t, rfl⟩ := rx
  obtain ⟨t', rfl⟩ := ry
  exact rule i j t t' s _ _ hc ⟨.int (g i j), H, I.tok _, ⟨_, rfl⟩, q⟩
theorem opI0 {f : Value → Value → Sem Value} {g : Int → Int → Int}
    (rule : ∀ (i j : Int) (t u : Tok) (s : Shared) (Q : Value → Shared → Prop) (E : Value → Shared → Prop), Q (.int (g i j) s.toks) { s with toks := s.toks + 1 } → wpAny (model X.prog X.w) X.A (f (.int i t) (.int j u)) Q E s) :
    OpR X f (rI0 fun i j => .int (g i j)) := by
  intro pins s σ H x y v u Q I rx ry h
  obtain ⟨i, j, rfl, rfl, q⟩ := h
  obtain ⟨t, rfl⟩ := rx
  obtain ⟨t', rfl⟩ := ry
  exact rule i j t t' s _ _ ⟨.int (g i j), H, I.tok _, ⟨_, rfl⟩, q⟩
theorem opB0 {f : Value → Value → Sem Value} {g : Int → Int → Bool}
    (rule : ∀ (i j : Int) (t u : Tok) (s : Shared) (Q : Value → Shared → Prop) (E : Value → Shared → Prop), Q (.bool (g i j)) s → wpAny (model X.prog X.w) X.A (f (.int i t) (.int j u)) Q E s) :
    OpR X f (rI0 fun i j => .bl (g i j)) := by
  intro pins s σ H x y v u Q I rx ry h
  obtain ⟨i, j, rfl, rfl, q⟩ := h
  obtain ⟨t, rfl⟩ := rx
  obtain ⟨t', rfl⟩ := ry
  exact rule i j t t' s _ _ ⟨.bl (g i j), H, I, rfl, q⟩

def CDiv (i j : Int) : Prop := 0 < j ∧ j < 1073741824
def CDivN (i j : Int) : Prop := j ≠ 0 ∧ j.natAbs < 1073741824
def CPow (i j : Int) : Prop := 0 ≤ j ∧ j ≤ 1000000 ∧ i.natAbs < 2 ^ 64
def CMul (i j : Int) : Prop := (-(2 ^ 64) < i ∧ i < 2 ^ 64) ∨ (-(2 ^ 64) < j ∧ j < 2 ^ 64)
theorem CMul.ok {i j : Int} (h : CMul i j) : IntMulOk i j := by
  rcases h with ⟨h1, h2⟩ | ⟨h1, h2⟩
  · exact .of_left (intBits_le_64 h1 h2)
  · exact .of_right (intBits_le_64 h1 h2)
theorem two_pow_nn (k : Nat) : (0 : Int) ≤ 2 ^ k := by
  rw [two_pow_cast]
  exact Int.natCast_nonneg _

theorem op_add : OpR X (binaryOp .Add) (rI0 fun i j => .int (i + j)) := opI0 fun _ _ _ _ _ _ _ q => add_int q
theorem op_sub : OpR X (binaryOp .Sub) (rI0 fun i j => .int (i - j)) := opI0 fun _ _ _ _ _ _ _ q => sub_int q
theorem op_mul : OpR X (binaryOp .Mult) (rI CMul fun i j => .int (i * j)) := opI fun _ _ _ _ _ _ _ hc q => mul_int q hc.ok
/-- % by a positive divisor of any size -/
theorem op_mod : OpR X (binaryOp .Mod) (rI (fun _ j => 0 < j) fun i j => .int (i % j)) := opI fun i j _ _ _ _ _ hc q => by
  have h1 : (0 : Int) < j := hc
  exact mod_int' (by omega) (by rw [Int.fmod_eq_emod_of_nonneg i (by omega)]; exact q)
theorem op_pow : OpR X (binaryOp .Pow) (rI CPow fun i j => .int (i ^ j.toNat)) := opI fun _ _ _ _ _ _ _ hc q => pow_int_small hc.1 hc.2.1 hc.2.2 q
theorem op_shl : OpR X (binaryOp .LShift) (rI CPow fun i j => .int (i * 2 ^ j.toNat)) := opI fun _ _ _ _ _ _ _ hc q => lshift_int_small hc.1 hc.2.1 hc.2.2 q
theorem op_shr : OpR X (binaryOp .RShift) (rI (fun _ j => 0 ≤ j) fun i j => .int (i / 2 ^ j.toNat)) := opI fun i j _ _ _ _ _ hc q =>
  rshift_int hc (by rw [Int.fdiv_eq_ediv_of_nonneg i (two_pow_nn _)]; exact q)
theorem unI {f : Value → Sem Value} {g : Int → Int}
    (rule : ∀ (i : Int) (t : Tok) (s : Shared) (Q : Value → Shared → Prop) (E : Value → Shared → Prop), Q (.int (g i) s.toks) { s with toks := s.toks + 1 } → wpAny (model X.prog X.w) X.A (f (.int i t)) Q E s) :
    UnR X f (rU fun i => .int (g i)) := by
  intro pins s σ H x v Q I rx h
  obtain ⟨i, rfl, q⟩ := h
  obtain ⟨t, rfl⟩ := rx
  exact rule i t s _ _ ⟨.int (g i), H, I.tok _, ⟨_, rfl⟩, q⟩
theorem un_neg : UnR X (unaryOp .USub) (rU fun i => .int (-i)) := unI fun _ _ _ _ _ q => neg_int q
/-! ### bools among ints: n += (a < b) -/
end

/-! ### comparisons -/
/-- the scalars that == tells apart as data does -/
def scal : V → V → Bool
  | .non, .non => true | .non, .int _ => true | .int _, .non => true | .non, .bl _ => true | .bl _, .non => true | .non, .str _ => true | .str _, .non => true
  | .int _, .int _ => true | .bl _, .bl _ => true | .str _, .str _ => true | .byt _, .byt _ => true
  | .int _, .str _ => true | .str _, .int _ => true | .bl _, .str _ => true | .str _, .bl _ => true
  | _, _ => false
def rEq : R2 := fun x y H Q => scal x y = true ∧ Q (.bl (decide (x = y))) H
def rNe : R2 := fun x y H Q => scal x y = true ∧ Q (.bl (!decide (x = y))) H

theorem dec_int {i j : Int} : decide (V.int i = V.int j) = (i == j) := by
  rw [Bool.eq_iff_iff]
  simp
theorem dec_bl {i j : Bool} : decide (V.bl i = V.bl j) = (i == j) := by
  rw [Bool.eq_iff_iff]
  simp
theorem dec_str {i j : Str} : decide (V.str i = V.str j) = (i == j) := by
  rw [Bool.eq_iff_iff]
  simp
theorem dec_byt {i j : Array UInt8} : decide (V.byt i = V.byt j) = (i.toList == j.toList) := by
  rw [Bool.eq_iff_iff]
  cases i
  cases j
  simp

section
variable {X : Cx} {a b c : Expr} {ta tb tc : TE} {pos : Pos}
theorem fin_bl {pins : List (Addr × Obj)} {σ : St} {H : Hp} {s : Shared} {Q : VK} {k k' : Bool} (I : Inv X pins σ H s) (q : Q (.bl k) H) (e : k = k') : EP X pins σ Q (.bool k') s := by
  subst e
  exact ⟨.bl k, H, I, rfl, q⟩
theorem op_eq : OpR X (compareOp .Eq) rEq := by
  intro pins s σ H x y v u Q I rx ry h
  obtain ⟨hs, q⟩ := h
  cases x with
  | non =>
    cases rx
    cases y with
    | non => cases ry; exact PySem.EqNone.eq_none_none (fin_bl I q (by simp))
    | bl j => cases ry; exact PySem.EqNone.eq_none_bool (fin_bl I q (by simp))
    | int j => obtain ⟨t', rfl⟩ := ry; exact PySem.EqNone.eq_none_int (fin_bl I q (by simp))
    | str j => obtain ⟨t', rfl⟩ := ry; exact PySem.EqNone.eq_none_str (fin_bl I q (by simp))
    | _ => exact absurd (show false = true from hs) Bool.false_ne_true
  | bl i =>
    cases rx
    cases y with
    | non => cases ry; exact PySem.EqNone.eq_bool_none (fin_bl I q (by simp))
    | bl j => cases ry; exact eq_bool (fin_bl I q dec_bl)
    | str j => obtain ⟨t', rfl⟩ := ry; exact PySem.EqMixed.eq_bool_str (fin_bl I q (by simp))
    | _ => exact absurd (show false = true from hs) Bool.false_ne_true
  | int i =>
    obtain ⟨t, rfl⟩ := rx
    cases y with
    | non => cases ry; exact PySem.EqNone.eq_int_none (fin_bl I q (by simp))
    | int j => obtain ⟨t', rfl⟩ := ry; exact eq_int (fin_bl I q dec_int)
    | str j => obtain ⟨t', rfl⟩ := ry; exact PySem.EqMixed.eq_int_str (fin_bl I q (by simp))
    | _ => exact absurd (show false = true from hs) Bool.false_ne_true
  | str i =>
    obtain ⟨t, rfl⟩ := rx
    cases y with
    | non => cases ry; exact PySem.EqNone.eq_str_none (fin_bl I q (by simp))
    | bl j => cases ry; exact PySem.EqMixed.eq_str_bool (fin_bl I q (by simp))
    | int j => obtain ⟨t', rfl⟩ := ry; exact PySem.EqMixed.eq_str_int (fin_bl I q (by simp))
    | str j => obtain ⟨t', rfl⟩ := ry; exact eq_str (fin_bl I q dec_str)
    | _ => exact absurd (show false = true from hs) Bool.false_ne_true
  | byt i =>
    obtain ⟨t, rfl⟩ := rx
    cases y with
    | byt j => obtain ⟨t', rfl⟩ := ry; exact PySem.W.eq_bytes (fin_bl I q dec_byt)
    | _ => exact absurd (show false = true from hs) Bool.false_ne_true
  | _ => cases y <;> exact absurd (show false = true from hs) Bool.false_ne_true
theorem op_ne : OpR X (compareOp .NotEq) rNe := by
  intro pins s σ H x y v u Q I rx ry h
  obtain ⟨hs, q⟩ := h
  cases x with
  | non =>
    cases rx
    cases y with
    | non => cases ry; exact PySem.EqNone.ne_none_none (fin_bl I q (by simp))
    | bl j => cases ry; exact PySem.EqNone.ne_none_bool (fin_bl I q (by simp))
    | int j => obtain ⟨t', rfl⟩ := ry; exact PySem.EqNone.ne_none_int (fin_bl I q (by simp))
    | str j => obtain ⟨t', rfl⟩ := ry; exact PySem.EqNone.ne_none_str (fin_bl I q (by simp))
    | _ => exact absurd (show false = true from hs) Bool.false_ne_true
  | bl i =>
    cases rx
    cases y with
    | non => cases ry; exact PySem.EqNone.ne_bool_none (fin_bl I q (by simp))
    | bl j => cases ry; exact ne_bool (fin_bl I q (congrArg not dec_bl))
    | str j => obtain ⟨t', rfl⟩ := ry; exact PySem.EqMixed.ne_bool_str (fin_bl I q (by simp))
    | _ => exact absurd (show false = true from hs) Bool.false_ne_true
  | int i =>
    obtain ⟨t, rfl⟩ := rx
    cases y with
    | non => cases ry; exact PySem.EqNone.ne_int_none (fin_bl I q (by simp))
    | int j => obtain ⟨t', rfl⟩ := ry; exact ne_int (fin_bl I q (congrArg not dec_int))
    | str j => obtain ⟨t', rfl⟩ := ry; exact PySem.EqMixed.ne_int_str (fin_bl I q (by simp))
    | _ => exact absurd (show false = true from hs) Bool.false_ne_true
  | str i =>
    obtain ⟨t, rfl⟩ := rx
    cases y with
    | non => cases ry; exact PySem.EqNone.ne_str_none (fin_bl I q (by simp))
    | bl j => cases ry; exact PySem.EqMixed.ne_str_bool (fin_bl I q (by simp))
    | int j => obtain ⟨t', rfl⟩ := ry; exact PySem.EqMixed.ne_str_int (fin_bl I q (by simp))
    | str j => obtain ⟨t', rfl⟩ := ry; exact ne_str (fin_bl I q (congrArg not dec_str))
    | _ => exact absurd (show false = true from hs) Bool.false_ne_true
  | byt i =>
    obtain ⟨t, rfl⟩ := rx
    cases y with
    | byt j => obtain ⟨t', rfl⟩ := ry; exact PySem.W.ne_bytes (fin_bl I q (congrArg not dec_byt))
    | _ => exact absurd (show false = true from hs) Bool.false_ne_true
  | _ => cases y <;> exact absurd (show false = true from hs) Bool.false_ne_true

theorem op_lt : OpR X (compareOp .Lt) (rI0 fun i j => .bl (decide (i < j))) := opB0 fun _ _ _ _ _ _ _ q => lt_int q
theorem op_le : OpR X (compareOp .LtE) (rI0 fun i j => .bl (decide (i ≤ j))) := opB0 fun _ _ _ _ _ _ _ q => le_int q
theorem op_gt : OpR X (compareOp .Gt) (rI0 fun i j => .bl (decide (j < i))) := opB0 fun _ _ _ _ _ _ _ q => gt_int q
theorem op_ge : OpR X (compareOp .GtE) (rI0 fun i j => .bl (decide (j ≤ i))) := opB0 fun _ _ _ _ _ _ _ q => ge_int q
/-- is, is not of two objects that are tracked lists or instances -/
def isObj : HO → Bool
  | .lst _ => true
  | .ins _ _ _ => true
  | _ => false
theorem obj_there {pins : List (Addr × Obj)} {s : Shared} {σ : St} {H : Hp} {a : Addr} {o : HO} (I : Inv X pins σ H s) (h : H a = some o) (p : isObj o = true) : ∃ ob, s.heap.get? a = some ob ∧ ob.cls ≠ .type "tuple" := by
  cases o with
  | lst xs =>
    obtain ⟨_, its, n, _, e⟩ : xs.length ≤ sizeLine ∧ ∃ (its : List Value) (n : Nat), Vals xs its ∧ s.heap.get? a = some { cls := .type "list", data := .seq its.toArray n } := I.hok a _ h
    exact ⟨_, e, (by show Value.type "list" ≠ .type "tuple"; decide +kernel)⟩
  | ins C dx fs =>
    have x := I.hok a _ h
    obtain ⟨_, _, _, e, _⟩ := x
    exact ⟨_, e, (by show Value.ref C ≠ .type "tuple"; exact fun z => by cases z)⟩
  | _ => exact absurd (show false = true from p) Bool.false_ne_true
/-- two rules for one operation: by cases -/
theorem OpR.or {f : Value → Value → Sem Value} {r r' : R2} (h : OpR X f r) (h' : OpR X f r') : OpR X f (fun x y H Q => r x y H Q ∨ r' x y H Q) := by
  intro pins s σ H x y v u Q I rx ry q
  rcases q with q | q
  · exact h pins s σ H x y v u Q I rx ry q
  · exact h' pins s σ H x y v u Q I rx ry q

theorem nomark (b : Expr) {op : CmpOp} (h : op ≠ .In := by decide) (h2 : op ≠ .NotIn := by decide) : behindInMarks op b = false := by
  have e1 : (op == CmpOp.In) = false := by cases op <;> first | rfl | exact absurd rfl h
  have e2 : (op == CmpOp.NotIn) = false := by cases op <;> first | rfl | exact absurd rfl h2
  cases b <;> simp [behindInMarks, e1, e2]
/-- a comparison as a value; hm: nomark b, or (for in, not in) by with_unfolding_all rfl -/
theorem pe_cmpR {op : CmpOp} {r : R2} (ho : OpR X (compareOp op) r) (ha : PE X a ta) (hb : PE X b tb) (hm : behindInMarks op b = false) : PE X (.Compare a [op] [b] pos) (tOp r ta tb) := by
  intro pins s σ H Q I h
  exact wpAny_Compare1 (binT ha hb I h fun v u s2 x y H2 I2 rx ry q => ho pins s2 σ H2 x y v u Q I2 rx ry q) hm
/-- a reading of a value as a test -/
def tTest (t : TE) : TT := fun σ H Q => t σ H fun x H' => ∃ k, x = .bl k ∧ Q k H'
theorem pt_cmpR {op : CmpOp} {r : R2} (ho : OpR X (compareOp op) r) (ha : PE X a ta) (hb : PE X b tb) (hm : behindInMarks op b = false) : PT X (.Compare a [op] [b] pos) (tTest (tOp r ta tb)) := by
  intro pins s σ H Q I h
  refine wpAny_isTrue_Compare1 (thn (ha pins s σ H _ I h) fun v s1 ⟨x, H1, I1, r1, q1⟩ => thn (hb pins s1 σ H1 _ I1 q1) fun u s2 ⟨y, H2, I2, r2, q2⟩ =>
    thn (ho pins s2 σ H2 x y v u _ I2 r1 r2 q2) fun c s3 ⟨z, H3, I3, r3, k, e, q3⟩ => ?_) hm
  subst e
  cases r3
  exact wpAny_truthy_bool ⟨H3, I3, q3⟩
/-- a op1 b op2 c -/
def tChain (r r' : R2) (ta tb tc : TE) : TE := fun σ H Q => ta σ H fun x H1 => tb σ H1 fun y H2 => r x y H2 fun z H3 => ∃ k, z = .bl k ∧
  (if k = true then tc σ H3 fun w' H4 => r' y w' H4 Q else Q (.bl false) H3)
theorem pe_chain {op op' : CmpOp} {r r' : R2} (ho : OpR X (compareOp op) r) (ho' : OpR X (compareOp op') r') (ha : PE X a ta) (hb : PE X b tb) (hc : PE X c tc)
    (hm : lastMarks [op, op'] [b, c] = false := by with_unfolding_all rfl) : PE X (.Compare a [op, op'] [b, c] pos) (tChain r r' ta tb tc) := by
  intro pins s σ H Q I h
  refine Compare_chain (thn (ha pins s σ H _ I h) fun v s1 ⟨x, H1, I1, r1, q1⟩ => chain_link (thn (hb pins s1 σ H1 _ I1 q1) fun u s2 ⟨y, H2, I2, r2, q2⟩ =>
    thn (ho pins s2 σ H2 x y v u _ I2 r1 r2 q2) fun d s3 ⟨z, H3, I3, r3, k, e, q3⟩ => ?_)) hm
  subst e
  cases r3
  refine wpAny_truthy_bool ?_
  cases k with
  | false => exact ite_ff ⟨.bl false, H3, I3, rfl, q3⟩
  | true => exact ite_tt (chain_last (thn (hc pins s3 σ H3 _ I3 q3) fun w' s4 ⟨z', H4, I4, r4, q4⟩ => ho' pins s4 σ H4 y z' u w' Q I4 r2 r4 q4))
/-! ### truth -/
/-- a value's truth by the abstract heap -/
def TruV (K : PySem.W.Frag) (x : V) (H : Hp) (k : Bool) : Prop :=
  match x with
  | .non => k = false
  | .bl b => k = b
  | .int i => k = (i != 0)
  | .str y => y.length ≤ sizeLine ∧ k = ((y.length : Int) != 0)
  | .byt y => y.size ≤ sizeLine ∧ k = ((y.size : Int) != 0)
  | .ref p => (∃ xs, SqL K H p xs ∧ k = !xs.isEmpty) ∨ (∃ xs, SqT K H p xs ∧ k = !xs.isEmpty) ∨ ∃ kvs, H p = some (.dK kvs) ∧ k = !kvs.isEmpty
  | _ => False
theorem line63 : (sizeLine : Nat) < 2 ^ 63 := by rw [sizeLine_eq]; decide
/-! ### strs and bytes -/
def PlainIxT (b : Expr) : Prop := ∀ o i, subscripted b false o i = operate [o, i] (getItem o i)
/-! ### scalar builtins, by CallR -/
theorem vals1 {x : V} {us : List Value} (r : Vals [x] us) : ∃ u, us = [u] ∧ RelV x u := by
  cases r with
  | cons r1 r2 => cases r2; exact ⟨_, rfl, r1⟩
theorem vals2 {x y : V} {us : List Value} (r : Vals [x, y] us) : ∃ u w', us = [u, w'] ∧ RelV x u ∧ RelV y w' := by
  cases r with
  | cons r1 r2 =>
    cases r2 with
    | cons r3 r4 => cases r4; exact ⟨_, _, rfl, r1, r3⟩
theorem call_abs : CallR X (.builtin "abs") (fun xs H Q => ∃ i, xs = [.int i] ∧ Q (.int (if i < 0 then -i else i)) H) := by
  intro pins s σ H xs us Q I r h
  obtain ⟨i, rfl, q⟩ := h
  obtain ⟨u, rfl, t, rfl⟩ := vals1 r
  exact call_abs_int fun u tk => ⟨.int (if i < 0 then -i else i), H, I.tok _, ⟨_, rfl⟩, q⟩
theorem call_max2 (hc : X.calm = true) : CallR X (.builtin "max") (fun xs H Q => ∃ i j, xs = [.int i, .int j] ∧ Q (.int (if j > i then j else i)) H) := by
  intro pins s σ H xs us Q I r h
  obtain ⟨i, j, rfl, q⟩ := h
  obtain ⟨u, w', rfl, ⟨t, rfl⟩, ⟨t', rfl⟩⟩ := vals2 r
  refine max_two_ints (I.ok.hd hc) fun h' tk k => ⟨_, H, I.kept k, ?_, q⟩
  by_cases hj : j > i
  · rw [if_pos hj, if_pos hj]; exact ⟨_, rfl⟩
  · rw [if_neg hj, if_neg hj]; exact ⟨_, rfl⟩
theorem call_min2 (hc : X.calm = true) : CallR X (.builtin "min") (fun xs H Q => ∃ i j, xs = [.int i, .int j] ∧ Q (.int (if j < i then j else i)) H) := by
  intro pins s σ H xs us Q I r h
  obtain ⟨i, j, rfl, q⟩ := h
  obtain ⟨u, w', rfl, ⟨t, rfl⟩, ⟨t', rfl⟩⟩ := vals2 r
  refine min_two_ints (I.ok.hd hc) fun h' tk k => ⟨_, H, I.kept k, ?_, q⟩
  by_cases hj : j < i
  · rw [if_pos hj, if_pos hj]; exact ⟨_, rfl⟩
  · rw [if_neg hj, if_neg hj]; exact ⟨_, rfl⟩
theorem call_int1 : CallR X (.type "int") (fun xs H Q => (∃ i, xs = [.int i] ∧ Q (.int i) H) ∨ ∃ k, xs = [.bl k] ∧ Q (.int (if k then 1 else 0)) H) := by
  intro pins s σ H xs us Q I r h
  rcases h with ⟨i, rfl, q⟩ | ⟨k, rfl, q⟩
  · obtain ⟨u, rfl, t, rfl⟩ := vals1 r
    exact call_int_int ⟨.int i, H, I, ⟨_, rfl⟩, q⟩
  · obtain ⟨u, rfl, r1⟩ := vals1 r
    cases r1
    exact call_int_bool ⟨.int (if k then 1 else 0), H, I.tok _, ⟨_, rfl⟩, q⟩
/-- len of a str, a bytes, a list, a tuple -/
def LenV (K : PySem.W.Frag) (x : V) (H : Hp) (n : Nat) : Prop :=
  match x with
  | .str y => y.length ≤ sizeLine ∧ n = y.length
  | .byt y => y.size ≤ sizeLine ∧ n = y.size
  | .ref p => (∃ xs, SqL K H p xs ∧ n = xs.length) ∨ ∃ xs, SqT K H p xs ∧ n = xs.length
  | _ => False
end
end L2

namespace L2
open PySem PySem.Spec PyProof.Rows

/-! ### an instance, its attributes a map -/
structure ObjM (h : Heap) (x dx C : Addr) (mA : Str → Option Value) : Prop where
  obj : h.get? x = some (PySem.W.instObj C dx)
  ns : h.Ns1 dx mA
  ne : dx ≠ x

theorem lookIn_ns {h : Heap} {dx : Addr} {mA : Str → Option Value} (n : h.Ns1 dx mA) : ∃ od, h.get? dx = some od ∧ ∀ name, PySem.W.lookIn name od = some (mA name) := by
  obtain ⟨o, es, ep, ho, hd, hk, _, hm⟩ := n
  refine ⟨o, ho, fun name => ?_⟩
  have e := hm name
  unfold nsFind findBy at e
  rw [← Array.find?_toList] at e
  unfold PySem.W.lookIn
  rw [hd]
  dsimp only
  split
  · rename_i y q
    rw [q] at e
    exact congrArg some e
  · rename_i q
    rw [q] at e
    have a : es.toList.any (·.refKey) = false := by
      rw [List.any_eq_false]
      intro y hy
      obtain ⟨z, t, hkey⟩ := hk y (Array.mem_toList_iff.mp hy)
      simp [DictEntry.refKey, hkey]
    have a' : ¬ es.toList.any (·.refKey) = true := by rw [a]; exact Bool.false_ne_true
    rw [if_neg a']
    exact congrArg some e

theorem ObjM.look {h : Heap} {x dx C : Addr} {mA : Str → Option Value} (I : ObjM h x dx C mA) : ∃ od, PySem.W.InstAt h x (PySem.W.instObj C dx) C (some od) ∧ ∀ name, PySem.W.lookIn name od = some (mA name) :=
  let ⟨od, ho, hl⟩ := lookIn_ns I.ns
  ⟨od, ⟨I.obj, rfl, rfl, ho⟩, hl⟩

section
variable {prog : Program} {w : World} {A : Around} {E : Value → Shared → Prop} {s : Shared} {K : PySem.W.Frag} {x dx C f : Addr} {mA : Str → Option Value} {name : Str} {v : Value}

theorem get_map {expr : Bool} {Q : Value → Shared → Prop} (X : K.In s.heap) (I : ObjM s.heap x dx C mA) (hg : PySem.W.plainGet K C name = true) (hh : PySem.W.hasDictIn K C = true)
    (ha : PySem.W.findIn K (.ref C) name = some none) (hv : mA name = some v) (hv' : PySem.W.handedIn v = true) (h : Q v { s with toks := s.toks + 1 }) :
    wpAny (model prog w) A (getAttr (.ref x) name expr) Q E s := by
  obtain ⟨od, J, hl⟩ := I.look
  exact PySem.W.get_value X J (PySem.W.plainGet_of hg).1 (PySem.W.findObj_own hh ha rfl (by rw [hl, hv])) hv' h

theorem get_meth {pl : Sem Bool} {Q : Value × List Value → Shared → Prop} (X : K.In s.heap) (I : ObjM s.heap x dx C mA) (hg : PySem.W.plainGet K C name = true)
    (hf : PySem.W.findIn K (.ref C) name = some (some (.ref f))) (ht : PySem.W.isFn K (.ref f) = true) (hv : mA name = none) (h : Q (.ref f, [.ref x]) s) :
    wpAny (model prog w) A (getMethod (.ref x) name pl) Q E s := by
  obtain ⟨od, J, hl⟩ := I.look
  exact PySem.W.method_fn X J (PySem.W.plainGet_of hg).1 (PySem.W.plainGet_of hg).2 hf (beq_iff_eq.mp ht) (by show (PySem.W.lookIn name od).map (·.isSome) = some false; rw [hl, hv]; rfl) h

theorem set_map {ns : List Str} {Q : Unit → Shared → Prop} (X : K.In s.heap) (I : ObjM s.heap x dx C mA)
    (hs : PySem.W.findIn K (.ref C) "__setattr__" = some (some (.builtin "object.__setattr__"))) (hp : PySem.W.plainOver K C = true) (ht : PySem.W.takerIn K C name = some none) (hh : PySem.W.hasDictIn K C = true)
    (hw : PySem.Within mA ns) (hsz : ns.length ≤ sizeLine)
    (h : ∀ h', ObjM h' x dx C (fun y => if y = name then some v else mA y) → Heap.SameBut dx s.heap h' → Q () { s with heap := h', toks := s.toks + 2 }) :
    wpAny (model prog w) A (setAttr (.ref x) name v) Q E s := by
  obtain ⟨od, J, hl⟩ := I.look
  refine PySem.W.set_plain X J hs (PySem.W.osa_open (s := { s with toks := s.toks + 1 }) (r := none) X J hp ht fun b => ?_)
  obtain ⟨cd, hc, hd'⟩ := PySem.W.any_some hh
  have hx : s.heap.get? x = some ⟨.ref C, some dx, .plain, #[]⟩ := I.obj
  refine wpAny_bind (wpAny_pure (wpAny_bind (wpAny_bind (wpAny_loadPart hx (wpAny_bind (PySem.W.Looks.here (s := { s with toks := s.toks + 1 }) (PySem.W.looks_clsIn X hc) ?_))))))
  rw [hd']
  refine wpAny_pure (a := some dx) (wpAny_bind (wpAny_pure (wpAny_bind ?_)))
  refine wpAny_nsSet1 (s := { s with toks := s.toks + 1 }) I.ns fun h' hn2 hs2 => ?_
  obtain ⟨oD, esD, epD, hoD, hdD, hcD⟩ := hn2.count (PySem.Within.cons name v hw)
  refine wpAny_bind (wpAny_lookBehind hoD (by rw [hdD]; exact pastItsLine_dict (Nat.le_trans hcD (by rw [List.length_cons]; omega))) ?_)
  exact wpAny_pure (h _ ⟨(hs2.2 _ (Ne.symm I.ne)).trans I.obj, hn2, I.ne⟩ hs2)

/-- C(..): the dict at the heap's end, the instance behind it; then its __init__ -/
theorem make_map {R : Result → Shared → Prop} {vs : List Value} {kw : List (Str × Value)} (X : K.In s.heap) (hm : PySem.W.makesIn K C = true)
    (hi : PySem.W.findIn K (.ref C) "__init__" = some (some (.ref f))) (hf : PySem.W.typeIn K (.ref f) = some (.type "function"))
    (h : codeAny (model prog w) (A.under (.builtin "type.__call__" ⟨.ref C :: vs, kw⟩)) (.call (.ref f) ⟨.ref (s.heap.objs.size + 1) :: vs, kw⟩) (PySem.W.InitBack (s.heap.objs.size + 1) R)
      { s with heap := (s.heap.push PySem.W.emptyDict).push (PySem.W.instObj C s.heap.objs.size) }) :
    codeAny (model prog w) A (.call (.ref C) ⟨vs, kw⟩) R s := by
  obtain ⟨hh, g, d, t, os⟩ := s
  exact PySem.W.make_core (PySem.W.makes_of X hm) (PySem.W.looks_findIn X hi) (fun self => PySem.W.bind_fn X self hf) (.inl rfl) h
end

/-! ### the attributes as a list of pairs -/
def putF (f : Str) (v : V) : List (Str × V) → List (Str × V)
  | [] => [(f, v)]
  | (g, x) :: r => if g = f then (g, v) :: r else (g, x) :: putF f v r
theorem lookup_putF (f g : Str) (v : V) : ∀ fs : List (Str × V), (putF f v fs).lookup g = if g = f then some v else fs.lookup g
  | [] => by
    show List.lookup g [(f, v)] = _
    by_cases h : g = f
    · have hb : (g == f) = true := beq_iff_eq.mpr h
      simp only [List.lookup, hb, if_pos h]
    · have hb : (g == f) = false := beq_eq_false_iff_ne.mpr h
      simp only [List.lookup, hb, if_neg h]
  | (k, x) :: r => by
    have ih := lookup_putF f g v r
    rw [show putF f v ((k, x) :: r) = (if k = f then (k, v) :: r else (k, x) :: putF f v r) from rfl]
    by_cases hk : k = f
    · rw [if_pos hk]
      by_cases h : g = k
      · have hb : (g == k) = true := beq_iff_eq.mpr h
        simp only [List.lookup, hb, if_pos (h.trans hk)]
      · have hb : (g == k) = false := beq_eq_false_iff_ne.mpr h
        simp only [List.lookup, hb, if_neg (fun e : g = f => h (e.trans hk.symm))]
    · rw [if_neg hk]
      by_cases h : g = k
      · have hb : (g == k) = true := beq_iff_eq.mpr h
        simp only [List.lookup, hb, if_neg (fun e : g = f => hk (h.symm.trans e))]
      · have hb : (g == k) = false := beq_eq_false_iff_ne.mpr h
        simp only [List.lookup, hb]
        exact ih
theorem keys_putF (f : Str) (v : V) : ∀ fs : List (Str × V), f ∈ (putF f v fs).map (·.1) ∧ ∀ g, g ∈ fs.map (·.1) → g ∈ (putF f v fs).map (·.1)
  | [] => ⟨by simp [putF], fun g h => by simp at h⟩
  | (k, x) :: r => by
    obtain ⟨i1, i2⟩ := keys_putF f v r
    rw [show putF f v ((k, x) :: r) = (if k = f then (k, v) :: r else (k, x) :: putF f v r) from rfl]
    by_cases hk : k = f
    · rw [if_pos hk]
      subst hk
      exact ⟨by simp, fun g h => by simpa using h⟩
    · rw [if_neg hk]
      refine ⟨?_, fun g h => ?_⟩
      · rw [List.map_cons]
        exact List.mem_cons_of_mem _ i1
      · rw [List.map_cons] at h ⊢
        rcases List.mem_cons.mp h with e | e
        · exact List.mem_cons.mpr (.inl e)
        · exact List.mem_cons_of_mem _ (i2 g e)
theorem length_putF (f : Str) (v : V) : ∀ fs : List (Str × V), (putF f v fs).length ≤ fs.length + 1
  | [] => by simp [putF]
  | (k, x) :: r => by
    have ih := length_putF f v r
    rw [show putF f v ((k, x) :: r) = (if k = f then (k, v) :: r else (k, x) :: putF f v r) from rfl]
    by_cases hk : k = f
    · rw [if_pos hk, List.length_cons, List.length_cons]; omega
    · rw [if_neg hk, List.length_cons, List.length_cons]; omega

theorem RelO.some_of {v : V} {o : Option Value} (r : RelO (some v) o) : ∃ u, o = some u ∧ RelV v u := by
  cases o with
  | none => exact (show False from r).elim
  | some u => exact ⟨u, rfl, r⟩
theorem RelO.none_of {o : Option Value} (r : RelO none o) : o = none := by
  cases o with
  | none => rfl
  | some u => exact (show False from r).elim
theorem handed_of {v : V} {u : Value} (r : RelV v u) : PySem.W.handedIn u = true := by
  cases v with
  | non => cases (show u = Value.none from r); rfl
  | bl b => cases (show u = Value.bool b from r); rfl
  | int i => obtain ⟨t, e⟩ := (show ∃ t, u = Value.int i t from r); cases e; rfl
  | str x => obtain ⟨t, e⟩ := (show ∃ t, u = Value.str x t from r); cases e; rfl
  | byt b => obtain ⟨t, e⟩ := (show ∃ t, u = Value.bytes b t from r); cases e; rfl
  | flt b => obtain ⟨t, e⟩ := (show ∃ t, u = Value.float b t from r); cases e; rfl
  | ref a => cases (show u = Value.ref a from r); rfl
  | ty n => cases (show u = Value.type n from r); rfl

section
variable {P : Program} {w : World} {H H' : Hp} {h h' : Heap} {a C dx : Addr} {fs fs' : List (Str × V)}
theorem ins_get (hok : HOk P w H h) (e : H a = some (.ins C dx fs)) : ∃ mA, ObjM h a dx C mA ∧ (∀ f, RelO (fs.lookup f) (mA f)) ∧ PySem.Within mA (fs.map (·.1)) ∧ fs.length ≤ 1000 ∧ H dx = some (.own a) := by
  obtain ⟨d, z, ne, ob, mA, n, r, q⟩ := (show ObjOk P w H h a (.ins C dx fs) from hok a _ e)
  exact ⟨mA, ⟨ob, n, ne⟩, r, q, z, d⟩
end

/-! ### what of the text a class must have -/
structure Cls (K : PySem.W.Frag) (C : Addr) : Prop where
  pg : PySem.W.plainGet K C Str.empty = true
  hd : PySem.W.hasDictIn K C = true
  po : PySem.W.plainOver K C = true
  sa : PySem.W.findIn K (.ref C) "__setattr__" = some (some (.builtin "object.__setattr__"))
theorem Cls.get {K : PySem.W.Frag} {C : Addr} (c : Cls K C) (f : Str) : PySem.W.plainGet K C f = true := c.pg
/-- no class of it has the name -/
def NoAttr (K : PySem.W.Frag) (C : Addr) (f : Str) : Prop := PySem.W.findIn K (.ref C) f = some none
theorem NoAttr.taker {K : PySem.W.Frag} {C : Addr} {f : Str} (n : NoAttr K C f) : PySem.W.takerIn K C f = some none := by
  unfold PySem.W.takerIn
  rw [show PySem.W.findIn K (.ref C) f = some none from n]
  rfl
/-- a constant of the class -/
structure Con (K : PySem.W.Frag) (C : Addr) (f : Str) (v : V) (u : Value) : Prop where
  at_ : PySem.W.findIn K (.ref C) f = some (some u)
  rel : RelV v u
  get : PySem.W.specialIn K u "__get__" = some none
  cp : PySem.W.copiedNames.contains f = false
/-- a method: a plain def of the class or of one above it -/
structure Meth (K : PySem.W.Frag) (C : Addr) (m : Str) (f : Addr) : Prop where
  at_ : PySem.W.findIn K (.ref C) m = some (some (.ref f))
  fn : PySem.W.isFn K (.ref f) = true
  kp : PySem.W.keepIn K (.ref f) = true

section
variable {X : Cx} {pins : List (Addr × Obj)} {σ : St} {H : Hp} {s : Shared} {a C dx : Addr} {fs : List (Str × V)} {f : Str} {v : V} {A : Around} {E : Value → Shared → Prop}

theorem getattr_ok {b : Bool} {Q : Value → Shared → Prop} (I : Inv X pins σ H s) (e : H a = some (.ins C dx fs)) (c : Cls X.K C) (n : NoAttr X.K C f) (l : fs.lookup f = some v)
    (h : ∀ u s', Inv X pins σ H s' → RelV v u → Q u s') : wpAny (model X.prog X.w) A (getAttr (.ref a) f b) Q E s := by
  obtain ⟨mA, O, r, _, _, _⟩ := ins_get I.hok e
  obtain ⟨u, hu, ru⟩ := RelO.some_of (v := v) (o := mA f) (by rw [← l]; exact r f)
  exact get_map I.kIn O (c.get f) c.hd n hu (handed_of ru) (h u _ (I.tok _) ru)

theorem getmeth_ok {m : Str} {g : Addr} {pl : Sem Bool} {Q : Value × List Value → Shared → Prop} (I : Inv X pins σ H s) (e : H a = some (.ins C dx fs)) (c : Cls X.K C) (k : Meth X.K C m g) (l : fs.lookup m = none)
    (h : Q (.ref g, [.ref a]) s) : wpAny (model X.prog X.w) A (getMethod (.ref a) m pl) Q E s := by
  obtain ⟨mA, O, r, _, _, _⟩ := ins_get I.hok e
  have hn : mA m = none := RelO.none_of (by rw [← l]; exact r m)
  exact get_meth I.kIn O (c.get m) k.at_ k.fn hn h

theorem setattr_ok {y : V} {u : Value} {Q : Unit → Shared → Prop} (I : Inv X pins σ H s) (e : H a = some (.ins C dx fs)) (c : Cls X.K C) (n : NoAttr X.K C f) (hl : fs.length < 1000) (ry : RelV y u)
    (h : ∀ s', Inv X pins σ (upd H a (.ins C dx (putF f y fs))) s' → Q () s') : wpAny (model X.prog X.w) A (setAttr (.ref a) f u) Q E s := by
  obtain ⟨mA, O, r, wi, _, ho⟩ := ins_get I.hok e
  have hz : (fs.map (·.1)).length ≤ sizeLine := by rw [List.length_map, sizeLine_eq]; omega
  refine set_map I.kIn O c.sa c.po n.taker c.hd wi hz fun h' O' sb => h _ ?_
  have hd : ∃ o, h'.get? dx = some o := let ⟨o, _, _, e', _⟩ := O'.ns; ⟨o, e'⟩
  refine I.write (x := a) (e := dx) (by rw [e]; exact True.intro) (.inr ho) (fun b q hb z => (sb.2 b hb).trans z) hd ?_
  refine ⟨by rw [upd_ne O.ne]; exact ho, ?_, O.ne, O'.obj, _, O'.ns, fun g => ?_, fun g hg => ?_⟩
  · have := length_putF f y fs; omega
  · show RelO ((putF f y fs).lookup g) (if g = f then some u else mA g)
    rw [lookup_putF]
    by_cases q : g = f
    · rw [if_pos q, if_pos q]; exact ry
    · rw [if_neg q, if_neg q]; exact r g
  · by_cases q : g = f
    · rw [q]; exact (keys_putF f y fs).1
    · refine (keys_putF f y fs).2 g (wi g fun z => hg ?_)
      show (if g = f then some u else mA g) = none
      rw [if_neg q]; exact z

/-- a new instance, tracked, without attributes -/
theorem Inv.made (I : Inv X pins σ H s) : Inv X pins σ (upd (upd H s.heap.objs.size (.own (s.heap.objs.size + 1))) (s.heap.objs.size + 1) (.ins C s.heap.objs.size []))
    { s with heap := (s.heap.push PySem.W.emptyDict).push (PySem.W.instObj C s.heap.objs.size) } := by
  have e1 : (s.heap.push PySem.W.emptyDict).get? s.heap.objs.size = some PySem.W.emptyDict := Heap.get?_push_size s.heap rfl
  have e2 : ((s.heap.push PySem.W.emptyDict).push (PySem.W.instObj C s.heap.objs.size)).get? (s.heap.objs.size + 1) = some (PySem.W.instObj C s.heap.objs.size) := by
    have := Heap.get?_push_size (s.heap.push PySem.W.emptyDict) (o := PySem.W.instObj C s.heap.objs.size) rfl
    rwa [Heap.size_push] at this
  have e3 : (s.heap.push PySem.W.emptyDict).Ns s.heap.objs.size (fun _ => none) := ⟨PySem.W.emptyDict, #[], _, e1, rfl, (fun e he => absurd he (by simp)), fun _ => rfl⟩
  have I1 := I.laid (a := s.heap.objs.size) (o := .own (s.heap.objs.size + 1)) (h' := s.heap.push PySem.W.emptyDict) (t' := s.toks) (fun b u q => Heap.get?_push_of_some _ q) (Nat.le_refl _) ⟨_, e1⟩
  refine I1.laid (a := s.heap.objs.size + 1) (o := .ins C s.heap.objs.size []) (t' := s.toks) (fun b u q => Heap.get?_push_of_some _ q) (Nat.le_of_eq (Heap.size_push _ _)) ?_
  have ne : s.heap.objs.size ≠ s.heap.objs.size + 1 := Nat.ne_of_lt (Nat.lt_succ_self _)
  refine ⟨by rw [upd_ne ne, upd_same], Nat.zero_le _, ne, e2, fun _ => none, (Heap.Ns1.of_empty e3).at fun o q => Heap.get?_push_of_some _ q, fun _ => True.intro, fun y hy => absurd rfl hy⟩

/-- e.f where nothing but the object is asked: through attributeBase (super) and the last hold -/
theorem attr_of {prog : Program} {w : World} {env : Env} {e : Expr} {f : Str} {pos : Pos} {s : Shared} {Q : Value → Shared → Prop} (hb : attributeBase e f env (eval e env) = eval e env)
    (h : wpAny (model prog w) A (eval e env) (fun o s₁ => wpAny (model prog w) A (getAttr o f true) Q E s₁) E s) : wpAny (model prog w) A (eval (.Attribute e f pos) env) Q E s :=
  Attribute_any_ h (by rw [arm_eval_Attribute, hb])
end

/-! ### readings and rules -/
/-- e.f, an attribute of the instance -/
def tFld (K : PySem.W.Frag) (ta : TE) (f : Str) : TE := fun σ H Q => ta σ H fun x H1 => ∃ a C dx fs v, x = .ref a ∧ H1 a = some (.ins C dx fs) ∧ Cls K C ∧ NoAttr K C f ∧ fs.lookup f = some v ∧ Q v H1
/-- e.f, a constant of the class -/
def tCon (K : PySem.W.Frag) (ta : TE) (f : Str) : TE := fun σ H Q => ta σ H fun x H1 => ∃ a C dx fs v u, x = .ref a ∧ H1 a = some (.ins C dx fs) ∧ Cls K C ∧ Con K C f v u ∧ fs.lookup f = none ∧ Q v H1
/-- e.f = value -/
def sFld (K : PySem.W.Frag) (ta tv : TE) (f : Str) : TS := fun D σ H => tv σ H fun y H1 => ta σ H1 fun x H2 => ∃ a C dx fs, x = .ref a ∧ H2 a = some (.ins C dx fs) ∧ Cls K C ∧ NoAttr K C f ∧ fs.length < 1000 ∧
  D.nx σ (upd H2 a (.ins C dx (putF f y fs)))
/-- an augmented operator on two values -/
def InOp (X : Cx) (op : Operator) (rd : V → V → Hp → VK → Prop) : Prop :=
  ∀ (pins : List (Addr × Obj)) (s : Shared) (σ : St) (H : Hp) (x y : V) (u v : Value) (Q : VK), Inv X pins σ H s → RelV x u → RelV y v → rd x y H Q → wpAny (model X.prog X.w) X.A (inplaceOp op u v) (EP X pins σ Q) X.xe s
/-- e.f op= value -/
def sFldAug (K : PySem.W.Frag) (ta tv : TE) (rd : V → V → Hp → VK → Prop) (f : Str) : TS := fun D σ H => ta σ H fun x H1 => ∃ a C dx fs v, x = .ref a ∧ H1 a = some (.ins C dx fs) ∧ Cls K C ∧ NoAttr K C f ∧ fs.lookup f = some v ∧
  tv σ H1 fun y H2 => rd v y H2 fun z H3 => ∃ dx' fs', H3 a = some (.ins C dx' fs') ∧ fs'.length < 1000 ∧ D.nx σ (upd H3 a (.ins C dx' (putF f z fs')))

section
variable {X : Cx} {o e value : Expr} {f : Str} {pos pos' tpos : Pos} {ta tv : TE}
theorem pe_fld (he : PE X e ta) (hb : attributeBase e f X.env (eval e X.env) = eval e X.env) : PE X (.Attribute e f pos) (tFld X.K ta f) := by
  intro pins s σ H Q I h
  refine attr_of hb (thn (he pins s σ H _ I h) fun u s1 ⟨x, H1, I1, rx, a, C, dx, fs, v, ex, ea, c, n, l, q⟩ => ?_)
  subst ex
  obtain rfl : u = Value.ref a := rx
  exact getattr_ok I1 ea c n l fun u' s2 I2 ru => ⟨v, H1, I2, ru, q⟩
theorem ps_fld (ha : PE X o ta) (hv : PE X value tv) (hs : swapsWith value (some (.Attribute o f pos')) pos.line X.env = pure false) : PS X (.Assign [.Attribute o f pos'] value pos) (sFld X.K ta tv f) := by
  intro pins s σ H D I h
  refine plainObj_wpAny_Assign_Attribute (thn (hv pins s σ H _ I h) fun u s1 ⟨y, H1, I1, ry, q⟩ => thn (ha pins s1 σ H1 _ I1 q) fun ov s2 ⟨x, H2, I2, rx, a, C, dx, fs, ex, ea, c, n, l, q2⟩ => ?_) hs
  subst ex
  obtain rfl : ov = Value.ref a := rx
  exact setattr_ok I2 ea c n l ry fun s3 I3 => ⟨σ, _, I3, q2⟩
def rAdd : V → V → Hp → VK → Prop := fun x y H Q => ∃ i j, x = .int i ∧ y = .int j ∧ Q (.int (i + j)) H
def rSub : V → V → Hp → VK → Prop := fun x y H Q => ∃ i j, x = .int i ∧ y = .int j ∧ Q (.int (i - j)) H
end

/-! ### isinstance -/
section
variable {X : Cx} {pins : List (Addr × Obj)} {σ : St} {H : Hp} {s : Shared} {A : Around} {E : Value → Shared → Prop} {Q : Value → Shared → Prop} {c : Value} {b : Bool}
/-- the type of a value, as the fragment's deciders take it; for an instance its class -/
inductive TyOf (K : PySem.W.Frag) (H : Hp) : V → Value → Prop where
  | non : TyOf K H .non (.type "NoneType")
  | bl (x : Bool) : TyOf K H (.bl x) (.type "bool")
  | int (i : Int) : TyOf K H (.int i) (.type "int")
  | str (x : Str) : TyOf K H (.str x) (.type "str")
  | flt (x : UInt64) : TyOf K H (.flt x) (.type "float")
  | lst {a : Addr} {xs : List V} (e : H a = some (.lst xs)) : TyOf K H (.ref a) (.type "list")
  | frz {a : Addr} {o : Obj} {xs : List V} (e : H a = some (.frz o (.lst xs))) : TyOf K H (.ref a) (.type "list")
  | tup {a : Addr} {xs : List V} (e : H a = some (.tup xs)) : TyOf K H (.ref a) (.type "tuple")
  | dK {a : Addr} {kvs : List (Key × V)} (e : H a = some (.dK kvs)) : TyOf K H (.ref a) (.type "dict")
  | dT {a : Addr} {kvs : List (List Key × V)} (e : H a = some (.dT kvs)) : TyOf K H (.ref a) (.type "dict")
  | ins {a C dx : Addr} {fs : List (Str × V)} (e : H a = some (.ins C dx fs)) (cl : Cls K C) (ha : PySem.W.findIn K (.ref C) "__class__" = some (some (.builtin "object.__class__")))
      (hn : PySem.W.specialIn K (.builtin "object.__class__") "__get__" = some (some (.builtin "getset_descriptor.__get__"))) (htk : PySem.W.takesIn K (.builtin "object.__class__") = some true)
      (hm : PySem.W.mroIn K C (.type "object") = some true) : TyOf K H (.ref a) (.ref C)
/-- isinstance(x, c) for one class c, a built-in or an own one: kitOne's answer -/
theorem isinst_ok {x : V} {u t : Value} (I : Inv X pins σ H s) (rx : RelV x u) (ty : TyOf X.K H x t) (e : PySem.W.kitOne X.K t c = some b) (h : ∀ tk, Q (.bool b) { s with toks := tk }) :
    wpAny (model X.prog X.w) A (call (.builtin "isinstance") [u, c]) Q E s := by
  cases ty with
  | non => cases (show u = Value.none from rx); exact PySem.W.kia_one PySem.W.kitx_none I.kIn True.intro e (fun z => nomatch z) h
  | bl y => cases (show u = Value.bool y from rx); exact PySem.W.kia_one PySem.W.kitx_bool I.kIn True.intro e (fun z => nomatch z) h
  | int i => obtain ⟨t, q⟩ := (show ∃ t, u = Value.int i t from rx); cases q; exact PySem.W.kia_one PySem.W.kitx_int I.kIn True.intro e (fun z => nomatch z) h
  | str y => obtain ⟨t, q⟩ := (show ∃ t, u = Value.str y t from rx); cases q; exact PySem.W.kia_one PySem.W.kitx_str I.kIn True.intro e (fun z => nomatch z) h
  | flt y => obtain ⟨t, q⟩ := (show ∃ t, u = Value.float y t from rx); cases q; exact PySem.W.kia_one PySem.W.kitx_float I.kIn True.intro e (fun z => nomatch z) h
  | @lst a xs ea =>
    cases (show u = Value.ref a from rx)
    obtain ⟨_, _, n, _, h1⟩ := (show ObjOk X.prog X.w H s.heap a (.lst xs) from I.hok a _ ea)
    exact PySem.W.kia_one PySem.W.kitx_list I.kIn ⟨_, h1, rfl⟩ e (fun z => nomatch z) h
  | @frz a ob xs ea =>
    cases (show u = Value.ref a from rx)
    obtain ⟨_, _, _, n, _, h1⟩ := (show ObjOk X.prog X.w H s.heap a (.frz ob (.lst xs)) from I.hok a _ ea)
    exact PySem.W.kia_one PySem.W.kitx_list I.kIn ⟨_, h1, rfl⟩ e (fun z => nomatch z) h
  | @tup a xs ea =>
    cases (show u = Value.ref a from rx)
    obtain ⟨_, _, _, p⟩ := (show ObjOk X.prog X.w H s.heap a (.tup xs) from I.hok a _ ea)
    obtain ⟨o, h1, h2, _⟩ := p
    exact PySem.W.kia_one PySem.W.kitx_tuple I.kIn ⟨o, h1, h2⟩ e (fun z => nomatch z) h
  | @dK a kvs ea =>
    cases (show u = Value.ref a from rx)
    obtain ⟨_, _, vs, _, p⟩ := (show ObjOk X.prog X.w H s.heap a (.dK kvs) from I.hok a _ ea)
    obtain ⟨o, es, ep, h1, h2, _⟩ := p
    exact PySem.W.kia_one PySem.W.kitx_dict I.kIn ⟨o, h1, h2.1⟩ e (fun z => nomatch z) h
  | @dT a kvs ea =>
    cases (show u = Value.ref a from rx)
    obtain ⟨_, _, xs, _, o, es, ep, h1, h2, _⟩ := (show ObjOk X.prog X.w H s.heap a (.dT kvs) from I.hok a _ ea)
    exact PySem.W.kia_one PySem.W.kitx_dict I.kIn ⟨o, h1, h2.1⟩ e (fun z => nomatch z) h
  | @ins a C dx fs ea cl ha hn htk hm =>
    cases (show u = Value.ref a from rx)
    obtain ⟨mA, O, _⟩ := ins_get I.hok ea
    obtain ⟨od, J, _⟩ := O.look
    exact PySem.W.kia_one (PySem.W.kitx_own (cl.get _) cl.hd ha hn htk hm) I.kIn J e (fun z => nomatch z) h
end
end L2

namespace L2
open PySem PySem.Spec PyProof.Rows

/-! ### room -/
structure Room (k : Nat) (A : Around) : Prop where
  hd : A.handled = none
  dp : A.depth + 3 * k + 5 < recursionLimit
  un : A.units + 16 * k + 200 < cLine
  gd : A.guards = some []
theorem Room.mono {j k : Nat} {A : Around} (r : Room k A) (h : j ≤ k) : Room j A := ⟨r.hd, by have := r.dp; omega, by have := r.un; omega, r.gd⟩
theorem Room.deeper {k : Nat} {A : Around} (r : Room (k + 1) A) (env : Env) : Room k (A.deeper env) :=
  ⟨r.hd, by have := r.dp; show A.depth + 1 + 3 * k + 5 < _; omega, by have := r.un; show A.units + 3 + 16 * k + 200 < _; omega, r.gd⟩
theorem Room.in1 {k : Nat} {A : Around} (r : Room (k + 1) A) : Room k A.in1 :=
  ⟨r.hd, by have := r.dp; show A.depth + 3 * k + 5 < _; omega, by have := r.un; show A.units + 1 + 16 * k + 200 < _; omega, r.gd⟩
theorem make_depth {A : Around} {C : Addr} {us : List Value} {kw : List (Str × Value)} : (A.under (.builtin "type.__call__" ⟨.ref C :: us, kw⟩)).depth = A.depth + 1 := by
  first | rfl | simp [Around.under, Code.weight, Code.isCreation, Code.isGuard, Code.isCaller, Code.frames, Code.isFrame, guardIds]
theorem make_units {A : Around} {C : Addr} {us : List Value} {kw : List (Str × Value)} : (A.under (.builtin "type.__call__" ⟨.ref C :: us, kw⟩)).units = A.units + 1 := by
  first | rfl | simp [Around.under, Code.cUnits, Code.frames, Code.isFrame]
theorem Room.make {k : Nat} {A : Around} (r : Room (k + 1) A) (C : Addr) (us : List Value) (kw : List (Str × Value)) : Room k (A.under (.builtin "type.__call__" ⟨.ref C :: us, kw⟩)) :=
  ⟨r.hd, by have := r.dp; rw [make_depth]; omega, by have := r.un; rw [make_units]; omega, r.gd⟩
theorem Room.depth {k : Nat} {A : Around} (r : Room k A) : A.depth < recursionLimit := by have := r.dp; omega
theorem Room.units {k : Nat} {A : Around} (r : Room k A) : A.units + 64 < cLine := by have := r.un; omega
/-! ### argument lists and displays -/
def tNil : TA := fun _ H Q => Q [] H
def tCons (ta : TE) (tr : TA) : TA := fun σ H Q => ta σ H fun x H1 => tr σ H1 fun xs H2 => Q (x :: xs) H2
section
variable {X : Cx} {e : Expr} {es : List Expr} {te : TE} {t : TA} {pos : Pos}
theorem pa_nil : PA X [] tNil := fun _ _ _ _ H Q I h => Calls.spliced_nil ⟨[], H, I, .nil, h⟩
theorem pa_cons (ha : PE X e te) (hr : PA X es t) (hs : starEach (e :: es) X.env = (false, eval e X.env) :: starEach es X.env := by rfl) : PA X (e :: es) (tCons te t) := by
  intro pos pins s σ H Q I h
  rw [hs]
  show wpAny _ _ (spliced ((false, eval e X.env) :: backTo pos (starEach es X.env))) _ _ s
  refine Calls.spliced_cons (thn (ha pins s σ H _ I h) fun u s1 ⟨x, H1, I1, r1, q1⟩ => ?_)
  exact thn (hr pos pins s1 σ H1 _ I1 q1) fun us s2 ⟨xs, H2, I2, r2, q2⟩ => ⟨x :: xs, H2, I2, .cons r1 r2, q2⟩

/-- a tuple, a list of written items -/
def tTup (t : TA) : TE := fun σ H Q => t σ H fun xs H1 => xs.length ≤ sizeLine ∧ ∀ p, H1 p = none → Q (.ref p) (upd H1 p (.tup xs))
def tLst (t : TA) : TE := fun σ H Q => t σ H fun xs H1 => xs.length ≤ sizeLine ∧ ∀ p, H1 p = none → Q (.ref p) (upd H1 p (.lst xs))
theorem pe_tup {x1} (h : PA X es t) : PE X (.Tuple es x1 pos) (tTup t) := by
  intro pins s σ H Q I hq
  refine wpAny_Tuple_spliced (thn (h pos pins s σ H _ I hq) fun us s1 ⟨xs, H1, I1, r, z, q⟩ => ⟨by rw [← r.length]; exact z, ?_⟩)
  have hf : H1 s1.heap.objs.size = none := I1.hok.fresh (Nat.le_refl _)
  refine ⟨.ref s1.heap.objs.size, upd H1 s1.heap.objs.size (.tup xs), I1.laid (t' := s1.toks) (fun b u e => Heap.get?_push_of_some _ e) (Nat.le_refl _) ?_, rfl, q _ hf⟩
  exact ⟨z, us, r, ⟨_, Heap.get?_push_size _ rfl, rfl, _, rfl⟩⟩
theorem pe_lst (h : PA X es t) : PE X (.List es pos) (tLst t) := by
  intro pins s σ H Q I hq
  refine wpAny_List_spliced (thn (h pos pins s σ H _ I hq) fun us s1 ⟨xs, H1, I1, r, z, q⟩ => ⟨by rw [← r.length]; exact z, ?_⟩)
  have hf : H1 s1.heap.objs.size = none := I1.hok.fresh (Nat.le_refl _)
  refine ⟨.ref s1.heap.objs.size, upd H1 s1.heap.objs.size (.lst xs), I1.laid (t' := s1.toks) (fun b u e => Heap.get?_push_of_some _ e) (Nat.le_refl _) ?_, rfl, q _ hf⟩
  exact ⟨z, us, 0, r, Heap.get?_push_size _ rfl⟩
end

/-! ### what a def promises -/
/-- a def's promise: the bound arguments in the parameters' order, the heap, the wanted end, the wanted exception -/
abbrev Sp := List V → Hp → VK → XK → Prop
/-- how an exception lies behind a call (file 08 gives it): the callers' frames, abstract heap and state ahead of the call, the wish, the exception, the state -/
abbrev CXT := List Env → Hp → Shared → XK → Value → Shared → Prop

/-- the state at a call -/
structure Env0 (P : Program) (w : World) (K : PySem.W.Frag) (mg : Str → Option Value) (base : Heap) (A : Around) (outer : List Env) (s : Shared) (H : Hp) : Prop where
  frames : A.frames = some outer
  mod : Mod K mg base
  bs : ∀ b o, base.get? b = some o → s.heap.get? b = some o ∧ H b = none
  bsz : base.objs.size ≤ s.heap.objs.size
  funs : s.heap.FunFrames base outer
  frf : ∀ b ∈ frs outer, H b = none
  hok : HOk P w H s.heap
  bare : AllBare s.gens
/-- a call's end -/
def CE (outer : List Env) (P : Program) (w : World) (H : Hp) (s : Shared) (Q : VK) (u : Value) (s' : Shared) : Prop :=
  ∃ v H', s'.os = s.os ∧ AllBare s'.gens ∧ Un (frs outer) [] H H' s.heap s'.heap ∧ HOk P w H' s'.heap ∧ RelV v u ∧ Q v H'
def CR (CX : CXT) (outer : List Env) (P : Program) (w : World) (H : Hp) (s : Shared) (Q : VK) (E : XK) (r : Result) (s' : Shared) : Prop :=
  match r with
  | .ok (.ret u) => CE outer P w H s Q u s'
  | .ok _ => False
  | .error e => CX outer H s E e s'
structure FnOk (P : Program) (w : World) (K : PySem.W.Frag) (mg : Str → Option Value) (base : Heap) (CX : CXT) (k : Nat) (f : Addr) (fd : FuncData) (ps : List Str) (sp : Sp) : Prop where
  len : ∀ vs H Q E, sp vs H Q E → vs.length = ps.length
  run : ∀ (A : Around) (outer : List Env) (s : Shared) (H : Hp) (args : Args) (us : List Value) (vs : List V) (Q : VK) (E : XK), Room k A → Env0 P w K mg base A outer s H → BindsTo s fd args (ps.zip us) → Vals vs us → sp vs H Q E →
    codeAny (model P w) A (.call (.ref f) args) (CR CX outer P w H s Q E) s
theorem FnOk.mono {P : Program} {w : World} {K : PySem.W.Frag} {mg : Str → Option Value} {base : Heap} {CX : CXT} {j k : Nat} {f : Addr} {fd : FuncData} {ps : List Str} {sp : Sp} (F : FnOk P w K mg base CX j f fd ps sp) (h : j ≤ k) :
    FnOk P w K mg base CX k f fd ps sp := ⟨F.len, fun A outer s H args us vs Q E hr => F.run A outer s H args us vs Q E (hr.mono h)⟩
/-- a weaker promise -/
theorem FnOk.imp {P : Program} {w : World} {K : PySem.W.Frag} {mg : Str → Option Value} {base : Heap} {CX : CXT} {k : Nat} {f : Addr} {fd : FuncData} {ps : List Str} {sp sp' : Sp} (F : FnOk P w K mg base CX k f fd ps sp)
    (h : ∀ vs H Q E, sp' vs H Q E → sp vs H Q E) : FnOk P w K mg base CX k f fd ps sp' :=
  ⟨fun vs H Q E q => F.len vs H Q E (h _ _ _ _ q), fun A outer s H args us vs Q E hr he hb hv hs => F.run A outer s H args us vs Q E hr he hb hv (h _ _ _ _ hs)⟩

theorem Env0.make {P : Program} {w : World} {K : PySem.W.Frag} {mg : Str → Option Value} {base : Heap} {A : Around} {outer : List Env} {s : Shared} {H : Hp} (e : Env0 P w K mg base A outer s H) (C : Addr) (us : List Value) (kw : List (Str × Value)) :
    Env0 P w K mg base (A.under (.builtin "type.__call__" ⟨.ref C :: us, kw⟩)) outer s H := ⟨by first | exact e.frames | (simpa [Around.under, Code.envs, Code.isFrame, pushEnvs] using e.frames), e.mod, e.bs, e.bsz, e.funs, e.frf, e.hok, e.bare⟩
theorem Env0.in1 {P : Program} {w : World} {K : PySem.W.Frag} {mg : Str → Option Value} {base : Heap} {A : Around} {outer : List Env} {s : Shared} {H : Hp} (e : Env0 P w K mg base A outer s H) :
    Env0 P w K mg base A.in1 outer s H := ⟨e.frames, e.mod, e.bs, e.bsz, e.funs, e.frf, e.hok, e.bare⟩

section
variable {X : Cx} {pins : List (Addr × Obj)} {σ : St} {H : Hp} {s s' : Shared}
/-- from a body: what a callee wants -/
theorem Inv.env0 (I : Inv X pins σ H s) : Env0 X.prog X.w X.K X.mg X.base X.A X.stack s H :=
  ⟨I.ok.frames, I.ok.mod, I.bs, Nat.le_trans I.ok.bsz I.sz, I.stack, I.stkFree, I.hok, I.bare⟩
/-- behind a call -/
theorem Inv.after {Q : VK} {u : Value} (I : Inv X pins σ H s) (h : CE X.stack X.prog X.w H s Q u s') : EP X pins σ Q u s' := by
  obtain ⟨v, H', os, bare, un, hok, r, q⟩ := h
  obtain ⟨hh, g, d, t, os'⟩ := s'
  obtain rfl : os' = s.os := os
  exact ⟨v, H', I.call (h' := hh) (g' := g) (d' := d) (t' := t) (ch := []) un hok bare (fun b z => absurd z (by simp)), r, q⟩
end

/-! ### calls -/
/-- f(..): the written arguments, then the defaults dvs; E: what is wanted of an exception -/
def tCall (sp : Sp) (dvs : List V) (E : XK) (t : TA) : TE := fun σ H Q => t σ H fun vs H1 => sp (vs ++ dvs) H1 Q E
/-- o.m(..) of an instance of the class at C -/
def tMeth (C : Addr) (m : Str) (sp : Sp) (dvs : List V) (E : XK) (ta : TE) (t : TA) : TE := fun σ H Q => ta σ H fun x H1 => ∃ a dx fs, x = .ref a ∧ H1 a = some (.ins C dx fs) ∧ fs.lookup m = none ∧
  t σ H1 fun vs H2 => sp (x :: (vs ++ dvs)) H2 Q E
/-- C(..): a new instance and its dict, then __init__ -/
def tMake (C : Addr) (sp : Sp) (dvs : List V) (E : XK) (t : TA) : TE := fun σ H Q => t σ H fun vs H1 => ∀ x dx, H1 x = none → H1 dx = none → dx ≠ x →
  sp (.ref x :: (vs ++ dvs)) (upd (upd H1 dx (.own x)) x (.ins C dx [])) (fun v H2 => v = .non ∧ Q (.ref x) H2) E

/-- how the parameters are bound: us the positional arguments, kw the keywords' values by name, ds the defaults that fill up -/
def Binds (K : PySem.W.Frag) (fd : FuncData) (ps : List Str) (ds : List Value) : Prop :=
  ∀ (s : Shared) (us : List Value), K.In s.heap → (us ++ ds).length = ps.length → BindsTo s fd ⟨us, []⟩ (ps.zip (us ++ ds))
/-- every parameter is given -/
theorem Binds.all {K : PySem.W.Frag} {fd : FuncData} {ps : List Str} (h : ∀ us : List Value, us.length = ps.length → bindArgs fd ⟨us, []⟩ = pure (ps.zip us)) : Binds K fd ps [] := fun s us _ hl => by
  rw [List.append_nil] at hl ⊢
  exact .of_eq (h us hl)

/-- an exception of a callee reaches what this body wants of exceptions -/
def Passes (CX : CXT) (X : Cx) (E : XK) : Prop := ∀ (pins : List (Addr × Obj)) (σ : St) (H : Hp) (s : Shared) (e : Value) (s' : Shared), Inv X pins σ H s → CX X.stack H s E e s' → X.xe e s'

section
variable {X : Cx} {CX : CXT} {k : Nat} {f C : Addr} {fd : FuncData} {ps : List Str} {sp : Sp} {dvs : List V} {ds : List Value} {E : XK} {x m : Str} {p pos apos : Pos} {e o : Expr} {es : List Expr} {ta : TE} {t : TA}

/-- the callee runs -/
theorem run_fn {pins : List (Addr × Obj)} {σ : St} {H : Hp} {s : Shared} {Q : VK} {us : List Value} {vs : List V} (F : FnOk X.prog X.w X.K X.mg X.base CX k f fd ps sp) (hr : Room k X.A) (hb : Binds X.K fd ps ds) (hd : Vals dvs ds) (hx : Passes CX X E)
    (I : Inv X pins σ H s) (r : Vals vs us) (h : sp (vs ++ dvs) H Q E) : wpAny (model X.prog X.w) X.A (call (.ref f) us) (EP X pins σ Q) X.xe s := by
  have r2 : Vals (vs ++ dvs) (us ++ ds) := r.append hd
  have hl : (us ++ ds).length = ps.length := by rw [← r2.length]; exact F.len _ _ _ _ h
  refine wpAny_call (codeAny_mono (F.run X.A X.stack s H ⟨us, []⟩ (us ++ ds) (vs ++ dvs) Q E hr I.env0 (hb s us I.kIn hl) r2 h) fun r s' hq => ?_)
  cases r with
  | error e => exact hx pins σ H s e s' I hq
  | ok fl =>
    cases fl with
    | ret u => exact I.after hq
    | next => exact False.elim hq
    | brk => exact False.elim hq
    | cont => exact False.elim hq

theorem pe_call (F : FnOk X.prog X.w X.K X.mg X.base CX k f fd ps sp) (hr : Room k X.A) (hg : Gl X x) (hm : X.mg x = some (.ref f)) (hk : PySem.W.keepIn X.K (.ref f) = true) (hb : Binds X.K fd ps ds) (hd : Vals dvs ds) (hx : Passes CX X E)
    (ha : PA X (e :: es) t) (hdb : (x == ("__debug__" : Str)) = false := by decide) (he : starEach (e :: es) X.env = (false, eval e X.env) :: starEach es X.env := by rfl) (hpl : (backTo pos (starEach es X.env)).any (·.1) = false := by rfl) :
    PE X (.Call (.Name x p) (e :: es) [] pos) (tCall sp dvs E t) := by
  intro pins s σ H Q I h
  refine wpAny_Call_Name_kw (ld_glob I hg hm ?_ hdb)
  refine PySem.W.callWith_K (h₀ := X.base) I.ok.mod.kin hk (thn (ha pos pins s σ H _ I h) fun us s1 ⟨vs, H1, I1, r, q⟩ => ⟨I1.kIn, ?_⟩) he hpl
  exact run_fn F hr hb hd hx I1 r q
/-- what a class must have to be made -/
structure Mk (K : PySem.W.Frag) (C f : Addr) : Prop where
  makes : PySem.W.makesIn K C = true
  init : PySem.W.findIn K (.ref C) "__init__" = some (some (.ref f))
  fn : PySem.W.isFn K (.ref f) = true
  kp : PySem.W.keepIn K (.ref C) = true

end

/-! ### keywords -/
/-- the values of the keywords, from the left -/
def PK (X : Cx) (kws : List Keyword) (t : TA) : Prop :=
  ∀ (pos : Pos) (pins : List (Addr × Obj)) (s : Shared) (σ : St) (H : Hp) (Q : List V → Hp → Prop), Inv X pins σ H s → t σ H Q → wpAny (model X.prog X.w) X.A (evalAll ((backToKw pos (keywordEach kws X.env)).map (·.2))) (AP X pins σ Q) X.xe s
section
variable {X : Cx} {CX : CXT} {k : Nat} {f C : Addr} {fd : FuncData} {ps ks : List Str} {sp : Sp} {E : XK} {x m : Str} {p pos apos kpos : Pos} {e o : Expr} {es : List Expr} {kws : List Keyword} {te ta : TE} {t tk : TA} {nm : Option Str}
/-- how a call with keywords binds: g puts the positional values us and the keywords' values ws (names ks) in the parameters' order, defaults among them -/
structure KBinds (K : PySem.W.Frag) (fd : FuncData) (ps ks : List Str) (g : List Value → List Value → List Value) (gV : List V → List V → List V) : Prop where
  to : ∀ (s : Shared) (us ws : List Value), K.In s.heap → (g us ws).length = ps.length → BindsTo s fd ⟨us, ks.zip ws⟩ (ps.zip (g us ws))
  rel : ∀ {vs : List V} {us : List Value} {zs : List V} {ws : List Value}, Vals vs us → Vals zs ws → Vals (gV vs zs) (g us ws)
def tCallK (sp : Sp) (gV : List V → List V → List V) (E : XK) (t tk : TA) : TE := fun σ H Q => t σ H fun vs H1 => tk σ H1 fun zs H2 => sp (gV vs zs) H2 Q E
variable {g : List Value → List Value → List Value} {gV : List V → List V → List V}
end

/-! ### a def's body keeps its promise -/
/-- names: the parameters first -/
structure FnScope (N P : List Str) (sc : Scope) : Prop where
  kind : sc.kind = .function
  co : sc.isCoroutine = false
  gen : sc.isGenerator = false
  nd : N.Nodup
  pre : N.take P.length = P
  par : ∀ x ∈ P, sc.names.lookup x = some .local ∨ sc.names.lookup x = some .cell
  nofree : ∀ y ∈ sc.names, y.2 ≠ .free

theorem bindL_out {kindOf : Str → Option NameKind} {x : Str} : ∀ {binds : List (Str × Value)} {m : Str → Option Value}, (∀ v, (x, v) ∉ binds) → bindL kindOf binds m x = m x
  | [], _, _ => rfl
  | (n, v) :: r, m, h => by
    unfold bindL
    rw [bindL_out fun w hw => h w (List.mem_cons_of_mem _ hw)]
    split
    · have : x ≠ n := by rintro rfl; exact h v List.mem_cons_self
      simp [this]
    · rfl
theorem bindC_out {kindOf : Str → Option NameKind} {x : Str} : ∀ {binds : List (Str × Value)} {m : Str → Option Value}, (∀ v, (x, v) ∉ binds) → bindC kindOf binds m x = m x
  | [], _, _ => rfl
  | (n, v) :: r, m, h => by
    unfold bindC
    rw [bindC_out fun w hw => h w (List.mem_cons_of_mem _ hw)]
    split
    · rfl
    · have : x ≠ n := by rintro rfl; exact h v List.mem_cons_self
      simp [this]
theorem bindL_get {kindOf : Str → Option NameKind} {x : Str} {v : Value} : ∀ {P : List Str} {vs : List Value} {i : Nat} {m : Str → Option Value}, P.Nodup → P[i]? = some x → vs[i]? = some v → kindOf x = some .local →
    bindL kindOf (P.zip vs) m x = some v
  | [], _, _, _, _, h, _, _ => by simp at h
  | _ :: _, [], _, _, _, _, h, _ => by simp at h
  | p :: P, w :: vs, 0, m, nd, h1, h2, hk => by
    simp at h1 h2; subst h1; subst h2
    show bindL kindOf ((p, w) :: P.zip vs) m p = _
    unfold bindL
    rw [bindL_out fun v hv => (List.nodup_cons.mp nd).1 (List.of_mem_zip hv).1, if_pos hk]
    simp
  | p :: P, w :: vs, i + 1, m, nd, h1, h2, hk => by
    show bindL kindOf ((p, w) :: P.zip vs) m x = _
    unfold bindL
    exact bindL_get (i := i) (List.nodup_cons.mp nd).2 (by simpa using h1) (by simpa using h2) hk
theorem bindC_get {kindOf : Str → Option NameKind} {x : Str} {v : Value} : ∀ {P : List Str} {vs : List Value} {i : Nat} {m : Str → Option Value}, P.Nodup → P[i]? = some x → vs[i]? = some v → kindOf x ≠ some .local →
    bindC kindOf (P.zip vs) m x = some v
  | [], _, _, _, _, h, _, _ => by simp at h
  | _ :: _, [], _, _, _, _, h, _ => by simp at h
  | p :: P, w :: vs, 0, m, nd, h1, h2, hk => by
    simp at h1 h2; subst h1; subst h2
    show bindC kindOf ((p, w) :: P.zip vs) m p = _
    unfold bindC
    rw [bindC_out fun v hv => (List.nodup_cons.mp nd).1 (List.of_mem_zip hv).1, if_neg hk]
    simp
  | p :: P, w :: vs, i + 1, m, nd, h1, h2, hk => by
    show bindC kindOf ((p, w) :: P.zip vs) m x = _
    unfold bindC
    exact bindC_get (i := i) (List.nodup_cons.mp nd).2 (by simpa using h1) (by simpa using h2) hk

/-- the names' values at the entry -/
def start (N : List Str) (vs : List V) : St := vs.map some ++ List.replicate (N.length - vs.length) none

/-- the context of a def's body, at its entry; an exception leaves the frame, then lies as CX says -/
def cxOf (CX : CXT) (P : Program) (w : World) (K : PySem.W.Frag) (mg : Str → Option Value) (base : Heap) (N : List Str) (qual : Str) (scope : Scope) (f : Addr) (cd : Value) (A : Around) (outer : List Env) (s : Shared) (H : Hp) (E : XK) : Cx where
  prog := P
  w := w
  K := K
  mg := mg
  base := base
  A := A.deeper (envOfC qual scope s.heap.objs.size f cd)
  N := N
  s₀ := s
  H₀ := H
  env := envOfC qual scope s.heap.objs.size f cd
  outer := outer
  stack := envOfC qual scope s.heap.objs.size f cd :: outer
  ex := []
  calm := true
  fn := fun _ => true
  pn := []
  xe := fun e s' => wpAny (model P w) (A.deeper (envOfC qual scope s.heap.objs.size f cd)) (leaving (envOfC qual scope s.heap.objs.size f cd) e) (fun _ s'' => CX outer H s E e s'') (fun e' s'' => CX outer H s E e' s'') s'

theorem cell_has {sc : Scope} {n : Nat} {x : Str} (h : sc.names.lookup x = some .cell) : ∃ c, (cellsFrom n sc.names []).lookup x = some c := by
  have q := PySem.W.cellsFrom_some sc.names n [] (.inl h)
  exact Option.isSome_iff_exists.mp q

theorem inv_start {CX : CXT} {P : Program} {w : World} {K : PySem.W.Frag} {mg : Str → Option Value} {base : Heap} {N ps : List Str} {qual : Str} {scope : Scope} {f : Addr} {cd : Value} {A : Around} {outer : List Env} {s s1 : Shared} {H : Hp} {E : XK} {us : List Value} {vs : List V}
    (S : FnScope N ps scope) (hd : A.handled = none) (e0 : Env0 P w K mg base A outer s H) (hl : vs.length = ps.length) (r : Vals vs us)
    (x : InCallC s s.heap.objs.size (bindL (envOfC qual scope s.heap.objs.size f cd).kindOf (ps.zip us) fun _ => none) (cellsFrom (s.heap.objs.size + 1) scope.names []) (bindC (envOfC qual scope s.heap.objs.size f cd).kindOf (ps.zip us) fun _ => none) s1) :
    Inv (cxOf CX P w K mg base N qual scope f cd A outer s H E) [] (start N vs) H s1 := by
  have hpl : ps.length ≤ N.length := by have := congrArg List.length S.pre; rw [List.length_take] at this; omega
  obtain ⟨h1, tk, rfl, hk⟩ := x.done
  have noA : ∀ b : Addr, b ∉ (cxOf CX P w K mg base N qual scope f cd A outer s H E).ex := fun b z => absurd (show b ∈ ([] : List Addr) from z) (by simp)
  refine ⟨⟨e0.mod, S.kind, rfl, rfl, Nat.le_refl _, fun y z c h1 h2 => ?_, fun y hy => ?_, fun y c _ h => ?_, fun _ => hd, Around.frames_deeper e0.frames, .inr ⟨rfl, rfl⟩, fun b z => absurd z (noA b), e0.bs, e0.bsz, fun b _ _ => noA b, fun b z => absurd z (noA b), e0.funs, e0.frf⟩,
    rfl, e0.bare, Un.kept hk, ⟨_, x.toInCall.ns, fun i y v h1 h2 h3 => ?_⟩, fun y c h => ⟨_, x.cell y c h⟩, e0.hok.fresh (Nat.le_refl _), fun y c h => ?_, fun p hp => absurd (show p ∈ ([] : List (Addr × Obj)) from hp) (by simp), e0.hok.kept hk, ?_⟩
  · exact name_of_addr x.apart (PySem.mem_of_lookup h1) (PySem.mem_of_lookup h2)
  · have hy : scope.names.lookup y = some .cell ∨ scope.names.lookup y = some .free := hy
    rcases hy with hy | hy
    · exact cell_has hy
    · exact absurd rfl (S.nofree _ (PySem.mem_of_lookup hy))
  · exact Nat.le_of_lt (x.above y c (PySem.mem_of_lookup h))
  · have hi : i < vs.length := by
      unfold start at h2
      by_cases hi : i < vs.length
      · exact hi
      · rw [List.getElem?_append_right (by simpa using hi)] at h2
        rw [List.getElem?_replicate] at h2
        split at h2 <;> cases h2
    have ha : vs[i]? = some v := by
      unfold start at h2
      rw [List.getElem?_append_left (by simpa using hi), List.getElem?_map] at h2
      cases e : vs[i]? with
      | none => rw [e] at h2; cases h2
      | some a => rw [e] at h2; cases h2; rfl
    obtain ⟨u, hu, rv⟩ := r.get ha
    have hp : ps[i]? = some y := by
      rw [← S.pre, List.getElem?_take_of_lt (by omega)]; exact h1
    have ndP : ps.Nodup := by rw [← S.pre]; exact S.nd.sublist (List.take_sublist _ _)
    refine ⟨u, rv, ?_⟩
    rcases S.par y (List.mem_of_getElem? hp) with k | k
    · exact .inl ⟨k, bindL_get ndP hp hu k⟩
    · obtain ⟨c, e⟩ := cell_has (n := s.heap.objs.size + 1) k
      refine .inr ⟨.inl k, c, e, ?_⟩
      have q := x.cell y c e
      rw [bindC_get ndP hp hu (by show scope.names.lookup y ≠ _; rw [k]; decide)] at q
      exact q
  · exact e0.hok.fresh (Nat.le_of_lt (x.above y c (PySem.mem_of_lookup h)))
  · unfold start
    show _ = N.length
    rw [List.length_append, List.length_map, List.length_replicate]
    omega

/-- THE RULE: a def (or a method) of the text, by its body. The body's reading t is chosen for each entry; it is run at the parameters' values -/
theorem fn_of {CX : CXT} {P : Program} {w : World} {K : PySem.W.Frag} {mg : Str → Option Value} {base : Heap} {k : Nat} {f : Addr} {name qual : Str} {params : Arguments} {body : List Stmt} {scope : Scope} {dV kV doc pm cdv ct oc : Value} {an od : Option Addr}
    {osl : Array (Option Value)} {N ps : List Str} {sp : Sp} (lk : K.lookup f = some ⟨oc, od, .func (PySem.W.fnOf name qual params body scope dV kV doc pm an cdv ct), osl⟩) (hcd : PySem.W.codeIn K cdv qual = true) (S : FnScope N ps scope)
    (len : ∀ vs H Q E, sp vs H Q E → vs.length = ps.length)
    (hbody : ∀ (A : Around) (outer : List Env) (s : Shared) (H : Hp) (vs : List V) (Q : VK) (E : XK), Room k (A.deeper (envOfC qual scope s.heap.objs.size f cdv)) → sp vs H Q E →
      ∃ t, PSs (cxOf CX P w K mg base N qual scope f cdv A outer s H E) body t ∧ t { nx := fun _ H' => Q .non H', rt := Q } (start N vs) H) :
    FnOk P w K mg base CX (k + 1) f (PySem.W.fnOf name qual params body scope dV kV doc pm an cdv ct) ps sp := by
  refine ⟨len, fun A outer s H args us vs Q E hr e0 hb r hsp => ?_⟩
  have hl := len _ _ _ _ hsp
  have KX : K.In s.heap := e0.mod.kin.keeps fun b o e => (e0.bs b o e).1
  have lim : s.heap.NoLimit := e0.mod.nolimit.keeps fun b o e => (e0.bs b o e).1
  have hkind : ∀ y ∈ ps.zip us, scope.names.lookup y.1 = some .local ∨ (scope.names.lookup y.1 = some .cell ∧ ((cellsFrom (s.heap.objs.size + 1) scope.names []).lookup y.1).isSome = true) := fun ⟨n, v⟩ hy => by
    rcases S.par n (List.of_mem_zip hy).1 with q | q
    · exact .inl q
    · exact .inr ⟨q, PySem.W.cellsFrom_some _ _ _ (.inl q)⟩
  refine codeAny_call_function hr.depth (KX _ _ lk) rfl S.co S.gen rfl (PySem.W.codeRec_of KX hcd) (hb _ _ _ _ ?_)
  refine wpAny_newFunctionEnv_cells S.kind hkind fun env he s1 x => ?_
  subst he
  refine ⟨lim.keeps x.toInCall.keep, codeAny_func ?_⟩
  obtain ⟨t, ht, hq⟩ := hbody A outer s H vs Q E (hr.deeper _) hsp
  have I : Inv (cxOf CX P w K mg base N qual scope f cdv A outer s H E) [] (start N vs) H s1 := inv_start S hr.hd e0 hl r x
  refine wpAny_mono (ht [] s1 (start N vs) H _ I hq) (fun fl s' hs => ?_) fun e s' hs => hs
  have fin : ∀ {σ' : St} {H' : Hp} {v : V} {u : Value}, Inv (cxOf CX P w K mg base N qual scope f cdv A outer s H E) [] σ' H' s' → RelV v u → Q v H' → CE outer P w H s Q u s' :=
    fun {σ' H' v u} J rv q => ⟨v, H', J.os, J.bare, J.base, J.hok, rv, q⟩
  cases fl with
  | ret u =>
    obtain ⟨v, σ', H', J, rv, q⟩ := hs
    exact fin J rv q
  | next =>
    obtain ⟨σ', H', J, q⟩ := hs
    exact fin (v := V.non) (u := Value.none) J rfl q
  | brk =>
    obtain ⟨_, _, _, q⟩ := hs
    exact False.elim q
  | cont =>
    obtain ⟨_, _, _, q⟩ := hs
    exact False.elim q
end L2

namespace L2
open PySem PySem.Spec PyProof.Rows
section
variable {X : Cx} {x : Str} {p pos : Pos} {e : Expr} {es : List Expr} {t : TA} {id T : String} {r : List V → Hp → VK → Prop}

def tCB (r : List V → Hp → VK → Prop) (t : TA) : TE := fun σ H Q => t σ H fun vs H1 => r vs H1 Q
/-- f(e, ..), f a built-in function -/
theorem pe_callB (hc : CallR X (.builtin id) r) (hg : Gl X x) (hm : X.mg x = none) (hv : bootBuiltins x = some (.builtin id)) (ha : PA X (e :: es) t) (hn : x ≠ "__name__" := by decide) (hdb : (x == ("__debug__" : Str)) = false := by decide)
    (he : starEach (e :: es) X.env = (false, eval e X.env) :: starEach es X.env := by rfl) (hpl : (backTo pos (starEach es X.env)).any (·.1) = false := by rfl) : PE X (.Call (.Name x p) (e :: es) [] pos) (tCB r t) := by
  intro pins s σ H Q I h
  refine wpAny_Call_Name_kw (ld_blt I hg hm hv ?_ hn hdb)
  exact PyProof.Rows.callWith_builtin1 (thn (ha pos pins s σ H _ I h) fun us s1 ⟨vs, H1, I1, r1, q1⟩ => hc pins s1 σ H1 vs us Q I1 r1 q1) he hpl
/-- T(e, ..), T a built-in type -/
theorem pe_callTy (hc : CallR X (.type T) r) (hg : Gl X x) (hm : X.mg x = none) (hv : bootBuiltins x = some (.type T)) (ha : PA X (e :: es) t) (hn : x ≠ "__name__" := by decide) (hdb : (x == ("__debug__" : Str)) = false := by decide)
    (he : starEach (e :: es) X.env = (false, eval e X.env) :: starEach es X.env := by rfl) (hpl : (backTo pos (starEach es X.env)).any (·.1) = false := by rfl) : PE X (.Call (.Name x p) (e :: es) [] pos) (tCB r t) := by
  intro pins s σ H Q I h
  refine wpAny_Call_Name_kw (ld_blt I hg hm hv ?_ hn hdb)
  exact PyProof.Rows.callWith_type1 (thn (ha pos pins s σ H _ I h) fun us s1 ⟨vs, H1, I1, r1, q1⟩ => hc pins s1 σ H1 vs us Q I1 r1 q1) he hpl
end
end L2

namespace HT
open PySem PyProof.Rows

/-- t < u of tuples of ints -/
def lexLt : List Int → List Int → Bool
  | [], [] => false
  | [], _ :: _ => true
  | _ :: _, [] => false
  | x :: xs, y :: ys => if x = y then lexLt xs ys else decide (x < y)
section
open PySem.SeqAt
open PySem.AutoSeq1 (wpAny_loadPart')
open PySem.MeetsSeq PySem.MeetsSeq2 PySem.MeetsSeq3

end

section
variable {prog : Program} {w : World} {A : Around} {E : Value → Shared → Prop} {s : Shared}

/-! ### t[a:b], not the whole -/
/-- a slice's bound as a place among n (d where it is left out) -/
def sIx (n d : Nat) : Option Int → Nat
  | none => d
  | some v => if v < 0 then (v + (n : Int)).toNat else min v.toNat n
end
end HT

namespace L2
open PySem PySem.Spec PyProof.Rows

/-! ### the parts of a slice -/
abbrev TO := St → Hp → (Option Int → Hp → Prop) → Prop
/-- a slice's part (left out, or an int) -/
def PO (X : Cx) (e : Option Expr) (t : TO) : Prop :=
  ∀ (pins : List (Addr × Obj)) (s : Shared) (σ : St) (H : Hp) (Q : Option Int → Hp → Prop), Inv X pins σ H s → t σ H Q →
    wpAny (model X.prog X.w) X.A (evalPart e X.env) (fun u s' => ∃ o H', Inv X pins σ H' s' ∧ IsPart u o ∧ Q o H') X.xe s
def tNoPart : TO := fun _ H Q => Q none H
def tPart (t : TE) : TO := fun σ H Q => t σ H fun x H1 => ∃ i, x = .int i ∧ Q (some i) H1

section
variable {X : Cx} {e : Expr} {te : TE} {lo hi : Option Expr} {tl th : TO} {pos p2 : Pos}

/-- what a slice of a value is, by values: the slice object stands at sl -/
def SlR (X : Cx) (r : V → Option Int → Option Int → Hp → VK → Prop) : Prop :=
  ∀ (pins : List (Addr × Obj)) (s : Shared) (σ : St) (H : Hp) (x : V) (v vl vu : Value) (lo hi : Option Int) (sl : Addr) (Q : VK), Inv X pins σ H s → RelV x v → s.heap.IsSliceOf sl vl vu .none → IsPart vl lo → IsPart vu hi → r x lo hi H Q →
    ∃ T id, typeLookup (.type T) "__getitem__" = pure (some (.builtin id)) ∧ s.TypeIs v T ∧ wpAny (model X.prog X.w) X.A (getItem v (.ref sl)) (EP X pins σ Q) X.xe s
theorem SlR.or {r r' : V → Option Int → Option Int → Hp → VK → Prop} (h : SlR X r) (h' : SlR X r') : SlR X (fun x lo hi H Q => r x lo hi H Q ∨ r' x lo hi H Q) := by
  intro pins s σ H x v vl vu lo hi sl Q I rx hs pl pu q
  rcases q with q | q
  · exact h pins s σ H x v vl vu lo hi sl Q I rx hs pl pu q
  · exact h' pins s σ H x v vl vu lo hi sl Q I rx hs pl pu q
def tSl (r : V → Option Int → Option Int → Hp → VK → Prop) (te : TE) (tl th : TO) : TE := fun σ H Q => te σ H fun x H1 => tl σ H1 fun l H2 => th σ H2 fun u H3 => r x l u H3 Q
/-- the items of xs[lo:hi] -/
def cutV (xs : List V) (lo hi : Option Int) : List V := (xs.drop (HT.sIx xs.length 0 lo)).take (HT.sIx xs.length xs.length hi - HT.sIx xs.length 0 lo)
/-- t[lo:hi], not the whole of it (the whole would be t itself) -/
def rSlT (K : PySem.W.Frag) : V → Option Int → Option Int → Hp → VK → Prop := fun x lo hi H Q => ∃ a xs, x = .ref a ∧ SqT K H a xs ∧
  ¬ (HT.sIx xs.length 0 lo = 0 ∧ HT.sIx xs.length xs.length hi = xs.length) ∧ ∀ p, H p = none → Q (.ref p) (upd H p (.tup (cutV xs lo hi)))
/-! ### t < u, t + u -/
def rLtT (K : PySem.W.Frag) : R2 := fun x y H Q => ∃ a b ns ms, x = .ref a ∧ y = .ref b ∧ SqT K H a (ns.map V.int) ∧ SqT K H b (ms.map V.int) ∧ Q (.bl (HT.lexLt ns ms)) H
/-- t + u, t not empty: u empty gives t itself -/
def rCatT (K : PySem.W.Frag) : R2 := fun x y H Q => ∃ a b xs ys, x = .ref a ∧ y = .ref b ∧ SqT K H a xs ∧ SqT K H b ys ∧ xs ≠ [] ∧ xs.length + ys.length ≤ sizeLine ∧
  (ys = [] → Q (.ref a) H) ∧ (ys ≠ [] → ∀ p, H p = none → Q (.ref p) (upd H p (.tup (xs ++ ys))))
end
end L2

namespace L2
open PySem PySem.Spec PyProof.Rows

/-! ### places -/
/-- the place that an index of any sign means -/
def ixN (n : Nat) (i : Int) : Option Nat := if 0 ≤ i then (if i < n then some i.toNat else none) else if -(n : Int) ≤ i then some (i + n).toNat else none
def atI {α : Type} (xs : List α) (i : Int) : Option α := (ixN xs.length i).bind fun j => xs[j]?
theorem ixN_seq {n : Nat} {i : Int} {j : Nat} (h : ixN n i = some j) : seqIndex? i n = some j ∧ j < n ∧ -(n : Int) ≤ i ∧ i < n := by
  unfold ixN at h
  by_cases h0 : 0 ≤ i
  · rw [if_pos h0] at h
    by_cases h1 : i < n
    · rw [if_pos h1] at h
      have e : i.toNat = j := Option.some.inj h
      exact ⟨by rw [seqIndex_of h0 h1, e], by omega, by omega, h1⟩
    · rw [if_neg h1] at h; cases h
  · rw [if_neg h0] at h
    by_cases h1 : -(n : Int) ≤ i
    · rw [if_pos h1] at h
      have e : (i + n).toNat = j := Option.some.inj h
      exact ⟨by rw [seqIndex_neg (by omega) h1, e], by omega, h1, by omega⟩
    · rw [if_neg h1] at h; cases h
theorem atI_get {α : Type} {xs : List α} {i : Int} {v : α} (h : atI xs i = some v) : ∃ j, seqIndex? i xs.length = some j ∧ xs[j]? = some v ∧ j < xs.length ∧ -(xs.length : Int) ≤ i ∧ i < xs.length := by
  unfold atI at h
  cases e : ixN xs.length i with
  | none => rw [e] at h; cases h
  | some j =>
    rw [e] at h
    obtain ⟨h1, h2, h3, h4⟩ := ixN_seq e
    exact ⟨j, h1, h, h2, h3, h4⟩
theorem atI_nat {α : Type} {xs : List α} {j : Nat} {v : α} (h : xs[j]? = some v) : atI xs (j : Int) = some v := by
  have hj : j < xs.length := (List.getElem?_eq_some_iff.mp h).1
  have e : ixN xs.length (j : Int) = some j := by
    unfold ixN
    rw [if_pos (by omega), if_pos (by omega)]; simp
  unfold atI; rw [e]; exact h
/-! ### what may be subscripted -/
/-- what stands as an index of a plain subscript -/
def PlainIx (b : Expr) : Prop := ∀ o i, subscripted b false o i = operate [o, i] (getItem o i)
/-- a subscript by values -/
def IxR (X : Cx) (r : R2) : Prop :=
  ∀ (value slice : Expr) (pins : List (Addr × Obj)) (s : Shared) (σ : St) (H : Hp) (x y : V) (v u : Value) (Q : VK), Inv X pins σ H s → RelV x v → RelV y u → r x y H Q →
    subscripted slice false v u = operate [v, u] (getItem v u) → wpAny (model X.prog X.w) X.A (subscriptTail value slice v u) (EP X pins σ Q) X.xe s
/-- a call of a builtin's method by values: the receiver, the arguments -/
def MtR (X : Cx) (id : String) (r : V → List V → Hp → VK → Prop) : Prop :=
  ∀ (pins : List (Addr × Obj)) (s : Shared) (σ : St) (H : Hp) (x : V) (xs : List V) (v : Value) (us : List Value) (Q : VK), Inv X pins σ H s → RelV x v → Vals xs us → r x xs H Q →
    wpAny (model X.prog X.w) X.A (call (.builtin id) (v :: us)) (EP X pins σ Q) X.xe s
section
variable {X : Cx} {a b : Expr} {ta tb : TE} {pos : Pos}
theorem IxR.or {r r' : R2} (h : IxR X r) (h' : IxR X r') : IxR X (fun x y H Q => r x y H Q ∨ r' x y H Q) := by
  intro value slice pins s σ H x y v u Q I rx ry q hs
  rcases q with q | q
  · exact h value slice pins s σ H x y v u Q I rx ry q hs
  · exact h' value slice pins s σ H x y v u Q I rx ry q hs
theorem MtR.or {id : String} {r r' : V → List V → Hp → VK → Prop} (h : MtR X id r) (h' : MtR X id r') : MtR X id (fun x xs H Q => r x xs H Q ∨ r' x xs H Q) := by
  intro pins s σ H x xs v us Q I rx rs q
  rcases q with q | q
  · exact h pins s σ H x xs v us Q I rx rs q
  · exact h' pins s σ H x xs v us Q I rx rs q
/-- a[b] -/
theorem pe_ix {r : R2} (hr : IxR X r) (ha : PE X a ta) (hb : PE X b tb) (hs : PlainIx b) : PE X (.Subscript a b pos) (tOp r ta tb) := by
  intro pins s σ H Q I h
  exact Subscript_ (binT ha hb I h fun v u s2 x y H2 I2 rx ry q => hr a b pins s2 σ H2 x y v u Q I2 rx ry q (hs _ _))

def rIxL (K : PySem.W.Frag) : R2 := fun x y H Q => ∃ p xs i v, x = .ref p ∧ y = .int i ∧ SqL K H p xs ∧ atI xs i = some v ∧ Q v H
def rIxT (K : PySem.W.Frag) : R2 := fun x y H Q => ∃ p xs i v, x = .ref p ∧ y = .int i ∧ SqT K H p xs ∧ atI xs i = some v ∧ Q v H
def rIxS : R2 := fun x y H Q => ∃ z i c, x = .str z ∧ y = .int i ∧ z.length ≤ sizeLine ∧ atI z.cps.toList i = some c ∧ Q (.str ⟨#[c]⟩) H
theorem ix_list : IxR X (rIxL X.K) := by
  intro value slice pins s σ H x y v u Q I rx ry h hs
  obtain ⟨p, xs, i, z, rfl, rfl, hq, he, q⟩ := h
  cases rx
  obtain ⟨t, rfl⟩ := ry
  obtain ⟨its, r, pl, hz⟩ := I.list hq
  obtain ⟨j, h1, h2, h3, h4, h5⟩ := atI_get he
  obtain ⟨w, ew, rw'⟩ := r.get h2
  have hl := r.length
  have hn := line63
  have fin : EP X pins σ Q w s := ⟨z, H, I, rw', q⟩
  by_cases h0 : 0 ≤ i
  · have hj : i.toNat = j := by
      rw [seqIndex_of h0 h5] at h1
      exact Option.some.inj h1
    exact item_listR pl.isList h0 (by omega) (by rw [hj]; simpa using ew) fin hs
  · have hj : (i + (its.toArray.size : Int)).toNat = j := by
      rw [seqIndex_neg (by omega) h4] at h1
      rw [List.size_toArray, ← hl]
      exact Option.some.inj h1
    exact subscriptTail_builtinR (x := w) pl.isList.typeIs slot_list_getitem.lookup
      (wpAny_getItem_list_neg (Q := fun r s' => r = w ∧ EP X pins σ Q r s') pl.isList (by omega) (by rw [List.size_toArray] <;> omega) (by omega) (by rw [hj]; simpa using ew) ⟨rfl, fin⟩) hs
theorem ix_tup : IxR X (rIxT X.K) := by
  intro value slice pins s σ H x y v u Q I rx ry h hs
  obtain ⟨p, xs, i, z, rfl, rfl, hq, he, q⟩ := h
  cases rx
  obtain ⟨t, rfl⟩ := ry
  obtain ⟨its, r, pl, hz⟩ := I.tuple hq
  obtain ⟨j, h1, h2, h3, h4, h5⟩ := atI_get he
  obtain ⟨w, ew, rw'⟩ := r.get h2
  have hl := r.length
  have hn := line63
  have fin : EP X pins σ Q w s := ⟨z, H, I, rw', q⟩
  exact subscriptTail_builtinR (x := w) pl.typeIs slot_tuple_getitem.lookup
    (getItem_tuple (j := j) (Q := fun r s' => r = w ∧ EP X pins σ Q r s') pl (by omega) (by omega) (by rw [List.size_toArray, ← hl]; exact h1) (by simpa using ew) ⟨rfl, fin⟩) hs
/-- list, tuple or str -/
def rIx (K : PySem.W.Frag) : R2 := fun x y H Q => rIxL K x y H Q ∨ rIxT K x y H Q ∨ rIxS x y H Q
/-! ### xs[i] = v, any sign -/
/-- the list's object behind a store -/
theorem mapSeq_set (its : List Value) (n j : Nat) (u : Value) : Obj.mapSeq (·.setIfInBounds j u) { cls := .type "list", data := .seq its.toArray n } = { cls := .type "list", data := .seq (its.set j u).toArray n } := by
  simp [Obj.mapSeq]
theorem Inv.lst {pins : List (Addr × Obj)} {σ : St} {H : Hp} {s : Shared} {p : Addr} {xs : List V} (I : Inv X pins σ H s) (h : H p = some (.lst xs)) :
    ∃ (its : List Value) (n : Nat), Vals xs its ∧ s.heap.get? p = some { cls := .type "list", data := .seq its.toArray n } ∧ xs.length ≤ sizeLine := by
  obtain ⟨z, its, n, r, e⟩ := I.hok p _ h
  exact ⟨its, n, r, e, z⟩
/-- the list at p is written by an update of its object -/
theorem Inv.lstUpd {pins : List (Addr × Obj)} {σ : St} {H : Hp} {s : Shared} {p : Addr} {xs ys : List V} {its its' : List Value} {n n' : Nat} {f : Obj → Obj} (I : Inv X pins σ H s) (h : H p = some (.lst xs))
    (ho : s.heap.get? p = some { cls := .type "list", data := .seq its.toArray n }) (hf : f { cls := .type "list", data := .seq its.toArray n } = { cls := .type "list", data := .seq its'.toArray n' }) (r : Vals ys its') (hz : ys.length ≤ sizeLine) (t : Nat) :
    Inv X pins σ (upd H p (.lst ys)) { s with heap := s.heap.update p f, toks := t } := by
  have e : (s.heap.update p f).get? p = some { cls := .type "list", data := .seq its'.toArray n' } := by
    rw [Heap.get?_update_self f ho (by rw [hf] <;> rfl), hf]
  refine I.write (x := p) (e := p) (by rw [h]; trivial) (.inl rfl) (fun b u hb q => (Heap.get?_update_other _ _ (Ne.symm hb)).trans q) ⟨_, e⟩ ?_
  exact ⟨hz, its', n', r, e⟩
def rSetL : V → V → V → Hp → (Hp → Prop) → Prop := fun o i v H Q => ∃ p xs k j, o = .ref p ∧ i = .int k ∧ H p = some (.lst xs) ∧ ixN xs.length k = some j ∧ Q (upd H p (.lst (xs.set j v)))
theorem set_list : PSet X rSetL := by
  intro pins s σ H o i v ov iv u Q I ro ri rv h
  obtain ⟨p, xs, k, j, rfl, rfl, hp, hj, q⟩ := h
  cases ro
  obtain ⟨t, rfl⟩ := ri
  obtain ⟨its, n, r, ho, hz⟩ := I.lst hp
  obtain ⟨h1, h2, h3, h4⟩ := ixN_seq hj
  have hl := r.length
  have hn := line63
  have I' : Inv X pins σ (upd H p (.lst (xs.set j v))) { s with heap := s.heap.update p (Obj.mapSeq (·.setIfInBounds j u)) } :=
    I.lstUpd hp ho (mapSeq_set its n j u) (r.set rv j) (by rw [List.length_set]; exact hz) s.toks
  by_cases h0 : 0 ≤ k
  · have hk : k.toNat = j := by
      rw [seqIndex_of h0 h4] at h1
      exact Option.some.inj h1
    exact PySem.W.ki_setAt ho h0 (by omega) (by rw [List.size_toArray, ← hl]; exact h4) (by rw [hk]; exact ⟨_, I', q⟩)
  · have hk : (k + (its.toArray.size : Int)).toNat = j := by
      rw [seqIndex_neg (by omega) h3] at h1
      rw [List.size_toArray, ← hl]
      exact Option.some.inj h1
    exact PySem.W.ki_setBack ho (by omega) (by rw [List.size_toArray, ← hl]; exact h3) (by omega) (by rw [hk]; exact ⟨_, I', q⟩)

/-! ### slices -/
/-- xs[lo:hi] of a list: a new list -/
def rSlL (K : PySem.W.Frag) : V → Option Int → Option Int → Hp → VK → Prop := fun x lo hi H Q => ∃ a xs, x = .ref a ∧ SqL K H a xs ∧ ∀ p, H p = none → Q (.ref p) (upd H p (.lst (cutV xs lo hi)))
/-! ### in, not in: flat items -/
def flatV : V → Bool
  | .non => true
  | .bl _ => true
  | .int _ => true
  | .str _ => true
  | _ => false
/-- == of flat values -/
def eqV : V → V → Bool
  | .non, .non => true
  | .bl a, .bl b => a == b
  | .bl a, .int b => (if a then 1 else 0) == b
  | .int a, .bl b => a == (if b then 1 else 0)
  | .int a, .int b => a == b
  | .str a, .str b => a == b
  | _, _ => false
theorem eqAt_V {A : Around} {s : Shared} {y x : V} {u v : Value} (ry : RelV y u) (rx : RelV x v) (fy : flatV y = true) (fx : flatV x = true) : SeqAt.EqAt A s u v (eqV y x) := by
  cases y with
  | non =>
    cases ry
    cases x with
    | non => cases rx; exact SeqAt.EqAt.same _
    | bl b => cases rx; exact SeqAt.EqAt.none_bool b
    | int b => obtain ⟨t, rfl⟩ := rx; exact SeqAt.EqAt.none_int b t
    | str b => obtain ⟨t, rfl⟩ := rx; exact SeqAt.EqAt.none_str b t
    | _ => exact absurd (show false = true from fx) Bool.false_ne_true
  | bl a =>
    cases ry
    cases x with
    | non => cases rx; exact SeqAt.EqAt.bool_none a
    | bl b => cases rx; exact SeqAt.EqAt.bool_bool a b
    | int b => obtain ⟨t, rfl⟩ := rx; exact SeqAt.EqAt.bool_int a b t
    | str b => obtain ⟨t, rfl⟩ := rx; exact SeqAt.EqAt.bool_str a b t
    | _ => exact absurd (show false = true from fx) Bool.false_ne_true
  | int a =>
    obtain ⟨t', rfl⟩ := ry
    cases x with
    | non => cases rx; exact SeqAt.EqAt.int_none a t'
    | bl b => cases rx; exact SeqAt.EqAt.int_bool a t' b
    | int b => obtain ⟨t, rfl⟩ := rx; exact SeqAt.EqAt.int_int a t' b t
    | str b => obtain ⟨t, rfl⟩ := rx; exact SeqAt.EqAt.int_str a t' b t
    | _ => exact absurd (show false = true from fx) Bool.false_ne_true
  | str a =>
    obtain ⟨t', rfl⟩ := ry
    cases x with
    | non => cases rx; exact SeqAt.EqAt.str_none a t'
    | bl b => cases rx; exact SeqAt.EqAt.str_bool a t' b
    | int b => obtain ⟨t, rfl⟩ := rx; exact SeqAt.EqAt.str_int a t' b t
    | str b => obtain ⟨t, rfl⟩ := rx; exact SeqAt.EqAt.str_str a t' b t
    | _ => exact absurd (show false = true from fx) Bool.false_ne_true
  | _ => exact absurd (show false = true from fy) Bool.false_ne_true
/-- the items' answers, read off the values (a value's own answer does not lean on its token) -/
def eqU (x : V) (u : Value) : Bool := match u with
  | .none => eqV .non x
  | .bool b => eqV (.bl b) x
  | .int i _ => eqV (.int i) x
  | .str z _ => eqV (.str z) x
  | _ => false
def inV (x : V) (xs : List V) : Bool := xs.any fun y => eqV y x
/-- x in a list or tuple of flat items -/
def rIn (K : PySem.W.Frag) (neg : Bool) : R2 := fun x y H Q => ∃ p xs, y = .ref p ∧ (SqL K H p xs ∨ SqT K H p xs) ∧ flatV x = true ∧ xs.all flatV = true ∧ Q (.bl (if neg then !inV x xs else inV x xs)) H
/-! ### len, list(x), tuple(x) of any list or tuple that is read -/
theorem call_len_seq : CallR X (.builtin "len") (fun xs H Q => ∃ p ys, xs = [.ref p] ∧ (SqL X.K H p ys ∨ SqT X.K H p ys) ∧ Q (.int ys.length) H) := by
  intro pins s σ H xs us Q I r h
  obtain ⟨p, ys, rfl, hq, q⟩ := h
  obtain ⟨u, rfl, rx⟩ := vals1 r
  cases rx
  have hn := line63
  rcases hq with hq | hq
  · obtain ⟨its, r', pl, hz⟩ := I.list hq
    have hlen := r'.length
    exact Calls.call_len_list pl.isList (by simp only [List.size_toArray] <;> omega) ⟨.int ys.length, H, I.tok _, ⟨s.toks + 1, by rw [List.size_toArray, hlen]⟩, q⟩
  · obtain ⟨its, r', pl, hz⟩ := I.tuple hq
    have hlen := r'.length
    exact len_tuple pl (by simp only [List.size_toArray] <;> omega) ⟨.int ys.length, H, I.tok _, ⟨s.toks + 1, by rw [List.size_toArray, hlen]⟩, q⟩
theorem CallR.or {f : Value} {r r' : List V → Hp → VK → Prop} (h : CallR X f r) (h' : CallR X f r') : CallR X f (fun xs H Q => r xs H Q ∨ r' xs H Q) := by
  intro pins s σ H xs us Q I rs q
  rcases q with q | q
  · exact h pins s σ H xs us Q I rs q
  · exact h' pins s σ H xs us Q I rs q
/-! ### the call of a builtin's method: o.m(..) -/
/-- the value is of that builtin type -/
def tyV (K : PySem.W.Frag) (T : String) (x : V) (H : Hp) : Prop := match x with
  | .str _ => T = "str"
  | .int _ => T = "int"
  | .ref p => (T = "list" ∧ ∃ xs, SqL K H p xs) ∨ (T = "tuple" ∧ ∃ o, K.lookup p = some o ∧ o.cls = .type "tuple" ∧ o.dict = none) ∨
      (T = "dict" ∧ ((∃ kvs, H p = some (.dK kvs)) ∨ ∃ kvs, H p = some (.dT kvs))) ∨ (T = "set" ∧ ∃ S n, H p = some (.set S n))
  | _ => False
def tBM0 (K : PySem.W.Frag) (T : String) (r : V → List V → Hp → VK → Prop) (to : TE) : TE := fun σ H Q => to σ H fun x H1 => tyV K T x H1 ∧ r x [] H1 Q
def tBM (K : PySem.W.Frag) (T : String) (r : V → List V → Hp → VK → Prop) (to : TE) (t : TA) : TE := fun σ H Q => to σ H fun x H1 => tyV K T x H1 ∧ t σ H1 fun xs H2 => r x xs H2 Q
variable {o e : Expr} {es : List Expr} {to : TE} {t : TA} {name : Str} {apos cpos : Pos} {T id : String} {r : V → List V → Hp → VK → Prop}
/- xs.append(e), list.index on a module's tuple .. are MtR facts of 06m -/
end
end L2

namespace L2
open PySem PySem.Spec PyProof.Rows

def MtM (X : Cx) (id : String) (r : V → List V → Hp → VK → Prop) : Prop :=
  ∀ (pins : List (Addr × Obj)) (s : Shared) (σ : St) (H : Hp) (x : V) (xs : List V) (v : Value) (us : List Value) (Q : VK), Inv X pins σ H s → RelV x v → Vals xs us → r x xs H Q →
    wpAny (model X.prog X.w) X.A (call (.builtin id) (v :: us)) (EP X pins σ Q) X.xe s

/-! ### lists of values -/
theorem Vals.one : ∀ {x : V} {us : List Value}, Vals [x] us → ∃ u, us = [u] ∧ RelV x u
  | _, _, .cons r .nil => ⟨_, rfl, r⟩
theorem Vals.two : ∀ {x y : V} {us : List Value}, Vals [x, y] us → ∃ u v, us = [u, v] ∧ RelV x u ∧ RelV y v
  | _, _, _, .cons r (.cons q .nil) => ⟨_, _, rfl, r, q⟩
theorem Vals.zero : ∀ {us : List Value}, Vals [] us → us = []
  | _, .nil => rfl
theorem Vals.dropLast {xs : List V} {us : List Value} (h : Vals xs us) : Vals xs.dropLast us.dropLast := by
  induction h with
  | nil => exact .nil
  | cons r t ih =>
    cases t with
    | nil => exact .nil
    | cons q t' => exact .cons r ih
theorem Vals.eraseIdx : ∀ {xs : List V} {us : List Value} (i : Nat), Vals xs us → Vals (xs.eraseIdx i) (us.eraseIdx i)
  | _, _, _, .nil => .nil
  | _, _, 0, .cons _ t => t
  | _, _, i + 1, .cons r t => .cons r (Vals.eraseIdx i t)
theorem Vals.reverse {xs : List V} {us : List Value} (h : Vals xs us) : Vals xs.reverse us.reverse := by
  induction h with
  | nil => exact .nil
  | cons r t ih => rw [List.reverse_cons, List.reverse_cons]; exact Vals.append ih (.cons r .nil)
section
variable {X : Cx} {pins : List (Addr × Obj)} {σ : St} {H : Hp} {s : Shared} {l b : Addr} {xs ys zs : List V}

/-! ### the two steps: a tracked list is rewritten, a new list is laid -/
theorem Inv.fresh (I : Inv X pins σ H s) : H s.heap.objs.size = none := I.hok.fresh (Nat.le_refl _)
end

section
variable {X : Cx}

/-! ### methods -/
def rAppend : V → List V → Hp → VK → Prop := fun x vs H Q => ∃ l xs y, x = .ref l ∧ vs = [y] ∧ H l = some (.lst xs) ∧ xs.length < sizeLine ∧ Q .non (upd H l (.lst (xs ++ [y])))
def rExtend : V → List V → Hp → VK → Prop := fun x vs H Q => ∃ l b xs zs, x = .ref l ∧ vs = [.ref b] ∧ H l = some (.lst xs) ∧ H b = some (.lst zs) ∧ xs.length + zs.length ≤ sizeLine ∧ Q .non (upd H l (.lst (xs ++ zs)))
def rPop : V → List V → Hp → VK → Prop := fun x vs H Q => ∃ l xs y, x = .ref l ∧ vs = [] ∧ H l = some (.lst xs) ∧ xs[xs.length - 1]? = some y ∧ Q y (upd H l (.lst xs.dropLast))
def rPopAt : V → List V → Hp → VK → Prop := fun x vs H Q => ∃ l xs i k y, x = .ref l ∧ vs = [.int i] ∧ H l = some (.lst xs) ∧ -(2 ^ 63) ≤ i ∧ i < 2 ^ 63 ∧ seqIndex? i xs.length = some k ∧ xs[k]? = some y ∧ Q y (upd H l (.lst (xs.eraseIdx k)))
def rReverse : V → List V → Hp → VK → Prop := fun x vs H Q => ∃ l xs, x = .ref l ∧ vs = [] ∧ H l = some (.lst xs) ∧ Q .non (upd H l (.lst xs.reverse))
def rClear : V → List V → Hp → VK → Prop := fun x vs H Q => ∃ l xs, x = .ref l ∧ vs = [] ∧ H l = some (.lst xs) ∧ Q .non (upd H l (.lst []))
/-! ### list + list, list += list, list * int -/
def rCat : R2 := fun x y H Q => ∃ l b xs zs, x = .ref l ∧ y = .ref b ∧ H l = some (.lst xs) ∧ H b = some (.lst zs) ∧ xs.length + zs.length ≤ sizeLine ∧ ∀ p, H p = none → Q (.ref p) (upd H p (.lst (xs ++ zs)))
/-- a list times an int (a negative one is nothing) -/
def rRep : R2 := fun x y H Q => ∃ l k xs, x = .ref l ∧ y = .int k ∧ H l = some (.lst xs) ∧ -(2 ^ 63) ≤ k ∧ k < 2 ^ 63 ∧ xs.length * k.toNat ≤ sizeLine ∧
  ∀ p, H p = none → Q (.ref p) (upd H p (.lst (List.replicate k.toNat xs).flatten))
/-! ### del xs[i] -/
end

/-! ### xs[a:b] = ys -/
section
variable {prog : Program} {w : World} {A : Around} {E : Value → Shared → Prop} {s : Shared}
set_option maxRecDepth 100000 in
end

section
variable {X : Cx}
end
end L2

namespace Att
open PySem PySem.W PySem.Calls PyProof.Rows

/-! ### the script -/
theorem ints_of_wellAll {P : Params} {h : Heap} : ∀ (ns : List Int) (vs : List Value), WellAll P h vs (ns.map WData.int) → IntsAre vs ns := by
  intro ns
  induction ns with
  | nil =>
    intro vs w
    rw [List.map_nil] at w
    cases w
    exact .nil
  | cons n ns ih =>
    intro vs w
    rw [List.map_cons] at w
    cases w with
    | cons a b =>
      cases a
      exact .cons _ _ (ih _ b)

theorem script_of {l : OpenLaw} {n : Nat} (hn : l.most = some n) {P : Params} {h : Heap} {args : List WData} {vals : List Value}
    (hpre : l.row.toRowW.claim.pre args = true) (hwl : WellAll P h vals args) :
    ∃ a vs ns, vals = [Value.ref a] ∧ args = [WData.list (ns.map WData.int)] ∧ h.get? a = some { cls := .type "list", data := .seq vs.toArray } ∧ IntsAre vs ns ∧ ns.length ≤ n := by
  have hsh : WShape.hasAll [] args [.list .int] = true := (pre_splitW hpre).1
  have hc : l.pre.holds [] { args := args } = true := (pre_splitW hpre).2
  obtain ⟨d, r, rfl, h1, h2⟩ := hasAllW_cons hsh
  obtain rfl := hasAllW_nil h2
  obtain ⟨xs, rfl, h3⟩ := hasW_list h1
  obtain ⟨ns, rfl⟩ := items_int h3
  have hlen : ns.length ≤ n := by
    unfold OpenLaw.pre at hc
    have h4 : (WTm.not (.lt (.lit (.int (n : Int))) (.len (.arg 0)))).holds [] { args := [.list (ns.map .int)] } = true := by
      have h4 := (holds_andW hc).1
      rw [hn] at h4
      exact h4
    have h5 := condW_of h4 (w_not (w_lt w_lit (w_len_list (w_arg rfl))))
    rw [List.length_map] at h5
    refine Nat.le_of_not_lt fun q => ?_
    have q' : (n : Int) < ((ns.length : Nat) : Int) := by omega
    first
      | (rw [decide_eq_true q'] at h5; exact absurd h5 (by decide))
      | (simp at h5; omega)
  cases hwl with
  | cons w1 w2 =>
    cases w2
    cases w1 with
    | list ho hall => exact ⟨_, _, ns, rfl, rfl, ho, ints_of_wellAll ns _ hall, hlen⟩

theorem post_true (l : OpenLaw) (args : List WData) : l.row.toRowW.claim.post args (.bool true) args = true :=
  postW_of (r := l.row.toRowW) (X := (true == true))
    (show WShape.has [] (.bool true) .bool = true by first | rfl | decide | simp [WShape.has, WShape.arms, WShape.armsAll])
    (show (WTm.eq .res (.lit (.bool true))).value [] { args := args, res := some (.bool true), after := args } = some (.bool (true == true)) from w_eq_bool (w_res rfl) w_lit) rfl

/-! ### the attachment: holds_open's last premise (the goal 'hc' behind k_head) from a wpAny of the law's body -/
/-- the same from a codeAny of the CALL (for a layer whose function contracts speak of calls) -/
theorem attach_call {l : OpenLaw} {n : Nat} {q : Program} {loose : List Str} {XP : (Str → Option Value) → Heap → Prop} {YP : World → Heap → Prop} {d : DefRec}
    (hn : l.most = some n) (hdf : d.params.defaults = [])
    (call : ∀ (w : World) (s₀ s₁ : Shared) (mg mb : Str → Option Value) (fa : Addr) (o : Obj) (pm cd doc : Value) (a : Addr) (vs : List Value) (ns : List Int),
      Ground q loose [] XP w s₀ mg mb s₁.heap → YP w s₁.heap →
      s₁.heap.get? fa = some o → o.data = .func (docDef d.name d.params d.body d.scope pm cd doc) → s₁.heap.CodeRec cd d.name → mg d.name = some (.ref fa) →
      s₁.heap.get? a = some { cls := .type "list", data := .seq vs.toArray } → IntsAre vs ns → ns.length ≤ n → s₁.gens = #[] →
      codeAny (model l.prog w) callerA (.call (.ref fa) ⟨[.ref a], []⟩) (fun r s' => r = .ok (.ret (.bool true)) ∧ OldK s₁.heap s'.heap ∧ s'.os = s₁.os ∧ AllBare s'.gens) s₁) :
    WalkO q loose XP YP l.row.toRowW d [] (fun f vs => PySem.call f vs) := by
  intro w s₀ s₁ mg mb G Y fa o pm cd doc dV kV ho hd hcd hD hmg hg args vals as hpre hlay hrd hwl hlo
  obtain rfl : dV = .none := Dflts.none hD hdf
  obtain rfl : kV = .none := Dflts.noKw hD
  obtain ⟨a, vs, ns, rfl, rfl, hobj, hints, hlen⟩ := script_of hn hpre hwl
  refine enter_call (codeAny_mono (call w s₀ s₁ mg mb fa o pm cd doc a vs ns G Y ho (fd_plain hd) hcd hmg hobj hints hlen hg) fun r s' hq => ?_)
  obtain ⟨rfl, h2, h3, h4⟩ := hq
  exact ⟨.inl ⟨.bool true, .bool true, [], rfl, fun _ => rfl, .bool true, post_true l _, fun _ => ⟨List.Pairwise.nil, fun _ hm => (nomatch hm)⟩⟩, h2, h3, h4⟩

/-! ### rules over ANY heap (no ledger) from facts about the written part K: the library's own take a ledger (News) for what they write -/
section
variable {prog : Program} {w : World} {A : Around} {E : Value → Shared → Prop} {s : Shared} {K : Frag}

/-! the whole heap as the ledger: makes every rule that writes through a ledger a rule over any heap -/
def noObjs (h : Heap) : Heap := { h with objs := #[] }
def ledger (h : Heap) (L d : Addr) : List (Addr × Obj) := (List.range h.objs.size).filterMap fun a => if a = L ∨ a = d then none else (h.get? a).map fun o => (a, o)
end
end Att

namespace L2
open PySem PySem.Spec PyProof.Rows

theorem vals_ints : ∀ {vs : List Value} {ns : List Int}, IntsAre vs ns → Vals (ns.map V.int) vs
  | _, _, .nil => .nil
  | _, _, .cons n t h => .cons ⟨t, rfl⟩ (vals_ints h)

/-- nothing is tracked but the script, known to the object (or it is an object of the module) -/
def Only (H : Hp) : Prop := ∀ b, H b = none ∨ ∃ o xs, H b = some (.frz o (.lst xs))

/-- THE HEAD: the law's promise, at the heap behind the top. F, the promise of the law's def, may use that base is part of the heap (so K.In base, base.Ns mainGlobals mg stand in Mod) -/
theorem law_call {P : Program} {w : World} {K : PySem.W.Frag} {mg mb : Str → Option Value} {CX : CXT} {k : Nat} {fa a : Addr} {fd : FuncData} {x : Str} {sp : Sp} {s₁ : Shared} {vs : List Value} {ns : List Int}
    (KX : K.In s₁.heap) (hns : s₁.heap.Ns mainGlobals mg) (hb : s₁.heap.Ns builtinsNs mb) (hbb : ∀ x : Str, x ≠ "__name__" → mb x = bootBuiltins x) (hlim : s₁.heap.NoLimit) (hg : s₁.gens = #[])
    (ha : s₁.heap.get? a = some { cls := .type "list", data := .seq vs.toArray }) (hi : IntsAre vs ns) (hl : ns.length ≤ sizeLine) (hr : Room k callerA)
    (F : ∀ base : Heap, K.In base → base.Ns mainGlobals mg → FnOk P w K mg base CX k fa fd [x] sp) (hbind : ∀ (s : Shared) (u : Value), BindsTo s fd ⟨[u], []⟩ [(x, u)])
    (hsp : ∀ H : Hp, Only H → SqL K H a (ns.map V.int) → sp [.ref a] H (fun v _ => v = .bl true) fun _ _ _ => False)
    (hCX : ∀ H e s', CX [] H s₁ (fun _ _ _ => False) e s' → False) :
    codeAny (model P w) callerA (.call (.ref fa) ⟨[.ref a], []⟩) (fun r s' => r = .ok (.ret (.bool true)) ∧ OldK s₁.heap s'.heap ∧ s'.os = s₁.os ∧ AllBare s'.gens) s₁ := by
  have rv := vals_ints hi
  have lenV := hi.length
  -- from an abstract heap in which nothing but the script may be tracked
  have core : ∀ H : Hp, Only H → SqL K H a (ns.map V.int) → HOk P w H s₁.heap → (∀ b, H b ≠ none → b = a) → (H a ≠ none → K.lookup a = none) →
      codeAny (model P w) callerA (.call (.ref fa) ⟨[.ref a], []⟩) (fun r s' => r = .ok (.ret (.bool true)) ∧ OldK s₁.heap s'.heap ∧ s'.os = s₁.os ∧ AllBare s'.gens) s₁ := by
    intro H hO hS hok hA hK
    have base_of : ∀ {b : Addr} {o : Obj}, s₁.heap.get? b = some o → H b = none → (hidT s₁.heap H).get? b = some o := fun e n => hidT_get e n
    have noA : ∀ {b : Addr} {o : Obj} {es : Array DictEntry} {ep : Nat}, s₁.heap.get? b = some o → o.data = .dict es ep → H b = none := fun {b o es ep} e d => by
      cases q : H b with
      | none => rfl
      | some u =>
        have e' : b = a := hA b (by rw [q]; simp)
        subst e'
        rw [ha] at e; cases e
        have d' : Data.seq vs.toArray _ = Data.dict es ep := d
        cases d'
    have nsK : ∀ {b : Addr} {m : Str → Option Value}, s₁.heap.Ns b m → (hidT s₁.heap H).Ns b m := fun {b m} ⟨o, es, ep, e, d, r⟩ => ⟨o, es, ep, base_of e (noA e d), d, r⟩
    have hKb : K.In (hidT s₁.heap H) := fun b o e => base_of (KX b o e) (by
      cases q : H b with
      | none => rfl
      | some u =>
        have e' : b = a := hA b (by rw [q]; simp)
        subst e'
        rw [hK (by rw [q]; simp)] at e; cases e)
    have hM : Mod K mg (hidT s₁.heap H) := ⟨hKb, nsK hns, ⟨mb, nsK hb, hbb⟩, let ⟨mc, h1, h2⟩ := hlim; ⟨mc, nsK h1, h2⟩⟩
    have e0 : Env0 P w K mg (hidT s₁.heap H) callerA [] s₁ H := ⟨rfl, hM, fun b o e => of_hidT e, Nat.le_of_eq (hidT_size _ _), trivial, fun b hb => absurd (show b ∈ ([] : List Addr) from hb) (by simp), hok, .of_eq hg⟩
    refine codeAny_mono ((F _ hKb (nsK hns)).run callerA [] s₁ H ⟨[.ref a], []⟩ [.ref a] [.ref a] _ _ hr e0 (hbind s₁ (.ref a)) (.cons rfl .nil) (hsp H hO hS)) fun r s' h => ?_
    cases r with
    | error e => exact (hCX H e s' h).elim
    | ok fl =>
      cases fl with
      | next => exact False.elim h
      | brk => exact False.elim h
      | cont => exact False.elim h
      | ret u =>
        obtain ⟨v, H', os, bare, un, hok', r', q⟩ := h
        have q' : v = .bl true := q
        subst q'
        obtain rfl : u = Value.bool true := r'
        refine ⟨rfl, OldK.of_keep fun b o e => ?_, os, bare⟩
        cases q : H b with
        | none => exact un.keep b o e q (by intro z; exact absurd (show b ∈ ([] : List Addr) from z) (by simp)) (by simp)
        | some u =>
          rcases hO b with z | ⟨ob, xs, z⟩
          · rw [q] at z; cases z
          · have z2 := un.frzs b ob _ z
            obtain ⟨e1, _⟩ := hok b _ z
            obtain ⟨e2, _⟩ := hok' b _ z2
            rw [e] at e1; cases e1
            exact e2
  cases hk : K.lookup a with
  | some o =>
    -- the script is one of the module's own objects
    have e := KX a o hk
    rw [ha] at e
    cases e
    refine core (fun _ => none) (fun _ => .inl rfl) (.inr ⟨_, vs.toArray, _, hk, rfl, rfl, rfl, by rw [List.size_toArray, lenV]; exact hl, by simpa using rv⟩) (fun b u z => by have z' : (none : Option HO) = some u := z; cases z') (fun b z => absurd rfl z) fun z => absurd rfl z
  | none =>
    refine core (fun b => if b = a then some (.frz { cls := .type "list", data := .seq vs.toArray } (.lst (ns.map V.int))) else none) (fun b => ?_) (.inl (.inr ⟨{ cls := .type "list", data := .seq vs.toArray }, if_pos rfl⟩)) (fun b u z => ?_) (fun b z => ?_) fun _ => hk
    · by_cases hb : b = a
      · exact .inr ⟨_, _, if_pos hb⟩
      · exact .inl (if_neg hb)
    · by_cases hb : b = a
      · have z' := (if_pos hb).symm.trans z
        cases z'
        subst hb
        exact ⟨ha, by rw [List.length_map]; exact hl, vs, _, rv, ha⟩
      · have z' := (if_neg hb).symm.trans z
        cases z'
    · by_cases hb : b = a
      · exact hb
      · exact absurd (if_neg hb) z
end L2

namespace L2
open PySem PySem.Spec PyProof.Rows

abbrev KOf {K : PySem.W.Frag} {h : Heap} (_ : K.In h) : PySem.W.Frag := K

/-- the goal that k_head leaves (case hc), from the law's promise. F gives the function object fd (K's own) once, then the promise over every base -/
theorem walk_of {l : PySem.W.OpenLaw} {n k : Nat} {q : Program} {loose : List Str} {XP : (Str → Option Value) → Heap → Prop} {YP : World → Heap → Prop} {d : DefRec} {K : Params → PySem.W.Frag} {CX : World → CXT} {sp : World → Sp} {x : Str}
    (hn : l.most = some n) (hn2 : n ≤ sizeLine) (hdf : d.params.defaults = []) (hr : Room k callerA)
    (hY : ∀ (w : World) (h : Heap), YP w h → (K w.params).In h)
    (F : ∀ (w : World) (mg : Str → Option Value) (fa : Addr) (h : Heap), (K w.params).In h → h.Ns mainGlobals mg → mg d.name = some (.ref fa) →
      ∃ fd : FuncData, (∀ (s : Shared) (u : Value), BindsTo s fd ⟨[u], []⟩ [(x, u)]) ∧
        ∀ base : Heap, (K w.params).In base → base.Ns mainGlobals mg → FnOk l.prog w (K w.params) mg base (CX w) k fa fd [x] (sp w))
    (hsp : ∀ (w : World) (H : Hp) (a : Addr) (ns : List Int), ns.length ≤ n → Only H → SqL (K w.params) H a (ns.map V.int) → sp w [.ref a] H (fun v _ => v = .bl true) fun _ _ _ => False)
    (hCX : ∀ (w : World) (H : Hp) (s : Shared) (e : Value) (s' : Shared), CX w [] H s (fun _ _ _ => False) e s' → False) :
    PySem.W.WalkO q loose XP YP l.row.toRowW d [] (fun f vs => PySem.call f vs) := by
  refine Att.attach_call hn hdf fun w s₀ s₁ mg mb fa o pm cd doc a vs ns G Y ho hd hcd hmg hobj hints hlen hg => ?_
  have KX := hY w _ Y
  obtain ⟨fd, hb, hF⟩ := F w mg fa _ KX G.T.g hmg
  exact law_call KX G.T.g G.T.b G.T.builtins G.T.nolimit hg hobj hints (Nat.le_trans hlen hn2) hr hF hb (fun H hO hS => hsp w H a ns hlen hO hS) fun H e s' => hCX w H s₁ e s'
end L2



/-! SHORT WORDS over the layer: a def of the text, its body, what a loop and a test want. -/
namespace L2
open PySem PySem.Spec PyProof.Rows

/-! ### the text by places -/
/-- the j-th statement of a class's body -/
def inClass (s : Stmt) (j : Nat) : Stmt := match s with
  | .ClassDef _ _ _ body _ _ _ _ _ _ _ => body.getD j (.Pass ⟨0, 0, 0, 0⟩)
  | _ => .Pass ⟨0, 0, 0, 0⟩
def defArgs (s : Stmt) : Arguments := match s with
  | .FunctionDef _ a _ _ _ _ _ _ _ _ => a
  | _ => { posonlyargs := [], args := [], vararg := none, kwonlyargs := [], kw_defaults := [], kwarg := none, defaults := [] }
def defBody (s : Stmt) : List Stmt := match s with
  | .FunctionDef _ _ b _ _ _ _ _ _ _ => b
  | _ => []
def defScope (s : Stmt) : Scope := match s with
  | .FunctionDef _ _ _ _ _ _ sc _ _ _ => sc
  | _ => { kind := .function, names := [], isGenerator := false, isCoroutine := false }

/-! ### no exception leaves a def -/
abbrev CX0 : CXT := fun _ _ _ _ _ _ => False
abbrev E0 : XK := fun _ _ _ => False
theorem pass0 {X : Cx} : Passes CX0 X E0 := fun _ _ _ _ _ _ _ h => h.elim

/-! ### a def (or method) of the text as it stands behind the top -/
structure Fun (K : PySem.W.Frag) (x qual : Str) (st : Stmt) (f : Addr) (fd : FuncData) : Prop where
  ex : ∃ (oc : Value) (od : Option Addr) (kV doc pm : Value) (an : Option Addr) (cdv ct : Value) (osl : Array (Option Value)),
    fd = PySem.W.fnOf x qual (defArgs st) (defBody st) (defScope st) .none kV doc pm an cdv ct ∧ K.lookup f = some ⟨oc, od, .func fd, osl⟩ ∧ PySem.W.codeIn K cdv qual = true
  kp : PySem.W.keepIn K (.ref f) = true
section
variable {P : Program} {w : World} {K : PySem.W.Frag} {mg : Str → Option Value} {base : Heap}
/-- THE RULE for a def: its body as a term of rules, and the reading of that term -/
theorem Fun.ok {x qual : Str} {st : Stmt} {f : Addr} {fd : FuncData} {N ps : List Str} {k : Nat} {sp : Sp} (F : Fun K x qual st f fd) (S : FnScope N ps (defScope st)) (len : ∀ vs H Q E, sp vs H Q E → vs.length = ps.length)
    (hbody : ∀ (cdv : Value) (A : Around) (outer : List Env) (s : Shared) (H : Hp) (vs : List V) (Q : VK) (E : XK), Room k (A.deeper (envOfC qual (defScope st) s.heap.objs.size f cdv)) → sp vs H Q E →
      ∃ t, PSs (cxOf CX0 P w K mg base N qual (defScope st) f cdv A outer s H E).nox (defBody st) t ∧ t { nx := fun _ H' => Q .non H', rt := Q } (start N vs) H) : FnOk P w K mg base CX0 (k + 1) f fd ps sp := by
  obtain ⟨oc, od, kV, doc, pm, an, cdv, ct, osl, rfl, lk, hcd⟩ := F.ex
  refine fn_of lk hcd S len fun A outer s H vs Q E hr hsp => ?_
  obtain ⟨t, h, q⟩ := hbody cdv A outer s H vs Q E hr hsp
  exact ⟨t, h.nox, q⟩
/-- how its arguments bind (no defaults): h is «fun _ _ _ _ _ _ us hl => match us, hl with | [_, _], _ => rfl», one _ a parameter -/
theorem Fun.binds {x qual : Str} {st : Stmt} {f : Addr} {fd : FuncData} {ps : List Str} (F : Fun K x qual st f fd)
    (h : ∀ (kV doc pm : Value) (an : Option Addr) (cdv ct : Value) (us : List Value), us.length = ps.length → bindArgs (PySem.W.fnOf x qual (defArgs st) (defBody st) (defScope st) .none kV doc pm an cdv ct) ⟨us, []⟩ = pure (ps.zip us)) : Binds K fd ps [] := by
  obtain ⟨oc, od, kV, doc, pm, an, cdv, ct, osl, rfl, lk, hcd⟩ := F.ex
  exact .all (h kV doc pm an cdv ct)
theorem fun_mk {x qual : Str} {st : Stmt} {f : Addr} {oc : Value} {od an : Option Addr} {osl : Array (Option Value)} {kV doc pm cdv ct : Value} (l : K.lookup f = some ⟨oc, od, .func (PySem.W.fnOf x qual (defArgs st) (defBody st) (defScope st) .none kV doc pm an cdv ct), osl⟩)
    (c : PySem.W.codeIn K cdv qual = true) (k : PySem.W.keepIn K (.ref f) = true) : Fun K x qual st f (PySem.W.fnOf x qual (defArgs st) (defBody st) (defScope st) .none kV doc pm an cdv ct) := ⟨⟨oc, od, kV, doc, pm, an, cdv, ct, osl, rfl, l, c⟩, k⟩
end
theorem hu_of {A : Around} {k : Nat} (hr : Room k A) : A.units + 1 < cLine := Nat.lt_of_le_of_lt (Nat.add_le_add_left (by decide : 1 ≤ 64) _) hr.units
/-! ### expressions in short: the name that stands in the i-th slot -/
section
variable {X : Cx}
theorem pv (i : Nat) {x : Str} {pos : Pos} (hN : X.N[i]? = some x := by rfl) (hv : Vis X.env.scope x := by first | exact Or.inl rfl | exact Or.inr (Or.inl rfl) | exact Or.inr (Or.inr rfl)) (hd : (x == ("__debug__" : Str)) = false := by decide)
    (hcd : (x == ("__classdict__" : Str)) = false := by decide) : PE X (.Name x pos) (tVar i) := pe_var hN hv hd hcd
end

/-! ### tests -/
theorem iteF {A B : Prop} (h : B) : if false = true then A else B := by
  rw [if_neg Bool.false_ne_true]
  exact h
theorem iteT {A B : Prop} (h : A) : if true = true then A else B := by
  rw [if_pos rfl]
  exact h
theorem ite2 {c A B : Prop} [Decidable c] (h1 : c → A) (h2 : ¬ c → B) : if c then A else B := by
  by_cases h : c
  · rw [if_pos h]
    exact h1 h
  · rw [if_neg h]
    exact h2 h
theorem iteNS {c A B : Prop} [Decidable c] (hc : c) (h : B) : if (!decide c) = true then A else B := by
  rw [decide_eq_true hc]
  exact iteF h

/-! ### heaps -/
/-- all that was tracked is as it was -/
def Same (H H' : Hp) : Prop := ∀ b o, H b = some o → H' b = some o
theorem Same.refl (H : Hp) : Same H H := fun _ _ h => h
theorem Same.trans {H H1 H2 : Hp} (a : Same H H1) (b : Same H1 H2) : Same H H2 := fun c o h => b c o (a c o h)
theorem Same.free {H H' : Hp} (e : Same H H') {l : Addr} (h : H' l = Option.none) : H l = Option.none := by
  cases q : H l with
  | none => rfl
  | some o =>
    rw [e l o q] at h
    cases h
theorem Same.seq {K : PySem.W.Frag} {H H' : Hp} {a : Addr} {xs : List V} (e : Same H H') (h : SqL K H a xs) : SqL K H' a xs := by
  rcases h with (h | ⟨o, h⟩) | h
  · exact .inl (.inl (e _ _ h))
  · exact .inl (.inr ⟨o, e _ _ h⟩)
  · exact .inr h

end L2

set_option maxHeartbeats 4000000
/-! ## Own words over the layer -/
namespace Ow
open PySem PySem.Spec PyProof.Rows L2
/-- a def of the text that keeps its promise, by its name -/
structure Has (P : Program) (w : World) (K : PySem.W.Frag) (mg : Str → Option Value) (base : Heap) (k : Nat) (x : Str) (ps : List Str) (sp : Sp) : Prop where
  ex : ∃ (f : Addr) (fd : FuncData), FnOk P w K mg base CX0 k f fd ps sp ∧ Binds K fd ps [] ∧ PySem.W.keepIn K (.ref f) = true ∧ mg x = some (.ref f)
section
variable {X : Cx} {k : Nat} {x : Str} {ps : List Str} {sp : Sp} {p pos : Pos} {e : Expr} {es : List Expr} {t : TA}
theorem pe_fn (h : Has X.prog X.w X.K X.mg X.base k x ps sp) (hr : Room k X.A) (hg : Gl X x) (ha : PA X (e :: es) t) (hdb : (x == ("__debug__" : Str)) = false := by decide)
    (he : starEach (e :: es) X.env = (false, eval e X.env) :: starEach es X.env := by rfl) (hpl : (backTo pos (starEach es X.env)).any (·.1) = false := by rfl) :
    PE X (.Call (.Name x p) (e :: es) [] pos) (tCall sp [] E0 t) := by
  obtain ⟨f, fd, F, b, kp, m⟩ := h.ex
  exact pe_call F hr hg m kp b .nil pass0 ha hdb he hpl
/-- a built-in type as a value -/
theorem pe_ty {T : String} (hg : Gl X x) (hm : X.mg x = none) (hv : bootBuiltins x = some (.type T)) (hn : x ≠ "__name__" := by decide) (hd : (x == ("__debug__" : Str)) = false := by decide) : PE X (.Name x pos) (tC (.ty T)) := pe_bltn (v := .ty T) hg hm hv rfl hn hd
/-- a class of the text as a value -/
theorem pe_cls {C : Addr} (hg : Gl X x) (hm : X.mg x = some (.ref C)) (hd : (x == ("__debug__" : Str)) = false := by decide) : PE X (.Name x pos) (tC (.ref C)) := pe_glob (v := .ref C) hg hm rfl hd
/-- a class as isinstance takes it -/
def clsV : V → Option Value
  | .ty n => some (.type n)
  | .ref C => some (.ref C)
  | _ => none
theorem clsV_rel {c : V} {u cv : Value} (r : RelV c u) (h : clsV c = some cv) : u = cv := by
  cases c with
  | ty n => cases h; exact r
  | ref C => cases h; exact r
  | _ => cases h
theorem call_isinst : CallR X (.builtin "isinstance") (fun xs H Q => ∃ x c t cv b, xs = [x, c] ∧ clsV c = some cv ∧ TyOf X.K H x t ∧ PySem.W.kitOne X.K t cv = some b ∧ Q (.bl b) H) := by
  intro pins s σ H xs us Q I r h
  obtain ⟨x, c, t, cv, b, rfl, hc, ty, e, q⟩ := h
  obtain ⟨u, u', rfl, rx, rc⟩ := vals2 r
  cases clsV_rel rc hc
  exact isinst_ok I rx ty e fun tk => ⟨.bl b, H, I.tok _, rfl, q⟩
/-- // by a positive divisor below 2 ^ 8000 -/
theorem op_fdivB : OpR X (binaryOp .FloorDiv) (rI (fun _ j => 0 < j ∧ j.natAbs.log2 < 9000) fun i j => .int (i / j)) := opI fun i j _ _ _ _ _ hc q => by
  have h1 : (0 : Int) < j := hc.1
  exact floordiv_int (by omega) (by rw [Int.fdiv_eq_ediv_of_nonneg i (by omega)]; exact q) (.inl (PyProof.noPylong_of_log2 hc.2))
/-- products and shifts of great numbers -/
theorem op_mulB : OpR X (binaryOp .Mult) (rI (fun i j => Builtin.Int.intBits i ≤ 100000 ∧ Builtin.Int.intBits j ≤ 100000) fun i j => .int (i * j)) := opI fun _ _ _ _ _ _ _ hc q =>
  mul_int q (IntMulOk.of_bits (Nat.le_trans hc.1 (by decide)) (Nat.le_trans hc.2 (by decide)))
end
theorem kit_int_int (K : PySem.W.Frag) : PySem.W.kitOne K (.type "int") (.type "int") = some true := rfl
theorem kit_int_bool (K : PySem.W.Frag) : PySem.W.kitOne K (.type "int") (.type "bool") = some false := by with_unfolding_all rfl
theorem kit_bl_int (K : PySem.W.Frag) : PySem.W.kitOne K (.type "bool") (.type "int") = some true := by with_unfolding_all rfl
theorem kit_bl_bl (K : PySem.W.Frag) : PySem.W.kitOne K (.type "bool") (.type "bool") = some true := rfl
/-! ### tests -/
theorem iteD {c A B : Prop} [Decidable c] (hc : c) (h : A) : if decide c = true then A else B := by
  rw [if_pos (decide_eq_true hc)]
  exact h
theorem iteDN {c A B : Prop} [Decidable c] (hc : ¬ c) (h : B) : if decide c = true then A else B := by
  rw [if_neg (by rw [decide_eq_false hc]; decide)]
  exact h
/-- a test that two values are alike, and they are not -/
theorem iteN {c A B : Prop} [Decidable c] (hc : ¬ c) (h : A) : if (!decide c) = true then A else B := by
  rw [decide_eq_false hc]
  exact iteT h
/-! ### powers -/
theorem p_pos (n : Nat) : (0 : Int) < 2 ^ n := Int.pow_pos (by decide)
theorem p_mono {m n : Nat} (h : m ≤ n) : (2 : Int) ^ m ≤ 2 ^ n := by
  have e : n = m + (n - m) := by omega
  rw [e, Int.pow_add]
  have h1 := p_pos m
  have h2 : (1 : Int) ≤ 2 ^ (n - m) := p_pos (n - m)
  have h3 := Int.mul_le_mul_of_nonneg_left h2 (Int.le_of_lt h1)
  rw [Int.mul_one] at h3
  exact h3
/-! ### heaps: all but the thing at p is as it was -/
def SameX (p : Addr) (H H' : Hp) : Prop := ∀ b o, b ≠ p → H b = some o → H' b = some o
theorem SameX.refl (p : Addr) (H : Hp) : SameX p H H := fun _ _ _ h => h
theorem SameX.trans {p : Addr} {H H1 H2 : Hp} (a : SameX p H H1) (b : SameX p H1 H2) : SameX p H H2 := fun c o n h => b c o n (a c o n h)
theorem SameX.of {p : Addr} {H H' : Hp} (a : Same H H') : SameX p H H' := fun c o _ h => a c o h
theorem SameX.upd {p : Addr} {H : Hp} {o : HO} : SameX p H (upd H p o) := fun c u n h => by rw [upd_ne n]; exact h
theorem same_new {H : Hp} {p : Addr} (h : H p = none) (o : HO) : Same H (L2.upd H p o) := fun b u q => by rw [upd_ne (ne_of_none q h)]; exact q
/-- a new thing at p, changed or not: what stood before stands -/
theorem SameX.fresh {p : Addr} {H H1 : Hp} (h : H p = none) (a : SameX p H H1) : Same H H1 := fun b o q => a b o (ne_of_none q h) q
/-- three ints in a list: a box of draws -/
def Box (H : Hp) (p : Addr) : Prop := ∃ r s c : Int, H p = some (.lst [.int r, .int s, .int c])
theorem Box.same {H H' : Hp} {p : Addr} (b : Box H p) (s : Same H H') : Box H' p := by
  obtain ⟨r, s', c, h⟩ := b
  exact ⟨r, s', c, s _ _ h⟩
theorem getI (ns : List Int) (k : Nat) (h : k < ns.length) : atI (ns.map V.int) (k : Int) = some (.int ns[k]) := atI_nat (by rw [List.getElem?_map, List.getElem?_eq_getElem h] <;> rfl)
end Ow
/-! ## Own words for classes -/
namespace Ow
open PySem PySem.Spec PyProof.Rows L2
/-- a method of a class that keeps its promise -/
structure MHas (P : Program) (w : World) (K : PySem.W.Frag) (mg : Str → Option Value) (base : Heap) (k : Nat) (C : Addr) (m : Str) (ps : List Str) (sp : Sp) : Prop where
  cl : Cls K C
  ex : ∃ (f : Addr) (fd : FuncData), Meth K C m f ∧ FnOk P w K mg base CX0 k f fd ps sp ∧ Binds K fd ps []
/-- o.m(..), whatever the class of o is -/
def tMethP (X : Cx) (k : Nat) (m : Str) (ta : TE) (t : TA) : TE := fun σ H Q => ta σ H fun x H1 => ∃ (a C dx : Addr) (fs : List (Str × V)) (ps : List Str) (sp : Sp), x = .ref a ∧ H1 a = some (.ins C dx fs) ∧ fs.lookup m = none ∧
  MHas X.prog X.w X.K X.mg X.base k C m ps sp ∧ t σ H1 fun vs H2 => sp (x :: (vs ++ [])) H2 Q E0
/-- what a class without __init__ must have to be made -/
structure Mk0 (K : PySem.W.Frag) (C : Addr) : Prop where
  makes : PySem.W.makesIn K C = true
  init : PySem.W.findIn K (.ref C) "__init__" = some (some (.builtin "object.__init__"))
  kp : PySem.W.keepIn K (.ref C) = true
def tMk0 (C : Addr) : TE := fun _ H Q => ∀ x dx, H x = none → H dx = none → dx ≠ x → Q (.ref x) (upd (upd H dx (.own x)) x (.ins C dx []))
section
variable {X : Cx} {k : Nat} {x m : Str} {C : Addr} {p pos apos : Pos} {o e : Expr} {es : List Expr} {ta : TE} {t : TA}
/-- (a, b, ..) = a list of that length -/
def gTupL (K : PySem.W.Frag) (n : Nat) (t : TGs) : TG := fun v σ H Q => ∃ a xs, v = .ref a ∧ SqL K H a xs ∧ xs.length = n ∧ t xs σ H Q
end
end Ow
/-! ## A list comprehension: one clause over a name, no test -/
namespace Ow
open PySem PySem.Spec PyProof.Rows L2
/-- the block of a comprehension that runs within X; N: its own name first, then those that it sees -/
def cxComp (X : Cx) (N : List Str) (scope : Scope) (cl : List (Str × Addr)) (C : Addr) (s2 : Shared) (H2 : Hp) (fp : List Addr) : Cx where
  prog := X.prog
  w := X.w
  K := X.K
  mg := X.mg
  base := X.base
  A := X.A
  N := N
  s₀ := s2
  H₀ := H2
  env := compEnvC scope cl C X.env
  outer := X.stack
  stack := X.stack
  ex := fp
  calm := true
  fn := fun _ => false
  pn := []
  xe := fun _ _ => False
/-- what a comprehension asks: W, the word by the turn, a measure and the heap; D: the list that grows; cap: the values that the block sees -/
def tComp (wi : TI) (te : TE) (cap : L2.St → L2.St) : TE := fun σ H Q => wi σ H fun J H1 => ∀ D, H1 D = none → ∃ W : Nat → Nat → Hp → Prop, (∃ m, W 0 m (upd H1 D (.lst []))) ∧ ∀ i m H, W i m H →
  (J.stop i H ∧ Q (.ref D) H) ∨ (J.go i H ∧ ∀ x H', J.yld i H x H' → te (some x :: cap σ) H' fun y H2 => ∃ ys, H2 D = some (.lst ys) ∧ ys.length < sizeLine ∧ ∃ m', m' < m ∧ W (i + 1) m' (upd H2 D (.lst (ys ++ [y]))))
section
variable {X : Cx} {elt iter : Expr} {x : Str} {px pos : Pos} {scope : Scope} {wi : TI} {te : TE} {N : List Str} {cl : List (Str × Addr)} {cap : L2.St → L2.St}
end
/-- two statements, with a word J between them: both ways of the first come to J -/
def tJoin (t u : TS) : TS := fun D σ H => ∃ J : L2.St → Hp → Prop, t { D with nx := J } σ H ∧ ∀ σ' H', J σ' H' → u D σ' H'
theorem pss_join {X : Cx} {st : Stmt} {rest : List Stmt} {t u : TS} (h1 : PS X st t) (h2 : PSs X rest u) : PSs X (st :: rest) (tJoin t u) := by
  intro pins s σ H D I h
  obtain ⟨J, h, hJ⟩ := h
  refine wpAny_execs_cons (thn (h1 pins s σ H { D with nx := J } I h) fun f s1 q => ?_)
  cases f with
  | next =>
    obtain ⟨σ', H', I', q⟩ := q
    exact h2 pins s1 σ' H' D I' (hJ _ _ q)
  | ret v => exact q
  | brk => exact q
  | cont => exact q
end Ow
/-! ## Tuples and lists of flat values, compared -/
namespace Ow
open PySem PySem.Spec PyProof.Rows L2
def eqVs (xs ys : List V) : Bool := (List.range (min xs.length ys.length)).all (fun j => eqV (xs.getD j .non) (ys.getD j .non)) && xs.length == ys.length
section
variable {X : Cx}
theorem flat_at {xs : List V} (h : xs.all flatV = true) {j : Nat} (hj : j < xs.length) : flatV (xs.getD j .non) = true := by
  rw [List.getD_eq_getElem?_getD, List.getElem?_eq_getElem hj]
  exact List.all_eq_true.mp h _ (List.getElem_mem hj)
theorem vals_at {xs : List V} {us : List Value} (r : Vals xs us) {j : Nat} (h1 : j < us.length) : RelV (xs.getD j .non) us[j] := by
  have hl := r.length
  have hj : j < xs.length := by omega
  obtain ⟨u, hu, ru⟩ := r.get (i := j) (x := xs[j]) (List.getElem?_eq_getElem hj)
  rw [List.getElem?_eq_getElem h1] at hu
  rw [List.getD_eq_getElem?_getD, List.getElem?_eq_getElem hj]
  cases hu
  exact ru
/-- == of two tuples of flat values -/
def rEqT (K : PySem.W.Frag) : R2 := fun x y H Q => ∃ p q xs ys, x = .ref p ∧ y = .ref q ∧ SqT K H p xs ∧ SqT K H q ys ∧ xs.all flatV = true ∧ ys.all flatV = true ∧ Q (.bl (eqVs xs ys)) H
/-- != of two tuples of flat values -/
def rNeT (K : PySem.W.Frag) : R2 := fun x y H Q => ∃ p q xs ys, x = .ref p ∧ y = .ref q ∧ SqT K H p xs ∧ SqT K H q ys ∧ xs.all flatV = true ∧ ys.all flatV = true ∧ Q (.bl (!eqVs xs ys)) H
theorem op_neT (hu : X.A.units < cLine) : OpR X (compareOp .NotEq) (rNeT X.K) := by
  intro pins s σ H x y v u Q I rx ry h
  obtain ⟨p, q, xs, ys, rfl, rfl, hp, hq, fx, fy, k⟩ := h
  cases rx
  cases ry
  obtain ⟨its, r, pl, hz⟩ := I.tuple hp
  obtain ⟨its2, r2, pl2, hz2⟩ := I.tuple hq
  refine SeqAt.RcNeAt.tuples (e := fun j => eqV (xs.getD j .non) (ys.getD j .non)) pl pl2 hu (fun j h1 h2 => ?_) X.prog X.w X.xe _ ⟨.bl _, H, I, rfl, ?_⟩
  · have h1' : j < its.length := by simpa using h1
    have h2' : j < its2.length := by simpa using h2
    have a := vals_at r h1'
    have b := vals_at r2 h2'
    have hl := r.length
    have hl2 := r2.length
    have := eqAt_V (A := X.A.in1) (s := s) a b (flat_at fx (by omega)) (flat_at fy (by omega))
    simpa using this
  · have hl := r.length
    have hl2 := r2.length
    have e : ((List.range (min its.toArray.size its2.toArray.size)).all (fun j => eqV (xs.getD j .non) (ys.getD j .non)) && its.toArray.size == its2.toArray.size) = eqVs xs ys := by
      simp only [List.size_toArray, eqVs, hl, hl2]
    rw [e]
    exact k
/-- a list beside the empty list -/
def rEq0 (K : PySem.W.Frag) (neg : Bool) : R2 := fun x y H Q => ∃ p q xs, x = .ref p ∧ y = .ref q ∧ SqL K H p xs ∧ SqL K H q [] ∧ Q (.bl (if neg then !xs.isEmpty else xs.isEmpty)) H
theorem op_ne0 (hu : X.A.units < cLine) : OpR X (compareOp .NotEq) (rEq0 X.K true) := by
  intro pins s σ H x y v u Q I rx ry h
  obtain ⟨p, q, xs, rfl, rfl, hp, hq, k⟩ := h
  cases rx
  cases ry
  obtain ⟨its, r, pl, hz⟩ := I.list hp
  obtain ⟨its2, r2, pl2, hz2⟩ := I.list hq
  cases r2
  have hl := r.length
  cases xs with
  | nil =>
    cases r
    exact SeqAt.RcNeAt.lists (e := fun _ => true) pl.isList pl2.isList rfl hu (fun j h1 _ => absurd h1 (by simp)) X.prog X.w X.xe _ ⟨.bl _, H, I, rfl, k⟩
  | cons z zs =>
    refine SeqAt.RcNeAt.lists_lengths pl.isList pl2.isList ?_ hu X.prog X.w X.xe _ ⟨.bl _, H, I, rfl, k⟩
    rw [List.length_cons] at hl
    simp only [List.size_toArray, ← hl]
    rfl
/-- xs[::-1]: a new list -/
def tRev (K : PySem.W.Frag) (te : TE) : TE := fun σ H Q => te σ H fun x H1 => ∃ a xs, x = .ref a ∧ SqL K H1 a xs ∧ ∀ p, H1 p = none → Q (.ref p) (upd H1 p (.lst xs.reverse))
/-- a function read off a class of the text: C.m -/
structure ClsFn (K : PySem.W.Frag) (C : Addr) (m : Str) (f : Addr) : Prop where
  reads : PySem.W.readsIn K C (.type "type") = true
  ga : PySem.W.specialIn K (.ref C) "__getattribute__" = some (some (.builtin "type.__getattribute__"))
  fnd : PySem.W.findCls K (.ref C) (.type "type") m = some (.val (.ref f))
  hd : PySem.W.handedIn (.ref f) = true
  kp : PySem.W.keepIn K (.ref f) = true
end
end Ow
/-! ## Lists put together, ranges downwards, things within things compared -/
namespace Ow
open PySem PySem.Spec PyProof.Rows L2
section
variable {X : Cx}
def rAddL (K : PySem.W.Frag) : R2 := fun x y H Q => ∃ a b xs ys, x = .ref a ∧ y = .ref b ∧ SqL K H a xs ∧ SqL K H b ys ∧ xs.length + ys.length ≤ sizeLine ∧ ∀ p, H p = none → Q (.ref p) (upd H p (.lst (xs ++ ys)))
/-- lo, lo - 1, .. (n of them) -/
def Itd (lo : Int) (n : Nat) : It := ⟨fun i _ => i < n, fun i H x H' => H' = H ∧ x = .int (lo - i), fun i _ => n ≤ i⟩
variable {tg : Expr}
def iDown (ta : TA) : TI := fun σ H R => ta σ H fun vs H1 => ∃ i : Int, vs = [.int i, .int (-1), .int (-1)] ∧ -1 ≤ i ∧ i < 2 ^ 62 ∧ R (Itd i (i + 1).toNat) H1
/-! ### deep equality: of flat things, tuples and lists -/
inductive EqD (K : PySem.W.Frag) (H : Hp) : Nat → V → V → Bool → Prop where
  | flat {d : Nat} {x y : V} (fx : flatV x = true) (fy : flatV y = true) : EqD K H d x y (eqV x y)
  | tup {d : Nat} {p q : Addr} {xs ys : List V} {e : Nat → Bool} (hn : p ≠ q) (hx : SqT K H p xs) (hy : SqT K H q ys) (he : ∀ j, j < xs.length → j < ys.length → EqD K H d (xs.getD j .non) (ys.getD j .non) (e j)) :
      EqD K H (d + 1) (.ref p) (.ref q) ((List.range (min xs.length ys.length)).all e && xs.length == ys.length)
  | lst {d : Nat} {p q : Addr} {xs ys : List V} {e : Nat → Bool} (hn : p ≠ q) (hx : SqL K H p xs) (hy : SqL K H q ys) (hl : xs.length = ys.length) (he : ∀ j, j < xs.length → EqD K H d (xs.getD j .non) (ys.getD j .non) (e j)) :
      EqD K H (d + 1) (.ref p) (.ref q) ((List.range xs.length).all e)
  | same {d : Nat} {p : Addr} : EqD K H d (.ref p) (.ref p) true
theorem EqD.at {pins : List (Addr × Obj)} {σ : L2.St} {H : Hp} {s : Shared} (I : Inv X pins σ H s) : ∀ {d : Nat} {x y : V} {b : Bool} {u v : Value} {A : Around}, EqD X.K H d x y b → RelV x u → RelV y v → A.units + d < cLine → SeqAt.EqAt A s u v b := by
  intro d x y b u v A h
  induction h generalizing u v A with
  | flat fx fy => intro rx ry _; exact eqAt_V rx ry fx fy
  | same => intro rx ry _; cases rx; cases ry; exact SeqAt.EqAt.same _
  | @tup d p q xs ys e hn hx hy he ih =>
    intro rx ry hu
    cases rx
    cases ry
    obtain ⟨its, r, pl, _⟩ := I.tuple hx
    obtain ⟨its2, r2, pl2, _⟩ := I.tuple hy
    have hl := r.length
    have hl2 := r2.length
    have := SeqAt.EqAt.of_refs hn (SeqAt.RcAt.tuples (A := A) (e := e) pl pl2 (by omega) (fun j h1 h2 => by
      have h1' : j < its.length := by simpa using h1
      have h2' : j < its2.length := by simpa using h2
      have z := ih j (by omega) (by omega) (vals_at r h1') (vals_at r2 h2') (A := A.in1) (by show A.units + 1 + d < _; omega)
      simpa using z))
    simp only [List.size_toArray, ← hl, ← hl2] at this
    exact this
  | @lst d p q xs ys e hn hx hy hle he ih =>
    intro rx ry hu
    cases rx
    cases ry
    obtain ⟨its, r, pl, _⟩ := I.list hx
    obtain ⟨its2, r2, pl2, _⟩ := I.list hy
    have hl := r.length
    have hl2 := r2.length
    have := SeqAt.EqAt.of_refs hn (SeqAt.RcAt.lists (A := A) (e := e) pl.isList pl2.isList (by simp only [List.size_toArray]; omega) (by omega) (fun j h1 h2 => by
      have h1' : j < its.length := by simpa using h1
      have h2' : j < its2.length := by simpa using h2
      have z := ih j (by omega) (vals_at r h1') (vals_at r2 h2') (A := A.in1) (by show A.units + 1 + d < _; omega)
      simpa using z))
    simp only [List.size_toArray, ← hl] at this
    exact this
/-- == and != of lists of such things -/
def rEqLD (K : PySem.W.Frag) (d : Nat) (neg : Bool) : R2 := fun x y H Q => ∃ p q xs ys e, x = .ref p ∧ y = .ref q ∧ SqL K H p xs ∧ SqL K H q ys ∧ xs.length = ys.length ∧ (∀ j, j < xs.length → EqD K H d (xs.getD j .non) (ys.getD j .non) (e j)) ∧ Q (.bl (if neg = true then !(List.range xs.length).all e else (List.range xs.length).all e)) H
/-! ### list(range(n)) -/
def upTo (j : Int) : List V := (List.range j.toNat).map fun k : Nat => V.int (k : Int)
def tRange1 (ta : TA) : TE := fun σ H Q => ta σ H fun vs H1 => ∃ j : Int, vs = [.int j] ∧ ∀ p, H1 p = none → Q (.ref p) (upd H1 p (.rng 0 j))
end
end Ow
/-! ## A list walked from its end; all of a list of truths -/
namespace Ow
open PySem PySem.Spec PyProof.Rows L2
def Itv (K : PySem.W.Frag) (a : Addr) (n : Nat) : It :=
  ⟨fun i H => i < n ∧ ∃ xs x, SqL K H a xs ∧ xs[n - 1 - i]? = some x, fun i H x H' => H' = H ∧ ∀ xs, SqL K H a xs → xs[n - 1 - i]? = some x, fun i _ => i = n⟩
section
variable {X : Cx} {tg : Expr}
def iRev (K : PySem.W.Frag) (ta : TA) : TI := fun σ H R => ta σ H fun vs H1 => ∃ a xs, vs = [.ref a] ∧ SqL K H1 a xs ∧ R (Itv K a xs.length) H1
/-! ### a comprehension whose block sees names of the def -/
variable {elt iter : Expr} {x : Str} {px pos : Pos} {scope : Scope} {wi : TI} {te : TE} {cl : List (Str × Addr)}
/-! ### classes with an __init__, and a base's __init__ called by name -/
structure CHas (P : Program) (w : World) (K : PySem.W.Frag) (mg : Str → Option Value) (base : Heap) (k : Nat) (C : Addr) (x : Str) (ps : List Str) (sp : Sp) : Prop where
  ex : ∃ (f : Addr) (fd : FuncData), Mk K C f ∧ FnOk P w K mg base CX0 k f fd ps sp ∧ Binds K fd ps [] ∧ mg x = some (.ref C)
structure BHas (P : Program) (w : World) (K : PySem.W.Frag) (mg : Str → Option Value) (base : Heap) (k : Nat) (x m : Str) (ps : List Str) (sp : Sp) : Prop where
  ex : ∃ (C f : Addr) (fd : FuncData), ClsFn K C m f ∧ FnOk P w K mg base CX0 k f fd ps sp ∧ Binds K fd ps [] ∧ mg x = some (.ref C)
end
end Ow
/-! ## is, of truths; a name put to a comprehension that sees names of the def -/
namespace Ow
open PySem PySem.Spec PyProof.Rows L2
section
variable {X : Cx}
theorem ix_listK {K : PySem.W.Frag} (h : X.K = K) : IxR X (rIxL K) := by
  subst h
  exact ix_list
variable {elt iter : Expr} {x : Str} {px pos : Pos} {scope : Scope} {wi : TI} {te : TE} {cl : List (Str × Addr)}
end
end Ow
/-! ## exceptions of own classes: raised by a def, caught by its caller -/
namespace Ow
open PySem PySem.Spec PyProof.Rows L2
/-- the ground beneath a flying exception: the module's base, all that is tracked, and what was there ahead of the call, the frames aside -/
structure Gnd (P : Program) (w : World) (base : Heap) (fs : List Addr) (H H' : Hp) (h B : Heap) : Prop where
  st : base.StaysIn B
  keep : ∀ b o, h.get? b = some o → H b = none → b ∉ fs → B.get? b = some o
  free : ∀ b o, h.get? b = some o → H b = none → H' b = none
  there : ∀ b o, h.get? b = some o → b ∉ fs → ∃ o', B.get? b = some o'
  tups : ∀ b xs, H b = some (.tup xs) → H' b = some (.tup xs)
  frzs : ∀ b o u, H b = some (.frz o u) → H' b = some (.frz o u)
  tbls : ∀ b ps, H b = some (.tbl ps) → ∃ more, H' b = some (.tbl (ps ++ more))
  hok : HOk P w H' B
def Slots (fs : List Addr) (h h' : Heap) : Prop := ∀ b ∈ fs, ∀ o, h.get? b = some o → ∃ sl, h'.get? b = some { o with slots := sl }
/-- an exception in flight over the frames of the callers -/
def CX1 (P : Program) (w : World) (base : Heap) : CXT := fun outer H s E e s' =>
  ∃ (a : Addr) (cls a0 : Value) (B : Heap) (H' : Hp), e = .ref a ∧ s'.os = s.os ∧ AllBare s'.gens ∧ Gnd P w base (frs outer) H H' s.heap B ∧ Slots (frs outer) s.heap s'.heap ∧ Heap.FlyingW B outer a cls a0 s'.heap ∧ H' a = none ∧ E cls none H'
section
variable {P : Program} {w : World} {base h h1 h2 B : Heap} {fs : List Addr} {H H' : Hp} {l : List Env}
theorem Gnd.un (G : Gnd P w base fs H H' h B) (sb : B.StaysIn h1) (sl : Slots fs h h1) : Un fs [] H H' h h1 where
  keep := fun b o q n hb _ => sb _ _ (G.keep b o q n hb)
  slot := fun b o q _ hb _ => sl b hb o q
  free := fun b o q n _ => G.free b o q n
  there := fun b o q _ => by
    by_cases hb : b ∈ fs
    · obtain ⟨s, e⟩ := sl b hb o q
      exact ⟨_, e⟩
    · obtain ⟨o', e⟩ := G.there b o q hb
      exact ⟨o', sb _ _ e⟩
  tups := G.tups
  frzs := G.frzs
  tbls := G.tbls
theorem Slots.on (x : Slots (frs l) h h1) (hl : h1.FunFrames B l) (u : h1.UpToSlots h2) : Slots (frs l) h h2 := fun b hb o q => by
  obtain ⟨sl, e⟩ := x b hb o q
  obtain ⟨_, o1, e1, d1⟩ := hl.mem hb
  rw [e] at e1
  cases e1
  obtain ⟨s2, e2⟩ := u b _ e d1
  exact ⟨s2, e2⟩
theorem obj_there {a : Addr} {o : HO} (x : ObjOk P w H h a o) : ∃ ob, h.get? a = some ob := by
  induction o with
  | lst xs => obtain ⟨_, _, _, _, e⟩ := x; exact ⟨_, e⟩
  | tup xs => obtain ⟨_, _, _, o, e, _⟩ := x; exact ⟨_, e⟩
  | dK kvs => obtain ⟨_, _, _, _, o, _, _, e, _⟩ := x; exact ⟨_, e⟩
  | dT kvs => obtain ⟨_, _, _, _, o, _, _, e, _⟩ := x; exact ⟨_, e⟩
  | set S n => obtain ⟨o, _, _, _, e, _⟩ := x; exact ⟨_, e⟩
  | ins C dx fs => obtain ⟨_, _, _, e, _⟩ := x; exact ⟨_, e⟩
  | own y => exact x
  | xd fs => obtain ⟨_, ⟨_, _, _, e, _⟩, _⟩ := x; exact ⟨_, e⟩
  | met f y => exact ⟨_, x⟩
  | rng lo hi => obtain ⟨_, _, _, e⟩ := x; exact ⟨_, e⟩
  | frz ob u ih => exact ⟨_, x.1⟩
  | tbl ps => exact ⟨_, x⟩
  | ext φ => exact x.2.1
end
abbrev VE : List Value := [.type "ValueError", .type "Exception", .type "BaseException", .type "object"]
section
variable {P : Program} {w : World} {K : PySem.W.Frag} {mg : Str → Option Value} {base : Heap} {N : List Str} {qual : Str} {scope : Scope} {f : Addr} {cdv : Value} {A : Around} {outer : List Env} {s₀ : Shared} {H₀ : Hp} {E : XK}
/-- a def that may raise -/
theorem Fun.okX {x qual : Str} {st : Stmt} {f : Addr} {fd : FuncData} {N ps : List Str} {k : Nat} {sp : Sp} (F : Fun K x qual st f fd) (S : FnScope N ps (defScope st)) (len : ∀ vs H Q E, sp vs H Q E → vs.length = ps.length)
    (hbody : ∀ (cdv : Value) (A : Around) (outer : List Env) (s : Shared) (H : Hp) (vs : List V) (Q : VK) (E : XK), Room k (A.deeper (envOfC qual (defScope st) s.heap.objs.size f cdv)) → sp vs H Q E →
      ∃ t, PSs (cxOf (CX1 P w base) P w K mg base N qual (defScope st) f cdv A outer s H E) (defBody st) t ∧ t { nx := fun _ H' => Q .non H', rt := Q } (start N vs) H) : FnOk P w K mg base (CX1 P w base) (k + 1) f fd ps sp := by
  obtain ⟨oc, od, kV, doc, pm, an, cdv, ct, osl, e1, lk, hcd⟩ := F.ex
  subst e1
  exact fn_of lk hcd S len fun A outer s H vs Q E hr hsp => hbody cdv A outer s H vs Q E hr hsp
end
structure HasX (P : Program) (w : World) (K : PySem.W.Frag) (mg : Str → Option Value) (base : Heap) (k : Nat) (x : Str) (ps : List Str) (sp : Sp) : Prop where
  ex : ∃ (f : Addr) (fd : FuncData), FnOk P w K mg base (CX1 P w base) k f fd ps sp ∧ Binds K fd ps [] ∧ PySem.W.keepIn K (.ref f) = true ∧ mg x = some (.ref f)
/-- the caller's context within the suite that has caught the exception at a -/
def caught (X : Cx) (a : Addr) (oe : Obj) : Cx := { X with A := X.A.mark (some (.ref a)), calm := false, pn := (a, oe) :: X.pn }
section
variable {X : Cx} {pins : List (Addr × Obj)} {σ : L2.St} {H : Hp} {s : Shared} {a : Addr} {oe : Obj}
theorem caught_inv (I : Inv X pins σ H s) (e : s.heap.get? a = some oe) (n : H a = none) (hl : a ≠ X.env.locals) (hf : a ∉ X.fs) (hd : ∀ v, oe.data ≠ .cell v) : Inv (caught X a oe) pins σ H s :=
  ⟨⟨I.ok.mod, I.ok.kind, I.ok.glob, I.ok.blt, I.ok.above, I.ok.inj, I.ok.has, I.ok.cab, (fun z => nomatch z), I.ok.frames, I.ok.stk, I.ok.exf, I.ok.bs, I.ok.bsz, I.ok.noex, I.ok.exfs, I.ok.funs, I.ok.frf⟩,
    I.os, I.bare, I.base, I.loc, I.cell, I.free, I.freeC, fun p hp => by
      rcases List.mem_cons.mp (show p ∈ (a, oe) :: (X.pn ++ pins) from hp) with rfl | hp
      · exact ⟨e, n, hl, hf, hd⟩
      · exact I.pin p hp, I.hok, I.len⟩
/-- behind the suite the names of the frame are forgotten -/
theorem suite_end {h' : Heap} {m' : Str → Option Value} {t' : Nat} (I : Inv (caught X a oe) pins σ H s) (okX : X.Ok) (hn : h'.Ns X.env.locals m') (hs : Heap.SameBut X.env.locals s.heap h') :
    Inv X pins (List.replicate X.N.length none) H { s with heap := h', toks := t' } := by
  have neL : ∀ b o, X.s₀.heap.get? b = some o → b ≠ X.env.locals := fun b o e => Nat.ne_of_lt (Nat.lt_of_lt_of_le (Heap.lt_size e) okX.above)
  refine ⟨okX, I.os, I.bare, ⟨fun b o e n hb hx => ?_, fun b o e n hb hx => ?_, I.base.free, fun b o e hx => ?_, I.base.tups, I.base.frzs, I.base.tbls⟩, ⟨m', hn, fun i x v e1 e2 e3 => ?_⟩, fun x c e => ?_, I.free, I.freeC, fun p hp => ?_, fun b ob e => ?_, List.length_replicate ..⟩
  · exact (hs.2 b (neL b o e)).trans (I.base.keep b o e n hb hx)
  · obtain ⟨sl, e1⟩ := I.base.slot b o e n hb hx
    exact ⟨sl, (hs.2 b (neL b o e)).trans e1⟩
  · obtain ⟨o', e1⟩ := I.base.there b o e hx
    exact ⟨o', (hs.2 b (neL b o e)).trans e1⟩
  · rw [List.getElem?_replicate] at e2
    split at e2 <;> cases e2
  · obtain ⟨v, z⟩ := I.cell x c e
    exact ⟨v, z.sameBut hs (I.cne x c e)⟩
  · obtain ⟨e, n, ne, nf, d⟩ := I.pin p (List.mem_cons_of_mem _ hp)
    exact ⟨(hs.2 p.1 ne).trans e, n, ne, nf, d⟩
  · refine (I.hok b ob e).stay (fun c w' hc z => (hs.2 c ?_).trans z) (fun _ z => z) fun _ _ z => z
    have fr : H X.env.locals = none := I.free
    rintro rfl
    rcases hc with rfl | hc
    · rw [fr] at e; cases e
    · rw [fr] at hc; cases hc
end
/-- y = f(..) under a try that catches a class by its name and ends with a return -/
def tTry (K : PySem.W.Frag) (C₁ : Addr) (i j : Nat) (sp : Sp) (ta : TA) (tb : Addr → Obj → TS) : TS := fun D σ H => ta σ H fun vs H1 => sp (vs ++ []) H1 (fun v H2 => D.nx (σ.set i (some v)) H2)
  (fun cls _ H2 => PySem.W.exmOne K cls (.ref C₁) = some true ∧ ∀ (a : Addr) (oe : Obj), oe.cls = cls → H2 a = none → tb a oe { nx := fun _ _ => False, rt := D.rt } (σ.set j (some (.ref a))) H2)
section
variable {X : Cx} {k i j : Nat} {f y n c : Str} {ps : List Str} {sp : Sp} {e : Expr} {es : List Expr} {ta : TA} {C₁ : Addr} {b₀ : Stmt} {suite : List Stmt} {tb : Addr → Obj → TS} {py p pos apos np hpos tpos : Pos}
end
/-! ### isinstance of a caught exception -/
structure ExF (K : PySem.W.Frag) (C : Addr) : Prop where
  ga : PySem.W.findIn K (.ref C) "__getattribute__" = some (some (.builtin "BaseException.__getattribute__"))
  gn : PySem.W.findIn K (.ref C) "__getattr__" = some none
  gc : PySem.W.findIn K (.ref C) "__class__" = some (some (.builtin "object.__class__"))
  mo : PySem.W.mroIn K C (.type "object") = some true
  mb : PySem.W.mroIn K C (.type "BaseException") = some true
section
variable {prog : Program} {w : World} {A : Around} {E : Value → Shared → Prop} {h : Heap} {g : Array GenState} {d : Drawn} {t : Nat} {os : OsState} {K : PySem.W.Frag} {a C : Addr} {o : Obj}
theorem exc_check {M : Model} {nv : Value} {Q : Unit → Shared → Prop} (X : K.In h) (f : ExF K C) (hx : h.get? a = some o) (hc : o.cls = .ref C) (hq : Q () ⟨h, g, d, t, os⟩) :
    wpAny M A (checkBuiltinCall "BaseException.__getattribute__" ⟨[.ref a, nv], []⟩) Q E ⟨h, g, d, t, os⟩ := by
  have k1 : builtinKind "BaseException.__getattribute__" = some .slot := by decide +kernel
  have k2 : splitId "BaseException.__getattribute__" = some ("BaseException", "__getattribute__") := by decide +kernel
  have L1 := PySem.W.looks_mroIn (M := M) X f.mb
  have k3 := F.args_bexc_ga (.ref a) nv
  simp only [checkBuiltinCall, k1, k2]
  refine wpAny_bind ?_
  unfold isInstance
  repeat (first | (with_reducible refine wpAny_loadPart_at hx ?_; rw [hc]) | with_reducible refine L1.at ?_ | wp_step)
  exact hq
end
/-- an own class as the second of isinstance and of except -/
theorem kitc_of {K : PySem.W.Frag} {C D : Addr} {b : Bool} (h1 : PySem.W.isClsIn K D = true) (h2 : PySem.W.typeIn K (.ref D) = some (.type "type")) (h3 : PySem.W.mroIn K C (.ref D) = some b) : PySem.W.kitCls K (.ref C) (.ref D) = some b := by
  unfold PySem.W.kitCls
  have e : ((PySem.W.clsIn K D).isSome && PySem.W.typeIn K (.ref D) == some (.type "type")) = true := by
    rw [h2]
    have h1' : (PySem.W.clsIn K D).isSome = true := h1
    rw [h1', Bool.true_and]
    exact beq_self_eq_true _
  show (if ((PySem.W.clsIn K D).isSome && PySem.W.typeIn K (.ref D) == some (.type "type")) = true then PySem.W.subIn K (.ref C) (.ref D) else none) = _
  rw [if_pos e]
  exact h3
theorem exm_of {K : PySem.W.Frag} {C D : Addr} (h1 : PySem.W.isClsIn K D = true) (h2 : PySem.W.typeIn K (.ref D) = some (.type "type")) (h3 : PySem.W.mroIn K C (.ref D) = some true) (h4 : PySem.W.mroIn K D (.type "BaseException") = some true) : PySem.W.exmOne K (.ref C) (.ref D) = some true := by
  unfold PySem.W.exmOne
  have e : PySem.W.subIn K (.ref D) (.type "BaseException") = some true := h4
  rw [e, if_pos (by rw [beq_self_eq_true])]
  exact kitc_of h1 h2 h3
end Ow
/-! ## exceptions that pass a def on their way, and a try over several rows -/
namespace Ow
open PySem PySem.Spec PyProof.Rows L2
section
variable {P : Program} {w : World} {K : PySem.W.Frag} {mg : Str → Option Value} {base : Heap} {N : List Str} {qual : Str} {scope : Scope} {f : Addr} {cdv : Value} {A : Around} {outer : List Env} {s₀ : Shared} {H₀ : Hp} {E : XK}
end
/-- the context of a try's rows: an exception that leaves them lies as CX1 says, over a state of this frame -/
def pinned (X : Cx) (pins : List (Addr × Obj)) : Cx := { X with pn := X.pn ++ pins }
def tryCx (X : Cx) (pins : List (Addr × Obj)) (E : L2.St → XK) : Cx := (pinned X pins).wish fun e s' => ∃ (pins' : List (Addr × Obj)) (σ' : L2.St) (H : Hp) (s : Shared), Inv (pinned X pins) pins' σ' H s ∧ CX1 X.prog X.w X.base X.stack H s (E σ') e s'
section
variable {X : Cx} {pins pins' : List (Addr × Obj)} {σ : L2.St} {H : Hp} {s : Shared} {E : L2.St → XK}
theorem to_pinned (I : Inv X pins σ H s) : Inv (pinned X pins) [] σ H s :=
  ⟨⟨I.ok.mod, I.ok.kind, I.ok.glob, I.ok.blt, I.ok.above, I.ok.inj, I.ok.has, I.ok.cab, I.ok.hd, I.ok.frames, I.ok.stk, I.ok.exf, I.ok.bs, I.ok.bsz, I.ok.noex, I.ok.exfs, I.ok.funs, I.ok.frf⟩,
    I.os, I.bare, I.base, I.loc, I.cell, I.free, I.freeC, fun p hp => I.pin p (by
      rw [List.append_nil] at hp
      exact hp), I.hok, I.len⟩
theorem of_pinned (okX : X.Ok) (I : Inv (pinned X pins) pins' σ H s) : Inv X pins σ H s :=
  ⟨okX, I.os, I.bare, I.base, I.loc, I.cell, I.free, I.freeC, fun p hp => I.pin p (List.mem_append_left _ hp), I.hok, I.len⟩
def tCallT (sp : Sp) (E : L2.St → XK) (t : TA) : TE := fun σ H Q => t σ H fun vs H1 => sp (vs ++ []) H1 Q (E σ)
end
def wishT (K : PySem.W.Frag) (C₁ : Addr) (j : Nat) (ts : Addr → Obj → TS) (D : Ends) : L2.St → XK := fun σ' cls _ H2 => PySem.W.exmOne K cls (.ref C₁) = some true ∧ ∀ (a : Addr) (oe : Obj), oe.cls = cls → H2 a = none → ts a oe { nx := fun _ _ => False, rt := D.rt } (σ'.set j (some (.ref a))) H2
def tTryG (K : PySem.W.Frag) (C₁ : Addr) (j : Nat) (tb : (L2.St → XK) → TS) (ts : Addr → Obj → TS) : TS := fun D σ H => tb (wishT K C₁ j ts D) D σ H
/-- == and != of lists of ints, of any lengths -/
def rEqLI (K : PySem.W.Frag) (neg : Bool) : R2 := fun x y H Q => ∃ (p q : Addr) (as bs : List Int), x = .ref p ∧ y = .ref q ∧ SqL K H p (as.map V.int) ∧ SqL K H q (bs.map V.int) ∧ Q (.bl (if neg = true then !decide (as = bs) else decide (as = bs))) H
end Ow
/-! ## a try whose except suite goes on behind; methods of ints and lists -/
namespace Ow
open PySem PySem.Spec PyProof.Rows L2
theorem PS.nox {X : Cx} {st : Stmt} {t : TS} (h : PS X.nox st t) : PS X st t := fun pins s σ H D I hw =>
  wpAny_mono (h pins s σ H D (I.wish _) hw) (fun _ _ q => q.unwish) fun _ _ z => False.elim z
section
variable {X : Cx} {pins : List (Addr × Obj)} {σ : L2.St} {H : Hp} {s : Shared} {a : Addr} {oe : Obj} {j : Nat} {n : Str}
/-- behind the suite the name of the exception is forgotten, the others stay -/
theorem suite_endK {h' : Heap} {m : Str → Option Value} {v' : Option Value} {t' : Nat} (I : Inv (caught X a oe) pins σ H s) (okX : X.Ok) (hN : X.N.Nodup) (hj : X.N[j]? = some n)
    (hl : ∀ (i : Nat) (x : Str) (v : V), X.N[i]? = some x → σ[i]? = some (some v) → Vis X.env.scope x → ∃ u, RelV v u ∧ Look X.env s.heap m x u)
    (hn : h'.Ns X.env.locals (fun x => if x = n then v' else m x)) (hs : Heap.SameBut X.env.locals s.heap h') :
    Inv X pins (σ.set j none) H { s with heap := h', toks := t' } := by
  have neL : ∀ b o, X.s₀.heap.get? b = some o → b ≠ X.env.locals := fun b o e => Nat.ne_of_lt (Nat.lt_of_lt_of_le (Heap.lt_size e) okX.above)
  refine ⟨okX, I.os, I.bare, ⟨fun b o e n hb hx => ?_, fun b o e n hb hx => ?_, I.base.free, fun b o e hx => ?_, I.base.tups, I.base.frzs, I.base.tbls⟩, ⟨_, hn, fun i x v e1 e2 e3 => ?_⟩, fun x c e => ?_, I.free, I.freeC, fun p hp => ?_, fun b ob e => ?_, by rw [List.length_set]; exact I.len⟩
  · exact (hs.2 b (neL b o e)).trans (I.base.keep b o e n hb hx)
  · obtain ⟨sl, e1⟩ := I.base.slot b o e n hb hx
    exact ⟨sl, (hs.2 b (neL b o e)).trans e1⟩
  · obtain ⟨o', e1⟩ := I.base.there b o e hx
    exact ⟨o', (hs.2 b (neL b o e)).trans e1⟩
  · by_cases hij : i = j
    · subst hij
      have hi : i < σ.length := by have z : σ.length = X.N.length := I.len; rw [z]; exact (List.getElem?_eq_some_iff.mp hj).1
      rw [List.getElem?_set_self hi] at e2
      cases e2
    · rw [List.getElem?_set_ne (Ne.symm hij)] at e2
      obtain ⟨u', r', q⟩ := hl i x v e1 e2 e3
      refine ⟨u', r', ?_⟩
      rcases q with ⟨k, e⟩ | ⟨k, c, e, z⟩
      · refine .inl ⟨k, ?_⟩
        have : x ≠ n := fun e => hij (nodup_ix hN e1 (e ▸ hj))
        simp [this, e]
      · exact .inr ⟨k, c, e, z.sameBut hs (I.cne x c e)⟩
  · obtain ⟨v, z⟩ := I.cell x c e
    exact ⟨v, z.sameBut hs (I.cne x c e)⟩
  · obtain ⟨e, n, ne, nf, d⟩ := I.pin p (List.mem_cons_of_mem _ hp)
    exact ⟨(hs.2 p.1 ne).trans e, n, ne, nf, d⟩
  · refine (I.hok b ob e).stay (fun c w' hc z => (hs.2 c ?_).trans z) (fun _ z => z) fun _ _ z => z
    have fr : H X.env.locals = none := I.free
    rintro rfl
    rcases hc with rfl | hc
    · rw [fr] at e; cases e
    · rw [fr] at hc; cases hc
end
def endsK (j : Nat) (D : Ends) : Ends := { nx := fun σ H => D.nx (σ.set j none) H, rt := D.rt }
section
variable {X : Cx} {j : Nat} {n c : Str} {C₁ : Addr} {b₀ : Stmt} {suite : List Stmt} {tb : Addr → Obj → TS} {np hpos : Pos}
end
def wishK (K : PySem.W.Frag) (C₁ : Addr) (j : Nat) (ts : Addr → Obj → TS) (D : Ends) : L2.St → XK := fun σ' cls _ H2 => PySem.W.exmOne K cls (.ref C₁) = some true ∧ ∀ (a : Addr) (oe : Obj), oe.cls = cls → H2 a = none → ts a oe (endsK j D) (σ'.set j (some (.ref a))) H2
def tTryK (K : PySem.W.Frag) (C₁ : Addr) (j : Nat) (tb : (L2.St → XK) → TS) (ts : Addr → Obj → TS) : TS := fun D σ H => tb (wishK K C₁ j ts D) D σ H
/-- i.bit_length() -/
def rBits : V → List V → Hp → VK → Prop := fun x vs H Q => ∃ i : Int, x = .int i ∧ vs = [] ∧ Q (.int ((Builtin.Int.intBits i : Nat) : Int)) H
theorem ty_int {K : PySem.W.Frag} {i : Int} {H : Hp} : tyV K "int" (.int i) H := rfl
/-- xs.insert(0, y) -/
def rIns0 : V → List V → Hp → VK → Prop := fun x vs H Q => ∃ l xs y, x = .ref l ∧ vs = [.int 0, y] ∧ H l = some (.lst xs) ∧ xs.length < sizeLine ∧ Q .non (upd H l (.lst (y :: xs)))
end Ow
/-! ## exceptions that bear a field of their own: made by their class's __init__, raised, in flight, caught, read -/
namespace Ow
open PySem PySem.Spec PyProof.Rows L2
/-- no exception stands behind it -/
def Ctx0 (o : Obj) : Prop := ∃ vs, o.data = .fields vs ∧ vs[2]? = some .none
/-- the exception's own dict -/
def OwnD (c : Bool) (h : Heap) (e : Addr) (d : Option Addr) : Prop := ∃ o, h.get? e = some o ∧ o.dict = d ∧ (c = true → Ctx0 o)
theorem mapF_dict (f : Array Value → Array Value) (o : Obj) : (Obj.mapFields f o).dict = o.dict := by
  obtain ⟨c, d, dt, sl⟩ := o
  cases dt <;> rfl
section
variable {M : Model} {A : Around} {E : Value → Shared → Prop} {s : Shared} {bs : Heap} {en : Env} {out : List Env} {L e : Addr} {c : Bool}
theorem entry_own {oe : Obj} {vs : Array Value} {hd0 a0 : Value} {nx : Bool} {Q : Unit → Shared → Prop} (fr : A.frames = some (en :: out)) (ff : s.heap.FunFrames bs (en :: out)) (fl : en.frame = some L)
    (ge : s.heap.get? e = some oe) (st : bs.StaysIn s.heap) (ne : bs.get? e = none) (dt : oe.data = .fields vs) (z1 : 1 < vs.size) (z0 : vs[0]? = some a0) (z2 : c = true → vs[2]? = some .none)
    (k : ∀ h', Heap.NotedW bs (en :: out) e oe.cls a0 (rawInt L) s.heap h' → OwnD c h' e oe.dict → Q () { s with heap := h' }) :
    wpAny M A (do let a ← frameOf en; let pl ← entryPlaceOf L nx; let b ← EntryCells.newEntry hd0 a .none (rawInt L) .none pl; setField (.ref e) 1 b) Q E s := by
  have nf : e ∉ (en :: out).filterMap (·.frame) := fun hm => by
    obtain ⟨_, o, g1, g2⟩ := ff.mem hm
    rw [ge] at g1
    cases g1
    exact g2 _ dt
  refine wpAny_bind (wpAny_frameOf_fun fr ff fl fun h1 so => wpAny_bind (wpAny_entryPlaceOf fun pl hpl => ?_))
  unfold EntryCells.newEntry newFields
  refine wpAny_bind (wpAny_newObj_type ?_ (hpl.sizeOk5 _ _ _ _ _))
  generalize hT : (([hd0, Value.ref L, Value.none, rawInt L, Value.none] ++ (if pl.isEmpty then List.replicate 6 Value.none else pl)).toArray : Array Value) = ts
  have t3 : ts[3]? = some (rawInt L) := by
    rw [← hT]
    rfl
  have g1 : h1.get? e = some oe := (so.2.1 e nf).trans ge
  have g2 : (h1.push { cls := .type "traceback", dict := none, data := .fields ts }).get? e = some oe := Heap.get?_push_of_some _ g1
  have neT : h1.objs.size ≠ e := Nat.ne_of_gt (Heap.lt_size g1)
  have st1 : bs.StaysIn h1 := fun b o hb => (so.2.1 b fun hm => by rw [(ff.mem hm).1] at hb; cases hb).trans (st b o hb)
  refine wpAny_setField g2 dt z1 (k _ ?_ ?_)
  · have g3 := Heap.get?_update_self (Obj.mapFields (·.setIfInBounds 1 (Value.ref h1.objs.size))) g2 (Obj.isFreed_of_fields (Obj.data_mapFields dt _))
    have kp : ∀ b o, b ≠ e → h1.get? b = some o → ((h1.push { cls := .type "traceback", dict := none, data := .fields ts }).update e (Obj.mapFields (·.setIfInBounds 1 (Value.ref h1.objs.size)))).get? b = some o := fun b o hb q => by
      rw [Heap.get?_update_other _ _ (Ne.symm hb)]
      exact Heap.get?_push_of_some _ q
    have nr : ∀ b o, s.heap.get? b = some o → (∀ us, o.data ≠ .fields us) → b ≠ e := fun b o q hn z => by
      subst z
      rw [ge] at q
      cases q
      exact hn _ dt
    refine ⟨fun b o hb => kp b o (fun z => by rw [z, ne] at hb; cases hb) (st1 b o hb), ff.of_keeps fun b o q hn => ?_, ⟨_, _, h1.objs.size, ⟨.type "traceback", none, .fields ts, #[]⟩, ts, g3, ⟨Obj.cls_mapFields _ _, ?_⟩, Obj.data_mapFields dt _, ?_, st1.fresh, neT, ?_, rfl, t3⟩, fun b o q hn => ?_⟩
    · obtain ⟨sl, e1⟩ := so.2.2 b o q
      exact ⟨_, kp b _ (nr b o q hn) e1, rfl⟩
    · rw [Array.getElem?_setIfInBounds_ne (by decide)]
      exact z0
    · rw [Array.getElem?_setIfInBounds_self_of_lt z1]
    · exact (Heap.get?_update_other _ _ (Ne.symm neT)).trans (Heap.get?_push_size h1 rfl)
    · obtain ⟨sl, e1⟩ := so.2.2 b o q
      exact ⟨sl, kp b _ (nr b o q hn) e1⟩
  · exact ⟨_, Heap.get?_update_self _ g2 (Obj.isFreed_of_fields (Obj.data_mapFields dt _)), mapF_dict _ _, fun hc => ⟨_, Obj.data_mapFields dt _, by rw [Array.getElem?_setIfInBounds_ne (by decide)]; exact z2 hc⟩⟩
/-- a frame is noted in an exception that flies -/
theorem note_own {cls a0 : Value} {d : Option Addr} {Q : Unit → Shared → Prop} (fr : A.frames = some (en :: out)) (fl : en.frame = some L) (F : Heap.FlyingW bs (en :: out) e cls a0 s.heap) (D : OwnD c s.heap e d)
    (k : ∀ h', Heap.HeldW bs (en :: out) e cls a0 L h' → OwnD c h' e d → s.heap.UpToSlots h' → Q () { s with heap := h' }) : wpAny M A (noteFrame (.ref e) en) Q E s := by
  obtain ⟨st, ne, ff, oe, vs, T, oT, ts, ge, ⟨rfl, z0⟩, dt, z1, nT, neT, gT, dT, t3⟩ := F
  obtain ⟨o1, g1, rfl, hc⟩ := D
  cases ge.symm.trans g1
  unfold noteFrame
  simp only [fl]
  refine wpAny_bind (wpAny_field ge dt z1 ?_)
  rw [if_pos (show (Value.ref T != Value.none) = true from rfl)]
  refine wpAny_bind (wpAny_field gT dT t3 ?_)
  rw [if_neg (show ¬ ((Value.none == rawInt L) = true) from fun z => by cases z)]
  refine wpAny_bind (wpAny_setField gT dT (Array.getElem?_eq_some_iff.mp t3).1 ?_)
  have ot : ∀ b, b ≠ T → (s.heap.update T (Obj.mapFields (·.setIfInBounds 3 Value.none))).get? b = s.heap.get? b := fun b hb => Heap.get?_update_other _ _ (Ne.symm hb)
  have nr : ∀ b o, s.heap.get? b = some o → (∀ us, o.data ≠ .fields us) → b ≠ T := fun b o q hn z => by
    subst z
    rw [gT] at q
    cases q
    exact hn _ dT
  refine entry_own (s := { s with heap := s.heap.update T (Obj.mapFields (·.setIfInBounds 3 Value.none)) }) fr (ff.of_keeps fun b o q hn => ⟨o, (ot b (nr b o q hn)).trans q, rfl⟩) fl ((ot e (Ne.symm neT)).trans ge) (fun b o q => (ot b fun z => by subst z; rw [nT] at q; cases q).trans (st b o q)) ne dt
    (Array.getElem?_eq_some_iff.mp z1).1 z0 (fun h => by obtain ⟨vs', q1, q2⟩ := hc h; rw [dt] at q1; cases q1; exact q2) fun h' ⟨x1, x2, x3, x4⟩ D' => k h' ⟨x1, ne, x2, x3⟩ D' fun b o q hn => x4 b o ((ot b (nr b o q hn)).trans q) hn
theorem flight_own {l : List Env} {cls a0 fv : Value} {d : Option Addr} {Q : Unit → Shared → Prop} (st : bs.StaysIn s.heap) (ne : bs.get? e = none) (ff : s.heap.FunFrames bs l) (tr : s.heap.TracedAtW bs e cls a0 fv) (D : OwnD c s.heap e d)
    (k : ∀ h', Heap.FlyingW bs l e cls a0 h' → OwnD c h' e d → s.heap.UpToSlots h' → Q () { s with heap := h' }) : wpAny M A (setFlight (.ref e) none) Q E s := by
  obtain ⟨oe, vs, T, oT, ts, ge, hc, dt, z1, nT, neT, gT, dT, t3⟩ := tr
  have ot : ∀ b, b ≠ T → (s.heap.update T (Obj.mapFields (·.setIfInBounds 3 ((none : Option Addr).elim Value.none fun f => rawInt f)))).get? b = s.heap.get? b := fun b hb => Heap.get?_update_other _ _ (Ne.symm hb)
  have nr : ∀ b o, s.heap.get? b = some o → (∀ us, o.data ≠ .fields us) → b ≠ T := fun b o q hn z => by
    subst z
    rw [gT] at q
    cases q
    exact hn _ dT
  have z3 := (Array.getElem?_eq_some_iff.mp t3).1
  unfold setFlight
  refine wpAny_bind (wpAny_field ge dt z1 ?_)
  rw [if_pos (show (Value.ref T != Value.none) = true from rfl)]
  refine wpAny_setField gT dT z3 (k _ ⟨fun b o q => (ot b fun z => by subst z; rw [nT] at q; cases q).trans (st b o q), ne, ff.of_keeps fun b o q hn => ⟨o, (ot b (nr b o q hn)).trans q, rfl⟩,
    oe, vs, T, _, _, (ot e (Ne.symm neT)).trans ge, hc, dt, z1, nT, neT, Heap.get?_update_self _ gT (Obj.isFreed_of_fields (Obj.data_mapFields dT _)), Obj.data_mapFields dT _, Array.getElem?_setIfInBounds_self_of_lt z3⟩ ?_ fun b o q hn => ⟨o.slots, (ot b (nr b o q hn)).trans q⟩)
  obtain ⟨o1, g1, hd⟩ := D
  exact ⟨o1, (ot e (Ne.symm neT)).trans g1, hd⟩
/-- the exception leaves one more frame -/
theorem leave_own {cls a0 : Value} {d : Option Addr} {Q : Unit → Shared → Prop} (fr : A.frames = some (en :: out)) (fl : en.frame = some L) (F : Heap.FlyingW bs (en :: out) e cls a0 s.heap) (D : OwnD c s.heap e d)
    (k : ∀ h', Heap.FlyingW bs out e cls a0 h' → OwnD c h' e d → s.heap.UpToSlots h' → Q () { s with heap := h' }) : wpAny M A (leaving en (.ref e)) Q E s := by
  unfold leaving
  refine wpAny_bind (note_own fr fl F D fun h1 ⟨x1, x2, x3, x4⟩ D1 u1 => flight_own (s := { s with heap := h1 }) x1 x2 x3 x4 D1 fun h2 ⟨y1, y2, y3, y4⟩ D2 u2 => ?_)
  obtain ⟨_, _, y3'⟩ := y3
  exact k h2 ⟨y1, y2, y3', y4⟩ D2 (u1.trans u2)
/-- the exception leaves the frame that raised it -/
theorem leave_first {oe : Obj} {vs : Array Value} {a0 : Value} {Q : Unit → Shared → Prop} (fr : A.frames = some (en :: out)) (ff : s.heap.FunFrames bs (en :: out)) (fl : en.frame = some L)
    (ge : s.heap.get? e = some oe) (st : bs.StaysIn s.heap) (ne : bs.get? e = none) (dt : oe.data = .fields vs) (z1 : vs[1]? = some .none) (z0 : vs[0]? = some a0) (z2 : c = true → vs[2]? = some .none)
    (k : ∀ h', Heap.FlyingW bs out e oe.cls a0 h' → OwnD c h' e oe.dict → s.heap.UpToSlots h' → Q () { s with heap := h' }) : wpAny M A (leaving en (.ref e)) Q E s := by
  unfold leaving noteFrame
  simp only [fl]
  refine wpAny_bind (wpAny_bind (wpAny_field ge dt z1 ?_))
  rw [if_neg (by decide)]
  refine entry_own fr ff fl ge st ne dt (Array.getElem?_eq_some_iff.mp z1).1 z0 z2 fun h1 ⟨x1, x2, x3, x4⟩ D1 => flight_own (s := { s with heap := h1 }) x1 ne x2 x3 D1 fun h2 ⟨y1, y2, y3, y4⟩ D2 u2 => ?_
  obtain ⟨_, _, y3'⟩ := y3
  exact k h2 ⟨y1, y2, y3', y4⟩ D2 (Heap.UpToSlots.trans x4 u2)
end
end Ow
namespace Ow
open PySem PySem.Spec PyProof.Rows L2
theorem refuse_tail {h : Heap} {l : List Value} (self : Value) (T : OwnTail h VE l) : refuseLoop self "__setattr__" l = pure () := by
  induction T with
  | base => exact PySem.F.store_ValueError.passes self
  | own _ _ _ _ ih => rw [refuseLoop_ref]; exact ih
section
variable {prog : Program} {w : World} {A : Around} {E : Value → Shared → Prop} {s : Shared} {K : PySem.W.Frag} {x C N : Addr} {fs : Array Value} {sl : Array (Option Value)} {name : Str} {v : Value}
variable {nm qn : Str} {bs bm : List Value} {sn : List Str} {sub : List Value} {ab : Bool} {col : Option Bool} {dd : Option Addr} {k0 k1 k2 k3 k5 : Option Value} {nid : String}
/-- an attribute is laid down in an exception that has none yet -/
theorem set_exc {Q : Unit → Shared → Prop} (X : K.In s.heap) (hx : s.heap.get? x = some ⟨.ref C, none, .fields fs, sl⟩) (hC : s.heap.get? C = some (excClassObj nm qn C N bs bm true sn sub ab col dd k0 k1 k2 k3 k5 nid)) (T : OwnTail s.heap VE bm)
    (sa : PySem.W.findIn K (.ref C) "__setattr__" = some (some (.builtin "object.__setattr__"))) (na : PySem.W.findIn K (.ref C) name = some none) (mo : PySem.W.mroIn K C (.type "object") = some true)
    (k : ∀ h' t', h'.get? x = some ⟨.ref C, some s.heap.objs.size, .fields fs, sl⟩ → h'.Ns1 s.heap.objs.size (fun y => if y = name then some v else none) → (∀ b o, b ≠ x → s.heap.get? b = some o → h'.get? b = some o) → Q () { s with heap := h', toks := t' }) :
    wpAny (model prog w) A (setAttr (.ref x) name v) Q E s := by
  have I : PySem.W.InstAt s.heap x ⟨.ref C, none, .fields fs, sl⟩ C none := ⟨hx, rfl, rfl, True.intro⟩
  have SF := PySem.F.store_object
  have su : PySem.W.Looks (model prog w) s.heap (isInstance (.ref x) (.type "object")) true := I.type.andThen (PySem.W.looks_mroIn X mo)
  refine PySem.W.set_plain X I sa (codeAny_call_builtin SF.slot.plain SF.entry (@PySem.W.check_slot (model prog w) _ _ { s with toks := s.toks + 1 } "object.__setattr__" "object" "__setattr__" (.ref x) [.str name s.toks, v] [] _ SF.kind SF.split su (SF.args (.ref x) (.str name s.toks) v) ?_))
  rw [PySem.W.osa_eq, refuse_eq]
  refine wpAny_bind (wpAny_bind (PySem.W.Looks.here (s := { s with toks := s.toks + 1 }) I.type (wpAny_bind (wpAny_mroOf_exc hC ?_))))
  rw [refuseLoop_ref, refuse_tail _ T]
  refine wpAny_pure (wpAny_bind (PySem.W.Looks.here (s := { s with toks := s.toks + 1 }) I.type (wpAny_bind (PySem.W.Looks.here (s := { s with toks := s.toks + 1 }) (PySem.W.looks_findIn X na) (wpAny_bind (wpAny_pure ?_))))))
  show wpAny _ _ (Builtin.ObjectAttr.storeInOwnDict (.ref x) (.ref C) (.str name s.toks) name v false) _ _ _
  have L1 : PySem.W.Looks (model prog w) s.heap (classData C) _ := (PySem.W.Looks.ld (part := none) hC).andThen .now
  have xs : x ≠ s.heap.objs.size := Nat.ne_of_lt (Heap.lt_size hx)
  have hx1 : (s.heap.push { cls := .type "dict", data := .dict #[] }).get? x = some ⟨.ref C, none, .fields fs, sl⟩ := Heap.get?_push_of_some _ hx
  have up : ∀ f : Obj → Obj, f ⟨.ref C, none, .fields fs, sl⟩ = ⟨.ref C, some s.heap.objs.size, .fields fs, sl⟩ → ((s.heap.push { cls := .type "dict", data := .dict #[] }).update x f).get? x = some ⟨.ref C, some s.heap.objs.size, .fields fs, sl⟩ := fun f ef => by
    rw [Heap.get?_update_self f hx1 (by rw [ef]; rfl), ef]
  refine wpAny_bind (wpAny_pure (wpAny_bind (wpAny_bind (wpAny_loadPart hx (wpAny_bind (PySem.W.Looks.here (s := { s with toks := s.toks + 1 }) L1 ?_))))))
  refine wpAny_bind (wpAny_alloc' (wpAny_bind (wpAny_update' hx1 (wpAny_pure ?_))))
  have gd : ((s.heap.push { cls := .type "dict", data := .dict #[] }).update x fun o => { o with dict := some s.heap.objs.size }).get? s.heap.objs.size = some { cls := .type "dict", data := .dict #[] } :=
    (Heap.get?_update_other _ _ xs).trans (Heap.get?_push_size _ rfl)
  have nd : ((s.heap.push { cls := .type "dict", data := .dict #[] }).update x fun o => { o with dict := some s.heap.objs.size }).Ns s.heap.objs.size (fun _ => none) := ⟨_, #[], _, gd, rfl, fun e he => absurd he (by simp), fun _ => rfl⟩
  refine wpAny_bind (wpAny_pure (wpAny_bind (wpAny_nsSet1 (Heap.Ns1.of_empty nd) fun h' n2 sb => ?_)))
  obtain ⟨oD, eD, pD, gD, dD, cD⟩ := n2.count (PySem.Within.cons name v PySem.Within.nil)
  refine wpAny_bind (wpAny_lookBehind gD (by rw [dD]; exact pastItsLine_dict (Nat.le_trans cD (by rw [List.length_cons, List.length_nil, sizeLine_eq]; omega))) ?_)
  refine wpAny_pure (k h' _ ?_ ?_ fun b o hb q => ?_)
  · exact (sb.2 x xs).trans (up _ rfl)
  · exact n2
  · exact (sb.2 b (Nat.ne_of_lt (Heap.lt_size q))).trans ((Heap.get?_update_other _ _ (Ne.symm hb)).trans (Heap.get?_push_of_some _ q))
end
end Ow
namespace Ow
open PySem PySem.Spec PyProof.Rows L2
/-- the fields of an exception that was just made -/
abbrev exF (t : Addr) : Array Value := #[.ref t, .none, .none, .none, .bool false, .none]
abbrev exT (v : Value) : Obj := { cls := .type "tuple", data := .seq [v].toArray }
section
variable {prog : Program} {w : World} {A : Around} {E : Value → Shared → Prop} {h : Heap} {g : Array GenState} {d : Drawn} {t : Nat} {os : OsState} {C N fI : Addr} {v : Value} {oI : Obj} {mN : Str → Option Value}
variable {nm qn : Str} {bs bm : List Value} {hdc : Bool} {sn : List Str} {sub : List Value} {ab : Bool} {col : Option Bool} {dd : Option Addr} {k0 k1 k2 k3 k5 : Option Value}
/-- C(v): the tuple of its arguments at the heap's end, the exception behind it; then its own __init__ -/
theorem made_exc {Q : Fin → Shared → Prop} (T : OwnTail h VE bm) (hC : h.get? C = some (excClassObj nm qn C N bs bm hdc sn sub ab col dd k0 k1 k2 k3 k5 "ValueError.__new__")) (hn : h.Ns N mN) (hi : mN "__init__" = some (.ref fI))
    (gf : h.get? fI = some oI) (cf : oI.cls = .type "function")
    (k : wpAny (model prog w) A (call (.ref fI) [.ref (h.objs.size + 1), v]) (fun r s' => r = .none ∧ Q (.done (.ret (.ref (h.objs.size + 1)))) s') E ⟨(h.push (exT v)).push { cls := .ref C, data := .fields (exF h.objs.size) }, g, d, t, os⟩) :
    wpAny (model prog w) A (Builtin.«type.__call__» ⟨[.ref C, v], []⟩) Q E ⟨h, g, d, t, os⟩ := by
  have F := PySem.F.excBase_ValueError
  have st : ∀ b o, h.get? b = some o → ((h.push (exT v)).push { cls := .ref C, data := .fields (exF h.objs.size) }).get? b = some o := fun b o e => Heap.get?_push_of_some _ (Heap.get?_push_of_some _ e)
  have ge : ((h.push (exT v)).push { cls := .ref C, data := .fields (exF h.objs.size) }).get? (h.objs.size + 1) = some { cls := .ref C, data := .fields (exF h.objs.size) } := by
    have z := Heap.get?_push_size (h.push (exT v)) (o := { cls := .ref C, data := .fields (exF h.objs.size) }) rfl
    rwa [Heap.size_push] at z
  have cc : (Value.ref C :: bm).contains (.ref C) = true := by rw [List.contains_cons, beq_self_eq_true, Bool.true_or]
  repeat (first | with_reducible refine wpAny_loadPart_at hC ?_ | with_reducible refine wpAny_madeBy_exc hC ?_ | wp_step)
  refine codeAny_call_builtin_code (Code.quiet_builtin _ F.quiet) (wpAny_check_new_subT F T hC (codeAny_exc_new_subT F T hC (rest := [v]) ?_))
  show wpAny _ _ _ _ _ _
  unfold isInstance
  repeat (first | with_reducible refine wpAny_loadPart_at ge ?_ | (with_reducible refine wpAny_isSubtype_exc (st _ _ hC) ?_; rw [cc]) | wp_step)
  show wpAny _ _ (typeLookup (.ref C) _) _ _ _
  refine wpAny_typeLookup_tail (st _ _ hC) (hn.keeps st) (T.keeps st) F.mroIs F.init.lookup ?_
  rw [hi]
  refine wpAny_holding (wpAny_bind ?_)
  unfold bindSpecial
  refine wpAny_bind (wpAny_typeOf (T := "function") ⟨_, st _ _ gf, cf⟩ ?_)
  rw [if_pos (by decide)]
  refine wpAny_pure (wpAny_bind (wpAny_mono k (fun r s' q => ?_) fun _ _ z => z))
  obtain ⟨rfl, q⟩ := q
  wp_walk
  exact q
theorem call_exc {Q : Value → Shared → Prop} (T : OwnTail h VE bm) (hC : h.get? C = some (excClassObj nm qn C N bs bm hdc sn sub ab col dd k0 k1 k2 k3 k5 "ValueError.__new__")) (hn : h.Ns N mN) (hi : mN "__init__" = some (.ref fI))
    (gf : h.get? fI = some oI) (cf : oI.cls = .type "function")
    (k : wpAny (model prog w) (A.under (.builtin "type.__call__" ⟨[.ref C, v], []⟩)) (call (.ref fI) [.ref (h.objs.size + 1), v]) (fun r s' => r = .none ∧ Q (.ref (h.objs.size + 1)) s') E ⟨(h.push (exT v)).push { cls := .ref C, data := .fields (exF h.objs.size) }, g, d, t, os⟩) :
    wpAny (model prog w) A (call (.ref C) [v]) Q E ⟨h, g, d, t, os⟩ := by
  have f1 := tc_lookup
  have f2 := tc_bind (.ref C)
  have tT : (⟨h, g, d, t, os⟩ : Shared).TypeIs (.ref C) "type" := ⟨_, hC, rfl⟩
  refine wpAny_call (codeAny_of_tree ?_)
  show wpAny _ _ (callAny (.ref C) _) _ _ _
  repeat (any_goals (first | assumption | with_reducible refine wpAny_loadPart_at hC ?_ | wp_step))
  exact ⟨rfl, codeAny_call_builtin_at (Code.quiet_builtin _ (by decide +kernel)) entry_typeCall (wpAny_check_type_call_sub hC (made_exc T hC hn hi gf cf k))⟩
end
end Ow
namespace Ow
open PySem PySem.Spec PyProof.Rows L2
/-- an exception class of the program with an __init__ of its own, two rows beneath ValueError -/
def excFn (K : PySem.W.Frag) (C f : Addr) : Bool :=
  match K.lookup C with
  | some ⟨.type "type", _, .cls c, q⟩ =>
    (match c.mro, q.toList with
    | .ref D :: tl, [_, _, _, _, some (.builtin n), _] => D == C && (n == "ValueError.__new__" && (!c.hasDel && (c.hasDict && (PySem.W.tailIn K VE tl && (PySem.W.nsOkIn K c.ns && PySem.W.nsIn K c.ns "__init__" == some (some (.ref f)))))))
    | _, _ => false)
  | _ => false
theorem ns_some {K : PySem.W.Frag} {h : Heap} {N : Addr} {m : Str → Option Value} {n : Str} {v : Value} (X : K.In h) (G : h.Ns N m) (e : PySem.W.nsIn K N n = some (some v)) : m n = some v := by
  obtain ⟨o, es, ep, go, hd, _, hf⟩ := G
  unfold PySem.W.nsIn at e
  split at e
  · next q =>
    have z := X _ _ q
    rw [go] at z
    cases z
    cases hd
    split at e
    · next he =>
      cases e
      rw [← hf]
      unfold nsFind findBy
      rw [← Array.find?_toList, he]
      rfl
    · split at e <;> cases e
  · cases e
theorem exc_fn {K : PySem.W.Frag} {h : Heap} {C f : Addr} (X : K.In h) (q : excFn K C f = true) :
    ∃ bm N nm qn bs sn sub ab col dd k0 k1 k2 k3 k5 mN, h.get? C = some (excClassObj nm qn C N bs bm true sn sub ab col dd k0 k1 k2 k3 k5 "ValueError.__new__") ∧ h.Ns N mN ∧ mN "__init__" = some (.ref f) ∧ OwnTail h VE bm := by
  unfold excFn at q
  split at q
  · next d0 c0 s0 e0 =>
    split at q
    · next D m1 y0 y1 y2 y3 n1 y5 em es =>
      simp only [beq_iff_eq, Bool.not_eq_true', Bool.and_eq_true] at q
      obtain ⟨eC, en, ed, eh, et, eo, ei⟩ := q
      subst eC en
      obtain ⟨a1, a2, a3, a4, a5, a6, a7, a8, a9, a10, a11⟩ := c0
      dsimp only at em ed eo ei eh
      subst em ed eh
      obtain ⟨l0⟩ := s0
      have es' : l0 = [y0, y1, y2, y3, some (Value.builtin "ValueError.__new__"), y5] := es
      subst es'
      have G : h.Ns a4 _ := .of_isNs (PySem.W.isNs_of_in X eo)
      exact ⟨m1, a4, a1, a5, a2, a7, a8, a9, a10, d0, y0, y1, y2, y3, y5, _, X _ _ e0, G, ns_some X G ei, PySem.W.tail_of_in X et⟩
    · cases q
  · cases q
/-- the exception at e while its class's __init__ runs and until it is raised -/
def xO (e C t : Addr) (od : Option Addr) : HO := .ext fun h => h.get? e = some ⟨.ref C, od, .fields (exF t), #[]⟩
def drop (H : Hp) (e : Addr) : Hp := fun b => if b = e then none else H b
theorem drop_ne {H : Hp} {e b : Addr} (h : b ≠ e) : drop H e b = H b := if_neg h
theorem drop_same {H : Hp} {e : Addr} : drop H e e = none := if_pos rfl
theorem xO_ok {P : Program} {w : World} {H : Hp} {h : Heap} {e C t : Addr} {od : Option Addr} (g : h.get? e = some ⟨.ref C, od, .fields (exF t), #[]⟩) : ObjOk P w H h e (xO e C t od) := ⟨g, ⟨_, g⟩, fun _ _ a b => b _ a⟩
/-- an exception in flight over the frames of the callers, with its own dict -/
def CX2c (c : Bool) (P : Program) (w : World) (base : Heap) : CXT := fun outer H s E e s' =>
  ∃ (a : Addr) (cls a0 : Value) (B : Heap) (H' : Hp) (dd : Option Addr), e = .ref a ∧ s'.os = s.os ∧ AllBare s'.gens ∧ Gnd P w base (frs outer) H H' s.heap B ∧ Slots (frs outer) s.heap s'.heap ∧ Heap.FlyingW B outer a cls a0 s'.heap ∧ H' a = none ∧ OwnD c s'.heap a dd ∧ E cls dd H'
abbrev CX2 (P : Program) (w : World) (base : Heap) : CXT := CX2c true P w base
section
variable {P : Program} {w : World} {K : PySem.W.Frag} {mg : Str → Option Value} {base : Heap} {N : List Str} {qual : Str} {scope : Scope} {f : Addr} {cdv : Value} {A : Around} {outer : List Env} {s₀ : Shared} {H₀ : Hp} {E : XK}
end
end Ow
namespace Ow
open PySem PySem.Spec PyProof.Rows L2
structure XCls (K : PySem.W.Frag) (C fI : Addr) (f : Str) : Prop where
  ef : excFn K C fI = true
  sa : PySem.W.findIn K (.ref C) "__setattr__" = some (some (.builtin "object.__setattr__"))
  mo : PySem.W.mroIn K C (.type "object") = some true
  na : PySem.W.findIn K (.ref C) f = some none
  fn : PySem.W.typeIn K (.ref fI) = some (.type "function")
  kp : PySem.W.keepIn K (.ref C) = true
def sXset (K : PySem.W.Frag) (ta tv : TE) (f : Str) : TS := fun D σ H => tv σ H fun y H1 => ta σ H1 fun x H2 => ∃ e C t fI, x = .ref e ∧ H2 e = some (xO e C t none) ∧ XCls K C fI f ∧ ∀ d, H2 d = none → d ≠ e → D.nx σ (upd (upd H2 d (.xd [(f, y)])) e (xO e C t (some d)))
section
variable {X : Cx} {f : Str} {o value : Expr} {ta tv : TE} {pos pos' : Pos}
theorem ps_xset (ha : PE X o ta) (hv : PE X value tv) (hs : swapsWith value (some (.Attribute o f pos')) pos.line X.env = pure false) : PS X (.Assign [.Attribute o f pos'] value pos) (sXset X.K ta tv f) := by
  intro pins s σ H D I h
  refine plainObj_wpAny_Assign_Attribute (thn (hv pins s σ H _ I h) fun u s1 ⟨y, H1, I1, ry, q⟩ => thn (ha pins s1 σ H1 _ I1 q) fun ov s2 ⟨x, H2, I2, rx, e, C, t, fI, ex, he, c, q2⟩ => ?_) hs
  subst ex
  obtain rfl : ov = Value.ref e := rx
  have ge : s2.heap.get? e = some ⟨.ref C, none, .fields (exF t), #[]⟩ := (I2.hok e _ he).1
  obtain ⟨bm, N, nm, qn, bs, sn, sub, ab, col, dd, k0, k1, k2, k3, k5, mN, gC, _, _, T⟩ := exc_fn I2.kIn c.ef
  refine set_exc I2.kIn ge gC T c.sa c.na c.mo fun h' t' g1 n1 kp => ?_
  have hd : H2 s2.heap.objs.size = none := I2.hok.fresh (Nat.le_refl _)
  have dne : s2.heap.objs.size ≠ e := fun z => by rw [z, he] at hd; cases hd
  obtain ⟨od, es, ep, gd, hda, rest⟩ := n1
  have gd1 : (s2.heap.push od).get? s2.heap.objs.size = some od := Heap.get?_push_size _ (by
    obtain ⟨c1, c2, c3, c4⟩ := od
    cases (show c3 = .dict es ep from hda)
    rfl)
  have I3 := I2.laid (a := s2.heap.objs.size) (o := .xd [(f, y)]) (h' := s2.heap.push od) (t' := s2.toks) (fun b u q => Heap.get?_push_of_some _ q) (Nat.le_refl _) ⟨_, ⟨od, es, ep, gd1, hda, rest⟩, fun g => by
    by_cases hg : g = f
    · subst hg
      rw [if_pos rfl, List.lookup_cons_self]
      exact ry
    · rw [if_neg hg, List.lookup_cons, beq_eq_false_iff_ne.mpr hg]
      exact True.intro⟩
  have I4 := I3.write (x := e) (e := e) (o := xO e C t (some s2.heap.objs.size)) (h' := h') (t' := t') (by rw [upd_ne (Ne.symm dne), he]; exact True.intro) (.inl rfl) (fun b v hb z => by
    by_cases hz : b = s2.heap.objs.size
    · subst hz
      have z1 := gd1.symm.trans z
      cases z1
      exact gd
    · rw [Heap.get?_push_ne _ _ _ hz] at z
      exact kp b v hb z) ⟨_, g1⟩ (xO_ok g1)
  exact ⟨σ, _, I4, q2 _ hd dne⟩
end
end Ow
namespace Ow
open PySem PySem.Spec PyProof.Rows L2
/-- what an __init__ that lays one field down promises -/
def spXI (f : Str) (C : Addr) : Sp := fun vs H Q _ => ∃ (e t : Addr) (v : V), vs = [.ref e, v] ∧ H e = some (xO e C t none) ∧ ∀ d, H d = none → d ≠ e → Q .non (upd (upd H d (.xd [(f, v)])) e (xO e C t (some d)))
structure XHas (P : Program) (w : World) (K : PySem.W.Frag) (mg : Str → Option Value) (base : Heap) (k : Nat) (x : Str) (C : Addr) (f : Str) : Prop where
  ex : ∃ (fI : Addr) (fd : FuncData) (p1 p2 : Str), FnOk P w K mg base CX0 k fI fd [p1, p2] (spXI f C) ∧ Binds K fd [p1, p2] [] ∧ XCls K C fI f ∧ mg x = some (.ref C)
section
variable {P : Program} {w : World} {K : PySem.W.Frag} {mg : Str → Option Value} {base : Heap} {N : List Str} {qual : Str} {scope : Scope} {fa : Addr} {cdv : Value} {A : Around} {outer : List Env} {s₀ : Shared} {H₀ : Hp} {E : XK}
def tRaise1 (C : Addr) (f : Str) (E : XK) (ta : TA) : TS := fun _ σ H => ta σ H fun vs H1 => ∃ v, vs = [v] ∧ ∀ d, H1 d = none → E (.ref C) (some d) (upd H1 d (.xd [(f, v)]))
end
end Ow
namespace Ow
open PySem PySem.Spec PyProof.Rows L2
section
variable {P : Program} {w : World} {K : PySem.W.Frag} {mg : Str → Option Value} {base : Heap} {N : List Str} {qual : Str} {scope : Scope} {f : Addr} {cdv : Value} {A : Around} {outer : List Env} {s₀ : Shared} {H₀ : Hp} {E : XK}
end
structure HasY (P : Program) (w : World) (K : PySem.W.Frag) (mg : Str → Option Value) (base : Heap) (k : Nat) (x : Str) (ps : List Str) (sp : Sp) : Prop where
  ex : ∃ (f : Addr) (fd : FuncData), FnOk P w K mg base (CX2 P w base) k f fd ps sp ∧ Binds K fd ps [] ∧ PySem.W.keepIn K (.ref f) = true ∧ mg x = some (.ref f)
section
variable {P : Program} {w : World} {K : PySem.W.Frag} {mg : Str → Option Value} {base : Heap} {N : List Str} {qual : Str} {scope : Scope} {f : Addr} {cdv : Value} {A : Around} {outer : List Env} {s₀ : Shared} {H₀ : Hp} {E : XK}
end
/-- the rows of a try -/
def tryCy (X : Cx) (pins : List (Addr × Obj)) (E : L2.St → XK) : Cx := (pinned X pins).wish fun e s' => ∃ (pins' : List (Addr × Obj)) (σ' : L2.St) (H : Hp) (s : Shared), Inv (pinned X pins) pins' σ' H s ∧ CX2 X.prog X.w X.base X.stack H s (E σ') e s'
section
variable {X : Cx} {j : Nat} {n c : Str} {C₁ : Addr} {b₀ : Stmt} {suite : List Stmt} {tb : Addr → Obj → TS} {np hpos : Pos}
/-- from the flight to the suite, behind which it goes on -/
theorem landY {cb : Bool} {pins : List (Addr × Obj)} {σ : L2.St} {H1 : Hp} {s1 s' : Shared} {D : Ends} {E : XK} {ev : Value} (I : Inv X pins σ H1 s1) (hq : CX2c cb X.prog X.w X.base X.stack H1 s1 E ev s') (hst : X.stack = X.env :: X.outer) (hfr : X.env.frame = some X.env.locals)
    (hN : X.N.Nodup) (hgc : Gl X c) (hmc : X.mg c = some (.ref C₁)) (hj : X.N[j]? = some n) (hnl : X.env.scope.names.lookup n = some .local) (hb : ∀ (a : Addr) (oe : Obj), (cb = true → Ctx0 oe) → PSs (caught X a oe) (b₀ :: suite) (tb a oe)) (hno : X.xe = fun _ _ => False)
    (hE : ∀ cls dd H2, E cls dd H2 → PySem.W.exmOne X.K cls (.ref C₁) = some true ∧ ∀ (a : Addr) (oe : Obj), oe.cls = cls → oe.dict = dd → PySem.W.notCls oe = true → H2 a = none → tb a oe (endsK j D) (σ.set j (some (.ref a))) H2) (hdc : (c == ("__debug__" : Str)) = false) :
    wpAny (model X.prog X.w) X.A (noteFrame ev X.env) (fun _ s₂ => wpAny (model X.prog X.w) X.A (setFlight ev none) (fun _ s₃ => wpAny (model X.prog X.w) X.A (handleBy ev X.env [.ExceptHandler (some (.Name c np)) (some n) (b₀ :: suite) hpos]) (SP X pins D) X.xe s₃) X.xe s₂) X.xe s' := by
  obtain ⟨a, cls, a0, B, H2, dd, rfl, hos, hba, G, sl, fl, ha0, D0, hw⟩ := hq
  obtain ⟨hm, hsu⟩ := hE cls dd H2 hw
  have frm : X.A.frames = some (X.env :: X.outer) := hst ▸ I.ok.frames
  rw [hst] at fl
  have sl' : Slots (frs (X.env :: X.outer)) s1.heap s'.heap := hst ▸ sl
  refine note_own frm hfr fl D0 fun h4 hd4 D4 up4 => ?_
  refine flight_own hd4.1 hd4.2.1 hd4.2.2.1 hd4.2.2.2 D4 fun h5 fl5 D5 up5 => ?_
  have sl5 := (sl'.on fl.2.2.1 up4).on hd4.2.2.1 up5
  have inv : ∀ (hh : Heap) (sx : Shared), sx.heap = hh → sx.os = s1.os → AllBare sx.gens → B.StaysIn hh → Slots (frs (X.env :: X.outer)) s1.heap hh → Inv X pins σ H2 sx := fun hh sx e1 e2 e3 e4 e5 => by
    refine I.call' (ch := []) e2 ?_ ?_ e3 fun b z => nomatch z
    · rw [e1]; exact G.un e4 (hst ▸ e5)
    · rw [e1]; exact G.hok.kept e4
  have I5 : Inv X pins σ H2 { s' with heap := h5 } := inv h5 _ rfl hos hba fl5.1 sl5
  have noT : ∀ hh : Heap, Heap.FlyingW B (X.env :: X.outer) a cls a0 hh → a ≠ X.env.locals ∧ a ∉ X.fs := fun hh flx => by
    obtain ⟨oe, ws, e1, _, e2, _⟩ := flx.first
    have key : ∀ b ∈ frs (X.env :: X.outer), a ≠ b := fun b hb z => by
      obtain ⟨_, o, e3, d⟩ := flx.2.2.1.mem hb
      rw [← z, e1] at e3
      cases e3
      exact d _ e2
    have mL : X.env.locals ∈ frs (X.env :: X.outer) := List.mem_filterMap.mpr ⟨X.env, List.mem_cons_self .., hfr⟩
    refine ⟨key _ mL, fun z => key a ?_ rfl⟩
    obtain ⟨en, he, hf⟩ := List.mem_filterMap.mp z
    exact List.mem_filterMap.mpr ⟨en, List.mem_cons_of_mem _ he, hf⟩
  obtain ⟨o5, ob5, oc5⟩ := fl5.there
  obtain ⟨_, w5, ob5', _, od5, _⟩ := fl5.first
  have I5c : Inv (caught X a o5) pins σ H2 { s' with heap := h5 } := caught_inv I5 ob5 ha0 (noT h5 fl5).1 (noT h5 fl5).2 (fun v z => by
    rw [ob5] at ob5'
    cases ob5'
    rw [od5] at z
    cases z)
  refine wpAny_handleBy_cons (codeAny_handlers_test (ld_glob I5c hgc hmc ?_ hdc)) (by intro z; cases z)
  have LT : PySem.W.Looks (model X.prog X.w) h5 (typeOf (.ref a)) cls := oc5 ▸ (PySem.W.Looks.ld ob5).andThen .now
  refine (PySem.W.exm_one (K := X.K) I5.kIn LT hm).here ?_
  refine codeAny_handlers_suite_as ?_
  refine flight_own (s := { s' with heap := h5 }) fl5.1 fl5.2.1 fl5.2.2.1 fl5.2.2.2 D5 fun h6 fl6 D6 up6 => ?_
  have I6 : Inv X pins σ H2 { s' with heap := h6 } := inv h6 _ rfl hos hba fl6.1 (sl5.on fl5.2.2.1 up6)
  obtain ⟨o6, w6, ob6, oc6, od6, _⟩ := fl6.first
  obtain ⟨dd6, cc6⟩ : o6.dict = dd ∧ (cb = true → Ctx0 o6) := by
    obtain ⟨o7, e7, d7, c7⟩ := D6
    rw [ob6] at e7
    cases e7
    exact ⟨d7, c7⟩
  have I6c : Inv (caught X a o6) pins σ H2 { s' with heap := h6 } := caught_inv I6 ob6 ha0 (noT h6 fl6).1 (noT h6 fl6).2 (fun v z => by rw [od6] at z; cases z)
  refine store_ok (X := caught X a o6) I6c hN hj (.inl hnl) (v := .ref a) rfl (fun s7 I7 => ?_) (.inr hnl)
  refine wpAny_mono (hb a o6 cc6 pins s7 _ H2 _ I7 (hsu a o6 oc6 dd6 (by unfold PySem.W.notCls; rw [od6]) ha0)) (fun fw s8 q8 => ?_) fun ex s8 q8 => ?_
  · cases fw with
    | ret u =>
      obtain ⟨v, σ8, H8, I8, r8, q8⟩ := q8
      obtain ⟨m8, n8, _⟩ := I8.loc
      refine wpAny_nameGoes (env := X.env) hnl n8 (by rw [I.ok.kind]; rfl) fun h9 m9 n9 sb => ?_
      exact ⟨v, _, H8, suite_end I8 I.ok n9 sb, r8, q8⟩
    | next =>
      obtain ⟨σ8, H8, I8, q8⟩ := q8
      obtain ⟨m8, n8, l8⟩ := I8.loc
      refine wpAny_nameGoes_keeps (env := X.env) hnl n8 (by rw [I.ok.kind]; rfl) fun h9 v9 n9 sb => ?_
      exact ⟨_, H8, suite_endK I8 I.ok hN hj l8 n9 sb, q8⟩
    | brk => obtain ⟨_, _, _, z⟩ := q8; exact False.elim z
    | cont => obtain ⟨_, _, _, z⟩ := q8; exact False.elim z
  · have z : X.xe ex s8 := q8
    rw [hno] at z
    exact False.elim z
end
def wishY (K : PySem.W.Frag) (C₁ : Addr) (j : Nat) (ts : Addr → Obj → TS) (D : Ends) : L2.St → XK := fun σ' cls dd H2 => PySem.W.exmOne K cls (.ref C₁) = some true ∧ ∀ (a : Addr) (oe : Obj), oe.cls = cls → oe.dict = dd → PySem.W.notCls oe = true → H2 a = none → ts a oe (endsK j D) (σ'.set j (some (.ref a))) H2
def tTryY (K : PySem.W.Frag) (C₁ : Addr) (j : Nat) (tb : (L2.St → XK) → TS) (ts : Addr → Obj → TS) : TS := fun D σ H => tb (wishY K C₁ j ts D) D σ H
end Ow
namespace Ow
open PySem PySem.Spec PyProof.Rows L2
section
variable {prog : Program} {w : World} {A : Around} {E : Value → Shared → Prop} {h : Heap} {g : Array GenState} {d : Drawn} {t : Nat} {os : OsState} {K : PySem.W.Frag} {a C D : Addr} {o od : Obj} {name : Str} {v : Value}
theorem xat (hx : h.get? a = some o) (hc : o.cls = .ref C) (hd : o.dict = some D) (hn : PySem.W.notCls o = true) (gd : h.get? D = some od) : PySem.W.InstAt h a o C (some od) := ⟨hx, hc, hn, by rw [hd]; exact gd⟩
theorem getx_entry {tk : Tok} {Q : Fin → Shared → Prop} (X : K.In h) (I : PySem.W.InstAt h a o C (some od)) (hf : PySem.W.findObj K C (some od) name = some (.value v)) (hq : Q (.done (.ret v)) ⟨h, g, d, t, os⟩) :
    wpAny (model prog w) A (Builtin.«object.__getattribute__» ⟨[.ref a, .str name tk], []⟩) Q E ⟨h, g, d, t, os⟩ := by
  have L0 := I.type (M := model prog w)
  have L1 := PySem.W.looks_find (M := model prog w) X I hf
  refine wpAny_bind (wpAny_pure (wpAny_bind (wpAny_pure (wpAny_bind (L0.at (wpAny_bind (L1.at ?_)))))))
  exact wpAny_pure hq
theorem getx_by {tk : Tok} {fill ex : Bool} {Q : Value → Shared → Prop} (X : K.In h) (f : ExF K C) (I : PySem.W.InstAt h a o C (some od)) (hf : PySem.W.findObj K C (some od) name = some (.value v)) (hv : PySem.W.handedIn v = true) (hq : Q v ⟨h, g, d, t, os⟩) :
    wpAny (model prog w) A (getAttrBy (.ref a) (.str name tk) fill ex) Q E ⟨h, g, d, t, os⟩ := by
  have hx := I.at_
  have hc := I.cls
  have f3 := F.attr_ValueError.ga.bind (.ref a)
  have L1 := PySem.W.looks_findIn (M := model prog w) X f.ga
  have L2 := PySem.W.looks_findIn (M := model prog w) X f.gn
  have hx2 : (Value.builtin "BaseException.__getattribute__" == Value.builtin "object.__getattribute__") = false := by decide +kernel
  have hx1 : (onTheHeap (Value.ref C) && Value.builtin "BaseException.__getattribute__" == Value.builtin "object.__getattribute__") = false := by rw [hx2]; rfl
  have hx0 : (ex && onTheHeap (Value.builtin "BaseException.__getattribute__")) = false := by cases ex <;> rfl
  have hho := PySem.W.handedOut_of hv
  repeat (any_goals (first | assumption | (with_reducible refine wpAny_loadPart_at hx ?_; rw [hc]) | with_reducible refine L1.at ?_ | with_reducible refine L2.at ?_ | wp_step))
  refine codeAny_call_builtin F.attr_ValueError.ga.plain F.entry_bexc_ga (exc_check X f hx hc (getx_entry X I hf ?_))
  repeat (any_goals (first | assumption | wp_step))
theorem getx {ex : Bool} {Q : Value → Shared → Prop} (X : K.In h) (f : ExF K C) (I : PySem.W.InstAt h a o C (some od)) (hf : PySem.W.findObj K C (some od) name = some (.value v)) (hv : PySem.W.handedIn v = true) (hq : Q v ⟨h, g, d, t + 1, os⟩) :
    wpAny (model prog w) A (getAttr (.ref a) name ex) Q E ⟨h, g, d, t, os⟩ := by
  unfold getAttr
  exact wpAny_bind (wpAny_mkText (getx_by X f I hf hv hq))
end
/-- e.f of a caught exception: the field that its __init__ laid down -/
def tXf (K : PySem.W.Frag) (ta : TE) (a : Addr) (oe : Obj) (f : Str) : TE := fun σ H Q => ta σ H fun x H1 => ∃ C D fs v, x = .ref a ∧ oe.cls = .ref C ∧ oe.dict = some D ∧ PySem.W.notCls oe = true ∧ ExF K C ∧ PySem.W.hasDictIn K C = true ∧ NoAttr K C f ∧ H1 D = some (.xd fs) ∧ fs.lookup f = some v ∧ Q v H1
theorem pe_xf {X : Cx} {a : Addr} {oe : Obj} {f : Str} {e : Expr} {ta : TE} {pos : Pos} (hp : (a, oe) ∈ X.pn) (he : PE X e ta) (hb : attributeBase e f X.env (eval e X.env) = eval e X.env) : PE X (.Attribute e f pos) (tXf X.K ta a oe f) := by
  intro pins s σ H Q I h
  refine attr_of hb (thn (he pins s σ H _ I h) fun u s1 ⟨x, H1, I1, rx, C, D, fs, v, ex, hc, hd, hn, f1, f2, f3, hD, hl, q⟩ => ?_)
  subst ex
  obtain rfl : u = Value.ref a := rx
  have pa := I1.pin _ (List.mem_append_left _ hp)
  obtain ⟨mA, ns, r⟩ := I1.hok D _ hD
  obtain ⟨od, gd, hlk⟩ := lookIn_ns ns
  obtain ⟨v', hv, rv⟩ := RelO.some_of (v := v) (o := mA f) (by rw [← hl]; exact r f)
  obtain ⟨hh, g, d, t, os⟩ := s1
  exact getx I1.kIn f1 (xat pa.1 hc hd hn gd) (PySem.W.findObj_own f2 f3 rfl (by rw [hlk, hv])) (handed_of rv) ⟨v, H1, I1.tok _, rv, q⟩
end Ow
namespace Ow
open PySem PySem.Spec PyProof.Rows L2
theorem Has.imp {P : Program} {w : World} {K : PySem.W.Frag} {mg : Str → Option Value} {base : Heap} {k : Nat} {x : Str} {ps : List Str} {sp sp' : Sp} (h : Has P w K mg base k x ps sp) (i : ∀ vs H Q E, sp' vs H Q E → sp vs H Q E) : Has P w K mg base k x ps sp' := by
  obtain ⟨f, fd, F, b, kp, m⟩ := h.ex
  exact ⟨f, fd, F.imp i, b, kp, m⟩
/-! ### an empty dict -/
theorem dk_none {P : Program} {w : World} {H : Hp} (h : Heap) (hb : sysModules < h.objs.size) : ObjOk P w H (h.push { cls := .type "dict", data := .dict #[] }) h.objs.size (.dK []) :=
  ⟨Nat.zero_le _, beq_eq_false_iff_ne.mpr (Ne.symm (Nat.ne_of_lt hb)), [], .nil, Heap.DictOf.new h⟩
theorem inv_big {X : Cx} {pins : List (Addr × Obj)} {σ : L2.St} {H : Hp} {s : Shared} (I : Inv X pins σ H s) : sysModules < s.heap.objs.size := by
  have h1 := I.ok.mod.glob.lt
  have h2 := Nat.le_trans I.ok.bsz I.sz
  exact Nat.lt_of_lt_of_le (Nat.lt_of_le_of_lt (by decide) h1) h2
def tDNew : TE := fun _ H Q => ∀ p, H p = none → Q (.ref p) (upd H p (.dK []))
theorem pe_dnewK {X : Cx} {pos : Pos} : PE X (.Dict [] [] pos) tDNew := fun pins s σ H Q I h =>
  wpAny_Dict_empty ⟨.ref s.heap.objs.size, _, I.laid (a := s.heap.objs.size) (o := .dK []) (t' := s.toks) (fun _ _ q => Heap.get?_push_of_some _ q) (Nat.le_refl _) (dk_none s.heap (inv_big I)), rfl, h _ (I.hok.fresh (Nat.le_refl _))⟩
/-! ### things of any kind -/
inductive Th (H : Hp) : V → Prop where
  | int (i : Int) : Th H (.int i)
  | bl (b : Bool) : Th H (.bl b)
  | str (x : Str) : Th H (.str x)
  | non : Th H .non
  | lst {a : Addr} {xs : List V} (h : H a = some (.lst xs)) : Th H (.ref a)
  | tup {a : Addr} {xs : List V} (h : H a = some (.tup xs)) : Th H (.ref a)
  | dct {a : Addr} {kvs : List (Key × V)} (h : H a = some (.dK kvs)) : Th H (.ref a)
theorem Th.same {H H' : Hp} {x : V} (t : Th H x) (s : Same H H') : Th H' x := by
  cases t with
  | int i => exact .int i
  | bl b => exact .bl b
  | str x => exact .str x
  | non => exact .non
  | lst h => exact .lst (s _ _ h)
  | tup h => exact .tup (s _ _ h)
  | dct h => exact .dct (s _ _ h)
theorem Th.updN {H : Hp} {x : V} {l : Addr} {o : HO} (t : Th H x) (n : x ≠ .ref l) : Th (upd H l o) x := by
  cases t with
  | int i => exact .int i
  | bl b => exact .bl b
  | str x => exact .str x
  | non => exact .non
  | lst h => exact .lst (by rw [upd_ne (fun z => n (by rw [z]))]; exact h)
  | tup h => exact .tup (by rw [upd_ne (fun z => n (by rw [z]))]; exact h)
  | dct h => exact .dct (by rw [upd_ne (fun z => n (by rw [z]))]; exact h)
theorem Th.exc {H H' : Hp} {x : V} {p : Addr} (t : Th H x) (s : SameX p H H') (hp : ∃ xs, H' p = some (.lst xs)) : Th H' x := by
  obtain ⟨ys, hp⟩ := hp
  cases t with
  | int i => exact .int i
  | bl b => exact .bl b
  | str x => exact .str x
  | non => exact .non
  | @lst a xs h =>
    by_cases e : a = p
    · rw [e]; exact .lst hp
    · exact .lst (s _ _ e h)
  | @tup a xs h =>
    by_cases e : a = p
    · rw [e]; exact .lst hp
    · exact .tup (s _ _ e h)
  | @dct a xs h =>
    by_cases e : a = p
    · rw [e]; exact .lst hp
    · exact .dct (s _ _ e h)
def isI : V → Bool
  | .int _ => true
  | _ => false
def btw (x : V) (lo hi : Int) : Bool := match x with
  | .int i => decide (lo ≤ i) && decide (i ≤ hi)
  | _ => false
theorem btw_not {x : V} {lo hi : Int} (h : isI x = false) : btw x lo hi = false := by
  cases x <;> first | rfl | cases h
theorem kit_str_int (K : PySem.W.Frag) : PySem.W.kitOne K (.type "str") (.type "int") = some false := by with_unfolding_all rfl
theorem kit_non_int (K : PySem.W.Frag) : PySem.W.kitOne K (.type "NoneType") (.type "int") = some false := by with_unfolding_all rfl
theorem kit_lst_int (K : PySem.W.Frag) : PySem.W.kitOne K (.type "list") (.type "int") = some false := by with_unfolding_all rfl
theorem kit_tup_int (K : PySem.W.Frag) : PySem.W.kitOne K (.type "tuple") (.type "int") = some false := by with_unfolding_all rfl
theorem kit_dct_int (K : PySem.W.Frag) : PySem.W.kitOne K (.type "dict") (.type "int") = some false := by with_unfolding_all rfl
def spWholeG : Sp := fun vs H Q _ => ∃ x : V, vs = [x] ∧ Th H x ∧ Q (.bl (isI x)) H
def spBtwG : Sp := fun vs H Q _ => ∃ (x : V) (lo hi : Int), vs = [x, .int lo, .int hi] ∧ Th H x ∧ Q (.bl (btw x lo hi)) H
def spWordG : Sp := fun vs H Q _ => ∃ (w : Int) (x : V), vs = [.int w, x] ∧ 4 ≤ w ∧ w ≤ 32 ∧ Th H x ∧ Q (.bl (btw x 0 (1 * 2 ^ w.toNat - 1))) H
/-- a list that grows, of things, beside a box -/
structure Tg (p l : Addr) (H0 H : Hp) (xs : List V) : Prop where
  at_ : H l = some (.lst xs)
  th : ∀ y ∈ xs, Th H y ∧ y ≠ .ref l
  sx : SameX p H0 H
  fr : H0 l = none
  np : l ≠ p
theorem Tg.push {p l : Addr} {H0 H : Hp} {xs : List V} (t : Tg p l H0 H xs) {y : V} (h : Th H y) (n : y ≠ .ref l) : Tg p l H0 (upd H l (.lst (xs ++ [y]))) (xs ++ [y]) :=
  ⟨upd_same, fun z hz => by
    rcases List.mem_append.mp hz with hz | hz
    · exact ⟨(t.th z hz).1.updN (t.th z hz).2, (t.th z hz).2⟩
    · rw [List.mem_singleton.mp hz]; exact ⟨h.updN n, n⟩, fun b o hb e => by rw [upd_ne (ne_of_none e t.fr)]; exact t.sx b o hb e, t.fr, t.np⟩
theorem Tg.exc {p l : Addr} {H0 H H' : Hp} {xs : List V} (t : Tg p l H0 H xs) (b : ∃ ys, H' p = some (.lst ys)) (x : SameX p H H') : Tg p l H0 H' xs :=
  ⟨x _ _ t.np t.at_, fun y hy => ⟨(t.th y hy).1.exc x b, (t.th y hy).2⟩, t.sx.trans x, t.fr, t.np⟩
theorem Tg.new {p l : Addr} {H0 H H' : Hp} {xs : List V} (t : Tg p l H0 H xs) (s : Same H H') : Tg p l H0 H' xs :=
  ⟨s _ _ t.at_, fun y hy => ⟨(t.th y hy).1.same s, (t.th y hy).2⟩, t.sx.trans (SameX.of s), t.fr, t.np⟩
end Ow
/-! ## A list comprehension with one test -/
namespace Ow
open PySem PySem.Spec PyProof.Rows L2
def tCompT (wi : TI) (tc : TT) (te : TE) (cap : L2.St → L2.St) : TE := fun σ H Q => wi σ H fun J H1 => ∀ D, H1 D = none → ∃ W : Nat → Nat → Hp → Prop, (∃ m, W 0 m (upd H1 D (.lst []))) ∧ ∀ i m H, W i m H →
  (J.stop i H ∧ Q (.ref D) H) ∨ (J.go i H ∧ ∀ x H', J.yld i H x H' → tc (some x :: cap σ) H' fun b HA => if b = true then te (some x :: cap σ) HA (fun y H2 => ∃ ys, H2 D = some (.lst ys) ∧ ys.length < sizeLine ∧ ∃ m', m' < m ∧ W (i + 1) m' (upd H2 D (.lst (ys ++ [y])))) else ∃ m', m' < m ∧ W (i + 1) m' HA)
section
variable {X : Cx} {elt iter cc : Expr} {x : Str} {px pos : Pos} {scope : Scope} {wi : TI} {tc : TT} {te : TE} {N : List Str} {cl : List (Str × Addr)} {cap : L2.St → L2.St}
end
end Ow
/-! ### list(range(a, b)) -/
namespace Ow
open PySem PySem.Spec PyProof.Rows L2
section
variable {X : Cx}
def fromTo (a b : Int) : List V := (List.range (b - a).toNat).map fun k : Nat => V.int (a + (k : Int))
def tRange2 (ta : TA) : TE := fun σ H Q => ta σ H fun vs H1 => ∃ i j : Int, vs = [.int i, .int j] ∧ ∀ p, H1 p = none → Q (.ref p) (upd H1 p (.rng i j))
end
end Ow
/-! ### a method called within a comprehension's block; isinstance of an own class -/
namespace Ow
open PySem PySem.Spec PyProof.Rows L2
def tMethQ (P : Program) (w : World) (K : PySem.W.Frag) (mg : Str → Option Value) (base : Heap) (k : Nat) (m : Str) (ta : TE) (t : TA) : TE := fun σ H Q => ta σ H fun x H1 => ∃ (a C dx : Addr) (fs : List (Str × V)) (ps : List Str) (sp : Sp), x = .ref a ∧ H1 a = some (.ins C dx fs) ∧ fs.lookup m = none ∧
  MHas P w K mg base k C m ps sp ∧ t σ H1 fun vs H2 => sp (x :: (vs ++ [])) H2 Q E0
theorem kit_of {K : PySem.W.Frag} {C D : Addr} (h1 : PySem.W.isClsIn K D = true) (h2 : PySem.W.typeIn K (.ref D) = some (.type "type")) (h3 : PySem.W.mroIn K C (.ref D) = some true) : PySem.W.kitOne K (.ref C) (.ref D) = some true := by
  unfold PySem.W.kitOne
  split
  · rfl
  · unfold PySem.W.kitCls
    have e : ((PySem.W.clsIn K D).isSome && PySem.W.typeIn K (.ref D) == some (.type "type")) = true := by
      rw [h2]
      have h1' : (PySem.W.clsIn K D).isSome = true := h1
      rw [h1', Bool.true_and]
      exact beq_self_eq_true _
    show (if ((PySem.W.clsIn K D).isSome && PySem.W.typeIn K (.ref D) == some (.type "type")) = true then PySem.W.subIn K (.ref C) (.ref D) else none) = _
    rw [if_pos e]
    exact h3
end Ow
/-! ## xs[i::k]: some of its items -/
namespace Ow
open PySem PySem.Spec PyProof.Rows L2
/-- the places of xs[i::k] -/
def stepIx (i k : Int) (n : Nat) : List Nat := sliceRange (sliceBounds (some i) none (some k) n).1 (sliceBounds (some i) none (some k) n).2.1 (sliceBounds (some i) none (some k) n).2.2
def stepV (xs : List V) (i k : Int) : List V := (stepIx i k xs.length).filterMap (xs[·]?)
def tStep (K : PySem.W.Frag) (te tl tk : TE) : TE := fun σ H Q => te σ H fun x H1 => tl σ H1 fun y H2 => tk σ H2 fun z H3 => ∃ a xs i k, x = .ref a ∧ y = .int i ∧ z = .int k ∧ 0 ≤ i ∧ 1 ≤ k ∧ SqL K H3 a xs ∧ ∀ p, H3 p = none → Q (.ref p) (upd H3 p (.lst (stepV xs i k)))
end Ow
/-! ## texts: slices, join, repeat, walked sign by sign, int(text); == of tuples, deep -/
namespace Ow
open PySem PySem.Spec PyProof.Rows L2
section
variable {X : Cx}
/-- sep.join(list of texts) -/
def rJoin (K : PySem.W.Frag) : V → List V → Hp → VK → Prop := fun x xs H Q => ∃ sep p ys, x = .str sep ∧ xs = [.ref p] ∧ SqL K H p (ys.map V.str) ∧ (ys.map (·.length)).sum + ys.length * sep.length ≤ 16777216 ∧ Q (.str (Txt.join sep ys)) H
end
/-- a text walked -/
def Its (z : Str) : It where
  go := fun i _ => i < z.cps.size
  yld := fun i H x H' => H' = H ∧ ∃ c, z.cps[i]? = some c ∧ x = .str ⟨#[c]⟩
  stop := fun i _ => z.cps.size ≤ i
def iStr (tl : TE) : TI := fun σ H R => tl σ H fun x H1 => ∃ z, x = .str z ∧ R (Its z) H1
/-- == of tuples, deep -/
def rEqTD (K : PySem.W.Frag) (d : Nat) (neg : Bool) : R2 := fun x y H Q => ∃ p q xs ys e, x = .ref p ∧ y = .ref q ∧ SqT K H p xs ∧ SqT K H q ys ∧ (∀ j, j < xs.length → j < ys.length → EqD K H d (xs.getD j .non) (ys.getD j .non) (e j)) ∧ Q (.bl (if neg = true then !((List.range (min xs.length ys.length)).all e && xs.length == ys.length) else ((List.range (min xs.length ys.length)).all e && xs.length == ys.length))) H
theorem op_eqTD {X : Cx} {d : Nat} (hu : X.A.units + d + 1 < cLine) : OpR X (compareOp .Eq) (rEqTD X.K d false) := by
  intro pins s σ H x y v u Q I rx ry h
  obtain ⟨p, q, xs, ys, e, rfl, rfl, hp, hq, he, k⟩ := h
  cases rx
  cases ry
  obtain ⟨its, r, pl, _⟩ := I.tuple hp
  obtain ⟨its2, r2, pl2, _⟩ := I.tuple hq
  have hl := r.length
  have hl2 := r2.length
  refine SeqAt.eq_tupleAt (e := e) pl pl2 (by omega) (fun j h1 h2 => ?_) ⟨.bl _, H, I, rfl, ?_⟩
  · have h1' : j < its.length := by simpa using h1
    have h2' : j < its2.length := by simpa using h2
    have z := (he j (by omega) (by omega)).at I (vals_at r h1') (vals_at r2 h2') (A := X.A.in1) (by show X.A.units + 1 + d < _; omega)
    simpa using z
  · simp only [List.size_toArray, ← hl, ← hl2]
    exact k
end Ow
/-! ## repr of things; == of a thing with itself, and with a text; list.index -/
namespace Ow
open PySem PySem.Spec PyProof.Rows L2
/-- what a thing is as data: flat things, lists and tuples of such -/
inductive RD (H : Hp) : V → PyData → Prop where
  | non : RD H .non .none
  | bl (b : Bool) : RD H (.bl b) (.bool b)
  | int (i : Int) : RD H (.int i) (.int i)
  | str (x : Str) : RD H (.str x) (.str x)
  | lst {a : Addr} {xs : List V} {ds : List PyData} (h : H a = some (.lst xs)) (hl : xs.length = ds.length) (hi : ∀ (i : Nat) x d, xs[i]? = some x → ds[i]? = some d → RD H x d) : RD H (.ref a) (.list ds)
  | tup {a : Addr} {xs : List V} {ds : List PyData} (h : H a = some (.tup xs)) (hl : xs.length = ds.length) (hi : ∀ (i : Nat) x d, xs[i]? = some x → ds[i]? = some d → RD H x d) : RD H (.ref a) (.tuple ds)
theorem RD.same {H H' : Hp} {x : V} {d : PyData} (r : RD H x d) (s : Same H H') : RD H' x d := by
  induction r with
  | non => exact .non
  | bl b => exact .bl b
  | int i => exact .int i
  | str x => exact .str x
  | lst h hl _ ih => exact .lst (s _ _ h) hl ih
  | tup h hl _ ih => exact .tup (s _ _ h) hl ih
theorem readsAll {h : Heap} : ∀ {xs : List V} {us : List Value} {ds : List PyData}, Vals xs us → xs.length = ds.length → (∀ (i : Nat) x d, xs[i]? = some x → ds[i]? = some d → ∀ u, RelV x u → ∃ as, Reads h u d as) → ∃ as, ReadsAll h us ds as
  | _, _, [], .nil, _, _ => ⟨_, .nil⟩
  | _, _, _ :: _, .nil, hl, _ => absurd hl (by simp)
  | _, _, [], .cons _ _, hl, _ => absurd hl (by simp)
  | _, _, d :: ds, .cons r rr, hl, hi => by
    obtain ⟨as, h1⟩ := hi 0 _ _ rfl rfl _ r
    obtain ⟨bs, h2⟩ := readsAll rr (by simpa using hl) fun i x d' e1 e2 => hi (i + 1) x d' (by simpa using e1) (by simpa using e2)
    exact ⟨_, .cons h1 h2⟩
theorem RD.reads {X : Cx} {pins : List (Addr × Obj)} {σ : L2.St} {H : Hp} {s : Shared} (I : Inv X pins σ H s) {x : V} {d : PyData} (r : RD H x d) : ∀ u, RelV x u → ∃ as, Reads s.heap u d as := by
  induction r with
  | non => intro u ru; cases ru; exact ⟨_, .none⟩
  | bl b => intro u ru; cases ru; exact ⟨_, .bool b⟩
  | int i => intro u ru; obtain ⟨t, rfl⟩ := ru; exact ⟨_, .int i t⟩
  | str x => intro u ru; obtain ⟨t, rfl⟩ := ru; exact ⟨_, .str x t⟩
  | @lst a xs ds h hl _ ih =>
    intro u ru
    cases (show u = Value.ref a from ru)
    obtain ⟨_, its, n, r, g⟩ := I.hok a _ h
    obtain ⟨as, q⟩ := readsAll r hl ih
    exact ⟨_, .list g rfl rfl q⟩
  | @tup a xs ds h hl _ ih =>
    intro u ru
    cases (show u = Value.ref a from ru)
    obtain ⟨_, its, r, o, g, c, n, e⟩ := I.hok a _ h
    obtain ⟨as, q⟩ := readsAll r hl ih
    exact ⟨_, .tuple g c e q⟩
/-- repr(x) -/
theorem call_repr {X : Cx} (hg : X.A.guards = some []) (hu : X.A.units + 64 < cLine) : CallR X (.builtin "repr") (fun xs H Q => ∃ x d, xs = [x] ∧ RD H x d ∧ d.showable = true ∧ d.hasDict = false ∧ d.depth ≤ 20 ∧ d.shown.length ≤ sizeLine ∧ Q (.str d.shown) H) := by
  intro pins s σ H xs us Q I r h
  obtain ⟨x, d, rfl, rd, sh, hd, dp, hz, q⟩ := h
  obtain ⟨u, rfl, ru⟩ := r.one
  have rr := rd.reads I u ru
  cases rd with
  | non => cases ru; exact P.repr_of_none ⟨.str _, H, I.tok _, ⟨_, rfl⟩, q⟩
  | bl b => cases ru; exact P.repr_of_bool ⟨.str _, H, I.tok _, ⟨_, rfl⟩, q⟩
  | int i => obtain ⟨t, rfl⟩ := ru; exact P.repr_of_int (by simpa [PyData.showable] using sh) ⟨.str _, H, I.tok _, ⟨_, rfl⟩, q⟩
  | str x => obtain ⟨t, rfl⟩ := ru; exact P.repr_of_str ⟨.str _, H, I.tok _, ⟨_, rfl⟩, q⟩ hz
  | @lst a xs ds h hl hi =>
    cases (show u = Value.ref a from ru)
    obtain ⟨as, q1⟩ := rr
    exact repr_of_reads' q1 sh (PyData.noDict_hsm hd) hg (by omega) (fun _ _ e => e) (fun h' u tk hk => ⟨.str _, H, I.kept (t' := tk) hk, ⟨_, rfl⟩, q⟩) hz
  | @tup a xs ds h hl hi =>
    cases (show u = Value.ref a from ru)
    obtain ⟨as, q1⟩ := rr
    exact repr_of_reads' q1 sh (PyData.noDict_hsm hd) hg (by omega) (fun _ _ e => e) (fun h' u tk hk => ⟨.str _, H, I.kept (t' := tk) hk, ⟨_, rfl⟩, q⟩) hz
end Ow
/-! ## == of any thing with a text and with itself; a dict's repr; dict display; list.index -/
namespace Ow
open PySem PySem.Spec PyProof.Rows L2
section
variable {prog : Program} {w : World} {K : Type} [DecidableEq K] {knd : KeyKind prog w K} {A : Around} {E : Value → Shared → Prop} {s : Shared}
end
section
variable {prog : Program} {w : World} {A : Around} {E : Value → Shared → Prop} {s : Shared}
end
section
variable {X : Cx}
theorem dk_at {pins : List (Addr × Obj)} {σ : L2.St} {H : Hp} {s : Shared} (I : Inv X pins σ H s) {a : Addr} {kvs : List (Key × V)} (e : H a = some (.dK kvs)) : kvs.length ≤ sizeLine ∧ (a == sysModules) = false ∧ ∃ vs, KV kvs vs ∧ s.heap.DictOf (mixKind X.prog X.w) a vs := I.hok a _ e
/-- == of any thing with a text -/
def rEqS : R2 := fun x y H Q => ∃ t, y = .str t ∧ Th H x ∧ Q (.bl (decide (x = .str t))) H
/-- == of a thing with itself -/
def Sm1 (H : Hp) (x : V) : Prop := ∀ a kvs, x = .ref a → H a = some (.dK kvs) → kvs.length ≤ 1
def rEqM : R2 := fun x y H Q => x = y ∧ Th H x ∧ Sm1 H x ∧ Q (.bl true) H
/-- repr of a dict with at most one pair, of flat things -/
def kD : Key → PyData
  | .inl i => .int i
  | .inr x => .str x
theorem keyReads {h : Heap} : ∀ (k : Key) (key : Value), (mixKind X.prog X.w).is k key = true → Reads h key (kD k) [] := by
  intro k key e
  rcases keyIs_shape e with ⟨i, t, rfl, rfl⟩ | ⟨x, t, rfl, rfl⟩
  · exact .int i t
  · exact .str x t
inductive FD : V → PyData → Prop where
  | non : FD .non .none
  | bl (b : Bool) : FD (.bl b) (.bool b)
  | int (i : Int) : FD (.int i) (.int i)
  | str (x : Str) : FD (.str x) (.str x)
theorem FD.reads {h : Heap} {x : V} {d : PyData} {u : Value} (f : FD x d) (r : RelV x u) : Reads h u d [] := by
  cases f with
  | non => cases r; exact .none
  | bl b => cases r; exact .bool b
  | int i => obtain ⟨t, rfl⟩ := r; exact .int i t
  | str i => obtain ⟨t, rfl⟩ := r; exact .str i t
inductive FDs : List (Key × V) → List (PyData × PyData) → Prop where
  | nil : FDs [] []
  | cons {k : Key} {v : V} {d : PyData} {kvs : List (Key × V)} {D : List (PyData × PyData)} : FD v d → FDs kvs D → FDs ((k, v) :: kvs) ((kD k, d) :: D)
theorem FDs.reads {h : Heap} {kvs : List (Key × V)} {D : List (PyData × PyData)} (f : FDs kvs D) : ∀ {vs : List (Key × Value)}, KV kvs vs → PyProof.V.PairsRead h kD vs D [] := by
  induction f with
  | nil => intro vs r; cases r; exact .nil
  | @cons k v d kvs D f _ ih =>
    intro vs r
    cases r with
    | @cons _ b _ bs h1 h2 =>
      obtain ⟨bk, bv⟩ := b
      obtain ⟨e1, e2⟩ := h1
      cases (show k = bk from e1)
      exact .cons (as := []) (bs := []) (f.reads e2) (ih h2)
theorem call_reprD (hg : X.A.guards = some []) (hu : X.A.units + 64 < cLine) : CallR X (.builtin "repr") (fun xs H Q => ∃ x d, xs = [x] ∧ (RD H x d ∧ d.hasDict = false ∨ ∃ a kvs D, x = .ref a ∧ H a = some (.dK kvs) ∧ FDs kvs D ∧ d = .dict D) ∧ d.showable = true ∧ d.depth ≤ 20 ∧ d.shown.length ≤ sizeLine ∧ Q (.str d.shown) H) := by
  intro pins s σ H xs us Q I r h
  obtain ⟨x, d, rfl, rd | ⟨a, kvs, D, rfl, e, f, rfl⟩, sh, dp, hz, q⟩ := h
  · exact call_repr hg hu pins s σ H [x] us Q I r ⟨x, d, rfl, rd.1, sh, rd.2, dp, hz, q⟩
  · obtain ⟨u, rfl, ru⟩ := r.one
    cases (show u = Value.ref a from ru)
    obtain ⟨_, hs, vs, r, dd⟩ := dk_at I e
    have rr := PyProof.V.reads_dictOf (enc := kD) keyReads dd (f.reads r)
    refine repr_of_reads' rr sh (fun _ hm => ?_) hg (by omega) (fun _ _ e => e) (fun h' u tk hk => ⟨.str _, H, I.kept (t' := tk) hk, ⟨_, rfl⟩, q⟩) hz
    cases List.mem_singleton.mp hm
    rw [beq_self_eq_true] at hs
    cases hs
/-- {k: v}, with a text as its key -/
def tDisp1 (tk tv : TE) : TE := fun σ H Q => ∀ p, H p = none → tk σ (upd H p (.dK [])) fun kx H1 => tv σ H1 fun y H2 => ∃ x, kx = .str x ∧ H2 p = some (.dK []) ∧ Q (.ref p) (upd H2 p (.dK [(.inr x, y)]))
/-- list.index of a text -/
def isT (t : Str) : Value → Bool
  | .str y _ => y == t
  | _ => false
end
theorem hu64 {A : Around} {k : Nat} (hr : Room k A) : A.units + 64 < cLine := by have := hr.un; omega
/-! the guide's rule for a list of arguments asks rfl to see that no item is starred; in a long display that takes minutes -/
def noStar : Expr → Bool
  | .Starred _ _ => false
  | _ => true
theorem star_cons {e : Expr} (h : noStar e = true) (rest : List Expr) (env : Env) : starEach (e :: rest) env = (false, eval e env) :: starEach rest env := by
  cases e <;> first | rfl | cases h
theorem pa_consN {X : Cx} {e : Expr} {es : List Expr} {te : TE} {t : TA} (ha : PE X e te) (hr : PA X es t) (hn : noStar e = true := by rfl) : PA X (e :: es) (tCons te t) := pa_cons ha hr (star_cons hn es X.env)
/-! a rule's goal unfolds into the run of the text; where that is long (a display of many things), the elaborator must not see through it -/
structure Sl (p : Prop) : Prop where
  out : p
section
variable {X : Cx}
theorem pss_consS {rest : List Stmt} {st : Stmt} {t u : TS} (h1 : Sl (PS X st t)) (h2 : PSs X rest u) : Sl (PSs X (st :: rest) (tSeq t u)) := ⟨pss_cons h1.out h2⟩
theorem ps_setS {i : Nat} {x : Str} {e : Expr} {te : TE} {pos pos' : Pos} (hN : X.N.Nodup) (hi : X.N[i]? = some x) (hx : Loc X.env.scope x) (he : Sl (PE X e te)) (hs : swapsWith e (some (.Name x pos')) pos.line X.env = pure false := by rfl) (hf : X.fn x = true ∨ X.env.scope.names.lookup x = some .local := by first | exact .inl rfl | exact .inr rfl | assumption) :
    Sl (PS X (.Assign [.Name x pos'] e pos) (tAsg te (gName i))) := ⟨ps_set hN hi hx he.out hs hf⟩
theorem pe_lstS {es : List Expr} {t : TA} {pos : Pos} (h : Sl (PA X es t)) : Sl (PE X (.List es pos) (tLst t)) := ⟨pe_lst h.out⟩
theorem pa_consS {e : Expr} {es : List Expr} {te : TE} {t : TA} (ha : PE X e te) (hr : Sl (PA X es t)) (hn : noStar e = true := by rfl) : Sl (PA X (e :: es) (tCons te t)) := ⟨pa_consN ha hr.out hn⟩
theorem pa_nilS : Sl (PA X [] tNil) := ⟨pa_nil⟩
end
end Ow
namespace L2
open PySem PySem.Spec PyProof.Rows

/-! ### lists of pairs as tables -/
section
variable {κ : Type} [DecidableEq κ]
def valV (kvs : List (κ × V)) (k : κ) : Option V := (kvs.find? fun kv => decide (kv.1 = k)).map (·.2)
/-- in its place, or at the end -/
def putK (kvs : List (κ × V)) (k : κ) (v : V) : List (κ × V) :=
  if (kvs.any fun kv => decide (kv.1 = k)) = true then kvs.map (fun kv => if kv.1 = k then (kv.1, v) else kv) else kvs ++ [(k, v)]
def dropK (kvs : List (κ × V)) (k : κ) : List (κ × V) := kvs.filter fun kv => decide (kv.1 ≠ k)

theorem valV_pos {p : κ × V} {r : List (κ × V)} {k : κ} (e : p.1 = k) : valV (p :: r) k = some p.2 := by simp [valV, List.find?_cons, e]
theorem valV_neg {p : κ × V} {r : List (κ × V)} {k : κ} (e : ¬ p.1 = k) : valV (p :: r) k = valV r k := by simp [valV, List.find?_cons, e]
theorem valV_any (k : κ) : ∀ kvs : List (κ × V), (kvs.any fun kv => decide (kv.1 = k)) = (valV kvs k).isSome
  | [] => rfl
  | p :: r => by
    rw [List.any_cons]
    by_cases e : p.1 = k
    · simp only [valV_pos e, decide_eq_true e, Bool.true_or, Option.isSome_some]
    · rw [valV_neg e, decide_eq_false e, Bool.false_or]; exact valV_any k r
theorem RelO.isSome_eq {o : Option V} {u : Option Value} (r : RelO o u) : o.isSome = u.isSome := by
  cases o with
  | none => cases u with
    | none => rfl
    | some _ => exact (show False from r).elim
  | some _ => cases u with
    | none => exact (show False from r).elim
    | some _ => rfl
theorem RelO.getD {o : Option V} {u : Option Value} {d : V} {d' : Value} (r : RelO o u) (rd : RelV d d') : RelV (o.getD d) (u.getD d') := by
  cases o with
  | none => cases u with
    | none => exact rd
    | some _ => exact (show False from r).elim
  | some _ => cases u with
    | none => exact (show False from r).elim
    | some _ => exact r

/-- raw tables of the same keys -/
theorem KV.val {kvs : List (κ × V)} {vs : List (κ × Value)} (r : KV kvs vs) (k : κ) : RelO (valV kvs k) (valueAt vs k) := by
  unfold KV at r
  induction r with
  | nil => exact True.intro
  | @cons p q ps qs h t ih =>
    obtain ⟨h1, h2⟩ := h
    by_cases e : p.1 = k
    · have e' : q.1 = k := h1.symm.trans e
      have b : valueAt (q :: qs) k = some q.2 := by simp [valueAt, List.find?_cons, e']
      rw [valV_pos e, b]; exact h2
    · have e' : ¬ q.1 = k := fun z => e (h1.trans z)
      have b : valueAt (q :: qs) k = valueAt qs k := by simp [valueAt, List.find?_cons, e']
      rw [valV_neg e, b]; exact ih
theorem KV.any {kvs : List (κ × V)} {vs : List (κ × Value)} (r : KV kvs vs) (k : κ) : (kvs.any fun kv => decide (kv.1 = k)) = vs.any fun kv => decide (kv.1 = k) := by
  unfold KV at r
  induction r with
  | nil => rfl
  | cons h t ih => rw [List.any_cons, List.any_cons, ih, h.1]
theorem KV.repl {kvs : List (κ × V)} {vs : List (κ × Value)} (r : KV kvs vs) (k : κ) {y : V} {u : Value} (ry : RelV y u) :
    KV (kvs.map fun kv => if kv.1 = k then (kv.1, y) else kv) (vs.map fun kv => if kv.1 = k then (kv.1, u) else kv) := by
  unfold KV at r ⊢
  induction r with
  | nil => exact .nil
  | @cons p q ps qs h t ih =>
    rw [List.map_cons, List.map_cons]
    refine .cons ?_ ih
    obtain ⟨h1, h2⟩ := h
    by_cases e : p.1 = k
    · rw [if_pos e, if_pos (h1.symm.trans e)]; exact ⟨h1, ry⟩
    · rw [if_neg e, if_neg (fun z => e (h1.trans z))]; exact ⟨h1, h2⟩
theorem KV.put {kvs : List (κ × V)} {vs : List (κ × Value)} (r : KV kvs vs) (k : κ) {y : V} {u : Value} (ry : RelV y u) : KV (putK kvs k y) (stored vs k u) := by
  unfold putK stored
  rw [r.any k]
  by_cases e : (vs.any fun kv => decide (kv.1 = k)) = true
  · rw [if_pos e, if_pos e]; exact r.repl k ry
  · rw [if_neg e, if_neg e]; exact Paired.snoc r ⟨rfl, ry⟩
theorem KV.drop {kvs : List (κ × V)} {vs : List (κ × Value)} (r : KV kvs vs) (k : κ) : KV (dropK kvs k) (without vs k) := by
  unfold KV at r ⊢
  unfold dropK without
  induction r with
  | nil => exact .nil
  | @cons p q ps qs h t ih =>
    obtain ⟨h1, h2⟩ := h
    rw [List.filter_cons, List.filter_cons]
    by_cases e : p.1 = k
    · have a : ¬ decide (p.1 ≠ k) = true := by simp [e]
      have b : ¬ decide (q.1 ≠ k) = true := by simp [h1.symm.trans e]
      rw [if_neg a, if_neg b]; exact ih
    · have e' : ¬ q.1 = k := fun z => e (h1.trans z)
      have a : decide (p.1 ≠ k) = true := by simp [e]
      have b : decide (q.1 ≠ k) = true := by simp [e']
      rw [if_pos a, if_pos b]; exact .cons ⟨h1, h2⟩ ih
theorem KV.keys {kvs : List (κ × V)} {vs : List (κ × Value)} (r : KV kvs vs) : kvs.map (·.1) = vs.map (·.1) := by
  unfold KV at r
  induction r with
  | nil => rfl
  | cons h t ih => rw [List.map_cons, List.map_cons, ih, h.1]
theorem KV.length {kvs : List (κ × V)} {vs : List (κ × Value)} (r : KV kvs vs) : kvs.length = vs.length := Paired.length r
end


/-! ### a tracked dict, its keys ints and texts or tuples of these -/
/-- raw entries of a dict with tuple keys -/
abbrev KT (H : Hp) : List (List Key × V) → List (List Key × Addr × Value) → Prop := Paired fun p q => p.1 = q.1 ∧ H q.2.1 = some (.tup (p.1.map kV)) ∧ RelV p.2 q.2.2
theorem KT.val {H : Hp} {kvs : List (List Key × V)} {xs : List (List Key × Addr × Value)} (r : KT H kvs xs) (k : List Key) : RelO (valV kvs k) ((atKey xs k).map (·.2)) := by
  induction r with
  | nil => exact True.intro
  | @cons p q ps qs h t ih =>
    obtain ⟨h1, _, h2⟩ := h
    by_cases e : p.1 = k
    · have e' : q.1 = k := h1.symm.trans e
      have b : atKey (q :: qs) k = some q.2 := by simp [atKey, List.find?_cons, e']
      rw [valV_pos e, b]; exact h2
    · have e' : ¬ q.1 = k := fun z => e (h1.trans z)
      have b : atKey (q :: qs) k = atKey qs k := by simp [atKey, List.find?_cons, e']
      rw [valV_neg e, b]; exact ih
theorem KT.repl {H : Hp} {kvs : List (List Key × V)} {xs : List (List Key × Addr × Value)} (r : KT H kvs xs) (k : List Key) {y : V} {u : Value} (ry : RelV y u) :
    KT H (kvs.map fun kv => if kv.1 = k then (kv.1, y) else kv) (xs.map (putAt k u)) := by
  induction r with
  | nil => exact .nil
  | @cons p q ps qs h t ih =>
    rw [List.map_cons, List.map_cons]
    refine .cons ?_ ih
    obtain ⟨h1, h2, h3⟩ := h
    unfold putAt
    by_cases e : p.1 = k
    · rw [if_pos e, if_pos (h1.symm.trans e)]; exact ⟨h1, h2, ry⟩
    · rw [if_neg e, if_neg (fun z => e (h1.trans z))]; exact ⟨h1, h2, h3⟩
theorem KT.put {H : Hp} {kvs : List (List Key × V)} {xs : List (List Key × Addr × Value)} (r : KT H kvs xs) (k : List Key) {b : Addr} {y : V} {u : Value} (hb : H b = some (.tup (k.map kV))) (ry : RelV y u) :
    KT H (putK kvs k y) (storedH xs k b u) := by
  have e : (kvs.any fun kv => decide (kv.1 = k)) = (atKey xs k).isSome := by
    rw [valV_any, (r.val k).isSome_eq, Option.isSome_map]
  unfold putK storedH
  rw [e]
  by_cases q : (atKey xs k).isSome = true
  · rw [if_pos q, if_pos q]; exact r.repl k ry
  · rw [if_neg q, if_neg q]; exact Paired.snoc r ⟨rfl, hb, ry⟩
theorem KT.keeps {H H' : Hp} {kvs : List (List Key × V)} {xs : List (List Key × Addr × Value)} (r : KT H kvs xs) (ht : ∀ b ys, H b = some (.tup ys) → H' b = some (.tup ys)) : KT H' kvs xs :=
  Paired.mapP r fun _ _ z => ⟨z.1, ht _ _ z.2.1, z.2.2⟩

section
variable {P : Program} {w : World} {H : Hp} {h : Heap} {a : Addr}
end

/-- what the dict at a holds at the key y -/
def DGet (H : Hp) (a : Addr) (y : V) (r : Option V) : Prop :=
  (∃ kvs k, Rd H a (.dK kvs) ∧ y = kV k ∧ r = valV kvs k) ∨ ∃ kvs k b, Rd H a (.dT kvs) ∧ y = .ref b ∧ H b = some (.tup (k.map kV)) ∧ r = valV kvs k
/-- the heap behind a[y] = v -/
def DPut (H : Hp) (a : Addr) (y v : V) (H' : Hp) : Prop :=
  (∃ kvs k, H a = some (.dK kvs) ∧ y = kV k ∧ kvs.length < sizeLine ∧ H' = upd H a (.dK (putK kvs k v))) ∨
  ∃ kvs k b, H a = some (.dT kvs) ∧ y = .ref b ∧ H b = some (.tup (k.map kV)) ∧ kvs.length < sizeLine ∧ H' = upd H a (.dT (putK kvs k v))
theorem DGet.k {H : Hp} {a : Addr} {kvs : List (Key × V)} {k : Key} (e : H a = some (.dK kvs)) : DGet H a (kV k) (valV kvs k) := .inl ⟨kvs, k, .inl e, rfl, rfl⟩
theorem DGet.t {H : Hp} {a b : Addr} {kvs : List (List Key × V)} {k : List Key} (e : H a = some (.dT kvs)) (eb : H b = some (.tup (k.map kV))) : DGet H a (.ref b) (valV kvs k) := .inr ⟨kvs, k, b, .inl e, rfl, eb, rfl⟩
theorem DPut.k {H : Hp} {a : Addr} {kvs : List (Key × V)} {k : Key} {v : V} (e : H a = some (.dK kvs)) (hl : kvs.length < sizeLine) : DPut H a (kV k) v (upd H a (.dK (putK kvs k v))) := .inl ⟨kvs, k, e, rfl, hl, rfl⟩
theorem DPut.t {H : Hp} {a b : Addr} {kvs : List (List Key × V)} {k : List Key} {v : V} (e : H a = some (.dT kvs)) (eb : H b = some (.tup (k.map kV))) (hl : kvs.length < sizeLine) :
    DPut H a (.ref b) v (upd H a (.dT (putK kvs k v))) := .inr ⟨kvs, k, b, e, rfl, eb, hl, rfl⟩


section
variable {X : Cx} {pins : List (Addr × Obj)} {σ : St} {H : Hp} {s : Shared} {a : Addr} {y v : V} {u r : Value} {o : Option V} {A : Around} {E : Value → Shared → Prop}

theorem Inv.big (I : Inv X pins σ H s) : sysModules < s.heap.objs.size := by
  have h : mainGlobals < s.heap.objs.size := (I.mod.glob.keeps I.bk).lt
  exact Nat.lt_trans (by decide) h

end

section
variable {X : Cx} {pins : List (Addr × Obj)} {σ : St} {H : Hp} {s : Shared} {a : Addr} {kvs : List (Key × V)} {k : Key} {u : Value} {A : Around} {E : Value → Shared → Prop}
end


/-! ### readings and rules -/
/-- the element of a subscription, not a slice -/
def NoSl (i : Expr) : Prop := ∀ ov iv, subscripted i false ov iv = operate [ov, iv] (getItem ov iv)
/-- d[y] -/
def tDGet (td ty : TE) : TE := fun σ H Q => td σ H fun x H1 => ty σ H1 fun y H2 => ∃ a v, x = .ref a ∧ DGet H2 a y (some v) ∧ Q v H2
/-- y in d, y not in d -/
def tDIn (ty td : TE) : TE := fun σ H Q => ty σ H fun y H1 => td σ H1 fun x H2 => ∃ a o, x = .ref a ∧ DGet H2 a y o ∧ Q (.bl o.isSome) H2
def tDNotIn (ty td : TE) : TE := fun σ H Q => ty σ H fun y H1 => td σ H1 fun x H2 => ∃ a o, x = .ref a ∧ DGet H2 a y o ∧ Q (.bl (!o.isSome)) H2
/-- d[y] = v -/
def sDPut (td ty tv : TE) : TS := fun D σ H => tv σ H fun v H1 => td σ H1 fun x H2 => ty σ H2 fun y H3 => ∃ a H4, x = .ref a ∧ DPut H3 a y v H4 ∧ D.nx σ H4
/-- d[y] op= v -/
def sDAug (td ty tv : TE) (rd : V → V → Hp → VK → Prop) : TS := fun D σ H => td σ H fun x H1 => ty σ H1 fun y H2 => ∃ a v, x = .ref a ∧ DGet H2 a y (some v) ∧
  tv σ H2 fun y2 H3 => rd v y2 H3 fun z H4 => ∃ H5, DPut H4 a y z H5 ∧ D.nx σ H5
/-- del d[y] -/
def sDDel (td ty : TE) : TS := fun D σ H => td σ H fun x H1 => ty σ H1 fun y H2 => ∃ a kvs k, x = .ref a ∧ H2 a = some (.dK kvs) ∧ y = kV k ∧ (valV kvs k).isSome = true ∧ D.nx σ (upd H2 a (.dK (dropK kvs k)))

section
variable {X : Cx} {o i e value : Expr} {pos pos' tpos : Pos} {td ty tv : TE}
end


/-! ### displays -/
theorem dk_empty {P : Program} {w : World} {H : Hp} (h : Heap) (hb : sysModules < h.objs.size) : ObjOk P w H (h.push { cls := .type "dict", data := .dict #[] }) h.objs.size (.dK []) :=
  ⟨Nat.zero_le _, beq_eq_false_iff_ne.mpr (Ne.symm (Nat.ne_of_lt hb)), [], .nil, Heap.DictOf.new h⟩
/-- {}, to be a dict of the kind that is wanted -/
def tDNewK : TE := fun _ H Q => ∀ p, H p = none → Q (.ref p) (upd H p (.dK []))
def tDNewT : TE := fun _ H Q => ∀ p, H p = none → Q (.ref p) (upd H p (.dT []))
section
variable {X : Cx} {pos : Pos}
theorem pe_dnewK : PE X (.Dict [] [] pos) tDNewK := fun pins s σ H Q I h =>
  wpAny_Dict_empty ⟨.ref s.heap.objs.size, _, I.laid (a := s.heap.objs.size) (o := .dK []) (t' := s.toks) (fun _ _ q => Heap.get?_push_of_some _ q) (Nat.le_refl _) (dk_empty s.heap I.big), rfl, h _ (I.hok.fresh (Nat.le_refl _))⟩
end

/-- the pairs of a display, from the left -/
def tPairs : List (TE × TE) → St → Hp → (List (V × V) → Hp → Prop) → Prop
  | [], _, H, Q => Q [] H
  | (tk, tv) :: r, σ, H, Q => tk σ H fun x H1 => tv σ H1 fun y H2 => tPairs r σ H2 fun ps H3 => Q ((x, y) :: ps) H3
abbrev VV : List (V × V) → List (Value × Value) → Prop := Paired fun p q => RelV p.1 q.1 ∧ RelV p.2 q.2
def PPs (X : Cx) (pos : Pos) (keys : List (Option Expr)) (values : List Expr) (trs : List (TE × TE)) : Prop :=
  ∀ (pins : List (Addr × Obj)) (s : Shared) (σ : St) (H : Hp) (Q : List (V × V) → Hp → Prop), Inv X pins σ H s → tPairs trs σ H Q →
    wpAny (model X.prog X.w) X.A (evalPairs (pairTrees keys values X.env pos)) (fun vs s' => ∃ ps H', Inv X pins σ H' s' ∧ VV ps vs ∧ Q ps H') X.xe s
def mergeK (kvs more : List (Key × V)) : List (Key × V) := more.foldl (fun acc kv => putK acc kv.1 kv.2) kvs
/-- {k: v, ..} with keys ints and texts; the new dict stands empty while the pairs are made -/
def tDisp (trs : List (TE × TE)) : TE := fun σ H Q => ∀ p, H p = none → tPairs trs σ (upd H p (.dK [])) fun ps H2 => H2 p = some (.dK []) ∧ ∃ kvs : List (Key × V), ps = kvs.map (fun kv => (kV kv.1, kv.2)) ∧ kvs.length ≤ 15 ∧ Q (.ref p) (upd H2 p (.dK (mergeK [] kvs)))
/-! ### methods -/
/-- a method call o.m(e) of a built-in, with one argument: what must be seen of the text -/
structure M1 (X : Cx) (o : Expr) (m : Str) (apos : Pos) (e : Expr) (cpos : Pos) : Prop where
  base : attributeBase o m X.env (eval o X.env) = eval o X.env
  few : ((backTo cpos (starEach [e] X.env)).all (fun x => !x.1) && (backToKw cpos (keywordEach [] X.env)).all (fun x => x.1.isSome)
    && decide (([e] : List Expr).length + ([] : List Keyword).length + (if ([] : List Keyword).isEmpty then 0 else 1) < 30)) = true
  line : (apos.endLine == cpos.line) = true
  trees : backTo cpos (starEach [e] X.env) = [(false, eval e X.env)]
structure M2 (X : Cx) (o : Expr) (m : Str) (apos : Pos) (e f : Expr) (cpos : Pos) : Prop where
  base : attributeBase o m X.env (eval o X.env) = eval o X.env
  few : ((backTo cpos (starEach [e, f] X.env)).all (fun x => !x.1) && (backToKw cpos (keywordEach [] X.env)).all (fun x => x.1.isSome)
    && decide (([e, f] : List Expr).length + ([] : List Keyword).length + (if ([] : List Keyword).isEmpty then 0 else 1) < 30)) = true
  line : (apos.endLine == cpos.line) = true
  trees : backTo cpos (starEach [e, f] X.env) = [(false, eval e X.env), (false, eval f X.env)]

/-- a is a dict, whatever its keys -/
def IsD (H : Hp) (a : Addr) : Prop := (∃ kvs, Rd H a (.dK kvs)) ∨ ∃ kvs, Rd H a (.dT kvs)
section
variable {X : Cx} {pins : List (Addr × Obj)} {σ : St} {H : Hp} {s : Shared} {a : Addr} {y d : V} {u r : Value} {o : Option V} {A : Around} {E : Value → Shared → Prop}
end

def tDGet1 (td ty : TE) : TE := fun σ H Q => td σ H fun x H1 => ∃ a, x = .ref a ∧ IsD H1 a ∧ ty σ H1 fun y H2 => ∃ o, DGet H2 a y o ∧ Q (o.getD .non) H2
def tDGet2 (td ty tx : TE) : TE := fun σ H Q => td σ H fun x H1 => ∃ a, x = .ref a ∧ IsD H1 a ∧ ty σ H1 fun y H2 => tx σ H2 fun z H3 => ∃ o, DGet H3 a y o ∧ Q (o.getD z) H3
/-- d.pop(k): there; d.pop(k, x): there or not -/
def tDPop1 (td ty : TE) : TE := fun σ H Q => td σ H fun x H1 => ∃ a, x = .ref a ∧ IsD H1 a ∧ ty σ H1 fun y H2 => ∃ kvs k v, H2 a = some (.dK kvs) ∧ y = kV k ∧ valV kvs k = some v ∧ Q v (upd H2 a (.dK (dropK kvs k)))
def tDPop2 (td ty tx : TE) : TE := fun σ H Q => td σ H fun x H1 => ∃ a, x = .ref a ∧ IsD H1 a ∧ ty σ H1 fun y H2 => tx σ H2 fun z H3 => ∃ kvs k, H3 a = some (.dK kvs) ∧ y = kV k ∧
  (∀ v, valV kvs k = some v → Q v (upd H3 a (.dK (dropK kvs k)))) ∧ (valV kvs k = none → Q z H3)
section
variable {X : Cx} {o e f : Expr} {apos cpos : Pos} {td ty tx : TE}
end

/-! ### dict(d): a copy -/
section
variable {X : Cx} {pins : List (Addr × Obj)} {σ : St} {H : Hp} {s : Shared} {a : Addr} {kvs : List (Key × V)} {A : Around} {E : Value → Shared → Prop}
end


section
variable {X : Cx} {pins : List (Addr × Obj)} {σ : St} {H : Hp} {s : Shared} {a : Addr} {y : V} {u : Value} {A : Around} {E : Value → Shared → Prop}
end
end L2
namespace L2
open PySem PySem.Spec PyProof.Rows
/-! ### a dict's pairs: keys that differ -/
section
variable {κ : Type} [DecidableEq κ]
end
end L2
/-! ## dicts walked; sum, split, str -/
namespace Ow
open PySem PySem.Spec PyProof.Rows L2
section
variable {X : Cx} {pins : List (Addr × Obj)} {σ : L2.St} {H : Hp} {s : Shared}
end
/-- the keys of the dict at a -/
def Itk (a : Addr) (o : Obj) (kvs : List (Key × V)) : It :=
  ⟨fun i H => H a = some (.frz o (.dK kvs)) ∧ i < kvs.length, fun i H x H' => H' = H ∧ ∃ kv, kvs[i]? = some kv ∧ x = kV kv.1, fun i H => H a = some (.frz o (.dK kvs)) ∧ i = kvs.length⟩
section
variable {X : Cx} {tg : Expr}
def iDict (tl : TE) : TI := fun σ H R => tl σ H fun x H1 => ∃ a kvs, x = .ref a ∧ H1 a = some (.dK kvs) ∧ ∀ o, R (Itk a o kvs) (upd H1 a (.frz o (.dK kvs)))
/-- behind a walk the dict may change again -/
def tThaw (H₀ : Hp) (te : TE) : TE := fun σ H Q => te σ H fun v H1 => ∃ a o kvs, H1 a = some (.frz o (.dK kvs)) ∧ (∀ o u, H₀ a ≠ some (.frz o u)) ∧ Q v (upd H1 a (.dK kvs))
def sThaw (H₀ : Hp) (ts : TS) : TS := fun D σ H => ts { D with nx := fun σ' H1 => ∃ a o kvs, H1 a = some (.frz o (.dK kvs)) ∧ (∀ o u, H₀ a ≠ some (.frz o u)) ∧ D.nx σ' (upd H1 a (.dK kvs)) } σ H
end
theorem FDs.flat {kvs : List (Key × V)} {D : List (PyData × PyData)} (f : FDs kvs D) : ∀ {vs : List (Key × Value)}, KV kvs vs → PyProof.V.FlatPairs kD vs D := by
  induction f with
  | nil => intro vs r; cases r; exact .nil
  | cons a _ ih =>
    intro vs r
    cases r with
    | cons h1 h2 =>
      rename_i y ys
      obtain ⟨k', u⟩ := y
      obtain ⟨e, ru⟩ := h1
      cases (show _ = k' from e)
      exact .cons (fun h => a.reads ru) (ih h2)
theorem FDs.len {kvs : List (Key × V)} {D : List (PyData × PyData)} (f : FDs kvs D) : D.length = kvs.length := by
  induction f with
  | nil => rfl
  | cons _ _ ih => rw [List.length_cons, List.length_cons, ih]
/-! ### a dict of the module: texts to things of the module -/
structure GD (K : PySem.W.Frag) (P : Program) (w : World) (a : Addr) (vs : List (Key × Value)) : Prop where
  ex : ∃ o es ep, K.lookup a = some o ∧ o.ExactDict ∧ o.data = .dict es ep ∧ PySem.KeysOf (mixKind P w) es ∧ Pairs (mixKind P w) es.toList vs ∧ (vs.map (·.1)).Nodup
def gEnt (p : Params) (x : Str × Tok × Addr) : DictEntry := ⟨PyData.keyHash p x.1, .str x.1 x.2.1, .ref x.2.2⟩
def gVal (x : Str × Tok × Addr) : Key × Value := (.inr x.1, .ref x.2.2)
def tGD (a : Addr) (vs : List (Key × Value)) (tO ti : TE) : TE := fun σ H Q => tO σ H fun x H1 => ti σ H1 fun y H2 => ∃ k b, x = .ref a ∧ y = .str k ∧ valueAt vs (.inr k) = some (.ref b) ∧ Q (.ref b) H2
/-! ### sealed displays of dicts -/
section
variable {X : Cx}
end
/-- != of tuples, deep -/
theorem op_neTD {X : Cx} {d : Nat} (hu : X.A.units + d + 1 < cLine) : OpR X (compareOp .NotEq) (rEqTD X.K d true) := by
  intro pins s σ H x y v u Q I rx ry h
  obtain ⟨p, q, xs, ys, e, rfl, rfl, hp, hq, he, k⟩ := h
  cases rx
  cases ry
  obtain ⟨its, r, pl, _⟩ := I.tuple hp
  obtain ⟨its2, r2, pl2, _⟩ := I.tuple hq
  have hl := r.length
  have hl2 := r2.length
  refine SeqAt.RcNeAt.tuples (e := e) pl pl2 (by omega) (fun j h1 h2 => ?_) X.prog X.w X.xe _ ⟨.bl _, H, I, rfl, ?_⟩
  · have h1' : j < its.length := by simpa using h1
    have h2' : j < its2.length := by simpa using h2
    have z := (he j (by omega) (by omega)).at I (vals_at r h1') (vals_at r2 h2') (A := X.A.in1) (by show X.A.units + 1 + d < _; omega)
    simpa using z
  · simp only [List.size_toArray, ← hl, ← hl2]
    exact k
/-- out of the seal -/
theorem slO {p : Prop} (h : Sl p) : p := h.out
end Ow
/-! ## defs that are called, and exceptions that are raised, while another exception is being handled -/
namespace Ow
open PySem PySem.Spec PyProof.Rows L2
theorem entry_unchain : entryFor table "proto.unchain" = some Builtin.«proto.unchain» := by kernel_rfl
/-- a new exception, another one being handled: that one stands behind it -/
theorem raiseNew_some {P : Program} {w : World} {A : Around} {E : Value → Shared → Prop} {s : Shared} {α : Type} {Q : α → Shared → Prop} {e a : Addr} {o oe : Obj} {vs : Array Value} (hh : A.handled = some (.ref a)) (ga : s.heap.get? a = some o) (c0 : Ctx0 o) (ge : s.heap.get? e = some oe) (de : oe.data = .fields vs) (z : 2 < vs.size) (ne : a ≠ e)
    (k : E (.ref e) { s with heap := s.heap.update e (Obj.mapFields (·.setIfInBounds 2 (.ref a))) }) : wpAny (model P w) A (raiseNew (α := α) (.ref e)) Q E s := by
  obtain ⟨ws, dw, hw⟩ := c0
  obtain ⟨hp, g, d, tk, os⟩ := s
  unfold raiseNew
  refine wpAny_bind (wpAny_handled ?_)
  rw [hh]
  dsimp only
  rw [if_pos (by
    rw [bne_iff_ne]
    intro z
    injection z with z
    exact ne z)]
  refine wpAny_bind (wpAny_holding (wpAny_runValue (codeAny_builtin entry_unchain ?_)))
  show wpAny _ _ (field (.ref a) 2 >>= _) _ _ _
  refine wpAny_bind (wpAny_field ga dw hw ?_)
  rw [if_pos (by decide)]
  refine wpAny_pure ?_
  show wpAny _ _ (updateField e 2 (.ref a) >>= _) _ _ _
  unfold updateField
  refine wpAny_bind (wpAny_bind (wpAny_load ge ?_))
  rw [de]
  dsimp only
  rw [if_pos z]
  exact wpAny_update' ge (wpAny_throw k)
end Ow
namespace Ow
open PySem PySem.Spec PyProof.Rows L2
def calmA (A : Around) : Around := { A with handled := none }
/-- is no exception being handled -/
def hn (A : Around) : Bool := A.handled.isNone
theorem hn_none {A : Around} (h : A.handled = none) : hn A = true := by
  unfold hn
  rw [h]
  rfl
theorem room_calm {k : Nat} {A : Around} (r : Room k A) : Room k (calmA A) := ⟨rfl, r.dp, r.un, r.gd⟩
/-- the exception that is being handled, if one is: it lies there, with nothing behind it -/
def HdOk (A : Around) (h : Heap) (H : Hp) (fs : List Addr) : Prop := A.handled = none ∨ ∃ (a : Addr) (o : Obj), A.handled = some (.ref a) ∧ h.get? a = some o ∧ Ctx0 o ∧ H a = none ∧ a ∉ fs
/-- a def that keeps its promise also while an exception is being handled; r: it may raise -/
structure FnOkR (P : Program) (w : World) (K : PySem.W.Frag) (mg : Str → Option Value) (base : Heap) (CX : Bool → CXT) (r : Bool) (k : Nat) (f : Addr) (fd : FuncData) (ps : List Str) (sp : Sp) : Prop where
  len : ∀ vs H Q E, sp vs H Q E → vs.length = ps.length
  run : ∀ (A : Around) (outer : List Env) (s : Shared) (H : Hp) (args : Args) (us : List Value) (vs : List V) (Q : VK) (E : XK), Room k (calmA A) → (r = true → HdOk A s.heap H (frs outer)) → Env0 P w K mg base A outer s H → BindsTo s fd args (ps.zip us) → Vals vs us → sp vs H Q E →
    codeAny (model P w) A (.call (.ref f) args) (CR (CX (hn A)) outer P w H s Q E) s
theorem FnOkR.mono {P : Program} {w : World} {K : PySem.W.Frag} {mg : Str → Option Value} {base : Heap} {CX : Bool → CXT} {r : Bool} {j k : Nat} {f : Addr} {fd : FuncData} {ps : List Str} {sp : Sp} (F : FnOkR P w K mg base CX r j f fd ps sp) (h : j ≤ k) :
    FnOkR P w K mg base CX r k f fd ps sp := ⟨F.len, fun A outer s H args us vs Q E hr => F.run A outer s H args us vs Q E (hr.mono h)⟩
/-- where no exception is being handled it is a def like any other -/
theorem FnOkR.ok {P : Program} {w : World} {K : PySem.W.Frag} {mg : Str → Option Value} {base : Heap} {CX : Bool → CXT} {r : Bool} {k : Nat} {f : Addr} {fd : FuncData} {ps : List Str} {sp : Sp} (F : FnOkR P w K mg base CX r k f fd ps sp) : FnOk P w K mg base (CX true) k f fd ps sp :=
  ⟨F.len, fun A outer s H args us vs Q E hr e0 hb rv h => by
    have z := F.run A outer s H args us vs Q E (room_calm hr) (fun _ => .inl hr.hd) e0 hb rv h
    rw [hn_none hr.hd] at z
    exact z⟩
/-- the context of such a def's body -/
def cxR (CX : Bool → CXT) (P : Program) (w : World) (K : PySem.W.Frag) (mg : Str → Option Value) (base : Heap) (N : List Str) (qual : Str) (scope : Scope) (f : Addr) (cd : Value) (A : Around) (outer : List Env) (s : Shared) (H : Hp) (E : XK) : Cx :=
  { cxOf (CX (hn A)) P w K mg base N qual scope f cd A outer s H E with calm := false }
theorem inv_startR {CX : Bool → CXT} {P : Program} {w : World} {K : PySem.W.Frag} {mg : Str → Option Value} {base : Heap} {N ps : List Str} {qual : Str} {scope : Scope} {f : Addr} {cd : Value} {A : Around} {outer : List Env} {s s1 : Shared} {H : Hp} {E : XK} {us : List Value} {vs : List V}
    (S : FnScope N ps scope) (e0 : Env0 P w K mg base A outer s H) (hl : vs.length = ps.length) (r : Vals vs us)
    (x : InCallC s s.heap.objs.size (bindL (envOfC qual scope s.heap.objs.size f cd).kindOf (ps.zip us) fun _ => none) (cellsFrom (s.heap.objs.size + 1) scope.names []) (bindC (envOfC qual scope s.heap.objs.size f cd).kindOf (ps.zip us) fun _ => none) s1) :
    Inv (cxR CX P w K mg base N qual scope f cd A outer s H E) [] (start N vs) H s1 := by
  have I : Inv (cxOf (CX (hn A)) P w K mg base N qual scope f cd (calmA A) outer s H E) [] (start N vs) H s1 := inv_start S rfl ⟨e0.frames, e0.mod, e0.bs, e0.bsz, e0.funs, e0.frf, e0.hok, e0.bare⟩ hl r x
  exact ⟨⟨I.ok.mod, I.ok.kind, I.ok.glob, I.ok.blt, I.ok.above, I.ok.inj, I.ok.has, I.ok.cab, (fun z => nomatch z), I.ok.frames, I.ok.stk, I.ok.exf, I.ok.bs, I.ok.bsz, I.ok.noex, I.ok.exfs, I.ok.funs, I.ok.frf⟩,
    I.os, I.bare, I.base, I.loc, I.cell, I.free, I.freeC, I.pin, I.hok, I.len⟩
/-- in every state of this context the exception that is being handled lies there -/
def HdX (X : Cx) : Prop := ∀ (pins : List (Addr × Obj)) (σ : L2.St) (H : Hp) (s : Shared), Inv X pins σ H s → HdOk X.A s.heap H (frs X.stack)
theorem hd_in {CX : Bool → CXT} {P : Program} {w : World} {K : PySem.W.Frag} {mg : Str → Option Value} {base : Heap} {N : List Str} {qual : Str} {scope : Scope} {f : Addr} {cd : Value} {A : Around} {outer : List Env} {s : Shared} {H : Hp} {E : XK}
    (h0 : HdOk A s.heap H (frs outer)) : HdX (cxR CX P w K mg base N qual scope f cd A outer s H E) := by
  intro pins σ H1 s1 I
  rcases h0 with h | ⟨a, o, e, g, c0, n, nf⟩
  · exact .inl h
  · have nx : a ∉ ([] : List Addr) := fun z => nomatch z
    refine .inr ⟨a, o, e, I.base.keep a o g n nf nx, c0, I.base.free a o g n nx, fun hm => ?_⟩
    rcases List.mem_cons.mp (I.stkSub a hm) with z | z
    · exact Nat.lt_irrefl _ (Nat.lt_of_lt_of_le (z ▸ Heap.lt_size g) I.ok.above)
    · exact nf z
/-- within the suite of an except: the caught one -/
theorem hd_caught {X : Cx} {a : Addr} {oe : Obj} (c0 : Ctx0 oe) (hst : X.stack = X.env :: X.outer) (hfr : X.env.frame = some X.env.locals) : HdX (caught X a oe) := by
  intro pins σ H s I
  obtain ⟨e, n, nl, nf, _⟩ := I.pin (a, oe) (List.mem_append_left _ (List.mem_cons_self ..))
  refine .inr ⟨a, oe, rfl, e, c0, n, fun hm => ?_⟩
  have hm' : a ∈ frs (X.env :: X.outer) := hst ▸ hm
  obtain ⟨en, he, hf⟩ := List.mem_filterMap.mp hm'
  rcases List.mem_cons.mp he with rfl | he
  · rw [hfr] at hf
    cases hf
    exact nl rfl
  · exact nf (List.mem_filterMap.mpr ⟨en, he, hf⟩)
theorem fn_ofR {CX : Bool → CXT} {r : Bool} {P : Program} {w : World} {K : PySem.W.Frag} {mg : Str → Option Value} {base : Heap} {k : Nat} {f : Addr} {name qual : Str} {params : Arguments} {body : List Stmt} {scope : Scope} {dV kV doc pm cdv ct oc : Value} {an od : Option Addr}
    {osl : Array (Option Value)} {N ps : List Str} {sp : Sp} (lk : K.lookup f = some ⟨oc, od, .func (PySem.W.fnOf name qual params body scope dV kV doc pm an cdv ct), osl⟩) (hcd : PySem.W.codeIn K cdv qual = true) (S : FnScope N ps scope)
    (len : ∀ vs H Q E, sp vs H Q E → vs.length = ps.length)
    (hbody : ∀ (A : Around) (outer : List Env) (s : Shared) (H : Hp) (vs : List V) (Q : VK) (E : XK), Room k (calmA (A.deeper (envOfC qual scope s.heap.objs.size f cdv))) → (r = true → HdOk A s.heap H (frs outer)) → sp vs H Q E →
      ∃ t, PSs (cxR CX P w K mg base N qual scope f cdv A outer s H E) body t ∧ t { nx := fun _ H' => Q .non H', rt := Q } (start N vs) H) :
    FnOkR P w K mg base CX r (k + 1) f (PySem.W.fnOf name qual params body scope dV kV doc pm an cdv ct) ps sp := by
  refine ⟨len, fun A outer s H args us vs Q E hr hh e0 hb r hsp => ?_⟩
  have hl := len _ _ _ _ hsp
  have KX : K.In s.heap := e0.mod.kin.keeps fun b o e => (e0.bs b o e).1
  have lim : s.heap.NoLimit := e0.mod.nolimit.keeps fun b o e => (e0.bs b o e).1
  have hkind : ∀ y ∈ ps.zip us, scope.names.lookup y.1 = some .local ∨ (scope.names.lookup y.1 = some .cell ∧ ((cellsFrom (s.heap.objs.size + 1) scope.names []).lookup y.1).isSome = true) := fun ⟨n, v⟩ hy => by
    rcases S.par n (List.of_mem_zip hy).1 with q | q
    · exact .inl q
    · exact .inr ⟨q, PySem.W.cellsFrom_some _ _ _ (.inl q)⟩
  refine codeAny_call_function (show A.depth < recursionLimit from hr.depth) (KX _ _ lk) rfl S.co S.gen rfl (PySem.W.codeRec_of KX hcd) (hb _ _ _ _ ?_)
  refine wpAny_newFunctionEnv_cells S.kind hkind fun env he s1 x => ?_
  subst he
  refine ⟨lim.keeps x.toInCall.keep, codeAny_func ?_⟩
  obtain ⟨t, ht, hq⟩ := hbody A outer s H vs Q E (hr.deeper _) hh hsp
  have I : Inv (cxR CX P w K mg base N qual scope f cdv A outer s H E) [] (start N vs) H s1 := inv_startR S e0 hl r x
  refine wpAny_mono (ht [] s1 (start N vs) H _ I hq) (fun fl s' hs => ?_) fun e s' hs => hs
  have fin : ∀ {σ' : L2.St} {H' : Hp} {v : V} {u : Value}, Inv (cxR CX P w K mg base N qual scope f cdv A outer s H E) [] σ' H' s' → RelV v u → Q v H' → CE outer P w H s Q u s' :=
    fun {σ' H' v u} J rv q => ⟨v, H', J.os, J.bare, J.base, J.hok, rv, q⟩
  cases fl with
  | ret u =>
    obtain ⟨v, σ', H', J, rv, q⟩ := hs
    exact fin J rv q
  | next =>
    obtain ⟨σ', H', J, q⟩ := hs
    exact fin (v := V.non) (u := Value.none) J rfl q
  | brk =>
    obtain ⟨_, _, _, q⟩ := hs
    exact False.elim q
  | cont =>
    obtain ⟨_, _, _, q⟩ := hs
    exact False.elim q
section
variable {P : Program} {w : World} {K : PySem.W.Frag} {mg : Str → Option Value} {base : Heap}
/-- a def that may raise -/
theorem Fun.okR {CX : Bool → CXT} {r : Bool} {x qual : Str} {st : Stmt} {f : Addr} {fd : FuncData} {N ps : List Str} {k : Nat} {sp : Sp} (F : Fun K x qual st f fd) (S : FnScope N ps (defScope st)) (len : ∀ vs H Q E, sp vs H Q E → vs.length = ps.length)
    (hbody : ∀ (cdv : Value) (A : Around) (outer : List Env) (s : Shared) (H : Hp) (vs : List V) (Q : VK) (E : XK), Room k (calmA (A.deeper (envOfC qual (defScope st) s.heap.objs.size f cdv))) → (r = true → HdOk A s.heap H (frs outer)) → sp vs H Q E →
      ∃ t, PSs (cxR CX P w K mg base N qual (defScope st) f cdv A outer s H E) (defBody st) t ∧ t { nx := fun _ H' => Q .non H', rt := Q } (start N vs) H) : FnOkR P w K mg base CX r (k + 1) f fd ps sp := by
  obtain ⟨oc, od, kV, doc, pm, an, cdv, ct, osl, e1, lk, hcd⟩ := F.ex
  subst e1
  exact fn_ofR lk hcd S len fun A outer s H vs Q E hr hh hsp => hbody cdv A outer s H vs Q E hr hh hsp
/-- a def that does not raise -/
theorem Fun.okR0 {r : Bool} {x qual : Str} {st : Stmt} {f : Addr} {fd : FuncData} {N ps : List Str} {k : Nat} {sp : Sp} (F : Fun K x qual st f fd) (S : FnScope N ps (defScope st)) (len : ∀ vs H Q E, sp vs H Q E → vs.length = ps.length)
    (hbody : ∀ (cdv : Value) (A : Around) (outer : List Env) (s : Shared) (H : Hp) (vs : List V) (Q : VK) (E : XK), Room k (calmA (A.deeper (envOfC qual (defScope st) s.heap.objs.size f cdv))) → (r = true → HdOk A s.heap H (frs outer)) → sp vs H Q E →
      ∃ t, PSs (cxR (fun _ => CX0) P w K mg base N qual (defScope st) f cdv A outer s H E).nox (defBody st) t ∧ t { nx := fun _ H' => Q .non H', rt := Q } (start N vs) H) : FnOkR P w K mg base (fun _ => CX0) r (k + 1) f fd ps sp :=
  Fun.okR F S len fun cdv A outer s H vs Q E hr hh hsp => by
    obtain ⟨t, h, q⟩ := hbody cdv A outer s H vs Q E hr hh hsp
    exact ⟨t, h.nox, q⟩
end
/-- what a callee raises, this context wants: the wish may lean on the names' values -/
def PassAt (CX : CXT) (X : Cx) (E : L2.St → XK) : Prop := ∀ (pins : List (Addr × Obj)) (σ : L2.St) (H : Hp) (s : Shared) (e : Value) (s' : Shared), Inv X pins σ H s → CX X.stack H s (E σ) e s' → X.xe e s'
theorem pat0 {X : Cx} : PassAt CX0 X (fun _ => E0) := fun _ _ _ _ _ _ _ h => h.elim
theorem patN {X : Cx} {c : Bool} {P : Program} {w : World} {base : Heap} : PassAt (CX2c c P w base) X (fun _ => E0) := fun _ _ _ _ _ _ _ hq => by
  obtain ⟨_, _, _, _, _, _, _, _, _, _, _, _, _, _, hw⟩ := hq
  exact hw.elim
structure HasR (P : Program) (w : World) (K : PySem.W.Frag) (mg : Str → Option Value) (base : Heap) (CX : Bool → CXT) (r : Bool) (k : Nat) (x : Str) (ps : List Str) (sp : Sp) : Prop where
  ex : ∃ (f : Addr) (fd : FuncData), FnOkR P w K mg base CX r k f fd ps sp ∧ Binds K fd ps [] ∧ PySem.W.keepIn K (.ref f) = true ∧ mg x = some (.ref f)
structure MHasR (P : Program) (w : World) (K : PySem.W.Frag) (mg : Str → Option Value) (base : Heap) (CX : Bool → CXT) (r : Bool) (k : Nat) (C : Addr) (m : Str) (ps : List Str) (sp : Sp) : Prop where
  cl : Cls K C
  ex : ∃ (f : Addr) (fd : FuncData), Meth K C m f ∧ FnOkR P w K mg base CX r k f fd ps sp ∧ Binds K fd ps []
structure CHasR (P : Program) (w : World) (K : PySem.W.Frag) (mg : Str → Option Value) (base : Heap) (CX : Bool → CXT) (r : Bool) (k : Nat) (C : Addr) (x : Str) (ps : List Str) (sp : Sp) : Prop where
  ex : ∃ (f : Addr) (fd : FuncData), Mk K C f ∧ FnOkR P w K mg base CX r k f fd ps sp ∧ Binds K fd ps [] ∧ mg x = some (.ref C)
theorem HasR.has {P : Program} {w : World} {K : PySem.W.Frag} {mg : Str → Option Value} {base : Heap} {r : Bool} {k : Nat} {x : Str} {ps : List Str} {sp : Sp} (h : HasR P w K mg base (fun _ => CX0) r k x ps sp) : Has P w K mg base k x ps sp := by
  obtain ⟨f, fd, F, b, c, d⟩ := h.ex
  exact ⟨f, fd, F.ok, b, c, d⟩
theorem MHasR.has {P : Program} {w : World} {K : PySem.W.Frag} {mg : Str → Option Value} {base : Heap} {r : Bool} {k : Nat} {C : Addr} {x : Str} {ps : List Str} {sp : Sp} (h : MHasR P w K mg base (fun _ => CX0) r k C x ps sp) : MHas P w K mg base k C x ps sp := by
  obtain ⟨f, fd, m, F, b⟩ := h.ex
  exact ⟨h.cl, f, fd, m, F.ok, b⟩
section
variable {X : Cx} {CX : Bool → CXT} {r : Bool} {k : Nat} {f C : Addr} {fd : FuncData} {ps : List Str} {sp : Sp} {E : L2.St → XK} {x m : Str} {p pos apos : Pos} {e o : Expr} {es : List Expr} {ta : TE} {t : TA}
theorem run_fnG {pins : List (Addr × Obj)} {σ : L2.St} {H : Hp} {s : Shared} {Q : VK} {us : List Value} {vs : List V} (F : FnOkR X.prog X.w X.K X.mg X.base CX r k f fd ps sp) (hr : Room k (calmA X.A)) (hh : r = true → HdX X) (hb : Binds X.K fd ps []) (hx : PassAt (CX (hn X.A)) X E)
    (I : Inv X pins σ H s) (rv : Vals vs us) (h : sp (vs ++ []) H Q (E σ)) : wpAny (model X.prog X.w) X.A (call (.ref f) us) (EP X pins σ Q) X.xe s := by
  have r2 : Vals (vs ++ []) (us ++ []) := rv.append .nil
  have hl : (us ++ []).length = ps.length := by rw [← r2.length]; exact F.len _ _ _ _ h
  refine wpAny_call (codeAny_mono (F.run X.A X.stack s H ⟨us, []⟩ (us ++ []) (vs ++ []) Q (E σ) hr (fun z => hh z _ _ _ _ I) I.env0 (hb s us I.kIn hl) r2 h) fun r s' hq => ?_)
  cases r with
  | error e => exact hx pins σ H s e s' I hq
  | ok fl =>
    cases fl with
    | ret u => exact I.after hq
    | next => exact False.elim hq
    | brk => exact False.elim hq
    | cont => exact False.elim hq
/-- f(e, ..) -/
theorem pe_fnG (h : HasR X.prog X.w X.K X.mg X.base CX r k x ps sp) (hr : Room k (calmA X.A)) (hh : r = true → HdX X) (hg : Gl X x) (hx : PassAt (CX (hn X.A)) X E)
    (ha : PA X (e :: es) t) (hdb : (x == ("__debug__" : Str)) = false := by decide) (he : starEach (e :: es) X.env = (false, eval e X.env) :: starEach es X.env := by rfl) (hpl : (backTo pos (starEach es X.env)).any (·.1) = false := by rfl) :
    PE X (.Call (.Name x p) (e :: es) [] pos) (tCallT sp E t) := by
  intro pins s σ H Q I h1
  obtain ⟨f, fd, F, hb, hk, hm⟩ := h.ex
  refine wpAny_Call_Name_kw (ld_glob I hg hm ?_ hdb)
  refine PySem.W.callWith_K (h₀ := X.base) I.ok.mod.kin hk (thn (ha pos pins s σ H _ I h1) fun us s1 ⟨vs, H1, I1, r, q⟩ => ⟨I1.kIn, ?_⟩) he hpl
  exact run_fnG F hr hh hb hx I1 r q
def tMethG (X : Cx) (CX : Bool → CXT) (r : Bool) (k : Nat) (m : Str) (E : L2.St → XK) (ta : TE) (t : TA) : TE := fun σ H Q => ta σ H fun x H1 => ∃ (a C dx : Addr) (fs : List (Str × V)) (ps : List Str) (sp : Sp), x = .ref a ∧ H1 a = some (.ins C dx fs) ∧ fs.lookup m = none ∧
  MHasR X.prog X.w X.K X.mg X.base CX r k C m ps sp ∧ t σ H1 fun vs H2 => sp (x :: (vs ++ [])) H2 Q (E σ)
/-- o.m(e, ..) -/
theorem pe_methG {pl : Sem Bool} (he : PE X o ta) (hr : Room k (calmA X.A)) (hh : r = true → HdX X) (hx : PassAt (CX (hn X.A)) X E) (ha : PA X (e :: es) t)
    (hst : starEach (e :: es) X.env = (false, eval e X.env) :: starEach es X.env := by rfl) (hpl : (backTo pos (starEach es X.env)).any (·.1) = false := by rfl)
    (ht : eval (.Call (.Attribute o m apos) (e :: es) [] pos) X.env = (do
      let ov ← eval o X.env
      standAt apos.atName
      let (f, first) ← holding [ov] (getMethod ov m pl)
      callWith pos f first (backTo pos (starEach (e :: es) X.env)) (backToKw pos (keywordEach [] X.env))) := by rfl) :
    PE X (.Call (.Attribute o m apos) (e :: es) [] pos) (tMethG X CX r k m E ta t) := by
  intro pins s σ H Q I h
  refine PySem.W.methodCall_KW (pl := pl) (thn (he pins s σ H _ I h) fun u s1 ⟨x, H1, I1, rx, a, C, dx, fs, ps, sp, ex, ea, l, M, q⟩ => ?_) ht
  subst ex
  obtain rfl : u = Value.ref a := rx
  obtain ⟨f, fd, hm, F, hb⟩ := M.ex
  refine getmeth_ok I1 ea M.cl hm l ?_
  refine PySem.W.callWith_K (first := [.ref a]) (h₀ := X.base) I.ok.mod.kin hm.kp (thn (ha pos pins s1 σ H1 _ I1 q) fun us s2 ⟨vs, H2, I2, r, q2⟩ => ⟨I2.kIn, ?_⟩) hst hpl
  exact run_fnG (us := .ref a :: us) (vs := .ref a :: vs) F hr hh hb hx I2 (.cons rfl r) q2
/-- o.m() -/
theorem pe_methG0 {pl : Sem Bool} (he : PE X o ta) (hr : Room k (calmA X.A)) (hh : r = true → HdX X) (hx : PassAt (CX (hn X.A)) X E)
    (ht : eval (.Call (.Attribute o m apos) [] [] pos) X.env = (do
      let ov ← eval o X.env
      standAt apos.atName
      let (f, first) ← holding [ov] (getMethod ov m pl)
      callWith pos f first (backTo pos (starEach [] X.env)) (backToKw pos (keywordEach [] X.env))) := by rfl) :
    PE X (.Call (.Attribute o m apos) [] [] pos) (tMethG X CX r k m E ta tNil) := by
  intro pins s σ H Q I h
  refine PySem.W.methodCall_KW (pl := pl) (thn (he pins s σ H _ I h) fun u s1 ⟨x, H1, I1, rx, a, C, dx, fs, ps, sp, ex, ea, l, M, q⟩ => ?_) ht
  subst ex
  obtain rfl : u = Value.ref a := rx
  obtain ⟨f, fd, hm, F, hb⟩ := M.ex
  refine getmeth_ok I1 ea M.cl hm l ?_
  exact PySem.W.callWith_K0 (first := [.ref a]) I1.kIn hm.kp (run_fnG (us := [.ref a]) (vs := [.ref a]) F hr hh hb hx I1 (.cons rfl .nil) q)
theorem run_makeG {pins : List (Addr × Obj)} {σ : L2.St} {H : Hp} {s : Shared} {Q : VK} {us : List Value} {vs : List V} (M : Mk X.K C f) (F : FnOkR X.prog X.w X.K X.mg X.base CX r k f fd ps sp) (hr : Room (k + 1) (calmA X.A)) (hh : r = true → HdX X) (hb : Binds X.K fd ps [])
    (hx : PassAt (CX (hn X.A)) X E) (I : Inv X pins σ H s) (rv : Vals vs us)
    (h : ∀ x dx, H x = none → H dx = none → dx ≠ x → sp (.ref x :: (vs ++ [])) (upd (upd H dx (.own x)) x (.ins C dx [])) (fun v H2 => v = .non ∧ Q (.ref x) H2) (E σ)) :
    wpAny (model X.prog X.w) X.A (call (.ref C) us) (EP X pins σ Q) X.xe s := by
  have hq := h (s.heap.objs.size + 1) s.heap.objs.size (I.hok.fresh (Nat.le_succ _)) (I.hok.fresh (Nat.le_refl _)) (Nat.ne_of_lt (Nat.lt_succ_self _))
  have I2 := Inv.made (C := C) I
  have r2 : Vals (V.ref (s.heap.objs.size + 1) :: (vs ++ [])) (Value.ref (s.heap.objs.size + 1) :: (us ++ [])) := .cons rfl (rv.append .nil)
  have hl : (Value.ref (s.heap.objs.size + 1) :: us ++ []).length = ps.length := by
    have e := r2.length
    rw [F.len _ _ _ _ hq] at e
    exact e.symm
  refine wpAny_call (make_map (f := f) I.kIn M.makes M.init (beq_iff_eq.mp M.fn) (codeAny_mono (F.run (X.A.under (.builtin "type.__call__" ⟨.ref C :: us, []⟩)) X.stack _ _ ⟨Value.ref (s.heap.objs.size + 1) :: us, []⟩ (Value.ref (s.heap.objs.size + 1) :: (us ++ [])) _ _ (E σ) (hr.make C us [])
    (fun z => hh z _ _ _ _ I2) (I2.env0.make C us []) (by
      have hB := hb _ (Value.ref (s.heap.objs.size + 1) :: us) I2.kIn hl
      rw [List.cons_append] at hB
      exact hB) r2 hq) fun r s' hq' => ?_))
  cases r with
  | error e => exact hx pins σ _ _ e s' I2 hq'
  | ok fl =>
    cases fl with
    | ret u =>
      obtain ⟨v, H', I3, rv, ev, q3⟩ := I2.after hq'
      subst ev
      exact ⟨rv, ⟨V.ref (s.heap.objs.size + 1), H', I3, rfl, q3⟩⟩
    | next => exact False.elim hq'
    | brk => exact False.elim hq'
    | cont => exact False.elim hq'
def tMakeG (C : Addr) (sp : Sp) (E : L2.St → XK) (t : TA) : TE := fun σ H Q => t σ H fun vs H1 => ∀ x dx, H1 x = none → H1 dx = none → dx ≠ x →
  sp (.ref x :: (vs ++ [])) (upd (upd H1 dx (.own x)) x (.ins C dx [])) (fun v H2 => v = .non ∧ Q (.ref x) H2) (E σ)
/-- C(e, ..) -/
theorem pe_mkG (h : CHasR X.prog X.w X.K X.mg X.base CX r k C x ps sp) (hr : Room (k + 1) (calmA X.A)) (hh : r = true → HdX X) (hg : Gl X x) (hx : PassAt (CX (hn X.A)) X E)
    (ha : PA X (e :: es) t) (hdb : (x == ("__debug__" : Str)) = false := by decide) (he : starEach (e :: es) X.env = (false, eval e X.env) :: starEach es X.env := by rfl) (hpl : (backTo pos (starEach es X.env)).any (·.1) = false := by rfl) :
    PE X (.Call (.Name x p) (e :: es) [] pos) (tMakeG C sp E t) := by
  intro pins s σ H Q I h1
  obtain ⟨f, fd, M, F, hb, hm⟩ := h.ex
  refine wpAny_Call_Name_kw (ld_glob I hg hm ?_ hdb)
  refine PySem.W.callWith_K (h₀ := X.base) I.ok.mod.kin M.kp (thn (ha pos pins s σ H _ I h1) fun us s1 ⟨vs, H1, I1, r, q⟩ => ⟨I1.kIn, ?_⟩) he hpl
  exact run_makeG M F hr hh hb hx I1 r q
end
end Ow
namespace Ow
open PySem PySem.Spec PyProof.Rows L2
theorem raise_instR {P : Program} {w : World} {A : Around} {E : Value → Shared → Prop} {s : Shared} {env : Env} {C N : Addr} {nm qn : Str} {bs bm : List Value} {hdc : Bool} {sn : List Str} {sub : List Value} {ab : Bool} {col : Option Bool} {dd : Option Addr} {k0 k1 k2 k3 k5 : Option Value} {nid : String}
    {x : Sem Value} {Q : Flow → Shared → Prop} (hb : bm.contains (.type "BaseException") = true)
    (k : wpAny (model P w) A x (fun v s1 => ∃ (e t : Addr) (od : Option Addr), v = .ref e ∧ s1.heap.get? C = some (excClassObj nm qn C N bs bm hdc sn sub ab col dd k0 k1 k2 k3 k5 nid) ∧ s1.heap.get? e = some ⟨.ref C, od, .fields (exF t), #[]⟩ ∧
      (A.handled = none ∧ E (.ref e) s1 ∨ ∃ (a : Addr) (o : Obj), A.handled = some (.ref a) ∧ s1.heap.get? a = some o ∧ Ctx0 o ∧ a ≠ e ∧ E (.ref e) { s1 with heap := s1.heap.update e (Obj.mapFields (·.setIfInBounds 2 (.ref a))) })) E s) :
    wpAny (model P w) A (raiseStmt env (some x) none) Q E s := by
  have cb : (Value.ref C :: bm).contains (.type "BaseException") = true := by rw [List.contains_cons, hb, Bool.or_true]
  unfold raiseStmt
  refine wpAny_bind (wpAny_mono k (fun v s1 q => ?_) fun _ _ z => z)
  obtain ⟨e, t, od, rfl, gC, ge, q⟩ := q
  obtain ⟨hp, g, d, tk, os⟩ := s1
  repeat (first | with_reducible refine wpAny_loadPart_at ge ?_ | with_reducible refine wpAny_loadPart_at gC ?_ | (with_reducible refine wpAny_isSubtype_exc gC ?_; rw [cb]) | wp_step)
  rcases q with ⟨hh, q⟩ | ⟨a, o, hh, ga, c0, ne, q⟩
  · exact wpAny_raiseNew_none hh q
  · exact raiseNew_some hh ga c0 ge rfl (show 2 < 6 by decide) ne q
section
variable {P : Program} {w : World} {K : PySem.W.Frag} {mg : Str → Option Value} {base : Heap} {N : List Str} {qual : Str} {scope : Scope} {f : Addr} {cdv : Value} {A : Around} {outer : List Env} {s₀ : Shared} {H₀ : Hp} {E : XK}
/-- the context of a def that may raise exceptions that bear a field -/
abbrev cxRY (P : Program) (w : World) (K : PySem.W.Frag) (mg : Str → Option Value) (base : Heap) (N : List Str) (qual : Str) (scope : Scope) (f : Addr) (cd : Value) (A : Around) (outer : List Env) (s : Shared) (H : Hp) (E : XK) : Cx := cxR (fun c => CX2c c P w base) P w K mg base N qual scope f cd A outer s H E
theorem leaves_ownR {pins : List (Addr × Obj)} {σ : L2.St} {H : Hp} {s : Shared} {e C t : Addr} {od : Option Addr} {h' : Heap} {fv : Array Value} (I : Inv (cxRY P w K mg base N qual scope f cdv A outer s₀ H₀ E) pins σ H s)
    (he : H e = some (xO e C t od)) (hn0 : s₀.heap.get? e = none) (ge : h'.get? e = some ⟨.ref C, od, .fields fv, #[]⟩) (kp : ∀ b o, b ≠ e → s.heap.get? b = some o → h'.get? b = some o) (z0 : fv[0]? = some (.ref t)) (z1 : fv[1]? = some .none) (z2 : hn A = true → fv[2]? = some .none)
    (q : E (.ref C) od (drop H e)) : (cxRY P w K mg base N qual scope f cdv A outer s₀ H₀ E).xe (.ref e) { s with heap := h' } := by
  have hst := I.stack
  have nof : ∀ b o, s₀.heap.get? b = some o → b ∉ frs outer → b ∉ e :: frs (envOfC qual scope s₀.heap.objs.size f cdv :: outer) := fun b o e1 nb hm => by
    rcases List.mem_cons.mp hm with z | hm
    · rw [z, hn0] at e1
      cases e1
    rcases List.mem_cons.mp (I.stkSub b hm) with z | z
    · exact Nat.lt_irrefl _ (Nat.lt_of_lt_of_le (z ▸ Heap.lt_size e1) I.ok.above)
    · exact nb z
  have nx : ∀ b : Addr, b ∉ ([] : List Addr) := fun b z => nomatch z
  have ne : ∀ b u, H b = some u → (∀ φ, u ≠ .ext φ) → b ≠ e := fun b u e1 hk z => by
    rw [z, he] at e1
    cases e1
    exact hk _ rfl
  have dr : ∀ b u, H b = some u → (∀ φ, u ≠ .ext φ) → drop H e b = some u := fun b u e1 hk => by rw [drop_ne (ne b u e1 hk)]; exact e1
  have up0 : ∀ b o, (PySem.W.hideAll s.heap (e :: frs (envOfC qual scope s₀.heap.objs.size f cdv :: outer))).get? b = some o → h'.get? b = some o := fun b o e1 => kp b o (fun z => by
    rw [z, PySem.W.hideAll_none _ (List.mem_cons_self ..)] at e1
    cases e1) (PySem.W.of_hideAll _ e1)
  have nfe : ∀ b o, s.heap.get? b = some o → (∀ us, o.data ≠ .fields us) → b ≠ e := fun b o e1 hd z => by
    rw [z, (show s.heap.get? e = some ⟨.ref C, od, .fields (exF t), #[]⟩ from (I.hok e _ he).1)] at e1
    cases e1
    exact hd _ rfl
  refine leave_first (c := hn A) (s := { s with heap := h' }) (bs := PySem.W.hideAll s.heap (e :: frs (envOfC qual scope s₀.heap.objs.size f cdv :: outer))) (a0 := .ref t) I.ok.frames
    ((PySem.W.funFrames_hide hst fun e1 he1 b hb => List.mem_cons_of_mem _ (List.mem_filterMap.mpr ⟨e1, he1, hb⟩)).of_keeps fun b o e1 hd => ⟨o, kp b o (nfe b o e1 hd) e1, rfl⟩) rfl ge up0 (PySem.W.hideAll_none _ (List.mem_cons_self ..)) rfl z1 z0 z2 fun h2 fl D up => ?_
  refine ⟨e, _, .ref t, _, drop H e, od, rfl, I.os, I.bare, ⟨fun b o e1 => PySem.W.hideAll_get _ (I.bk b o e1) fun hm => ?_, fun b o e1 n nb => PySem.W.hideAll_get _ (I.base.keep b o e1 n nb (nx b)) (nof b o e1 nb), fun b o e1 n => ?_,
    fun b o e1 nb => ?_, fun b xs z => dr b _ (I.base.tups b xs z) (fun _ z => nomatch z), fun b o u z => dr b _ (I.base.frzs b o u z) (fun _ z => nomatch z), fun b ps z => ?_, fun b u e1 => ?_⟩, fun b hb o e1 => ?_, fl, drop_same, D, q⟩
  · rcases List.mem_cons.mp hm with z | hm
    · have z2 := (I.bs b o e1).2
      rw [z, he] at z2
      cases z2
    · have z := (hst.mem hm).1
      exact nomatch (show (some o : Option Obj) = none from e1.symm.trans z)
  · by_cases hb : b = e
    · rw [hb, drop_same]
    · rw [drop_ne hb]
      exact I.base.free b o e1 n (nx b)
  · obtain ⟨o', e2⟩ := I.base.there b o e1 (nx b)
    exact ⟨o', PySem.W.hideAll_get _ e2 (nof b o e1 nb)⟩
  · obtain ⟨more, z2⟩ := I.base.tbls b ps z
    exact ⟨more, dr b _ z2 (fun _ z => nomatch z)⟩
  · have hb : b ≠ e := fun z => by
      rw [z, drop_same] at e1
      cases e1
    rw [drop_ne hb] at e1
    refine (I.hok b u e1).stay (fun c v hc e2 => PySem.W.hideAll_get _ e2 fun hm => ?_) (fun c z => dr c _ z (fun _ z => nomatch z)) fun c xs z => dr c _ z (fun _ z => nomatch z)
    rcases List.mem_cons.mp hm with z | hm
    · rcases hc with hc | hc
      · exact hb (hc.symm.trans z)
      · rw [z, he] at hc
        cases hc
    · have z := I.stkFree c hm
      rcases hc with rfl | hc
      · rw [e1] at z; cases z
      · rw [hc] at z; cases z
  · obtain ⟨sl, e2⟩ := I.base.slot b o e1 (I.ok.frf b hb) hb (nx b)
    obtain ⟨_, o1, e3, d⟩ := I.funs.mem hb
    rw [e2] at e3
    cases e3
    obtain ⟨s2, e4⟩ := up b _ (kp b _ (nfe b _ e2 d) e2) d
    exact ⟨s2, e4⟩
structure XHasR (P : Program) (w : World) (K : PySem.W.Frag) (mg : Str → Option Value) (base : Heap) (k : Nat) (x : Str) (C : Addr) (f : Str) : Prop where
  ex : ∃ (fI : Addr) (fd : FuncData) (p1 p2 : Str), FnOkR P w K mg base (fun _ => CX0) false k fI fd [p1, p2] (spXI f C) ∧ Binds K fd [p1, p2] [] ∧ XCls K C fI f ∧ mg x = some (.ref C)
theorem calm_make {k : Nat} {A : Around} (hr : Room (k + 1) (calmA A)) (C : Addr) (us : List Value) (kw : List (Str × Value)) : Room k (calmA (A.under (.builtin "type.__call__" ⟨.ref C :: us, kw⟩))) := hr.make C us kw
/-- raise C(v), C with an own __init__ that lays one field down -/
theorem ps_raise1R {k : Nat} {x fl : Str} {C : Addr} {np cpos pos : Pos} {e1 : Expr} {ta : TA} (h : XHasR P w K mg base k x C fl) (hr : Room (k + 1) (calmA (cxRY P w K mg base N qual scope f cdv A outer s₀ H₀ E).A)) (hh : HdX (cxRY P w K mg base N qual scope f cdv A outer s₀ H₀ E)) (hg : Gl (cxRY P w K mg base N qual scope f cdv A outer s₀ H₀ E) x)
    (ha : PA (cxRY P w K mg base N qual scope f cdv A outer s₀ H₀ E) [e1] ta) (hdb : (x == ("__debug__" : Str)) = false := by decide)
    (hst : starEach [e1] (cxRY P w K mg base N qual scope f cdv A outer s₀ H₀ E).env = (false, eval e1 (cxRY P w K mg base N qual scope f cdv A outer s₀ H₀ E).env) :: starEach [] (cxRY P w K mg base N qual scope f cdv A outer s₀ H₀ E).env := by rfl) :
    PS (cxRY P w K mg base N qual scope f cdv A outer s₀ H₀ E) (.Raise (some (.Call (.Name x np) [e1] [] cpos)) none pos) (tRaise1 C fl E ta) := by
  intro pins s σ H D I ht
  obtain ⟨fI, fd, p1, p2, F, hb, c, hm⟩ := h.ex
  obtain ⟨bm, N', nm, qn, bs, sn, sub, ab, col, dd, k0, k1, k2, k3, k5, mN, gC, gN, gi, T⟩ := exc_fn I.ok.mod.kin c.ef
  rw [arm_exec_Raise]
  refine wpAny_bind (wpAny_standAt (raise_instR (C := C) (nm := nm) (qn := qn) (N := N') (bs := bs) (bm := bm) (hdc := true) (sn := sn) (sub := sub) (ab := ab) (col := col) (dd := dd) (k0 := k0) (k1 := k1) (k2 := k2) (k3 := k3) (k5 := k5) (nid := "ValueError.__new__")
    (T.hasType PySem.F.excBase_ValueError.hasBase) (wpAny_bind (wpAny_mono (Q := fun v s1 => ∃ (e t : Addr) (od : Option Addr), v = .ref e ∧ s1.heap.get? C = some (excClassObj nm qn C N' bs bm true sn sub ab col dd k0 k1 k2 k3 k5 "ValueError.__new__") ∧ s1.heap.get? e = some ⟨.ref C, od, .fields (exF t), #[]⟩ ∧
      ((cxRY P w K mg base N qual scope f cdv A outer s₀ H₀ E).A.handled = none ∧ (cxRY P w K mg base N qual scope f cdv A outer s₀ H₀ E).xe (.ref e) s1 ∨ ∃ (a : Addr) (o : Obj), (cxRY P w K mg base N qual scope f cdv A outer s₀ H₀ E).A.handled = some (.ref a) ∧ s1.heap.get? a = some o ∧ Ctx0 o ∧ a ≠ e ∧ (cxRY P w K mg base N qual scope f cdv A outer s₀ H₀ E).xe (.ref e) { s1 with heap := s1.heap.update e (Obj.mapFields (·.setIfInBounds 2 (.ref a))) })) ?_ (fun v s3 h3 => wpAny_bind (wpAny_standAt (wpAny_pure h3))) fun _ _ z => z))))
  refine wpAny_Call_Name_kw (ld_glob I hg hm ?_ hdb)
  refine PySem.W.callWith_K (h₀ := base) I.ok.mod.kin c.kp (thn (ha cpos pins s σ H _ I ht) fun us s1 ⟨vs, H1, I1, r1, v, ev, q1⟩ => ⟨I1.kIn, ?_⟩) hst rfl
  subst ev
  obtain ⟨u, rfl, ru⟩ := r1.one
  have st1 := I1.bk
  have gf : ∃ oI, s1.heap.get? fI = some oI ∧ oI.cls = .type "function" := by
    obtain ⟨oI, e1, e2⟩ := Option.map_eq_some_iff.mp c.fn
    exact ⟨oI, I1.kIn _ _ e1, e2⟩
  obtain ⟨oI, gf, cf⟩ := gf
  obtain ⟨h0, g, dr, tk, os⟩ := s1
  have ge : ((h0.push (exT u)).push { cls := .ref C, data := .fields (exF h0.objs.size) }).get? (h0.objs.size + 1) = some { cls := .ref C, data := .fields (exF h0.objs.size) } := by
    have z := Heap.get?_push_size (h0.push (exT u)) (o := { cls := .ref C, data := .fields (exF h0.objs.size) }) rfl
    rwa [Heap.size_push] at z
  have He : H1 (h0.objs.size + 1) = none := I1.hok.fresh (Nat.le_succ _)
  have I2 := I1.laid (a := h0.objs.size + 1) (o := xO (h0.objs.size + 1) C h0.objs.size none) (h' := (h0.push (exT u)).push { cls := .ref C, data := .fields (exF h0.objs.size) }) (t' := tk) (fun b o q => Heap.get?_push_of_some _ (Heap.get?_push_of_some _ q)) (Nat.le_succ _) (xO_ok ge)
  refine call_exc (T.keeps st1) (st1 _ _ gC) (gN.keeps st1) gi gf cf (wpAny_call (codeAny_mono (F.run _ (cxRY P w K mg base N qual scope f cdv A outer s₀ H₀ E).stack _ _ ⟨[.ref (h0.objs.size + 1), u], []⟩ [.ref (h0.objs.size + 1), u] [.ref (h0.objs.size + 1), v]
    (fun y H3 => y = .non ∧ ∃ d, upd H1 (h0.objs.size + 1) (xO (h0.objs.size + 1) C h0.objs.size none) d = none ∧ d ≠ h0.objs.size + 1 ∧ H3 = upd (upd (upd H1 (h0.objs.size + 1) (xO (h0.objs.size + 1) C h0.objs.size none)) d (.xd [(fl, v)])) (h0.objs.size + 1) (xO (h0.objs.size + 1) C h0.objs.size (some d))) E0 (calm_make hr C [u] [])
    (fun z => nomatch z) (I2.env0.make C [u] []) (hb _ _ I2.kIn rfl) (.cons rfl (.cons ru .nil)) ⟨_, _, v, rfl, upd_same .., fun d hd ne => ⟨rfl, d, hd, ne, rfl⟩⟩) fun r s' hq => ?_))
  cases r with
  | error e => exact False.elim hq
  | ok fw =>
    cases fw with
    | ret u' =>
      obtain ⟨y, H3, I3, ry, rfl, d, hd, ne, rfl⟩ := I2.after hq
      have g3 : s'.heap.get? (h0.objs.size + 1) = some ⟨.ref C, some d, .fields (exF h0.objs.size), #[]⟩ := (I3.hok _ _ (upd_same ..)).1
      have nn : s₀.heap.get? (h0.objs.size + 1) = none := Heap.get?_none_of_le (Nat.le_trans I1.sz (Nat.le_succ _))
      rw [upd_ne ne] at hd
      have q3 : E (.ref C) (some d) (drop (upd (upd (upd H1 (h0.objs.size + 1) (xO (h0.objs.size + 1) C h0.objs.size none)) d (.xd [(fl, v)])) (h0.objs.size + 1) (xO (h0.objs.size + 1) C h0.objs.size (some d))) (h0.objs.size + 1)) := by
        have e3 : drop (upd (upd (upd H1 (h0.objs.size + 1) (xO (h0.objs.size + 1) C h0.objs.size none)) d (.xd [(fl, v)])) (h0.objs.size + 1) (xO (h0.objs.size + 1) C h0.objs.size (some d))) (h0.objs.size + 1) = upd H1 d (.xd [(fl, v)]) := by
          funext b
          by_cases hb : b = h0.objs.size + 1
          · rw [hb, drop_same, upd_ne (Ne.symm ne), He]
          · rw [drop_ne hb, upd_ne hb]
            by_cases hbd : b = d
            · rw [hbd, upd_same, upd_same]
            · rw [upd_ne hbd, upd_ne hb, upd_ne hbd]
        rw [e3]
        exact q1 d hd
      refine ⟨ry, h0.objs.size + 1, h0.objs.size, some d, rfl, I3.bk _ _ gC, g3, ?_⟩
      rcases hh _ _ _ _ I3 with hz | ⟨a, o, ea, ga, c0, na, nf⟩
      · exact .inl ⟨hz, leaves_ownR (h' := s'.heap) I3 (upd_same ..) nn g3 (fun _ _ _ z => z) rfl rfl (fun _ => rfl) q3⟩
      · have nea : a ≠ h0.objs.size + 1 := fun z => by
          rw [z, upd_same] at na
          cases na
        refine .inr ⟨a, o, ea, ga, c0, nea, leaves_ownR I3 (upd_same ..) nn (Heap.get?_update_self _ g3 rfl) (fun b o hb z => (Heap.get?_update_other _ _ (Ne.symm hb)).trans z) rfl rfl (fun z => ?_) q3⟩
        have ea' : A.handled = some (.ref a) := ea
        unfold hn at z
        rw [ea'] at z
        cases z
    | next => exact False.elim hq
    | brk => exact False.elim hq
    | cont => exact False.elim hq
/-- the exception of a callee passes a def that may raise -/
theorem passR : PassAt (CX2c (hn A) P w base) (cxRY P w K mg base N qual scope f cdv A outer s₀ H₀ E) (fun _ => E) := by
  intro pins σ H s e s' I hq
  obtain ⟨a, cls, a0, B, H2, dd, rfl, hos, hba, G, sl, fl, ha0, D, hw⟩ := hq
  have nof : ∀ b o, s₀.heap.get? b = some o → b ∉ frs outer → b ∉ frs (envOfC qual scope s₀.heap.objs.size f cdv :: outer) := fun b o e1 nb hm => by
    rcases List.mem_cons.mp (I.stkSub b hm) with z | z
    · exact Nat.lt_irrefl _ (Nat.lt_of_lt_of_le (z ▸ Heap.lt_size e1) I.ok.above)
    · exact nb z
  have nx : ∀ b : Addr, b ∉ ([] : List Addr) := fun b z => nomatch z
  have sub : ∀ b ∈ frs outer, b ∈ frs (envOfC qual scope s₀.heap.objs.size f cdv :: outer) := fun b hb => by
    obtain ⟨en, he, hf⟩ := List.mem_filterMap.mp hb
    exact List.mem_filterMap.mpr ⟨en, List.mem_cons_of_mem _ he, hf⟩
  refine leave_own I.ok.frames rfl fl D fun h2 fl2 D2 up => ?_
  refine ⟨a, cls, a0, B, H2, dd, rfl, hos.trans I.os, hba, ⟨G.st, fun b o e1 n nb => G.keep b o (I.base.keep b o e1 n nb (nx b)) (I.base.free b o e1 n (nx b)) (nof b o e1 nb), fun b o e1 n => ?_, fun b o e1 nb => ?_,
    fun b xs z => G.tups b xs (I.base.tups b xs z), fun b o u z => G.frzs b o u (I.base.frzs b o u z), fun b ps z => ?_, G.hok⟩, fun b hb o e1 => ?_, fl2, ha0, D2, hw⟩
  · obtain ⟨o', e2⟩ := I.base.there b o e1 (nx b)
    exact G.free b o' e2 (I.base.free b o e1 n (nx b))
  · obtain ⟨o', e2⟩ := I.base.there b o e1 (nx b)
    exact G.there b o' e2 (nof b o e1 nb)
  · obtain ⟨m1, e1⟩ := I.base.tbls b ps z
    obtain ⟨m2, e2⟩ := G.tbls b _ e1
    exact ⟨m1 ++ m2, by rw [e2, Array.append_assoc]⟩
  · obtain ⟨l1, e2⟩ := I.base.slot b o e1 (I.ok.frf b hb) hb (nx b)
    obtain ⟨l2, e3⟩ := sl b (sub b hb) _ e2
    obtain ⟨_, o1, e4, d⟩ := fl.2.2.1.mem (sub b hb)
    rw [e3] at e4
    cases e4
    obtain ⟨l3, e5⟩ := up b _ e3 d
    exact ⟨l3, e5⟩
end
/-- the rows of a try, an exception perhaps being handled -/
def tryR (X : Cx) (pins : List (Addr × Obj)) (E : L2.St → XK) : Cx := (pinned X pins).wish fun e s' => ∃ (pins' : List (Addr × Obj)) (σ' : L2.St) (H : Hp) (s : Shared), Inv (pinned X pins) pins' σ' H s ∧ CX2c (hn X.A) X.prog X.w X.base X.stack H s (E σ') e s'
theorem patT {X : Cx} {pins : List (Addr × Obj)} {E : L2.St → XK} : PassAt (CX2c (hn X.A) X.prog X.w X.base) (tryR X pins E) E := fun pins σ H s e s' I hq => ⟨pins, σ, H, s, I.unwish, hq⟩
theorem hd_try {X : Cx} {pins : List (Addr × Obj)} {E : L2.St → XK} (h : HdX X) : HdX (tryR X pins E) := fun pins' σ H s I => by
  have I' : Inv (pinned X pins) pins' σ H s := I.unwish
  exact h pins σ H s (of_pinned ⟨I'.ok.mod, I'.ok.kind, I'.ok.glob, I'.ok.blt, I'.ok.above, I'.ok.inj, I'.ok.has, I'.ok.cab, I'.ok.hd, I'.ok.frames, I'.ok.stk, I'.ok.exf, I'.ok.bs, I'.ok.bsz, I'.ok.noex, I'.ok.exfs, I'.ok.funs, I'.ok.frf⟩ I')
theorem ps_tryR {X : Cx} {j : Nat} {n c : Str} {C₁ : Addr} {b₀ : Stmt} {body suite : List Stmt} {tb : (L2.St → XK) → TS} {ts : Addr → Obj → TS} {np hpos tpos : Pos} (hbd : ∀ pins E, PSs (tryR X pins E) body (tb E)) (hN : X.N.Nodup) (hgc : Gl X c) (hmc : X.mg c = some (.ref C₁))
    (hj : X.N[j]? = some n) (hnl : X.env.scope.names.lookup n = some .local) (hb : ∀ (a : Addr) (oe : Obj), (hn X.A = true → Ctx0 oe) → PSs (caught X a oe) (b₀ :: suite) (ts a oe)) (hno : X.xe = fun _ _ => False := by rfl) (hst : X.stack = X.env :: X.outer := by rfl) (hfr : X.env.frame = some X.env.locals := by rfl)
    (hdc : (c == ("__debug__" : Str)) = false := by decide) : PS X (.Try body [.ExceptHandler (some (.Name c np)) (some n) (b₀ :: suite) hpos] [] [] tpos) (tTryY X.K C₁ j tb ts) := by
  intro pins s σ H D I ht
  refine wpAny_Try_except (wpAny_mono (hbd pins (wishY X.K C₁ j ts D) [] s σ H D ((to_pinned I).wish _) ht) (fun fl s1 q => ?_) fun ev s1 q => ?_)
  · cases fl with
    | next => obtain ⟨σ', H', I', q⟩ := q; exact wpAny_execs_nil ⟨σ', H', of_pinned I.ok I'.unwish, q⟩
    | brk => obtain ⟨σ', H', I', q⟩ := q; exact ⟨σ', H', of_pinned I.ok I'.unwish, q⟩
    | cont => obtain ⟨σ', H', I', q⟩ := q; exact ⟨σ', H', of_pinned I.ok I'.unwish, q⟩
    | ret u => obtain ⟨v, σ', H', I', r, q⟩ := q; exact ⟨v, σ', H', of_pinned I.ok I'.unwish, r, q⟩
  · obtain ⟨pins2, σ2, H2, s2, I2, hq⟩ := q
    exact landY (of_pinned I.ok I2) hq hst hfr hN hgc hmc hj hnl hb hno (fun cls dd H3 z => z) hdc
end Ow
namespace Ow
open PySem PySem.Spec PyProof.Rows L2
theorem room_any {k : Nat} {A B : Around} (r : Room k A) (h1 : B.depth = A.depth) (h2 : B.units = A.units) (h3 : B.guards = A.guards) : Room k (calmA B) :=
  ⟨rfl, by have := r.dp; show B.depth + 3 * k + 5 < _; omega, by have := r.un; show B.units + 16 * k + 200 < _; omega, h3.trans r.gd⟩
theorem hd_calm {X : Cx} (h : X.A.handled = none) : HdX X := fun _ _ _ _ _ => .inl h
theorem hd_wish {X : Cx} {E : Value → Shared → Prop} (h : HdX X) : HdX (X.wish E) := fun pins σ H s I => h pins σ H s I.unwish
/-- a flat thing, or an empty dict -/
inductive FE (H : Hp) : V → PyData → Prop where
  | fl {x : V} {d : PyData} : FD x d → FE H x d
  | dc {a : Addr} : H a = some (.dK []) → FE H (.ref a) (.dict [])
section
variable {X : Cx}
theorem FE.reads {pins : List (Addr × Obj)} {σ : L2.St} {H : Hp} {s : Shared} (I : Inv X pins σ H s) {x : V} {d : PyData} (f : FE H x d) (u : Value) (ru : RelV x u) : ∃ as, Reads s.heap u d as ∧ sysModules ∉ as := by
  cases f with
  | fl f => exact ⟨_, f.reads ru, fun z => nomatch z⟩
  | @dc a e =>
    cases (show u = Value.ref a from ru)
    obtain ⟨_, hs, vs, r, dd⟩ := dk_at I e
    refine ⟨_, PyProof.V.reads_dictOf (enc := kD) keyReads dd (FDs.nil.reads r), fun hm => ?_⟩
    cases List.mem_singleton.mp hm
    rw [beq_self_eq_true] at hs
    cases hs
theorem readsAllE {h : Heap} : ∀ {xs : List V} {us : List Value} {ds : List PyData}, Vals xs us → xs.length = ds.length → (∀ (i : Nat) x d, xs[i]? = some x → ds[i]? = some d → ∀ u, RelV x u → ∃ as, Reads h u d as ∧ sysModules ∉ as) → ∃ as, ReadsAll h us ds as ∧ sysModules ∉ as
  | _, _, [], .nil, _, _ => ⟨_, .nil, fun z => nomatch z⟩
  | _, _, _ :: _, .nil, hl, _ => absurd hl (by simp)
  | _, _, [], .cons _ _, hl, _ => absurd hl (by simp)
  | _, _, d :: ds, .cons r rr, hl, hi => by
    obtain ⟨as, h1, n1⟩ := hi 0 _ _ rfl rfl _ r
    obtain ⟨bs, h2, n2⟩ := readsAllE rr (by simpa using hl) fun i x d' e1 e2 => hi (i + 1) x d' (by simpa using e1) (by simpa using e2)
    exact ⟨_, .cons h1 h2, fun z => (List.mem_append.mp z).elim n1 n2⟩
/-- what repr is asked for: a thing without a dict, a dict of flat things, a tuple of flat things and empty dicts -/
def Rp (H : Hp) (x : V) (d : PyData) : Prop := RD H x d ∧ d.hasDict = false ∨ (∃ a kvs D, x = .ref a ∧ H a = some (.dK kvs) ∧ FDs kvs D ∧ d = .dict D) ∨ ∃ a xs ds, x = .ref a ∧ H a = some (.tup xs) ∧ xs.length = ds.length ∧ (∀ (i : Nat) y e, xs[i]? = some y → ds[i]? = some e → FE H y e) ∧ d = .tuple ds
theorem call_reprE (hg : X.A.guards = some []) (hu : X.A.units + 64 < cLine) : CallR X (.builtin "repr") (fun xs H Q => ∃ x d, xs = [x] ∧ Rp H x d ∧ d.showable = true ∧ d.depth ≤ 20 ∧ d.shown.length ≤ sizeLine ∧ Q (.str d.shown) H) := by
  intro pins s σ H xs us Q I r h
  obtain ⟨x, d, rfl, rd | rd | ⟨a, xs, ds, rfl, e, hl, hi, rfl⟩, sh, dp, hz, q⟩ := h
  · exact call_reprD hg hu pins s σ H [x] us Q I r ⟨x, d, rfl, .inl rd, sh, dp, hz, q⟩
  · exact call_reprD hg hu pins s σ H [x] us Q I r ⟨x, d, rfl, .inr rd, sh, dp, hz, q⟩
  · obtain ⟨u, rfl, ru⟩ := r.one
    cases (show u = Value.ref a from ru)
    obtain ⟨_, its, r, o, g, c, n, e'⟩ := I.hok a _ e
    obtain ⟨as, q1, nm⟩ := readsAllE r hl fun i y e h1 h2 u ru => (hi i y e h1 h2).reads I u ru
    exact repr_of_reads' (.tuple g c e' q1) sh (fun _ => nm) hg (by omega) (fun _ _ e => e) (fun h' u tk hk => ⟨.str _, H, I.kept (t' := tk) hk, ⟨_, rfl⟩, q⟩) hz
end
end Ow
namespace Ow
open PySem PySem.Spec PyProof.Rows L2
/-- o.m(e, ..) where the term may not speak of the context -/
def tMethH (P : Program) (w : World) (K : PySem.W.Frag) (mg : Str → Option Value) (base : Heap) (CX : Bool → CXT) (r : Bool) (k : Nat) (m : Str) (E : L2.St → XK) (ta : TE) (t : TA) : TE := fun σ H Q => ta σ H fun x H1 => ∃ (a C dx : Addr) (fs : List (Str × V)) (ps : List Str) (sp : Sp), x = .ref a ∧ H1 a = some (.ins C dx fs) ∧ fs.lookup m = none ∧
  MHasR P w K mg base CX r k C m ps sp ∧ t σ H1 fun vs H2 => sp (x :: (vs ++ [])) H2 Q (E σ)
theorem pe_methH {X : Cx} {P : Program} {w : World} {K : PySem.W.Frag} {mg : Str → Option Value} {base : Heap} {CX : Bool → CXT} {r : Bool} {k : Nat} {E : L2.St → XK} {m : Str} {pos apos : Pos} {e o : Expr} {es : List Expr} {ta : TE} {t : TA} {pl : Sem Bool} (h1 : X.prog = P) (h2 : X.w = w) (h3 : X.K = K) (h4 : X.mg = mg) (h5 : X.base = base)
    (he : PE X o ta) (hr : Room k (calmA X.A)) (hh : r = true → HdX X) (hx : PassAt (CX (hn X.A)) X E) (ha : PA X (e :: es) t)
    (hst : starEach (e :: es) X.env = (false, eval e X.env) :: starEach es X.env := by rfl) (hpl : (backTo pos (starEach es X.env)).any (·.1) = false := by rfl)
    (ht : eval (.Call (.Attribute o m apos) (e :: es) [] pos) X.env = (do
      let ov ← eval o X.env
      standAt apos.atName
      let (f, first) ← holding [ov] (getMethod ov m pl)
      callWith pos f first (backTo pos (starEach (e :: es) X.env)) (backToKw pos (keywordEach [] X.env))) := by rfl) :
    PE X (.Call (.Attribute o m apos) (e :: es) [] pos) (tMethH P w K mg base CX r k m E ta t) := by
  subst h1 h2 h3 h4 h5
  exact pe_methG he hr hh hx ha hst hpl ht
end Ow
/-! ### small additions: weaker promises, a sealed display behind any statement -/
namespace Ow
open PySem PySem.Spec PyProof.Rows L2
theorem FnOkR.imp {P : Program} {w : World} {K : PySem.W.Frag} {mg : Str → Option Value} {base : Heap} {CX : Bool → CXT} {r : Bool} {k : Nat} {f : Addr} {fd : FuncData} {ps : List Str} {sp sp' : Sp} (F : FnOkR P w K mg base CX r k f fd ps sp) (i : ∀ vs H Q E, sp' vs H Q E → sp vs H Q E) :
    FnOkR P w K mg base CX r k f fd ps sp' := ⟨fun vs H Q E h => F.len vs H Q E (i _ _ _ _ h), fun A outer s H args us vs Q E hr hh e0 hb rv h => F.run A outer s H args us vs Q E hr hh e0 hb rv (i _ _ _ _ h)⟩
theorem MHasR.imp {P : Program} {w : World} {K : PySem.W.Frag} {mg : Str → Option Value} {base : Heap} {CX : Bool → CXT} {r : Bool} {k : Nat} {C : Addr} {m : Str} {ps : List Str} {sp sp' : Sp} (h : MHasR P w K mg base CX r k C m ps sp) (i : ∀ vs H Q E, sp' vs H Q E → sp vs H Q E) : MHasR P w K mg base CX r k C m ps sp' := by
  obtain ⟨f, fd, hm, F, b⟩ := h.ex
  exact ⟨h.cl, f, fd, hm, F.imp i, b⟩
theorem MHasR.mono {P : Program} {w : World} {K : PySem.W.Frag} {mg : Str → Option Value} {base : Heap} {CX : Bool → CXT} {r : Bool} {j k : Nat} {C : Addr} {m : Str} {ps : List Str} {sp : Sp} (h : MHasR P w K mg base CX r j C m ps sp) (i : j ≤ k) : MHasR P w K mg base CX r k C m ps sp := by
  obtain ⟨f, fd, hm, F, b⟩ := h.ex
  exact ⟨h.cl, f, fd, hm, F.mono i, b⟩
section
variable {X : Cx}
theorem pss_consT {rest : List Stmt} {st : Stmt} {t u : TS} (h1 : PS X st t) (h2 : Sl (PSs X rest u)) : PSs X (st :: rest) (tSeq t u) := pss_cons h1 h2.out
theorem pe_ixS {a b : Expr} {r : R2} {ta tb : TE} {pos : Pos} (hr : IxR X r) (ha : Sl (PE X a ta)) (hb : PE X b tb) (hs : PlainIx b) : Sl (PE X (.Subscript a b pos) (tOp r ta tb)) := ⟨pe_ix hr ha.out hb hs⟩
end
/-- isinstance of a built-in kind's thing by an own class -/
theorem kit_tyF {K : PySem.W.Frag} {D : Addr} {T : String} {l : List Value} (h1 : PySem.W.isClsIn K D = true) (h2 : PySem.W.typeIn K (.ref D) = some (.type "type")) (h3 : fastBuiltinMro T = some l) (h4 : l.contains (.ref D) = false) : PySem.W.kitOne K (.type T) (.ref D) = some false := by
  unfold PySem.W.kitOne
  split
  · rename_i z
    exact absurd (eq_of_beq z) (fun y => nomatch y)
  · unfold PySem.W.kitCls
    have e : ((PySem.W.clsIn K D).isSome && PySem.W.typeIn K (.ref D) == some (.type "type")) = true := by
      rw [h2]
      have h1' : (PySem.W.clsIn K D).isSome = true := h1
      rw [h1', Bool.true_and]
      exact beq_self_eq_true _
    show (if ((PySem.W.clsIn K D).isSome && PySem.W.typeIn K (.ref D) == some (.type "type")) = true then PySem.W.subIn K (.type T) (.ref D) else none) = _
    rw [if_pos e]
    show (fastBuiltinMro T).map (·.contains (.ref D)) = _
    rw [h3]
    show some (l.contains (.ref D)) = _
    rw [h4]
end Ow

namespace Ow
open PySem PySem.Spec PyProof.Rows L2
open Builtin.Int (intBits)
/-! ### the text by places -/
def top (i : Nat) : Stmt := PySem.Challenge.pw_overwise_k31_signed_forms_told.main.body.getD i (.Pass ⟨0, 0, 0, 0⟩)
abbrev s_NoWidth___init__ : Stmt := inClass (top 3) 0
theorem sc_NoWidth___init__ : FnScope ["self", "found"] ["self", "found"] (defScope s_NoWidth___init__) := ⟨rfl, rfl, rfl, by decide +kernel, rfl, by decide +kernel, by decide +kernel⟩
abbrev s_NoForm___init__ : Stmt := inClass (top 4) 0
theorem sc_NoForm___init__ : FnScope ["self", "found"] ["self", "found"] (defScope s_NoForm___init__) := ⟨rfl, rfl, rfl, by decide +kernel, rfl, by decide +kernel, by decide +kernel⟩
abbrev s_is_whole : Stmt := top 6
theorem sc_is_whole : FnScope ["thing"] ["thing"] (defScope s_is_whole) := ⟨rfl, rfl, rfl, by decide +kernel, rfl, by decide +kernel, by decide +kernel⟩
abbrev s_is_between : Stmt := top 7
theorem sc_is_between : FnScope ["thing", "low", "high"] ["thing", "low", "high"] (defScope s_is_between) := ⟨rfl, rfl, rfl, by decide +kernel, rfl, by decide +kernel, by decide +kernel⟩
abbrev s_need_width : Stmt := top 8
theorem sc_need_width : FnScope ["width"] ["width"] (defScope s_need_width) := ⟨rfl, rfl, rfl, by decide +kernel, rfl, by decide +kernel, by decide +kernel⟩
abbrev s_brought : Stmt := top 10
theorem sc_brought : FnScope ["reckoning", "x"] ["reckoning", "x"] (defScope s_brought) := ⟨rfl, rfl, rfl, by decide +kernel, rfl, by decide +kernel, by decide +kernel⟩
abbrev s_Form_quotient : Stmt := inClass (top 11) 0
theorem sc_Form_quotient : FnScope ["self", "width", "x"] ["self", "width", "x"] (defScope s_Form_quotient) := ⟨rfl, rfl, rfl, by decide +kernel, rfl, by decide +kernel, by decide +kernel⟩
abbrev s_Shifted_word : Stmt := inClass (top 12) 1
theorem sc_Shifted_word : FnScope ["self"] ["self"] (defScope s_Shifted_word) := ⟨rfl, rfl, rfl, by decide +kernel, rfl, by decide +kernel, by decide +kernel⟩
abbrev s_Shifted_told : Stmt := inClass (top 12) 2
theorem sc_Shifted_told : FnScope ["self"] ["self"] (defScope s_Shifted_told) := ⟨rfl, rfl, rfl, by decide +kernel, rfl, by decide +kernel, by decide +kernel⟩
abbrev s_Shifted___init__ : Stmt := inClass (top 12) 0
theorem sc_Shifted___init__ : FnScope ["self", "shift"] ["self", "shift"] (defScope s_Shifted___init__) := ⟨rfl, rfl, rfl, by decide +kernel, rfl, by decide +kernel, by decide +kernel⟩
abbrev s_Shifted_numbers_in : Stmt := inClass (top 12) 3
theorem sc_Shifted_numbers_in : FnScope ["self", "width"] ["self", "width"] (defScope s_Shifted_numbers_in) := ⟨rfl, rfl, rfl, by decide +kernel, rfl, by decide +kernel, by decide +kernel⟩
abbrev s_Scaled_word : Stmt := inClass (top 13) 1
theorem sc_Scaled_word : FnScope ["self"] ["self"] (defScope s_Scaled_word) := ⟨rfl, rfl, rfl, by decide +kernel, rfl, by decide +kernel, by decide +kernel⟩
abbrev s_Scaled_told : Stmt := inClass (top 13) 2
theorem sc_Scaled_told : FnScope ["self"] ["self"] (defScope s_Scaled_told) := ⟨rfl, rfl, rfl, by decide +kernel, rfl, by decide +kernel, by decide +kernel⟩
abbrev s_Scaled___init__ : Stmt := inClass (top 13) 0
theorem sc_Scaled___init__ : FnScope ["self", "factor", "shift"] ["self", "factor", "shift"] (defScope s_Scaled___init__) := ⟨rfl, rfl, rfl, by decide +kernel, rfl, by decide +kernel, by decide +kernel⟩
abbrev s_Scaled_numbers_in : Stmt := inClass (top 13) 3
theorem sc_Scaled_numbers_in : FnScope ["self", "width"] ["self", "width"] (defScope s_Scaled_numbers_in) := ⟨rfl, rfl, rfl, by decide +kernel, rfl, by decide +kernel, by decide +kernel⟩
abbrev s_Early_word : Stmt := inClass (top 14) 1
theorem sc_Early_word : FnScope ["self"] ["self"] (defScope s_Early_word) := ⟨rfl, rfl, rfl, by decide +kernel, rfl, by decide +kernel, by decide +kernel⟩
abbrev s_Early_told : Stmt := inClass (top 14) 2
theorem sc_Early_told : FnScope ["self"] ["self"] (defScope s_Early_told) := ⟨rfl, rfl, rfl, by decide +kernel, rfl, by decide +kernel, by decide +kernel⟩
abbrev s_Early___init__ : Stmt := inClass (top 14) 0
theorem sc_Early___init__ : FnScope ["self", "early", "factor", "shift"] ["self", "early", "factor", "shift"] (defScope s_Early___init__) := ⟨rfl, rfl, rfl, by decide +kernel, rfl, by decide +kernel, by decide +kernel⟩
abbrev s_Early_numbers_in : Stmt := inClass (top 14) 3
theorem sc_Early_numbers_in : FnScope ["self", "width"] ["self", "width"] (defScope s_Early_numbers_in) := ⟨rfl, rfl, rfl, by decide +kernel, rfl, by decide +kernel, by decide +kernel⟩
abbrev s_More_word : Stmt := inClass (top 15) 1
theorem sc_More_word : FnScope ["self"] ["self"] (defScope s_More_word) := ⟨rfl, rfl, rfl, by decide +kernel, rfl, by decide +kernel, by decide +kernel⟩
abbrev s_More_told : Stmt := inClass (top 15) 2
theorem sc_More_told : FnScope ["self"] ["self"] (defScope s_More_told) := ⟨rfl, rfl, rfl, by decide +kernel, rfl, by decide +kernel, by decide +kernel⟩
abbrev s_More___init__ : Stmt := inClass (top 15) 0
theorem sc_More___init__ : FnScope ["self", "factor", "shift"] ["self", "factor", "shift"] (defScope s_More___init__) := ⟨rfl, rfl, rfl, by decide +kernel, rfl, by decide +kernel, by decide +kernel⟩
abbrev s_More_numbers_in : Stmt := inClass (top 15) 3
theorem sc_More_numbers_in : FnScope ["self", "width"] ["self", "width"] (defScope s_More_numbers_in) := ⟨rfl, rfl, rfl, by decide +kernel, rfl, by decide +kernel, by decide +kernel⟩
abbrev s_Wide_word : Stmt := inClass (top 16) 1
theorem sc_Wide_word : FnScope ["self"] ["self"] (defScope s_Wide_word) := ⟨rfl, rfl, rfl, by decide +kernel, rfl, by decide +kernel, by decide +kernel⟩
abbrev s_Wide_told : Stmt := inClass (top 16) 2
theorem sc_Wide_told : FnScope ["self"] ["self"] (defScope s_Wide_told) := ⟨rfl, rfl, rfl, by decide +kernel, rfl, by decide +kernel, by decide +kernel⟩
abbrev s_Wide___init__ : Stmt := inClass (top 16) 0
theorem sc_Wide___init__ : FnScope ["self", "factor", "shift"] ["self", "factor", "shift"] (defScope s_Wide___init__) := ⟨rfl, rfl, rfl, by decide +kernel, rfl, by decide +kernel, by decide +kernel⟩
abbrev s_Wide_numbers_in : Stmt := inClass (top 16) 3
theorem sc_Wide_numbers_in : FnScope ["self", "width"] ["self", "width"] (defScope s_Wide_numbers_in) := ⟨rfl, rfl, rfl, by decide +kernel, rfl, by decide +kernel, by decide +kernel⟩
abbrev s_is_factor : Stmt := top 17
theorem sc_is_factor : FnScope ["thing"] ["thing"] (defScope s_is_factor) := ⟨rfl, rfl, rfl, by decide +kernel, rfl, by decide +kernel, by decide +kernel⟩
abbrev s_is_shift : Stmt := top 18
theorem sc_is_shift : FnScope ["thing"] ["thing"] (defScope s_is_shift) := ⟨rfl, rfl, rfl, by decide +kernel, rfl, by decide +kernel, by decide +kernel⟩
abbrev s_Cutting_word : Stmt := inClass (top 21) 1
theorem sc_Cutting_word : FnScope ["self"] ["self"] (defScope s_Cutting_word) := ⟨rfl, rfl, rfl, by decide +kernel, rfl, by decide +kernel, by decide +kernel⟩
abbrev s_Cutting_told : Stmt := inClass (top 21) 2
theorem sc_Cutting_told : FnScope ["self"] ["self"] (defScope s_Cutting_told) := ⟨rfl, rfl, rfl, by decide +kernel, rfl, by decide +kernel, by decide +kernel⟩
abbrev s_Cutting___init__ : Stmt := inClass (top 21) 0
theorem sc_Cutting___init__ : FnScope ["self", "factor", "shift"] ["self", "factor", "shift"] (defScope s_Cutting___init__) := ⟨rfl, rfl, rfl, by decide +kernel, rfl, by decide +kernel, by decide +kernel⟩
abbrev s_Cutting_quotient : Stmt := inClass (top 21) 3
theorem sc_Cutting_quotient : FnScope ["self", "width", "x"] ["self", "width", "x"] (defScope s_Cutting_quotient) := ⟨rfl, rfl, rfl, by decide +kernel, rfl, by decide +kernel, by decide +kernel⟩
abbrev s_Turned_word : Stmt := inClass (top 22) 1
theorem sc_Turned_word : FnScope ["self"] ["self"] (defScope s_Turned_word) := ⟨rfl, rfl, rfl, by decide +kernel, rfl, by decide +kernel, by decide +kernel⟩
abbrev s_Turned_told : Stmt := inClass (top 22) 2
theorem sc_Turned_told : FnScope ["self"] ["self"] (defScope s_Turned_told) := ⟨rfl, rfl, rfl, by decide +kernel, rfl, by decide +kernel, by decide +kernel⟩
abbrev s_Turned___init__ : Stmt := inClass (top 22) 0
theorem sc_Turned___init__ : FnScope ["self", "form"] ["self", "form"] (defScope s_Turned___init__) := ⟨rfl, rfl, rfl, by decide +kernel, rfl, by decide +kernel, by decide +kernel⟩
abbrev s_Turned_quotient : Stmt := inClass (top 22) 3
theorem sc_Turned_quotient : FnScope ["self", "width", "x"] ["self", "width", "x"] (defScope s_Turned_quotient) := ⟨rfl, rfl, rfl, by decide +kernel, rfl, by decide +kernel, by decide +kernel⟩
abbrev s__law_start : Stmt := top 24
theorem sc__law_start : FnScope ["_law_script", "_law_k", "_law_cell", "_law_number"] ["_law_script", "_law_k"] (defScope s__law_start) := ⟨rfl, rfl, rfl, by decide +kernel, rfl, by decide +kernel, by decide +kernel⟩
abbrev s__law_draw : Stmt := top 25
theorem sc__law_draw : FnScope ["_law_state", "_law_size", "_law_number", "_law_one", "_law_two"] ["_law_state", "_law_size"] (defScope s__law_draw) := ⟨rfl, rfl, rfl, by decide +kernel, rfl, by decide +kernel, by decide +kernel⟩
abbrev s__law_numbers : Stmt := top 26
theorem sc__law_numbers : FnScope ["_law_told", "_law_width"] ["_law_told", "_law_width"] (defScope s__law_numbers) := ⟨rfl, rfl, rfl, by decide +kernel, rfl, by decide +kernel, by decide +kernel⟩
abbrev s__law_make : Stmt := top 27
theorem sc__law_make : FnScope ["_law_told"] ["_law_told"] (defScope s__law_make) := ⟨rfl, rfl, rfl, by decide +kernel, rfl, by decide +kernel, by decide +kernel⟩
abbrev s__law_whole : Stmt := top 28
theorem sc__law_whole : FnScope ["_law_found"] ["_law_found"] (defScope s__law_whole) := ⟨rfl, rfl, rfl, by decide +kernel, rfl, by decide +kernel, by decide +kernel⟩
abbrev s__law_brought : Stmt := top 29
theorem sc__law_brought : FnScope ["_law_numbers_here", "_law_x", "_law_early", "_law_factor", "_law_addend", "_law_total"] ["_law_numbers_here", "_law_x"] (defScope s__law_brought) := ⟨rfl, rfl, rfl, by decide +kernel, rfl, by decide +kernel, by decide +kernel⟩
abbrev s__law_end : Stmt := top 30
theorem sc__law_end : FnScope ["_law_state", "_law_low", "_law_last", "_law_kind"] ["_law_state", "_law_low", "_law_last"] (defScope s__law_end) := ⟨rfl, rfl, rfl, by decide +kernel, rfl, by decide +kernel, by decide +kernel⟩
abbrev s__law_any : Stmt := top 31
theorem sc__law_any : FnScope ["_law_state", "_law_kind", "_law_factor", "_law_shift"] ["_law_state"] (defScope s__law_any) := ⟨rfl, rfl, rfl, by decide +kernel, rfl, by decide +kernel, by decide +kernel⟩
abbrev s__law_count : Stmt := top 32
theorem sc__law_count : FnScope ["_law_state", "_law_width", "_law_half", "_law_kind"] ["_law_state", "_law_width"] (defScope s__law_count) := ⟨rfl, rfl, rfl, by decide +kernel, rfl, by decide +kernel, by decide +kernel⟩
abbrev s__law_turned_right : Stmt := top 33
theorem sc__law_turned_right : FnScope ["_law_bent", "_law_told", "_law_width", "_law_x", "_law_due", "_law_found"] ["_law_bent", "_law_told", "_law_width", "_law_x"] (defScope s__law_turned_right) := ⟨rfl, rfl, rfl, by decide +kernel, rfl, by decide +kernel, by decide +kernel⟩
abbrev s__law_cutting_right : Stmt := top 34
theorem sc__law_cutting_right : FnScope ["_law_cutting", "_law_factor", "_law_shift", "_law_width", "_law_x", "_law_found"] ["_law_cutting", "_law_factor", "_law_shift", "_law_width", "_law_x"] (defScope s__law_cutting_right) := ⟨rfl, rfl, rfl, by decide +kernel, rfl, by decide +kernel, by decide +kernel⟩
abbrev s__law_no_width : Stmt := top 35
theorem sc__law_no_width : FnScope ["_law_form", "_law_width", "e"] ["_law_form", "_law_width"] (defScope s__law_no_width) := ⟨rfl, rfl, rfl, by decide +kernel, rfl, by decide +kernel, by decide +kernel⟩
abbrev s__law_no_cutting : Stmt := top 36
theorem sc__law_no_cutting : FnScope ["_law_state", "_law_parts", "_law_at", "_law_last", "_law_some", "e"] ["_law_state"] (defScope s__law_no_cutting) := ⟨rfl, rfl, rfl, by decide +kernel, rfl, by decide +kernel, by decide +kernel⟩
abbrev s__law_no_signed : Stmt := top 37
theorem sc__law_no_signed : FnScope ["_law_form", "e"] ["_law_form"] (defScope s__law_no_signed) := ⟨rfl, rfl, rfl, by decide +kernel, rfl, by decide +kernel, by decide +kernel⟩
abbrev s__law_no_turned : Stmt := top 38
theorem sc__law_no_turned : FnScope ["_law_state", "_law_told", "_law_cutting", "_law_bent", "_law_thing", "e"] ["_law_state", "_law_told", "_law_cutting", "_law_bent"] (defScope s__law_no_turned) := ⟨rfl, rfl, rfl, by decide +kernel, rfl, by decide +kernel, by decide +kernel⟩
abbrev s__law_stands : Stmt := top 39
theorem sc__law_stands : FnScope ["_law_cutting", "_law_bent"] ["_law_cutting", "_law_bent"] (defScope s__law_stands) := ⟨rfl, rfl, rfl, by decide +kernel, rfl, by decide +kernel, by decide +kernel⟩
abbrev s__law_case : Stmt := top 40
theorem sc__law_case : FnScope ["_law_state", "_law_told", "_law_factor", "_law_shift", "_law_cutting", "_law_other", "_law_bent", "_law_k", "_law_width", "_law_x"] ["_law_state"] (defScope s__law_case) := ⟨rfl, rfl, rfl, by decide +kernel, rfl, by decide +kernel, by decide +kernel⟩
abbrev s_law : Stmt := top 41
theorem sc_law : FnScope ["_law_script", "_law_k"] ["_law_script"] (defScope s_law) := ⟨rfl, rfl, rfl, by decide +kernel, rfl, by decide +kernel, by decide +kernel⟩
structure Ad where
  Form : Addr
  Shifted : Addr
  Scaled : Addr
  Early : Addr
  More : Addr
  Wide : Addr
  SignedForm : Addr
  Cutting : Addr
  Turned : Addr
  NoWidth : Addr
  NoForm : Addr
  WiseError : Addr
structure Txt (K : PySem.W.Frag) (mg : Str → Option Value) (c : Ad) : Prop where
  n_isinstance : mg "isinstance" = none
  n_int : mg "int" = none
  n_bool : mg "bool" = none
  n_len : mg "len" = none
  n_max : mg "max" = none
  n_min : mg "min" = none
  n_range : mg "range" = none
  n_repr : mg "repr" = none
  n_abs : mg "abs" = none
  g_Form : mg "Form" = some (.ref c.Form)
  cl_Form : Cls K c.Form
  g_Shifted : mg "Shifted" = some (.ref c.Shifted)
  cl_Shifted : Cls K c.Shifted
  na_Shifted_shift : NoAttr K c.Shifted "shift"
  g_Scaled : mg "Scaled" = some (.ref c.Scaled)
  cl_Scaled : Cls K c.Scaled
  na_Scaled_factor : NoAttr K c.Scaled "factor"
  na_Scaled_shift : NoAttr K c.Scaled "shift"
  g_Early : mg "Early" = some (.ref c.Early)
  cl_Early : Cls K c.Early
  na_Early_early : NoAttr K c.Early "early"
  na_Early_factor : NoAttr K c.Early "factor"
  na_Early_shift : NoAttr K c.Early "shift"
  g_More : mg "More" = some (.ref c.More)
  cl_More : Cls K c.More
  na_More_factor : NoAttr K c.More "factor"
  na_More_shift : NoAttr K c.More "shift"
  g_Wide : mg "Wide" = some (.ref c.Wide)
  cl_Wide : Cls K c.Wide
  na_Wide_factor : NoAttr K c.Wide "factor"
  na_Wide_shift : NoAttr K c.Wide "shift"
  g_SignedForm : mg "SignedForm" = some (.ref c.SignedForm)
  cl_SignedForm : Cls K c.SignedForm
  g_Cutting : mg "Cutting" = some (.ref c.Cutting)
  cl_Cutting : Cls K c.Cutting
  na_Cutting_factor : NoAttr K c.Cutting "factor"
  na_Cutting_shift : NoAttr K c.Cutting "shift"
  g_Turned : mg "Turned" = some (.ref c.Turned)
  cl_Turned : Cls K c.Turned
  na_Turned_form : NoAttr K c.Turned "form"
  g_NoWidth : mg "NoWidth" = some (.ref c.NoWidth)
  g_NoForm : mg "NoForm" = some (.ref c.NoForm)
  g_WiseError : mg "WiseError" = some (.ref c.WiseError)
  kf_kc : PySem.W.isClsIn K c.Form = true
  kf_kt : PySem.W.typeIn K (.ref c.Form) = some (.type "type")
  kf_og : PySem.W.specialIn K (.builtin "object.__class__") "__get__" = some (some (.builtin "getset_descriptor.__get__"))
  kf_ot : PySem.W.takesIn K (.builtin "object.__class__") = some true
  kf_dc_Shifted : PySem.W.findIn K (.ref c.Shifted) "__class__" = some (some (.builtin "object.__class__"))
  kf_dc_Scaled : PySem.W.findIn K (.ref c.Scaled) "__class__" = some (some (.builtin "object.__class__"))
  kf_dc_Early : PySem.W.findIn K (.ref c.Early) "__class__" = some (some (.builtin "object.__class__"))
  kf_dc_More : PySem.W.findIn K (.ref c.More) "__class__" = some (some (.builtin "object.__class__"))
  kf_dc_Wide : PySem.W.findIn K (.ref c.Wide) "__class__" = some (some (.builtin "object.__class__"))
  kf_mo_Shifted : PySem.W.mroIn K c.Shifted (.type "object") = some true
  kf_mo_Scaled : PySem.W.mroIn K c.Scaled (.type "object") = some true
  kf_mo_Early : PySem.W.mroIn K c.Early (.type "object") = some true
  kf_mo_More : PySem.W.mroIn K c.More (.type "object") = some true
  kf_mo_Wide : PySem.W.mroIn K c.Wide (.type "object") = some true
  kf_ik_Shifted : PySem.W.mroIn K c.Shifted (.ref c.Form) = some true
  kf_ik_Scaled : PySem.W.mroIn K c.Scaled (.ref c.Form) = some true
  kf_ik_Early : PySem.W.mroIn K c.Early (.ref c.Form) = some true
  kf_ik_More : PySem.W.mroIn K c.More (.ref c.Form) = some true
  kf_ik_Wide : PySem.W.mroIn K c.Wide (.ref c.Form) = some true
  kf_ic_Shifted : PySem.W.isClsIn K c.Shifted = true
  kf_tc_Shifted : PySem.W.typeIn K (.ref c.Shifted) = some (.type "type")
  kf_ic_Scaled : PySem.W.isClsIn K c.Scaled = true
  kf_tc_Scaled : PySem.W.typeIn K (.ref c.Scaled) = some (.type "type")
  kf_ic_Early : PySem.W.isClsIn K c.Early = true
  kf_tc_Early : PySem.W.typeIn K (.ref c.Early) = some (.type "type")
  kf_ic_More : PySem.W.isClsIn K c.More = true
  kf_tc_More : PySem.W.typeIn K (.ref c.More) = some (.type "type")
  kf_ic_Wide : PySem.W.isClsIn K c.Wide = true
  kf_tc_Wide : PySem.W.typeIn K (.ref c.Wide) = some (.type "type")
  kf_if__NoWidth : PySem.W.isClsIn K c.NoWidth = true
  kf_tf_NoWidth : PySem.W.typeIn K (.ref c.NoWidth) = some (.type "type")
  kf_mf_NoWidth : PySem.W.mroIn K c.NoWidth (.ref c.NoWidth) = some true
  kf_wb_NoWidth : PySem.W.mroIn K c.NoWidth (.type "BaseException") = some true
  kf_ga_NoWidth : PySem.W.findIn K (.ref c.NoWidth) "__getattribute__" = some (some (.builtin "BaseException.__getattribute__"))
  kf_gn_NoWidth : PySem.W.findIn K (.ref c.NoWidth) "__getattr__" = some none
  kf_gc_NoWidth : PySem.W.findIn K (.ref c.NoWidth) "__class__" = some (some (.builtin "object.__class__"))
  kf_mo_NoWidth : PySem.W.mroIn K c.NoWidth (.type "object") = some true
  kf_mb_NoWidth : PySem.W.mroIn K c.NoWidth (.type "BaseException") = some true
  kf_hd_NoWidth : PySem.W.hasDictIn K c.NoWidth = true
  kf_nf_NoWidth : PySem.W.findIn K (.ref c.NoWidth) "found" = some none
  kf_if__NoForm : PySem.W.isClsIn K c.NoForm = true
  kf_tf_NoForm : PySem.W.typeIn K (.ref c.NoForm) = some (.type "type")
  kf_mf_NoForm : PySem.W.mroIn K c.NoForm (.ref c.NoForm) = some true
  kf_wb_NoForm : PySem.W.mroIn K c.NoForm (.type "BaseException") = some true
  kf_ga_NoForm : PySem.W.findIn K (.ref c.NoForm) "__getattribute__" = some (some (.builtin "BaseException.__getattribute__"))
  kf_gn_NoForm : PySem.W.findIn K (.ref c.NoForm) "__getattr__" = some none
  kf_gc_NoForm : PySem.W.findIn K (.ref c.NoForm) "__class__" = some (some (.builtin "object.__class__"))
  kf_mo_NoForm : PySem.W.mroIn K c.NoForm (.type "object") = some true
  kf_mb_NoForm : PySem.W.mroIn K c.NoForm (.type "BaseException") = some true
  kf_hd_NoForm : PySem.W.hasDictIn K c.NoForm = true
  kf_nf_NoForm : PySem.W.findIn K (.ref c.NoForm) "found" = some none
  kf_dc_Cutting : PySem.W.findIn K (.ref c.Cutting) "__class__" = some (some (.builtin "object.__class__"))
  kf_mo_Cutting : PySem.W.mroIn K c.Cutting (.type "object") = some true
  kf_dc_Turned : PySem.W.findIn K (.ref c.Turned) "__class__" = some (some (.builtin "object.__class__"))
  kf_mo_Turned : PySem.W.mroIn K c.Turned (.type "object") = some true
  kf_ic_Cutting : PySem.W.isClsIn K c.Cutting = true
  kf_tc_Cutting : PySem.W.typeIn K (.ref c.Cutting) = some (.type "type")
  kf_ic_Turned : PySem.W.isClsIn K c.Turned = true
  kf_tc_Turned : PySem.W.typeIn K (.ref c.Turned) = some (.type "type")
  kf_ic_SignedForm : PySem.W.isClsIn K c.SignedForm = true
  kf_tc_SignedForm : PySem.W.typeIn K (.ref c.SignedForm) = some (.type "type")
  kf_m_Cutting_SignedForm : PySem.W.mroIn K c.Cutting (.ref c.SignedForm) = some true
  kf_m_Cutting_Form : PySem.W.mroIn K c.Cutting (.ref c.Form) = some false
  kf_m_Cutting_Cutting : PySem.W.mroIn K c.Cutting (.ref c.Cutting) = some true
  kf_m_Cutting_Turned : PySem.W.mroIn K c.Cutting (.ref c.Turned) = some false
  kf_m_Turned_SignedForm : PySem.W.mroIn K c.Turned (.ref c.SignedForm) = some true
  kf_m_Turned_Form : PySem.W.mroIn K c.Turned (.ref c.Form) = some false
  kf_m_Turned_Cutting : PySem.W.mroIn K c.Turned (.ref c.Cutting) = some false
  kf_m_Turned_Turned : PySem.W.mroIn K c.Turned (.ref c.Turned) = some true
/-! inverses by doubling -/
structure Stp (w d : Int) (xs : List Int) : Prop where
  ne : 1 ≤ xs.length
  le : xs.length ≤ 5
  hd : xs[0]? = some d
  ok : ∀ (j : Nat) (s : Int), xs[j]? = some s → 0 ≤ s ∧ s < 2 ^ w.toNat ∧ (2 : Int) ^ (min w.toNat (3 * 2 ^ j)) ∣ s * d - 1
  nx : ∀ (j : Nat) (s t : Int), xs[j]? = some s → xs[j + 1]? = some t → ¬ (s * d % 2 ^ w.toNat = 1) ∧ t = s * (2 - d * s) % 2 ^ w.toNat
theorem odd_sq {d : Int} (h : d % 2 = 1) : (8 : Int) ∣ d * d - 1 := by
  have e : d = 2 * (d / 2) + 1 := by omega
  generalize d / 2 = k at e
  subst e
  have e2 : (2 * k + 1) * (2 * k + 1) - 1 = 4 * (k * (k + 1)) := by
    rw [Int.add_mul, Int.mul_add, Int.mul_add, Int.one_mul, Int.mul_one, Int.mul_assoc, Int.mul_left_comm k 2 k, Int.mul_add k k 1, Int.mul_one]
    omega
  rw [e2]
  have h2 : (2 : Int) ∣ k * (k + 1) := by
    rcases (by omega : k % 2 = 0 ∨ (k + 1) % 2 = 0) with h | h
    · exact Int.dvd_trans (Int.dvd_of_emod_eq_zero h) (Int.dvd_mul_right _ _)
    · exact Int.dvd_trans (Int.dvd_of_emod_eq_zero h) (Int.dvd_mul_left _ _)
  obtain ⟨c, hc⟩ := h2
  rw [hc]
  exact ⟨c, by omega⟩
theorem newton_eq (s d : Int) : s * (2 - d * s) * d - 1 = -((s * d - 1) * (s * d - 1)) := by
  have e1 : s * (2 - d * s) * d = 2 * (s * d) - (s * d) * (s * d) := by
    rw [Int.mul_sub, Int.sub_mul]
    congr 1
    · rw [Int.mul_comm s 2, Int.mul_assoc]
    · rw [Int.mul_assoc s d, Int.mul_assoc s, Int.mul_assoc d s d]
  rw [e1]
  generalize s * d = a
  rw [Int.sub_mul, Int.mul_sub, Int.one_mul, Int.mul_one]
  omega
theorem pow_dvd_pow' {a b : Nat} (h : a ≤ b) : (2 : Int) ^ a ∣ 2 ^ b := by
  have e : b = a + (b - a) := by omega
  rw [e, Int.pow_add]
  exact Int.dvd_mul_right _ _
theorem mod_dvd {a b m k : Int} (hk : k ∣ m) (h : k ∣ a * b - 1) : k ∣ a % m * b - 1 := by
  have e : a % m * b - 1 = (a * b - 1) - m * (a / m * b) := by
    have := Int.mul_ediv_add_emod a m
    have e2 : a % m = a - m * (a / m) := by omega
    rw [e2, Int.sub_mul, Int.mul_assoc]
    omega
  rw [e]
  exact Int.dvd_sub h (Int.dvd_trans hk (Int.dvd_mul_right _ _))
theorem one_of_dvd {x m : Int} (hm : 1 < m) (h : m ∣ x - 1) : x % m = 1 := by
  obtain ⟨c, hc⟩ := h
  have e : x = 1 + m * c := by omega
  rw [e, Int.add_mul_emod_self_left]
  exact Int.emod_eq_of_lt (by omega) hm
theorem p_gt {w : Int} (h1 : 4 ≤ w) : (1 : Int) < 2 ^ w.toNat := by
  have e : w.toNat = (w.toNat - 1) + 1 := by omega
  rw [e, Int.pow_succ]
  have : (0 : Int) < 2 ^ (w.toNat - 1) := Int.pow_pos (by decide)
  omega
theorem Stp.start {w d : Int} (h1 : 4 ≤ w) (d0 : 0 ≤ d) (d1 : d < 2 ^ w.toNat) (ho : d % 2 = 1) : Stp w d [d] := by
  refine ⟨by simp, by simp, rfl, ?_, ?_⟩
  · intro j s h
    have hj : j = 0 := by
      cases j with
      | zero => rfl
      | succ j => simp at h
    subst hj
    have e : d = s := by simpa using h
    subst e
    refine ⟨d0, d1, ?_⟩
    have e2 : min w.toNat (3 * 2 ^ 0) = 3 := by omega
    rw [e2]
    exact odd_sq ho
  · intro j s t _ h
    simp at h
theorem Stp.last {w d : Int} {xs : List Int} (p : Stp w d xs) : ∃ s, xs[xs.length - 1]? = some s := ⟨_, List.getElem?_eq_getElem (by have := p.ne; omega)⟩
theorem Stp.more {w d s : Int} {xs : List Int} (h1 : 4 ≤ w) (h2 : w ≤ 32) (p : Stp w d xs) (hs : xs[xs.length - 1]? = some s) (hn : ¬ (s * d % 2 ^ w.toNat = 1)) : Stp w d (xs ++ [s * (2 - d * s) % 2 ^ w.toNat]) := by
  have ne := p.ne
  have le := p.le
  have os := p.ok _ _ hs
  have hm : 3 * 2 ^ (xs.length - 1) < w.toNat := by
    refine Classical.byContradiction fun z => hn ?_
    have e : min w.toNat (3 * 2 ^ (xs.length - 1)) = w.toNat := by omega
    rw [e] at os
    exact one_of_dvd (p_gt h1) os.2.2
  have hl : xs.length ≤ 4 := by
    refine Classical.byContradiction fun z => ?_
    have e : xs.length = 5 := by omega
    rw [e] at hm
    have : 3 * 2 ^ (5 - 1) = 48 := by decide
    omega
  have hp : (0 : Int) < 2 ^ w.toNat := Int.pow_pos (by decide)
  refine ⟨by simp, by simp; omega, ?_, ?_, ?_⟩
  · rw [List.getElem?_append_left (by omega)]
    exact p.hd
  · intro j t h
    by_cases hj : j < xs.length
    · rw [List.getElem?_append_left hj] at h
      exact p.ok j t h
    · have hj2 : j = xs.length := by
        have := (List.getElem?_eq_some_iff.mp h).1
        simp at this
        omega
      subst hj2
      rw [List.getElem?_append_right (Nat.le_refl _)] at h
      have e : s * (2 - d * s) % 2 ^ w.toNat = t := by simpa using h
      subst e
      refine ⟨Int.emod_nonneg _ (by omega), Int.emod_lt_of_pos _ hp, ?_⟩
      refine mod_dvd (pow_dvd_pow' (by omega)) ?_
      rw [newton_eq]
      refine Int.dvd_neg.mpr ?_
      have e3 : min w.toNat (3 * 2 ^ (xs.length - 1)) = 3 * 2 ^ (xs.length - 1) := by omega
      rw [e3] at os
      have e4 : 3 * 2 ^ xs.length = 3 * 2 ^ (xs.length - 1) + 3 * 2 ^ (xs.length - 1) := by
        have e : xs.length = (xs.length - 1) + 1 := by omega
        have q : 2 ^ (xs.length - 1 + 1) = 2 ^ (xs.length - 1) * 2 := Nat.pow_succ _ _
        rw [← e] at q
        omega
      refine Int.dvd_trans (pow_dvd_pow' (b := 3 * 2 ^ xs.length) (by omega)) ?_
      rw [e4, Int.pow_add]
      exact Int.mul_dvd_mul os.2.2 os.2.2
  · intro j a b ha hb
    by_cases hj : j + 1 < xs.length
    · rw [List.getElem?_append_left (by omega)] at ha hb
      exact p.nx j a b ha hb
    · have hj2 : j + 1 = xs.length := by
        have := (List.getElem?_eq_some_iff.mp hb).1
        simp at this
        omega
      rw [List.getElem?_append_left (by omega)] at ha
      rw [List.getElem?_append_right (by omega)] at hb
      have e : j = xs.length - 1 := by omega
      subst e
      rw [hs] at ha
      cases ha
      have e2 : xs.length - 1 + 1 - xs.length = 0 := by omega
      rw [e2] at hb
      exact ⟨hn, by simpa using hb.symm⟩
/-! twos, exact quotients, multiples -/
/-- 2 ^ t goes into d, and 2 ^ (t + 1) does not -/
def Tw (d t : Int) : Prop := 0 ≤ t ∧ d = d / 2 ^ t.toNat * 2 ^ t.toNat ∧ d / 2 ^ t.toNat % 2 = 1
def rot (w y t : Int) : Int := y / 2 ^ t.toNat + y % 2 ^ t.toNat * 2 ^ (w - t).toNat
/-! ### sizes -/
theorem pw_bounds {w : Int} (h1 : 4 ≤ w) (h2 : w ≤ 32) : 16 ≤ (2 : Int) ^ w.toNat ∧ (2 : Int) ^ w.toNat ≤ 4294967296 := by
  have a : (2 : Int) ^ 4 ≤ 2 ^ w.toNat := p_mono (by omega)
  have b : (2 : Int) ^ w.toNat ≤ 2 ^ 32 := p_mono (by omega)
  exact ⟨a, b⟩
theorem log_small {m : Int} (h0 : 0 < m) (h : m < 2 ^ 100) : m.natAbs.log2 < 9000 := by
  have h1 : m.natAbs ≠ 0 := by omega
  have h2 : m.natAbs < 2 ^ 100 := by omega
  have := (Nat.log2_lt h1).mpr h2
  omega
theorem cpow1 {w : Int} (h1 : 0 ≤ w) (h2 : w ≤ 100000) : CPow 1 w := ⟨h1, by omega, by decide⟩
theorem cmul_l {x y : Int} (h0 : 0 ≤ x) (h : x < 2 ^ 64) : CMul x y := .inl ⟨by omega, h⟩
theorem sz2 : (2 : Nat) ≤ sizeLine := by decide
/-! ### two ints in a list: a box of draws -/
def Bx (H : Hp) (p : Addr) : Prop := ∃ r s : Int, H p = some (.lst [.int r, .int s])
theorem Bx.same {H H' : Hp} {p : Addr} (b : Bx H p) (s : Same H H') : Bx H' p := by
  obtain ⟨r, s', h⟩ := b
  exact ⟨r, s', s _ _ h⟩
theorem Same_thenX {p : Addr} {H H1 H2 : Hp} (hp : H p = none) (s : Same H H1) (x : SameX p H1 H2) : Same H H2 := fun b o h => x b o (ne_of_none h hp) (s b o h)
def Last (w d : Int) (xs : List Int) : Prop := ∀ s, xs[xs.length - 1]? = some s → s * d % 2 ^ w.toNat = 1
def spWhole : Sp := fun vs H Q _ => ∃ i : Int, vs = [.int i] ∧ Q (.bl true) H
def spBetween : Sp := fun vs H Q _ => ∃ i lo hi : Int, vs = [.int i, .int lo, .int hi] ∧ lo ≤ i ∧ i ≤ hi ∧ Q (.bl true) H
def spNeedW : Sp := fun vs H Q _ => ∃ i : Int, vs = [.int i] ∧ 4 ≤ i ∧ i ≤ 32 ∧ Q .non H
def spNeedD : Sp := fun vs H Q _ => ∃ w d : Int, vs = [.int w, .int d] ∧ 4 ≤ w ∧ w ≤ 32 ∧ 1 ≤ d ∧ d < 2 ^ w.toNat ∧ Q .non H
def spNeedOdd : Sp := fun vs H Q _ => ∃ w d : Int, vs = [.int w, .int d] ∧ 4 ≤ w ∧ w ≤ 32 ∧ 1 ≤ d ∧ d < 2 ^ w.toNat ∧ d % 2 = 1 ∧ Q .non H
def spSteps : Sp := fun vs H Q _ => ∃ w d : Int, vs = [.int w, .int d] ∧ 4 ≤ w ∧ w ≤ 32 ∧ 1 ≤ d ∧ d < 2 ^ w.toNat ∧ d % 2 = 1 ∧ ∀ (p : Addr) (xs : List Int) H', H p = none → H' p = some (.lst (xs.map V.int)) → Same H H' → Stp w d xs → Last w d xs → Q (.ref p) H'
def spInv : Sp := fun vs H Q _ => ∃ w d : Int, vs = [.int w, .int d] ∧ 4 ≤ w ∧ w ≤ 32 ∧ 1 ≤ d ∧ d < 2 ^ w.toNat ∧ d % 2 = 1 ∧ ∀ (v : Int) H', Same H H' → 0 ≤ v → v < 2 ^ w.toNat → v * d % 2 ^ w.toNat = 1 → Q (.int v) H'
def spStart (K : PySem.W.Frag) : Sp := fun vs H Q _ => ∃ (a : Addr) (ns : List Int) (k : Int), vs = [.ref a, .int k] ∧ SqL K H a (ns.map V.int) ∧ 0 ≤ k ∧ k ≤ 1000 ∧ ∀ p H', H p = none → Bx H' p → Same H H' → Q (.ref p) H'
def spTake : Sp := fun vs H Q _ => ∃ (p : Addr) (m : Int), vs = [.ref p, .int m] ∧ Bx H p ∧ 0 < m ∧ m < 2 ^ 100 ∧ ∀ (d : Int) H', 0 ≤ d → d < m → Bx H' p → SameX p H H' → Q (.int d) H'
def spDiv : Sp := fun vs H Q _ => ∃ (p : Addr) (w : Int), vs = [.ref p, .int w] ∧ Bx H p ∧ 4 ≤ w ∧ w ≤ 32 ∧ ∀ (d : Int) H', 1 ≤ d → d < 2 ^ w.toNat → Bx H' p → SameX p H H' → Q (.int d) H'
def spCase : Sp := fun vs H Q _ => ∃ p : Addr, vs = [.ref p] ∧ Bx H p ∧ ∀ H', SameX p H H' → Q (.bl true) H'
def spLaw (K : PySem.W.Frag) : Sp := fun vs H Q _ => ∃ (a : Addr) (ns : List Int), vs = [.ref a] ∧ SqL K H a (ns.map V.int) ∧ ns.length ≤ 63 ∧ ∀ H', Q (.bl true) H'
def lenOf : Option HO → Nat
  | some (.lst ys) => ys.length
  | _ => 0
def Iv (w d t i : Int) : Prop := 0 ≤ i ∧ i < 2 ^ w.toNat ∧ d / 2 ^ t.toNat * i % 2 ^ w.toNat = 1
def spTwos : Sp := fun vs H Q _ => ∃ d : Int, vs = [.int d] ∧ 1 ≤ d ∧ ∀ t : Int, Tw d t → Q (.int t) H
def spExact : Sp := fun vs H Q _ => ∃ w d : Int, vs = [.int w, .int d] ∧ 4 ≤ w ∧ w ≤ 32 ∧ 1 ≤ d ∧ d < 2 ^ w.toNat ∧ ∀ (p : Addr) (t i : Int) H', H p = none → H' p = some (.tup [.int t, .int i]) → Same H H' → Tw d t → Iv w d t i → Q (.ref p) H'
def spExq : Sp := fun vs H Q _ => ∃ w d x : Int, vs = [.int w, .int d, .int x] ∧ 4 ≤ w ∧ w ≤ 32 ∧ 1 ≤ d ∧ d < 2 ^ w.toNat ∧ 0 ≤ x ∧ x < 2 ^ w.toNat ∧ ∀ (t i : Int) H', Same H H' → Tw d t → Iv w d t i → Q (.int (x / 2 ^ t.toNat * i % (1 * 2 ^ w.toNat))) H'
def spTurned : Sp := fun vs H Q _ => ∃ w x k : Int, vs = [.int w, .int x, .int k] ∧ 4 ≤ w ∧ w ≤ 32 ∧ 0 ≤ k ∧ k < w ∧ Q (.int (rot w x k)) H
def spLTurned : Sp := fun vs H Q _ => ∃ w x k : Int, vs = [.int w, .int x, .int k] ∧ 4 ≤ w ∧ w ≤ 32 ∧ 0 ≤ k ∧ k < w ∧ Q (.int (rot w x k)) H
def spMultOf : Sp := fun vs H Q _ => ∃ w d : Int, vs = [.int w, .int d] ∧ 4 ≤ w ∧ w ≤ 32 ∧ 1 ≤ d ∧ d < 2 ^ w.toNat ∧ ∀ (p : Addr) (t i : Int) H', H p = none → H' p = some (.tup [.int i, .int t, .int ((1 * 2 ^ w.toNat - 1) / d)]) → Same H H' → Tw d t → Iv w d t i → Q (.ref p) H'
def spIsMult : Sp := fun vs H Q _ => ∃ w d x : Int, vs = [.int w, .int d, .int x] ∧ 4 ≤ w ∧ w ≤ 32 ∧ 1 ≤ d ∧ d < 2 ^ w.toNat ∧ 0 ≤ x ∧ x < 2 ^ w.toNat ∧ ∀ H', Same H H' → Q (.bl (decide (x % d = 0))) H'
def InW (w : Int) (xs : List Int) : Prop := ∀ (j : Nat) (x : Int), xs[j]? = some x → 0 ≤ x ∧ x < 2 ^ w.toNat
def spWords : Sp := fun vs H Q _ => ∃ (p : Addr) (w d : Int), vs = [.ref p, .int w, .int d] ∧ Bx H p ∧ 4 ≤ w ∧ w ≤ 32 ∧ 1 ≤ d ∧ d < 2 ^ w.toNat ∧ ∀ (l : Addr) (xs : List Int) H', H l = none → H' l = some (.lst (xs.map V.int)) → InW w xs → Bx H' p → SameX p H H' → Q (.ref l) H'
def spWordR : Sp := fun vs H Q _ => ∃ w d x t i : Int, vs = [.int w, .int d, .int x, .int t, .int i] ∧ 4 ≤ w ∧ w ≤ 32 ∧ 1 ≤ d ∧ d < 2 ^ w.toNat ∧ 0 ≤ x ∧ x < 2 ^ w.toNat ∧ Tw d t ∧ Iv w d t i ∧ ∀ H', Same H H' → Q (.bl true) H'
theorem InW.nil {w : Int} : InW w [] := fun j x h => by simp at h
theorem InW.cons {w x : Int} {xs : List Int} (h0 : 0 ≤ x) (h1 : x < 2 ^ w.toNat) (a : InW w xs) : InW w (x :: xs) := by
  intro j y h
  cases j with
  | zero => cases h; exact ⟨h0, h1⟩
  | succ j => exact a j y h
def CorM (last d x : Int) : Prop := x = 0 ∨ x = (if d - 1 < last then d - 1 else last) ∨ x = last / d * d ∨ x = last ∨ (last / d ≠ 0 ∧ x = last / d * d - 1)
def Cor (last d : Int) (zs : List Int) : Prop := zs.Pairwise (· < ·) ∧ ∀ x, x ∈ zs ↔ CorM last d x
def brt (e f a t x : Int) : Int := (f * (x / 2 ^ e.toNat) + a) / 2 ^ t.toNat
theorem dv {n T k : Int} (hT : 0 < T) : n / T = k ↔ k * T ≤ n ∧ n < k * T + T := by
  constructor
  · rintro rfl
    have h1 := Int.mul_ediv_add_emod n T
    have h2 := Int.emod_nonneg n (Int.ne_of_gt hT)
    have h3 := Int.emod_lt_of_pos n hT
    rw [Int.mul_comm] at h1
    omega
  · rintro ⟨h1, h2⟩
    refine Int.le_antisymm ?_ ?_
    · exact Int.le_of_lt_add_one (Int.ediv_lt_of_lt_mul hT (by rw [Int.add_mul, Int.one_mul]; exact h2))
    · exact Int.le_ediv_of_mul_le hT h1
/-- a straight line between two places -/
theorem line {m c k q : Int} (h0 : 0 ≤ k) (h1 : k ≤ q) (a : 0 ≤ c) (b : 0 ≤ c + q * m) : 0 ≤ c + k * m := by
  by_cases hm : 0 ≤ m
  · have := Int.mul_nonneg h0 hm
    omega
  · have : q * m ≤ k * m := Int.mul_le_mul_of_nonpos_right h1 (by omega)
    omega
theorem b200 {x : Int} (h1 : -(2 ^ 200) < x) (h2 : x < 2 ^ 200) : intBits x ≤ 100000 := Nat.le_trans (intBits_le_iff.mpr (show x.natAbs < 2 ^ 200 by omega)) (by decide)
def spCorners : Sp := fun vs H Q _ => ∃ last d : Int, vs = [.int last, .int d] ∧ 0 ≤ last ∧ last ≤ 18446744073709551616 ∧ 1 ≤ d ∧ d ≤ 18446744073709551616 ∧ ∀ (p : Addr) (zs : List Int) H', H p = none → H' p = some (.lst (zs.map V.int)) → Same H H' → Cor last d zs → zs.length ≤ 5 → Q (.ref p) H'
def spCWords : Sp := fun vs H Q _ => ∃ w d : Int, vs = [.int w, .int d] ∧ 4 ≤ w ∧ w ≤ 32 ∧ 1 ≤ d ∧ d < 2 ^ w.toNat ∧ ∀ (p : Addr) (zs : List Int) H', H p = none → H' p = some (.lst (zs.map V.int)) → Same H H' → Cor (1 * 2 ^ w.toNat - 1) d zs → zs.length ≤ 5 → Q (.ref p) H'
def Reck (d e f a t : Int) : Prop := 0 ≤ e ∧ (2 : Int) ^ e.toNat ∣ d ∧ 0 ≤ f ∧ f ≤ 1180591620717411303424 ∧ 0 ≤ a ∧ a ≤ 1180591620717411303424 ∧ 0 ≤ t ∧ t ≤ 130
def spReck : Sp := fun vs H Q _ => ∃ (p : Addr) (w d : Int), vs = [.ref p, .int w, .int d] ∧ Bx H p ∧ 2 ≤ w ∧ w ≤ 20 ∧ 1 ≤ d ∧ d ≤ 18446744073709551616 ∧ ∀ (r : Addr) (e f a t : Int) H', H' r = some (.tup [.int e, .int f, .int a, .int t]) → Reck d e f a t → Bx H' p → SameX p H H' → r ≠ p → Q (.ref r) H'
def spList : Sp := fun vs H Q _ => ∃ (a b : Addr) (zs : List Int), vs = [.ref a, .ref b] ∧ H a = some (.lst (zs.map V.int)) ∧ H b = some (.lst (zs.map V.int)) ∧ Q (.bl true) H
def spPair : Sp := fun vs H Q _ => ∃ p : Addr, vs = [.ref p] ∧ Bx H p ∧ ∀ (r : Addr) (d last : Int) H', H' r = some (.tup [.int d, .int last]) → 1 ≤ d → d ≤ 18446744073709551616 → 0 ≤ last → last ≤ 18446744073709551616 → Bx H' p → SameX p H H' → Q (.ref r) H'
theorem upd_upd {H : Hp} {l : Addr} {a b : HO} : upd (upd H l a) l b = upd H l b := by
  funext c
  by_cases h : c = l
  · rw [h, upd_same, upd_same]
  · rw [upd_ne h, upd_ne h, upd_ne h]
theorem made_same {x dx C : Addr} {H H' : Hp} (hx : H x = none) (hd : H dx = none) (s : SameX x (upd (upd H dx (.own x)) x (.ins C dx [])) H') : Same H H' := fun b o h => s b o (ne_of_none h hx) (by rw [upd_ne (ne_of_none h hx), upd_ne (ne_of_none h hd)]; exact h)
theorem CorM.range {last d x : Int} (l0 : 0 ≤ last) (d1 : 1 ≤ d) (h : CorM last d x) : 0 ≤ x ∧ x ≤ last := by
  have h0 := Int.ediv_nonneg l0 (show 0 ≤ d by omega)
  have h2 := Int.mul_nonneg h0 (show 0 ≤ d by omega)
  have h3 := Int.ediv_mul_le last (show d ≠ 0 by omega)
  rcases h with e | e | e | e | ⟨hz, e⟩
  · omega
  · rw [e]; split <;> omega
  · omega
  · omega
  · have := Int.mul_le_mul (show 1 ≤ last / d by omega) d1 (by decide) h0
    omega
theorem iteC {c A B : Prop} [Decidable c] (h1 : c → A) (h2 : ¬ c → B) : if decide c = true then A else B := by
  by_cases h : c
  · exact iteD h (h1 h)
  · exact iteDN h (h2 h)
theorem iteCN {c A B : Prop} [Decidable c] (h1 : ¬ c → A) (h2 : c → B) : if (!decide c) = true then A else B := by
  by_cases h : c
  · exact iteNS h (h2 h)
  · exact iteN h (h1 h)
theorem iteI {a b : Int} {A B : Prop} (h1 : a = b → A) (h2 : a ≠ b → B) : if decide (V.int a = V.int b) = true then A else B := iteC (fun z => h1 (by injection z)) (fun z => h2 (fun e => z (congrArg V.int e)))
theorem iteIN {a b : Int} {A B : Prop} (h1 : a ≠ b → A) (h2 : a = b → B) : if (!decide (V.int a = V.int b)) = true then A else B := iteCN (fun z => h1 (fun e => z (congrArg V.int e))) (fun z => h2 (by injection z))
/-- the side of a rule -/
local macro_rules | `(tactic| walk_at "s") => `(tactic| first
  | omega | assumption | exact ty_int | exact rfl | (dsimp only; omega) | exact cpow1 (by omega) (by omega) | exact ⟨by decide, by decide⟩ | exact ⟨by omega, log_small (by omega) (by omega)⟩
  | exact .inr ⟨by decide, by decide⟩ | exact .inl ⟨by decide, by decide⟩ | exact .inl ⟨by omega, by omega⟩ | exact .inr ⟨by omega, by omega⟩ | exact ⟨b200 (by omega) (by omega), b200 (by omega) (by omega)⟩
  | exact ⟨by decide, by decide, by decide⟩ | exact Nat.le_of_ble_eq_true rfl)
local macro_rules | `(tactic| walk_at "q") => `(tactic| first | exact SqT.of (by first | assumption | exact upd_same) | exact SqL.of (by first | assumption | exact upd_same) | assumption)
/-- on, as far as nothing is to be told -/
local macro_rules | `(tactic| walk_at "o") => `(tactic| repeat (first
  | refine ⟨_, rfl, ?_⟩ | refine ⟨_, _, rfl, rfl, ?_⟩ | with_reducible refine iteF ?_ | with_reducible refine iteT ?_
  | refine ⟨_, _, _, _, rfl, rfl, (by walk_at "q"), rfl, ?_⟩
  | refine And.intro (by walk_at "s") ?_
  | refine ⟨_, _, rfl, ?_⟩ | refine ⟨_, _, _, rfl, ?_⟩
  | refine ⟨_, _, _, _, _, rfl, rfl, TyOf.int _, kit_int_int _, ?_⟩ | refine ⟨_, _, _, _, _, rfl, rfl, TyOf.int _, kit_int_bool _, ?_⟩
  | refine ⟨_, _, _, _, _, rfl, rfl, TyOf.bl _, rfl, ?_⟩
  | refine ⟨_, _, _, _, _, rfl, rfl, TyOf.tup (by assumption), rfl, ?_⟩
  | refine ⟨_, _, rfl, .inr (SqT.of (by assumption)), ?_⟩ | refine ⟨_, _, rfl, .inl (SqL.of (by assumption)), ?_⟩
  | with_reducible refine iteD (by omega) ?_ | with_reducible refine iteDN (by omega) ?_ | with_reducible refine iteN (by omega) ?_ | with_reducible refine iteNS (by omega) ?_
  | with_reducible refine iteNS rfl ?_))
/-- a way parts -/
local macro_rules | `(tactic| walk_at "c") => `(tactic| first | with_reducible refine iteI ?_ ?_ | with_reducible refine iteIN ?_ ?_ | with_reducible refine iteC ?_ ?_ | with_reducible refine iteCN ?_ ?_ | refine ite2 ?_ ?_)
local macro_rules | `(tactic| walk_at "n") => `(tactic| (intro z; injection z with z; revert z; decide +kernel))
theorem sz4 : (4 : Nat) ≤ sizeLine := by decide
/-! ### reckonings of any kind, and forms -/
def AllG (e f a t d n : Int) : Prop := ∀ x, 0 ≤ x → x ≤ n → brt e f a t x = x / d
theorem xdiv {x : Int} (x0 : 0 ≤ x) (e : Int) : 0 ≤ x / 2 ^ e.toNat ∧ x / 2 ^ e.toNat ≤ x := ⟨Int.ediv_nonneg x0 (Int.le_of_lt (p_pos _)), Int.ediv_le_self _ x0⟩
theorem e_small {w d e : Int} (w0 : 0 ≤ w) (d1 : 1 ≤ d) (d2 : d < 2 ^ w.toNat) (he : (2 : Int) ^ e.toNat ∣ d) (e0 : 0 ≤ e) : e < w := by
  refine Classical.byContradiction fun z => ?_
  have := Int.le_of_dvd (by omega) he
  have : (2 : Int) ^ w.toNat ≤ 2 ^ e.toNat := p_mono (by omega)
  omega
def RG (e f a t : Int) : Prop := 0 ≤ e ∧ e ≤ 64 ∧ 0 ≤ f ∧ f ≤ 1180591620717411303424 ∧ 0 ≤ a ∧ a ≤ 1180591620717411303424 ∧ 0 ≤ t ∧ t ≤ 130
def IsG (H : Hp) (r : Addr) (e f a t : Int) : Prop := H r = some (.tup [.int e, .int f, .int a, .int t])
def fOf (c : Ad) : Nat → Addr
  | 0 => c.Shifted
  | 1 => c.Scaled
  | 2 => c.Early
  | 3 => c.More
  | _ => c.Wide
def flds : Nat → Int → Int → Int → List (Str × V)
  | 0, _, _, s => [("shift", .int s)]
  | 2, e, f, s => [("early", .int e), ("factor", .int f), ("shift", .int s)]
  | _, _, f, s => [("factor", .int f), ("shift", .int s)]
def FO (c : Ad) (H : Hp) (x : Addr) (kd : Nat) (e f s : Int) : Prop := ∃ dx, H x = some (.ins (fOf c kd) dx (flds kd e f s))
structure Fm (kd : Nat) (e f s : Int) : Prop where
  k : kd < 5
  ea : 0 ≤ e
  eb : e ≤ 64
  e0 : kd ≠ 2 → e = 0
  fa : 0 ≤ f
  fb : f ≤ 4294967295
  sa : 0 ≤ s
  sb : s ≤ 64
  s1 : kd = 4 → 1 ≤ s
def nF : Nat → Int → Int → Int
  | 0, _, _ => 1
  | 4, w, f => 1 * 2 ^ w.toNat + f
  | _, _, f => f
def nA : Nat → Int → Int
  | 3, f => f
  | _, _ => 0
def nT : Nat → Int → Int → Int
  | 0, _, s => s
  | _, w, s => w + s
theorem Fm.rg {kd : Nat} {e f s w : Int} (h : Fm kd e f s) (h1 : 4 ≤ w) (h2 : w ≤ 32) : RG e (nF kd w f) (nA kd f) (nT kd w s) := by
  obtain ⟨k, ea, eb, e0, fa, fb, sa, sb, s1⟩ := h
  have pb := pw_bounds h1 h2
  rcases (by omega : kd = 0 ∨ kd = 1 ∨ kd = 2 ∨ kd = 3 ∨ kd = 4) with rfl | rfl | rfl | rfl | rfl <;> refine ⟨ea, eb, ?_⟩ <;> simp only [nF, nA, nT] <;> omega
def tlv : Nat → Int → Int → Int → List V
  | 0, _, _, s => [.str "shifted", .int s]
  | 1, _, f, s => [.str "scaled", .int f, .int s]
  | 2, e, f, s => [.str "early", .int e, .int f, .int s]
  | 3, _, f, s => [.str "more", .int f, .int s]
  | _, _, f, s => [.str "wide", .int f, .int s]
theorem fl_num {kd : Nat} {e f s : Int} : (flds kd e f s).lookup ("numbers_in" : Str) = none := by
  unfold flds
  split <;> rfl
def spBroG : Sp := fun vs H Q _ => ∃ (r : Addr) (e f a t x : Int), vs = [.ref r, .int x] ∧ IsG H r e f a t ∧ RG e f a t ∧ 0 ≤ x ∧ x ≤ 1267650600228229401496703205376 ∧ Q (.int (brt e f a t x)) H
def spFac : Sp := fun vs H Q _ => ∃ i : Int, vs = [.int i] ∧ 0 ≤ i ∧ i ≤ 4294967295 ∧ Q (.bl true) H
def spShf : Sp := fun vs H Q _ => ∃ i : Int, vs = [.int i] ∧ 0 ≤ i ∧ i ≤ 64 ∧ Q (.bl true) H
def spIsG : Sp := fun vs H Q _ => ∃ (r : Addr) (e f a t : Int), vs = [.ref r] ∧ IsG H r e f a t ∧ RG e f a t ∧ Q (.bl true) H
def spNeedG : Sp := fun vs H Q _ => ∃ (w d : Int) (r : Addr) (e f a t : Int), vs = [.int w, .int d, .ref r] ∧ 4 ≤ w ∧ w ≤ 32 ∧ 1 ≤ d ∧ d < 2 ^ w.toNat ∧ IsG H r e f a t ∧ RG e f a t ∧ (2 : Int) ^ e.toNat ∣ d ∧ Q .non H
def spRightG : Sp := fun vs H Q _ => ∃ (last d : Int) (r : Addr) (e f a t : Int), vs = [.int last, .int d, .ref r] ∧ 0 ≤ last ∧ last ≤ 18446744073709551616 ∧ 1 ≤ d ∧ d ≤ 18446744073709551616 ∧ IsG H r e f a t ∧ RG e f a t ∧ (2 : Int) ^ e.toNat ∣ d ∧ ∀ (b : Bool) H', Same H H' → (b = true ↔ AllG e f a t d last) → Q (.bl b) H'
def spRRG : Sp := fun vs H Q _ => ∃ (w d : Int) (r : Addr) (e f a t : Int), vs = [.int w, .int d, .ref r] ∧ 4 ≤ w ∧ w ≤ 32 ∧ 1 ≤ d ∧ d < 2 ^ w.toNat ∧ IsG H r e f a t ∧ RG e f a t ∧ (2 : Int) ^ e.toNat ∣ d ∧ ∀ (b : Bool) H', Same H H' → (b = true ↔ AllG e f a t d (1 * 2 ^ w.toNat - 1)) → Q (.bl b) H'
def spI0 (c : Ad) : Sp := fun vs H Q _ => ∃ (x dx : Addr) (s : Int), vs = [.ref x, .int s] ∧ H x = some (.ins (fOf c 0) dx []) ∧ 0 ≤ s ∧ s ≤ 64 ∧ ∀ H', SameX x H H' → FO c H' x 0 0 0 s → Q .non H'
def spI2 (c : Ad) (kd : Nat) (lo : Int) : Sp := fun vs H Q _ => ∃ (x dx : Addr) (f s : Int), vs = [.ref x, .int f, .int s] ∧ H x = some (.ins (fOf c kd) dx []) ∧ 0 ≤ f ∧ f ≤ 4294967295 ∧ lo ≤ s ∧ s ≤ 64 ∧ ∀ H', SameX x H H' → FO c H' x kd 0 f s → Q .non H'
def spI3 (c : Ad) : Sp := fun vs H Q _ => ∃ (x dx : Addr) (e f s : Int), vs = [.ref x, .int e, .int f, .int s] ∧ H x = some (.ins (fOf c 2) dx []) ∧ 0 ≤ e ∧ e ≤ 64 ∧ 0 ≤ f ∧ f ≤ 4294967295 ∧ 0 ≤ s ∧ s ≤ 64 ∧ ∀ H', SameX x H H' → FO c H' x 2 e f s → Q .non H'
def spNums (c : Ad) (kd : Nat) : Sp := fun vs H Q _ => ∃ (x : Addr) (w e f s : Int), vs = [.ref x, .int w] ∧ FO c H x kd e f s ∧ Fm kd e f s ∧ 4 ≤ w ∧ w ≤ 32 ∧ ∀ r H', H r = none → IsG H' r e (nF kd w f) (nA kd f) (nT kd w s) → Same H H' → Q (.ref r) H'
def spNeedF (c : Ad) : Sp := fun vs H Q _ => ∃ (w d : Int) (x : Addr) (kd : Nat) (e f s : Int), vs = [.int w, .int d, .ref x] ∧ 4 ≤ w ∧ w ≤ 32 ∧ 1 ≤ d ∧ d < 2 ^ w.toNat ∧ FO c H x kd e f s ∧ Fm kd e f s ∧ (2 : Int) ^ e.toNat ∣ d ∧ ∀ H', Same H H' → Q .non H'
def spIR (c : Ad) : Sp := fun vs H Q _ => ∃ (w d : Int) (x : Addr) (kd : Nat) (e f s : Int), vs = [.int w, .int d, .ref x] ∧ 4 ≤ w ∧ w ≤ 32 ∧ 1 ≤ d ∧ d < 2 ^ w.toNat ∧ FO c H x kd e f s ∧ Fm kd e f s ∧ (2 : Int) ^ e.toNat ∣ d ∧ ∀ (b : Bool) H', Same H H' → (b = true ↔ AllG e (nF kd w f) (nA kd f) (nT kd w s) d (1 * 2 ^ w.toNat - 1)) → Q (.bl b) H'
def spNumb : Sp := fun vs H Q _ => ∃ (r : Addr) (w : Int) (kd : Nat) (e f s : Int), vs = [.ref r, .int w] ∧ H r = some (.tup (tlv kd e f s)) ∧ Fm kd e f s ∧ 4 ≤ w ∧ w ≤ 32 ∧ ∀ p H', H p = none → IsG H' p e (nF kd w f) (nA kd f) (nT kd w s) → Same H H' → Q (.ref p) H'
def spMakeF (c : Ad) : Sp := fun vs H Q _ => ∃ (r : Addr) (kd : Nat) (e f s : Int), vs = [.ref r] ∧ H r = some (.tup (tlv kd e f s)) ∧ Fm kd e f s ∧ ∀ x H', H x = none → FO c H' x kd e f s → Same H H' → Q (.ref x) H'
def spNear : Sp := fun vs H Q _ => ∃ (p : Addr) (w d : Int), vs = [.ref p, .int w, .int d] ∧ Bx H p ∧ 4 ≤ w ∧ w ≤ 32 ∧ 1 ≤ d ∧ d < 2 ^ w.toNat ∧ ∀ (r : Addr) (kd : Nat) (e f s : Int) H', H r = none → H' r = some (.tup (tlv kd e f s)) → Fm kd e f s → (2 : Int) ^ e.toNat ∣ d → Bx H' p → SameX p H H' → Q (.ref r) H'
def spReckG : Sp := fun vs H Q _ => ∃ (p : Addr) (w d : Int), vs = [.ref p, .int w, .int d] ∧ Bx H p ∧ 2 ≤ w ∧ w ≤ 32 ∧ 1 ≤ d ∧ d ≤ 18446744073709551616 ∧ ∀ (r : Addr) (e f a t : Int) H', H' r = some (.tup [.int e, .int f, .int a, .int t]) → Reck d e f a t → Bx H' p → SameX p H H' → r ≠ p → Q (.ref r) H'
def spDueG : Sp := fun vs H Q _ => ∃ (w d : Int) (r : Addr) (e f a t : Int), vs = [.int w, .int d, .ref r] ∧ 4 ≤ w ∧ w ≤ 32 ∧ 1 ≤ d ∧ d < 2 ^ w.toNat ∧ IsG H r e f a t ∧ RG e f a t ∧ (2 : Int) ^ e.toNat ∣ d ∧ ∀ (b : Bool) H', Same H H' → (b = true ↔ AllG e f a t d (1 * 2 ^ w.toNat - 1)) → Q (.bl b) H'
def spOther : Sp := fun vs H Q _ => ∃ (p : Addr) (w d e : Int), vs = [.ref p, .int w, .int d, .int e] ∧ Bx H p ∧ 4 ≤ w ∧ w ≤ 32 ∧ 1 ≤ d ∧ d < 2 ^ w.toNat ∧ 0 ≤ e ∧ (2 : Int) ^ e.toNat ∣ d ∧ ∀ (r : Addr) (i g : Int) H', H' r = some (.tup [.int i, .int g]) → 4 ≤ i → i ≤ 32 → 1 ≤ g → g < 2 ^ i.toNat → (2 : Int) ^ e.toNat ∣ g → Bx H' p → SameX p H H' → Q (.ref r) H'
def spCase23 (c : Ad) : Sp := fun vs H Q _ => ∃ p : Addr, vs = [.ref p] ∧ Bx H p ∧ ∀ H', SameX p H H' → Q (.bl true) H'
theorem pow32 : (2 ^ (32 : Int).toNat : Int) = 4294967296 := by decide
theorem frX {p t : Addr} {H H' : Hp} (hb : Bx H' p) (x : SameX p H H') (ht : H' t = none) : H t = none := by
  obtain ⟨r1, r2, hb⟩ := hb
  cases e : H t with
  | none => rfl
  | some o =>
    have := x t o (fun z => by rw [z, hb] at ht; cases ht) e
    rw [ht] at this
    cases this
theorem Reck.rg {d e f a t : Int} (h : Reck d e f a t) (d1 : 1 ≤ d) (d2 : d < 4294967296) : RG e f a t := by
  obtain ⟨h1, h2, h3, h4, h5, h6, h7, h8⟩ := h
  have := e_small (w := 32) (by decide) d1 d2 h2 h1
  exact ⟨h1, by omega, h3, h4, h5, h6, h7, h8⟩
/-! ### small flat things, and how they are shown -/
def Tx (z : Str) : Prop := z.length ≤ 20 ∧ ∀ c ∈ z.cps.toList, c < 128
def FV (v : V) : Prop := v = .non ∨ (∃ b, v = .bl b) ∨ (∃ i : Int, v = .int i ∧ -(2 ^ 99) < i ∧ i < 2 ^ 100) ∨ ∃ x, v = .str x ∧ Tx x
structure SmD (d : PyData) (n m : Nat) : Prop where
  sh : d.showable = true
  lv : PyData.leavesShort 100 d = true
  dp : d.depth ≤ n
  wt : d.weight ≤ m
  hd : d.hasDict = false
theorem int_len {i : Int} (h0 : -(2 ^ 99) < i) (h1 : i < 2 ^ 100) : (Str.ofString (toString i)).length ≤ 100 := by
  cases i with
  | ofNat m =>
    have e : toString (Int.ofNat m) = m.repr := rfl
    rw [e, PySem.ofString_length]
    exact Nat.le_trans (nat_repr_length_le (k := 100) (by decide) (by have : (m : Int) < 2 ^ 100 := h1; omega)) (by decide)
  | negSucc m =>
    have e : toString (Int.negSucc m) = "-" ++ (m + 1).repr := rfl
    rw [e, PySem.ofString_length, String.length_append]
    have := nat_repr_length_le (n := m + 1) (k := 99) (by decide) (by have := Int.negSucc_eq m; omega)
    have e1 : ("-" : String).length = 1 := rfl
    omega
theorem int_log {i : Int} (h0 : -(2 ^ 99) < i) (h1 : i < 2 ^ 100) : i.natAbs.log2 < 100 := by
  by_cases z : i.natAbs = 0
  · rw [z]; decide
  · exact (Nat.log2_lt z).mpr (by omega)
theorem tx_sm {x : Str} (h : Tx x) : SmD (.str x) 0 100 := by
  refine ⟨by simp [PyData.showable], ?_, by simp [PyData.depth], ?_, by simp [PyData.hasDict]⟩
  · rw [PyData.leavesShort.eq_4, List.all_eq_true]
    intro c hc
    exact decide_eq_true (Nat.lt_trans (h.2 c hc) (by decide))
  · rw [PyData.weight.eq_1]
    exact Nat.le_trans h.1 (by decide)
theorem int_sm {i : Int} (h0 : -(2 ^ 99) < i) (h1 : i < 2 ^ 100) : SmD (.int i) 0 100 := by
  have l := int_log h0 h1
  refine ⟨by simp only [PyData.showable]; exact decide_eq_true (by omega), ?_, by simp [PyData.depth], ?_, by simp [PyData.hasDict]⟩
  · rw [PyData.leavesShort.eq_3]
    exact decide_eq_true (by simp only [PyData.shown]; exact int_len h0 h1)
  · rw [PyData.weight.eq_5]
    split <;> omega
theorem FV.sm {v : V} (h : FV v) : ∃ d, FD v d ∧ SmD d 0 100 := by
  rcases h with rfl | ⟨b, rfl⟩ | ⟨i, rfl, h0, h1⟩ | ⟨x, rfl, h⟩
  · exact ⟨_, .non, by simp [PyData.showable], by simp [PyData.leavesShort], by simp [PyData.depth], by simp [PyData.weight], by simp [PyData.hasDict]⟩
  · exact ⟨_, .bl b, by simp [PyData.showable], by simp [PyData.leavesShort], by simp [PyData.depth], by simp [PyData.weight], by simp [PyData.hasDict]⟩
  · exact ⟨_, .int i, int_sm h0 h1⟩
  · exact ⟨_, .str x, tx_sm h⟩
theorem FV.th {v : V} {H : Hp} (h : FV v) : Th H v := by
  rcases h with rfl | ⟨b, rfl⟩ | ⟨i, rfl, _⟩ | ⟨x, rfl, _⟩
  · exact .non
  · exact .bl b
  · exact .int i
  · exact .str x
theorem FD.rd {v : V} {d : PyData} {H : Hp} (h : FD v d) : RD H v d := by
  cases h with
  | non => exact .non
  | bl b => exact .bl b
  | int i => exact .int i
  | str x => exact .str x
/-- lists of small things -/
structure SmL (ds : List PyData) (n m : Nat) : Prop where
  sh : PyData.showableAll ds = true
  lv : PyData.leavesShortAll 100 ds = true
  dp : PyData.depthAll ds ≤ n
  wt : PyData.weightAll ds ≤ m
  hd : PyData.hasDictAll ds = false
theorem SmL.nil {n m : Nat} : SmL [] n m := ⟨by simp [PyData.showableAll], by simp [PyData.leavesShortAll], by simp [PyData.depthAll], by simp [PyData.weightAll], by simp [PyData.hasDictAll]⟩
theorem SmL.cons {d : PyData} {ds : List PyData} {n m k : Nat} (a : SmD d n k) (b : SmL ds n m) : SmL (d :: ds) n (m + k + 1) := by
  refine ⟨by simp [PyData.showableAll, a.sh, b.sh], by simp [PyData.leavesShortAll, a.lv, b.lv], ?_, ?_, by simp [PyData.hasDictAll, a.hd, b.hd]⟩
  · rw [PyData.depthAll.eq_2]; exact Nat.max_le.mpr ⟨a.dp, b.dp⟩
  · rw [PyData.weightAll.eq_2]; have := a.wt; have := b.wt; omega
theorem SmL.list {ds : List PyData} {n m : Nat} (a : SmL ds n m) : SmD (.list ds) (n + 1) m := by
  refine ⟨by simp [PyData.showable, a.sh], by simp [PyData.leavesShort, a.lv], by rw [PyData.depth.eq_1]; exact Nat.succ_le_succ a.dp, by rw [PyData.weight.eq_2]; exact a.wt, by simp [PyData.hasDict, a.hd]⟩
theorem SmL.tup {ds : List PyData} {n m : Nat} (a : SmL ds n m) : SmD (.tuple ds) (n + 1) m := by
  refine ⟨by simp [PyData.showable, a.sh], by simp [PyData.leavesShort, a.lv], by rw [PyData.depth.eq_2]; exact Nat.succ_le_succ a.dp, by rw [PyData.weight.eq_3]; exact a.wt, by simp [PyData.hasDict, a.hd]⟩
theorem sh_fits {d : PyData} {m : Nat} (h : PyData.leavesShort 100 d = true) (w : d.weight ≤ m) (hm : m ≤ 100000) : d.shown.length ≤ sizeLine := by
  have := PyData.shown_le 100 (by decide) d h
  have z : (10300000 : Nat) ≤ sizeLine := by decide
  have : (100 + 2) * d.weight ≤ 102 * 100000 := Nat.mul_le_mul_left 102 (Nat.le_trans w hm)
  omega
/-! ### forms of any things -/
def wdF : Nat → Str
  | 0 => "shifted"
  | 1 => "scaled"
  | 2 => "early"
  | 3 => "more"
  | _ => "wide"
def fldV : Nat → V → V → V → List (Str × V)
  | 0, _, _, s => [("shift", s)]
  | 2, e, f, s => [("early", e), ("factor", f), ("shift", s)]
  | _, _, f, s => [("factor", f), ("shift", s)]
def arV : Nat → V → V → V → List V
  | 0, _, _, s => [s]
  | 2, e, f, s => [e, f, s]
  | _, _, f, s => [f, s]
def tlV : Nat → V → V → V → List V
  | 0, _, _, s => [.str "shifted", s]
  | 1, _, f, s => [.str "scaled", f, s]
  | 2, e, f, s => [.str "early", e, f, s]
  | 3, _, f, s => [.str "more", f, s]
  | _, _, f, s => [.str "wide", f, s]
def FOv (c : Ad) (H : Hp) (x : Addr) (kd : Nat) (e f s : V) : Prop := ∃ dx, H x = some (.ins (fOf c kd) dx (fldV kd e f s))
def okV : Nat → V → V → V → Bool
  | 0, _, _, s => btw s 0 64
  | 2, e, f, s => btw e 0 64 && btw f 0 4294967295 && btw s 0 64
  | 4, _, f, s => btw f 0 4294967295 && btw s 1 64
  | _, _, f, s => btw f 0 4294967295 && btw s 0 64
theorem flV_int {kd : Nat} (hk : kd < 5) {e f s : Int} : fldV kd (.int e) (.int f) (.int s) = flds kd e f s := by
  rcases (by omega : kd = 0 ∨ kd = 1 ∨ kd = 2 ∨ kd = 3 ∨ kd = 4) with rfl | rfl | rfl | rfl | rfl <;> rfl
theorem tlV_int {kd : Nat} (hk : kd < 5) {e f s : Int} : tlV kd (.int e) (.int f) (.int s) = tlv kd e f s := by
  rcases (by omega : kd = 0 ∨ kd = 1 ∨ kd = 2 ∨ kd = 3 ∨ kd = 4) with rfl | rfl | rfl | rfl | rfl <;> rfl
theorem btw_of {i lo hi : Int} (a : lo ≤ i) (b : i ≤ hi) : btw (.int i) lo hi = true := by
  show (decide (lo ≤ i) && decide (i ≤ hi)) = true
  rw [decide_eq_true a, decide_eq_true b]
  rfl
theorem btw_int {v : V} {lo hi : Int} (h : btw v lo hi = true) : ∃ i, v = .int i ∧ lo ≤ i ∧ i ≤ hi := by
  cases v with
  | int i =>
    have h' : (decide (lo ≤ i) && decide (i ≤ hi)) = true := h
    rw [Bool.and_eq_true, decide_eq_true_eq, decide_eq_true_eq] at h'
    exact ⟨i, rfl, h'.1, h'.2⟩
  | _ => cases h
theorem Fm.okV {kd : Nat} {e f s : Int} (h : Fm kd e f s) : okV kd (.int e) (.int f) (.int s) = true := by
  obtain ⟨k, ea, eb, e0, fa, fb, sa, sb, s1⟩ := h
  rcases (by omega : kd = 0 ∨ kd = 1 ∨ kd = 2 ∨ kd = 3 ∨ kd = 4) with rfl | rfl | rfl | rfl | rfl
  · exact btw_of sa sb
  · show (btw _ _ _ && btw _ _ _) = true
    rw [btw_of fa fb, btw_of sa sb]; rfl
  · show (btw _ _ _ && btw _ _ _ && btw _ _ _) = true
    rw [btw_of ea eb, btw_of fa fb, btw_of sa sb]; rfl
  · show (btw _ _ _ && btw _ _ _) = true
    rw [btw_of fa fb, btw_of sa sb]; rfl
  · show (btw _ _ _ && btw _ _ _) = true
    rw [btw_of fa fb, btw_of (s1 rfl) sb]; rfl
theorem Th.sx {H H' : Hp} {v : V} {x C dx : Addr} {fs : List (Str × V)} (t : Th H v) (hx : H x = some (.ins C dx fs)) (s : SameX x H H') : Th H' v := by
  cases t with
  | int i => exact .int i
  | bl b => exact .bl b
  | str x => exact .str x
  | non => exact .non
  | lst h => exact .lst (s _ _ (fun z => by rw [z, hx] at h; cases h) h)
  | tup h => exact .tup (s _ _ (fun z => by rw [z, hx] at h; cases h) h)
  | dct h => exact .dct (s _ _ (fun z => by rw [z, hx] at h; cases h) h)
theorem fl_quo {kd : Nat} {e f s : Int} : (flds kd e f s).lookup ("quotient" : Str) = none := by
  unfold flds
  split <;> rfl
theorem FO.same {c : Ad} {H H' : Hp} {x : Addr} {kd : Nat} {e f s : Int} (h : FO c H x kd e f s) (q : Same H H') : FO c H' x kd e f s := by
  obtain ⟨dx, h⟩ := h
  exact ⟨dx, q _ _ h⟩
theorem FOv.same {c : Ad} {H H' : Hp} {x : Addr} {kd : Nat} {e f s : V} (h : FOv c H x kd e f s) (q : Same H H') : FOv c H' x kd e f s := by
  obtain ⟨dx, h⟩ := h
  exact ⟨dx, q _ _ h⟩
theorem Same.updL {H H' : Hp} {l : Addr} {o : HO} (s : Same H H') (hl : H l = none) : Same H (upd H' l o) := fun b u e => by rw [upd_ne (ne_of_none e hl)]; exact s b u e
theorem Same.none {H H' : Hp} (s : Same H H') {l : Addr} (h : H' l = none) : H l = none := by
  cases e : H l with
  | none => rfl
  | some o => rw [s _ _ e] at h; cases h
def spWd (kd : Nat) : Sp := fun vs H Q _ => ∃ x : Addr, vs = [.ref x] ∧ Q (.str (wdF kd)) H
def spTV (c : Ad) (kd : Nat) : Sp := fun vs H Q _ => ∃ (x : Addr) (e f s : V), vs = [.ref x] ∧ FOv c H x kd e f s ∧ ∀ r H', H r = none → H' r = some (.tup (tlV kd e f s)) → Same H H' → Q (.ref r) H'
def spFacV : Sp := fun vs H Q _ => ∃ x : V, vs = [x] ∧ Th H x ∧ Q (.bl (btw x 0 4294967295)) H
def spShfV : Sp := fun vs H Q _ => ∃ x : V, vs = [x] ∧ Th H x ∧ Q (.bl (btw x 0 64)) H
def spNeedV (c : Ad) : Sp := fun vs H Q E => ∃ v : V, vs = [v] ∧ Th H v ∧ (btw v 4 32 = true → Q .non H) ∧ (btw v 4 32 = false → ∀ d, H d = none → E (.ref c.NoWidth) (some d) (upd H d (.xd [("found", v)])))
def spNumV (c : Ad) (kd : Nat) : Sp := fun vs H Q E => ∃ (x : Addr) (v : V) (e f s : Int), vs = [.ref x, v] ∧ FO c H x kd e f s ∧ Fm kd e f s ∧ Th H v ∧ (∀ w : Int, v = .int w → 4 ≤ w → w ≤ 32 → ∀ r H', H r = none → IsG H' r e (nF kd w f) (nA kd f) (nT kd w s) → Same H H' → Q (.ref r) H') ∧ (btw v 4 32 = false → ∀ d, H d = none → E (.ref c.NoWidth) (some d) (upd H d (.xd [("found", v)])))
def spQuoV (c : Ad) : Sp := fun vs H Q E => ∃ (y : Addr) (v : V) (x : Int) (kd : Nat) (e f s : Int), vs = [.ref y, v, .int x] ∧ FO c H y kd e f s ∧ Fm kd e f s ∧ Th H v ∧ (∀ w : Int, v = .int w → 4 ≤ w → w ≤ 32 → 0 ≤ x ∧ x ≤ 1267650600228229401496703205376 ∧ ∀ H', Same H H' → Q (.int (brt e (nF kd w f) (nA kd f) (nT kd w s) x)) H') ∧ (btw v 4 32 = false → ∀ d, H d = none → E (.ref c.NoWidth) (some d) (upd H d (.xd [("found", v)])))
def spIV (c : Ad) (kd : Nat) : Sp := fun vs H Q E => ∃ (x dx : Addr) (e f s : V), vs = .ref x :: arV kd e f s ∧ H x = some (.ins (fOf c kd) dx []) ∧ Th H e ∧ Th H f ∧ Th H s ∧ (okV kd e f s = true → ∀ H', SameX x H H' → FOv c H' x kd e f s → Q .non H') ∧ (okV kd e f s = false → ∀ (d r : Addr) H', SameX x H H' → H' d = some (.xd [("found", .ref r)]) → H' r = some (.tup (tlV kd e f s)) → E (.ref c.NoForm) (some d) H')
def spMakeV (c : Ad) : Sp := fun vs H Q E => ∃ (r : Addr) (kd : Nat) (e f s : V), vs = [.ref r] ∧ kd < 5 ∧ H r = some (.tup (tlV kd e f s)) ∧ Th H e ∧ Th H f ∧ Th H s ∧ (okV kd e f s = true → ∀ x H', H x = none → FOv c H' x kd e f s → Same H H' → Q (.ref x) H') ∧ (okV kd e f s = false → ∀ (d q : Addr) H', Same H H' → H' d = some (.xd [("found", .ref q)]) → H' q = some (.tup (tlV kd e f s)) → E (.ref c.NoForm) (some d) H')
def spEnd : Sp := fun vs H Q _ => ∃ (p : Addr) (lo hi : Int), vs = [.ref p, .int lo, .int hi] ∧ Bx H p ∧ 0 ≤ lo ∧ lo ≤ hi ∧ hi < 2 ^ 79 ∧ ∀ (d : Int) H', lo ≤ d → d ≤ hi → Bx H' p → SameX p H H' → Q (.int d) H'
def spAnyK : Sp := fun vs H Q _ => ∃ (p : Addr) (kd : Nat), vs = [.ref p, .int kd] ∧ kd < 5 ∧ Bx H p ∧ ∀ (r : Addr) (e f s : Int) H', H r = none → H' r = some (.tup (tlv kd e f s)) → Fm kd e f s → Bx H' p → SameX p H H' → Q (.ref r) H'
def spCase21 (_ : Ad) : Sp := fun vs H Q _ => ∃ p : Addr, vs = [.ref p] ∧ Bx H p ∧ ∀ H', SameX p H H' → Q (.bl true) H'
/-! ### signed forms of any things -/
inductive SD where
  | cut (f k : Int)
  | turn (kd : Nat) (e f s : Int)
def SD.q : SD → Int → Int → Int
  | .cut f k, w, x => f * x / 2 ^ (w + k).toNat + (if x < 0 then 1 else 0)
  | .turn kd e f s, w, x => if x < 0 then -(brt e (nF kd w f) (nA kd f) (nT kd w s) (-x)) else brt e (nF kd w f) (nA kd f) (nT kd w s) x
def SD.ok : SD → Prop
  | .cut f k => 0 ≤ f ∧ f ≤ 4294967295 ∧ 0 ≤ k ∧ k ≤ 64
  | .turn kd e f s => Fm kd e f s
def sOf (c : Ad) : Nat → Addr
  | 0 => c.Cutting
  | _ => c.Turned
def SD.ix : SD → Nat
  | .cut _ _ => 0
  | .turn _ _ _ _ => 1
theorem SD.ix2 : ∀ sd : SD, sd.ix < 2
  | .cut _ _ => (by decide : 0 < 2)
  | .turn _ _ _ _ => (by decide : 1 < 2)
def SFO (c : Ad) (H : Hp) (x : Addr) : SD → Prop
  | .cut f k => ∃ dx, H x = some (.ins c.Cutting dx [("factor", .int f), ("shift", .int k)])
  | .turn kd e f s => ∃ dx y, H x = some (.ins c.Turned dx [("form", .ref y)]) ∧ FO c H y kd e f s
theorem SFO.same {c : Ad} {H H' : Hp} {x : Addr} {sd : SD} (o : SFO c H x sd) (s : Same H H') : SFO c H' x sd := by
  cases sd with
  | cut f k => obtain ⟨dx, h⟩ := o; exact ⟨dx, s _ _ h⟩
  | turn kd e f t => obtain ⟨dx, y, h, dy, g⟩ := o; exact ⟨dx, y, s _ _ h, dy, s _ _ g⟩
theorem SFO.exc {c : Ad} {H H' : Hp} {x p : Addr} {sd : SD} (o : SFO c H x sd) (b : Bx H p) (s : SameX p H H') : SFO c H' x sd := by
  obtain ⟨r1, r2, hb⟩ := b
  cases sd with
  | cut f k => obtain ⟨dx, h⟩ := o; exact ⟨dx, s _ _ (fun z => by rw [z, hb] at h; cases h) h⟩
  | turn kd e f t => obtain ⟨dx, y, h, dy, g⟩ := o; exact ⟨dx, y, s _ _ (fun z => by rw [z, hb] at h; cases h) h, dy, s _ _ (fun z => by rw [z, hb] at g; cases g) g⟩
def STd (H : Hp) (r : Addr) : SD → Prop
  | .cut f k => H r = some (.tup [.str "cutting", .int f, .int k])
  | .turn kd e f s => ∃ y, H r = some (.tup [.str "turned", .ref y]) ∧ H y = some (.tup (tlv kd e f s))
theorem STd.same {H H' : Hp} {r : Addr} {sd : SD} (o : STd H r sd) (s : Same H H') : STd H' r sd := by
  cases sd with
  | cut f k => exact s _ _ o
  | turn kd e f t => obtain ⟨y, h, g⟩ := o; exact ⟨y, s _ _ h, s _ _ g⟩
theorem SFO.ob {c : Ad} {H : Hp} {x : Addr} {sd : SD} (o : SFO c H x sd) : ∃ dx fs, H x = some (.ins (sOf c sd.ix) dx fs) ∧ fs.lookup ("quotient" : Str) = none ∧ fs.lookup ("told" : Str) = none ∧ fs.lookup ("word" : Str) = none := by
  cases sd with
  | cut f k => obtain ⟨dx, h⟩ := o; exact ⟨dx, _, h, rfl, rfl, rfl⟩
  | turn kd e f t => obtain ⟨dx, y, h, _⟩ := o; exact ⟨dx, _, h, rfl, rfl, rfl⟩
def wdS : Nat → Str
  | 0 => "cutting"
  | _ => "turned"
def CutV (c : Ad) (H : Hp) (x : Addr) (f s : V) : Prop := ∃ dx, H x = some (.ins c.Cutting dx [("factor", f), ("shift", s)])
def spWdS (i : Nat) : Sp := fun vs H Q _ => ∃ x : Addr, vs = [.ref x] ∧ Q (.str (wdS i)) H
def spCTV (c : Ad) : Sp := fun vs H Q _ => ∃ (x : Addr) (f s : V), vs = [.ref x] ∧ CutV c H x f s ∧ ∀ r H', H r = none → H' r = some (.tup [.str "cutting", f, s]) → Same H H' → Q (.ref r) H'
def spST (c : Ad) (i : Nat) : Sp := fun vs H Q _ => ∃ (x : Addr) (sd : SD), vs = [.ref x] ∧ sd.ix = i ∧ SFO c H x sd ∧ sd.ok ∧ ∀ r H', H r = none → STd H' r sd → Same H H' → Q (.ref r) H'
theorem ctv_st {c : Ad} : ∀ vs H Q E, spST c 0 vs H Q E → spCTV c vs H Q E := fun vs H Q E h => by
  obtain ⟨x, sd, rfl, i, o, ok, q⟩ := h
  cases sd with
  | turn => exact absurd (show (1 : Nat) = 0 from i) (by decide)
  | cut f k => obtain ⟨dx, hx⟩ := o; exact ⟨x, _, _, rfl, ⟨dx, hx⟩, fun r H' hr h' s' => q r H' hr h' s'⟩
def spICV (c : Ad) : Sp := fun vs H Q E => ∃ (x dx : Addr) (f s : V), vs = [.ref x, f, s] ∧ H x = some (.ins c.Cutting dx []) ∧ Th H f ∧ Th H s ∧ ((btw f 0 4294967295 && btw s 0 64) = true → ∀ H', SameX x H H' → CutV c H' x f s → Q .non H') ∧ ((btw f 0 4294967295 && btw s 0 64) = false → ∀ (d r : Addr) H', SameX x H H' → H' d = some (.xd [("found", .ref r)]) → H' r = some (.tup [.str "cutting", f, s]) → E (.ref c.NoForm) (some d) H')
def spITV (c : Ad) : Sp := fun vs H Q E => ∃ (x dx : Addr) (v : V), vs = [.ref x, v] ∧ H x = some (.ins c.Turned dx []) ∧ ((∃ (y : Addr) (kd : Nat) (e f s : Int), v = .ref y ∧ FO c H y kd e f s ∧ kd < 5 ∧ y ≠ x ∧ ∀ H', SameX x H H' → SFO c H' x (.turn kd e f s) → Q .non H') ∨ ((Th H v ∨ ∃ (y : Addr) (sd : SD), v = .ref y ∧ SFO c H y sd) ∧ ∀ d, H d = none → E (.ref c.NoForm) (some d) (upd H d (.xd [("found", v)]))))
def spSQV (c : Ad) (i : Nat) : Sp := fun vs H Q E => ∃ (x : Addr) (v : V) (n : Int) (sd : SD), vs = [.ref x, v, .int n] ∧ sd.ix = i ∧ SFO c H x sd ∧ sd.ok ∧ Th H v ∧ (∀ w : Int, v = .int w → 4 ≤ w → w ≤ 32 → -4294967296 ≤ n ∧ n ≤ 4294967296 ∧ ∀ H', Same H H' → Q (.int (sd.q w n)) H') ∧ (btw v 4 32 = false → ∀ d, H d = none → E (.ref c.NoWidth) (some d) (upd H d (.xd [("found", v)])))
def spAny31 : Sp := fun vs H Q _ => ∃ p : Addr, vs = [.ref p] ∧ Bx H p ∧ ∀ (r : Addr) (kd : Nat) (e f s : Int) H', H r = none → H' r = some (.tup (tlv kd e f s)) → Fm kd e f s → Bx H' p → SameX p H H' → Q (.ref r) H'
def spCnt : Sp := fun vs H Q _ => ∃ (p : Addr) (w : Int), vs = [.ref p, .int w] ∧ Bx H p ∧ 4 ≤ w ∧ w ≤ 32 ∧ ∀ (n : Int) H', -4294967296 ≤ n → n ≤ 4294967296 → Bx H' p → SameX p H H' → Q (.int n) H'
def spTR (c : Ad) : Sp := fun vs H Q _ => ∃ (x r : Addr) (kd : Nat) (e f s w n : Int), vs = [.ref x, .ref r, .int w, .int n] ∧ SFO c H x (.turn kd e f s) ∧ H r = some (.tup (tlv kd e f s)) ∧ Fm kd e f s ∧ 4 ≤ w ∧ w ≤ 32 ∧ -4294967296 ≤ n ∧ n ≤ 4294967296 ∧ ∀ H', Same H H' → Q (.bl true) H'
def spCR (c : Ad) : Sp := fun vs H Q _ => ∃ (x : Addr) (f k w n : Int), vs = [.ref x, .int f, .int k, .int w, .int n] ∧ SFO c H x (.cut f k) ∧ SD.ok (.cut f k) ∧ 4 ≤ w ∧ w ≤ 32 ∧ -4294967296 ≤ n ∧ n ≤ 4294967296 ∧ ∀ H', Same H H' → Q (.bl true) H'
def spNWS (c : Ad) : Sp := fun vs H Q _ => ∃ (x : Addr) (v : V) (sd : SD), vs = [.ref x, v] ∧ SFO c H x sd ∧ sd.ok ∧ btw v 4 32 = false ∧ FV v ∧ ∀ H', Same H H' → Q (.bl true) H'
def spNC (_ : Ad) : Sp := fun vs H Q _ => ∃ p : Addr, vs = [.ref p] ∧ Bx H p ∧ ∀ H', Bx H' p → SameX p H H' → Q (.bl true) H'
def spNS (c : Ad) : Sp := fun vs H Q _ => ∃ (x : Addr) (sd : SD), vs = [.ref x] ∧ SFO c H x sd ∧ sd.ok ∧ ∀ H', Same H H' → Q (.bl true) H'
def spNT (c : Ad) : Sp := fun vs H Q _ => ∃ (p r : Addr) (kd : Nat) (e f s : Int) (xc xb : Addr) (sc sb : SD), vs = [.ref p, .ref r, .ref xc, .ref xb] ∧ Bx H p ∧ H r = some (.tup (tlv kd e f s)) ∧ Fm kd e f s ∧ SFO c H xc sc ∧ sc.ok ∧ SFO c H xb sb ∧ sb.ok ∧ ∀ H', SameX p H H' → Q (.bl true) H'
def spStd (c : Ad) : Sp := fun vs H Q _ => ∃ (xc xb : Addr) (f k : Int) (kd : Nat) (e f' s : Int), vs = [.ref xc, .ref xb] ∧ SFO c H xc (.cut f k) ∧ SFO c H xb (.turn kd e f' s) ∧ Q (.bl true) H
section
variable {P : Program} {w : World} {K : PySem.W.Frag} {mg : Str → Option Value} {base : Heap} {c : Ad}
theorem ok_NoWidth___init__ {f : Addr} {fd : FuncData} (F : Fun K "__init__" "NoWidth.__init__" s_NoWidth___init__ f fd) (T : Txt K mg c)  (xc : XCls K c.NoWidth f "found") : FnOkR P w K mg base (fun _ => CX0) false 1 f fd ["self", "found"] (spXI "found" c.NoWidth) := by
  refine Fun.okR0 F sc_NoWidth___init__ (fun vs H Q E h => ?_) (fun cdv A outer s H vs Q E hr hh h => ?_)
  · obtain ⟨e, t, v, rfl, _⟩ := h
    rfl
  obtain ⟨e, t, v, rfl, he, q⟩ := h
  refine ⟨_, (pss_one (ps_xset (pv 0) (pv 1) rfl)), ?_⟩
  exact ⟨_, rfl, _, rfl, e, c.NoWidth, t, _, rfl, he, xc, fun d hd hne => q d hd hne⟩
theorem ok_NoForm___init__ {f : Addr} {fd : FuncData} (F : Fun K "__init__" "NoForm.__init__" s_NoForm___init__ f fd) (T : Txt K mg c)  (xc : XCls K c.NoForm f "found") : FnOkR P w K mg base (fun _ => CX0) false 1 f fd ["self", "found"] (spXI "found" c.NoForm) := by
  refine Fun.okR0 F sc_NoForm___init__ (fun vs H Q E h => ?_) (fun cdv A outer s H vs Q E hr hh h => ?_)
  · obtain ⟨e, t, v, rfl, _⟩ := h
    rfl
  obtain ⟨e, t, v, rfl, he, q⟩ := h
  refine ⟨_, (pss_one (ps_xset (pv 0) (pv 1) rfl)), ?_⟩
  exact ⟨_, rfl, _, rfl, e, c.NoForm, t, _, rfl, he, xc, fun d hd hne => q d hd hne⟩
theorem ok_is_whole {f : Addr} {fd : FuncData} (F : Fun K "is_whole" "is_whole" s_is_whole f fd) (T : Txt K mg c)  : FnOkR P w K mg base (fun _ => CX0) false 1 f fd ["thing"] spWholeG := by
  refine Fun.okR0 F sc_is_whole (fun vs H Q E h => ?_) (fun cdv A outer s H vs Q E hr hh h => ?_)
  · obtain ⟨x, rfl, _⟩ := h
    rfl
  obtain ⟨x, rfl, th, q⟩ := h
  refine ⟨_, (pss_one (ps_ret (pe_and (pe_callB call_isinst rfl T.n_isinstance boot_isinstance (pa_cons (pv 0) (pa_cons (pe_ty rfl T.n_int boot_int) pa_nil))) (pe_one (pe_not (pe_callB call_isinst rfl T.n_isinstance boot_isinstance (pa_cons (pv 0) (pa_cons (pe_ty rfl T.n_bool boot_bool) pa_nil)))))))), ?_⟩
  cases th with
  | int i =>
    refine ⟨_, rfl, _, _, _, _, _, rfl, rfl, TyOf.int _, kit_int_int _, _, rfl, iteT ?_⟩
    exact ⟨_, rfl, _, _, _, _, _, rfl, rfl, TyOf.int _, kit_int_bool _, _, rfl, q⟩
  | bl b =>
    refine ⟨_, rfl, _, _, _, _, _, rfl, rfl, TyOf.bl _, kit_bl_int _, _, rfl, iteT ?_⟩
    exact ⟨_, rfl, _, _, _, _, _, rfl, rfl, TyOf.bl _, kit_bl_bl _, _, rfl, q⟩
  | str x => exact ⟨_, rfl, _, _, _, _, _, rfl, rfl, TyOf.str _, kit_str_int _, _, rfl, iteF q⟩
  | non => exact ⟨_, rfl, _, _, _, _, _, rfl, rfl, TyOf.non, kit_non_int _, _, rfl, iteF q⟩
  | lst h => exact ⟨_, rfl, _, _, _, _, _, rfl, rfl, TyOf.lst h, kit_lst_int _, _, rfl, iteF q⟩
  | tup h => exact ⟨_, rfl, _, _, _, _, _, rfl, rfl, TyOf.tup h, kit_tup_int _, _, rfl, iteF q⟩
  | dct h => exact ⟨_, rfl, _, _, _, _, _, rfl, rfl, TyOf.dK h, kit_dct_int _, _, rfl, iteF q⟩
theorem ok_is_between {f : Addr} {fd : FuncData} (F : Fun K "is_between" "is_between" s_is_between f fd) (T : Txt K mg c) (H_is_whole : HasR P w K mg base (fun _ => CX0) false 1 "is_whole" ["thing"] spWholeG) : FnOkR P w K mg base (fun _ => CX0) false 2 f fd ["thing", "low", "high"] spBtwG := by
  refine Fun.okR0 F sc_is_between (fun vs H Q E h => ?_) (fun cdv A outer s H vs Q E hr hh h => ?_)
  · obtain ⟨x, lo, hi, rfl, _⟩ := h
    rfl
  obtain ⟨x, lo, hi, rfl, th, q⟩ := h
  refine ⟨_, (pss_one (ps_ret (pe_and (pe_fnG H_is_whole (room_any (hr.mono (by omega)) rfl rfl rfl) (fun z => nomatch z) rfl pat0 (pa_cons (pv 0) pa_nil)) (pe_one (pe_chain op_le op_le (pv 1) (pv 0) (pv 2)))))), ?_⟩
  refine ⟨_, rfl, x, rfl, th, _, rfl, ?_⟩
  cases hi' : isI x with
  | false =>
    refine iteF ?_
    rw [btw_not hi'] at q
    exact q
  | true =>
    refine iteT ?_
    cases x with
    | int i =>
      refine ⟨_, rfl, _, rfl, _, _, rfl, rfl, _, rfl, ?_⟩
      by_cases c1 : lo ≤ i
      · refine iteD c1 ⟨_, rfl, _, _, rfl, rfl, ?_⟩
        have e : btw (.int i) lo hi = decide (i ≤ hi) := by show (decide (lo ≤ i) && decide (i ≤ hi)) = _; rw [decide_eq_true c1, Bool.true_and]
        rw [e] at q
        exact q
      · refine iteDN c1 ?_
        have e : btw (.int i) lo hi = false := by show (decide (lo ≤ i) && decide (i ≤ hi)) = _; rw [decide_eq_false c1, Bool.false_and]
        rw [e] at q
        exact q
    | _ => cases hi'
theorem ok__law_start {f : Addr} {fd : FuncData} (F : Fun K "_law_start" "_law_start" s__law_start f fd) (T : Txt K mg c)  : FnOk P w K mg base CX0 1 f fd ["_law_script", "_law_k"] (spStart K) := by
  refine F.ok sc__law_start (fun vs H Q E h => ?_) (fun cdv A outer s H vs Q E hr h => ?_)
  · obtain ⟨a, ns, k, rfl, _⟩ := h
    rfl
  obtain ⟨a, ns, k, rfl, hS, k0, k1, q⟩ := h
  refine ⟨_, (pss_cons (ps_set (i := 2) sc__law_start.nd rfl (Or.inl rfl) pe_int)
    (pss_cons (ps_if (pt_cmpR (op_ne0 (Nat.lt_of_succ_lt (hu_of hr))) (pv 0) (pe_lst pa_nil) (nomark _))
      (pss_one (ps_set (i := 2) sc__law_start.nd rfl (Or.inl rfl) (pe_ix ix_list (pv 0) (pe_op op_mod (pv 1) (pe_callB call_len_seq rfl T.n_len boot_len (pa_cons (pv 0) pa_nil))) (fun _ _ => rfl))))
      pss_nil)
    (pss_cons (ps_set (i := 3) sc__law_start.nd rfl (Or.inl rfl) pe_int)
    (pss_cons (ps_if (pt_cmpR op_ge (pv 2) (pe_op op_pow pe_int pe_int) (nomark _))
      (pss_one (ps_set (i := 3) sc__law_start.nd rfl (Or.inl rfl) (pv 2)))
      pss_nil)
    (pss_one (ps_ret (pe_lst (pa_cons (pv 3) (pa_cons (pe_op op_add (pe_op op_mod (pe_op op_add (pv 2) (pe_op op_mul pe_int (pv 1))) pe_int) pe_int) pa_nil))))))))), ?_⟩
  have fin : ∀ (c : Int) (H1 : Hp), Same H H1 → (∃ t : L2.TS, True) → True := fun _ _ _ _ => trivial
  refine ⟨_, rfl, (by show 0 ≤ sizeLine; decide), fun l hl => ?_⟩
  have sl := same_new hl (.lst [])
  refine ⟨a, l, _, rfl, rfl, sl.seq hS, SqL.of upd_same, _, rfl, ?_⟩
  cases ns with
  | nil =>
    refine iteF ?_
    refine ⟨_, rfl, _, _, rfl, rfl, ⟨by decide, by decide, by decide⟩, _, _, rfl, rfl, _, rfl, iteDN (by decide) ?_⟩
    refine ⟨_, rfl, _, rfl, _, rfl, _, _, rfl, rfl, cmul_l (by decide) (by decide), _, _, rfl, rfl, _, _, rfl, rfl, (by show (0 : Int) < 2147483646; decide), _, _, rfl, rfl, sz2, fun p hp => ?_⟩
    exact q p _ (sl.free hp) ⟨_, _, upd_same⟩ (sl.trans (same_new hp _))
  | cons n ns' =>
    refine iteT ?_
    have hl2 : ((n :: ns').map V.int).length = (n :: ns').length := List.length_map _
    have hn : 0 < ((((n :: ns').map V.int).length : Nat) : Int) := by rw [hl2, List.length_cons]; omega
    have j0 := Int.emod_nonneg k (show ((((n :: ns').map V.int).length : Nat) : Int) ≠ 0 by omega)
    have j1 := Int.emod_lt_of_pos k hn
    have hj : (k % ((((n :: ns').map V.int).length : Nat) : Int)).toNat < (n :: ns').length := by rw [← hl2]; omega
    have g := getI (n :: ns') _ hj
    have e : k % ((((n :: ns').map V.int).length : Nat) : Int) = (((k % ((((n :: ns').map V.int).length : Nat) : Int)).toNat : Nat) : Int) := by omega
    rw [← e] at g
    refine ⟨_, rfl, _, rfl, _, rfl, a, _, rfl, .inl (sl.seq hS), _, _, rfl, rfl, hn, a, _, _, _, rfl, rfl, sl.seq hS, g, ?_⟩
    refine ⟨_, rfl, _, _, rfl, rfl, ⟨by decide, by decide, by decide⟩, _, _, rfl, rfl, _, rfl, ?_⟩
    refine ite2 (fun _ => ?_) (fun _ => ?_)
    · refine ⟨_, rfl, ?_⟩
      refine ⟨_, rfl, _, rfl, _, rfl, _, _, rfl, rfl, cmul_l (by decide) (by decide), _, _, rfl, rfl, _, _, rfl, rfl, (by show (0 : Int) < 2147483646; decide), _, _, rfl, rfl, sz2, fun p hp => ?_⟩
      exact q p _ (sl.free hp) ⟨_, _, upd_same⟩ (sl.trans (same_new hp _))
    · refine ⟨_, rfl, _, rfl, _, rfl, _, _, rfl, rfl, cmul_l (by decide) (by decide), _, _, rfl, rfl, _, _, rfl, rfl, (by show (0 : Int) < 2147483646; decide), _, _, rfl, rfl, sz2, fun p hp => ?_⟩
      exact q p _ (sl.free hp) ⟨_, _, upd_same⟩ (sl.trans (same_new hp _))
theorem ok__law_draw {f : Addr} {fd : FuncData} (F : Fun K "_law_draw" "_law_draw" s__law_draw f fd) (T : Txt K mg c)  : FnOk P w K mg base CX0 1 f fd ["_law_state", "_law_size"] spTake := by
  refine F.ok sc__law_draw (fun vs H Q E h => ?_) (fun cdv A outer s H vs Q E hr h => ?_)
  · obtain ⟨p, m, rfl, _⟩ := h
    rfl
  obtain ⟨p, m, rfl, ⟨r, s1, hp⟩, h1, h2, q⟩ := h
  refine ⟨_, (pss_cons (ps_if (pt_cmpR op_gt (pe_ix ix_list (pv 0) pe_int (fun _ _ => rfl)) pe_int (nomark _))
      (pss_cons (ps_set (i := 2) sc__law_draw.nd rfl (Or.inl rfl) (pe_op op_mod (pe_ix ix_list (pv 0) pe_int (fun _ _ => rfl)) (pv 1)))
      (pss_cons (ps_asg (pe_op op_fdivB (pe_ix ix_list (pv 0) pe_int (fun _ _ => rfl)) (pv 1)) (pg_sub (pv 0) pe_int set_list))
      (pss_one (ps_ret (pv 2)))))
      pss_nil)
    (pss_cons (ps_asg (pe_op op_mod (pe_op op_mul (pe_ix ix_list (pv 0) pe_int (fun _ _ => rfl)) pe_int) pe_int) (pg_sub (pv 0) pe_int set_list))
    (pss_cons (ps_set (i := 3) sc__law_draw.nd rfl (Or.inl rfl) (pe_op op_mod (pe_op op_mul (pe_op op_add (pe_ix ix_list (pv 0) pe_int (fun _ _ => rfl)) (pe_op op_mul pe_int (pe_op op_fdivB (pe_ix ix_list (pv 0) pe_int (fun _ _ => rfl)) pe_int))) pe_int) pe_int))
    (pss_cons (ps_set (i := 4) sc__law_draw.nd rfl (Or.inl rfl) (pe_op op_mod (pe_op op_add (pe_op op_mul (pv 3) pe_int) (pe_op op_fdivB (pe_ix ix_list (pv 0) pe_int (fun _ _ => rfl)) pe_int)) pe_int))
    (pss_one (ps_ret (pe_op op_mod (pe_op op_add (pe_op op_mul (pv 3) pe_int) (pv 4)) (pv 1)))))))), ?_⟩
  refine ⟨_, rfl, p, _, _, _, rfl, rfl, SqL.of hp, rfl, _, _, rfl, rfl, _, rfl, ?_⟩
  by_cases hc : 0 < r
  · refine iteD hc ?_
    refine ⟨_, rfl, p, _, _, _, rfl, rfl, SqL.of hp, rfl, _, rfl, _, _, rfl, rfl, h1, ?_⟩
    refine ⟨_, rfl, p, _, _, _, rfl, rfl, SqL.of hp, rfl, _, rfl, _, _, rfl, rfl, ⟨h1, log_small h1 h2⟩, ?_⟩
    refine ⟨_, rfl, p, _, _, _, rfl, rfl, hp, rfl, ?_⟩
    refine ⟨_, rfl, ?_⟩
    exact q _ _ (Int.emod_nonneg _ (by omega)) (Int.emod_lt_of_pos _ h1) ⟨_, _, upd_same⟩ SameX.upd
  · refine iteDN hc ?_
    refine ⟨_, rfl, p, _, _, _, rfl, rfl, SqL.of hp, rfl, _, _, rfl, rfl, .inr ⟨by decide, by decide⟩, _, _, rfl, rfl, (by show (0 : Int) < 2147483647; decide), ?_⟩
    refine ⟨_, rfl, p, _, _, _, rfl, rfl, hp, rfl, ?_⟩
    refine ⟨_, rfl, p, _, _, _, rfl, rfl, SqL.of upd_same, rfl, _, rfl, p, _, _, _, rfl, rfl, SqL.of upd_same, rfl, _, _, rfl, rfl, ⟨by decide, by decide⟩, _, _, rfl, rfl, .inl ⟨by decide, by decide⟩, _, _, rfl, rfl, _, _, rfl, rfl, .inr ⟨by decide, by decide⟩, _, _, rfl, rfl, (by show (0 : Int) < 2147483629; decide), ?_⟩
    refine ⟨_, rfl, _, _, rfl, rfl, .inr ⟨by decide, by decide⟩, _, rfl, p, _, _, _, rfl, rfl, SqL.of upd_same, rfl, _, _, rfl, rfl, ⟨by decide, by decide⟩, _, _, rfl, rfl, _, _, rfl, rfl, (by show (0 : Int) < 2147483399; decide), ?_⟩
    refine ⟨_, rfl, _, _, rfl, rfl, .inr ⟨by decide, by decide⟩, _, rfl, _, _, rfl, rfl, _, rfl, _, _, rfl, rfl, h1, ?_⟩
    exact q _ _ (Int.emod_nonneg _ (by omega)) (Int.emod_lt_of_pos _ h1) ⟨_, _, upd_same⟩ SameX.upd
theorem ok__law_numbers {f : Addr} {fd : FuncData} (F : Fun K "_law_numbers" "_law_numbers" s__law_numbers f fd) (T : Txt K mg c)  : FnOk P w K mg base CX0 1 f fd ["_law_told", "_law_width"] spNumb := by
  refine F.ok sc__law_numbers (fun vs H Q E h => ?_) (fun cdv A outer s H vs Q E hr h => ?_)
  · obtain ⟨r, i, kd, e, f, t, rfl, _⟩ := h
    rfl
  obtain ⟨r, i, kd, e, f, t, rfl, ht, fm, h1, h2, q⟩ := h
  refine ⟨_, (pss_cons (ps_if (pt_cmpR op_eq (pe_ix ix_tup (pv 0) pe_int (fun _ _ => rfl)) pe_str (nomark _))
      (pss_one (ps_ret (pe_tup (pa_cons pe_int (pa_cons pe_int (pa_cons pe_int (pa_cons (pe_ix ix_tup (pv 0) pe_int (fun _ _ => rfl)) pa_nil)))))))
      pss_nil)
    (pss_cons (ps_if (pt_cmpR op_eq (pe_ix ix_tup (pv 0) pe_int (fun _ _ => rfl)) pe_str (nomark _))
      (pss_one (ps_ret (pe_tup (pa_cons pe_int (pa_cons (pe_ix ix_tup (pv 0) pe_int (fun _ _ => rfl)) (pa_cons pe_int (pa_cons (pe_op op_add (pv 1) (pe_ix ix_tup (pv 0) pe_int (fun _ _ => rfl))) pa_nil)))))))
      pss_nil)
    (pss_cons (ps_if (pt_cmpR op_eq (pe_ix ix_tup (pv 0) pe_int (fun _ _ => rfl)) pe_str (nomark _))
      (pss_one (ps_ret (pe_tup (pa_cons (pe_ix ix_tup (pv 0) pe_int (fun _ _ => rfl)) (pa_cons (pe_ix ix_tup (pv 0) pe_int (fun _ _ => rfl)) (pa_cons pe_int (pa_cons (pe_op op_add (pv 1) (pe_ix ix_tup (pv 0) pe_int (fun _ _ => rfl))) pa_nil)))))))
      pss_nil)
    (pss_cons (ps_if (pt_cmpR op_eq (pe_ix ix_tup (pv 0) pe_int (fun _ _ => rfl)) pe_str (nomark _))
      (pss_one (ps_ret (pe_tup (pa_cons pe_int (pa_cons (pe_ix ix_tup (pv 0) pe_int (fun _ _ => rfl)) (pa_cons (pe_ix ix_tup (pv 0) pe_int (fun _ _ => rfl)) (pa_cons (pe_op op_add (pv 1) (pe_ix ix_tup (pv 0) pe_int (fun _ _ => rfl))) pa_nil)))))))
      pss_nil)
    (pss_one (ps_ret (pe_tup (pa_cons pe_int (pa_cons (pe_op op_add (pe_op op_shl pe_int (pv 1)) (pe_ix ix_tup (pv 0) pe_int (fun _ _ => rfl))) (pa_cons pe_int (pa_cons (pe_op op_add (pv 1) (pe_ix ix_tup (pv 0) pe_int (fun _ _ => rfl))) pa_nil))))))))))), ?_⟩
  have ez := fm.e0
  have kk := fm.k
  rcases (by omega : kd = 0 ∨ kd = 1 ∨ kd = 2 ∨ kd = 3 ∨ kd = 4) with rfl | rfl | rfl | rfl | rfl <;> unfold tlv at ht
  · obtain rfl := ez (by decide)
    refine ⟨_, rfl, r, _, _, _, rfl, rfl, SqT.of ht, rfl, rfl, _, rfl, iteD rfl ?_⟩
    exact ⟨_, rfl, r, _, _, _, rfl, rfl, SqT.of ht, rfl, sz4, fun p hp => q p _ hp upd_same (same_new hp _)⟩
  · obtain rfl := ez (by decide)
    refine ⟨_, rfl, r, _, _, _, rfl, rfl, SqT.of ht, rfl, rfl, _, rfl, iteDN (by walk_at "n") ?_⟩
    refine ⟨_, rfl, r, _, _, _, rfl, rfl, SqT.of ht, rfl, rfl, _, rfl, iteD rfl ?_⟩
    exact ⟨_, rfl, r, _, _, _, rfl, rfl, SqT.of ht, rfl, _, rfl, _, rfl, r, _, _, _, rfl, rfl, SqT.of ht, rfl, _, _, rfl, rfl, sz4, fun p hp => q p _ hp upd_same (same_new hp _)⟩
  · refine ⟨_, rfl, r, _, _, _, rfl, rfl, SqT.of ht, rfl, rfl, _, rfl, iteDN (by walk_at "n") ?_⟩
    refine ⟨_, rfl, r, _, _, _, rfl, rfl, SqT.of ht, rfl, rfl, _, rfl, iteDN (by walk_at "n") ?_⟩
    refine ⟨_, rfl, r, _, _, _, rfl, rfl, SqT.of ht, rfl, rfl, _, rfl, iteD rfl ?_⟩
    exact ⟨_, rfl, r, _, _, _, rfl, rfl, SqT.of ht, rfl, _, rfl, r, _, _, _, rfl, rfl, SqT.of ht, rfl, _, rfl, _, rfl, r, _, _, _, rfl, rfl, SqT.of ht, rfl, _, _, rfl, rfl, sz4, fun p hp => q p _ hp upd_same (same_new hp _)⟩
  · obtain rfl := ez (by decide)
    refine ⟨_, rfl, r, _, _, _, rfl, rfl, SqT.of ht, rfl, rfl, _, rfl, iteDN (by walk_at "n") ?_⟩
    refine ⟨_, rfl, r, _, _, _, rfl, rfl, SqT.of ht, rfl, rfl, _, rfl, iteDN (by walk_at "n") ?_⟩
    refine ⟨_, rfl, r, _, _, _, rfl, rfl, SqT.of ht, rfl, rfl, _, rfl, iteDN (by walk_at "n") ?_⟩
    refine ⟨_, rfl, r, _, _, _, rfl, rfl, SqT.of ht, rfl, rfl, _, rfl, iteD rfl ?_⟩
    exact ⟨_, rfl, r, _, _, _, rfl, rfl, SqT.of ht, rfl, _, rfl, r, _, _, _, rfl, rfl, SqT.of ht, rfl, _, rfl, _, rfl, r, _, _, _, rfl, rfl, SqT.of ht, rfl, _, _, rfl, rfl, sz4, fun p hp => q p _ hp upd_same (same_new hp _)⟩
  · obtain rfl := ez (by decide)
    refine ⟨_, rfl, r, _, _, _, rfl, rfl, SqT.of ht, rfl, rfl, _, rfl, iteDN (by walk_at "n") ?_⟩
    refine ⟨_, rfl, r, _, _, _, rfl, rfl, SqT.of ht, rfl, rfl, _, rfl, iteDN (by walk_at "n") ?_⟩
    refine ⟨_, rfl, r, _, _, _, rfl, rfl, SqT.of ht, rfl, rfl, _, rfl, iteDN (by walk_at "n") ?_⟩
    refine ⟨_, rfl, r, _, _, _, rfl, rfl, SqT.of ht, rfl, rfl, _, rfl, iteDN (by walk_at "n") ?_⟩
    exact ⟨_, rfl, _, _, rfl, rfl, cpow1 (by omega) (by omega), _, rfl, r, _, _, _, rfl, rfl, SqT.of ht, rfl, _, _, rfl, rfl, _, rfl, _, rfl, r, _, _, _, rfl, rfl, SqT.of ht, rfl, _, _, rfl, rfl, sz4, fun p hp => q p _ hp upd_same (same_new hp _)⟩
theorem ok__law_brought {f : Addr} {fd : FuncData} (F : Fun K "_law_brought" "_law_brought" s__law_brought f fd) (T : Txt K mg c)  : FnOk P w K mg base CX0 1 f fd ["_law_numbers_here", "_law_x"] spBroG := by
  refine F.ok sc__law_brought (fun vs H Q E h => ?_) (fun cdv A outer s H vs Q E hr h => ?_)
  · obtain ⟨r, e, f, a, t, x, rfl, _⟩ := h
    rfl
  obtain ⟨r, e, f, a, t, x, rfl, ht, ⟨e0, e1, f0, f1, a0, a1, t0, t1⟩, x0, x1, q⟩ := h
  refine ⟨_, (pss_cons (ps_asg (pv 0) (pg_tup rfl (pgs_cons (pg_name (i := 2) sc__law_brought.nd rfl (Or.inl rfl)) (pgs_cons (pg_name (i := 3) sc__law_brought.nd rfl (Or.inl rfl)) (pgs_cons (pg_name (i := 4) sc__law_brought.nd rfl (Or.inl rfl)) (pgs_cons (pg_name (i := 5) sc__law_brought.nd rfl (Or.inl rfl)) pgs_nil))))))
    (pss_one (ps_ret (pe_op op_shr (pe_op op_add (pe_op op_mulB (pv 3) (pe_op op_shr (pv 1) (pv 2))) (pv 4)) (pv 5))))), ?_⟩
  have z := xdiv x0 e
  refine ⟨_, rfl, r, _, rfl, SqT.of ht, rfl, _, _, rfl, _, _, rfl, _, _, rfl, _, _, rfl, rfl, ?_⟩
  walk_at "o"
  exact q
theorem ok_brought {f : Addr} {fd : FuncData} (F : Fun K "brought" "brought" s_brought f fd) (T : Txt K mg c)  : FnOkR P w K mg base (fun _ => CX0) false 1 f fd ["reckoning", "x"] spBroG := by
  refine Fun.okR0 F sc_brought (fun vs H Q E h => ?_) (fun cdv A outer s H vs Q E hr hh h => ?_)
  · obtain ⟨r, e, f, a, t, x, rfl, _⟩ := h
    rfl
  obtain ⟨r, e, f, a, t, x, rfl, ht, ⟨e0, e1, f0, f1, a0, a1, t0, t1⟩, x0, x1, q⟩ := h
  refine ⟨_, (pss_one (ps_ret (pe_op op_shr (pe_op op_add (pe_op op_mulB (pe_ix ix_tup (pv 0) pe_int (fun _ _ => rfl)) (pe_op op_shr (pv 1) (pe_ix ix_tup (pv 0) pe_int (fun _ _ => rfl)))) (pe_ix ix_tup (pv 0) pe_int (fun _ _ => rfl))) (pe_ix ix_tup (pv 0) pe_int (fun _ _ => rfl))))), ?_⟩
  have z := xdiv x0 e
  unfold IsG at ht
  walk_at "o"
  exact q
theorem ok__law_whole {f : Addr} {fd : FuncData} (F : Fun K "_law_whole" "_law_whole" s__law_whole f fd) (T : Txt K mg c)  : FnOk P w K mg base CX0 1 f fd ["_law_found"] spWhole := by
  refine F.ok sc__law_whole (fun vs H Q E h => ?_) (fun cdv A outer s H vs Q E hr h => ?_)
  · obtain ⟨i, rfl, _⟩ := h
    rfl
  obtain ⟨i, rfl, q⟩ := h
  refine ⟨_, (pss_one (ps_ret (pe_and (pe_callB call_isinst rfl T.n_isinstance boot_isinstance (pa_cons (pv 0) (pa_cons (pe_ty rfl T.n_int boot_int) pa_nil))) (pe_one (pe_not (pe_callB call_isinst rfl T.n_isinstance boot_isinstance (pa_cons (pv 0) (pa_cons (pe_ty rfl T.n_bool boot_bool) pa_nil)))))))), ?_⟩
  refine ⟨_, rfl, _, _, _, _, _, rfl, rfl, TyOf.int _, kit_int_int _, _, rfl, iteT ?_⟩
  refine ⟨_, rfl, _, _, _, _, _, rfl, rfl, TyOf.int _, kit_int_bool _, _, rfl, ?_⟩
  exact q
theorem ok_is_factor {f : Addr} {fd : FuncData} (F : Fun K "is_factor" "is_factor" s_is_factor f fd) (T : Txt K mg c) (H_is_between : HasR P w K mg base (fun _ => CX0) false 2 "is_between" ["thing", "low", "high"] spBtwG) : FnOkR P w K mg base (fun _ => CX0) false 3 f fd ["thing"] spFacV := by
  refine Fun.okR0 F sc_is_factor (fun vs H Q E h => ?_) (fun cdv A outer s H vs Q E hr hh h => ?_)
  · obtain ⟨x, rfl, _⟩ := h
    rfl
  obtain ⟨x, rfl, th, q⟩ := h
  refine ⟨_, (pss_one (ps_ret (pe_fnG H_is_between (room_any (hr.mono (by omega)) rfl rfl rfl) (fun z => nomatch z) rfl pat0 (pa_cons (pv 0) (pa_cons pe_int (pa_cons (pe_op op_sub (pe_op op_pow pe_int pe_int) pe_int) pa_nil)))))), ?_⟩
  refine ⟨_, rfl, _, _, rfl, rfl, ⟨by decide, by decide, by decide⟩, _, _, rfl, rfl, _, _, _, rfl, th, ?_⟩
  rw [pow32]
  exact q
theorem ok_is_shift {f : Addr} {fd : FuncData} (F : Fun K "is_shift" "is_shift" s_is_shift f fd) (T : Txt K mg c) (H_is_between : HasR P w K mg base (fun _ => CX0) false 2 "is_between" ["thing", "low", "high"] spBtwG) : FnOkR P w K mg base (fun _ => CX0) false 3 f fd ["thing"] spShfV := by
  refine Fun.okR0 F sc_is_shift (fun vs H Q E h => ?_) (fun cdv A outer s H vs Q E hr hh h => ?_)
  · obtain ⟨x, rfl, _⟩ := h
    rfl
  obtain ⟨x, rfl, th, q⟩ := h
  exact ⟨_, (pss_one (ps_ret (pe_fnG H_is_between (room_any (hr.mono (by omega)) rfl rfl rfl) (fun z => nomatch z) rfl pat0 (pa_cons (pv 0) (pa_cons pe_int (pa_cons pe_int pa_nil)))))), _, rfl, _, _, _, rfl, th, q⟩
theorem ok_need_width {f : Addr} {fd : FuncData} (F : Fun K "need_width" "need_width" s_need_width f fd) (T : Txt K mg c) (H_is_between : HasR P w K mg base (fun _ => CX0) false 2 "is_between" ["thing", "low", "high"] spBtwG) (X_NoWidth : XHasR P w K mg base 1 "NoWidth" c.NoWidth "found") : FnOkR P w K mg base (fun c => CX2c c P w base) true 3 f fd ["width"] (spNeedV c) := by
  refine Fun.okR F sc_need_width (fun vs H Q E h => ?_) (fun cdv A outer s H vs Q E hr hh h => ?_)
  · obtain ⟨v, rfl, _⟩ := h
    rfl
  obtain ⟨v, rfl, th, q1, q2⟩ := h
  refine ⟨_, (pss_one (ps_if (pt_not (pt_val (pe_fnG H_is_between (room_any (hr.mono (by omega)) rfl rfl rfl) (fun z => nomatch z) rfl pat0 (pa_cons (pv 0) (pa_cons pe_int (pa_cons pe_int pa_nil))))))
      (pss_one (ps_raise1R X_NoWidth (room_any (hr.mono (by omega)) rfl rfl rfl) (hd_in (hh rfl)) rfl (pa_cons (pv 0) pa_nil)))
      pss_nil)), ?_⟩
  refine ⟨_, rfl, _, _, _, rfl, th, ?_⟩
  cases e : btw v 4 32 with
  | true => exact ⟨_, rfl, iteF (q1 e)⟩
  | false => exact ⟨_, rfl, iteT ⟨_, rfl, _, rfl, fun d hd => q2 e d hd⟩⟩
theorem ok_Shifted_word {f : Addr} {fd : FuncData} (F : Fun K "word" "Shifted.word" s_Shifted_word f fd) (T : Txt K mg c)  : FnOkR P w K mg base (fun _ => CX0) false 1 f fd ["self"] (spWd 0) := by
  refine Fun.okR0 F sc_Shifted_word (fun vs H Q E h => ?_) (fun cdv A outer s H vs Q E hr hh h => ?_)
  · obtain ⟨x, rfl, _⟩ := h
    rfl
  obtain ⟨x, rfl, q⟩ := h
  exact ⟨_, (pss_one (ps_ret pe_str)), q⟩
theorem ok_Shifted_told {f : Addr} {fd : FuncData} (F : Fun K "told" "Shifted.told" s_Shifted_told f fd) (T : Txt K mg c)  (MW : MHasR P w K mg base (fun _ => CX0) false 1 c.Shifted "word" ["self"] (spWd 0)) : FnOkR P w K mg base (fun _ => CX0) false 2 f fd ["self"] (spTV c 0) := by
  refine Fun.okR0 F sc_Shifted_told (fun vs H Q E h => ?_) (fun cdv A outer s H vs Q E hr hh h => ?_)
  · obtain ⟨x, e, f, s, rfl, _⟩ := h
    rfl
  obtain ⟨x, e, f, s, rfl, ⟨dx, hx⟩, q⟩ := h
  refine ⟨_, (pss_one (ps_ret (pe_tup (pa_cons (pe_methG0 (CX := (fun _ => CX0)) (r := false) (k := 1) (pv 0) (room_any (hr.mono (by omega)) rfl rfl rfl) (fun z => nomatch z) pat0) (pa_cons (pe_fld (pv 0) rfl) pa_nil))))), ?_⟩
  refine ⟨_, rfl, x, _, dx, _, _, _, rfl, hx, rfl, MW, x, rfl, _, rfl, x, _, dx, _, _, rfl, hx, T.cl_Shifted, T.na_Shifted_shift, rfl, (by show 2 ≤ sizeLine; decide), fun r hr' => q r _ hr' upd_same (same_new hr' _)⟩
theorem ok_Shifted_numbers_in {f : Addr} {fd : FuncData} (F : Fun K "numbers_in" "Shifted.numbers_in" s_Shifted_numbers_in f fd) (T : Txt K mg c) (H_need_width : HasR P w K mg base (fun c => CX2c c P w base) true 3 "need_width" ["width"] (spNeedV c)) : FnOkR P w K mg base (fun c => CX2c c P w base) true 4 f fd ["self", "width"] (spNumV c 0) := by
  refine Fun.okR F sc_Shifted_numbers_in (fun vs H Q E h => ?_) (fun cdv A outer s H vs Q E hr hh h => ?_)
  · obtain ⟨x, v, e, f, t, rfl, _⟩ := h
    rfl
  obtain ⟨x, v, e, f, t, rfl, ⟨dx, hx⟩, fm, th, q, q2⟩ := h
  refine ⟨_, (pss_cons (ps_expr (pe_fnG H_need_width (room_any (hr.mono (by omega)) rfl rfl rfl) (fun _ => (hd_in (hh rfl))) rfl passR (pa_cons (pv 1) pa_nil)))
    (pss_one (ps_ret (pe_tup (pa_cons pe_int (pa_cons pe_int (pa_cons pe_int (pa_cons (pe_fld (pv 0) rfl) pa_nil)))))))), ?_⟩
  have ez := fm.e0
  refine ⟨_, rfl, _, rfl, th, fun eb => ?_, fun eb d hd => q2 eb d hd⟩
  obtain ⟨i, rfl, h1, h2⟩ := btw_int eb
  refine ⟨_, rfl, x, _, dx, _, _, rfl, hx, T.cl_Shifted, T.na_Shifted_shift, rfl, (by show 4 ≤ sizeLine; decide), fun r hr' => ?_⟩
  obtain rfl := ez (by decide)
  exact q i rfl h1 h2 r _ hr' upd_same (same_new hr' _)
theorem ok_Shifted___init__ {f : Addr} {fd : FuncData} (F : Fun K "__init__" "Shifted.__init__" s_Shifted___init__ f fd) (T : Txt K mg c) (H_is_shift : HasR P w K mg base (fun _ => CX0) false 3 "is_shift" ["thing"] spShfV) (X_NoForm : XHasR P w K mg base 1 "NoForm" c.NoForm "found") (MT : MHasR P w K mg base (fun _ => CX0) false 2 c.Shifted "told" ["self"] (spTV c 0)) : FnOkR P w K mg base (fun c => CX2c c P w base) true 4 f fd ["self", "shift"] (spIV c 0) := by
  refine Fun.okR F sc_Shifted___init__ (fun vs H Q E h => ?_) (fun cdv A outer s H vs Q E hr hh h => ?_)
  · obtain ⟨x, dx, e, f, s, rfl, _⟩ := h
    rfl
  obtain ⟨x, dx, e, f, s, rfl, hx, te, tf, ts, q1, q2⟩ := h
  refine ⟨_, (pss_cons (ps_fld (pv 0) (pv 1) rfl)
    (pss_one (ps_if (pt_not (pt_val (pe_fnG H_is_shift (room_any (hr.mono (by omega)) rfl rfl rfl) (fun z => nomatch z) rfl pat0 (pa_cons (pv 1) pa_nil))))
      (pss_one (ps_raise1R X_NoForm (room_any (hr.mono (by omega)) rfl rfl rfl) (hd_in (hh rfl)) rfl (pa_cons (pe_methG0 (CX := (fun _ => CX0)) (r := false) (k := 2) (pv 0) (room_any (hr.mono (by omega)) rfl rfl rfl) (fun z => nomatch z) pat0) pa_nil)))
      pss_nil))), ?_⟩
  refine ⟨_, rfl, _, rfl, x, _, dx, _, rfl, hx, T.cl_Shifted, T.na_Shifted_shift, (by show 0 < 1000; decide), ?_⟩
  refine ⟨_, rfl, _, rfl, ts.sx hx (SameX.upd), ?_⟩
  cases b0 : btw s 0 64 with
  | false => exact ⟨_, rfl, iteT ⟨_, rfl, x, _, dx, _, _, _, rfl, upd_same, rfl, MT, x, e, f, s, rfl, ⟨dx, upd_same⟩, fun r H2 hr' h2 s2 => ⟨_, rfl, fun d hd => q2 (by show (btw s 0 64) = false; simp [b0]) d r _ ((SameX.upd).trans (SameX.of (s2.trans (same_new hd _)))) upd_same (same_new hd _ _ _ h2)⟩⟩⟩
  | true =>
    refine ⟨_, rfl, iteF ?_⟩
    exact q1 (by show (btw s 0 64) = true; simp [b0]) _ (SameX.upd) ⟨dx, upd_same⟩
theorem ok_Scaled_word {f : Addr} {fd : FuncData} (F : Fun K "word" "Scaled.word" s_Scaled_word f fd) (T : Txt K mg c)  : FnOkR P w K mg base (fun _ => CX0) false 1 f fd ["self"] (spWd 1) := by
  refine Fun.okR0 F sc_Scaled_word (fun vs H Q E h => ?_) (fun cdv A outer s H vs Q E hr hh h => ?_)
  · obtain ⟨x, rfl, _⟩ := h
    rfl
  obtain ⟨x, rfl, q⟩ := h
  exact ⟨_, (pss_one (ps_ret pe_str)), q⟩
theorem ok_Scaled_told {f : Addr} {fd : FuncData} (F : Fun K "told" "Scaled.told" s_Scaled_told f fd) (T : Txt K mg c)  (MW : MHasR P w K mg base (fun _ => CX0) false 1 c.Scaled "word" ["self"] (spWd 1)) : FnOkR P w K mg base (fun _ => CX0) false 2 f fd ["self"] (spTV c 1) := by
  refine Fun.okR0 F sc_Scaled_told (fun vs H Q E h => ?_) (fun cdv A outer s H vs Q E hr hh h => ?_)
  · obtain ⟨x, e, f, s, rfl, _⟩ := h
    rfl
  obtain ⟨x, e, f, s, rfl, ⟨dx, hx⟩, q⟩ := h
  refine ⟨_, (pss_one (ps_ret (pe_tup (pa_cons (pe_methG0 (CX := (fun _ => CX0)) (r := false) (k := 1) (pv 0) (room_any (hr.mono (by omega)) rfl rfl rfl) (fun z => nomatch z) pat0) (pa_cons (pe_fld (pv 0) rfl) (pa_cons (pe_fld (pv 0) rfl) pa_nil)))))), ?_⟩
  refine ⟨_, rfl, x, _, dx, _, _, _, rfl, hx, rfl, MW, x, rfl, _, rfl, x, _, dx, _, _, rfl, hx, T.cl_Scaled, T.na_Scaled_factor, rfl, _, rfl, x, _, dx, _, _, rfl, hx, T.cl_Scaled, T.na_Scaled_shift, rfl, (by show 3 ≤ sizeLine; decide), fun r hr' => q r _ hr' upd_same (same_new hr' _)⟩
theorem ok_Scaled_numbers_in {f : Addr} {fd : FuncData} (F : Fun K "numbers_in" "Scaled.numbers_in" s_Scaled_numbers_in f fd) (T : Txt K mg c) (H_need_width : HasR P w K mg base (fun c => CX2c c P w base) true 3 "need_width" ["width"] (spNeedV c)) : FnOkR P w K mg base (fun c => CX2c c P w base) true 4 f fd ["self", "width"] (spNumV c 1) := by
  refine Fun.okR F sc_Scaled_numbers_in (fun vs H Q E h => ?_) (fun cdv A outer s H vs Q E hr hh h => ?_)
  · obtain ⟨x, v, e, f, t, rfl, _⟩ := h
    rfl
  obtain ⟨x, v, e, f, t, rfl, ⟨dx, hx⟩, fm, th, q, q2⟩ := h
  refine ⟨_, (pss_cons (ps_expr (pe_fnG H_need_width (room_any (hr.mono (by omega)) rfl rfl rfl) (fun _ => (hd_in (hh rfl))) rfl passR (pa_cons (pv 1) pa_nil)))
    (pss_one (ps_ret (pe_tup (pa_cons pe_int (pa_cons (pe_fld (pv 0) rfl) (pa_cons pe_int (pa_cons (pe_op op_add (pv 1) (pe_fld (pv 0) rfl)) pa_nil)))))))), ?_⟩
  have ez := fm.e0
  refine ⟨_, rfl, _, rfl, th, fun eb => ?_, fun eb d hd => q2 eb d hd⟩
  obtain ⟨i, rfl, h1, h2⟩ := btw_int eb
  refine ⟨_, rfl, x, _, dx, _, _, rfl, hx, T.cl_Scaled, T.na_Scaled_factor, rfl, _, rfl, _, rfl, x, _, dx, _, _, rfl, hx, T.cl_Scaled, T.na_Scaled_shift, rfl, _, _, rfl, rfl, (by show 4 ≤ sizeLine; decide), fun r hr' => ?_⟩
  obtain rfl := ez (by decide)
  exact q i rfl h1 h2 r _ hr' upd_same (same_new hr' _)
theorem ok_Scaled___init__ {f : Addr} {fd : FuncData} (F : Fun K "__init__" "Scaled.__init__" s_Scaled___init__ f fd) (T : Txt K mg c) (H_is_factor : HasR P w K mg base (fun _ => CX0) false 3 "is_factor" ["thing"] spFacV) (H_is_shift : HasR P w K mg base (fun _ => CX0) false 3 "is_shift" ["thing"] spShfV) (X_NoForm : XHasR P w K mg base 1 "NoForm" c.NoForm "found") (MT : MHasR P w K mg base (fun _ => CX0) false 2 c.Scaled "told" ["self"] (spTV c 1)) : FnOkR P w K mg base (fun c => CX2c c P w base) true 4 f fd ["self", "factor", "shift"] (spIV c 1) := by
  refine Fun.okR F sc_Scaled___init__ (fun vs H Q E h => ?_) (fun cdv A outer s H vs Q E hr hh h => ?_)
  · obtain ⟨x, dx, e, f, s, rfl, _⟩ := h
    rfl
  obtain ⟨x, dx, e, f, s, rfl, hx, te, tf, ts, q1, q2⟩ := h
  refine ⟨_, (pss_cons (ps_fld (pv 0) (pv 1) rfl)
    (pss_cons (ps_fld (pv 0) (pv 2) rfl)
    (pss_one (ps_if (PW.pt (pw_or (pt_not (pt_val (pe_fnG H_is_factor (room_any (hr.mono (by omega)) rfl rfl rfl) (fun z => nomatch z) rfl pat0 (pa_cons (pv 1) pa_nil)))) (pw_or1 (pt_not (pt_val (pe_fnG H_is_shift (room_any (hr.mono (by omega)) rfl rfl rfl) (fun z => nomatch z) rfl pat0 (pa_cons (pv 2) pa_nil)))))))
      (pss_one (ps_raise1R X_NoForm (room_any (hr.mono (by omega)) rfl rfl rfl) (hd_in (hh rfl)) rfl (pa_cons (pe_methG0 (CX := (fun _ => CX0)) (r := false) (k := 2) (pv 0) (room_any (hr.mono (by omega)) rfl rfl rfl) (fun z => nomatch z) pat0) pa_nil)))
      pss_nil)))), ?_⟩
  refine ⟨_, rfl, _, rfl, x, _, dx, _, rfl, hx, T.cl_Scaled, T.na_Scaled_factor, (by show 0 < 1000; decide), ?_⟩
  refine ⟨_, rfl, _, rfl, x, _, dx, _, rfl, upd_same, T.cl_Scaled, T.na_Scaled_shift, (by show 1 < 1000; decide), ?_⟩
  refine ⟨_, rfl, _, rfl, tf.sx hx (SameX.upd.trans (SameX.upd)), ?_⟩
  cases b0 : btw f 0 4294967295 with
  | false => exact ⟨_, rfl, iteT ⟨_, rfl, x, _, dx, _, _, _, rfl, upd_same, rfl, MT, x, e, f, s, rfl, ⟨dx, upd_same⟩, fun r H2 hr' h2 s2 => ⟨_, rfl, fun d hd => q2 (by show (btw f 0 4294967295 && btw s 0 64) = false; simp [b0]) d r _ ((SameX.upd.trans (SameX.upd)).trans (SameX.of (s2.trans (same_new hd _)))) upd_same (same_new hd _ _ _ h2)⟩⟩⟩
  | true =>
    refine ⟨_, rfl, iteF ?_⟩
    refine ⟨_, rfl, _, rfl, ts.sx hx (SameX.upd.trans (SameX.upd)), ?_⟩
    cases b1 : btw s 0 64 with
    | false => exact ⟨_, rfl, iteT ⟨_, rfl, x, _, dx, _, _, _, rfl, upd_same, rfl, MT, x, e, f, s, rfl, ⟨dx, upd_same⟩, fun r H2 hr' h2 s2 => ⟨_, rfl, fun d hd => q2 (by show (btw f 0 4294967295 && btw s 0 64) = false; simp [b0, b1]) d r _ ((SameX.upd.trans (SameX.upd)).trans (SameX.of (s2.trans (same_new hd _)))) upd_same (same_new hd _ _ _ h2)⟩⟩⟩
    | true =>
      refine ⟨_, rfl, iteF ?_⟩
      exact q1 (by show (btw f 0 4294967295 && btw s 0 64) = true; simp [b0, b1]) _ (SameX.upd.trans (SameX.upd)) ⟨dx, upd_same⟩
theorem ok_Early_word {f : Addr} {fd : FuncData} (F : Fun K "word" "Early.word" s_Early_word f fd) (T : Txt K mg c)  : FnOkR P w K mg base (fun _ => CX0) false 1 f fd ["self"] (spWd 2) := by
  refine Fun.okR0 F sc_Early_word (fun vs H Q E h => ?_) (fun cdv A outer s H vs Q E hr hh h => ?_)
  · obtain ⟨x, rfl, _⟩ := h
    rfl
  obtain ⟨x, rfl, q⟩ := h
  exact ⟨_, (pss_one (ps_ret pe_str)), q⟩
theorem ok_Early_told {f : Addr} {fd : FuncData} (F : Fun K "told" "Early.told" s_Early_told f fd) (T : Txt K mg c)  (MW : MHasR P w K mg base (fun _ => CX0) false 1 c.Early "word" ["self"] (spWd 2)) : FnOkR P w K mg base (fun _ => CX0) false 2 f fd ["self"] (spTV c 2) := by
  refine Fun.okR0 F sc_Early_told (fun vs H Q E h => ?_) (fun cdv A outer s H vs Q E hr hh h => ?_)
  · obtain ⟨x, e, f, s, rfl, _⟩ := h
    rfl
  obtain ⟨x, e, f, s, rfl, ⟨dx, hx⟩, q⟩ := h
  refine ⟨_, (pss_one (ps_ret (pe_tup (pa_cons (pe_methG0 (CX := (fun _ => CX0)) (r := false) (k := 1) (pv 0) (room_any (hr.mono (by omega)) rfl rfl rfl) (fun z => nomatch z) pat0) (pa_cons (pe_fld (pv 0) rfl) (pa_cons (pe_fld (pv 0) rfl) (pa_cons (pe_fld (pv 0) rfl) pa_nil))))))), ?_⟩
  refine ⟨_, rfl, x, _, dx, _, _, _, rfl, hx, rfl, MW, x, rfl, _, rfl, x, _, dx, _, _, rfl, hx, T.cl_Early, T.na_Early_early, rfl, _, rfl, x, _, dx, _, _, rfl, hx, T.cl_Early, T.na_Early_factor, rfl, _, rfl, x, _, dx, _, _, rfl, hx, T.cl_Early, T.na_Early_shift, rfl, (by show 4 ≤ sizeLine; decide), fun r hr' => q r _ hr' upd_same (same_new hr' _)⟩
theorem ok_Early_numbers_in {f : Addr} {fd : FuncData} (F : Fun K "numbers_in" "Early.numbers_in" s_Early_numbers_in f fd) (T : Txt K mg c) (H_need_width : HasR P w K mg base (fun c => CX2c c P w base) true 3 "need_width" ["width"] (spNeedV c)) : FnOkR P w K mg base (fun c => CX2c c P w base) true 4 f fd ["self", "width"] (spNumV c 2) := by
  refine Fun.okR F sc_Early_numbers_in (fun vs H Q E h => ?_) (fun cdv A outer s H vs Q E hr hh h => ?_)
  · obtain ⟨x, v, e, f, t, rfl, _⟩ := h
    rfl
  obtain ⟨x, v, e, f, t, rfl, ⟨dx, hx⟩, fm, th, q, q2⟩ := h
  refine ⟨_, (pss_cons (ps_expr (pe_fnG H_need_width (room_any (hr.mono (by omega)) rfl rfl rfl) (fun _ => (hd_in (hh rfl))) rfl passR (pa_cons (pv 1) pa_nil)))
    (pss_one (ps_ret (pe_tup (pa_cons (pe_fld (pv 0) rfl) (pa_cons (pe_fld (pv 0) rfl) (pa_cons pe_int (pa_cons (pe_op op_add (pv 1) (pe_fld (pv 0) rfl)) pa_nil)))))))), ?_⟩
  have ez := fm.e0
  refine ⟨_, rfl, _, rfl, th, fun eb => ?_, fun eb d hd => q2 eb d hd⟩
  obtain ⟨i, rfl, h1, h2⟩ := btw_int eb
  refine ⟨_, rfl, x, _, dx, _, _, rfl, hx, T.cl_Early, T.na_Early_early, rfl, _, rfl, x, _, dx, _, _, rfl, hx, T.cl_Early, T.na_Early_factor, rfl, _, rfl, _, rfl, x, _, dx, _, _, rfl, hx, T.cl_Early, T.na_Early_shift, rfl, _, _, rfl, rfl, (by show 4 ≤ sizeLine; decide), fun r hr' => ?_⟩
  exact q i rfl h1 h2 r _ hr' upd_same (same_new hr' _)
theorem ok_Early___init__ {f : Addr} {fd : FuncData} (F : Fun K "__init__" "Early.__init__" s_Early___init__ f fd) (T : Txt K mg c) (H_is_shift : HasR P w K mg base (fun _ => CX0) false 3 "is_shift" ["thing"] spShfV) (H_is_factor : HasR P w K mg base (fun _ => CX0) false 3 "is_factor" ["thing"] spFacV) (X_NoForm : XHasR P w K mg base 1 "NoForm" c.NoForm "found") (MT : MHasR P w K mg base (fun _ => CX0) false 2 c.Early "told" ["self"] (spTV c 2)) : FnOkR P w K mg base (fun c => CX2c c P w base) true 4 f fd ["self", "early", "factor", "shift"] (spIV c 2) := by
  refine Fun.okR F sc_Early___init__ (fun vs H Q E h => ?_) (fun cdv A outer s H vs Q E hr hh h => ?_)
  · obtain ⟨x, dx, e, f, s, rfl, _⟩ := h
    rfl
  obtain ⟨x, dx, e, f, s, rfl, hx, te, tf, ts, q1, q2⟩ := h
  refine ⟨_, (pss_cons (ps_fld (pv 0) (pv 1) rfl)
    (pss_cons (ps_fld (pv 0) (pv 2) rfl)
    (pss_cons (ps_fld (pv 0) (pv 3) rfl)
    (pss_one (ps_if (PW.pt (pw_or (pt_not (pt_val (pe_fnG H_is_shift (room_any (hr.mono (by omega)) rfl rfl rfl) (fun z => nomatch z) rfl pat0 (pa_cons (pv 1) pa_nil)))) (pw_or (pt_not (pt_val (pe_fnG H_is_factor (room_any (hr.mono (by omega)) rfl rfl rfl) (fun z => nomatch z) rfl pat0 (pa_cons (pv 2) pa_nil)))) (pw_or1 (pt_not (pt_val (pe_fnG H_is_shift (room_any (hr.mono (by omega)) rfl rfl rfl) (fun z => nomatch z) rfl pat0 (pa_cons (pv 3) pa_nil))))))))
      (pss_one (ps_raise1R X_NoForm (room_any (hr.mono (by omega)) rfl rfl rfl) (hd_in (hh rfl)) rfl (pa_cons (pe_methG0 (CX := (fun _ => CX0)) (r := false) (k := 2) (pv 0) (room_any (hr.mono (by omega)) rfl rfl rfl) (fun z => nomatch z) pat0) pa_nil)))
      pss_nil))))), ?_⟩
  refine ⟨_, rfl, _, rfl, x, _, dx, _, rfl, hx, T.cl_Early, T.na_Early_early, (by show 0 < 1000; decide), ?_⟩
  refine ⟨_, rfl, _, rfl, x, _, dx, _, rfl, upd_same, T.cl_Early, T.na_Early_factor, (by show 1 < 1000; decide), ?_⟩
  refine ⟨_, rfl, _, rfl, x, _, dx, _, rfl, upd_same, T.cl_Early, T.na_Early_shift, (by show 2 < 1000; decide), ?_⟩
  refine ⟨_, rfl, _, rfl, te.sx hx (SameX.upd.trans (SameX.upd.trans (SameX.upd))), ?_⟩
  cases b0 : btw e 0 64 with
  | false => exact ⟨_, rfl, iteT ⟨_, rfl, x, _, dx, _, _, _, rfl, upd_same, rfl, MT, x, e, f, s, rfl, ⟨dx, upd_same⟩, fun r H2 hr' h2 s2 => ⟨_, rfl, fun d hd => q2 (by show (btw e 0 64 && btw f 0 4294967295 && btw s 0 64) = false; simp [b0]) d r _ ((SameX.upd.trans (SameX.upd.trans (SameX.upd))).trans (SameX.of (s2.trans (same_new hd _)))) upd_same (same_new hd _ _ _ h2)⟩⟩⟩
  | true =>
    refine ⟨_, rfl, iteF ?_⟩
    refine ⟨_, rfl, _, rfl, tf.sx hx (SameX.upd.trans (SameX.upd.trans (SameX.upd))), ?_⟩
    cases b1 : btw f 0 4294967295 with
    | false => exact ⟨_, rfl, iteT ⟨_, rfl, x, _, dx, _, _, _, rfl, upd_same, rfl, MT, x, e, f, s, rfl, ⟨dx, upd_same⟩, fun r H2 hr' h2 s2 => ⟨_, rfl, fun d hd => q2 (by show (btw e 0 64 && btw f 0 4294967295 && btw s 0 64) = false; simp [b0, b1]) d r _ ((SameX.upd.trans (SameX.upd.trans (SameX.upd))).trans (SameX.of (s2.trans (same_new hd _)))) upd_same (same_new hd _ _ _ h2)⟩⟩⟩
    | true =>
      refine ⟨_, rfl, iteF ?_⟩
      refine ⟨_, rfl, _, rfl, ts.sx hx (SameX.upd.trans (SameX.upd.trans (SameX.upd))), ?_⟩
      cases b2 : btw s 0 64 with
      | false => exact ⟨_, rfl, iteT ⟨_, rfl, x, _, dx, _, _, _, rfl, upd_same, rfl, MT, x, e, f, s, rfl, ⟨dx, upd_same⟩, fun r H2 hr' h2 s2 => ⟨_, rfl, fun d hd => q2 (by show (btw e 0 64 && btw f 0 4294967295 && btw s 0 64) = false; simp [b0, b1, b2]) d r _ ((SameX.upd.trans (SameX.upd.trans (SameX.upd))).trans (SameX.of (s2.trans (same_new hd _)))) upd_same (same_new hd _ _ _ h2)⟩⟩⟩
      | true =>
        refine ⟨_, rfl, iteF ?_⟩
        exact q1 (by show (btw e 0 64 && btw f 0 4294967295 && btw s 0 64) = true; simp [b0, b1, b2]) _ (SameX.upd.trans (SameX.upd.trans (SameX.upd))) ⟨dx, upd_same⟩
theorem ok_More_word {f : Addr} {fd : FuncData} (F : Fun K "word" "More.word" s_More_word f fd) (T : Txt K mg c)  : FnOkR P w K mg base (fun _ => CX0) false 1 f fd ["self"] (spWd 3) := by
  refine Fun.okR0 F sc_More_word (fun vs H Q E h => ?_) (fun cdv A outer s H vs Q E hr hh h => ?_)
  · obtain ⟨x, rfl, _⟩ := h
    rfl
  obtain ⟨x, rfl, q⟩ := h
  exact ⟨_, (pss_one (ps_ret pe_str)), q⟩
theorem ok_More_told {f : Addr} {fd : FuncData} (F : Fun K "told" "More.told" s_More_told f fd) (T : Txt K mg c)  (MW : MHasR P w K mg base (fun _ => CX0) false 1 c.More "word" ["self"] (spWd 3)) : FnOkR P w K mg base (fun _ => CX0) false 2 f fd ["self"] (spTV c 3) := by
  refine Fun.okR0 F sc_More_told (fun vs H Q E h => ?_) (fun cdv A outer s H vs Q E hr hh h => ?_)
  · obtain ⟨x, e, f, s, rfl, _⟩ := h
    rfl
  obtain ⟨x, e, f, s, rfl, ⟨dx, hx⟩, q⟩ := h
  refine ⟨_, (pss_one (ps_ret (pe_tup (pa_cons (pe_methG0 (CX := (fun _ => CX0)) (r := false) (k := 1) (pv 0) (room_any (hr.mono (by omega)) rfl rfl rfl) (fun z => nomatch z) pat0) (pa_cons (pe_fld (pv 0) rfl) (pa_cons (pe_fld (pv 0) rfl) pa_nil)))))), ?_⟩
  refine ⟨_, rfl, x, _, dx, _, _, _, rfl, hx, rfl, MW, x, rfl, _, rfl, x, _, dx, _, _, rfl, hx, T.cl_More, T.na_More_factor, rfl, _, rfl, x, _, dx, _, _, rfl, hx, T.cl_More, T.na_More_shift, rfl, (by show 3 ≤ sizeLine; decide), fun r hr' => q r _ hr' upd_same (same_new hr' _)⟩
theorem ok_More_numbers_in {f : Addr} {fd : FuncData} (F : Fun K "numbers_in" "More.numbers_in" s_More_numbers_in f fd) (T : Txt K mg c) (H_need_width : HasR P w K mg base (fun c => CX2c c P w base) true 3 "need_width" ["width"] (spNeedV c)) : FnOkR P w K mg base (fun c => CX2c c P w base) true 4 f fd ["self", "width"] (spNumV c 3) := by
  refine Fun.okR F sc_More_numbers_in (fun vs H Q E h => ?_) (fun cdv A outer s H vs Q E hr hh h => ?_)
  · obtain ⟨x, v, e, f, t, rfl, _⟩ := h
    rfl
  obtain ⟨x, v, e, f, t, rfl, ⟨dx, hx⟩, fm, th, q, q2⟩ := h
  refine ⟨_, (pss_cons (ps_expr (pe_fnG H_need_width (room_any (hr.mono (by omega)) rfl rfl rfl) (fun _ => (hd_in (hh rfl))) rfl passR (pa_cons (pv 1) pa_nil)))
    (pss_one (ps_ret (pe_tup (pa_cons pe_int (pa_cons (pe_fld (pv 0) rfl) (pa_cons (pe_fld (pv 0) rfl) (pa_cons (pe_op op_add (pv 1) (pe_fld (pv 0) rfl)) pa_nil)))))))), ?_⟩
  have ez := fm.e0
  refine ⟨_, rfl, _, rfl, th, fun eb => ?_, fun eb d hd => q2 eb d hd⟩
  obtain ⟨i, rfl, h1, h2⟩ := btw_int eb
  refine ⟨_, rfl, x, _, dx, _, _, rfl, hx, T.cl_More, T.na_More_factor, rfl, _, rfl, x, _, dx, _, _, rfl, hx, T.cl_More, T.na_More_factor, rfl, _, rfl, _, rfl, x, _, dx, _, _, rfl, hx, T.cl_More, T.na_More_shift, rfl, _, _, rfl, rfl, (by show 4 ≤ sizeLine; decide), fun r hr' => ?_⟩
  obtain rfl := ez (by decide)
  exact q i rfl h1 h2 r _ hr' upd_same (same_new hr' _)
theorem ok_More___init__ {f : Addr} {fd : FuncData} (F : Fun K "__init__" "More.__init__" s_More___init__ f fd) (T : Txt K mg c) (H_is_factor : HasR P w K mg base (fun _ => CX0) false 3 "is_factor" ["thing"] spFacV) (H_is_shift : HasR P w K mg base (fun _ => CX0) false 3 "is_shift" ["thing"] spShfV) (X_NoForm : XHasR P w K mg base 1 "NoForm" c.NoForm "found") (MT : MHasR P w K mg base (fun _ => CX0) false 2 c.More "told" ["self"] (spTV c 3)) : FnOkR P w K mg base (fun c => CX2c c P w base) true 4 f fd ["self", "factor", "shift"] (spIV c 3) := by
  refine Fun.okR F sc_More___init__ (fun vs H Q E h => ?_) (fun cdv A outer s H vs Q E hr hh h => ?_)
  · obtain ⟨x, dx, e, f, s, rfl, _⟩ := h
    rfl
  obtain ⟨x, dx, e, f, s, rfl, hx, te, tf, ts, q1, q2⟩ := h
  refine ⟨_, (pss_cons (ps_fld (pv 0) (pv 1) rfl)
    (pss_cons (ps_fld (pv 0) (pv 2) rfl)
    (pss_one (ps_if (PW.pt (pw_or (pt_not (pt_val (pe_fnG H_is_factor (room_any (hr.mono (by omega)) rfl rfl rfl) (fun z => nomatch z) rfl pat0 (pa_cons (pv 1) pa_nil)))) (pw_or1 (pt_not (pt_val (pe_fnG H_is_shift (room_any (hr.mono (by omega)) rfl rfl rfl) (fun z => nomatch z) rfl pat0 (pa_cons (pv 2) pa_nil)))))))
      (pss_one (ps_raise1R X_NoForm (room_any (hr.mono (by omega)) rfl rfl rfl) (hd_in (hh rfl)) rfl (pa_cons (pe_methG0 (CX := (fun _ => CX0)) (r := false) (k := 2) (pv 0) (room_any (hr.mono (by omega)) rfl rfl rfl) (fun z => nomatch z) pat0) pa_nil)))
      pss_nil)))), ?_⟩
  refine ⟨_, rfl, _, rfl, x, _, dx, _, rfl, hx, T.cl_More, T.na_More_factor, (by show 0 < 1000; decide), ?_⟩
  refine ⟨_, rfl, _, rfl, x, _, dx, _, rfl, upd_same, T.cl_More, T.na_More_shift, (by show 1 < 1000; decide), ?_⟩
  refine ⟨_, rfl, _, rfl, tf.sx hx (SameX.upd.trans (SameX.upd)), ?_⟩
  cases b0 : btw f 0 4294967295 with
  | false => exact ⟨_, rfl, iteT ⟨_, rfl, x, _, dx, _, _, _, rfl, upd_same, rfl, MT, x, e, f, s, rfl, ⟨dx, upd_same⟩, fun r H2 hr' h2 s2 => ⟨_, rfl, fun d hd => q2 (by show (btw f 0 4294967295 && btw s 0 64) = false; simp [b0]) d r _ ((SameX.upd.trans (SameX.upd)).trans (SameX.of (s2.trans (same_new hd _)))) upd_same (same_new hd _ _ _ h2)⟩⟩⟩
  | true =>
    refine ⟨_, rfl, iteF ?_⟩
    refine ⟨_, rfl, _, rfl, ts.sx hx (SameX.upd.trans (SameX.upd)), ?_⟩
    cases b1 : btw s 0 64 with
    | false => exact ⟨_, rfl, iteT ⟨_, rfl, x, _, dx, _, _, _, rfl, upd_same, rfl, MT, x, e, f, s, rfl, ⟨dx, upd_same⟩, fun r H2 hr' h2 s2 => ⟨_, rfl, fun d hd => q2 (by show (btw f 0 4294967295 && btw s 0 64) = false; simp [b0, b1]) d r _ ((SameX.upd.trans (SameX.upd)).trans (SameX.of (s2.trans (same_new hd _)))) upd_same (same_new hd _ _ _ h2)⟩⟩⟩
    | true =>
      refine ⟨_, rfl, iteF ?_⟩
      exact q1 (by show (btw f 0 4294967295 && btw s 0 64) = true; simp [b0, b1]) _ (SameX.upd.trans (SameX.upd)) ⟨dx, upd_same⟩
theorem ok_Wide_word {f : Addr} {fd : FuncData} (F : Fun K "word" "Wide.word" s_Wide_word f fd) (T : Txt K mg c)  : FnOkR P w K mg base (fun _ => CX0) false 1 f fd ["self"] (spWd 4) := by
  refine Fun.okR0 F sc_Wide_word (fun vs H Q E h => ?_) (fun cdv A outer s H vs Q E hr hh h => ?_)
  · obtain ⟨x, rfl, _⟩ := h
    rfl
  obtain ⟨x, rfl, q⟩ := h
  exact ⟨_, (pss_one (ps_ret pe_str)), q⟩
theorem ok_Wide_told {f : Addr} {fd : FuncData} (F : Fun K "told" "Wide.told" s_Wide_told f fd) (T : Txt K mg c)  (MW : MHasR P w K mg base (fun _ => CX0) false 1 c.Wide "word" ["self"] (spWd 4)) : FnOkR P w K mg base (fun _ => CX0) false 2 f fd ["self"] (spTV c 4) := by
  refine Fun.okR0 F sc_Wide_told (fun vs H Q E h => ?_) (fun cdv A outer s H vs Q E hr hh h => ?_)
  · obtain ⟨x, e, f, s, rfl, _⟩ := h
    rfl
  obtain ⟨x, e, f, s, rfl, ⟨dx, hx⟩, q⟩ := h
  refine ⟨_, (pss_one (ps_ret (pe_tup (pa_cons (pe_methG0 (CX := (fun _ => CX0)) (r := false) (k := 1) (pv 0) (room_any (hr.mono (by omega)) rfl rfl rfl) (fun z => nomatch z) pat0) (pa_cons (pe_fld (pv 0) rfl) (pa_cons (pe_fld (pv 0) rfl) pa_nil)))))), ?_⟩
  refine ⟨_, rfl, x, _, dx, _, _, _, rfl, hx, rfl, MW, x, rfl, _, rfl, x, _, dx, _, _, rfl, hx, T.cl_Wide, T.na_Wide_factor, rfl, _, rfl, x, _, dx, _, _, rfl, hx, T.cl_Wide, T.na_Wide_shift, rfl, (by show 3 ≤ sizeLine; decide), fun r hr' => q r _ hr' upd_same (same_new hr' _)⟩
theorem ok_Wide_numbers_in {f : Addr} {fd : FuncData} (F : Fun K "numbers_in" "Wide.numbers_in" s_Wide_numbers_in f fd) (T : Txt K mg c) (H_need_width : HasR P w K mg base (fun c => CX2c c P w base) true 3 "need_width" ["width"] (spNeedV c)) : FnOkR P w K mg base (fun c => CX2c c P w base) true 4 f fd ["self", "width"] (spNumV c 4) := by
  refine Fun.okR F sc_Wide_numbers_in (fun vs H Q E h => ?_) (fun cdv A outer s H vs Q E hr hh h => ?_)
  · obtain ⟨x, v, e, f, t, rfl, _⟩ := h
    rfl
  obtain ⟨x, v, e, f, t, rfl, ⟨dx, hx⟩, fm, th, q, q2⟩ := h
  refine ⟨_, (pss_cons (ps_expr (pe_fnG H_need_width (room_any (hr.mono (by omega)) rfl rfl rfl) (fun _ => (hd_in (hh rfl))) rfl passR (pa_cons (pv 1) pa_nil)))
    (pss_one (ps_ret (pe_tup (pa_cons pe_int (pa_cons (pe_op op_add (pe_op op_shl pe_int (pv 1)) (pe_fld (pv 0) rfl)) (pa_cons pe_int (pa_cons (pe_op op_add (pv 1) (pe_fld (pv 0) rfl)) pa_nil)))))))), ?_⟩
  have ez := fm.e0
  refine ⟨_, rfl, _, rfl, th, fun eb => ?_, fun eb d hd => q2 eb d hd⟩
  obtain ⟨i, rfl, h1, h2⟩ := btw_int eb
  refine ⟨_, rfl, _, _, rfl, rfl, cpow1 (by omega) (by omega), _, rfl, x, _, dx, _, _, rfl, hx, T.cl_Wide, T.na_Wide_factor, rfl, _, _, rfl, rfl, _, rfl, _, rfl, x, _, dx, _, _, rfl, hx, T.cl_Wide, T.na_Wide_shift, rfl, _, _, rfl, rfl, (by show 4 ≤ sizeLine; decide), fun r hr' => ?_⟩
  obtain rfl := ez (by decide)
  exact q i rfl h1 h2 r _ hr' upd_same (same_new hr' _)
theorem ok_Wide___init__ {f : Addr} {fd : FuncData} (F : Fun K "__init__" "Wide.__init__" s_Wide___init__ f fd) (T : Txt K mg c) (H_is_factor : HasR P w K mg base (fun _ => CX0) false 3 "is_factor" ["thing"] spFacV) (H_is_between : HasR P w K mg base (fun _ => CX0) false 2 "is_between" ["thing", "low", "high"] spBtwG) (X_NoForm : XHasR P w K mg base 1 "NoForm" c.NoForm "found") (MT : MHasR P w K mg base (fun _ => CX0) false 2 c.Wide "told" ["self"] (spTV c 4)) : FnOkR P w K mg base (fun c => CX2c c P w base) true 4 f fd ["self", "factor", "shift"] (spIV c 4) := by
  refine Fun.okR F sc_Wide___init__ (fun vs H Q E h => ?_) (fun cdv A outer s H vs Q E hr hh h => ?_)
  · obtain ⟨x, dx, e, f, s, rfl, _⟩ := h
    rfl
  obtain ⟨x, dx, e, f, s, rfl, hx, te, tf, ts, q1, q2⟩ := h
  refine ⟨_, (pss_cons (ps_fld (pv 0) (pv 1) rfl)
    (pss_cons (ps_fld (pv 0) (pv 2) rfl)
    (pss_one (ps_if (PW.pt (pw_or (pt_not (pt_val (pe_fnG H_is_factor (room_any (hr.mono (by omega)) rfl rfl rfl) (fun z => nomatch z) rfl pat0 (pa_cons (pv 1) pa_nil)))) (pw_or1 (pt_not (pt_val (pe_fnG H_is_between (room_any (hr.mono (by omega)) rfl rfl rfl) (fun z => nomatch z) rfl pat0 (pa_cons (pv 2) (pa_cons pe_int (pa_cons pe_int pa_nil)))))))))
      (pss_one (ps_raise1R X_NoForm (room_any (hr.mono (by omega)) rfl rfl rfl) (hd_in (hh rfl)) rfl (pa_cons (pe_methG0 (CX := (fun _ => CX0)) (r := false) (k := 2) (pv 0) (room_any (hr.mono (by omega)) rfl rfl rfl) (fun z => nomatch z) pat0) pa_nil)))
      pss_nil)))), ?_⟩
  refine ⟨_, rfl, _, rfl, x, _, dx, _, rfl, hx, T.cl_Wide, T.na_Wide_factor, (by show 0 < 1000; decide), ?_⟩
  refine ⟨_, rfl, _, rfl, x, _, dx, _, rfl, upd_same, T.cl_Wide, T.na_Wide_shift, (by show 1 < 1000; decide), ?_⟩
  refine ⟨_, rfl, _, rfl, tf.sx hx (SameX.upd.trans (SameX.upd)), ?_⟩
  cases b0 : btw f 0 4294967295 with
  | false => exact ⟨_, rfl, iteT ⟨_, rfl, x, _, dx, _, _, _, rfl, upd_same, rfl, MT, x, e, f, s, rfl, ⟨dx, upd_same⟩, fun r H2 hr' h2 s2 => ⟨_, rfl, fun d hd => q2 (by show (btw f 0 4294967295 && btw s 1 64) = false; simp [b0]) d r _ ((SameX.upd.trans (SameX.upd)).trans (SameX.of (s2.trans (same_new hd _)))) upd_same (same_new hd _ _ _ h2)⟩⟩⟩
  | true =>
    refine ⟨_, rfl, iteF ?_⟩
    refine ⟨_, rfl, _, _, _, rfl, ts.sx hx (SameX.upd.trans (SameX.upd)), ?_⟩
    cases b1 : btw s 1 64 with
    | false => exact ⟨_, rfl, iteT ⟨_, rfl, x, _, dx, _, _, _, rfl, upd_same, rfl, MT, x, e, f, s, rfl, ⟨dx, upd_same⟩, fun r H2 hr' h2 s2 => ⟨_, rfl, fun d hd => q2 (by show (btw f 0 4294967295 && btw s 1 64) = false; simp [b0, b1]) d r _ ((SameX.upd.trans (SameX.upd)).trans (SameX.of (s2.trans (same_new hd _)))) upd_same (same_new hd _ _ _ h2)⟩⟩⟩
    | true =>
      refine ⟨_, rfl, iteF ?_⟩
      exact q1 (by show (btw f 0 4294967295 && btw s 1 64) = true; simp [b0, b1]) _ (SameX.upd.trans (SameX.upd)) ⟨dx, upd_same⟩
theorem ok_Form_quotient {f : Addr} {fd : FuncData} (F : Fun K "quotient" "Form.quotient" s_Form_quotient f fd) (T : Txt K mg c) (H_brought : HasR P w K mg base (fun _ => CX0) false 1 "brought" ["reckoning", "x"] spBroG) (MN : ∀ i, i < 5 → MHasR P w K mg base (fun c => CX2c c P w base) true 4 (fOf c i) "numbers_in" ["self", "width"] (spNumV c i)) : FnOkR P w K mg base (fun c => CX2c c P w base) true 5 f fd ["self", "width", "x"] (spQuoV c) := by
  refine Fun.okR F sc_Form_quotient (fun vs H Q E h => ?_) (fun cdv A outer s H vs Q E hr hh h => ?_)
  · obtain ⟨y, v, x, kd, e, f, t, rfl, _⟩ := h
    rfl
  obtain ⟨y, v, x, kd, e, f, t, rfl, fo, fm, th, q, q2⟩ := h
  refine ⟨_, (pss_one (ps_ret (pe_fnG H_brought (room_any (hr.mono (by omega)) rfl rfl rfl) (fun z => nomatch z) rfl pat0 (pa_cons (pe_methG (CX := (fun c => CX2c c P w base)) (r := true) (k := 4) (pv 0) (room_any (hr.mono (by omega)) rfl rfl rfl) (fun _ => (hd_in (hh rfl))) passR (pa_cons (pv 1) pa_nil)) (pa_cons (pv 2) pa_nil))))), ?_⟩
  obtain ⟨dx, hx⟩ := id fo
  refine ⟨_, rfl, y, _, dx, _, _, _, rfl, hx, fl_num, MN kd fm.k, _, rfl, y, v, e, f, t, rfl, fo, fm, th, fun i ei h1 h2 r H2 h0 hr' s2 => ?_, fun eb d hd => q2 eb d hd⟩
  obtain ⟨x0, x1, q3⟩ := q i ei h1 h2
  exact ⟨_, rfl, r, _, _, _, _, x, rfl, hr', fm.rg h1 h2, x0, x1, q3 _ s2⟩
theorem kit_ofF {K : PySem.W.Frag} {C D : Addr} (h1 : PySem.W.isClsIn K D = true) (h2 : PySem.W.typeIn K (.ref D) = some (.type "type")) (h3 : PySem.W.mroIn K C (.ref D) = some false) (h4 : PySem.W.mroIn K C (.ref C) = some true) : PySem.W.kitOne K (.ref C) (.ref D) = some false := by
  unfold PySem.W.kitOne
  split
  · rename_i z
    rw [beq_iff_eq] at z
    rw [← z, h4] at h3
    cases h3
  · unfold PySem.W.kitCls
    have e : ((PySem.W.clsIn K D).isSome && PySem.W.typeIn K (.ref D) == some (.type "type")) = true := by
      rw [h2]
      have h1' : (PySem.W.clsIn K D).isSome = true := h1
      rw [h1', Bool.true_and]
      exact beq_self_eq_true _
    show (if ((PySem.W.clsIn K D).isSome && PySem.W.typeIn K (.ref D) == some (.type "type")) = true then PySem.W.subIn K (.ref C) (.ref D) else none) = _
    rw [if_pos e]
    exact h3
theorem Txt.tyF {K : PySem.W.Frag} {mg : Str → Option Value} {c : Ad} {H : Hp} {x dx : Addr} {fs : List (Str × V)} (T : Txt K mg c) (kd : Nat) (hk : kd < 5) (h : H x = some (.ins (fOf c kd) dx fs)) : TyOf K H (.ref x) (.ref (fOf c kd)) := by
  rcases (by omega : kd = 0 ∨ kd = 1 ∨ kd = 2 ∨ kd = 3 ∨ kd = 4) with rfl | rfl | rfl | rfl | rfl
  · exact TyOf.ins h T.cl_Shifted T.kf_dc_Shifted T.kf_og T.kf_ot T.kf_mo_Shifted
  · exact TyOf.ins h T.cl_Scaled T.kf_dc_Scaled T.kf_og T.kf_ot T.kf_mo_Scaled
  · exact TyOf.ins h T.cl_Early T.kf_dc_Early T.kf_og T.kf_ot T.kf_mo_Early
  · exact TyOf.ins h T.cl_More T.kf_dc_More T.kf_og T.kf_ot T.kf_mo_More
  · exact TyOf.ins h T.cl_Wide T.kf_dc_Wide T.kf_og T.kf_ot T.kf_mo_Wide
theorem Txt.ikF {K : PySem.W.Frag} {mg : Str → Option Value} {c : Ad} (T : Txt K mg c) (kd : Nat) (hk : kd < 5) : PySem.W.kitOne K (.ref (fOf c kd)) (.ref c.Form) = some true := by
  rcases (by omega : kd = 0 ∨ kd = 1 ∨ kd = 2 ∨ kd = 3 ∨ kd = 4) with rfl | rfl | rfl | rfl | rfl
  · exact kit_of T.kf_kc T.kf_kt T.kf_ik_Shifted
  · exact kit_of T.kf_kc T.kf_kt T.kf_ik_Scaled
  · exact kit_of T.kf_kc T.kf_kt T.kf_ik_Early
  · exact kit_of T.kf_kc T.kf_kt T.kf_ik_More
  · exact kit_of T.kf_kc T.kf_kt T.kf_ik_Wide
theorem eqTl (kd : Nat) (e f s : Int) : eqVs (tlv kd e f s) (tlv kd e f s) = true ∧ (tlv kd e f s).all flatV = true := by
  match kd with
  | 0 => simp [eqVs, tlv, List.range, List.range.loop, eqV, flatV]
  | 1 => simp [eqVs, tlv, List.range, List.range.loop, eqV, flatV]
  | 2 => simp [eqVs, tlv, List.range, List.range.loop, eqV, flatV]
  | 3 => simp [eqVs, tlv, List.range, List.range.loop, eqV, flatV]
  | _ + 4 => simp [eqVs, tlv, List.range, List.range.loop, eqV, flatV]
theorem fl_told {kd : Nat} {e f s : Int} : (flds kd e f s).lookup ("told" : Str) = none := by
  unfold flds
  split <;> rfl
theorem allT1 (n : Nat) : (List.range n).all (fun _ => true) = true := List.all_eq_true.mpr fun _ _ => rfl
theorem eq_flat {K : PySem.W.Frag} {H : Hp} {d : Nat} {v : V} (h1 : flatV v = true) (h2 : eqV v v = true) : EqD K H d v v true := by
  have z := EqD.flat (K := K) (H := H) (d := d) (x := v) (y := v) h1 h1
  rwa [h2] at z
theorem eq_str {K : PySem.W.Frag} {H : Hp} {d : Nat} {x : Str} : EqD K H d (.str x) (.str x) true := eq_flat rfl (by simp [eqV])
theorem eq_int {K : PySem.W.Frag} {H : Hp} {d : Nat} {x : Int} : EqD K H d (.int x) (.int x) true := eq_flat rfl (by simp [eqV])
theorem eq_tlv {K : PySem.W.Frag} {H : Hp} {kd : Nat} {e f s : Int} {p q : Addr} (hp : H p = some (.tup (tlv kd e f s))) (hq : H q = some (.tup (tlv kd e f s))) : EqD K H 1 (.ref p) (.ref q) true := by
  by_cases h : p = q
  · subst h
    exact EqD.same
  · have z := EqD.tup (K := K) (H := H) (d := 0) (e := fun _ => true) h (SqT.of hp) (SqT.of hq) (fun j j1 j2 => ?_)
    · rw [allT1, Bool.true_and, beq_self_eq_true] at z
      exact z
    · obtain ⟨a1, a2⟩ := eqTl kd e f s
      have fl := List.all_eq_true.mp a2 ((tlv kd e f s).getD j .non) (by rw [List.getD_eq_getElem?_getD, List.getElem?_eq_getElem j1]; exact List.getElem_mem j1)
      refine eq_flat fl ?_
      generalize (tlv kd e f s).getD j .non = v at fl
      cases v <;> first | (simp [eqV]; done) | rfl | cases fl
theorem hu2 {A : Around} {k : Nat} (hr : Room k A) : A.units + 1 + 1 < cLine := by have := hr.un; omega
theorem ok__law_make {f : Addr} {fd : FuncData} (F : Fun K "_law_make" "_law_make" s__law_make f fd) (T : Txt K mg c)  (C_Wide : CHasR P w K mg base (fun c => CX2c c P w base) true 4 c.Wide "Wide" ["self", "factor", "shift"] (spIV c 4)) (C_Shifted : CHasR P w K mg base (fun c => CX2c c P w base) true 4 c.Shifted "Shifted" ["self", "shift"] (spIV c 0)) (C_Scaled : CHasR P w K mg base (fun c => CX2c c P w base) true 4 c.Scaled "Scaled" ["self", "factor", "shift"] (spIV c 1)) (C_Early : CHasR P w K mg base (fun c => CX2c c P w base) true 4 c.Early "Early" ["self", "early", "factor", "shift"] (spIV c 2)) (C_More : CHasR P w K mg base (fun c => CX2c c P w base) true 4 c.More "More" ["self", "factor", "shift"] (spIV c 3)) : FnOkR P w K mg base (fun c => CX2c c P w base) true 6 f fd ["_law_told"] (spMakeV c) := by
  refine Fun.okR F sc__law_make (fun vs H Q E h => ?_) (fun cdv A outer s H vs Q E hr hh h => ?_)
  · obtain ⟨r, kd, e, f, t, rfl, _⟩ := h
    rfl
  obtain ⟨r, kd, e, f, t, rfl, kk, ht, te, tf, tt, q1, q2⟩ := h
  refine ⟨_, (pss_cons (ps_if (pt_cmpR op_eq (pe_ix ix_tup (pv 0) pe_int (fun _ _ => rfl)) pe_str (nomark _))
      (pss_one (ps_ret (pe_mkG C_Shifted (room_any (hr.mono (by omega)) rfl rfl rfl) (fun _ => (hd_in (hh rfl))) rfl passR (pa_cons (pe_ix ix_tup (pv 0) pe_int (fun _ _ => rfl)) pa_nil))))
      pss_nil)
    (pss_cons (ps_if (pt_cmpR op_eq (pe_ix ix_tup (pv 0) pe_int (fun _ _ => rfl)) pe_str (nomark _))
      (pss_one (ps_ret (pe_mkG C_Scaled (room_any (hr.mono (by omega)) rfl rfl rfl) (fun _ => (hd_in (hh rfl))) rfl passR (pa_cons (pe_ix ix_tup (pv 0) pe_int (fun _ _ => rfl)) (pa_cons (pe_ix ix_tup (pv 0) pe_int (fun _ _ => rfl)) pa_nil)))))
      pss_nil)
    (pss_cons (ps_if (pt_cmpR op_eq (pe_ix ix_tup (pv 0) pe_int (fun _ _ => rfl)) pe_str (nomark _))
      (pss_one (ps_ret (pe_mkG C_Early (room_any (hr.mono (by omega)) rfl rfl rfl) (fun _ => (hd_in (hh rfl))) rfl passR (pa_cons (pe_ix ix_tup (pv 0) pe_int (fun _ _ => rfl)) (pa_cons (pe_ix ix_tup (pv 0) pe_int (fun _ _ => rfl)) (pa_cons (pe_ix ix_tup (pv 0) pe_int (fun _ _ => rfl)) pa_nil))))))
      pss_nil)
    (pss_cons (ps_if (pt_cmpR op_eq (pe_ix ix_tup (pv 0) pe_int (fun _ _ => rfl)) pe_str (nomark _))
      (pss_one (ps_ret (pe_mkG C_More (room_any (hr.mono (by omega)) rfl rfl rfl) (fun _ => (hd_in (hh rfl))) rfl passR (pa_cons (pe_ix ix_tup (pv 0) pe_int (fun _ _ => rfl)) (pa_cons (pe_ix ix_tup (pv 0) pe_int (fun _ _ => rfl)) pa_nil)))))
      pss_nil)
    (pss_one (ps_ret (pe_mkG C_Wide (room_any (hr.mono (by omega)) rfl rfl rfl) (fun _ => (hd_in (hh rfl))) rfl passR (pa_cons (pe_ix ix_tup (pv 0) pe_int (fun _ _ => rfl)) (pa_cons (pe_ix ix_tup (pv 0) pe_int (fun _ _ => rfl)) pa_nil))))))))), ?_⟩
  have mk : ∀ {x dx C : Addr} {v : V}, H x = none → H dx = none → Th H v → Th (upd (upd H dx (.own x)) x (.ins C dx [])) v := fun hx hd t => t.same (made_same hx hd (fun b o _ h => h))
  rcases (by omega : kd = 0 ∨ kd = 1 ∨ kd = 2 ∨ kd = 3 ∨ kd = 4) with rfl | rfl | rfl | rfl | rfl <;> unfold tlV at ht
  · refine ⟨_, rfl, r, _, _, _, rfl, rfl, SqT.of ht, rfl, rfl, _, rfl, iteD rfl ?_⟩
    exact ⟨_, rfl, r, _, _, _, rfl, rfl, SqT.of ht, rfl, fun x dx hx hdx hne => ⟨x, dx, e, f, t, rfl, upd_same, mk hx hdx te, mk hx hdx tf, mk hx hdx tt, fun o H' s' fo => ⟨rfl, q1 o x H' hx fo (made_same hx hdx s')⟩, fun o d q H' s' h1 h2 => q2 o d q H' (made_same hx hdx s') h1 h2⟩⟩
  · refine ⟨_, rfl, r, _, _, _, rfl, rfl, SqT.of ht, rfl, rfl, _, rfl, iteDN (by walk_at "n") ?_⟩
    refine ⟨_, rfl, r, _, _, _, rfl, rfl, SqT.of ht, rfl, rfl, _, rfl, iteD rfl ?_⟩
    exact ⟨_, rfl, r, _, _, _, rfl, rfl, SqT.of ht, rfl, _, rfl, r, _, _, _, rfl, rfl, SqT.of ht, rfl, fun x dx hx hdx hne => ⟨x, dx, e, f, t, rfl, upd_same, mk hx hdx te, mk hx hdx tf, mk hx hdx tt, fun o H' s' fo => ⟨rfl, q1 o x H' hx fo (made_same hx hdx s')⟩, fun o d q H' s' h1 h2 => q2 o d q H' (made_same hx hdx s') h1 h2⟩⟩
  · refine ⟨_, rfl, r, _, _, _, rfl, rfl, SqT.of ht, rfl, rfl, _, rfl, iteDN (by walk_at "n") ?_⟩
    refine ⟨_, rfl, r, _, _, _, rfl, rfl, SqT.of ht, rfl, rfl, _, rfl, iteDN (by walk_at "n") ?_⟩
    refine ⟨_, rfl, r, _, _, _, rfl, rfl, SqT.of ht, rfl, rfl, _, rfl, iteD rfl ?_⟩
    exact ⟨_, rfl, r, _, _, _, rfl, rfl, SqT.of ht, rfl, _, rfl, r, _, _, _, rfl, rfl, SqT.of ht, rfl, _, rfl, r, _, _, _, rfl, rfl, SqT.of ht, rfl, fun x dx hx hdx hne => ⟨x, dx, e, f, t, rfl, upd_same, mk hx hdx te, mk hx hdx tf, mk hx hdx tt, fun o H' s' fo => ⟨rfl, q1 o x H' hx fo (made_same hx hdx s')⟩, fun o d q H' s' h1 h2 => q2 o d q H' (made_same hx hdx s') h1 h2⟩⟩
  · refine ⟨_, rfl, r, _, _, _, rfl, rfl, SqT.of ht, rfl, rfl, _, rfl, iteDN (by walk_at "n") ?_⟩
    refine ⟨_, rfl, r, _, _, _, rfl, rfl, SqT.of ht, rfl, rfl, _, rfl, iteDN (by walk_at "n") ?_⟩
    refine ⟨_, rfl, r, _, _, _, rfl, rfl, SqT.of ht, rfl, rfl, _, rfl, iteDN (by walk_at "n") ?_⟩
    refine ⟨_, rfl, r, _, _, _, rfl, rfl, SqT.of ht, rfl, rfl, _, rfl, iteD rfl ?_⟩
    exact ⟨_, rfl, r, _, _, _, rfl, rfl, SqT.of ht, rfl, _, rfl, r, _, _, _, rfl, rfl, SqT.of ht, rfl, fun x dx hx hdx hne => ⟨x, dx, e, f, t, rfl, upd_same, mk hx hdx te, mk hx hdx tf, mk hx hdx tt, fun o H' s' fo => ⟨rfl, q1 o x H' hx fo (made_same hx hdx s')⟩, fun o d q H' s' h1 h2 => q2 o d q H' (made_same hx hdx s') h1 h2⟩⟩
  · refine ⟨_, rfl, r, _, _, _, rfl, rfl, SqT.of ht, rfl, rfl, _, rfl, iteDN (by walk_at "n") ?_⟩
    refine ⟨_, rfl, r, _, _, _, rfl, rfl, SqT.of ht, rfl, rfl, _, rfl, iteDN (by walk_at "n") ?_⟩
    refine ⟨_, rfl, r, _, _, _, rfl, rfl, SqT.of ht, rfl, rfl, _, rfl, iteDN (by walk_at "n") ?_⟩
    refine ⟨_, rfl, r, _, _, _, rfl, rfl, SqT.of ht, rfl, rfl, _, rfl, iteDN (by walk_at "n") ?_⟩
    exact ⟨_, rfl, r, _, _, _, rfl, rfl, SqT.of ht, rfl, _, rfl, r, _, _, _, rfl, rfl, SqT.of ht, rfl, fun x dx hx hdx hne => ⟨x, dx, e, f, t, rfl, upd_same, mk hx hdx te, mk hx hdx tf, mk hx hdx tt, fun o H' s' fo => ⟨rfl, q1 o x H' hx fo (made_same hx hdx s')⟩, fun o d q H' s' h1 h2 => q2 o d q H' (made_same hx hdx s') h1 h2⟩⟩
theorem ok__law_end {f : Addr} {fd : FuncData} (F : Fun K "_law_end" "_law_end" s__law_end f fd) (T : Txt K mg c) (H__law_draw : Has P w K mg base 1 "_law_draw" ["_law_state", "_law_size"] spTake) : FnOk P w K mg base CX0 2 f fd ["_law_state", "_law_low", "_law_last"] spEnd := by
  refine F.ok sc__law_end (fun vs H Q E h => ?_) (fun cdv A outer s H vs Q E hr h => ?_)
  · obtain ⟨p, lo, hi, rfl, _⟩ := h
    rfl
  obtain ⟨p, lo, hi, rfl, bx, l0, lh, h79, q⟩ := h
  refine ⟨_, (pss_cons (ps_set (i := 3) sc__law_end.nd rfl (Or.inl rfl) (pe_fn H__law_draw (hr.mono (by omega)) rfl (pa_cons (pv 0) (pa_cons pe_int pa_nil))))
    (pss_cons (ps_if (pt_cmpR op_eq (pv 3) pe_int (nomark _))
      (pss_one (ps_ret (pv 1)))
      pss_nil)
    (pss_cons (ps_if (pt_cmpR op_eq (pv 3) pe_int (nomark _))
      (pss_one (ps_ret (pv 2)))
      pss_nil)
    (pss_one (ps_ret (pe_op op_add (pv 1) (pe_fn H__law_draw (hr.mono (by omega)) rfl (pa_cons (pv 0) (pa_cons (pe_op op_sub (pe_op op_add (pv 2) pe_int) (pv 1)) pa_nil))))))))), ?_⟩
  walk_at "o"; intro k H1 k0 k1 b1 x1
  walk_at "o"
  walk_at "c" <;> intro c1
  · walk_at "o"
    exact q lo H1 (by omega) lh b1 x1
  walk_at "o"
  walk_at "c" <;> intro c2
  · walk_at "o"
    exact q hi H1 lh (by omega) b1 x1
  walk_at "o"; intro d H2 d0 d1 b2 x2
  walk_at "o"
  exact q _ H2 (by omega) (by omega) b2 (x1.trans x2)
theorem ok__law_any {f : Addr} {fd : FuncData} (F : Fun K "_law_any" "_law_any" s__law_any f fd) (T : Txt K mg c) (H__law_draw : Has P w K mg base 1 "_law_draw" ["_law_state", "_law_size"] spTake) (H__law_end : Has P w K mg base 2 "_law_end" ["_law_state", "_law_low", "_law_last"] spEnd) : FnOk P w K mg base CX0 3 f fd ["_law_state"] spAny31 := by
  refine F.ok sc__law_any (fun vs H Q E h => ?_) (fun cdv A outer s H vs Q E hr h => ?_)
  · obtain ⟨p, rfl, _⟩ := h
    rfl
  obtain ⟨p, rfl, bx, q⟩ := h
  refine ⟨_, (pss_cons (ps_set (i := 1) sc__law_any.nd rfl (Or.inl rfl) (pe_fn H__law_draw (hr.mono (by omega)) rfl (pa_cons (pv 0) (pa_cons pe_int pa_nil))))
    (pss_cons (ps_set (i := 2) sc__law_any.nd rfl (Or.inl rfl) (pe_fn H__law_end (hr.mono (by omega)) rfl (pa_cons (pv 0) (pa_cons pe_int (pa_cons pe_int pa_nil)))))
    (pss_cons (ps_set (i := 3) sc__law_any.nd rfl (Or.inl rfl) (pe_fn H__law_end (hr.mono (by omega)) rfl (pa_cons (pv 0) (pa_cons pe_int (pa_cons pe_int pa_nil)))))
    (pss_cons (ps_if (pt_cmpR op_eq (pv 1) pe_int (nomark _))
      (pss_one (ps_ret (pe_tup (pa_cons pe_str (pa_cons (pv 3) pa_nil)))))
      pss_nil)
    (pss_cons (ps_if (pt_cmpR op_eq (pv 1) pe_int (nomark _))
      (pss_one (ps_ret (pe_tup (pa_cons pe_str (pa_cons (pe_fn H__law_end (hr.mono (by omega)) rfl (pa_cons (pv 0) (pa_cons pe_int (pa_cons pe_int pa_nil)))) (pa_cons (pv 2) (pa_cons (pv 3) pa_nil)))))))
      pss_nil)
    (pss_cons (ps_if (pt_cmpR op_eq (pv 1) pe_int (nomark _))
      (pss_one (ps_ret (pe_tup (pa_cons pe_str (pa_cons (pv 2) (pa_cons (pe_callB (call_max2 rfl) rfl T.n_max boot_max (pa_cons pe_int (pa_cons (pv 3) pa_nil))) pa_nil))))))
      pss_nil)
    (pss_one (ps_ret (pe_tup (pa_cons (pe_ix ix_list (pe_lst (pa_cons pe_str (pa_cons pe_str (pa_cons pe_str (pa_cons pe_str pa_nil))))) (pv 1) (fun _ _ => rfl)) (pa_cons (pv 2) (pa_cons (pv 3) pa_nil)))))))))))), ?_⟩
  refine ⟨_, rfl, p, _, rfl, bx, by decide, by decide, fun kk H0 k0 k1 b0 x0 => ?_⟩
  refine ⟨_, rfl, p, _, _, rfl, b0, by decide, by decide, by decide, fun fc H1 f0 f1 b1 x1 => ?_⟩
  refine ⟨_, rfl, p, _, _, rfl, b1, by decide, by decide, by decide, fun y H2 y0 y1 b2 x2 => ?_⟩
  have x02 := (x0.trans x1).trans x2
  walk_at "o"
  walk_at "c" <;> intro c0
  · walk_at "o"; intro r hr'
    exact q r 0 0 0 y _ (frX b2 x02 hr') upd_same ⟨by decide, by decide, by decide, fun _ => rfl, by decide, by decide, y0, y1, fun z => absurd z (by decide)⟩ (b2.same (same_new hr' _)) (x02.trans (SameX.of (same_new hr' _)))
  walk_at "o"
  walk_at "c" <;> intro c2
  · walk_at "o"; intro ea H3 e0 e1 b3 x3
    walk_at "o"; intro r hr'
    exact q r 2 ea fc y _ (frX b3 (x02.trans x3) hr') upd_same ⟨by decide, e0, e1, fun z => absurd rfl z, f0, f1, y0, y1, fun z => absurd z (by decide)⟩ (b3.same (same_new hr' _)) ((x02.trans x3).trans (SameX.of (same_new hr' _)))
  walk_at "o"
  walk_at "c" <;> intro c4
  · walk_at "o"; intro r hr'
    refine q r 4 0 fc _ _ (frX b2 x02 hr') upd_same ⟨by decide, by decide, by decide, fun _ => rfl, f0, f1, ?_, ?_, fun z => ?_⟩ (b2.same (same_new hr' _)) (x02.trans (SameX.of (same_new hr' _))) <;> split <;> omega
  have tk : ∃ (t : Str) (kd : Nat), atI [V.str "", .str "scaled", .str "", .str "more"] kk = some (.str t) ∧ kd < 4 ∧ (kd = 1 ∨ kd = 3) ∧ ∀ f s : Int, tlv kd 0 f s = [.str t, .int f, .int s] := by
    rcases (by omega : kk = 1 ∨ kk = 3) with rfl | rfl
    · exact ⟨_, 1, rfl, by decide, .inl rfl, fun _ _ => rfl⟩
    · exact ⟨_, 3, rfl, by decide, .inr rfl, fun _ _ => rfl⟩
  obtain ⟨t, kd, ha, kd4, kd13, ht⟩ := tk
  refine ⟨(by show 4 ≤ sizeLine; decide), fun l hl => ?_⟩
  have sl := same_new hl (.lst [V.str "", .str "scaled", .str "", .str "more"])
  refine ⟨_, rfl, l, _, _, _, rfl, rfl, SqL.of upd_same, ha, _, rfl, _, rfl, (by show 3 ≤ sizeLine; decide), fun r hr' => ?_⟩
  have b3 := b2.same sl
  have x03 := x02.trans (SameX.of sl)
  exact q r kd 0 fc y _ (frX b3 x03 hr') (by rw [upd_same, ht]) ⟨by omega, by decide, by decide, fun _ => rfl, f0, f1, y0, y1, fun z => by omega⟩ (b3.same (same_new hr' _)) (x03.trans (SameX.of (same_new hr' _)))
theorem ok__law_count {f : Addr} {fd : FuncData} (F : Fun K "_law_count" "_law_count" s__law_count f fd) (T : Txt K mg c) (H__law_draw : Has P w K mg base 1 "_law_draw" ["_law_state", "_law_size"] spTake) : FnOk P w K mg base CX0 2 f fd ["_law_state", "_law_width"] spCnt := by
  refine F.ok sc__law_count (fun vs H Q E h => ?_) (fun cdv A outer s H vs Q E hr h => ?_)
  · obtain ⟨p, i, rfl, _⟩ := h
    rfl
  obtain ⟨p, i, rfl, bx, h1, h2, q⟩ := h
  refine ⟨_, (pss_cons (ps_set (i := 2) sc__law_count.nd rfl (Or.inl rfl) (pe_op op_shl pe_int (pe_op op_sub (pv 1) pe_int)))
    (pss_cons (ps_set (i := 3) sc__law_count.nd rfl (Or.inl rfl) (pe_fn H__law_draw (hr.mono (by omega)) rfl (pa_cons (pv 0) (pa_cons pe_int pa_nil))))
    (pss_cons (ps_if (pt_cmpR op_eq (pv 3) pe_int (nomark _))
      (pss_one (ps_ret (pe_ix ix_list (pe_lst (pa_cons (pe_op op_sub pe_int (pv 2)) (pa_cons (pe_op op_sub (pv 2) pe_int) (pa_cons pe_int (pa_cons pe_int (pa_cons (pe_op op_sub pe_int pe_int) pa_nil)))))) (pe_fn H__law_draw (hr.mono (by omega)) rfl (pa_cons (pv 0) (pa_cons pe_int pa_nil))) (fun _ _ => rfl))))
      pss_nil)
    (pss_one (ps_ret (pe_op op_sub (pe_fn H__law_draw (hr.mono (by omega)) rfl (pa_cons (pv 0) (pa_cons (pe_op op_mul pe_int (pv 2)) pa_nil))) (pv 2))))))), ?_⟩
  have P0 := p_pos (i - 1).toNat
  have P1 : (2 : Int) ^ (i - 1).toNat ≤ 2 ^ 31 := p_mono (by omega)
  walk_at "o"; intro k H1 k0 k1 b1 x1
  walk_at "o"
  walk_at "c" <;> intro c0
  · walk_at "o"; intro l hl
    have sl := same_new hl (.lst [V.int (0 - 1 * 2 ^ (i - 1).toNat), .int (1 * 2 ^ (i - 1).toNat - 1), .int 0, .int 1, .int (0 - 1)])
    have lp : l ≠ p := fun z => by obtain ⟨z1, z2, hb⟩ := b1; rw [z, hb] at hl; cases hl
    refine ⟨_, rfl, p, _, rfl, b1.same sl, by decide, by decide, fun d H2 d0 d1 b2 x2 => ?_⟩
    have pick : ∃ n : Int, atI [V.int (0 - 1 * 2 ^ (i - 1).toNat), .int (1 * 2 ^ (i - 1).toNat - 1), .int 0, .int 1, .int (0 - 1)] d = some (.int n) ∧ -4294967296 ≤ n ∧ n ≤ 4294967296 := by
      rcases (by omega : d = 0 ∨ d = 1 ∨ d = 2 ∨ d = 3 ∨ d = 4) with rfl | rfl | rfl | rfl | rfl
      · exact ⟨_, rfl, by omega, by omega⟩
      · exact ⟨_, rfl, by omega, by omega⟩
      · exact ⟨_, rfl, by omega, by omega⟩
      · exact ⟨_, rfl, by omega, by omega⟩
      · exact ⟨_, rfl, by omega, by omega⟩
    obtain ⟨n, en, n0, n1⟩ := pick
    exact ⟨l, _, _, _, rfl, rfl, SqL.of (x2 _ _ lp upd_same), en, q n _ n0 n1 b2 ((x1.trans (SameX.of sl)).trans x2)⟩
  walk_at "o"; intro d H2 d0 d1 b2 x2
  walk_at "o"
  exact q _ H2 (by omega) (by omega) b2 (x1.trans x2)
theorem ok_Cutting_word {f : Addr} {fd : FuncData} (F : Fun K "word" "Cutting.word" s_Cutting_word f fd) (T : Txt K mg c)  : FnOkR P w K mg base (fun _ => CX0) false 1 f fd ["self"] (spWdS 0) := by
  refine Fun.okR0 F sc_Cutting_word (fun vs H Q E h => ?_) (fun cdv A outer s H vs Q E hr hh h => ?_)
  · obtain ⟨x, rfl, _⟩ := h
    rfl
  obtain ⟨x, rfl, q⟩ := h
  exact ⟨_, (pss_one (ps_ret pe_str)), q⟩
theorem ok_Turned_word {f : Addr} {fd : FuncData} (F : Fun K "word" "Turned.word" s_Turned_word f fd) (T : Txt K mg c)  : FnOkR P w K mg base (fun _ => CX0) false 1 f fd ["self"] (spWdS 1) := by
  refine Fun.okR0 F sc_Turned_word (fun vs H Q E h => ?_) (fun cdv A outer s H vs Q E hr hh h => ?_)
  · obtain ⟨x, rfl, _⟩ := h
    rfl
  obtain ⟨x, rfl, q⟩ := h
  exact ⟨_, (pss_one (ps_ret pe_str)), q⟩
theorem ok_Cutting_told {f : Addr} {fd : FuncData} (F : Fun K "told" "Cutting.told" s_Cutting_told f fd) (T : Txt K mg c)  (MW : MHasR P w K mg base (fun _ => CX0) false 1 c.Cutting "word" ["self"] (spWdS 0)) : FnOkR P w K mg base (fun _ => CX0) false 3 f fd ["self"] (spCTV c) := by
  refine Fun.okR0 F sc_Cutting_told (fun vs H Q E h => ?_) (fun cdv A outer s H vs Q E hr hh h => ?_)
  · obtain ⟨x, f, t, rfl, _⟩ := h
    rfl
  obtain ⟨x, f, t, rfl, ⟨dx, hx⟩, q⟩ := h
  refine ⟨_, (pss_one (ps_ret (pe_tup (pa_cons (pe_methG0 (CX := (fun _ => CX0)) (r := false) (k := 1) (pv 0) (room_any (hr.mono (by omega)) rfl rfl rfl) (fun z => nomatch z) pat0) (pa_cons (pe_fld (pv 0) rfl) (pa_cons (pe_fld (pv 0) rfl) pa_nil)))))), ?_⟩
  exact ⟨_, rfl, x, _, dx, _, _, _, rfl, hx, rfl, MW, x, rfl, _, rfl, x, _, dx, _, _, rfl, hx, T.cl_Cutting, T.na_Cutting_factor, rfl, _, rfl, x, _, dx, _, _, rfl, hx, T.cl_Cutting, T.na_Cutting_shift, rfl, (by show 3 ≤ sizeLine; decide), fun r hr' => q r _ hr' upd_same (same_new hr' _)⟩
theorem ok_Turned_told {f : Addr} {fd : FuncData} (F : Fun K "told" "Turned.told" s_Turned_told f fd) (T : Txt K mg c)  (MW : MHasR P w K mg base (fun _ => CX0) false 1 c.Turned "word" ["self"] (spWdS 1)) (MT : ∀ i, i < 5 → MHasR P w K mg base (fun _ => CX0) false 2 (fOf c i) "told" ["self"] (spTV c i)) : FnOkR P w K mg base (fun _ => CX0) false 3 f fd ["self"] (spST c 1) := by
  refine Fun.okR0 F sc_Turned_told (fun vs H Q E h => ?_) (fun cdv A outer s H vs Q E hr hh h => ?_)
  · obtain ⟨x, sd, rfl, _⟩ := h
    rfl
  obtain ⟨x, sd, rfl, ix, fo, ok, q⟩ := h
  refine ⟨_, (pss_one (ps_ret (pe_tup (pa_cons (pe_methG0 (CX := (fun _ => CX0)) (r := false) (k := 1) (pv 0) (room_any (hr.mono (by omega)) rfl rfl rfl) (fun z => nomatch z) pat0) (pa_cons (pe_methG0 (CX := (fun _ => CX0)) (r := false) (k := 2) (pe_fld (pv 0) rfl) (room_any (hr.mono (by omega)) rfl rfl rfl) (fun z => nomatch z) pat0) pa_nil))))), ?_⟩
  cases sd with
  | cut => cases ix
  | turn kd e f t =>
    obtain ⟨dx, y, hx, dy, hy⟩ := fo
    have k5 : kd < 5 := Fm.k ok
    refine ⟨_, rfl, x, _, dx, _, _, _, rfl, hx, rfl, MW, x, rfl, _, rfl, x, _, dx, _, _, rfl, hx, T.cl_Turned, T.na_Turned_form, rfl, y, _, dy, _, _, _, rfl, hy, fl_told, MT kd k5, y, .int e, .int f, .int t, rfl, ⟨dy, by rw [flV_int k5]; exact hy⟩, fun u H' hu h' s' => ⟨(by show 2 ≤ sizeLine; decide), fun r hr' => ?_⟩⟩
    rw [tlV_int k5] at h'
    have sr := same_new hr' (.tup [.str "turned", .ref u])
    exact q r _ (s'.free hr') ⟨u, upd_same, sr _ _ h'⟩ (s'.trans sr)
theorem ok_Cutting___init__ {f : Addr} {fd : FuncData} (F : Fun K "__init__" "Cutting.__init__" s_Cutting___init__ f fd) (T : Txt K mg c) (H_is_factor : HasR P w K mg base (fun _ => CX0) false 3 "is_factor" ["thing"] spFacV) (H_is_shift : HasR P w K mg base (fun _ => CX0) false 3 "is_shift" ["thing"] spShfV) (X_NoForm : XHasR P w K mg base 1 "NoForm" c.NoForm "found") (MT : MHasR P w K mg base (fun _ => CX0) false 3 c.Cutting "told" ["self"] (spCTV c)) : FnOkR P w K mg base (fun c => CX2c c P w base) true 4 f fd ["self", "factor", "shift"] (spICV c) := by
  refine Fun.okR F sc_Cutting___init__ (fun vs H Q E h => ?_) (fun cdv A outer s H vs Q E hr hh h => ?_)
  · obtain ⟨x, dx, f, s, rfl, _⟩ := h
    rfl
  obtain ⟨x, dx, f, s, rfl, hx, tf, ts, q1, q2⟩ := h
  refine ⟨_, (pss_cons (ps_fld (pv 0) (pv 1) rfl)
    (pss_cons (ps_fld (pv 0) (pv 2) rfl)
    (pss_one (ps_if (PW.pt (pw_or (pt_not (pt_val (pe_fnG H_is_factor (room_any (hr.mono (by omega)) rfl rfl rfl) (fun z => nomatch z) rfl pat0 (pa_cons (pv 1) pa_nil)))) (pw_or1 (pt_not (pt_val (pe_fnG H_is_shift (room_any (hr.mono (by omega)) rfl rfl rfl) (fun z => nomatch z) rfl pat0 (pa_cons (pv 2) pa_nil)))))))
      (pss_one (ps_raise1R X_NoForm (room_any (hr.mono (by omega)) rfl rfl rfl) (hd_in (hh rfl)) rfl (pa_cons (pe_methG0 (CX := (fun _ => CX0)) (r := false) (k := 3) (pv 0) (room_any (hr.mono (by omega)) rfl rfl rfl) (fun z => nomatch z) pat0) pa_nil)))
      pss_nil)))), ?_⟩
  refine ⟨_, rfl, _, rfl, x, _, dx, _, rfl, hx, T.cl_Cutting, T.na_Cutting_factor, (by show 0 < 1000; decide), ?_⟩
  refine ⟨_, rfl, _, rfl, x, _, dx, _, rfl, upd_same, T.cl_Cutting, T.na_Cutting_shift, (by show 1 < 1000; decide), ?_⟩
  refine ⟨_, rfl, _, rfl, tf.sx hx (SameX.upd.trans (SameX.upd)), ?_⟩
  cases b0 : btw f 0 4294967295 with
  | false => exact ⟨_, rfl, iteT ⟨_, rfl, x, _, dx, _, _, _, rfl, upd_same, rfl, MT, x, f, s, rfl, ⟨dx, upd_same⟩, fun r H2 hr' h2 s2 => ⟨_, rfl, fun d hd => q2 (by show (btw f 0 4294967295 && btw s 0 64) = false; simp [b0]) d r _ ((SameX.upd.trans (SameX.upd)).trans (SameX.of (s2.trans (same_new hd _)))) upd_same (same_new hd _ _ _ h2)⟩⟩⟩
  | true =>
    refine ⟨_, rfl, iteF ?_⟩
    refine ⟨_, rfl, _, rfl, ts.sx hx (SameX.upd.trans (SameX.upd)), ?_⟩
    cases b1 : btw s 0 64 with
    | false => exact ⟨_, rfl, iteT ⟨_, rfl, x, _, dx, _, _, _, rfl, upd_same, rfl, MT, x, f, s, rfl, ⟨dx, upd_same⟩, fun r H2 hr' h2 s2 => ⟨_, rfl, fun d hd => q2 (by show (btw f 0 4294967295 && btw s 0 64) = false; simp [b0, b1]) d r _ ((SameX.upd.trans (SameX.upd)).trans (SameX.of (s2.trans (same_new hd _)))) upd_same (same_new hd _ _ _ h2)⟩⟩⟩
    | true =>
      refine ⟨_, rfl, iteF ?_⟩
      exact q1 (by show (btw f 0 4294967295 && btw s 0 64) = true; simp [b0, b1]) _ (SameX.upd.trans (SameX.upd)) ⟨dx, upd_same⟩
theorem Txt.tyS {K : PySem.W.Frag} {mg : Str → Option Value} {c : Ad} {H : Hp} {x : Addr} {sd : SD} (T : Txt K mg c) (o : SFO c H x sd) : TyOf K H (.ref x) (.ref (sOf c sd.ix)) := by
  cases sd with
  | cut f k => obtain ⟨dx, h⟩ := o; exact TyOf.ins h T.cl_Cutting T.kf_dc_Cutting T.kf_og T.kf_ot T.kf_mo_Cutting
  | turn kd e f t => obtain ⟨dx, y, h, _⟩ := o; exact TyOf.ins h T.cl_Turned T.kf_dc_Turned T.kf_og T.kf_ot T.kf_mo_Turned
theorem Txt.isS {K : PySem.W.Frag} {mg : Str → Option Value} {c : Ad} (T : Txt K mg c) (sd : SD) : PySem.W.kitOne K (.ref (sOf c sd.ix)) (.ref c.SignedForm) = some true ∧ PySem.W.kitOne K (.ref (sOf c sd.ix)) (.ref c.Form) = some false ∧ PySem.W.kitOne K (.ref (sOf c sd.ix)) (.ref c.Cutting) = some (sd.ix == 0) ∧ PySem.W.kitOne K (.ref (sOf c sd.ix)) (.ref c.Turned) = some (sd.ix == 1) := by
  cases sd with
  | cut f k => exact ⟨kit_of T.kf_ic_SignedForm T.kf_tc_SignedForm T.kf_m_Cutting_SignedForm, kit_ofF T.kf_kc T.kf_kt T.kf_m_Cutting_Form T.kf_m_Cutting_Cutting, kit_of T.kf_ic_Cutting T.kf_tc_Cutting T.kf_m_Cutting_Cutting, kit_ofF T.kf_ic_Turned T.kf_tc_Turned T.kf_m_Cutting_Turned T.kf_m_Cutting_Cutting⟩
  | turn kd e f t => exact ⟨kit_of T.kf_ic_SignedForm T.kf_tc_SignedForm T.kf_m_Turned_SignedForm, kit_ofF T.kf_kc T.kf_kt T.kf_m_Turned_Form T.kf_m_Turned_Turned, kit_ofF T.kf_ic_Cutting T.kf_tc_Cutting T.kf_m_Turned_Cutting T.kf_m_Turned_Turned, kit_of T.kf_ic_Turned T.kf_tc_Turned T.kf_m_Turned_Turned⟩
theorem Txt.thF {K : PySem.W.Frag} {mg : Str → Option Value} {c : Ad} {H : Hp} {v : V} (T : Txt K mg c) (t : Th H v) : ∃ ty, TyOf K H v ty ∧ PySem.W.kitOne K ty (.ref c.Form) = some false := by
  cases t with
  | int i => exact ⟨_, TyOf.int _, kit_tyF T.kf_kc T.kf_kt rfl (by with_unfolding_all rfl)⟩
  | bl b => exact ⟨_, TyOf.bl _, kit_tyF T.kf_kc T.kf_kt rfl (by with_unfolding_all rfl)⟩
  | str x => exact ⟨_, TyOf.str _, kit_tyF T.kf_kc T.kf_kt rfl (by with_unfolding_all rfl)⟩
  | non => exact ⟨_, TyOf.non, kit_tyF T.kf_kc T.kf_kt rfl (by with_unfolding_all rfl)⟩
  | lst h => exact ⟨_, TyOf.lst h, kit_tyF T.kf_kc T.kf_kt rfl (by with_unfolding_all rfl)⟩
  | tup h => exact ⟨_, TyOf.tup h, kit_tyF T.kf_kc T.kf_kt rfl (by with_unfolding_all rfl)⟩
  | dct h => exact ⟨_, TyOf.dK h, kit_tyF T.kf_kc T.kf_kt rfl (by with_unfolding_all rfl)⟩
theorem ok_Turned___init__ {f : Addr} {fd : FuncData} (F : Fun K "__init__" "Turned.__init__" s_Turned___init__ f fd) (T : Txt K mg c)  (X_NoForm : XHasR P w K mg base 1 "NoForm" c.NoForm "found") : FnOkR P w K mg base (fun c => CX2c c P w base) true 3 f fd ["self", "form"] (spITV c) := by
  refine Fun.okR F sc_Turned___init__ (fun vs H Q E h => ?_) (fun cdv A outer s H vs Q E hr hh h => ?_)
  · obtain ⟨x, dx, v, rfl, _⟩ := h
    rfl
  obtain ⟨x, dx, v, rfl, hx, ⟨y, kd, e, f, t, rfl, ⟨dy, hy⟩, kk, ne, q⟩ | ⟨tv, q⟩⟩ := h
  · refine ⟨_, (pss_cons (ps_if (pt_not (pt_val (pe_callB call_isinst rfl T.n_isinstance boot_isinstance (pa_cons (pv 1) (pa_cons (pe_cls rfl T.g_Form) pa_nil)))))
      (pss_one (ps_raise1R X_NoForm (room_any (hr.mono (by omega)) rfl rfl rfl) (hd_in (hh rfl)) rfl (pa_cons (pv 1) pa_nil)))
      pss_nil)
    (pss_one (ps_fld (pv 0) (pv 1) rfl))), ?_⟩
    refine ⟨_, rfl, _, _, _, _, _, rfl, rfl, T.tyF kd kk hy, T.ikF kd kk, _, rfl, iteF ?_⟩
    refine ⟨_, rfl, _, rfl, x, _, dx, _, rfl, hx, T.cl_Turned, T.na_Turned_form, (by show 0 < 1000; decide), ?_⟩
    exact q _ SameX.upd ⟨dx, y, upd_same, dy, by rw [upd_ne ne]; exact hy⟩
  · refine ⟨_, (pss_cons (ps_if (pt_not (pt_val (pe_callB call_isinst rfl T.n_isinstance boot_isinstance (pa_cons (pv 1) (pa_cons (pe_cls rfl T.g_Form) pa_nil)))))
      (pss_one (ps_raise1R X_NoForm (room_any (hr.mono (by omega)) rfl rfl rfl) (hd_in (hh rfl)) rfl (pa_cons (pv 1) pa_nil)))
      pss_nil)
    (pss_one (ps_fld (pv 0) (pv 1) rfl))), ?_⟩
    have ty : ∃ ty, TyOf K H v ty ∧ PySem.W.kitOne K ty (.ref c.Form) = some false := by
      rcases tv with tv | ⟨y, sd, rfl, so⟩
      · exact T.thF tv
      · exact ⟨_, T.tyS so, (T.isS sd).2.1⟩
    obtain ⟨ty, t1, t2⟩ := ty
    exact ⟨_, rfl, _, _, _, _, _, rfl, rfl, t1, t2, _, rfl, iteT ⟨_, rfl, _, rfl, fun d hd => q d hd⟩⟩
theorem ok_Cutting_quotient {f : Addr} {fd : FuncData} (F : Fun K "quotient" "Cutting.quotient" s_Cutting_quotient f fd) (T : Txt K mg c) (H_need_width : HasR P w K mg base (fun c => CX2c c P w base) true 3 "need_width" ["width"] (spNeedV c)) : FnOkR P w K mg base (fun c => CX2c c P w base) true 6 f fd ["self", "width", "x"] (spSQV c 0) := by
  refine Fun.okR F sc_Cutting_quotient (fun vs H Q E h => ?_) (fun cdv A outer s H vs Q E hr hh h => ?_)
  · obtain ⟨x, v, n, sd, rfl, _⟩ := h
    rfl
  obtain ⟨x, v, n, sd, rfl, ix, so, ok, th, q, q2⟩ := h
  cases sd with
  | turn kd e f t => exact absurd (show (1 : Nat) = 0 from ix) (by decide)
  | cut f k =>
    refine ⟨_, (pss_cons (ps_expr (pe_fnG H_need_width (room_any (hr.mono (by omega)) rfl rfl rfl) (fun _ => (hd_in (hh rfl))) rfl passR (pa_cons (pv 1) pa_nil)))
    (pss_one (ps_ret (pe_op op_add (pe_op op_shr (pe_op op_mulB (pe_fld (pv 0) rfl) (pv 2)) (pe_op op_add (pv 1) (pe_fld (pv 0) rfl))) (pe_ifExp (pt_cmpR op_lt (pv 2) pe_int (nomark _)) pe_int pe_int))))), ?_⟩
    obtain ⟨dx, hx⟩ := so
    obtain ⟨f0, f1, k0, k1⟩ := ok
    refine ⟨_, rfl, _, rfl, th, fun eb => ?_, fun eb d hd => q2 eb d hd⟩
    obtain ⟨i, rfl, h1, h2⟩ := btw_int eb
    obtain ⟨n0, n1, q⟩ := q i rfl h1 h2
    refine ⟨_, rfl, x, _, dx, _, _, rfl, hx, T.cl_Cutting, T.na_Cutting_factor, rfl, _, rfl, _, _, rfl, rfl, ⟨b200 (by omega) (by omega), b200 (by omega) (by omega)⟩, _, rfl, _, rfl, x, _, dx, _, _, rfl, hx, T.cl_Cutting, T.na_Cutting_shift, rfl, _, _, rfl, rfl, _, _, rfl, rfl, (by show 0 ≤ i + k; omega), ?_⟩
    have z := q H (Same.refl _)
    unfold SD.q at z
    dsimp only at z
    refine ⟨_, rfl, _, _, rfl, rfl, _, rfl, ?_⟩
    walk_at "c" <;> intro c0
    · rw [if_pos c0] at z
      exact ⟨_, _, rfl, rfl, z⟩
    · rw [if_neg c0] at z
      exact ⟨_, _, rfl, rfl, z⟩
theorem ok_Turned_quotient {f : Addr} {fd : FuncData} (F : Fun K "quotient" "Turned.quotient" s_Turned_quotient f fd) (T : Txt K mg c) (H_need_width : HasR P w K mg base (fun c => CX2c c P w base) true 3 "need_width" ["width"] (spNeedV c)) (MQ : ∀ i, i < 5 → MHasR P w K mg base (fun c => CX2c c P w base) true 5 (fOf c i) "quotient" ["self", "width", "x"] (spQuoV c)) : FnOkR P w K mg base (fun c => CX2c c P w base) true 6 f fd ["self", "width", "x"] (spSQV c 1) := by
  refine Fun.okR F sc_Turned_quotient (fun vs H Q E h => ?_) (fun cdv A outer s H vs Q E hr hh h => ?_)
  · obtain ⟨x, v, n, sd, rfl, _⟩ := h
    rfl
  obtain ⟨x, v, n, sd, rfl, ix, so, ok, th, q, q2⟩ := h
  cases sd with
  | cut f k => exact absurd (show (0 : Nat) = 1 from ix) (by decide)
  | turn kd e f t =>
    refine ⟨_, (pss_cons (ps_expr (pe_fnG H_need_width (room_any (hr.mono (by omega)) rfl rfl rfl) (fun _ => (hd_in (hh rfl))) rfl passR (pa_cons (pv 1) pa_nil)))
    (pss_one (ps_ret (pe_ifExp (pt_cmpR op_ge (pv 2) pe_int (nomark _)) (pe_methG (CX := (fun c => CX2c c P w base)) (r := true) (k := 5) (pe_fld (pv 0) rfl) (room_any (hr.mono (by omega)) rfl rfl rfl) (fun _ => (hd_in (hh rfl))) passR (pa_cons (pv 1) (pa_cons (pv 2) pa_nil))) (pe_un un_neg (pe_methG (CX := (fun c => CX2c c P w base)) (r := true) (k := 5) (pe_fld (pv 0) rfl) (room_any (hr.mono (by omega)) rfl rfl rfl) (fun _ => (hd_in (hh rfl))) passR (pa_cons (pv 1) (pa_cons (pe_un un_neg (pv 2)) pa_nil)))))))), ?_⟩
    obtain ⟨dx, y, hx, fo⟩ := so
    have fm : Fm kd e f t := ok
    obtain ⟨dy, hy⟩ := id fo
    refine ⟨_, rfl, _, rfl, th, fun eb => ?_, fun eb d hd => q2 eb d hd⟩
    obtain ⟨i, rfl, h1, h2⟩ := btw_int eb
    obtain ⟨n0, n1, q⟩ := q i rfl h1 h2
    have nb : ∀ {Z : Prop}, btw (.int i) 4 32 = false → Z := fun eb => by rw [btw_of h1 h2] at eb; cases eb
    unfold SD.q at q
    dsimp only at q
    refine ⟨_, rfl, _, _, rfl, rfl, _, rfl, ?_⟩
    walk_at "c" <;> intro c0
    · refine ⟨_, rfl, x, _, dx, _, _, rfl, hx, T.cl_Turned, T.na_Turned_form, rfl, y, _, dy, _, _, _, rfl, hy, fl_quo, MQ kd fm.k, _, rfl, _, rfl, y, .int i, n, kd, e, f, t, rfl, fo, fm, .int i, fun j ej _ _ => ?_, fun eb => nb eb⟩
      cases ej
      refine ⟨c0, by omega, fun H2 s2 => ?_⟩
      have z := q H2 s2
      rw [if_neg (by omega)] at z
      exact z
    · refine ⟨_, rfl, x, _, dx, _, _, rfl, hx, T.cl_Turned, T.na_Turned_form, rfl, y, _, dy, _, _, _, rfl, hy, fl_quo, MQ kd fm.k, _, rfl, _, rfl, _, rfl, y, .int i, -n, kd, e, f, t, rfl, fo, fm, .int i, fun j ej _ _ => ?_, fun eb => nb eb⟩
      cases ej
      refine ⟨by omega, by omega, fun H2 s2 => ⟨_, rfl, ?_⟩⟩
      have z := q H2 s2
      rw [if_pos (by omega)] at z
      exact z
theorem ok__law_turned_right {f : Addr} {fd : FuncData} (F : Fun K "_law_turned_right" "_law_turned_right" s__law_turned_right f fd) (T : Txt K mg c) (H__law_brought : Has P w K mg base 1 "_law_brought" ["_law_numbers_here", "_law_x"] spBroG) (H__law_numbers : Has P w K mg base 1 "_law_numbers" ["_law_told", "_law_width"] spNumb) (H__law_whole : Has P w K mg base 1 "_law_whole" ["_law_found"] spWhole) (MQS : ∀ i, i < 2 → MHasR P w K mg base (fun c => CX2c c P w base) true 6 (sOf c i) "quotient" ["self", "width", "x"] (spSQV c i)) : FnOk P w K mg base CX0 7 f fd ["_law_bent", "_law_told", "_law_width", "_law_x"] (spTR c) := by
  refine F.ok sc__law_turned_right (fun vs H Q E h => ?_) (fun cdv A outer s H vs Q E hr h => ?_)
  · obtain ⟨x, r, kd, e, f, t, i, n, rfl, _⟩ := h
    rfl
  obtain ⟨x, r, kd, e, f, t, i, n, rfl, so, ht, fm, h1, h2, n0, n1, q⟩ := h
  refine ⟨_, (pss_cons (ps_set (i := 4) sc__law_turned_right.nd rfl (Or.inl rfl) (pe_fn H__law_brought (hr.mono (by omega)) rfl (pa_cons (pe_fn H__law_numbers (hr.mono (by omega)) rfl (pa_cons (pv 1) (pa_cons (pv 2) pa_nil))) (pa_cons (pe_callB call_abs rfl T.n_abs boot_abs (pa_cons (pv 3) pa_nil)) pa_nil))))
    (pss_join (ps_if (pt_cmpR op_lt (pv 3) pe_int (nomark _))
      (pss_one (ps_set (i := 4) sc__law_turned_right.nd rfl (Or.inl rfl) (pe_op op_sub pe_int (pv 4))))
      pss_nil)
    (pss_cons (ps_set (i := 5) sc__law_turned_right.nd rfl (Or.inl rfl) (pe_methG (CX := (fun c => CX2c c P w base)) (r := true) (k := 6) (pv 0) (room_any (hr.mono (by omega)) rfl rfl rfl) (fun _ => (hd_calm hr.hd)) patN (pa_cons (pv 2) (pa_cons (pv 3) pa_nil))))
    (pss_one (ps_ret (pe_and (pe_fn H__law_whole (hr.mono (by omega)) rfl (pa_cons (pv 5) pa_nil)) (pe_one (pe_cmpR op_eq (pv 5) (pv 4) (nomark _))))))))), ?_⟩
  have nb : ∀ {Z : Prop}, btw (.int i) 4 32 = false → Z := fun eb => by rw [btw_of h1 h2] at eb; cases eb
  refine ⟨_, rfl, _, rfl, r, i, kd, e, f, t, rfl, ht, fm, h1, h2, fun nh H1 hn g1 s1 => ?_⟩
  refine ⟨_, rfl, n, rfl, nh, _, _, _, _, (if n < 0 then -n else n), rfl, g1, fm.rg h1 h2, (by split <;> omega), (by split <;> omega), ?_⟩
  refine ⟨fun σ HZ => σ = [some (.ref x), some (.ref r), some (.int i), some (.int n), some (.int (SD.q (.turn kd e f t) i n)), none] ∧ HZ = H1, ?_, ?_⟩
  · refine ⟨_, rfl, _, _, rfl, rfl, _, rfl, ?_⟩
    walk_at "c" <;> intro c0
    · refine ⟨_, rfl, _, _, rfl, rfl, ?_, rfl⟩
      unfold SD.q
      dsimp only
      rw [if_pos c0, if_pos c0, Int.zero_sub]
      rfl
    · refine ⟨?_, rfl⟩
      unfold SD.q
      dsimp only
      rw [if_neg c0, if_neg c0]
      rfl
  rintro σ HZ ⟨rfl, rfl⟩
  obtain ⟨dx, fs, hx, l1, l2, l3⟩ := (so.same s1).ob
  refine ⟨_, rfl, x, _, dx, _, _, _, rfl, hx, l1, MQS 1 (by decide), _, rfl, _, rfl, x, .int i, n, _, rfl, rfl, so.same s1, fm, .int i, fun j ej _ _ => ?_, fun eb => nb eb⟩
  cases ej
  refine ⟨n0, n1, fun H2 s2 => ?_⟩
  refine ⟨_, rfl, _, rfl, _, rfl, iteT ?_⟩
  refine ⟨_, rfl, _, rfl, rfl, ?_⟩
  rw [decide_eq_true rfl]
  exact q _ (s1.trans s2)
theorem ok__law_cutting_right {f : Addr} {fd : FuncData} (F : Fun K "_law_cutting_right" "_law_cutting_right" s__law_cutting_right f fd) (T : Txt K mg c) (H__law_whole : Has P w K mg base 1 "_law_whole" ["_law_found"] spWhole) (MQS : ∀ i, i < 2 → MHasR P w K mg base (fun c => CX2c c P w base) true 6 (sOf c i) "quotient" ["self", "width", "x"] (spSQV c i)) : FnOk P w K mg base CX0 7 f fd ["_law_cutting", "_law_factor", "_law_shift", "_law_width", "_law_x"] (spCR c) := by
  refine F.ok sc__law_cutting_right (fun vs H Q E h => ?_) (fun cdv A outer s H vs Q E hr h => ?_)
  · obtain ⟨x, f, k, i, n, rfl, _⟩ := h
    rfl
  obtain ⟨x, f, k, i, n, rfl, so, ok, h1, h2, n0, n1, q⟩ := h
  refine ⟨_, (pss_cons (ps_set (i := 5) sc__law_cutting_right.nd rfl (Or.inl rfl) (pe_methG (CX := (fun c => CX2c c P w base)) (r := true) (k := 6) (pv 0) (room_any (hr.mono (by omega)) rfl rfl rfl) (fun _ => (hd_calm hr.hd)) patN (pa_cons (pv 3) (pa_cons (pv 4) pa_nil))))
    (pss_one (ps_ret (pe_and (pe_fn H__law_whole (hr.mono (by omega)) rfl (pa_cons (pv 5) pa_nil)) (pe_one (pe_cmpR op_eq (pv 5) (pe_op op_add (pe_op op_shr (pe_op op_mulB (pv 1) (pv 4)) (pe_op op_add (pv 3) (pv 2))) (pe_callTy call_int1 rfl T.n_int boot_int (pa_cons (pe_cmpR op_lt (pv 4) pe_int (nomark _)) pa_nil))) (nomark _))))))), ?_⟩
  have nb : ∀ {Z : Prop}, btw (.int i) 4 32 = false → Z := fun eb => by rw [btw_of h1 h2] at eb; cases eb
  obtain ⟨dx, fs, hx, l1, l2, l3⟩ := so.ob
  obtain ⟨f0, f1, k0, k1⟩ := id ok
  refine ⟨_, rfl, x, _, dx, _, _, _, rfl, hx, l1, MQS 0 (by decide), _, rfl, _, rfl, x, .int i, n, _, rfl, rfl, so, ok, .int i, fun j ej _ _ => ?_, fun eb => nb eb⟩
  cases ej
  refine ⟨n0, n1, fun H2 s2 => ?_⟩
  refine ⟨_, rfl, _, rfl, _, rfl, iteT ?_⟩
  refine ⟨_, rfl, _, rfl, _, rfl, _, _, rfl, rfl, ⟨b200 (by omega) (by omega), b200 (by omega) (by omega)⟩, _, rfl, _, rfl, _, _, rfl, rfl, _, _, rfl, rfl, (by show 0 ≤ i + k; omega), ?_⟩
  refine ⟨_, rfl, _, _, rfl, rfl, .inr ⟨_, rfl, _, _, rfl, rfl, rfl, ?_⟩⟩
  have e : V.int (SD.q (.cut f k) i n) = V.int (f * n / 2 ^ (i + k).toNat + if decide (n < 0) = true then 1 else 0) := by
    unfold SD.q
    dsimp only
    by_cases c0 : n < 0
    · rw [if_pos c0, if_pos (decide_eq_true c0)]
    · rw [if_neg c0, if_neg (by simp [c0])]
  rw [decide_eq_true e]
  exact q _ s2
theorem ok__law_no_width {f : Addr} {fd : FuncData} (F : Fun K "_law_no_width" "_law_no_width" s__law_no_width f fd) (T : Txt K mg c)  (MQS : ∀ i, i < 2 → MHasR P w K mg base (fun c => CX2c c P w base) true 6 (sOf c i) "quotient" ["self", "width", "x"] (spSQV c i)) : FnOk P w K mg base CX0 7 f fd ["_law_form", "_law_width"] (spNWS c) := by
  refine F.ok sc__law_no_width (fun vs H Q E h => ?_) (fun cdv A outer s H vs Q E hr h => ?_)
  · obtain ⟨x, v, sd, rfl, _⟩ := h
    rfl
  obtain ⟨x, v, sd, rfl, so, ok, bv, fv, q⟩ := h
  refine ⟨_, (pss_cons (ps_tryR (j := 2) (fun pins0 E0 => (pss_one (ps_expr (pe_methH (P := P) (w := w) (K := K) (mg := mg) (base := base) (CX := (fun c => CX2c c P w base)) (r := true) (k := 6) rfl rfl rfl rfl rfl (pv 0) (room_any (hr.mono (by omega)) rfl rfl rfl) (fun _ => (hd_try (hd_calm hr.hd))) patT (pa_cons (pv 1) (pa_cons pe_int pa_nil)))))) sc__law_no_width.nd rfl T.g_NoWidth rfl rfl (fun a0 oe0 hc0 => (pss_one (ps_ret (pe_cmpR op_eq (pe_callB (call_reprE hr.gd (by have := hu64 hr; exact this)) rfl T.n_repr boot_repr (pa_cons (pe_xf (a := a0) (oe := oe0) (List.mem_cons_self ..) (pv 2) rfl) pa_nil)) (pe_callB (call_reprE hr.gd (by have := hu64 hr; exact this)) rfl T.n_repr boot_repr (pa_cons (pv 1) pa_nil)) (nomark _))))))
    (pss_one (ps_ret pe_bl))), ?_⟩
  have exf : ExF K c.NoWidth := ⟨T.kf_ga_NoWidth, T.kf_gn_NoWidth, T.kf_gc_NoWidth, T.kf_mo_NoWidth, T.kf_mb_NoWidth⟩
  have ex1 : PySem.W.exmOne K (.ref c.NoWidth) (.ref c.NoWidth) = some true := exm_of T.kf_if__NoWidth T.kf_tf_NoWidth T.kf_mf_NoWidth T.kf_wb_NoWidth
  obtain ⟨dx, fs, hx, l1, l2, l3⟩ := so.ob
  obtain ⟨d, fd, sd'⟩ := fv.sm
  have nb : ∀ {Z : Prop} {i : Int}, v = .int i → 4 ≤ i → i ≤ 32 → Z := fun ei h1 h2 => by rw [ei, btw_of h1 h2] at bv; cases bv
  refine ⟨_, rfl, x, _, dx, _, _, _, rfl, hx, l1, MQS sd.ix sd.ix2, _, rfl, x, v, 1, sd, rfl, rfl, so, ok, fv.th, fun i ei h1 h2 => nb ei h1 h2, fun eb d1 hd1 => ⟨ex1, fun a0 o0 hcl0 hdi0 hnc0 ha0 => ?_⟩⟩
  have s1 := same_new hd1 (.xd [("found", v)])
  have u1 : upd H d1 (.xd [("found", v)]) d1 = _ := upd_same
  generalize upd H d1 (.xd [("found", v)]) = H1 at s1 u1 ha0 ⊢
  refine ⟨_, rfl, c.NoWidth, d1, _, _, rfl, hcl0, hdi0, hnc0, exf, T.kf_hd_NoWidth, T.kf_nf_NoWidth, u1, rfl, ?_⟩
  refine ⟨_, d, rfl, .inl ⟨fd.rd, sd'.hd⟩, sd'.sh, Nat.le_trans sd'.dp (by decide), sh_fits sd'.lv sd'.wt (by decide), ?_⟩
  refine ⟨_, rfl, _, d, rfl, .inl ⟨fd.rd, sd'.hd⟩, sd'.sh, Nat.le_trans sd'.dp (by decide), sh_fits sd'.lv sd'.wt (by decide), rfl, ?_⟩
  rw [decide_eq_true rfl]
  exact q _ s1
theorem all_sm : ∀ {ds : List PyData}, (∀ d ∈ ds, d.showable = true ∧ PyData.leavesShort 100 d = true ∧ d.depth ≤ 1 ∧ d.weight ≤ 202) → PyData.showableAll ds = true ∧ PyData.leavesShortAll 100 ds = true ∧ PyData.depthAll ds ≤ 1 ∧ PyData.weightAll ds ≤ 203 * ds.length
  | [], _ => ⟨by simp [PyData.showableAll], by simp [PyData.leavesShortAll], by simp [PyData.depthAll], by simp [PyData.weightAll]⟩
  | d :: ds, h => by
    obtain ⟨a1, a2, a3, a4⟩ := h d (List.mem_cons_self ..)
    obtain ⟨b1, b2, b3, b4⟩ := all_sm fun x hx => h x (List.mem_cons_of_mem _ hx)
    refine ⟨by simp [PyData.showableAll, a1, b1], by simp [PyData.leavesShortAll, a2, b2], ?_, ?_⟩
    · rw [PyData.depthAll.eq_2]; exact Nat.max_le.mpr ⟨a3, b3⟩
    · rw [PyData.weightAll.eq_2, List.length_cons]; omega
theorem all_hd : ∀ {ds : List PyData}, (∀ d ∈ ds, d.hasDict = false) → PyData.hasDictAll ds = false
  | [], _ => by simp [PyData.hasDictAll]
  | d :: ds, h => by simp [PyData.hasDictAll, h d (List.mem_cons_self ..), all_hd fun x hx => h x (List.mem_cons_of_mem _ hx)]
/-- what may stand in a form's place, spoilt -/
def Gd (H : Hp) (v : V) : Prop := FV v ∨ ∃ a, v = .ref a ∧ (H a = some (.lst [.int 1]) ∨ H a = some (.tup [.int 1]) ∨ H a = some (.dK []))
theorem Gd.th {H : Hp} {v : V} (g : Gd H v) : Th H v := by
  rcases g with g | ⟨a, rfl, h | h | h⟩
  · exact g.th
  · exact .lst h
  · exact .tup h
  · exact .dct h
theorem Gd.same {H H' : Hp} {v : V} (g : Gd H v) (s : Same H H') : Gd H' v := by
  rcases g with g | ⟨a, rfl, h | h | h⟩
  · exact .inl g
  · exact .inr ⟨a, rfl, .inl (s _ _ h)⟩
  · exact .inr ⟨a, rfl, .inr (.inl (s _ _ h))⟩
  · exact .inr ⟨a, rfl, .inr (.inr (s _ _ h))⟩
def SDm (d : PyData) : Prop := d.showable = true ∧ PyData.leavesShort 100 d = true ∧ d.depth ≤ 1 ∧ d.weight ≤ 202
theorem SmD.sd {d : PyData} {n m : Nat} (h : SmD d n m) (hn : n ≤ 1) (hm : m ≤ 202) : SDm d := ⟨h.sh, h.lv, Nat.le_trans h.dp hn, Nat.le_trans h.wt hm⟩
theorem Gd.dat {H : Hp} {v : V} (g : Gd H v) : ∃ d, SDm d ∧ ((d.hasDict = false ∧ ∀ H', Same H H' → RD H' v d) ∨ ∀ H', Same H H' → FE H' v d) := by
  have i1 : SmD (.int 1) 0 100 := int_sm (by decide) (by decide)
  rcases g with g | ⟨a, rfl, h | h | h⟩
  · obtain ⟨d, fd, sm⟩ := g.sm
    exact ⟨d, sm.sd (by decide) (by decide), .inr fun _ _ => .fl fd⟩
  · have sm : SmD (.list [.int 1]) 1 101 := (SmL.cons i1 (SmL.nil (m := 0))).list
    refine ⟨_, sm.sd (by decide) (by decide), .inl ⟨sm.hd, fun H' s => .lst (s _ _ h) rfl fun i y z e1 e2 => ?_⟩⟩
    rcases i with _ | i
    · cases e1; cases e2; exact .int 1
    · simp at e1
  · have sm : SmD (.tuple [.int 1]) 1 101 := (SmL.cons i1 (SmL.nil (m := 0))).tup
    refine ⟨_, sm.sd (by decide) (by decide), .inl ⟨sm.hd, fun H' s => .tup (s _ _ h) rfl fun i y z e1 e2 => ?_⟩⟩
    rcases i with _ | i
    · cases e1; cases e2; exact .int 1
    · simp at e1
  · exact ⟨.dict [], ⟨by simp [PyData.showable, PyData.showableKv], by simp [PyData.leavesShort, PyData.leavesShortKv], by simp [PyData.depth, PyData.depthKv], by simp [PyData.weight, PyData.weightKv]⟩, .inr fun H' s => .dc (s _ _ h)⟩
/-- the items of a spoilt telling -/
def It (v x : V) : Prop := (∃ z, x = .str z ∧ Tx z) ∨ x = v ∨ ∃ i : Int, x = .int i ∧ 0 ≤ i ∧ i ≤ 4294967295
theorem items {H : Hp} {v : V} (g : Gd H v) : ∀ xs : List V, (∀ x ∈ xs, It v x) → ∃ ds : List PyData, xs.length = ds.length ∧ (∀ d ∈ ds, SDm d) ∧ (((∀ d ∈ ds, d.hasDict = false) ∧ ∀ H', Same H H' → ∀ (i : Nat) x d, xs[i]? = some x → ds[i]? = some d → RD H' x d) ∨ ∀ H', Same H H' → ∀ (i : Nat) x d, xs[i]? = some x → ds[i]? = some d → FE H' x d) := by
  obtain ⟨dv, sv, kv⟩ := g.dat
  have one : ∀ x, It v x → ∃ d, SDm d ∧ ((d.hasDict = false ∧ ∀ H', Same H H' → RD H' x d) ∧ (∀ H', Same H H' → FE H' x d) ∨ x = v ∧ d = dv) := fun x hx => by
    rcases hx with ⟨z, rfl, tz⟩ | rfl | ⟨i, rfl, i0, i1⟩
    · exact ⟨_, (tx_sm tz).sd (by decide) (by decide), .inl ⟨⟨(tx_sm tz).hd, fun _ _ => .str _⟩, fun _ _ => .fl (.str _)⟩⟩
    · exact ⟨dv, sv, .inr ⟨rfl, rfl⟩⟩
    · have sm := int_sm (i := i) (by omega) (by omega)
      exact ⟨_, sm.sd (by decide) (by decide), .inl ⟨⟨sm.hd, fun _ _ => .int _⟩, fun _ _ => .fl (.int _)⟩⟩
  intro xs hx
  have key : ∃ ds : List PyData, xs.length = ds.length ∧ (∀ d ∈ ds, SDm d) ∧ ∀ (i : Nat) x d, xs[i]? = some x → ds[i]? = some d → ((d.hasDict = false ∧ ∀ H', Same H H' → RD H' x d) ∧ (∀ H', Same H H' → FE H' x d) ∨ x = v ∧ d = dv) := by
    clear g
    induction xs with
    | nil => exact ⟨[], rfl, (fun d z => nomatch z), fun i x d e1 _ => by simp at e1⟩
    | cons y ys ih =>
      obtain ⟨d, sd, hd⟩ := one y (hx y (List.mem_cons_self ..))
      obtain ⟨ds, hl, hs, hi⟩ := ih fun x z => hx x (List.mem_cons_of_mem _ z)
      refine ⟨d :: ds, by simp [hl], fun e z => ?_, fun i x e e1 e2 => ?_⟩
      · rcases List.mem_cons.mp z with rfl | z
        · exact sd
        · exact hs e z
      · rcases i with _ | i
        · cases e1; cases e2; exact hd
        · exact hi i x e (by simpa using e1) (by simpa using e2)
  obtain ⟨ds, hl, hs, hi⟩ := key
  refine ⟨ds, hl, hs, ?_⟩
  rcases kv with ⟨nv, kv⟩ | kv
  · refine .inl ⟨fun d hd => ?_, fun H' s i x d e1 e2 => ?_⟩
    · obtain ⟨i, e2⟩ := List.getElem?_of_mem hd
      have hi' : i < xs.length := by rw [hl]; exact (List.getElem?_eq_some_iff.mp e2).1
      rcases hi i xs[i] d (List.getElem?_eq_getElem hi') e2 with ⟨⟨z, _⟩, _⟩ | ⟨_, rfl⟩
      · exact z
      · exact nv
    · rcases hi i x d e1 e2 with ⟨⟨_, z⟩, _⟩ | ⟨rfl, rfl⟩
      · exact z H' s
      · exact kv H' s
  · refine .inr fun H' s i x d e1 e2 => ?_
    rcases hi i x d e1 e2 with ⟨_, z⟩ | ⟨rfl, rfl⟩
    · exact z H' s
    · exact kv H' s
theorem tup_rp {H : Hp} {v : V} (g : Gd H v) {xs : List V} (hx : ∀ x ∈ xs, It v x) (hn : xs.length ≤ 100) : ∃ D : PyData, D.showable = true ∧ D.depth ≤ 20 ∧ D.shown.length ≤ sizeLine ∧ ∀ H' a, Same H H' → H' a = some (.tup xs) → Rp H' (.ref a) D := by
  obtain ⟨ds, hl, hs, hk⟩ := items g xs hx
  obtain ⟨a1, a2, a3, a4⟩ := all_sm hs
  refine ⟨.tuple ds, by simp [PyData.showable, a1], by rw [PyData.depth.eq_2]; omega, sh_fits (m := 20300) (by simp [PyData.leavesShort, a2]) (by rw [PyData.weight.eq_3]; omega) (by decide), fun H' a s h => ?_⟩
  rcases hk with ⟨h1, h2⟩ | h2
  · exact .inl ⟨.tup h hl (h2 H' s), by simp [PyData.hasDict, all_hd h1]⟩
  · exact .inr (.inr ⟨a, xs, ds, rfl, h, hl, h2 H' s, rfl⟩)
theorem btw_out {i lo hi : Int} (h : i < lo ∨ hi < i) : btw (.int i) lo hi = false := by
  cases e : btw (.int i) lo hi with
  | false => rfl
  | true =>
    obtain ⟨j, ej, a, b⟩ := btw_int e
    cases ej
    omega
theorem Gd.updL {H : Hp} {v : V} {l : Addr} {xs : List V} {o : HO} (g : Gd H v) (h : H l = some (.lst xs)) (hn : 2 ≤ xs.length) : Gd (upd H l o) v := by
  have ne : ∀ {a : Addr} {u : HO}, H a = some u → u ≠ .lst xs → a ≠ l := fun e1 e2 z => by rw [z, h] at e1; cases e1; exact e2 rfl
  rcases g with g | ⟨a, rfl, e | e | e⟩
  · exact .inl g
  · exact .inr ⟨a, rfl, .inl (by rw [upd_ne (ne e (fun z => by cases z; simp at hn))]; exact e)⟩
  · exact .inr ⟨a, rfl, .inr (.inl (by rw [upd_ne (ne e (fun z => nomatch z))]; exact e))⟩
  · exact .inr ⟨a, rfl, .inr (.inr (by rw [upd_ne (ne e (fun z => nomatch z))]; exact e))⟩
theorem It.th {H : Hp} {v x : V} (g : Gd H v) (h : It v x) : Th H x := by
  rcases h with ⟨_, rfl, _⟩ | rfl | ⟨_, rfl, _⟩
  · exact .str _
  · exact g.th
  · exact .int _
theorem ok__law_no_cutting {f : Addr} {fd : FuncData} (F : Fun K "_law_no_cutting" "_law_no_cutting" s__law_no_cutting f fd) (T : Txt K mg c) (H__law_draw : Has P w K mg base 1 "_law_draw" ["_law_state", "_law_size"] spTake) (H__law_end : Has P w K mg base 2 "_law_end" ["_law_state", "_law_low", "_law_last"] spEnd) (C_Cutting : CHasR P w K mg base (fun c => CX2c c P w base) true 4 c.Cutting "Cutting" ["self", "factor", "shift"] (spICV c)) : FnOk P w K mg base CX0 6 f fd ["_law_state"] (spNC c) := by
  refine F.ok sc__law_no_cutting (fun vs H Q E h => ?_) (fun cdv A outer s H vs Q E hr h => ?_)
  · obtain ⟨p, rfl, _⟩ := h
    rfl
  obtain ⟨p, rfl, bx, q⟩ := h
  refine ⟨_, (pss_cons (ps_set (i := 1) sc__law_no_cutting.nd rfl (Or.inl rfl) (pe_lst (pa_cons (pe_fn H__law_end (hr.mono (by omega)) rfl (pa_cons (pv 0) (pa_cons pe_int (pa_cons pe_int pa_nil)))) (pa_cons (pe_fn H__law_end (hr.mono (by omega)) rfl (pa_cons (pv 0) (pa_cons pe_int (pa_cons pe_int pa_nil)))) pa_nil))))
    (pss_cons (ps_set (i := 2) sc__law_no_cutting.nd rfl (Or.inl rfl) (pe_fn H__law_draw (hr.mono (by omega)) rfl (pa_cons (pv 0) (pa_cons pe_int pa_nil))))
    (pss_consT (ps_set (i := 3) sc__law_no_cutting.nd rfl (Or.inl rfl) (pe_ix ix_list (pe_lst (pa_cons pe_int (pa_cons pe_int pa_nil))) (pv 2) (fun _ _ => rfl)))
    (pss_consS (ps_setS (i := 4) sc__law_no_cutting.nd rfl (Or.inl rfl) (pe_lstS (pa_consS (pe_op op_sub pe_int pe_int) (pa_consS (pe_op op_add (pv 3) pe_int) (pa_consS (pe_op op_add (pe_op op_add (pv 3) pe_int) (pe_fn H__law_draw (hr.mono (by omega)) rfl (pa_cons (pv 0) (pa_cons (pe_op op_pow pe_int pe_int) pa_nil)))) (pa_consS pe_bl (pa_consS pe_bl (pa_consS pe_non (pa_consS pe_str (pa_consS (pe_lst (pa_cons pe_int pa_nil)) (pa_consS (pe_tup (pa_cons pe_int pa_nil)) (pa_consS pe_dnewK pa_nilS))))))))))))
    (pss_cons (ps_asg (pe_ix ix_list (pv 4) (pe_fn H__law_draw (hr.mono (by omega)) rfl (pa_cons (pv 0) (pa_cons pe_int pa_nil))) (fun _ _ => rfl)) (pg_sub (pv 1) (pv 2) set_list))
    (pss_cons (ps_tryR (j := 5) (fun pins0 E0 => (pss_one (ps_expr (pe_mkG C_Cutting (room_any (hr.mono (by omega)) rfl rfl rfl) (fun _ => (hd_try (hd_calm hr.hd))) rfl patT (pa_cons (pe_ix (ix_listK (K := K) rfl) (pv 1) pe_int (fun _ _ => rfl)) (pa_cons (pe_ix (ix_listK (K := K) rfl) (pv 1) pe_int (fun _ _ => rfl)) pa_nil)))))) sc__law_no_cutting.nd rfl T.g_NoForm rfl rfl (fun a0 oe0 hc0 => (pss_one (ps_ret (pe_cmpR op_eq (pe_callB (call_reprE hr.gd (by have := hu64 hr; exact this)) rfl T.n_repr boot_repr (pa_cons (pe_xf (a := a0) (oe := oe0) (List.mem_cons_self ..) (pv 5) rfl) pa_nil)) (pe_callB (call_reprE hr.gd (by have := hu64 hr; exact this)) rfl T.n_repr boot_repr (pa_cons (pe_tup (pa_cons pe_str (pa_cons (pe_ix ix_list (pv 1) pe_int (fun _ _ => rfl)) (pa_cons (pe_ix ix_list (pv 1) pe_int (fun _ _ => rfl)) pa_nil)))) pa_nil)) (nomark _))))))
    (pss_one (ps_ret pe_bl)))))))), ?_⟩
  have np : ∀ {G : Hp} {y : Addr}, Bx G p → G y = none → y ≠ p := fun {G y} b h e => by obtain ⟨z1, z2, hb⟩ := b; rw [e, hb] at h; cases h
  have e9 : (10 : Int) ^ (9 : Int).toNat = 1000000000 := by decide
  refine ⟨_, rfl, p, _, _, rfl, bx, by decide, by decide, by decide, fun a1 H1 a10 a11 b1 x1 => ?_⟩
  refine ⟨_, rfl, p, _, _, rfl, b1, by decide, by decide, by decide, fun a2 H2 a20 a21 b2 x2 => ⟨(by show 2 ≤ sizeLine; decide), fun l hl => ?_⟩⟩
  have sl := same_new hl (.lst [V.int a1, .int a2])
  have ul : upd H2 l (.lst [V.int a1, .int a2]) l = some (.lst [V.int a1, .int a2]) := upd_same
  have lp := np b2 hl
  have b2' := b2.same sl
  have x2' := (x1.trans x2).trans (SameX.of (p := p) sl)
  have nl : H l = none := frX b2 (x1.trans x2) hl
  dsimp only
  generalize upd H2 l (.lst [V.int a1, .int a2]) = G2 at sl ul b2' x2' ⊢
  refine ⟨_, rfl, p, _, rfl, b2', by decide, by decide, fun tt H3 t0 t1 b3 x3 => ?_⟩
  have u3 := x3 _ _ lp ul
  have x03 := x2'.trans x3
  have key : ∃ (L : Int) (n : Nat), atI [V.int 4294967295, .int 64] tt = some (.int L) ∧ ixN 2 tt = some n ∧ 64 ≤ L ∧ L ≤ 4294967295 ∧ ∀ v, btw v 0 L = false → ∃ f s : V, [V.int a1, .int a2].set n v = [f, s] ∧ (btw f 0 4294967295 && btw s 0 64) = false ∧ It v f ∧ It v s := by
    have I : ∀ {v : V} {i : Int}, 0 ≤ i → i ≤ 4294967295 → It v (.int i) := fun h0 h1 => .inr (.inr ⟨_, rfl, h0, h1⟩)
    rcases (by omega : tt = 0 ∨ tt = 1) with rfl | rfl
    · exact ⟨_, 0, rfl, rfl, by decide, by decide, fun v hv => ⟨_, _, rfl, by rw [hv]; rfl, .inr (.inl rfl), I a20 (by omega)⟩⟩
    · exact ⟨_, 1, rfl, rfl, by decide, by decide, fun v hv => ⟨_, _, rfl, by rw [hv, Bool.and_false], I a10 a11, .inr (.inl rfl)⟩⟩
  obtain ⟨L, n, hL, hn, L0, L1, sp⟩ := key
  refine ⟨(by show 2 ≤ sizeLine; decide), fun l2 hl2 => ⟨_, rfl, l2, _, _, _, rfl, rfl, SqL.of upd_same, hL, ?_⟩⟩
  have sl2 := same_new hl2 (.lst [V.int 4294967295, .int 64])
  have b3' := b3.same sl2
  have x3' := x03.trans (SameX.of (p := p) sl2)
  have u3' := sl2 _ _ u3
  dsimp only
  generalize upd H3 l2 (.lst [V.int 4294967295, .int 64]) = G3 at sl2 b3' x3' u3' ⊢
  refine ⟨_, _, rfl, rfl, _, rfl, _, _, rfl, rfl, _, rfl, _, _, rfl, rfl, _, rfl, _, _, rfl, rfl, ⟨by decide, by decide, by decide⟩, p, _, rfl, b3', by decide, by decide, fun dd H4 d0 d1 b4 x4 => ⟨_, _, rfl, rfl, ?_⟩⟩
  rw [e9] at d1
  have u4 := x4 _ _ lp u3'
  have x04 := x3'.trans x4
  refine ⟨(by show 1 ≤ sizeLine; decide), fun y1 h1 => ⟨(by show 1 ≤ sizeLine; decide), fun y2 h2 => fun y3 h3 => ⟨(by show 10 ≤ sizeLine; decide), fun y5 h5 => ?_⟩⟩⟩
  generalize hLL : [V.int (0 - 1), .int (L + 1), .int (L + 1 + dd), .bl true, .bl false, .non, .str "1", .ref y1, .ref y2, .ref y3] = LL at h5 ⊢
  have w1 := same_new h1 (.lst [.int 1])
  have w2 := same_new h2 (.tup [.int 1])
  have w3 := same_new h3 (.dK [])
  have w5 := same_new h5 (.lst LL)
  have v1 := w5 _ _ (w3 _ _ (w2 _ _ (upd_same : upd H4 y1 (.lst [.int 1]) y1 = _)))
  have v2 := w5 _ _ (w3 _ _ (upd_same : upd (upd H4 y1 (.lst [.int 1])) y2 (.tup [.int 1]) y2 = _))
  have v3 := w5 _ _ (upd_same : upd (upd (upd H4 y1 (.lst [.int 1])) y2 (.tup [.int 1])) y3 (.dK []) y3 = _)
  have v5 : upd (upd (upd (upd H4 y1 (.lst [.int 1])) y2 (.tup [.int 1])) y3 (.dK [])) y5 (.lst LL) y5 = _ := upd_same
  have ww := ((w1.trans w2).trans w3).trans w5
  have n1 := np b4 h1
  have n2 := np (b4.same w1) h2
  have n3 := np (b4.same (w1.trans w2)) h3
  have n5 := np (b4.same ((w1.trans w2).trans w3)) h5
  dsimp only
  generalize upd (upd (upd (upd H4 y1 (.lst [.int 1])) y2 (.tup [.int 1])) y3 (.dK [])) y5 (.lst LL) = H5 at ww v1 v2 v3 v5 ⊢
  refine ⟨_, rfl, _, rfl, p, _, rfl, b4.same ww, by decide, by decide, fun d H6 d0 d1 b6 x6 => ?_⟩
  have u6 := x6 _ _ lp (ww _ _ u4)
  have x06 := (x04.trans (SameX.of ww)).trans x6
  have pick : ∃ v, atI LL d = some v ∧ Gd H6 v ∧ btw v 0 L = false := by
    have fi : ∀ {i : Int} {G : Hp}, -(2 ^ 99) < i → i < 2 ^ 100 → Gd G (.int i) := fun h0 h1 => .inl (.inr (.inr (.inl ⟨_, rfl, h0, h1⟩)))
    subst hLL
    rcases (by omega : d = 0 ∨ d = 1 ∨ d = 2 ∨ d = 3 ∨ d = 4 ∨ d = 5 ∨ d = 6 ∨ d = 7 ∨ d = 8 ∨ d = 9) with rfl | rfl | rfl | rfl | rfl | rfl | rfl | rfl | rfl | rfl
    · exact ⟨_, rfl, fi (by omega) (by omega), btw_out (.inl (by omega))⟩
    · exact ⟨_, rfl, fi (by omega) (by omega), btw_out (.inr (by omega))⟩
    · exact ⟨_, rfl, fi (by omega) (by omega), btw_out (.inr (by omega))⟩
    · exact ⟨_, rfl, .inl (.inr (.inl ⟨_, rfl⟩)), rfl⟩
    · exact ⟨_, rfl, .inl (.inr (.inl ⟨_, rfl⟩)), rfl⟩
    · exact ⟨_, rfl, .inl (.inl rfl), rfl⟩
    · exact ⟨_, rfl, .inl (.inr (.inr (.inr ⟨_, rfl, by decide +kernel, by decide +kernel⟩))), rfl⟩
    · exact ⟨_, rfl, .inr ⟨y1, rfl, .inl (x6 _ _ n1 v1)⟩, rfl⟩
    · exact ⟨_, rfl, .inr ⟨y2, rfl, .inr (.inl (x6 _ _ n2 v2))⟩, rfl⟩
    · exact ⟨_, rfl, .inr ⟨y3, rfl, .inr (.inr (x6 _ _ n3 v3))⟩, rfl⟩
  obtain ⟨v, ev, gv, bv⟩ := pick
  obtain ⟨f, t, es, bad, i1, i2⟩ := sp v bv
  refine ⟨y5, _, _, _, rfl, rfl, SqL.of (x6 _ _ n5 v5), ev, _, rfl, _, rfl, l, _, _, n, rfl, rfl, u6, hn, ?_⟩
  rw [es]
  have g7 : Gd (upd H6 l (.lst [f, t])) v := gv.updL u6 (by show 2 ≤ 2; decide)
  have u7 : upd H6 l (.lst [f, t]) l = some (.lst [f, t]) := upd_same
  have b7 : Bx (upd H6 l (.lst [f, t])) p := by obtain ⟨z1, z2, hb⟩ := b6; exact ⟨z1, z2, by rw [upd_ne (Ne.symm lp)]; exact hb⟩
  have x07 : SameX p H (upd H6 l (.lst [f, t])) := fun b o hb h => by rw [upd_ne (ne_of_none h nl)]; exact x06 b o hb h
  generalize upd H6 l (.lst [f, t]) = H7 at g7 u7 b7 x07 ⊢
  have exf : ExF K c.NoForm := ⟨T.kf_ga_NoForm, T.kf_gn_NoForm, T.kf_gc_NoForm, T.kf_mo_NoForm, T.kf_mb_NoForm⟩
  have ex1 : PySem.W.exmOne K (.ref c.NoForm) (.ref c.NoForm) = some true := exm_of T.kf_if__NoForm T.kf_tf_NoForm T.kf_mf_NoForm T.kf_wb_NoForm
  have ic : It v (.str "cutting") := .inl ⟨_, rfl, by decide +kernel, by decide +kernel⟩
  obtain ⟨D, dd1, dd2, dd3, rp'⟩ := tup_rp g7 (xs := [.str "cutting", f, t]) (List.forall_mem_cons.mpr ⟨ic, List.forall_mem_cons.mpr ⟨i1, List.forall_mem_cons.mpr ⟨i2, fun _ z => nomatch z⟩⟩⟩) (by show 3 ≤ 100; decide)
  refine ⟨_, rfl, l, _, _, _, rfl, rfl, SqL.of u7, rfl, _, rfl, l, _, _, _, rfl, rfl, SqL.of u7, rfl, fun x dx hx hdx hne => ?_⟩
  have sm : Same H7 (upd (upd H7 dx (.own x)) x (.ins c.Cutting dx [])) := made_same hx hdx (fun b o _ h => h)
  refine ⟨x, dx, f, t, rfl, upd_same, (It.th g7 i1).same sm, (It.th g7 i2).same sm, (fun z => by rw [bad] at z; cases z), fun _ y r H8 s8 hy hr' => ⟨ex1, fun a0 o0 hcl0 hdi0 hnc0 ha0 => ?_⟩⟩
  have s78 := made_same hx hdx s8
  refine ⟨_, rfl, c.NoForm, y, _, _, rfl, hcl0, hdi0, hnc0, exf, T.kf_hd_NoForm, T.kf_nf_NoForm, hy, rfl, _, D, rfl, rp' _ _ s78 hr', dd1, dd2, dd3, ?_⟩
  refine ⟨_, rfl, l, _, _, _, rfl, rfl, SqL.of (s78 _ _ u7), rfl, _, rfl, l, _, _, _, rfl, rfl, SqL.of (s78 _ _ u7), rfl, (by show 3 ≤ sizeLine; decide), fun w2 hw2 => ?_⟩
  have s9 := same_new hw2 (.tup [.str "cutting", f, t])
  refine ⟨_, D, rfl, rp' _ _ (s78.trans s9) upd_same, dd1, dd2, dd3, rfl, ?_⟩
  rw [decide_eq_true rfl]
  exact q _ (b7.same (s78.trans s9)) (x07.trans (SameX.of (s78.trans s9)))
theorem std_eq {K : PySem.W.Frag} {H : Hp} {p q : Addr} {sd : SD} (hp : STd H p sd) (hq : STd H q sd) : ∃ (xs ys : List V) (e : Nat → Bool), SqT K H p xs ∧ SqT K H q ys ∧ (∀ j, j < xs.length → j < ys.length → EqD K H 1 (xs.getD j .non) (ys.getD j .non) (e j)) ∧ ((List.range (min xs.length ys.length)).all e && xs.length == ys.length) = true := by
  cases sd with
  | cut f k =>
    refine ⟨_, _, fun _ => true, SqT.of hp, SqT.of hq, fun j h1 _ => ?_, ?_⟩
    · have h3 : j < 3 := h1
      rcases (by omega : j = 0 ∨ j = 1 ∨ j = 2) with rfl | rfl | rfl
      · exact eq_str
      · exact eq_int
      · exact eq_int
    · rw [allT1]; rfl
  | turn kd e f t =>
    obtain ⟨y, h1, h2⟩ := hp
    obtain ⟨z, h3, h4⟩ := hq
    refine ⟨_, _, fun _ => true, SqT.of h1, SqT.of h3, fun j h1 _ => ?_, ?_⟩
    · have h3 : j < 2 := h1
      rcases (by omega : j = 0 ∨ j = 1) with rfl | rfl
      · exact eq_str
      · exact eq_tlv h2 h4
    · rw [allT1]; rfl
theorem ok__law_no_signed {f : Addr} {fd : FuncData} (F : Fun K "_law_no_signed" "_law_no_signed" s__law_no_signed f fd) (T : Txt K mg c)  (C_Turned : CHasR P w K mg base (fun c => CX2c c P w base) true 3 c.Turned "Turned" ["self", "form"] (spITV c)) (MTS : ∀ i, i < 2 → MHasR P w K mg base (fun _ => CX0) false 3 (sOf c i) "told" ["self"] (spST c i)) : FnOkR P w K mg base (fun _ => CX0) true 5 f fd ["_law_form"] (spNS c) := by
  refine Fun.okR0 F sc__law_no_signed (fun vs H Q E h => ?_) (fun cdv A outer s H vs Q E hr hh h => ?_)
  · obtain ⟨x, sd, rfl, _⟩ := h
    rfl
  obtain ⟨x, sd, rfl, so, ok, q⟩ := h
  refine ⟨_, (pss_cons (ps_tryR (j := 1) (fun pins0 E0 => (pss_one (ps_expr (pe_mkG C_Turned (room_any (hr.mono (by omega)) rfl rfl rfl) (fun _ => (hd_try (hd_wish (hd_in (hh rfl))))) rfl patT (pa_cons (pv 0) pa_nil))))) sc__law_no_signed.nd rfl T.g_NoForm rfl rfl (fun a0 oe0 hc0 => (pss_one (ps_ret (pe_and (pe_callB call_isinst rfl T.n_isinstance boot_isinstance (pa_cons (pe_xf (a := a0) (oe := oe0) (List.mem_cons_self ..) (pv 1) rfl) (pa_cons (pe_cls rfl T.g_SignedForm) pa_nil))) (pe_one (pe_cmpR (op_eqTD (d := 1) (by have := hu2 hr; exact this)) (pe_methG0 (CX := (fun _ => CX0)) (r := false) (k := 3) (pe_xf (a := a0) (oe := oe0) (List.mem_cons_self ..) (pv 1) rfl) (room_any (hr.mono (by omega)) rfl rfl rfl) (fun z => nomatch z) pat0) (pe_methG0 (CX := (fun _ => CX0)) (r := false) (k := 3) (pv 0) (room_any (hr.mono (by omega)) rfl rfl rfl) (fun z => nomatch z) pat0) (nomark _))))))))
    (pss_one (ps_ret pe_bl))), ?_⟩
  have exf : ExF K c.NoForm := ⟨T.kf_ga_NoForm, T.kf_gn_NoForm, T.kf_gc_NoForm, T.kf_mo_NoForm, T.kf_mb_NoForm⟩
  have ex1 : PySem.W.exmOne K (.ref c.NoForm) (.ref c.NoForm) = some true := exm_of T.kf_if__NoForm T.kf_tf_NoForm T.kf_mf_NoForm T.kf_wb_NoForm
  refine ⟨_, rfl, fun y dy hy hdy hne => ?_⟩
  have sm : Same H (upd (upd H dy (.own y)) y (.ins c.Turned dy [])) := made_same hy hdy (fun b o _ h => h)
  refine ⟨y, dy, .ref x, rfl, upd_same, .inr ⟨.inr ⟨x, sd, rfl, so.same sm⟩, fun d hd => ⟨ex1, fun a0 o0 hcl0 hdi0 hnc0 ha0 => ?_⟩⟩⟩
  have s1 := sm.trans (same_new hd (.xd [("found", .ref x)]))
  have u1 : upd (upd (upd H dy (.own y)) y (.ins c.Turned dy [])) d (.xd [("found", .ref x)]) d = some (.xd [("found", .ref x)]) := upd_same
  generalize upd (upd (upd H dy (.own y)) y (.ins c.Turned dy [])) d (.xd [("found", .ref x)]) = H1 at s1 u1 ha0 ⊢
  have so1 := so.same s1
  obtain ⟨dx, fs, hx, l1, l2, l3⟩ := so1.ob
  refine ⟨_, rfl, c.NoForm, d, _, _, rfl, hcl0, hdi0, hnc0, exf, T.kf_hd_NoForm, T.kf_nf_NoForm, u1, rfl, _, _, _, _, _, rfl, rfl, T.tyS so1, (T.isS sd).1, _, rfl, iteT ?_⟩
  refine ⟨_, rfl, c.NoForm, d, _, _, rfl, hcl0, hdi0, hnc0, exf, T.kf_hd_NoForm, T.kf_nf_NoForm, u1, rfl, x, _, dx, _, _, _, rfl, hx, l2, MTS sd.ix sd.ix2, x, sd, rfl, rfl, so1, ok, fun r2 H2 hr2 ht2 s2 => ?_⟩
  refine ⟨_, rfl, x, _, dx, _, _, _, rfl, s2 _ _ hx, l2, MTS sd.ix sd.ix2, x, sd, rfl, rfl, so1.same s2, ok, fun r3 H3 hr3 ht3 s3 => ?_⟩
  obtain ⟨xs, ys, e, e1, e2, e3, e4⟩ := std_eq (K := K) (ht2.same s3) ht3
  refine ⟨r2, r3, xs, ys, e, rfl, rfl, e1, e2, e3, ?_⟩
  rw [if_neg (by decide), e4]
  exact q _ ((s1.trans s2).trans s3)
theorem fv_list : ∀ {xs : List V}, (∀ x ∈ xs, FV x) → ∃ ds : List PyData, xs.length = ds.length ∧ SmL ds 0 (101 * xs.length) ∧ ∀ (i : Nat) x d, xs[i]? = some x → ds[i]? = some d → FD x d
  | [], _ => ⟨[], rfl, SmL.nil, fun i x d e1 _ => by simp at e1⟩
  | x :: xs, h => by
    obtain ⟨d, fd, sd⟩ := (h x (List.mem_cons_self ..)).sm
    obtain ⟨ds, hl, hs, hi⟩ := fv_list (xs := xs) fun y z => h y (List.mem_cons_of_mem _ z)
    refine ⟨d :: ds, by simp [hl], ?_, fun i y e e1 e2 => ?_⟩
    · have z := SmL.cons sd hs
      exact ⟨z.sh, z.lv, z.dp, by have := z.wt; rw [List.length_cons]; omega, z.hd⟩
    · rcases i with _ | i
      · cases e1; cases e2; exact fd
      · exact hi i y e (by simpa using e1) (by simpa using e2)
theorem tlv_fv {kd : Nat} {e f s : Int} (fm : Fm kd e f s) : (∀ x ∈ tlv kd e f s, FV x) ∧ (tlv kd e f s).length ≤ 4 := by
  obtain ⟨kk, ea, eb, ez, fa, fb, sa, sb, s1⟩ := fm
  have I : ∀ {i : Int}, 0 ≤ i → i ≤ 4294967295 → FV (.int i) := fun h0 h1 => .inr (.inr (.inl ⟨_, rfl, by omega, by omega⟩))
  have W : ∀ kd, FV (.str (wdF kd)) := fun kd => .inr (.inr (.inr ⟨_, rfl, by unfold wdF; split <;> exact ⟨by decide +kernel, by decide +kernel⟩⟩))
  have E := I ea (by omega)
  have F := I fa (by omega)
  have S := I sa (by omega)
  rcases (by omega : kd = 0 ∨ kd = 1 ∨ kd = 2 ∨ kd = 3 ∨ kd = 4) with rfl | rfl | rfl | rfl | rfl
  · exact ⟨List.forall_mem_cons.mpr ⟨W 0, List.forall_mem_cons.mpr ⟨S, fun _ z => nomatch z⟩⟩, Nat.le_of_ble_eq_true rfl⟩
  · exact ⟨List.forall_mem_cons.mpr ⟨W 1, List.forall_mem_cons.mpr ⟨F, List.forall_mem_cons.mpr ⟨S, fun _ z => nomatch z⟩⟩⟩, Nat.le_of_ble_eq_true rfl⟩
  · exact ⟨List.forall_mem_cons.mpr ⟨W 2, List.forall_mem_cons.mpr ⟨E, List.forall_mem_cons.mpr ⟨F, List.forall_mem_cons.mpr ⟨S, fun _ z => nomatch z⟩⟩⟩⟩, Nat.le_of_ble_eq_true rfl⟩
  · exact ⟨List.forall_mem_cons.mpr ⟨W 3, List.forall_mem_cons.mpr ⟨F, List.forall_mem_cons.mpr ⟨S, fun _ z => nomatch z⟩⟩⟩, Nat.le_of_ble_eq_true rfl⟩
  · exact ⟨List.forall_mem_cons.mpr ⟨W 4, List.forall_mem_cons.mpr ⟨F, List.forall_mem_cons.mpr ⟨S, fun _ z => nomatch z⟩⟩⟩, Nat.le_of_ble_eq_true rfl⟩
theorem tlv_rd {kd : Nat} {e f s : Int} (fm : Fm kd e f s) : ∃ D, SmD D 1 404 ∧ ∀ (H : Hp) (r : Addr), H r = some (.tup (tlv kd e f s)) → RD H (.ref r) D := by
  obtain ⟨h, n⟩ := tlv_fv fm
  obtain ⟨ds, hl, hs, hi⟩ := fv_list h
  have z := hs.tup
  exact ⟨.tuple ds, ⟨z.sh, z.lv, z.dp, by have := z.wt; omega, z.hd⟩, fun H r hr => .tup hr hl fun i x d e1 e2 => (hi i x d e1 e2).rd⟩
theorem ok__law_no_turned {f : Addr} {fd : FuncData} (F : Fun K "_law_no_turned" "_law_no_turned" s__law_no_turned f fd) (T : Txt K mg c) (H__law_draw : Has P w K mg base 1 "_law_draw" ["_law_state", "_law_size"] spTake) (H__law_no_signed : HasR P w K mg base (fun _ => CX0) true 5 "_law_no_signed" ["_law_form"] (spNS c)) (C_Turned : CHasR P w K mg base (fun c => CX2c c P w base) true 3 c.Turned "Turned" ["self", "form"] (spITV c)) : FnOk P w K mg base CX0 6 f fd ["_law_state", "_law_told", "_law_cutting", "_law_bent"] (spNT c) := by
  refine F.ok sc__law_no_turned (fun vs H Q E h => ?_) (fun cdv A outer s H vs Q E hr h => ?_)
  · obtain ⟨p, r, kd, e, f, t, xc, xb, sc, sb, rfl, _⟩ := h
    rfl
  obtain ⟨p, r, kd, e, f, t, xc, xb, sc, sb, rfl, bx, ht, fm, oc, kc, ob, kb, q⟩ := h
  refine ⟨_, (slO (pss_consS (ps_setS (i := 4) sc__law_no_turned.nd rfl (Or.inl rfl) (pe_ixS ix_list (pe_lstS (pa_consS pe_non (pa_consS pe_bl (pa_consS pe_int (pa_consS pe_str (pa_consS (pv 1) (pa_consS (pe_lst (pa_cons (pv 1) pa_nil)) (pa_consS pe_dnewK pa_nilS)))))))) (pe_fn H__law_draw (hr.mono (by omega)) rfl (pa_cons (pv 0) (pa_cons pe_int pa_nil))) (fun _ _ => rfl)))
    (pss_cons (ps_tryR (j := 5) (fun pins0 E0 => (pss_one (ps_expr (pe_mkG C_Turned (room_any (hr.mono (by omega)) rfl rfl rfl) (fun _ => (hd_try (hd_calm hr.hd))) rfl patT (pa_cons (pv 4) pa_nil))))) sc__law_no_turned.nd rfl T.g_NoForm rfl rfl (fun a0 oe0 hc0 => (pss_cons (ps_if (pt_cmpR op_ne (pe_callB (call_reprE hr.gd (by have := hu64 hr; exact this)) rfl T.n_repr boot_repr (pa_cons (pe_xf (a := a0) (oe := oe0) (List.mem_cons_self ..) (pv 5) rfl) pa_nil)) (pe_callB (call_reprE hr.gd (by have := hu64 hr; exact this)) rfl T.n_repr boot_repr (pa_cons (pv 4) pa_nil)) (nomark _))
         (pss_one (ps_ret pe_bl))
         pss_nil)
       (pss_one (ps_ret (pe_and (pe_fnG H__law_no_signed (room_any (hr.mono (by omega)) rfl rfl rfl) (fun _ => (hd_caught (hc0 (hn_none hr.hd)) rfl rfl)) rfl pat0 (pa_cons (pv 2) pa_nil)) (pe_one (pe_fnG H__law_no_signed (room_any (hr.mono (by omega)) rfl rfl rfl) (fun _ => (hd_caught (hc0 (hn_none hr.hd)) rfl rfl)) rfl pat0 (pa_cons (pv 3) pa_nil)))))))))
    (pss_one (ps_ret pe_bl))))), ?_⟩
  have np : ∀ {G : Hp} {y : Addr}, Bx G p → G y = none → y ≠ p := fun {G y} b h e => by obtain ⟨z1, z2, hb⟩ := b; rw [e, hb] at h; cases h
  have rp : r ≠ p := fun z => by obtain ⟨z1, z2, hb⟩ := bx; rw [z, hb] at ht; cases ht
  have exf : ExF K c.NoForm := ⟨T.kf_ga_NoForm, T.kf_gn_NoForm, T.kf_gc_NoForm, T.kf_mo_NoForm, T.kf_mb_NoForm⟩
  have ex1 : PySem.W.exmOne K (.ref c.NoForm) (.ref c.NoForm) = some true := exm_of T.kf_if__NoForm T.kf_tf_NoForm T.kf_mf_NoForm T.kf_wb_NoForm
  refine ⟨_, rfl, _, rfl, (by show 1 ≤ sizeLine; decide), fun y1 h1 => fun y2 h2 => ⟨(by show 7 ≤ sizeLine; decide), fun y3 h3 => ?_⟩⟩
  generalize hLL : [V.non, .bl true, .int 3, .str "turned", .ref r, .ref y1, .ref y2] = LL at h3 ⊢
  have w1 := same_new h1 (.lst [.ref r])
  have w2 := same_new h2 (.dK [])
  have w3 := same_new h3 (.lst LL)
  have v1 := w3 _ _ (w2 _ _ (upd_same : upd H y1 (.lst [.ref r]) y1 = _))
  have v2 := w3 _ _ (upd_same : upd (upd H y1 (.lst [.ref r])) y2 (.dK []) y2 = _)
  have v3 : upd (upd (upd H y1 (.lst [.ref r])) y2 (.dK [])) y3 (.lst LL) y3 = _ := upd_same
  have ww := (w1.trans w2).trans w3
  have n1 := np bx h1
  have n2 := np (bx.same w1) h2
  have n3 := np (bx.same (w1.trans w2)) h3
  dsimp only
  generalize upd (upd (upd H y1 (.lst [.ref r])) y2 (.dK [])) y3 (.lst LL) = H1 at ww v1 v2 v3 ⊢
  have b1 := bx.same ww
  refine ⟨_, rfl, p, _, rfl, b1, by decide, by decide, fun d H2 d0 d1 b2 x2 => ?_⟩
  have x02 := (SameX.of (p := p) ww).trans x2
  have pick : ∃ v D, atI LL d = some v ∧ Th H2 v ∧ D.showable = true ∧ D.depth ≤ 20 ∧ D.shown.length ≤ sizeLine ∧ ∀ H', Same H2 H' → Rp H' v D := by
    subst hLL
    obtain ⟨D, sm, rd⟩ := tlv_rd fm
    have fl : ∀ {v : V}, FV v → ∃ D, Th H2 v ∧ D.showable = true ∧ D.depth ≤ 20 ∧ D.shown.length ≤ sizeLine ∧ ∀ H', Same H2 H' → Rp H' v D := fun fv => by
      obtain ⟨D, fd, sm⟩ := fv.sm
      exact ⟨D, fv.th, sm.sh, Nat.le_trans sm.dp (by decide), sh_fits sm.lv sm.wt (by decide), fun H' _ => .inl ⟨fd.rd, sm.hd⟩⟩
    rcases (by omega : d = 0 ∨ d = 1 ∨ d = 2 ∨ d = 3 ∨ d = 4 ∨ d = 5 ∨ d = 6) with rfl | rfl | rfl | rfl | rfl | rfl | rfl
    · obtain ⟨D, z⟩ := fl (v := .non) (.inl rfl)
      exact ⟨_, D, rfl, z⟩
    · obtain ⟨D, z⟩ := fl (v := .bl true) (.inr (.inl ⟨_, rfl⟩))
      exact ⟨_, D, rfl, z⟩
    · obtain ⟨D, z⟩ := fl (v := .int 3) (.inr (.inr (.inl ⟨_, rfl, by decide, by decide⟩)))
      exact ⟨_, D, rfl, z⟩
    · obtain ⟨D, z⟩ := fl (v := .str "turned") (.inr (.inr (.inr ⟨_, rfl, by decide +kernel, by decide +kernel⟩)))
      exact ⟨_, D, rfl, z⟩
    · have h2 := x02 _ _ rp ht
      exact ⟨_, D, rfl, .tup h2, sm.sh, Nat.le_trans sm.dp (by decide), sh_fits sm.lv sm.wt (by decide), fun H' s' => .inl ⟨rd H' r (s' _ _ h2), sm.hd⟩⟩
    · have h2 := x02 _ _ rp ht
      have hy := x2 _ _ n1 v1
      have sm2 : SmD (.list [D]) 2 405 := (SmL.cons sm (SmL.nil (m := 0))).list
      exact ⟨_, .list [D], rfl, .lst hy, sm2.sh, Nat.le_trans sm2.dp (by decide), sh_fits sm2.lv sm2.wt (by decide), fun H' s' => .inl ⟨.lst (s' _ _ hy) rfl (fun i y z e1 e2 => by
        rcases i with _ | i
        · cases e1; cases e2; exact rd H' r (s' _ _ h2)
        · simp at e1), sm2.hd⟩⟩
    · have hy := x2 _ _ n2 v2
      exact ⟨_, .dict [], rfl, .dct hy, by simp [PyData.showable, PyData.showableKv], by simp [PyData.depth, PyData.depthKv], by decide +kernel, fun H' s' => .inr (.inl ⟨_, _, _, rfl, s' _ _ hy, .nil, rfl⟩)⟩
  obtain ⟨v, D, ev, tv, dd1, dd2, dd3, rp'⟩ := pick
  refine ⟨y3, _, _, _, rfl, rfl, SqL.of (x2 _ _ n3 v3), ev, ?_⟩
  have oc2 := (oc.same ww).exc b1 x2
  have ob2 := (ob.same ww).exc b1 x2
  refine ⟨_, rfl, fun y dy hy hdy hne => ?_⟩
  have sm : Same H2 (upd (upd H2 dy (.own y)) y (.ins c.Turned dy [])) := made_same hy hdy (fun b o _ h => h)
  refine ⟨y, dy, v, rfl, upd_same, .inr ⟨.inl (tv.same sm), fun d hd => ⟨ex1, fun a0 o0 hcl0 hdi0 hnc0 ha0 => ?_⟩⟩⟩
  have s1 := sm.trans (same_new hd (.xd [("found", v)]))
  have u1 : upd (upd (upd H2 dy (.own y)) y (.ins c.Turned dy [])) d (.xd [("found", v)]) d = some (.xd [("found", v)]) := upd_same
  generalize upd (upd (upd H2 dy (.own y)) y (.ins c.Turned dy [])) d (.xd [("found", v)]) = H3 at s1 u1 ha0 ⊢
  refine ⟨_, rfl, c.NoForm, d, _, _, rfl, hcl0, hdi0, hnc0, exf, T.kf_hd_NoForm, T.kf_nf_NoForm, u1, rfl, _, D, rfl, rp' _ s1, dd1, dd2, dd3, ?_⟩
  refine ⟨_, rfl, _, D, rfl, rp' _ s1, dd1, dd2, dd3, rfl, _, rfl, iteNS rfl ?_⟩
  refine ⟨_, rfl, xc, sc, rfl, oc2.same s1, kc, fun H4 s4 => ⟨_, rfl, iteT ?_⟩⟩
  exact ⟨_, rfl, xb, sb, rfl, ob2.same (s1.trans s4), kb, fun H5 s5 => q _ (x02.trans (SameX.of ((s1.trans s4).trans s5)))⟩
theorem ok__law_stands {f : Addr} {fd : FuncData} (F : Fun K "_law_stands" "_law_stands" s__law_stands f fd) (T : Txt K mg c)  : FnOk P w K mg base CX0 1 f fd ["_law_cutting", "_law_bent"] (spStd c) := by
  refine F.ok sc__law_stands (fun vs H Q E h => ?_) (fun cdv A outer s H vs Q E hr h => ?_)
  · obtain ⟨xc, xb, f, k, kd, e, f', t, rfl, _⟩ := h
    rfl
  obtain ⟨xc, xb, f, k, kd, e, f', t, rfl, oc, ob, q⟩ := h
  refine ⟨_, (pss_cons (ps_if (PW.pt (pw_or (pt_not (pt_val (pe_callB call_isinst rfl T.n_isinstance boot_isinstance (pa_cons (pv 0) (pa_cons (pe_cls rfl T.g_SignedForm) pa_nil))))) (pw_or1 (pt_not (pt_val (pe_callB call_isinst rfl T.n_isinstance boot_isinstance (pa_cons (pv 1) (pa_cons (pe_cls rfl T.g_SignedForm) pa_nil))))))))
      (pss_one (ps_ret pe_bl))
      pss_nil)
    (pss_cons (ps_if (PW.pt (pw_or (pt_val (pe_callB call_isinst rfl T.n_isinstance boot_isinstance (pa_cons (pv 0) (pa_cons (pe_cls rfl T.g_Form) pa_nil)))) (pw_or1 (pt_val (pe_callB call_isinst rfl T.n_isinstance boot_isinstance (pa_cons (pv 1) (pa_cons (pe_cls rfl T.g_Form) pa_nil)))))))
      (pss_one (ps_ret pe_bl))
      pss_nil)
    (pss_one (ps_ret (pe_and (pe_callB call_isinst rfl T.n_isinstance boot_isinstance (pa_cons (pv 0) (pa_cons (pe_cls rfl T.g_Cutting) pa_nil))) (pe_and (pe_not (pe_callB call_isinst rfl T.n_isinstance boot_isinstance (pa_cons (pv 0) (pa_cons (pe_cls rfl T.g_Turned) pa_nil)))) (pe_one (pe_not (pe_callB call_isinst rfl T.n_isinstance boot_isinstance (pa_cons (pv 1) (pa_cons (pe_cls rfl T.g_Cutting) pa_nil))))))))))), ?_⟩
  have tc := T.tyS oc
  have tb := T.tyS ob
  obtain ⟨c1, c2, c3, c4⟩ := T.isS (.cut f k)
  obtain ⟨b1, b2, b3, b4⟩ := T.isS (.turn kd e f' t)
  refine ⟨_, rfl, _, _, _, _, _, rfl, rfl, tc, c1, _, rfl, iteF ?_⟩
  refine ⟨_, rfl, _, _, _, _, _, rfl, rfl, tb, b1, _, rfl, iteF ?_⟩
  refine ⟨_, rfl, _, _, _, _, _, rfl, rfl, tc, c2, _, rfl, iteF ?_⟩
  refine ⟨_, rfl, _, _, _, _, _, rfl, rfl, tb, b2, _, rfl, iteF ?_⟩
  refine ⟨_, rfl, _, _, _, _, _, rfl, rfl, tc, c3, _, rfl, iteT ?_⟩
  refine ⟨_, rfl, _, _, _, _, _, rfl, rfl, tc, c4, _, rfl, _, rfl, iteT ?_⟩
  exact ⟨_, rfl, _, _, _, _, _, rfl, rfl, tb, b3, _, rfl, q⟩
theorem wds {G : Hp} (d : Int) (d0 : 0 ≤ d) (d1 : d < 7) : ∃ v, atI [V.int 3, .int 33, .non, .str "8", .bl true, .int (0 - 8), .int (10 ^ (30 : Int).toNat)] d = some v ∧ btw v 4 32 = false ∧ FV v := by
  rcases (by omega : d = 0 ∨ d = 1 ∨ d = 2 ∨ d = 3 ∨ d = 4 ∨ d = 5 ∨ d = 6) with rfl | rfl | rfl | rfl | rfl | rfl | rfl
  · exact ⟨_, rfl, rfl, .inr (.inr (.inl ⟨_, rfl, by decide, by decide⟩))⟩
  · exact ⟨_, rfl, rfl, .inr (.inr (.inl ⟨_, rfl, by decide, by decide⟩))⟩
  · exact ⟨_, rfl, rfl, .inl rfl⟩
  · exact ⟨_, rfl, rfl, .inr (.inr (.inr ⟨_, rfl, by decide +kernel, by decide +kernel⟩))⟩
  · exact ⟨_, rfl, rfl, .inr (.inl ⟨_, rfl⟩)⟩
  · exact ⟨_, rfl, rfl, .inr (.inr (.inl ⟨_, rfl, by decide, by decide⟩))⟩
  · exact ⟨_, rfl, rfl, .inr (.inr (.inl ⟨_, rfl, by decide, by decide⟩))⟩
theorem ok__law_case {f : Addr} {fd : FuncData} (F : Fun K "_law_case" "_law_case" s__law_case f fd) (T : Txt K mg c) (H__law_any : Has P w K mg base 3 "_law_any" ["_law_state"] spAny31) (H__law_end : Has P w K mg base 2 "_law_end" ["_law_state", "_law_low", "_law_last"] spEnd) (H__law_make : HasR P w K mg base (fun c => CX2c c P w base) true 6 "_law_make" ["_law_told"] (spMakeV c)) (H__law_count : Has P w K mg base 2 "_law_count" ["_law_state", "_law_width"] spCnt) (H__law_draw : Has P w K mg base 1 "_law_draw" ["_law_state", "_law_size"] spTake) (H__law_no_cutting : Has P w K mg base 6 "_law_no_cutting" ["_law_state"] (spNC c)) (H__law_no_turned : Has P w K mg base 6 "_law_no_turned" ["_law_state", "_law_told", "_law_cutting", "_law_bent"] (spNT c)) (H__law_cutting_right : Has P w K mg base 7 "_law_cutting_right" ["_law_cutting", "_law_factor", "_law_shift", "_law_width", "_law_x"] (spCR c)) (H__law_stands : Has P w K mg base 1 "_law_stands" ["_law_cutting", "_law_bent"] (spStd c)) (H__law_no_width : Has P w K mg base 7 "_law_no_width" ["_law_form", "_law_width"] (spNWS c)) (H__law_turned_right : Has P w K mg base 7 "_law_turned_right" ["_law_bent", "_law_told", "_law_width", "_law_x"] (spTR c)) (C_Cutting : CHasR P w K mg base (fun c => CX2c c P w base) true 4 c.Cutting "Cutting" ["self", "factor", "shift"] (spICV c)) (C_Turned : CHasR P w K mg base (fun c => CX2c c P w base) true 3 c.Turned "Turned" ["self", "form"] (spITV c)) (MTS : ∀ i, i < 2 → MHasR P w K mg base (fun _ => CX0) false 3 (sOf c i) "told" ["self"] (spST c i)) (MWS : ∀ i, i < 2 → MHasR P w K mg base (fun _ => CX0) false 1 (sOf c i) "word" ["self"] (spWdS i)) (MT : ∀ i, i < 5 → MHasR P w K mg base (fun _ => CX0) false 3 (fOf c i) "told" ["self"] (spTV c i)) : FnOk P w K mg base CX0 8 f fd ["_law_state"] (spCase21 c) := by
  refine F.ok sc__law_case (fun vs H Q E h => ?_) (fun cdv A outer s H vs Q E hr h => ?_)
  · obtain ⟨p, rfl, _⟩ := h
    rfl
  obtain ⟨p, rfl, bx, q⟩ := h
  refine ⟨_, (pss_cons (ps_set (i := 1) sc__law_case.nd rfl (Or.inl rfl) (pe_fn H__law_any (hr.mono (by omega)) rfl (pa_cons (pv 0) pa_nil)))
    (pss_cons (ps_set (i := 2) sc__law_case.nd rfl (Or.inl rfl) (pe_fn H__law_end (hr.mono (by omega)) rfl (pa_cons (pv 0) (pa_cons pe_int (pa_cons pe_int pa_nil)))))
    (pss_cons (ps_set (i := 3) sc__law_case.nd rfl (Or.inl rfl) (pe_fn H__law_end (hr.mono (by omega)) rfl (pa_cons (pv 0) (pa_cons pe_int (pa_cons pe_int pa_nil)))))
    (pss_cons (ps_set (i := 4) sc__law_case.nd rfl (Or.inl rfl) (pe_mkG C_Cutting (room_any (hr.mono (by omega)) rfl rfl rfl) (fun _ => (hd_calm hr.hd)) rfl patN (pa_cons (pv 2) (pa_cons (pv 3) pa_nil))))
    (pss_cons (ps_set (i := 5) sc__law_case.nd rfl (Or.inl rfl) (pe_mkG C_Cutting (room_any (hr.mono (by omega)) rfl rfl rfl) (fun _ => (hd_calm hr.hd)) rfl patN (pa_cons (pv 3) (pa_cons (pe_op op_sub pe_int (pv 3)) pa_nil))))
    (pss_cons (ps_set (i := 6) sc__law_case.nd rfl (Or.inl rfl) (pe_mkG C_Turned (room_any (hr.mono (by omega)) rfl rfl rfl) (fun _ => (hd_calm hr.hd)) rfl patN (pa_cons (pe_fnG H__law_make (room_any (hr.mono (by omega)) rfl rfl rfl) (fun _ => (hd_calm hr.hd)) rfl patN (pa_cons (pv 1) pa_nil)) pa_nil)))
    (pss_cons (ps_for PassesOwn.never rfl (pi_range1 rfl T.n_range (pa_cons pe_int pa_nil)) (pg_name (i := 7) sc__law_case.nd rfl (Or.inl rfl))
      (pss_cons (ps_set (i := 8) sc__law_case.nd rfl (Or.inl rfl) (pe_op op_add pe_int (pe_fn H__law_draw (hr.mono (by omega)) rfl (pa_cons (pv 0) (pa_cons pe_int pa_nil)))))
      (pss_cons (ps_set (i := 9) sc__law_case.nd rfl (Or.inl rfl) (pe_fn H__law_count (hr.mono (by omega)) rfl (pa_cons (pv 0) (pa_cons (pv 8) pa_nil))))
      (pss_cons (ps_if (PW.pt (pw_or (pt_not (pt_val (pe_fn H__law_turned_right (hr.mono (by omega)) rfl (pa_cons (pv 6) (pa_cons (pv 1) (pa_cons (pv 8) (pa_cons (pv 9) pa_nil))))))) (pw_or1 (pt_not (pt_val (pe_fn H__law_cutting_right (hr.mono (by omega)) rfl (pa_cons (pv 4) (pa_cons (pv 2) (pa_cons (pv 3) (pa_cons (pv 8) (pa_cons (pv 9) pa_nil)))))))))))
        (pss_one (ps_ret pe_bl))
        pss_nil)
      (pss_one (ps_if (pt_not (pt_val (pe_fn H__law_cutting_right (hr.mono (by omega)) rfl (pa_cons (pv 5) (pa_cons (pv 3) (pa_cons (pe_op op_sub pe_int (pv 3)) (pa_cons (pv 8) (pa_cons (pv 9) pa_nil))))))))
        (pss_one (ps_ret pe_bl))
        pss_nil))))))
    (pss_cons (ps_if (PW.pt (pw_or (pt_cmpR (op_neTD (d := 1) (hu2 hr)) (pe_methG0 (CX := (fun _ => CX0)) (r := false) (k := 3) (pv 6) (room_any (hr.mono (by omega)) rfl rfl rfl) (fun z => nomatch z) pat0) (pe_tup (pa_cons pe_str (pa_cons (pv 1) pa_nil))) (nomark _)) (pw_or (pt_cmpR op_ne (pe_methG0 (CX := (fun _ => CX0)) (r := false) (k := 1) (pv 6) (room_any (hr.mono (by omega)) rfl rfl rfl) (fun z => nomatch z) pat0) pe_str (nomark _)) (pw_or1 (pt_cmpR (op_neT (Nat.lt_of_succ_lt (hu_of hr))) (pe_methG0 (CX := (fun _ => CX0)) (r := false) (k := 3) (pe_fld (pv 6) rfl) (room_any (hr.mono (by omega)) rfl rfl rfl) (fun z => nomatch z) pat0) (pv 1) (nomark _))))))
      (pss_one (ps_ret pe_bl))
      pss_nil)
    (pss_cons (ps_if (PW.pt (pw_or (pt_cmpR (op_neT (Nat.lt_of_succ_lt (hu_of hr))) (pe_methG0 (CX := (fun _ => CX0)) (r := false) (k := 3) (pv 4) (room_any (hr.mono (by omega)) rfl rfl rfl) (fun z => nomatch z) pat0) (pe_tup (pa_cons pe_str (pa_cons (pv 2) (pa_cons (pv 3) pa_nil)))) (nomark _)) (pw_or1 (pt_cmpR op_ne (pe_methG0 (CX := (fun _ => CX0)) (r := false) (k := 1) (pv 4) (room_any (hr.mono (by omega)) rfl rfl rfl) (fun z => nomatch z) pat0) pe_str (nomark _)))))
      (pss_one (ps_ret pe_bl))
      pss_nil)
    (pss_consT (ps_if (PW.pt (pw_or (pt_cmpR op_ne (pe_fld (pv 4) rfl) (pv 2) (nomark _)) (pw_or (pt_cmpR op_ne (pe_fld (pv 4) rfl) (pv 3) (nomark _)) (pw_or1 (pt_not (pt_val (pe_fn H__law_stands (hr.mono (by omega)) rfl (pa_cons (pv 4) (pa_cons (pv 6) pa_nil)))))))))
      (pss_one (ps_ret pe_bl))
      pss_nil)
    (pss_consS (ps_setS (i := 8) sc__law_case.nd rfl (Or.inl rfl) (pe_ixS ix_list (pe_lstS (pa_consS pe_int (pa_consS pe_int (pa_consS pe_non (pa_consS pe_str (pa_consS pe_bl (pa_consS (pe_op op_sub pe_int pe_int) (pa_consS (pe_op op_pow pe_int pe_int) pa_nilS)))))))) (pe_fn H__law_draw (hr.mono (by omega)) rfl (pa_cons (pv 0) (pa_cons pe_int pa_nil))) (fun _ _ => rfl)))
    (pss_cons (ps_if (PW.pt (pw_or (pt_not (pt_val (pe_fn H__law_no_width (hr.mono (by omega)) rfl (pa_cons (pv 6) (pa_cons (pv 8) pa_nil))))) (pw_or1 (pt_not (pt_val (pe_fn H__law_no_width (hr.mono (by omega)) rfl (pa_cons (pv 4) (pa_cons (pv 8) pa_nil))))))))
      (pss_one (ps_ret pe_bl))
      pss_nil)
    (pss_one (ps_ret (pe_and (pe_fn H__law_no_cutting (hr.mono (by omega)) rfl (pa_cons (pv 0) pa_nil)) (pe_one (pe_fn H__law_no_turned (hr.mono (by omega)) rfl (pa_cons (pv 0) (pa_cons (pv 1) (pa_cons (pv 4) (pa_cons (pv 6) pa_nil))))))))))))))))))))), ?_⟩
  have np : ∀ {G : Hp} {y : Addr}, Bx G p → G y = none → y ≠ p := fun {G y} b h e => by obtain ⟨z1, z2, hb⟩ := b; rw [e, hb] at h; cases h
  refine ⟨_, rfl, p, rfl, bx, fun r kd e f t H1 hr0 ht1 fm b1 x1 => ?_⟩
  have rp : r ≠ p := np bx hr0
  refine ⟨_, rfl, p, _, _, rfl, b1, by decide, by decide, by decide, fun fc H2 f0 f1 b2 x2 => ?_⟩
  refine ⟨_, rfl, p, _, _, rfl, b2, by decide, by decide, by decide, fun sh H3 s0 s1 b3 x3 => ?_⟩
  have ht3 := x3 _ _ rp (x2 _ _ rp ht1)
  have x03 := (x1.trans x2).trans x3
  refine ⟨_, rfl, _, rfl, fun xc dc hxc hdc hnc => ⟨xc, dc, .int fc, .int sh, rfl, upd_same, .int _, .int _, fun _ H4 s4 cv => ⟨rfl, ?_⟩, fun z => by rw [btw_of f0 f1, btw_of s0 s1] at z; cases z⟩⟩
  have m4 := made_same hxc hdc s4
  have oc : SFO c H4 xc (.cut fc sh) := cv
  have kc : SD.ok (.cut fc sh) := ⟨f0, f1, s0, s1⟩
  refine ⟨_, rfl, _, rfl, _, _, rfl, rfl, fun xo dO hxo hdo hno => ⟨xo, dO, .int sh, .int (64 - sh), rfl, upd_same, .int _, .int _, fun _ H5 s5 cv5 => ⟨rfl, ?_⟩, fun z => by rw [btw_of s0 (by omega), btw_of (by omega) (by omega)] at z; cases z⟩⟩
  have m5 := made_same hxo hdo s5
  have oo : SFO c H5 xo (.cut sh (64 - sh)) := cv5
  have ko : SD.ok (.cut sh (64 - sh)) := ⟨s0, by omega, by omega, by omega⟩
  have m35 := m4.trans m5
  refine ⟨_, rfl, r, kd, .int e, .int f, .int t, rfl, fm.k, (by rw [tlV_int fm.k]; exact m35 _ _ ht3), .int _, .int _, .int _, fun _ y H6 hy fo s6 => ?_, fun z => by rw [fm.okV] at z; cases z⟩
  obtain ⟨dy, fo⟩ := fo
  rw [flV_int fm.k] at fo
  refine fun xb db hxb hdb hnb => ?_
  have yx : y ≠ xb := fun z => by rw [z, hxb] at fo; cases fo
  have yd : y ≠ db := fun z => by rw [z, hdb] at fo; cases fo
  refine ⟨xb, db, .ref y, rfl, upd_same, .inl ⟨y, kd, e, f, t, rfl, ⟨dy, by rw [upd_ne yx, upd_ne yd]; exact fo⟩, fm.k, yx, fun H7 s7 ob => ⟨rfl, ?_⟩⟩⟩
  have m7 := made_same hxb hdb s7
  have m67 := s6.trans m7
  have m37 := m35.trans m67
  have kb : SD.ok (.turn kd e f t) := fm
  have oc7 := (oc.same m5).same m67
  have oo7 := oo.same m67
  have ht7 := m37 _ _ ht3
  have b7 := b3.same m37
  have x07 := x03.trans (SameX.of (p := p) m37)
  clear x1 x2 x3 s4 s5 s6 s7 m4 m5 m35 m67 m7 oc oo cv cv5
  refine ⟨6, rfl, by decide, by decide, for_range (n := 6) (fun i σ GZ => ∃ z7 z8 z9, σ = [some (.ref p), some (.ref r), some (.int fc), some (.int sh), some (.ref xc), some (.ref xo), some (.ref xb), z7, z8, z9] ∧ Bx GZ p ∧ SameX p H7 GZ) ⟨_, _, _, rfl, b7, fun b o _ h => h⟩ ?_ ?_⟩
  · rintro i σ GZ hi ⟨z7, z8, z9, rfl, bZ, xZ⟩
    refine ⟨_, rfl, p, _, rfl, bZ, by decide, by decide, fun wv GA w0 w1 bA xA => ⟨_, _, rfl, rfl, ?_⟩⟩
    refine ⟨_, rfl, _, rfl, p, _, rfl, bA, by omega, by omega, fun n GB n0 n1 bB xB => ?_⟩
    have xx := (xZ.trans xA).trans xB
    refine ⟨_, rfl, _, rfl, _, rfl, _, rfl, xb, r, kd, e, f, t, _, n, rfl, ob.exc b7 xx, xx _ _ rp ht7, fm, by omega, by omega, n0, n1, fun GC sC => ⟨_, rfl, iteF ?_⟩⟩
    have xC := xx.trans (SameX.of (p := p) sC)
    refine ⟨_, rfl, _, rfl, _, rfl, _, rfl, _, rfl, xc, _, _, _, n, rfl, oc7.exc b7 xC, kc, by omega, by omega, n0, n1, fun GD sD => ⟨_, rfl, iteF ?_⟩⟩
    have xD := xC.trans (SameX.of (p := p) sD)
    refine ⟨_, rfl, _, rfl, _, rfl, _, _, rfl, rfl, _, rfl, _, rfl, xo, _, _, _, n, rfl, oo7.exc b7 xD, ko, by omega, by omega, n0, n1, fun GE sE => ⟨_, rfl, iteF ?_⟩⟩
    exact ⟨_, _, _, rfl, ((bB.same sC).same sD).same sE, xD.trans (SameX.of (p := p) sE)⟩
  · rintro σ G ⟨z7, z8, z9, rfl, bZ, xZ⟩
    have oc8 := oc7.exc b7 xZ
    have ob8 := ob.exc b7 xZ
    have ht8 := xZ _ _ rp ht7
    obtain ⟨db, fb, hb, lb1, lb2, lb3⟩ := ob8.ob
    obtain ⟨dc, fc', hc, lc1, lc2, lc3⟩ := oc8.ob
    refine ⟨_, rfl, xb, _, db, _, _, _, rfl, hb, lb2, MTS 1 (by decide), xb, _, rfl, rfl, ob8, kb, fun u G1 hu hu1 g1 => ?_⟩
    refine ⟨_, rfl, (by show 2 ≤ sizeLine; decide), fun u2 hu2 => ?_⟩
    have g2 := g1.trans (same_new hu2 (.tup [.str "turned", .ref r]))
    have st2 : STd (upd G1 u2 (.tup [.str "turned", .ref r])) u2 (.turn kd e f t) := ⟨r, upd_same, g2 _ _ ht8⟩
    have st1 := hu1.same (same_new hu2 (.tup [.str "turned", .ref r]))
    dsimp only
    generalize upd G1 u2 (.tup [.str "turned", .ref r]) = G2 at g2 st1 st2 ⊢
    obtain ⟨xs, ys, ee, e1, e2, e3, e4⟩ := std_eq (K := K) st1 st2
    refine ⟨u, u2, xs, ys, ee, rfl, rfl, e1, e2, e3, ?_⟩
    rw [if_pos rfl, e4]
    refine ⟨_, rfl, iteF ?_⟩
    refine ⟨_, rfl, xb, _, db, _, _, _, rfl, g2 _ _ hb, lb3, MWS 1 (by decide), xb, rfl, rfl, _, rfl, iteNS rfl ?_⟩
    obtain ⟨dxb, yb, hyb, dyb, gyb⟩ := ob8.same g2
    refine ⟨_, rfl, xb, _, dxb, _, _, rfl, hyb, T.cl_Turned, T.na_Turned_form, rfl, yb, _, dyb, _, _, _, rfl, gyb, fl_told, MT kd fm.k, yb, .int e, .int f, .int t, rfl, ⟨dyb, by rw [flV_int fm.k]; exact gyb⟩, fun u3 G3 hu3 ht3' g3 => ?_⟩
    rw [tlV_int fm.k] at ht3'
    obtain ⟨eq1, eq2⟩ := eqTl kd e f t
    have g03 := g2.trans g3
    refine ⟨_, rfl, u3, r, _, _, rfl, rfl, SqT.of ht3', SqT.of (g03 _ _ ht8), eq2, eq2, _, rfl, ?_⟩
    rw [eq1]
    refine iteF ?_
    refine ⟨_, rfl, xc, _, dc, _, _, _, rfl, g03 _ _ hc, lc2, MTS 0 (by decide), xc, _, rfl, rfl, oc8.same g03, kc, fun u4 G4 hu4 ht4 g4 => ?_⟩
    have ht4' : G4 u4 = some (.tup [.str "cutting", .int fc, .int sh]) := ht4
    refine ⟨_, rfl, _, rfl, (by show 3 ≤ sizeLine; decide), fun u5 hu5 => ?_⟩
    have g5 := same_new hu5 (.tup [.str "cutting", .int fc, .int sh])
    refine ⟨u4, u5, _, _, rfl, rfl, SqT.of (g5 _ _ ht4'), SqT.of upd_same, rfl, rfl, _, rfl, ?_⟩
    rw [show eqVs [V.str "cutting", .int fc, .int sh] [V.str "cutting", .int fc, .int sh] = true by simp [eqVs, List.range, List.range.loop, eqV]]
    refine iteF ?_
    have g05 := (g03.trans g4).trans g5
    dsimp only
    generalize upd G4 u5 (.tup [.str "cutting", .int fc, .int sh]) = G5 at g05 ⊢
    refine ⟨_, rfl, xc, _, dc, _, _, _, rfl, g05 _ _ hc, lc3, MWS 0 (by decide), xc, rfl, rfl, _, rfl, iteNS rfl ?_⟩
    obtain ⟨dxc, hxc5⟩ := oc8.same g05
    refine ⟨_, rfl, xc, _, dxc, _, _, rfl, hxc5, T.cl_Cutting, T.na_Cutting_factor, rfl, _, rfl, rfl, _, rfl, iteNS rfl ?_⟩
    refine ⟨_, rfl, xc, _, dxc, _, _, rfl, hxc5, T.cl_Cutting, T.na_Cutting_shift, rfl, _, rfl, rfl, _, rfl, iteNS rfl ?_⟩
    refine ⟨_, rfl, _, rfl, xc, xb, _, _, _, _, _, _, rfl, oc8.same g05, ob8.same g05, _, rfl, iteF ?_⟩
    refine ⟨_, _, rfl, rfl, _, _, rfl, rfl, ⟨by decide, by decide, by decide⟩, (by show 7 ≤ sizeLine; decide), fun l hl => ?_⟩
    have b5 := bZ.same g05
    have x5 := xZ.trans (SameX.of (p := p) g05)
    have sl := same_new hl (.lst [V.int 3, .int 33, .non, .str "8", .bl true, .int (0 - 8), .int (10 ^ (30 : Int).toNat)])
    have ul : upd G5 l (.lst [V.int 3, .int 33, .non, .str "8", .bl true, .int (0 - 8), .int (10 ^ (30 : Int).toNat)]) l = _ := upd_same
    have lp := np b5 hl
    refine ⟨_, rfl, p, _, rfl, b5.same sl, by decide, by decide, fun d GB d0 d1 bB xB => ?_⟩
    obtain ⟨v, ev, bv, fv⟩ := wds (G := GB) d d0 d1
    have xB' := (x5.trans (SameX.of (p := p) sl)).trans xB
    refine ⟨l, _, _, _, rfl, rfl, SqL.of (xB _ _ lp ul), ev, ?_⟩
    refine ⟨_, rfl, _, rfl, xb, v, _, rfl, ob.exc b7 xB', kb, bv, fv, fun GC sC => ⟨_, rfl, iteF ?_⟩⟩
    have xC := xB'.trans (SameX.of (p := p) sC)
    refine ⟨_, rfl, _, rfl, xc, v, _, rfl, oc7.exc b7 xC, kc, bv, fv, fun GD sD => ⟨_, rfl, iteF ?_⟩⟩
    have xD := xC.trans (SameX.of (p := p) sD)
    refine ⟨_, rfl, p, rfl, (bB.same sC).same sD, fun GE bE xE => ⟨_, rfl, iteT ?_⟩⟩
    have xE' := xD.trans xE
    exact ⟨_, rfl, _, rfl, _, rfl, _, rfl, p, r, kd, e, f, t, xc, xb, _, _, rfl, bE, xE' _ _ rp ht7, fm, oc7.exc b7 xE', kc, ob.exc b7 xE', kb, fun GF xF => q _ (x07.trans (xE'.trans xF))⟩
theorem ok_law {f : Addr} {fd : FuncData} (F : Fun K "law" "law" s_law f fd) (T : Txt K mg c) (H__law_case : Has P w K mg base 8 "_law_case" ["_law_state"] (spCase21 c)) (H__law_start : Has P w K mg base 1 "_law_start" ["_law_script", "_law_k"] (spStart K)) : FnOk P w K mg base CX0 9 f fd ["_law_script"] (spLaw K) := by
  refine F.ok sc_law (fun vs H Q E h => ?_) (fun cdv A outer s H vs Q E hr h => ?_)
  · obtain ⟨a, ns, rfl, _⟩ := h
    rfl
  obtain ⟨a, ns, rfl, hS, hlen, q⟩ := h
  have hl : (ns.map V.int).length = ns.length := List.length_map _
  refine ⟨_, (pss_cons (ps_for PassesOwn.never rfl (pi_range1 rfl T.n_range (pa_cons (pe_callB (call_max2 rfl) rfl T.n_max boot_max (pa_cons pe_int (pa_cons (pe_callB (call_min2 rfl) rfl T.n_min boot_min (pa_cons (pe_callB call_len_seq rfl T.n_len boot_len (pa_cons (pv 0) pa_nil)) (pa_cons pe_int pa_nil))) pa_nil))) pa_nil)) (pg_name (i := 1) sc_law.nd rfl (Or.inl rfl))
      (pss_one (ps_if (pt_not (pt_val (pe_fn H__law_case (hr.mono (by omega)) rfl (pa_cons (pe_fn H__law_start (hr.mono (by omega)) rfl (pa_cons (pv 0) (pa_cons (pv 1) pa_nil))) pa_nil))))
        (pss_one (ps_ret pe_bl))
        pss_nil)))
    (pss_one (ps_ret pe_bl))), ?_⟩
  refine ⟨_, rfl, a, _, rfl, .inl hS, _, _, rfl, _, _, rfl, _, rfl, (by rw [hl]; split <;> (try split) <;> omega), (by rw [hl]; split <;> (try split) <;> omega), for_range (fun i σ H2 => ∃ x1 : Option V, σ = [some (.ref a), x1] ∧ SqL K H2 a (ns.map V.int)) ⟨_, rfl, hS⟩ ?_ ?_⟩
  · rintro i σ H2 hi ⟨x1, rfl, hS2⟩
    have hi' : (i : Int) < 100 := by
      rw [hl] at hi
      revert hi
      split <;> (try split) <;> omega
    refine ⟨_, rfl, _, rfl, a, ns, _, rfl, hS2, by omega, by omega, fun p H3 hp b3 s3 => ?_⟩
    exact ⟨p, rfl, b3, fun H4 y4 => ⟨_, rfl, iteF ⟨_, rfl, (Same_thenX hp s3 y4).seq hS2⟩⟩⟩
  · rintro σ H2 ⟨x1, rfl, s2⟩
    exact q H2
end
theorem all_mk {l : PySem.W.OpenLaw} {w : World} {K : PySem.W.Frag} {h : Heap} {mg : Str → Option Value} {fa f1 f2 f3 f4 f5 f6 f7 f8 f9 f10 f11 f12 f13 f14 f15 f16 f17 f18 f19 f20 f21 f22 f23 f24 f25 f26 f27 f28 f29 f30 f31 f32 f33 f34 f35 f36 f37 f38 f39 f40 f41 f42 f43 f44 f45 f46 f47 f48 f49 f50 f51 f52 f53 f54 f55 c_Form c_Shifted c_Scaled c_Early c_More c_Wide c_SignedForm c_Cutting c_Turned c_NoWidth c_NoForm c_WiseError : Addr} (X : K.In h) (G : h.Ns mainGlobals mg) (hfa : mg "law" = some (.ref fa))
    {od1 an1 od2 an2 od3 an3 od4 an4 od5 an5 od6 an6 od7 an7 od8 an8 od9 an9 od10 an10 od11 an11 od12 an12 od13 an13 od14 an14 od15 an15 od16 an16 od17 an17 od18 an18 od19 an19 od20 an20 od21 an21 od22 an22 od23 an23 od24 an24 od25 an25 od26 an26 od27 an27 od28 an28 od29 an29 od30 an30 od31 an31 od32 an32 od33 an33 od34 an34 od35 an35 od36 an36 od37 an37 od38 an38 od39 an39 od40 an40 od41 an41 od42 an42 od43 an43 od44 an44 od45 an45 od46 an46 od47 an47 od48 an48 od49 an49 od50 an50 od51 an51 od52 an52 od53 an53 od54 an54 od55 an55 : Option Addr} {sl1 sl2 sl3 sl4 sl5 sl6 sl7 sl8 sl9 sl10 sl11 sl12 sl13 sl14 sl15 sl16 sl17 sl18 sl19 sl20 sl21 sl22 sl23 sl24 sl25 sl26 sl27 sl28 sl29 sl30 sl31 sl32 sl33 sl34 sl35 sl36 sl37 sl38 sl39 sl40 sl41 sl42 sl43 sl44 sl45 sl46 sl47 sl48 sl49 sl50 sl51 sl52 sl53 sl54 sl55 : Array (Option Value)} {oc1 kV1 dc1 pm1 cd1 ct1 oc2 kV2 dc2 pm2 cd2 ct2 oc3 kV3 dc3 pm3 cd3 ct3 oc4 kV4 dc4 pm4 cd4 ct4 oc5 kV5 dc5 pm5 cd5 ct5 oc6 kV6 dc6 pm6 cd6 ct6 oc7 kV7 dc7 pm7 cd7 ct7 oc8 kV8 dc8 pm8 cd8 ct8 oc9 kV9 dc9 pm9 cd9 ct9 oc10 kV10 dc10 pm10 cd10 ct10 oc11 kV11 dc11 pm11 cd11 ct11 oc12 kV12 dc12 pm12 cd12 ct12 oc13 kV13 dc13 pm13 cd13 ct13 oc14 kV14 dc14 pm14 cd14 ct14 oc15 kV15 dc15 pm15 cd15 ct15 oc16 kV16 dc16 pm16 cd16 ct16 oc17 kV17 dc17 pm17 cd17 ct17 oc18 kV18 dc18 pm18 cd18 ct18 oc19 kV19 dc19 pm19 cd19 ct19 oc20 kV20 dc20 pm20 cd20 ct20 oc21 kV21 dc21 pm21 cd21 ct21 oc22 kV22 dc22 pm22 cd22 ct22 oc23 kV23 dc23 pm23 cd23 ct23 oc24 kV24 dc24 pm24 cd24 ct24 oc25 kV25 dc25 pm25 cd25 ct25 oc26 kV26 dc26 pm26 cd26 ct26 oc27 kV27 dc27 pm27 cd27 ct27 oc28 kV28 dc28 pm28 cd28 ct28 oc29 kV29 dc29 pm29 cd29 ct29 oc30 kV30 dc30 pm30 cd30 ct30 oc31 kV31 dc31 pm31 cd31 ct31 oc32 kV32 dc32 pm32 cd32 ct32 oc33 kV33 dc33 pm33 cd33 ct33 oc34 kV34 dc34 pm34 cd34 ct34 oc35 kV35 dc35 pm35 cd35 ct35 oc36 kV36 dc36 pm36 cd36 ct36 oc37 kV37 dc37 pm37 cd37 ct37 oc38 kV38 dc38 pm38 cd38 ct38 oc39 kV39 dc39 pm39 cd39 ct39 oc40 kV40 dc40 pm40 cd40 ct40 oc41 kV41 dc41 pm41 cd41 ct41 oc42 kV42 dc42 pm42 cd42 ct42 oc43 kV43 dc43 pm43 cd43 ct43 oc44 kV44 dc44 pm44 cd44 ct44 oc45 kV45 dc45 pm45 cd45 ct45 oc46 kV46 dc46 pm46 cd46 ct46 oc47 kV47 dc47 pm47 cd47 ct47 oc48 kV48 dc48 pm48 cd48 ct48 oc49 kV49 dc49 pm49 cd49 ct49 oc50 kV50 dc50 pm50 cd50 ct50 oc51 kV51 dc51 pm51 cd51 ct51 oc52 kV52 dc52 pm52 cd52 ct52 oc53 kV53 dc53 pm53 cd53 ct53 oc54 kV54 dc54 pm54 cd54 ct54 oc55 kV55 dc55 pm55 cd55 ct55 : Value}
    (a1 : PySem.W.findIn K (.ref c_NoWidth) "__init__" = some (some (.ref f1))) (i1 : PySem.W.isFn K (.ref f1) = true)
    (l1 : K.lookup f1 = some ⟨oc1, od1, .func (PySem.W.fnOf "__init__" "NoWidth.__init__" (defArgs s_NoWidth___init__) (defBody s_NoWidth___init__) (defScope s_NoWidth___init__) .none kV1 dc1 pm1 an1 cd1 ct1), sl1⟩) (c1 : PySem.W.codeIn K cd1 "NoWidth.__init__" = true) (k1 : PySem.W.keepIn K (.ref f1) = true)
    (a2 : PySem.W.findIn K (.ref c_NoForm) "__init__" = some (some (.ref f2))) (i2 : PySem.W.isFn K (.ref f2) = true)
    (l2 : K.lookup f2 = some ⟨oc2, od2, .func (PySem.W.fnOf "__init__" "NoForm.__init__" (defArgs s_NoForm___init__) (defBody s_NoForm___init__) (defScope s_NoForm___init__) .none kV2 dc2 pm2 an2 cd2 ct2), sl2⟩) (c2 : PySem.W.codeIn K cd2 "NoForm.__init__" = true) (k2 : PySem.W.keepIn K (.ref f2) = true)
    (a3 : PySem.W.nsIn K mainGlobals "is_whole" = some (some (.ref f3)))
    (l3 : K.lookup f3 = some ⟨oc3, od3, .func (PySem.W.fnOf "is_whole" "is_whole" (defArgs s_is_whole) (defBody s_is_whole) (defScope s_is_whole) .none kV3 dc3 pm3 an3 cd3 ct3), sl3⟩) (c3 : PySem.W.codeIn K cd3 "is_whole" = true) (k3 : PySem.W.keepIn K (.ref f3) = true)
    (a4 : PySem.W.nsIn K mainGlobals "is_between" = some (some (.ref f4)))
    (l4 : K.lookup f4 = some ⟨oc4, od4, .func (PySem.W.fnOf "is_between" "is_between" (defArgs s_is_between) (defBody s_is_between) (defScope s_is_between) .none kV4 dc4 pm4 an4 cd4 ct4), sl4⟩) (c4 : PySem.W.codeIn K cd4 "is_between" = true) (k4 : PySem.W.keepIn K (.ref f4) = true)
    (a5 : PySem.W.nsIn K mainGlobals "need_width" = some (some (.ref f5)))
    (l5 : K.lookup f5 = some ⟨oc5, od5, .func (PySem.W.fnOf "need_width" "need_width" (defArgs s_need_width) (defBody s_need_width) (defScope s_need_width) .none kV5 dc5 pm5 an5 cd5 ct5), sl5⟩) (c5 : PySem.W.codeIn K cd5 "need_width" = true) (k5 : PySem.W.keepIn K (.ref f5) = true)
    (a6 : PySem.W.nsIn K mainGlobals "brought" = some (some (.ref f6)))
    (l6 : K.lookup f6 = some ⟨oc6, od6, .func (PySem.W.fnOf "brought" "brought" (defArgs s_brought) (defBody s_brought) (defScope s_brought) .none kV6 dc6 pm6 an6 cd6 ct6), sl6⟩) (c6 : PySem.W.codeIn K cd6 "brought" = true) (k6 : PySem.W.keepIn K (.ref f6) = true)
    (a7 : PySem.W.findIn K (.ref c_Shifted) "quotient" = some (some (.ref f7))) (i7 : PySem.W.isFn K (.ref f7) = true) (h_Scaled_quotient : PySem.W.findIn K (.ref c_Scaled) "quotient" = some (some (.ref f7))) (h_Early_quotient : PySem.W.findIn K (.ref c_Early) "quotient" = some (some (.ref f7))) (h_More_quotient : PySem.W.findIn K (.ref c_More) "quotient" = some (some (.ref f7))) (h_Wide_quotient : PySem.W.findIn K (.ref c_Wide) "quotient" = some (some (.ref f7)))
    (l7 : K.lookup f7 = some ⟨oc7, od7, .func (PySem.W.fnOf "quotient" "Form.quotient" (defArgs s_Form_quotient) (defBody s_Form_quotient) (defScope s_Form_quotient) .none kV7 dc7 pm7 an7 cd7 ct7), sl7⟩) (c7 : PySem.W.codeIn K cd7 "Form.quotient" = true) (k7 : PySem.W.keepIn K (.ref f7) = true)
    (a8 : PySem.W.findIn K (.ref c_Shifted) "word" = some (some (.ref f8))) (i8 : PySem.W.isFn K (.ref f8) = true)
    (l8 : K.lookup f8 = some ⟨oc8, od8, .func (PySem.W.fnOf "word" "Shifted.word" (defArgs s_Shifted_word) (defBody s_Shifted_word) (defScope s_Shifted_word) .none kV8 dc8 pm8 an8 cd8 ct8), sl8⟩) (c8 : PySem.W.codeIn K cd8 "Shifted.word" = true) (k8 : PySem.W.keepIn K (.ref f8) = true)
    (a9 : PySem.W.findIn K (.ref c_Shifted) "told" = some (some (.ref f9))) (i9 : PySem.W.isFn K (.ref f9) = true)
    (l9 : K.lookup f9 = some ⟨oc9, od9, .func (PySem.W.fnOf "told" "Shifted.told" (defArgs s_Shifted_told) (defBody s_Shifted_told) (defScope s_Shifted_told) .none kV9 dc9 pm9 an9 cd9 ct9), sl9⟩) (c9 : PySem.W.codeIn K cd9 "Shifted.told" = true) (k9 : PySem.W.keepIn K (.ref f9) = true)
    (a10 : PySem.W.findIn K (.ref c_Shifted) "__init__" = some (some (.ref f10))) (i10 : PySem.W.isFn K (.ref f10) = true)
    (l10 : K.lookup f10 = some ⟨oc10, od10, .func (PySem.W.fnOf "__init__" "Shifted.__init__" (defArgs s_Shifted___init__) (defBody s_Shifted___init__) (defScope s_Shifted___init__) .none kV10 dc10 pm10 an10 cd10 ct10), sl10⟩) (c10 : PySem.W.codeIn K cd10 "Shifted.__init__" = true) (k10 : PySem.W.keepIn K (.ref f10) = true)
    (a11 : PySem.W.findIn K (.ref c_Shifted) "numbers_in" = some (some (.ref f11))) (i11 : PySem.W.isFn K (.ref f11) = true)
    (l11 : K.lookup f11 = some ⟨oc11, od11, .func (PySem.W.fnOf "numbers_in" "Shifted.numbers_in" (defArgs s_Shifted_numbers_in) (defBody s_Shifted_numbers_in) (defScope s_Shifted_numbers_in) .none kV11 dc11 pm11 an11 cd11 ct11), sl11⟩) (c11 : PySem.W.codeIn K cd11 "Shifted.numbers_in" = true) (k11 : PySem.W.keepIn K (.ref f11) = true)
    (a12 : PySem.W.findIn K (.ref c_Scaled) "word" = some (some (.ref f12))) (i12 : PySem.W.isFn K (.ref f12) = true)
    (l12 : K.lookup f12 = some ⟨oc12, od12, .func (PySem.W.fnOf "word" "Scaled.word" (defArgs s_Scaled_word) (defBody s_Scaled_word) (defScope s_Scaled_word) .none kV12 dc12 pm12 an12 cd12 ct12), sl12⟩) (c12 : PySem.W.codeIn K cd12 "Scaled.word" = true) (k12 : PySem.W.keepIn K (.ref f12) = true)
    (a13 : PySem.W.findIn K (.ref c_Scaled) "told" = some (some (.ref f13))) (i13 : PySem.W.isFn K (.ref f13) = true)
    (l13 : K.lookup f13 = some ⟨oc13, od13, .func (PySem.W.fnOf "told" "Scaled.told" (defArgs s_Scaled_told) (defBody s_Scaled_told) (defScope s_Scaled_told) .none kV13 dc13 pm13 an13 cd13 ct13), sl13⟩) (c13 : PySem.W.codeIn K cd13 "Scaled.told" = true) (k13 : PySem.W.keepIn K (.ref f13) = true)
    (a14 : PySem.W.findIn K (.ref c_Scaled) "__init__" = some (some (.ref f14))) (i14 : PySem.W.isFn K (.ref f14) = true)
    (l14 : K.lookup f14 = some ⟨oc14, od14, .func (PySem.W.fnOf "__init__" "Scaled.__init__" (defArgs s_Scaled___init__) (defBody s_Scaled___init__) (defScope s_Scaled___init__) .none kV14 dc14 pm14 an14 cd14 ct14), sl14⟩) (c14 : PySem.W.codeIn K cd14 "Scaled.__init__" = true) (k14 : PySem.W.keepIn K (.ref f14) = true)
    (a15 : PySem.W.findIn K (.ref c_Scaled) "numbers_in" = some (some (.ref f15))) (i15 : PySem.W.isFn K (.ref f15) = true)
    (l15 : K.lookup f15 = some ⟨oc15, od15, .func (PySem.W.fnOf "numbers_in" "Scaled.numbers_in" (defArgs s_Scaled_numbers_in) (defBody s_Scaled_numbers_in) (defScope s_Scaled_numbers_in) .none kV15 dc15 pm15 an15 cd15 ct15), sl15⟩) (c15 : PySem.W.codeIn K cd15 "Scaled.numbers_in" = true) (k15 : PySem.W.keepIn K (.ref f15) = true)
    (a16 : PySem.W.findIn K (.ref c_Early) "word" = some (some (.ref f16))) (i16 : PySem.W.isFn K (.ref f16) = true)
    (l16 : K.lookup f16 = some ⟨oc16, od16, .func (PySem.W.fnOf "word" "Early.word" (defArgs s_Early_word) (defBody s_Early_word) (defScope s_Early_word) .none kV16 dc16 pm16 an16 cd16 ct16), sl16⟩) (c16 : PySem.W.codeIn K cd16 "Early.word" = true) (k16 : PySem.W.keepIn K (.ref f16) = true)
    (a17 : PySem.W.findIn K (.ref c_Early) "told" = some (some (.ref f17))) (i17 : PySem.W.isFn K (.ref f17) = true)
    (l17 : K.lookup f17 = some ⟨oc17, od17, .func (PySem.W.fnOf "told" "Early.told" (defArgs s_Early_told) (defBody s_Early_told) (defScope s_Early_told) .none kV17 dc17 pm17 an17 cd17 ct17), sl17⟩) (c17 : PySem.W.codeIn K cd17 "Early.told" = true) (k17 : PySem.W.keepIn K (.ref f17) = true)
    (a18 : PySem.W.findIn K (.ref c_Early) "__init__" = some (some (.ref f18))) (i18 : PySem.W.isFn K (.ref f18) = true)
    (l18 : K.lookup f18 = some ⟨oc18, od18, .func (PySem.W.fnOf "__init__" "Early.__init__" (defArgs s_Early___init__) (defBody s_Early___init__) (defScope s_Early___init__) .none kV18 dc18 pm18 an18 cd18 ct18), sl18⟩) (c18 : PySem.W.codeIn K cd18 "Early.__init__" = true) (k18 : PySem.W.keepIn K (.ref f18) = true)
    (a19 : PySem.W.findIn K (.ref c_Early) "numbers_in" = some (some (.ref f19))) (i19 : PySem.W.isFn K (.ref f19) = true)
    (l19 : K.lookup f19 = some ⟨oc19, od19, .func (PySem.W.fnOf "numbers_in" "Early.numbers_in" (defArgs s_Early_numbers_in) (defBody s_Early_numbers_in) (defScope s_Early_numbers_in) .none kV19 dc19 pm19 an19 cd19 ct19), sl19⟩) (c19 : PySem.W.codeIn K cd19 "Early.numbers_in" = true) (k19 : PySem.W.keepIn K (.ref f19) = true)
    (a20 : PySem.W.findIn K (.ref c_More) "word" = some (some (.ref f20))) (i20 : PySem.W.isFn K (.ref f20) = true)
    (l20 : K.lookup f20 = some ⟨oc20, od20, .func (PySem.W.fnOf "word" "More.word" (defArgs s_More_word) (defBody s_More_word) (defScope s_More_word) .none kV20 dc20 pm20 an20 cd20 ct20), sl20⟩) (c20 : PySem.W.codeIn K cd20 "More.word" = true) (k20 : PySem.W.keepIn K (.ref f20) = true)
    (a21 : PySem.W.findIn K (.ref c_More) "told" = some (some (.ref f21))) (i21 : PySem.W.isFn K (.ref f21) = true)
    (l21 : K.lookup f21 = some ⟨oc21, od21, .func (PySem.W.fnOf "told" "More.told" (defArgs s_More_told) (defBody s_More_told) (defScope s_More_told) .none kV21 dc21 pm21 an21 cd21 ct21), sl21⟩) (c21 : PySem.W.codeIn K cd21 "More.told" = true) (k21 : PySem.W.keepIn K (.ref f21) = true)
    (a22 : PySem.W.findIn K (.ref c_More) "__init__" = some (some (.ref f22))) (i22 : PySem.W.isFn K (.ref f22) = true)
    (l22 : K.lookup f22 = some ⟨oc22, od22, .func (PySem.W.fnOf "__init__" "More.__init__" (defArgs s_More___init__) (defBody s_More___init__) (defScope s_More___init__) .none kV22 dc22 pm22 an22 cd22 ct22), sl22⟩) (c22 : PySem.W.codeIn K cd22 "More.__init__" = true) (k22 : PySem.W.keepIn K (.ref f22) = true)
    (a23 : PySem.W.findIn K (.ref c_More) "numbers_in" = some (some (.ref f23))) (i23 : PySem.W.isFn K (.ref f23) = true)
    (l23 : K.lookup f23 = some ⟨oc23, od23, .func (PySem.W.fnOf "numbers_in" "More.numbers_in" (defArgs s_More_numbers_in) (defBody s_More_numbers_in) (defScope s_More_numbers_in) .none kV23 dc23 pm23 an23 cd23 ct23), sl23⟩) (c23 : PySem.W.codeIn K cd23 "More.numbers_in" = true) (k23 : PySem.W.keepIn K (.ref f23) = true)
    (a24 : PySem.W.findIn K (.ref c_Wide) "word" = some (some (.ref f24))) (i24 : PySem.W.isFn K (.ref f24) = true)
    (l24 : K.lookup f24 = some ⟨oc24, od24, .func (PySem.W.fnOf "word" "Wide.word" (defArgs s_Wide_word) (defBody s_Wide_word) (defScope s_Wide_word) .none kV24 dc24 pm24 an24 cd24 ct24), sl24⟩) (c24 : PySem.W.codeIn K cd24 "Wide.word" = true) (k24 : PySem.W.keepIn K (.ref f24) = true)
    (a25 : PySem.W.findIn K (.ref c_Wide) "told" = some (some (.ref f25))) (i25 : PySem.W.isFn K (.ref f25) = true)
    (l25 : K.lookup f25 = some ⟨oc25, od25, .func (PySem.W.fnOf "told" "Wide.told" (defArgs s_Wide_told) (defBody s_Wide_told) (defScope s_Wide_told) .none kV25 dc25 pm25 an25 cd25 ct25), sl25⟩) (c25 : PySem.W.codeIn K cd25 "Wide.told" = true) (k25 : PySem.W.keepIn K (.ref f25) = true)
    (a26 : PySem.W.findIn K (.ref c_Wide) "__init__" = some (some (.ref f26))) (i26 : PySem.W.isFn K (.ref f26) = true)
    (l26 : K.lookup f26 = some ⟨oc26, od26, .func (PySem.W.fnOf "__init__" "Wide.__init__" (defArgs s_Wide___init__) (defBody s_Wide___init__) (defScope s_Wide___init__) .none kV26 dc26 pm26 an26 cd26 ct26), sl26⟩) (c26 : PySem.W.codeIn K cd26 "Wide.__init__" = true) (k26 : PySem.W.keepIn K (.ref f26) = true)
    (a27 : PySem.W.findIn K (.ref c_Wide) "numbers_in" = some (some (.ref f27))) (i27 : PySem.W.isFn K (.ref f27) = true)
    (l27 : K.lookup f27 = some ⟨oc27, od27, .func (PySem.W.fnOf "numbers_in" "Wide.numbers_in" (defArgs s_Wide_numbers_in) (defBody s_Wide_numbers_in) (defScope s_Wide_numbers_in) .none kV27 dc27 pm27 an27 cd27 ct27), sl27⟩) (c27 : PySem.W.codeIn K cd27 "Wide.numbers_in" = true) (k27 : PySem.W.keepIn K (.ref f27) = true)
    (a28 : PySem.W.nsIn K mainGlobals "is_factor" = some (some (.ref f28)))
    (l28 : K.lookup f28 = some ⟨oc28, od28, .func (PySem.W.fnOf "is_factor" "is_factor" (defArgs s_is_factor) (defBody s_is_factor) (defScope s_is_factor) .none kV28 dc28 pm28 an28 cd28 ct28), sl28⟩) (c28 : PySem.W.codeIn K cd28 "is_factor" = true) (k28 : PySem.W.keepIn K (.ref f28) = true)
    (a29 : PySem.W.nsIn K mainGlobals "is_shift" = some (some (.ref f29)))
    (l29 : K.lookup f29 = some ⟨oc29, od29, .func (PySem.W.fnOf "is_shift" "is_shift" (defArgs s_is_shift) (defBody s_is_shift) (defScope s_is_shift) .none kV29 dc29 pm29 an29 cd29 ct29), sl29⟩) (c29 : PySem.W.codeIn K cd29 "is_shift" = true) (k29 : PySem.W.keepIn K (.ref f29) = true)
    (a30 : PySem.W.findIn K (.ref c_Cutting) "word" = some (some (.ref f30))) (i30 : PySem.W.isFn K (.ref f30) = true)
    (l30 : K.lookup f30 = some ⟨oc30, od30, .func (PySem.W.fnOf "word" "Cutting.word" (defArgs s_Cutting_word) (defBody s_Cutting_word) (defScope s_Cutting_word) .none kV30 dc30 pm30 an30 cd30 ct30), sl30⟩) (c30 : PySem.W.codeIn K cd30 "Cutting.word" = true) (k30 : PySem.W.keepIn K (.ref f30) = true)
    (a31 : PySem.W.findIn K (.ref c_Cutting) "told" = some (some (.ref f31))) (i31 : PySem.W.isFn K (.ref f31) = true)
    (l31 : K.lookup f31 = some ⟨oc31, od31, .func (PySem.W.fnOf "told" "Cutting.told" (defArgs s_Cutting_told) (defBody s_Cutting_told) (defScope s_Cutting_told) .none kV31 dc31 pm31 an31 cd31 ct31), sl31⟩) (c31 : PySem.W.codeIn K cd31 "Cutting.told" = true) (k31 : PySem.W.keepIn K (.ref f31) = true)
    (a32 : PySem.W.findIn K (.ref c_Cutting) "__init__" = some (some (.ref f32))) (i32 : PySem.W.isFn K (.ref f32) = true)
    (l32 : K.lookup f32 = some ⟨oc32, od32, .func (PySem.W.fnOf "__init__" "Cutting.__init__" (defArgs s_Cutting___init__) (defBody s_Cutting___init__) (defScope s_Cutting___init__) .none kV32 dc32 pm32 an32 cd32 ct32), sl32⟩) (c32 : PySem.W.codeIn K cd32 "Cutting.__init__" = true) (k32 : PySem.W.keepIn K (.ref f32) = true)
    (a33 : PySem.W.findIn K (.ref c_Cutting) "quotient" = some (some (.ref f33))) (i33 : PySem.W.isFn K (.ref f33) = true)
    (l33 : K.lookup f33 = some ⟨oc33, od33, .func (PySem.W.fnOf "quotient" "Cutting.quotient" (defArgs s_Cutting_quotient) (defBody s_Cutting_quotient) (defScope s_Cutting_quotient) .none kV33 dc33 pm33 an33 cd33 ct33), sl33⟩) (c33 : PySem.W.codeIn K cd33 "Cutting.quotient" = true) (k33 : PySem.W.keepIn K (.ref f33) = true)
    (a34 : PySem.W.findIn K (.ref c_Turned) "word" = some (some (.ref f34))) (i34 : PySem.W.isFn K (.ref f34) = true)
    (l34 : K.lookup f34 = some ⟨oc34, od34, .func (PySem.W.fnOf "word" "Turned.word" (defArgs s_Turned_word) (defBody s_Turned_word) (defScope s_Turned_word) .none kV34 dc34 pm34 an34 cd34 ct34), sl34⟩) (c34 : PySem.W.codeIn K cd34 "Turned.word" = true) (k34 : PySem.W.keepIn K (.ref f34) = true)
    (a35 : PySem.W.findIn K (.ref c_Turned) "told" = some (some (.ref f35))) (i35 : PySem.W.isFn K (.ref f35) = true)
    (l35 : K.lookup f35 = some ⟨oc35, od35, .func (PySem.W.fnOf "told" "Turned.told" (defArgs s_Turned_told) (defBody s_Turned_told) (defScope s_Turned_told) .none kV35 dc35 pm35 an35 cd35 ct35), sl35⟩) (c35 : PySem.W.codeIn K cd35 "Turned.told" = true) (k35 : PySem.W.keepIn K (.ref f35) = true)
    (a36 : PySem.W.findIn K (.ref c_Turned) "__init__" = some (some (.ref f36))) (i36 : PySem.W.isFn K (.ref f36) = true)
    (l36 : K.lookup f36 = some ⟨oc36, od36, .func (PySem.W.fnOf "__init__" "Turned.__init__" (defArgs s_Turned___init__) (defBody s_Turned___init__) (defScope s_Turned___init__) .none kV36 dc36 pm36 an36 cd36 ct36), sl36⟩) (c36 : PySem.W.codeIn K cd36 "Turned.__init__" = true) (k36 : PySem.W.keepIn K (.ref f36) = true)
    (a37 : PySem.W.findIn K (.ref c_Turned) "quotient" = some (some (.ref f37))) (i37 : PySem.W.isFn K (.ref f37) = true)
    (l37 : K.lookup f37 = some ⟨oc37, od37, .func (PySem.W.fnOf "quotient" "Turned.quotient" (defArgs s_Turned_quotient) (defBody s_Turned_quotient) (defScope s_Turned_quotient) .none kV37 dc37 pm37 an37 cd37 ct37), sl37⟩) (c37 : PySem.W.codeIn K cd37 "Turned.quotient" = true) (k37 : PySem.W.keepIn K (.ref f37) = true)
    (a38 : PySem.W.nsIn K mainGlobals "_law_start" = some (some (.ref f38)))
    (l38 : K.lookup f38 = some ⟨oc38, od38, .func (PySem.W.fnOf "_law_start" "_law_start" (defArgs s__law_start) (defBody s__law_start) (defScope s__law_start) .none kV38 dc38 pm38 an38 cd38 ct38), sl38⟩) (c38 : PySem.W.codeIn K cd38 "_law_start" = true) (k38 : PySem.W.keepIn K (.ref f38) = true)
    (a39 : PySem.W.nsIn K mainGlobals "_law_draw" = some (some (.ref f39)))
    (l39 : K.lookup f39 = some ⟨oc39, od39, .func (PySem.W.fnOf "_law_draw" "_law_draw" (defArgs s__law_draw) (defBody s__law_draw) (defScope s__law_draw) .none kV39 dc39 pm39 an39 cd39 ct39), sl39⟩) (c39 : PySem.W.codeIn K cd39 "_law_draw" = true) (k39 : PySem.W.keepIn K (.ref f39) = true)
    (a40 : PySem.W.nsIn K mainGlobals "_law_numbers" = some (some (.ref f40)))
    (l40 : K.lookup f40 = some ⟨oc40, od40, .func (PySem.W.fnOf "_law_numbers" "_law_numbers" (defArgs s__law_numbers) (defBody s__law_numbers) (defScope s__law_numbers) .none kV40 dc40 pm40 an40 cd40 ct40), sl40⟩) (c40 : PySem.W.codeIn K cd40 "_law_numbers" = true) (k40 : PySem.W.keepIn K (.ref f40) = true)
    (a41 : PySem.W.nsIn K mainGlobals "_law_make" = some (some (.ref f41)))
    (l41 : K.lookup f41 = some ⟨oc41, od41, .func (PySem.W.fnOf "_law_make" "_law_make" (defArgs s__law_make) (defBody s__law_make) (defScope s__law_make) .none kV41 dc41 pm41 an41 cd41 ct41), sl41⟩) (c41 : PySem.W.codeIn K cd41 "_law_make" = true) (k41 : PySem.W.keepIn K (.ref f41) = true)
    (a42 : PySem.W.nsIn K mainGlobals "_law_whole" = some (some (.ref f42)))
    (l42 : K.lookup f42 = some ⟨oc42, od42, .func (PySem.W.fnOf "_law_whole" "_law_whole" (defArgs s__law_whole) (defBody s__law_whole) (defScope s__law_whole) .none kV42 dc42 pm42 an42 cd42 ct42), sl42⟩) (c42 : PySem.W.codeIn K cd42 "_law_whole" = true) (k42 : PySem.W.keepIn K (.ref f42) = true)
    (a43 : PySem.W.nsIn K mainGlobals "_law_brought" = some (some (.ref f43)))
    (l43 : K.lookup f43 = some ⟨oc43, od43, .func (PySem.W.fnOf "_law_brought" "_law_brought" (defArgs s__law_brought) (defBody s__law_brought) (defScope s__law_brought) .none kV43 dc43 pm43 an43 cd43 ct43), sl43⟩) (c43 : PySem.W.codeIn K cd43 "_law_brought" = true) (k43 : PySem.W.keepIn K (.ref f43) = true)
    (a44 : PySem.W.nsIn K mainGlobals "_law_end" = some (some (.ref f44)))
    (l44 : K.lookup f44 = some ⟨oc44, od44, .func (PySem.W.fnOf "_law_end" "_law_end" (defArgs s__law_end) (defBody s__law_end) (defScope s__law_end) .none kV44 dc44 pm44 an44 cd44 ct44), sl44⟩) (c44 : PySem.W.codeIn K cd44 "_law_end" = true) (k44 : PySem.W.keepIn K (.ref f44) = true)
    (a45 : PySem.W.nsIn K mainGlobals "_law_any" = some (some (.ref f45)))
    (l45 : K.lookup f45 = some ⟨oc45, od45, .func (PySem.W.fnOf "_law_any" "_law_any" (defArgs s__law_any) (defBody s__law_any) (defScope s__law_any) .none kV45 dc45 pm45 an45 cd45 ct45), sl45⟩) (c45 : PySem.W.codeIn K cd45 "_law_any" = true) (k45 : PySem.W.keepIn K (.ref f45) = true)
    (a46 : PySem.W.nsIn K mainGlobals "_law_count" = some (some (.ref f46)))
    (l46 : K.lookup f46 = some ⟨oc46, od46, .func (PySem.W.fnOf "_law_count" "_law_count" (defArgs s__law_count) (defBody s__law_count) (defScope s__law_count) .none kV46 dc46 pm46 an46 cd46 ct46), sl46⟩) (c46 : PySem.W.codeIn K cd46 "_law_count" = true) (k46 : PySem.W.keepIn K (.ref f46) = true)
    (a47 : PySem.W.nsIn K mainGlobals "_law_turned_right" = some (some (.ref f47)))
    (l47 : K.lookup f47 = some ⟨oc47, od47, .func (PySem.W.fnOf "_law_turned_right" "_law_turned_right" (defArgs s__law_turned_right) (defBody s__law_turned_right) (defScope s__law_turned_right) .none kV47 dc47 pm47 an47 cd47 ct47), sl47⟩) (c47 : PySem.W.codeIn K cd47 "_law_turned_right" = true) (k47 : PySem.W.keepIn K (.ref f47) = true)
    (a48 : PySem.W.nsIn K mainGlobals "_law_cutting_right" = some (some (.ref f48)))
    (l48 : K.lookup f48 = some ⟨oc48, od48, .func (PySem.W.fnOf "_law_cutting_right" "_law_cutting_right" (defArgs s__law_cutting_right) (defBody s__law_cutting_right) (defScope s__law_cutting_right) .none kV48 dc48 pm48 an48 cd48 ct48), sl48⟩) (c48 : PySem.W.codeIn K cd48 "_law_cutting_right" = true) (k48 : PySem.W.keepIn K (.ref f48) = true)
    (a49 : PySem.W.nsIn K mainGlobals "_law_no_width" = some (some (.ref f49)))
    (l49 : K.lookup f49 = some ⟨oc49, od49, .func (PySem.W.fnOf "_law_no_width" "_law_no_width" (defArgs s__law_no_width) (defBody s__law_no_width) (defScope s__law_no_width) .none kV49 dc49 pm49 an49 cd49 ct49), sl49⟩) (c49 : PySem.W.codeIn K cd49 "_law_no_width" = true) (k49 : PySem.W.keepIn K (.ref f49) = true)
    (a50 : PySem.W.nsIn K mainGlobals "_law_no_cutting" = some (some (.ref f50)))
    (l50 : K.lookup f50 = some ⟨oc50, od50, .func (PySem.W.fnOf "_law_no_cutting" "_law_no_cutting" (defArgs s__law_no_cutting) (defBody s__law_no_cutting) (defScope s__law_no_cutting) .none kV50 dc50 pm50 an50 cd50 ct50), sl50⟩) (c50 : PySem.W.codeIn K cd50 "_law_no_cutting" = true) (k50 : PySem.W.keepIn K (.ref f50) = true)
    (a51 : PySem.W.nsIn K mainGlobals "_law_no_signed" = some (some (.ref f51)))
    (l51 : K.lookup f51 = some ⟨oc51, od51, .func (PySem.W.fnOf "_law_no_signed" "_law_no_signed" (defArgs s__law_no_signed) (defBody s__law_no_signed) (defScope s__law_no_signed) .none kV51 dc51 pm51 an51 cd51 ct51), sl51⟩) (c51 : PySem.W.codeIn K cd51 "_law_no_signed" = true) (k51 : PySem.W.keepIn K (.ref f51) = true)
    (a52 : PySem.W.nsIn K mainGlobals "_law_no_turned" = some (some (.ref f52)))
    (l52 : K.lookup f52 = some ⟨oc52, od52, .func (PySem.W.fnOf "_law_no_turned" "_law_no_turned" (defArgs s__law_no_turned) (defBody s__law_no_turned) (defScope s__law_no_turned) .none kV52 dc52 pm52 an52 cd52 ct52), sl52⟩) (c52 : PySem.W.codeIn K cd52 "_law_no_turned" = true) (k52 : PySem.W.keepIn K (.ref f52) = true)
    (a53 : PySem.W.nsIn K mainGlobals "_law_stands" = some (some (.ref f53)))
    (l53 : K.lookup f53 = some ⟨oc53, od53, .func (PySem.W.fnOf "_law_stands" "_law_stands" (defArgs s__law_stands) (defBody s__law_stands) (defScope s__law_stands) .none kV53 dc53 pm53 an53 cd53 ct53), sl53⟩) (c53 : PySem.W.codeIn K cd53 "_law_stands" = true) (k53 : PySem.W.keepIn K (.ref f53) = true)
    (a54 : PySem.W.nsIn K mainGlobals "_law_case" = some (some (.ref f54)))
    (l54 : K.lookup f54 = some ⟨oc54, od54, .func (PySem.W.fnOf "_law_case" "_law_case" (defArgs s__law_case) (defBody s__law_case) (defScope s__law_case) .none kV54 dc54 pm54 an54 cd54 ct54), sl54⟩) (c54 : PySem.W.codeIn K cd54 "_law_case" = true) (k54 : PySem.W.keepIn K (.ref f54) = true)
    (a55 : PySem.W.nsIn K mainGlobals "law" = some (some (.ref f55)))
    (l55 : K.lookup f55 = some ⟨oc55, od55, .func (PySem.W.fnOf "law" "law" (defArgs s_law) (defBody s_law) (defScope s_law) .none kV55 dc55 pm55 an55 cd55 ct55), sl55⟩) (c55 : PySem.W.codeIn K cd55 "law" = true) (k55 : PySem.W.keepIn K (.ref f55) = true)
    (aC_Form : PySem.W.nsIn K mainGlobals "Form" = some (some (.ref c_Form))) (pg_Form : PySem.W.plainGet K c_Form Str.empty = true) (hd_Form : PySem.W.hasDictIn K c_Form = true) (po_Form : PySem.W.plainOver K c_Form = true) (sa_Form : PySem.W.findIn K (.ref c_Form) "__setattr__" = some (some (.builtin "object.__setattr__")))
    (aC_Shifted : PySem.W.nsIn K mainGlobals "Shifted" = some (some (.ref c_Shifted))) (pg_Shifted : PySem.W.plainGet K c_Shifted Str.empty = true) (hd_Shifted : PySem.W.hasDictIn K c_Shifted = true) (po_Shifted : PySem.W.plainOver K c_Shifted = true) (sa_Shifted : PySem.W.findIn K (.ref c_Shifted) "__setattr__" = some (some (.builtin "object.__setattr__")))
    (mk_Shifted : PySem.W.makesIn K c_Shifted = true) (kc_Shifted : PySem.W.keepIn K (.ref c_Shifted) = true)
    (na_Shifted_shift : PySem.W.findIn K (.ref c_Shifted) "shift" = some none)
    (aC_Scaled : PySem.W.nsIn K mainGlobals "Scaled" = some (some (.ref c_Scaled))) (pg_Scaled : PySem.W.plainGet K c_Scaled Str.empty = true) (hd_Scaled : PySem.W.hasDictIn K c_Scaled = true) (po_Scaled : PySem.W.plainOver K c_Scaled = true) (sa_Scaled : PySem.W.findIn K (.ref c_Scaled) "__setattr__" = some (some (.builtin "object.__setattr__")))
    (mk_Scaled : PySem.W.makesIn K c_Scaled = true) (kc_Scaled : PySem.W.keepIn K (.ref c_Scaled) = true)
    (na_Scaled_factor : PySem.W.findIn K (.ref c_Scaled) "factor" = some none)
    (na_Scaled_shift : PySem.W.findIn K (.ref c_Scaled) "shift" = some none)
    (aC_Early : PySem.W.nsIn K mainGlobals "Early" = some (some (.ref c_Early))) (pg_Early : PySem.W.plainGet K c_Early Str.empty = true) (hd_Early : PySem.W.hasDictIn K c_Early = true) (po_Early : PySem.W.plainOver K c_Early = true) (sa_Early : PySem.W.findIn K (.ref c_Early) "__setattr__" = some (some (.builtin "object.__setattr__")))
    (mk_Early : PySem.W.makesIn K c_Early = true) (kc_Early : PySem.W.keepIn K (.ref c_Early) = true)
    (na_Early_early : PySem.W.findIn K (.ref c_Early) "early" = some none)
    (na_Early_factor : PySem.W.findIn K (.ref c_Early) "factor" = some none)
    (na_Early_shift : PySem.W.findIn K (.ref c_Early) "shift" = some none)
    (aC_More : PySem.W.nsIn K mainGlobals "More" = some (some (.ref c_More))) (pg_More : PySem.W.plainGet K c_More Str.empty = true) (hd_More : PySem.W.hasDictIn K c_More = true) (po_More : PySem.W.plainOver K c_More = true) (sa_More : PySem.W.findIn K (.ref c_More) "__setattr__" = some (some (.builtin "object.__setattr__")))
    (mk_More : PySem.W.makesIn K c_More = true) (kc_More : PySem.W.keepIn K (.ref c_More) = true)
    (na_More_factor : PySem.W.findIn K (.ref c_More) "factor" = some none)
    (na_More_shift : PySem.W.findIn K (.ref c_More) "shift" = some none)
    (aC_Wide : PySem.W.nsIn K mainGlobals "Wide" = some (some (.ref c_Wide))) (pg_Wide : PySem.W.plainGet K c_Wide Str.empty = true) (hd_Wide : PySem.W.hasDictIn K c_Wide = true) (po_Wide : PySem.W.plainOver K c_Wide = true) (sa_Wide : PySem.W.findIn K (.ref c_Wide) "__setattr__" = some (some (.builtin "object.__setattr__")))
    (mk_Wide : PySem.W.makesIn K c_Wide = true) (kc_Wide : PySem.W.keepIn K (.ref c_Wide) = true)
    (na_Wide_factor : PySem.W.findIn K (.ref c_Wide) "factor" = some none)
    (na_Wide_shift : PySem.W.findIn K (.ref c_Wide) "shift" = some none)
    (aC_SignedForm : PySem.W.nsIn K mainGlobals "SignedForm" = some (some (.ref c_SignedForm))) (pg_SignedForm : PySem.W.plainGet K c_SignedForm Str.empty = true) (hd_SignedForm : PySem.W.hasDictIn K c_SignedForm = true) (po_SignedForm : PySem.W.plainOver K c_SignedForm = true) (sa_SignedForm : PySem.W.findIn K (.ref c_SignedForm) "__setattr__" = some (some (.builtin "object.__setattr__")))
    (aC_Cutting : PySem.W.nsIn K mainGlobals "Cutting" = some (some (.ref c_Cutting))) (pg_Cutting : PySem.W.plainGet K c_Cutting Str.empty = true) (hd_Cutting : PySem.W.hasDictIn K c_Cutting = true) (po_Cutting : PySem.W.plainOver K c_Cutting = true) (sa_Cutting : PySem.W.findIn K (.ref c_Cutting) "__setattr__" = some (some (.builtin "object.__setattr__")))
    (mk_Cutting : PySem.W.makesIn K c_Cutting = true) (kc_Cutting : PySem.W.keepIn K (.ref c_Cutting) = true)
    (na_Cutting_factor : PySem.W.findIn K (.ref c_Cutting) "factor" = some none)
    (na_Cutting_shift : PySem.W.findIn K (.ref c_Cutting) "shift" = some none)
    (aC_Turned : PySem.W.nsIn K mainGlobals "Turned" = some (some (.ref c_Turned))) (pg_Turned : PySem.W.plainGet K c_Turned Str.empty = true) (hd_Turned : PySem.W.hasDictIn K c_Turned = true) (po_Turned : PySem.W.plainOver K c_Turned = true) (sa_Turned : PySem.W.findIn K (.ref c_Turned) "__setattr__" = some (some (.builtin "object.__setattr__")))
    (mk_Turned : PySem.W.makesIn K c_Turned = true) (kc_Turned : PySem.W.keepIn K (.ref c_Turned) = true)
    (na_Turned_form : PySem.W.findIn K (.ref c_Turned) "form" = some none)
    (aC_NoWidth : PySem.W.nsIn K mainGlobals "NoWidth" = some (some (.ref c_NoWidth)))
    (aC_NoForm : PySem.W.nsIn K mainGlobals "NoForm" = some (some (.ref c_NoForm)))
    (aC_WiseError : PySem.W.nsIn K mainGlobals "WiseError" = some (some (.ref c_WiseError)))
    (xe_NoWidth : excFn K c_NoWidth f1 = true) (xs_NoWidth : PySem.W.findIn K (.ref c_NoWidth) "__setattr__" = some (some (.builtin "object.__setattr__"))) (xm_NoWidth : PySem.W.mroIn K c_NoWidth (.type "object") = some true) (xn_NoWidth : PySem.W.findIn K (.ref c_NoWidth) "found" = some none) (xf_NoWidth : PySem.W.typeIn K (.ref f1) = some (.type "function")) (xk_NoWidth : PySem.W.keepIn K (.ref c_NoWidth) = true)
    (xe_NoForm : excFn K c_NoForm f2 = true) (xs_NoForm : PySem.W.findIn K (.ref c_NoForm) "__setattr__" = some (some (.builtin "object.__setattr__"))) (xm_NoForm : PySem.W.mroIn K c_NoForm (.type "object") = some true) (xn_NoForm : PySem.W.findIn K (.ref c_NoForm) "found" = some none) (xf_NoForm : PySem.W.typeIn K (.ref f2) = some (.type "function")) (xk_NoForm : PySem.W.keepIn K (.ref c_NoForm) = true)
    (kf_kc : PySem.W.isClsIn K c_Form = true)
    (kf_kt : PySem.W.typeIn K (.ref c_Form) = some (.type "type"))
    (kf_og : PySem.W.specialIn K (.builtin "object.__class__") "__get__" = some (some (.builtin "getset_descriptor.__get__")))
    (kf_ot : PySem.W.takesIn K (.builtin "object.__class__") = some true)
    (kf_dc_Shifted : PySem.W.findIn K (.ref c_Shifted) "__class__" = some (some (.builtin "object.__class__")))
    (kf_dc_Scaled : PySem.W.findIn K (.ref c_Scaled) "__class__" = some (some (.builtin "object.__class__")))
    (kf_dc_Early : PySem.W.findIn K (.ref c_Early) "__class__" = some (some (.builtin "object.__class__")))
    (kf_dc_More : PySem.W.findIn K (.ref c_More) "__class__" = some (some (.builtin "object.__class__")))
    (kf_dc_Wide : PySem.W.findIn K (.ref c_Wide) "__class__" = some (some (.builtin "object.__class__")))
    (kf_mo_Shifted : PySem.W.mroIn K c_Shifted (.type "object") = some true)
    (kf_mo_Scaled : PySem.W.mroIn K c_Scaled (.type "object") = some true)
    (kf_mo_Early : PySem.W.mroIn K c_Early (.type "object") = some true)
    (kf_mo_More : PySem.W.mroIn K c_More (.type "object") = some true)
    (kf_mo_Wide : PySem.W.mroIn K c_Wide (.type "object") = some true)
    (kf_ik_Shifted : PySem.W.mroIn K c_Shifted (.ref c_Form) = some true)
    (kf_ik_Scaled : PySem.W.mroIn K c_Scaled (.ref c_Form) = some true)
    (kf_ik_Early : PySem.W.mroIn K c_Early (.ref c_Form) = some true)
    (kf_ik_More : PySem.W.mroIn K c_More (.ref c_Form) = some true)
    (kf_ik_Wide : PySem.W.mroIn K c_Wide (.ref c_Form) = some true)
    (kf_ic_Shifted : PySem.W.isClsIn K c_Shifted = true)
    (kf_tc_Shifted : PySem.W.typeIn K (.ref c_Shifted) = some (.type "type"))
    (kf_ic_Scaled : PySem.W.isClsIn K c_Scaled = true)
    (kf_tc_Scaled : PySem.W.typeIn K (.ref c_Scaled) = some (.type "type"))
    (kf_ic_Early : PySem.W.isClsIn K c_Early = true)
    (kf_tc_Early : PySem.W.typeIn K (.ref c_Early) = some (.type "type"))
    (kf_ic_More : PySem.W.isClsIn K c_More = true)
    (kf_tc_More : PySem.W.typeIn K (.ref c_More) = some (.type "type"))
    (kf_ic_Wide : PySem.W.isClsIn K c_Wide = true)
    (kf_tc_Wide : PySem.W.typeIn K (.ref c_Wide) = some (.type "type"))
    (kf_if__NoWidth : PySem.W.isClsIn K c_NoWidth = true)
    (kf_tf_NoWidth : PySem.W.typeIn K (.ref c_NoWidth) = some (.type "type"))
    (kf_mf_NoWidth : PySem.W.mroIn K c_NoWidth (.ref c_NoWidth) = some true)
    (kf_wb_NoWidth : PySem.W.mroIn K c_NoWidth (.type "BaseException") = some true)
    (kf_ga_NoWidth : PySem.W.findIn K (.ref c_NoWidth) "__getattribute__" = some (some (.builtin "BaseException.__getattribute__")))
    (kf_gn_NoWidth : PySem.W.findIn K (.ref c_NoWidth) "__getattr__" = some none)
    (kf_gc_NoWidth : PySem.W.findIn K (.ref c_NoWidth) "__class__" = some (some (.builtin "object.__class__")))
    (kf_mo_NoWidth : PySem.W.mroIn K c_NoWidth (.type "object") = some true)
    (kf_mb_NoWidth : PySem.W.mroIn K c_NoWidth (.type "BaseException") = some true)
    (kf_hd_NoWidth : PySem.W.hasDictIn K c_NoWidth = true)
    (kf_nf_NoWidth : PySem.W.findIn K (.ref c_NoWidth) "found" = some none)
    (kf_if__NoForm : PySem.W.isClsIn K c_NoForm = true)
    (kf_tf_NoForm : PySem.W.typeIn K (.ref c_NoForm) = some (.type "type"))
    (kf_mf_NoForm : PySem.W.mroIn K c_NoForm (.ref c_NoForm) = some true)
    (kf_wb_NoForm : PySem.W.mroIn K c_NoForm (.type "BaseException") = some true)
    (kf_ga_NoForm : PySem.W.findIn K (.ref c_NoForm) "__getattribute__" = some (some (.builtin "BaseException.__getattribute__")))
    (kf_gn_NoForm : PySem.W.findIn K (.ref c_NoForm) "__getattr__" = some none)
    (kf_gc_NoForm : PySem.W.findIn K (.ref c_NoForm) "__class__" = some (some (.builtin "object.__class__")))
    (kf_mo_NoForm : PySem.W.mroIn K c_NoForm (.type "object") = some true)
    (kf_mb_NoForm : PySem.W.mroIn K c_NoForm (.type "BaseException") = some true)
    (kf_hd_NoForm : PySem.W.hasDictIn K c_NoForm = true)
    (kf_nf_NoForm : PySem.W.findIn K (.ref c_NoForm) "found" = some none)
    (kf_dc_Cutting : PySem.W.findIn K (.ref c_Cutting) "__class__" = some (some (.builtin "object.__class__")))
    (kf_mo_Cutting : PySem.W.mroIn K c_Cutting (.type "object") = some true)
    (kf_dc_Turned : PySem.W.findIn K (.ref c_Turned) "__class__" = some (some (.builtin "object.__class__")))
    (kf_mo_Turned : PySem.W.mroIn K c_Turned (.type "object") = some true)
    (kf_ic_Cutting : PySem.W.isClsIn K c_Cutting = true)
    (kf_tc_Cutting : PySem.W.typeIn K (.ref c_Cutting) = some (.type "type"))
    (kf_ic_Turned : PySem.W.isClsIn K c_Turned = true)
    (kf_tc_Turned : PySem.W.typeIn K (.ref c_Turned) = some (.type "type"))
    (kf_ic_SignedForm : PySem.W.isClsIn K c_SignedForm = true)
    (kf_tc_SignedForm : PySem.W.typeIn K (.ref c_SignedForm) = some (.type "type"))
    (kf_m_Cutting_SignedForm : PySem.W.mroIn K c_Cutting (.ref c_SignedForm) = some true)
    (kf_m_Cutting_Form : PySem.W.mroIn K c_Cutting (.ref c_Form) = some false)
    (kf_m_Cutting_Cutting : PySem.W.mroIn K c_Cutting (.ref c_Cutting) = some true)
    (kf_m_Cutting_Turned : PySem.W.mroIn K c_Cutting (.ref c_Turned) = some false)
    (kf_m_Turned_SignedForm : PySem.W.mroIn K c_Turned (.ref c_SignedForm) = some true)
    (kf_m_Turned_Form : PySem.W.mroIn K c_Turned (.ref c_Form) = some false)
    (kf_m_Turned_Cutting : PySem.W.mroIn K c_Turned (.ref c_Cutting) = some false)
    (kf_m_Turned_Turned : PySem.W.mroIn K c_Turned (.ref c_Turned) = some true)
    (z_isinstance : PySem.W.nsIn K mainGlobals "isinstance" = some none) (z_int : PySem.W.nsIn K mainGlobals "int" = some none) (z_bool : PySem.W.nsIn K mainGlobals "bool" = some none) (z_len : PySem.W.nsIn K mainGlobals "len" = some none) (z_max : PySem.W.nsIn K mainGlobals "max" = some none) (z_min : PySem.W.nsIn K mainGlobals "min" = some none) (z_range : PySem.W.nsIn K mainGlobals "range" = some none) (z_repr : PySem.W.nsIn K mainGlobals "repr" = some none) (z_abs : PySem.W.nsIn K mainGlobals "abs" = some none) :
    ∃ fd : FuncData, (∀ (s : Shared) (v : Value), BindsTo s fd ⟨[v], []⟩ [("_law_script", v)]) ∧ ∀ base : Heap, K.In base → base.Ns mainGlobals mg → FnOk l.prog w K mg base CX0 9 fa fd ["_law_script"] ((spLaw K)) := by
  have e := hfa.symm.trans (PySem.W.mg_of X G a55)
  cases e
  have T : Txt K mg ⟨c_Form, c_Shifted, c_Scaled, c_Early, c_More, c_Wide, c_SignedForm, c_Cutting, c_Turned, c_NoWidth, c_NoForm, c_WiseError⟩ := ⟨PySem.W.mg_none_of X G z_isinstance, PySem.W.mg_none_of X G z_int, PySem.W.mg_none_of X G z_bool, PySem.W.mg_none_of X G z_len, PySem.W.mg_none_of X G z_max, PySem.W.mg_none_of X G z_min, PySem.W.mg_none_of X G z_range, PySem.W.mg_none_of X G z_repr, PySem.W.mg_none_of X G z_abs, PySem.W.mg_of X G aC_Form, ⟨pg_Form, hd_Form, po_Form, sa_Form⟩, PySem.W.mg_of X G aC_Shifted, ⟨pg_Shifted, hd_Shifted, po_Shifted, sa_Shifted⟩, na_Shifted_shift, PySem.W.mg_of X G aC_Scaled, ⟨pg_Scaled, hd_Scaled, po_Scaled, sa_Scaled⟩, na_Scaled_factor, na_Scaled_shift, PySem.W.mg_of X G aC_Early, ⟨pg_Early, hd_Early, po_Early, sa_Early⟩, na_Early_early, na_Early_factor, na_Early_shift, PySem.W.mg_of X G aC_More, ⟨pg_More, hd_More, po_More, sa_More⟩, na_More_factor, na_More_shift, PySem.W.mg_of X G aC_Wide, ⟨pg_Wide, hd_Wide, po_Wide, sa_Wide⟩, na_Wide_factor, na_Wide_shift, PySem.W.mg_of X G aC_SignedForm, ⟨pg_SignedForm, hd_SignedForm, po_SignedForm, sa_SignedForm⟩, PySem.W.mg_of X G aC_Cutting, ⟨pg_Cutting, hd_Cutting, po_Cutting, sa_Cutting⟩, na_Cutting_factor, na_Cutting_shift, PySem.W.mg_of X G aC_Turned, ⟨pg_Turned, hd_Turned, po_Turned, sa_Turned⟩, na_Turned_form, PySem.W.mg_of X G aC_NoWidth, PySem.W.mg_of X G aC_NoForm, PySem.W.mg_of X G aC_WiseError, kf_kc, kf_kt, kf_og, kf_ot, kf_dc_Shifted, kf_dc_Scaled, kf_dc_Early, kf_dc_More, kf_dc_Wide, kf_mo_Shifted, kf_mo_Scaled, kf_mo_Early, kf_mo_More, kf_mo_Wide, kf_ik_Shifted, kf_ik_Scaled, kf_ik_Early, kf_ik_More, kf_ik_Wide, kf_ic_Shifted, kf_tc_Shifted, kf_ic_Scaled, kf_tc_Scaled, kf_ic_Early, kf_tc_Early, kf_ic_More, kf_tc_More, kf_ic_Wide, kf_tc_Wide, kf_if__NoWidth, kf_tf_NoWidth, kf_mf_NoWidth, kf_wb_NoWidth, kf_ga_NoWidth, kf_gn_NoWidth, kf_gc_NoWidth, kf_mo_NoWidth, kf_mb_NoWidth, kf_hd_NoWidth, kf_nf_NoWidth, kf_if__NoForm, kf_tf_NoForm, kf_mf_NoForm, kf_wb_NoForm, kf_ga_NoForm, kf_gn_NoForm, kf_gc_NoForm, kf_mo_NoForm, kf_mb_NoForm, kf_hd_NoForm, kf_nf_NoForm, kf_dc_Cutting, kf_mo_Cutting, kf_dc_Turned, kf_mo_Turned, kf_ic_Cutting, kf_tc_Cutting, kf_ic_Turned, kf_tc_Turned, kf_ic_SignedForm, kf_tc_SignedForm, kf_m_Cutting_SignedForm, kf_m_Cutting_Form, kf_m_Cutting_Cutting, kf_m_Cutting_Turned, kf_m_Turned_SignedForm, kf_m_Turned_Form, kf_m_Turned_Cutting, kf_m_Turned_Turned⟩
  have F1 := fun_mk (st := s_NoWidth___init__) l1 c1 k1
  have b1 := F1.binds (ps := ["self", "found"]) fun _ _ _ _ _ _ us hl => match us, hl with | [_, _], _ => rfl
  have F2 := fun_mk (st := s_NoForm___init__) l2 c2 k2
  have b2 := F2.binds (ps := ["self", "found"]) fun _ _ _ _ _ _ us hl => match us, hl with | [_, _], _ => rfl
  have F3 := fun_mk (st := s_is_whole) l3 c3 k3
  have b3 := F3.binds (ps := ["thing"]) fun _ _ _ _ _ _ us hl => match us, hl with | [_], _ => rfl
  have F4 := fun_mk (st := s_is_between) l4 c4 k4
  have b4 := F4.binds (ps := ["thing", "low", "high"]) fun _ _ _ _ _ _ us hl => match us, hl with | [_, _, _], _ => rfl
  have F5 := fun_mk (st := s_need_width) l5 c5 k5
  have b5 := F5.binds (ps := ["width"]) fun _ _ _ _ _ _ us hl => match us, hl with | [_], _ => rfl
  have F6 := fun_mk (st := s_brought) l6 c6 k6
  have b6 := F6.binds (ps := ["reckoning", "x"]) fun _ _ _ _ _ _ us hl => match us, hl with | [_, _], _ => rfl
  have F7 := fun_mk (st := s_Form_quotient) l7 c7 k7
  have b7 := F7.binds (ps := ["self", "width", "x"]) fun _ _ _ _ _ _ us hl => match us, hl with | [_, _, _], _ => rfl
  have F8 := fun_mk (st := s_Shifted_word) l8 c8 k8
  have b8 := F8.binds (ps := ["self"]) fun _ _ _ _ _ _ us hl => match us, hl with | [_], _ => rfl
  have F9 := fun_mk (st := s_Shifted_told) l9 c9 k9
  have b9 := F9.binds (ps := ["self"]) fun _ _ _ _ _ _ us hl => match us, hl with | [_], _ => rfl
  have F10 := fun_mk (st := s_Shifted___init__) l10 c10 k10
  have b10 := F10.binds (ps := ["self", "shift"]) fun _ _ _ _ _ _ us hl => match us, hl with | [_, _], _ => rfl
  have F11 := fun_mk (st := s_Shifted_numbers_in) l11 c11 k11
  have b11 := F11.binds (ps := ["self", "width"]) fun _ _ _ _ _ _ us hl => match us, hl with | [_, _], _ => rfl
  have F12 := fun_mk (st := s_Scaled_word) l12 c12 k12
  have b12 := F12.binds (ps := ["self"]) fun _ _ _ _ _ _ us hl => match us, hl with | [_], _ => rfl
  have F13 := fun_mk (st := s_Scaled_told) l13 c13 k13
  have b13 := F13.binds (ps := ["self"]) fun _ _ _ _ _ _ us hl => match us, hl with | [_], _ => rfl
  have F14 := fun_mk (st := s_Scaled___init__) l14 c14 k14
  have b14 := F14.binds (ps := ["self", "factor", "shift"]) fun _ _ _ _ _ _ us hl => match us, hl with | [_, _, _], _ => rfl
  have F15 := fun_mk (st := s_Scaled_numbers_in) l15 c15 k15
  have b15 := F15.binds (ps := ["self", "width"]) fun _ _ _ _ _ _ us hl => match us, hl with | [_, _], _ => rfl
  have F16 := fun_mk (st := s_Early_word) l16 c16 k16
  have b16 := F16.binds (ps := ["self"]) fun _ _ _ _ _ _ us hl => match us, hl with | [_], _ => rfl
  have F17 := fun_mk (st := s_Early_told) l17 c17 k17
  have b17 := F17.binds (ps := ["self"]) fun _ _ _ _ _ _ us hl => match us, hl with | [_], _ => rfl
  have F18 := fun_mk (st := s_Early___init__) l18 c18 k18
  have b18 := F18.binds (ps := ["self", "early", "factor", "shift"]) fun _ _ _ _ _ _ us hl => match us, hl with | [_, _, _, _], _ => rfl
  have F19 := fun_mk (st := s_Early_numbers_in) l19 c19 k19
  have b19 := F19.binds (ps := ["self", "width"]) fun _ _ _ _ _ _ us hl => match us, hl with | [_, _], _ => rfl
  have F20 := fun_mk (st := s_More_word) l20 c20 k20
  have b20 := F20.binds (ps := ["self"]) fun _ _ _ _ _ _ us hl => match us, hl with | [_], _ => rfl
  have F21 := fun_mk (st := s_More_told) l21 c21 k21
  have b21 := F21.binds (ps := ["self"]) fun _ _ _ _ _ _ us hl => match us, hl with | [_], _ => rfl
  have F22 := fun_mk (st := s_More___init__) l22 c22 k22
  have b22 := F22.binds (ps := ["self", "factor", "shift"]) fun _ _ _ _ _ _ us hl => match us, hl with | [_, _, _], _ => rfl
  have F23 := fun_mk (st := s_More_numbers_in) l23 c23 k23
  have b23 := F23.binds (ps := ["self", "width"]) fun _ _ _ _ _ _ us hl => match us, hl with | [_, _], _ => rfl
  have F24 := fun_mk (st := s_Wide_word) l24 c24 k24
  have b24 := F24.binds (ps := ["self"]) fun _ _ _ _ _ _ us hl => match us, hl with | [_], _ => rfl
  have F25 := fun_mk (st := s_Wide_told) l25 c25 k25
  have b25 := F25.binds (ps := ["self"]) fun _ _ _ _ _ _ us hl => match us, hl with | [_], _ => rfl
  have F26 := fun_mk (st := s_Wide___init__) l26 c26 k26
  have b26 := F26.binds (ps := ["self", "factor", "shift"]) fun _ _ _ _ _ _ us hl => match us, hl with | [_, _, _], _ => rfl
  have F27 := fun_mk (st := s_Wide_numbers_in) l27 c27 k27
  have b27 := F27.binds (ps := ["self", "width"]) fun _ _ _ _ _ _ us hl => match us, hl with | [_, _], _ => rfl
  have F28 := fun_mk (st := s_is_factor) l28 c28 k28
  have b28 := F28.binds (ps := ["thing"]) fun _ _ _ _ _ _ us hl => match us, hl with | [_], _ => rfl
  have F29 := fun_mk (st := s_is_shift) l29 c29 k29
  have b29 := F29.binds (ps := ["thing"]) fun _ _ _ _ _ _ us hl => match us, hl with | [_], _ => rfl
  have F30 := fun_mk (st := s_Cutting_word) l30 c30 k30
  have b30 := F30.binds (ps := ["self"]) fun _ _ _ _ _ _ us hl => match us, hl with | [_], _ => rfl
  have F31 := fun_mk (st := s_Cutting_told) l31 c31 k31
  have b31 := F31.binds (ps := ["self"]) fun _ _ _ _ _ _ us hl => match us, hl with | [_], _ => rfl
  have F32 := fun_mk (st := s_Cutting___init__) l32 c32 k32
  have b32 := F32.binds (ps := ["self", "factor", "shift"]) fun _ _ _ _ _ _ us hl => match us, hl with | [_, _, _], _ => rfl
  have F33 := fun_mk (st := s_Cutting_quotient) l33 c33 k33
  have b33 := F33.binds (ps := ["self", "width", "x"]) fun _ _ _ _ _ _ us hl => match us, hl with | [_, _, _], _ => rfl
  have F34 := fun_mk (st := s_Turned_word) l34 c34 k34
  have b34 := F34.binds (ps := ["self"]) fun _ _ _ _ _ _ us hl => match us, hl with | [_], _ => rfl
  have F35 := fun_mk (st := s_Turned_told) l35 c35 k35
  have b35 := F35.binds (ps := ["self"]) fun _ _ _ _ _ _ us hl => match us, hl with | [_], _ => rfl
  have F36 := fun_mk (st := s_Turned___init__) l36 c36 k36
  have b36 := F36.binds (ps := ["self", "form"]) fun _ _ _ _ _ _ us hl => match us, hl with | [_, _], _ => rfl
  have F37 := fun_mk (st := s_Turned_quotient) l37 c37 k37
  have b37 := F37.binds (ps := ["self", "width", "x"]) fun _ _ _ _ _ _ us hl => match us, hl with | [_, _, _], _ => rfl
  have F38 := fun_mk (st := s__law_start) l38 c38 k38
  have b38 := F38.binds (ps := ["_law_script", "_law_k"]) fun _ _ _ _ _ _ us hl => match us, hl with | [_, _], _ => rfl
  have F39 := fun_mk (st := s__law_draw) l39 c39 k39
  have b39 := F39.binds (ps := ["_law_state", "_law_size"]) fun _ _ _ _ _ _ us hl => match us, hl with | [_, _], _ => rfl
  have F40 := fun_mk (st := s__law_numbers) l40 c40 k40
  have b40 := F40.binds (ps := ["_law_told", "_law_width"]) fun _ _ _ _ _ _ us hl => match us, hl with | [_, _], _ => rfl
  have F41 := fun_mk (st := s__law_make) l41 c41 k41
  have b41 := F41.binds (ps := ["_law_told"]) fun _ _ _ _ _ _ us hl => match us, hl with | [_], _ => rfl
  have F42 := fun_mk (st := s__law_whole) l42 c42 k42
  have b42 := F42.binds (ps := ["_law_found"]) fun _ _ _ _ _ _ us hl => match us, hl with | [_], _ => rfl
  have F43 := fun_mk (st := s__law_brought) l43 c43 k43
  have b43 := F43.binds (ps := ["_law_numbers_here", "_law_x"]) fun _ _ _ _ _ _ us hl => match us, hl with | [_, _], _ => rfl
  have F44 := fun_mk (st := s__law_end) l44 c44 k44
  have b44 := F44.binds (ps := ["_law_state", "_law_low", "_law_last"]) fun _ _ _ _ _ _ us hl => match us, hl with | [_, _, _], _ => rfl
  have F45 := fun_mk (st := s__law_any) l45 c45 k45
  have b45 := F45.binds (ps := ["_law_state"]) fun _ _ _ _ _ _ us hl => match us, hl with | [_], _ => rfl
  have F46 := fun_mk (st := s__law_count) l46 c46 k46
  have b46 := F46.binds (ps := ["_law_state", "_law_width"]) fun _ _ _ _ _ _ us hl => match us, hl with | [_, _], _ => rfl
  have F47 := fun_mk (st := s__law_turned_right) l47 c47 k47
  have b47 := F47.binds (ps := ["_law_bent", "_law_told", "_law_width", "_law_x"]) fun _ _ _ _ _ _ us hl => match us, hl with | [_, _, _, _], _ => rfl
  have F48 := fun_mk (st := s__law_cutting_right) l48 c48 k48
  have b48 := F48.binds (ps := ["_law_cutting", "_law_factor", "_law_shift", "_law_width", "_law_x"]) fun _ _ _ _ _ _ us hl => match us, hl with | [_, _, _, _, _], _ => rfl
  have F49 := fun_mk (st := s__law_no_width) l49 c49 k49
  have b49 := F49.binds (ps := ["_law_form", "_law_width"]) fun _ _ _ _ _ _ us hl => match us, hl with | [_, _], _ => rfl
  have F50 := fun_mk (st := s__law_no_cutting) l50 c50 k50
  have b50 := F50.binds (ps := ["_law_state"]) fun _ _ _ _ _ _ us hl => match us, hl with | [_], _ => rfl
  have F51 := fun_mk (st := s__law_no_signed) l51 c51 k51
  have b51 := F51.binds (ps := ["_law_form"]) fun _ _ _ _ _ _ us hl => match us, hl with | [_], _ => rfl
  have F52 := fun_mk (st := s__law_no_turned) l52 c52 k52
  have b52 := F52.binds (ps := ["_law_state", "_law_told", "_law_cutting", "_law_bent"]) fun _ _ _ _ _ _ us hl => match us, hl with | [_, _, _, _], _ => rfl
  have F53 := fun_mk (st := s__law_stands) l53 c53 k53
  have b53 := F53.binds (ps := ["_law_cutting", "_law_bent"]) fun _ _ _ _ _ _ us hl => match us, hl with | [_, _], _ => rfl
  have F54 := fun_mk (st := s__law_case) l54 c54 k54
  have b54 := F54.binds (ps := ["_law_state"]) fun _ _ _ _ _ _ us hl => match us, hl with | [_], _ => rfl
  have F55 := fun_mk (st := s_law) l55 c55 k55
  refine ⟨PySem.W.fnOf "law" "law" (defArgs s_law) (defBody s_law) (defScope s_law) .none kV55 dc55 pm55 an55 cd55 ct55, fun s v => .of_eq rfl, fun base _ _ => ?_⟩
  have Q_NoWidth : XCls K c_NoWidth f1 "found" := ⟨xe_NoWidth, xs_NoWidth, xm_NoWidth, xn_NoWidth, xf_NoWidth, xk_NoWidth⟩
  have X_NoWidth : XHasR l.prog w K mg base 1 "NoWidth" c_NoWidth "found" := ⟨_, _, _, _, ok_NoWidth___init__ F1 T Q_NoWidth, b1, Q_NoWidth, PySem.W.mg_of X G aC_NoWidth⟩
  have Q_NoForm : XCls K c_NoForm f2 "found" := ⟨xe_NoForm, xs_NoForm, xm_NoForm, xn_NoForm, xf_NoForm, xk_NoForm⟩
  have X_NoForm : XHasR l.prog w K mg base 1 "NoForm" c_NoForm "found" := ⟨_, _, _, _, ok_NoForm___init__ F2 T Q_NoForm, b2, Q_NoForm, PySem.W.mg_of X G aC_NoForm⟩
  have H_brought : HasR l.prog w K mg base (fun _ => CX0) false 1 "brought" ["reckoning", "x"] spBroG := ⟨_, _, ok_brought F6 T , b6, k6, PySem.W.mg_of X G a6⟩
  have M_Shifted_word : MHasR l.prog w K mg base (fun _ => CX0) false 1 c_Shifted "word" ["self"] (spWd 0) := ⟨T.cl_Shifted, _, _, ⟨a8, i8, k8⟩, ok_Shifted_word F8 T , b8⟩
  have M_Shifted_told : MHasR l.prog w K mg base (fun _ => CX0) false 2 c_Shifted "told" ["self"] (spTV ⟨c_Form, c_Shifted, c_Scaled, c_Early, c_More, c_Wide, c_SignedForm, c_Cutting, c_Turned, c_NoWidth, c_NoForm, c_WiseError⟩ 0) := ⟨T.cl_Shifted, _, _, ⟨a9, i9, k9⟩, ok_Shifted_told F9 T  M_Shifted_word, b9⟩
  have H_is_whole : HasR l.prog w K mg base (fun _ => CX0) false 1 "is_whole" ["thing"] spWholeG := ⟨_, _, ok_is_whole F3 T , b3, k3, PySem.W.mg_of X G a3⟩
  have H_is_between : HasR l.prog w K mg base (fun _ => CX0) false 2 "is_between" ["thing", "low", "high"] spBtwG := ⟨_, _, ok_is_between F4 T H_is_whole, b4, k4, PySem.W.mg_of X G a4⟩
  have H_is_shift : HasR l.prog w K mg base (fun _ => CX0) false 3 "is_shift" ["thing"] spShfV := ⟨_, _, ok_is_shift F29 T H_is_between, b29, k29, PySem.W.mg_of X G a29⟩
  have C_Shifted : CHasR l.prog w K mg base (fun c => CX2c c l.prog w base) true 4 c_Shifted "Shifted" ["self", "shift"] (spIV ⟨c_Form, c_Shifted, c_Scaled, c_Early, c_More, c_Wide, c_SignedForm, c_Cutting, c_Turned, c_NoWidth, c_NoForm, c_WiseError⟩ 0) := ⟨_, _, ⟨mk_Shifted, a10, i10, kc_Shifted⟩, ok_Shifted___init__ F10 T H_is_shift X_NoForm M_Shifted_told, b10, PySem.W.mg_of X G aC_Shifted⟩
  have H_need_width : HasR l.prog w K mg base (fun c => CX2c c l.prog w base) true 3 "need_width" ["width"] (spNeedV ⟨c_Form, c_Shifted, c_Scaled, c_Early, c_More, c_Wide, c_SignedForm, c_Cutting, c_Turned, c_NoWidth, c_NoForm, c_WiseError⟩) := ⟨_, _, ok_need_width F5 T H_is_between X_NoWidth, b5, k5, PySem.W.mg_of X G a5⟩
  have M_Shifted_numbers_in : MHasR l.prog w K mg base (fun c => CX2c c l.prog w base) true 4 c_Shifted "numbers_in" ["self", "width"] (spNumV ⟨c_Form, c_Shifted, c_Scaled, c_Early, c_More, c_Wide, c_SignedForm, c_Cutting, c_Turned, c_NoWidth, c_NoForm, c_WiseError⟩ 0) := ⟨T.cl_Shifted, _, _, ⟨a11, i11, k11⟩, ok_Shifted_numbers_in F11 T H_need_width, b11⟩
  have M_Scaled_word : MHasR l.prog w K mg base (fun _ => CX0) false 1 c_Scaled "word" ["self"] (spWd 1) := ⟨T.cl_Scaled, _, _, ⟨a12, i12, k12⟩, ok_Scaled_word F12 T , b12⟩
  have M_Scaled_told : MHasR l.prog w K mg base (fun _ => CX0) false 2 c_Scaled "told" ["self"] (spTV ⟨c_Form, c_Shifted, c_Scaled, c_Early, c_More, c_Wide, c_SignedForm, c_Cutting, c_Turned, c_NoWidth, c_NoForm, c_WiseError⟩ 1) := ⟨T.cl_Scaled, _, _, ⟨a13, i13, k13⟩, ok_Scaled_told F13 T  M_Scaled_word, b13⟩
  have H_is_factor : HasR l.prog w K mg base (fun _ => CX0) false 3 "is_factor" ["thing"] spFacV := ⟨_, _, ok_is_factor F28 T H_is_between, b28, k28, PySem.W.mg_of X G a28⟩
  have C_Scaled : CHasR l.prog w K mg base (fun c => CX2c c l.prog w base) true 4 c_Scaled "Scaled" ["self", "factor", "shift"] (spIV ⟨c_Form, c_Shifted, c_Scaled, c_Early, c_More, c_Wide, c_SignedForm, c_Cutting, c_Turned, c_NoWidth, c_NoForm, c_WiseError⟩ 1) := ⟨_, _, ⟨mk_Scaled, a14, i14, kc_Scaled⟩, ok_Scaled___init__ F14 T H_is_factor H_is_shift X_NoForm M_Scaled_told, b14, PySem.W.mg_of X G aC_Scaled⟩
  have M_Scaled_numbers_in : MHasR l.prog w K mg base (fun c => CX2c c l.prog w base) true 4 c_Scaled "numbers_in" ["self", "width"] (spNumV ⟨c_Form, c_Shifted, c_Scaled, c_Early, c_More, c_Wide, c_SignedForm, c_Cutting, c_Turned, c_NoWidth, c_NoForm, c_WiseError⟩ 1) := ⟨T.cl_Scaled, _, _, ⟨a15, i15, k15⟩, ok_Scaled_numbers_in F15 T H_need_width, b15⟩
  have M_Early_word : MHasR l.prog w K mg base (fun _ => CX0) false 1 c_Early "word" ["self"] (spWd 2) := ⟨T.cl_Early, _, _, ⟨a16, i16, k16⟩, ok_Early_word F16 T , b16⟩
  have M_Early_told : MHasR l.prog w K mg base (fun _ => CX0) false 2 c_Early "told" ["self"] (spTV ⟨c_Form, c_Shifted, c_Scaled, c_Early, c_More, c_Wide, c_SignedForm, c_Cutting, c_Turned, c_NoWidth, c_NoForm, c_WiseError⟩ 2) := ⟨T.cl_Early, _, _, ⟨a17, i17, k17⟩, ok_Early_told F17 T  M_Early_word, b17⟩
  have C_Early : CHasR l.prog w K mg base (fun c => CX2c c l.prog w base) true 4 c_Early "Early" ["self", "early", "factor", "shift"] (spIV ⟨c_Form, c_Shifted, c_Scaled, c_Early, c_More, c_Wide, c_SignedForm, c_Cutting, c_Turned, c_NoWidth, c_NoForm, c_WiseError⟩ 2) := ⟨_, _, ⟨mk_Early, a18, i18, kc_Early⟩, ok_Early___init__ F18 T H_is_shift H_is_factor X_NoForm M_Early_told, b18, PySem.W.mg_of X G aC_Early⟩
  have M_Early_numbers_in : MHasR l.prog w K mg base (fun c => CX2c c l.prog w base) true 4 c_Early "numbers_in" ["self", "width"] (spNumV ⟨c_Form, c_Shifted, c_Scaled, c_Early, c_More, c_Wide, c_SignedForm, c_Cutting, c_Turned, c_NoWidth, c_NoForm, c_WiseError⟩ 2) := ⟨T.cl_Early, _, _, ⟨a19, i19, k19⟩, ok_Early_numbers_in F19 T H_need_width, b19⟩
  have M_More_word : MHasR l.prog w K mg base (fun _ => CX0) false 1 c_More "word" ["self"] (spWd 3) := ⟨T.cl_More, _, _, ⟨a20, i20, k20⟩, ok_More_word F20 T , b20⟩
  have M_More_told : MHasR l.prog w K mg base (fun _ => CX0) false 2 c_More "told" ["self"] (spTV ⟨c_Form, c_Shifted, c_Scaled, c_Early, c_More, c_Wide, c_SignedForm, c_Cutting, c_Turned, c_NoWidth, c_NoForm, c_WiseError⟩ 3) := ⟨T.cl_More, _, _, ⟨a21, i21, k21⟩, ok_More_told F21 T  M_More_word, b21⟩
  have C_More : CHasR l.prog w K mg base (fun c => CX2c c l.prog w base) true 4 c_More "More" ["self", "factor", "shift"] (spIV ⟨c_Form, c_Shifted, c_Scaled, c_Early, c_More, c_Wide, c_SignedForm, c_Cutting, c_Turned, c_NoWidth, c_NoForm, c_WiseError⟩ 3) := ⟨_, _, ⟨mk_More, a22, i22, kc_More⟩, ok_More___init__ F22 T H_is_factor H_is_shift X_NoForm M_More_told, b22, PySem.W.mg_of X G aC_More⟩
  have M_More_numbers_in : MHasR l.prog w K mg base (fun c => CX2c c l.prog w base) true 4 c_More "numbers_in" ["self", "width"] (spNumV ⟨c_Form, c_Shifted, c_Scaled, c_Early, c_More, c_Wide, c_SignedForm, c_Cutting, c_Turned, c_NoWidth, c_NoForm, c_WiseError⟩ 3) := ⟨T.cl_More, _, _, ⟨a23, i23, k23⟩, ok_More_numbers_in F23 T H_need_width, b23⟩
  have M_Wide_word : MHasR l.prog w K mg base (fun _ => CX0) false 1 c_Wide "word" ["self"] (spWd 4) := ⟨T.cl_Wide, _, _, ⟨a24, i24, k24⟩, ok_Wide_word F24 T , b24⟩
  have M_Wide_told : MHasR l.prog w K mg base (fun _ => CX0) false 2 c_Wide "told" ["self"] (spTV ⟨c_Form, c_Shifted, c_Scaled, c_Early, c_More, c_Wide, c_SignedForm, c_Cutting, c_Turned, c_NoWidth, c_NoForm, c_WiseError⟩ 4) := ⟨T.cl_Wide, _, _, ⟨a25, i25, k25⟩, ok_Wide_told F25 T  M_Wide_word, b25⟩
  have C_Wide : CHasR l.prog w K mg base (fun c => CX2c c l.prog w base) true 4 c_Wide "Wide" ["self", "factor", "shift"] (spIV ⟨c_Form, c_Shifted, c_Scaled, c_Early, c_More, c_Wide, c_SignedForm, c_Cutting, c_Turned, c_NoWidth, c_NoForm, c_WiseError⟩ 4) := ⟨_, _, ⟨mk_Wide, a26, i26, kc_Wide⟩, ok_Wide___init__ F26 T H_is_factor H_is_between X_NoForm M_Wide_told, b26, PySem.W.mg_of X G aC_Wide⟩
  have M_Wide_numbers_in : MHasR l.prog w K mg base (fun c => CX2c c l.prog w base) true 4 c_Wide "numbers_in" ["self", "width"] (spNumV ⟨c_Form, c_Shifted, c_Scaled, c_Early, c_More, c_Wide, c_SignedForm, c_Cutting, c_Turned, c_NoWidth, c_NoForm, c_WiseError⟩ 4) := ⟨T.cl_Wide, _, _, ⟨a27, i27, k27⟩, ok_Wide_numbers_in F27 T H_need_width, b27⟩
  have M_Cutting_word : MHasR l.prog w K mg base (fun _ => CX0) false 1 c_Cutting "word" ["self"] (spWdS 0) := ⟨T.cl_Cutting, _, _, ⟨a30, i30, k30⟩, ok_Cutting_word F30 T , b30⟩
  have M_Cutting_told : MHasR l.prog w K mg base (fun _ => CX0) false 3 c_Cutting "told" ["self"] (spCTV ⟨c_Form, c_Shifted, c_Scaled, c_Early, c_More, c_Wide, c_SignedForm, c_Cutting, c_Turned, c_NoWidth, c_NoForm, c_WiseError⟩) := ⟨T.cl_Cutting, _, _, ⟨a31, i31, k31⟩, ok_Cutting_told F31 T  M_Cutting_word, b31⟩
  have C_Cutting : CHasR l.prog w K mg base (fun c => CX2c c l.prog w base) true 4 c_Cutting "Cutting" ["self", "factor", "shift"] (spICV ⟨c_Form, c_Shifted, c_Scaled, c_Early, c_More, c_Wide, c_SignedForm, c_Cutting, c_Turned, c_NoWidth, c_NoForm, c_WiseError⟩) := ⟨_, _, ⟨mk_Cutting, a32, i32, kc_Cutting⟩, ok_Cutting___init__ F32 T H_is_factor H_is_shift X_NoForm M_Cutting_told, b32, PySem.W.mg_of X G aC_Cutting⟩
  have M_Cutting_quotient : MHasR l.prog w K mg base (fun c => CX2c c l.prog w base) true 6 c_Cutting "quotient" ["self", "width", "x"] (spSQV ⟨c_Form, c_Shifted, c_Scaled, c_Early, c_More, c_Wide, c_SignedForm, c_Cutting, c_Turned, c_NoWidth, c_NoForm, c_WiseError⟩ 0) := ⟨T.cl_Cutting, _, _, ⟨a33, i33, k33⟩, ok_Cutting_quotient F33 T H_need_width, b33⟩
  have M_Turned_word : MHasR l.prog w K mg base (fun _ => CX0) false 1 c_Turned "word" ["self"] (spWdS 1) := ⟨T.cl_Turned, _, _, ⟨a34, i34, k34⟩, ok_Turned_word F34 T , b34⟩
  have C_Turned : CHasR l.prog w K mg base (fun c => CX2c c l.prog w base) true 3 c_Turned "Turned" ["self", "form"] (spITV ⟨c_Form, c_Shifted, c_Scaled, c_Early, c_More, c_Wide, c_SignedForm, c_Cutting, c_Turned, c_NoWidth, c_NoForm, c_WiseError⟩) := ⟨_, _, ⟨mk_Turned, a36, i36, kc_Turned⟩, ok_Turned___init__ F36 T X_NoForm, b36, PySem.W.mg_of X G aC_Turned⟩
  have MN : ∀ i, i < 5 → MHasR l.prog w K mg base (fun c => CX2c c l.prog w base) true 4 (fOf ⟨c_Form, c_Shifted, c_Scaled, c_Early, c_More, c_Wide, c_SignedForm, c_Cutting, c_Turned, c_NoWidth, c_NoForm, c_WiseError⟩ i) "numbers_in" ["self", "width"] (spNumV ⟨c_Form, c_Shifted, c_Scaled, c_Early, c_More, c_Wide, c_SignedForm, c_Cutting, c_Turned, c_NoWidth, c_NoForm, c_WiseError⟩ i) := fun i hi => by
    rcases (by omega : i = 0 ∨ i = 1 ∨ i = 2 ∨ i = 3 ∨ i = 4) with rfl | rfl | rfl | rfl | rfl
    · exact M_Shifted_numbers_in
    · exact M_Scaled_numbers_in
    · exact M_Early_numbers_in
    · exact M_More_numbers_in
    · exact M_Wide_numbers_in
  have MT : ∀ i, i < 5 → MHasR l.prog w K mg base (fun _ => CX0) false 2 (fOf ⟨c_Form, c_Shifted, c_Scaled, c_Early, c_More, c_Wide, c_SignedForm, c_Cutting, c_Turned, c_NoWidth, c_NoForm, c_WiseError⟩ i) "told" ["self"] (spTV ⟨c_Form, c_Shifted, c_Scaled, c_Early, c_More, c_Wide, c_SignedForm, c_Cutting, c_Turned, c_NoWidth, c_NoForm, c_WiseError⟩ i) := fun i hi => by
    rcases (by omega : i = 0 ∨ i = 1 ∨ i = 2 ∨ i = 3 ∨ i = 4) with rfl | rfl | rfl | rfl | rfl
    · exact M_Shifted_told
    · exact M_Scaled_told
    · exact M_Early_told
    · exact M_More_told
    · exact M_Wide_told
  have Z_MQ := ok_Form_quotient F7 T H_brought MN
  have MQ : ∀ i, i < 5 → MHasR l.prog w K mg base (fun c => CX2c c l.prog w base) true 5 (fOf ⟨c_Form, c_Shifted, c_Scaled, c_Early, c_More, c_Wide, c_SignedForm, c_Cutting, c_Turned, c_NoWidth, c_NoForm, c_WiseError⟩ i) "quotient" ["self", "width", "x"] (spQuoV ⟨c_Form, c_Shifted, c_Scaled, c_Early, c_More, c_Wide, c_SignedForm, c_Cutting, c_Turned, c_NoWidth, c_NoForm, c_WiseError⟩) := fun i hi => by
    rcases (by omega : i = 0 ∨ i = 1 ∨ i = 2 ∨ i = 3 ∨ i = 4) with rfl | rfl | rfl | rfl | rfl
    · exact ⟨T.cl_Shifted, _, _, ⟨a7, i7, k7⟩, Z_MQ, b7⟩
    · exact ⟨T.cl_Scaled, _, _, ⟨h_Scaled_quotient, i7, k7⟩, Z_MQ, b7⟩
    · exact ⟨T.cl_Early, _, _, ⟨h_Early_quotient, i7, k7⟩, Z_MQ, b7⟩
    · exact ⟨T.cl_More, _, _, ⟨h_More_quotient, i7, k7⟩, Z_MQ, b7⟩
    · exact ⟨T.cl_Wide, _, _, ⟨h_Wide_quotient, i7, k7⟩, Z_MQ, b7⟩
  have MTS : ∀ i, i < 2 → MHasR l.prog w K mg base (fun _ => CX0) false 3 (sOf ⟨c_Form, c_Shifted, c_Scaled, c_Early, c_More, c_Wide, c_SignedForm, c_Cutting, c_Turned, c_NoWidth, c_NoForm, c_WiseError⟩ i) "told" ["self"] (spST ⟨c_Form, c_Shifted, c_Scaled, c_Early, c_More, c_Wide, c_SignedForm, c_Cutting, c_Turned, c_NoWidth, c_NoForm, c_WiseError⟩ i) := fun i hi => by
    rcases (by omega : i = 0 ∨ i = 1) with rfl | rfl
    · exact M_Cutting_told.imp ctv_st
    · exact ⟨T.cl_Turned, _, _, ⟨a35, i35, k35⟩, ok_Turned_told F35 T M_Turned_word MT, b35⟩
  have MQS : ∀ i, i < 2 → MHasR l.prog w K mg base (fun c => CX2c c l.prog w base) true 6 (sOf ⟨c_Form, c_Shifted, c_Scaled, c_Early, c_More, c_Wide, c_SignedForm, c_Cutting, c_Turned, c_NoWidth, c_NoForm, c_WiseError⟩ i) "quotient" ["self", "width", "x"] (spSQV ⟨c_Form, c_Shifted, c_Scaled, c_Early, c_More, c_Wide, c_SignedForm, c_Cutting, c_Turned, c_NoWidth, c_NoForm, c_WiseError⟩ i) := fun i hi => by
    rcases (by omega : i = 0 ∨ i = 1) with rfl | rfl
    · exact M_Cutting_quotient
    · exact ⟨T.cl_Turned, _, _, ⟨a37, i37, k37⟩, ok_Turned_quotient F37 T H_need_width MQ, b37⟩
  have MWS : ∀ i, i < 2 → MHasR l.prog w K mg base (fun _ => CX0) false 1 (sOf ⟨c_Form, c_Shifted, c_Scaled, c_Early, c_More, c_Wide, c_SignedForm, c_Cutting, c_Turned, c_NoWidth, c_NoForm, c_WiseError⟩ i) "word" ["self"] (spWdS i) := fun i hi => by
    rcases (by omega : i = 0 ∨ i = 1) with rfl | rfl
    · exact M_Cutting_word
    · exact M_Turned_word
  have MT3 : ∀ i, i < 5 → MHasR l.prog w K mg base (fun _ => CX0) false 3 (fOf ⟨c_Form, c_Shifted, c_Scaled, c_Early, c_More, c_Wide, c_SignedForm, c_Cutting, c_Turned, c_NoWidth, c_NoForm, c_WiseError⟩ i) "told" ["self"] (spTV ⟨c_Form, c_Shifted, c_Scaled, c_Early, c_More, c_Wide, c_SignedForm, c_Cutting, c_Turned, c_NoWidth, c_NoForm, c_WiseError⟩ i) := fun i hi => (MT i hi).mono (by decide)
  have H__law_draw : Has l.prog w K mg base 1 "_law_draw" ["_law_state", "_law_size"] spTake := ⟨_, _, ok__law_draw F39 T , b39, k39, PySem.W.mg_of X G a39⟩
  have H__law_end : Has l.prog w K mg base 2 "_law_end" ["_law_state", "_law_low", "_law_last"] spEnd := ⟨_, _, ok__law_end F44 T H__law_draw, b44, k44, PySem.W.mg_of X G a44⟩
  have H__law_any : Has l.prog w K mg base 3 "_law_any" ["_law_state"] spAny31 := ⟨_, _, ok__law_any F45 T H__law_draw H__law_end, b45, k45, PySem.W.mg_of X G a45⟩
  have H__law_make : HasR l.prog w K mg base (fun c => CX2c c l.prog w base) true 6 "_law_make" ["_law_told"] (spMakeV ⟨c_Form, c_Shifted, c_Scaled, c_Early, c_More, c_Wide, c_SignedForm, c_Cutting, c_Turned, c_NoWidth, c_NoForm, c_WiseError⟩) := ⟨_, _, ok__law_make F41 T C_Wide C_Shifted C_Scaled C_Early C_More, b41, k41, PySem.W.mg_of X G a41⟩
  have H__law_count : Has l.prog w K mg base 2 "_law_count" ["_law_state", "_law_width"] spCnt := ⟨_, _, ok__law_count F46 T H__law_draw, b46, k46, PySem.W.mg_of X G a46⟩
  have H__law_no_cutting : Has l.prog w K mg base 6 "_law_no_cutting" ["_law_state"] (spNC ⟨c_Form, c_Shifted, c_Scaled, c_Early, c_More, c_Wide, c_SignedForm, c_Cutting, c_Turned, c_NoWidth, c_NoForm, c_WiseError⟩) := ⟨_, _, ok__law_no_cutting F50 T H__law_draw H__law_end C_Cutting, b50, k50, PySem.W.mg_of X G a50⟩
  have H__law_no_signed : HasR l.prog w K mg base (fun _ => CX0) true 5 "_law_no_signed" ["_law_form"] (spNS ⟨c_Form, c_Shifted, c_Scaled, c_Early, c_More, c_Wide, c_SignedForm, c_Cutting, c_Turned, c_NoWidth, c_NoForm, c_WiseError⟩) := ⟨_, _, ok__law_no_signed F51 T C_Turned MTS, b51, k51, PySem.W.mg_of X G a51⟩
  have H__law_no_turned : Has l.prog w K mg base 6 "_law_no_turned" ["_law_state", "_law_told", "_law_cutting", "_law_bent"] (spNT ⟨c_Form, c_Shifted, c_Scaled, c_Early, c_More, c_Wide, c_SignedForm, c_Cutting, c_Turned, c_NoWidth, c_NoForm, c_WiseError⟩) := ⟨_, _, ok__law_no_turned F52 T H__law_draw H__law_no_signed C_Turned, b52, k52, PySem.W.mg_of X G a52⟩
  have H__law_whole : Has l.prog w K mg base 1 "_law_whole" ["_law_found"] spWhole := ⟨_, _, ok__law_whole F42 T , b42, k42, PySem.W.mg_of X G a42⟩
  have H__law_cutting_right : Has l.prog w K mg base 7 "_law_cutting_right" ["_law_cutting", "_law_factor", "_law_shift", "_law_width", "_law_x"] (spCR ⟨c_Form, c_Shifted, c_Scaled, c_Early, c_More, c_Wide, c_SignedForm, c_Cutting, c_Turned, c_NoWidth, c_NoForm, c_WiseError⟩) := ⟨_, _, ok__law_cutting_right F48 T H__law_whole MQS, b48, k48, PySem.W.mg_of X G a48⟩
  have H__law_stands : Has l.prog w K mg base 1 "_law_stands" ["_law_cutting", "_law_bent"] (spStd ⟨c_Form, c_Shifted, c_Scaled, c_Early, c_More, c_Wide, c_SignedForm, c_Cutting, c_Turned, c_NoWidth, c_NoForm, c_WiseError⟩) := ⟨_, _, ok__law_stands F53 T , b53, k53, PySem.W.mg_of X G a53⟩
  have H__law_no_width : Has l.prog w K mg base 7 "_law_no_width" ["_law_form", "_law_width"] (spNWS ⟨c_Form, c_Shifted, c_Scaled, c_Early, c_More, c_Wide, c_SignedForm, c_Cutting, c_Turned, c_NoWidth, c_NoForm, c_WiseError⟩) := ⟨_, _, ok__law_no_width F49 T  MQS, b49, k49, PySem.W.mg_of X G a49⟩
  have H__law_brought : Has l.prog w K mg base 1 "_law_brought" ["_law_numbers_here", "_law_x"] spBroG := ⟨_, _, ok__law_brought F43 T , b43, k43, PySem.W.mg_of X G a43⟩
  have H__law_numbers : Has l.prog w K mg base 1 "_law_numbers" ["_law_told", "_law_width"] spNumb := ⟨_, _, ok__law_numbers F40 T , b40, k40, PySem.W.mg_of X G a40⟩
  have H__law_turned_right : Has l.prog w K mg base 7 "_law_turned_right" ["_law_bent", "_law_told", "_law_width", "_law_x"] (spTR ⟨c_Form, c_Shifted, c_Scaled, c_Early, c_More, c_Wide, c_SignedForm, c_Cutting, c_Turned, c_NoWidth, c_NoForm, c_WiseError⟩) := ⟨_, _, ok__law_turned_right F47 T H__law_brought H__law_numbers H__law_whole MQS, b47, k47, PySem.W.mg_of X G a47⟩
  have H__law_case : Has l.prog w K mg base 8 "_law_case" ["_law_state"] (spCase21 ⟨c_Form, c_Shifted, c_Scaled, c_Early, c_More, c_Wide, c_SignedForm, c_Cutting, c_Turned, c_NoWidth, c_NoForm, c_WiseError⟩) := ⟨_, _, ok__law_case F54 T H__law_any H__law_end H__law_make H__law_count H__law_draw H__law_no_cutting H__law_no_turned H__law_cutting_right H__law_stands H__law_no_width H__law_turned_right C_Cutting C_Turned MTS MWS MT3, b54, k54, PySem.W.mg_of X G a54⟩
  have H__law_start : Has l.prog w K mg base 1 "_law_start" ["_law_script", "_law_k"] (spStart K) := ⟨_, _, ok__law_start F38 T , b38, k38, PySem.W.mg_of X G a38⟩
  exact ok_law F55 T H__law_case H__law_start
theorem walk {l : PySem.W.OpenLaw} {q : Program} {loose : List Str} {XP : (Str → Option Value) → Heap → Prop} {YP : World → Heap → Prop} {d : DefRec} {K : Params → PySem.W.Frag} (hn : l.most = some 63) (hdf : d.params.defaults = [])
    (hY : ∀ (w : World) (h : Heap), YP w h → (K w.params).In h)
    (F : ∀ (w : World) (mg : Str → Option Value) (fa : Addr) (h : Heap), (K w.params).In h → h.Ns mainGlobals mg → mg d.name = some (.ref fa) →
      ∃ fd : FuncData, (∀ (s : Shared) (u : Value), BindsTo s fd ⟨[u], []⟩ [("_law_script", u)]) ∧ ∀ base : Heap, (K w.params).In base → base.Ns mainGlobals mg → FnOk l.prog w (K w.params) mg base CX0 9 fa fd ["_law_script"] (spLaw (K w.params))) :
    PySem.W.WalkO q loose XP YP l.row.toRowW d [] (fun f vs => PySem.call f vs) :=
  L2.walk_of (n := 63) (k := 9) (x := "_law_script") (CX := fun _ => CX0) (sp := fun w => spLaw (K w.params)) hn (by decide) hdf ⟨rfl, by decide, by decide, rfl⟩ hY F (fun _ _ a ns hl _ hS => ⟨a, ns, rfl, hS, hl, fun _ => rfl⟩) fun _ _ _ _ _ z => z
end Ow
open PySem PySem.W PyProof.Rows
def PySem.W.Fast.tw2145086883877802424 : Nat := 0
def PySem.W.Fast.tw4144772754409568165 : Nat := 0
def PySem.W.Fast.tw10895704906258855011 : Nat := 0
def PySem.W.Fast.tw3839921171077626573 : Nat := 0
def PySem.W.Fast.tw10807137032069364429 : Nat := 0
def PySem.W.Fast.tw16330331951935013425 : Nat := 0
def PySem.W.Fast.tw16809843504674254917 : Nat := 0
def PySem.W.Fast.tw17358688318463234088 : Nat := 0
def PySem.W.Fast.tw8415449716947632512 : Nat := 0
def PySem.W.Fast.tw14008296416676945933 : Nat := 0
def PySem.W.Fast.tw4268747932553230048 : Nat := 0
def PySem.W.Fast.tw5203055948103765306 : Nat := 0
def PySem.W.Fast.tw4362002270690104077 : Nat := 0
def PySem.W.Fast.tw354419906185316487 : Nat := 0
def PySem.W.Fast.tw6419004613033498293 : Nat := 0
def PySem.W.Fast.tw9453961133808214014 : Nat := 0
def PySem.W.Fast.tw5519387006729204143 : Nat := 0
def PySem.W.Fast.tw18263980779757406279 : Nat := 0
def PySem.W.Fast.tw4548097343238582972 : Nat := 0
def PySem.W.Fast.tw4164149735445224746 : Nat := 0
def PySem.W.Fast.tw10150140422779006318 : Nat := 0
def PySem.W.Fast.tw5807542771910566342 : Nat := 0
def PySem.W.Fast.tw12552614546845140029 : Nat := 0
def PySem.W.Fast.tw9830487056270586279 : Nat := 0
def PySem.W.Fast.tw4568895002140071691 : Nat := 0
def PySem.W.Fast.tw11366029904239764442 : Nat := 0
def PySem.W.Fast.tw15144266008169585978 : Nat := 0
def PySem.W.Fast.tw461862629781338098 : Nat := 0
def PySem.W.Fast.tw7036150950468476139 : Nat := 0
def PySem.W.Fast.tw289061946718966629 : Nat := 0
def PySem.W.Fast.tw6266437258590789120 : Nat := 0
def PySem.W.Fast.tw9018645704593858807 : Nat := 0
def PySem.W.Fast.tw1456537086332139992 : Nat := 0
def PySem.W.Fast.tw3220467269797674089 : Nat := 0
set_option maxRecDepth 100000 in
set_option maxHeartbeats 0 in
theorem PySem.Challenge.cw_overwise_k31_signed_forms_told_holds : PySem.Challenge.rw_overwise_k31_signed_forms_told.Holds := by
  w_on; o_law; k_head; (case hw => w_witness2)
  k_fill
  refine Ow.walk (l := PySem.Challenge.rw_overwise_k31_signed_forms_told) rfl rfl (fun w h Y => PySem.W.kIn_of Y) ?F
  case F =>
    intro w mg fa h KX G hmg
    refine' Ow.all_mk KX G hmg ?a1 ?i1 ?l1 ?c1 ?k1 ?a2 ?i2 ?l2 ?c2 ?k2 ?a3 ?l3 ?c3 ?k3 ?a4 ?l4 ?c4 ?k4 ?a5 ?l5 ?c5 ?k5 ?a6 ?l6 ?c6 ?k6 ?a7 ?i7 ?h_Scaled_quotient ?h_Early_quotient ?h_More_quotient ?h_Wide_quotient ?l7 ?c7 ?k7 ?a8 ?i8 ?l8 ?c8 ?k8 ?a9 ?i9 ?l9 ?c9 ?k9 ?a10 ?i10 ?l10 ?c10 ?k10 ?a11 ?i11 ?l11 ?c11 ?k11 ?a12 ?i12 ?l12 ?c12 ?k12 ?a13 ?i13 ?l13 ?c13 ?k13 ?a14 ?i14 ?l14 ?c14 ?k14 ?a15 ?i15 ?l15 ?c15 ?k15 ?a16 ?i16 ?l16 ?c16 ?k16 ?a17 ?i17 ?l17 ?c17 ?k17 ?a18 ?i18 ?l18 ?c18 ?k18 ?a19 ?i19 ?l19 ?c19 ?k19 ?a20 ?i20 ?l20 ?c20 ?k20 ?a21 ?i21 ?l21 ?c21 ?k21 ?a22 ?i22 ?l22 ?c22 ?k22 ?a23 ?i23 ?l23 ?c23 ?k23 ?a24 ?i24 ?l24 ?c24 ?k24 ?a25 ?i25 ?l25 ?c25 ?k25 ?a26 ?i26 ?l26 ?c26 ?k26 ?a27 ?i27 ?l27 ?c27 ?k27 ?a28 ?l28 ?c28 ?k28 ?a29 ?l29 ?c29 ?k29 ?a30 ?i30 ?l30 ?c30 ?k30 ?a31 ?i31 ?l31 ?c31 ?k31 ?a32 ?i32 ?l32 ?c32 ?k32 ?a33 ?i33 ?l33 ?c33 ?k33 ?a34 ?i34 ?l34 ?c34 ?k34 ?a35 ?i35 ?l35 ?c35 ?k35 ?a36 ?i36 ?l36 ?c36 ?k36 ?a37 ?i37 ?l37 ?c37 ?k37 ?a38 ?l38 ?c38 ?k38 ?a39 ?l39 ?c39 ?k39 ?a40 ?l40 ?c40 ?k40 ?a41 ?l41 ?c41 ?k41 ?a42 ?l42 ?c42 ?k42 ?a43 ?l43 ?c43 ?k43 ?a44 ?l44 ?c44 ?k44 ?a45 ?l45 ?c45 ?k45 ?a46 ?l46 ?c46 ?k46 ?a47 ?l47 ?c47 ?k47 ?a48 ?l48 ?c48 ?k48 ?a49 ?l49 ?c49 ?k49 ?a50 ?l50 ?c50 ?k50 ?a51 ?l51 ?c51 ?k51 ?a52 ?l52 ?c52 ?k52 ?a53 ?l53 ?c53 ?k53 ?a54 ?l54 ?c54 ?k54 ?a55 ?l55 ?c55 ?k55 ?aC_Form ?pg_Form ?hd_Form ?po_Form ?sa_Form ?aC_Shifted ?pg_Shifted ?hd_Shifted ?po_Shifted ?sa_Shifted ?mk_Shifted ?kc_Shifted ?na_Shifted_shift ?aC_Scaled ?pg_Scaled ?hd_Scaled ?po_Scaled ?sa_Scaled ?mk_Scaled ?kc_Scaled ?na_Scaled_factor ?na_Scaled_shift ?aC_Early ?pg_Early ?hd_Early ?po_Early ?sa_Early ?mk_Early ?kc_Early ?na_Early_early ?na_Early_factor ?na_Early_shift ?aC_More ?pg_More ?hd_More ?po_More ?sa_More ?mk_More ?kc_More ?na_More_factor ?na_More_shift ?aC_Wide ?pg_Wide ?hd_Wide ?po_Wide ?sa_Wide ?mk_Wide ?kc_Wide ?na_Wide_factor ?na_Wide_shift ?aC_SignedForm ?pg_SignedForm ?hd_SignedForm ?po_SignedForm ?sa_SignedForm ?aC_Cutting ?pg_Cutting ?hd_Cutting ?po_Cutting ?sa_Cutting ?mk_Cutting ?kc_Cutting ?na_Cutting_factor ?na_Cutting_shift ?aC_Turned ?pg_Turned ?hd_Turned ?po_Turned ?sa_Turned ?mk_Turned ?kc_Turned ?na_Turned_form ?aC_NoWidth ?aC_NoForm ?aC_WiseError ?xe_NoWidth ?xs_NoWidth ?xm_NoWidth ?xn_NoWidth ?xf_NoWidth ?xk_NoWidth ?xe_NoForm ?xs_NoForm ?xm_NoForm ?xn_NoForm ?xf_NoForm ?xk_NoForm   ?kf_kc ?kf_kt ?kf_og ?kf_ot ?kf_dc_Shifted ?kf_dc_Scaled ?kf_dc_Early ?kf_dc_More ?kf_dc_Wide ?kf_mo_Shifted ?kf_mo_Scaled ?kf_mo_Early ?kf_mo_More ?kf_mo_Wide ?kf_ik_Shifted ?kf_ik_Scaled ?kf_ik_Early ?kf_ik_More ?kf_ik_Wide ?kf_ic_Shifted ?kf_tc_Shifted ?kf_ic_Scaled ?kf_tc_Scaled ?kf_ic_Early ?kf_tc_Early ?kf_ic_More ?kf_tc_More ?kf_ic_Wide ?kf_tc_Wide ?kf_if__NoWidth ?kf_tf_NoWidth ?kf_mf_NoWidth ?kf_wb_NoWidth ?kf_ga_NoWidth ?kf_gn_NoWidth ?kf_gc_NoWidth ?kf_mo_NoWidth ?kf_mb_NoWidth ?kf_hd_NoWidth ?kf_nf_NoWidth ?kf_if__NoForm ?kf_tf_NoForm ?kf_mf_NoForm ?kf_wb_NoForm ?kf_ga_NoForm ?kf_gn_NoForm ?kf_gc_NoForm ?kf_mo_NoForm ?kf_mb_NoForm ?kf_hd_NoForm ?kf_nf_NoForm ?kf_dc_Cutting ?kf_mo_Cutting ?kf_dc_Turned ?kf_mo_Turned ?kf_ic_Cutting ?kf_tc_Cutting ?kf_ic_Turned ?kf_tc_Turned ?kf_ic_SignedForm ?kf_tc_SignedForm ?kf_m_Cutting_SignedForm ?kf_m_Cutting_Form ?kf_m_Cutting_Cutting ?kf_m_Cutting_Turned ?kf_m_Turned_SignedForm ?kf_m_Turned_Form ?kf_m_Turned_Cutting ?kf_m_Turned_Turned ?z_isinstance ?z_int ?z_bool ?z_len ?z_max ?z_min ?z_range ?z_repr ?z_abs
    (case aC_NoWidth => k_is)
    (case aC_NoForm => k_is)
    (case aC_WiseError => k_is)
    (case aC_Form => k_is); (case pg_Form => k_is); (case hd_Form => k_is); (case po_Form => k_is); (case sa_Form => k_is)
    (case aC_Shifted => k_is); (case pg_Shifted => k_is); (case hd_Shifted => k_is); (case po_Shifted => k_is); (case sa_Shifted => k_is)
    (case mk_Shifted => k_is); (case kc_Shifted => k_is)
    (case na_Shifted_shift => k_is)
    (case aC_Scaled => k_is); (case pg_Scaled => k_is); (case hd_Scaled => k_is); (case po_Scaled => k_is); (case sa_Scaled => k_is)
    (case mk_Scaled => k_is); (case kc_Scaled => k_is)
    (case na_Scaled_factor => k_is)
    (case na_Scaled_shift => k_is)
    (case aC_Early => k_is); (case pg_Early => k_is); (case hd_Early => k_is); (case po_Early => k_is); (case sa_Early => k_is)
    (case mk_Early => k_is); (case kc_Early => k_is)
    (case na_Early_early => k_is)
    (case na_Early_factor => k_is)
    (case na_Early_shift => k_is)
    (case aC_More => k_is); (case pg_More => k_is); (case hd_More => k_is); (case po_More => k_is); (case sa_More => k_is)
    (case mk_More => k_is); (case kc_More => k_is)
    (case na_More_factor => k_is)
    (case na_More_shift => k_is)
    (case aC_Wide => k_is); (case pg_Wide => k_is); (case hd_Wide => k_is); (case po_Wide => k_is); (case sa_Wide => k_is)
    (case mk_Wide => k_is); (case kc_Wide => k_is)
    (case na_Wide_factor => k_is)
    (case na_Wide_shift => k_is)
    (case aC_SignedForm => k_is); (case pg_SignedForm => k_is); (case hd_SignedForm => k_is); (case po_SignedForm => k_is); (case sa_SignedForm => k_is)
    (case aC_Cutting => k_is); (case pg_Cutting => k_is); (case hd_Cutting => k_is); (case po_Cutting => k_is); (case sa_Cutting => k_is)
    (case mk_Cutting => k_is); (case kc_Cutting => k_is)
    (case na_Cutting_factor => k_is)
    (case na_Cutting_shift => k_is)
    (case aC_Turned => k_is); (case pg_Turned => k_is); (case hd_Turned => k_is); (case po_Turned => k_is); (case sa_Turned => k_is)
    (case mk_Turned => k_is); (case kc_Turned => k_is)
    (case na_Turned_form => k_is)
    (case a1 => k_is); (case i1 => k_is); (case l1 => k_is); (case c1 => k_is); (case k1 => k_is)
    (case a2 => k_is); (case i2 => k_is); (case l2 => k_is); (case c2 => k_is); (case k2 => k_is)
    (case a3 => k_is); (case l3 => k_is); (case c3 => k_is); (case k3 => k_is)
    (case a4 => k_is); (case l4 => k_is); (case c4 => k_is); (case k4 => k_is)
    (case a5 => k_is); (case l5 => k_is); (case c5 => k_is); (case k5 => k_is)
    (case a6 => k_is); (case l6 => k_is); (case c6 => k_is); (case k6 => k_is)
    (case a7 => k_is); (case i7 => k_is); (case h_Scaled_quotient => k_is); (case h_Early_quotient => k_is); (case h_More_quotient => k_is); (case h_Wide_quotient => k_is); (case l7 => k_is); (case c7 => k_is); (case k7 => k_is)
    (case a8 => k_is); (case i8 => k_is); (case l8 => k_is); (case c8 => k_is); (case k8 => k_is)
    (case a9 => k_is); (case i9 => k_is); (case l9 => k_is); (case c9 => k_is); (case k9 => k_is)
    (case a10 => k_is); (case i10 => k_is); (case l10 => k_is); (case c10 => k_is); (case k10 => k_is)
    (case a11 => k_is); (case i11 => k_is); (case l11 => k_is); (case c11 => k_is); (case k11 => k_is)
    (case a12 => k_is); (case i12 => k_is); (case l12 => k_is); (case c12 => k_is); (case k12 => k_is)
    (case a13 => k_is); (case i13 => k_is); (case l13 => k_is); (case c13 => k_is); (case k13 => k_is)
    (case a14 => k_is); (case i14 => k_is); (case l14 => k_is); (case c14 => k_is); (case k14 => k_is)
    (case a15 => k_is); (case i15 => k_is); (case l15 => k_is); (case c15 => k_is); (case k15 => k_is)
    (case a16 => k_is); (case i16 => k_is); (case l16 => k_is); (case c16 => k_is); (case k16 => k_is)
    (case a17 => k_is); (case i17 => k_is); (case l17 => k_is); (case c17 => k_is); (case k17 => k_is)
    (case a18 => k_is); (case i18 => k_is); (case l18 => k_is); (case c18 => k_is); (case k18 => k_is)
    (case a19 => k_is); (case i19 => k_is); (case l19 => k_is); (case c19 => k_is); (case k19 => k_is)
    (case a20 => k_is); (case i20 => k_is); (case l20 => k_is); (case c20 => k_is); (case k20 => k_is)
    (case a21 => k_is); (case i21 => k_is); (case l21 => k_is); (case c21 => k_is); (case k21 => k_is)
    (case a22 => k_is); (case i22 => k_is); (case l22 => k_is); (case c22 => k_is); (case k22 => k_is)
    (case a23 => k_is); (case i23 => k_is); (case l23 => k_is); (case c23 => k_is); (case k23 => k_is)
    (case a24 => k_is); (case i24 => k_is); (case l24 => k_is); (case c24 => k_is); (case k24 => k_is)
    (case a25 => k_is); (case i25 => k_is); (case l25 => k_is); (case c25 => k_is); (case k25 => k_is)
    (case a26 => k_is); (case i26 => k_is); (case l26 => k_is); (case c26 => k_is); (case k26 => k_is)
    (case a27 => k_is); (case i27 => k_is); (case l27 => k_is); (case c27 => k_is); (case k27 => k_is)
    (case a28 => k_is); (case l28 => k_is); (case c28 => k_is); (case k28 => k_is)
    (case a29 => k_is); (case l29 => k_is); (case c29 => k_is); (case k29 => k_is)
    (case a30 => k_is); (case i30 => k_is); (case l30 => k_is); (case c30 => k_is); (case k30 => k_is)
    (case a31 => k_is); (case i31 => k_is); (case l31 => k_is); (case c31 => k_is); (case k31 => k_is)
    (case a32 => k_is); (case i32 => k_is); (case l32 => k_is); (case c32 => k_is); (case k32 => k_is)
    (case a33 => k_is); (case i33 => k_is); (case l33 => k_is); (case c33 => k_is); (case k33 => k_is)
    (case a34 => k_is); (case i34 => k_is); (case l34 => k_is); (case c34 => k_is); (case k34 => k_is)
    (case a35 => k_is); (case i35 => k_is); (case l35 => k_is); (case c35 => k_is); (case k35 => k_is)
    (case a36 => k_is); (case i36 => k_is); (case l36 => k_is); (case c36 => k_is); (case k36 => k_is)
    (case a37 => k_is); (case i37 => k_is); (case l37 => k_is); (case c37 => k_is); (case k37 => k_is)
    (case a38 => k_is); (case l38 => k_is); (case c38 => k_is); (case k38 => k_is)
    (case a39 => k_is); (case l39 => k_is); (case c39 => k_is); (case k39 => k_is)
    (case a40 => k_is); (case l40 => k_is); (case c40 => k_is); (case k40 => k_is)
    (case a41 => k_is); (case l41 => k_is); (case c41 => k_is); (case k41 => k_is)
    (case a42 => k_is); (case l42 => k_is); (case c42 => k_is); (case k42 => k_is)
    (case a43 => k_is); (case l43 => k_is); (case c43 => k_is); (case k43 => k_is)
    (case a44 => k_is); (case l44 => k_is); (case c44 => k_is); (case k44 => k_is)
    (case a45 => k_is); (case l45 => k_is); (case c45 => k_is); (case k45 => k_is)
    (case a46 => k_is); (case l46 => k_is); (case c46 => k_is); (case k46 => k_is)
    (case a47 => k_is); (case l47 => k_is); (case c47 => k_is); (case k47 => k_is)
    (case a48 => k_is); (case l48 => k_is); (case c48 => k_is); (case k48 => k_is)
    (case a49 => k_is); (case l49 => k_is); (case c49 => k_is); (case k49 => k_is)
    (case a50 => k_is); (case l50 => k_is); (case c50 => k_is); (case k50 => k_is)
    (case a51 => k_is); (case l51 => k_is); (case c51 => k_is); (case k51 => k_is)
    (case a52 => k_is); (case l52 => k_is); (case c52 => k_is); (case k52 => k_is)
    (case a53 => k_is); (case l53 => k_is); (case c53 => k_is); (case k53 => k_is)
    (case a54 => k_is); (case l54 => k_is); (case c54 => k_is); (case k54 => k_is)
    (case a55 => k_is); (case l55 => k_is); (case c55 => k_is); (case k55 => k_is)
    (case xe_NoWidth => kernel_rfl); (case xs_NoWidth => k_is); (case xm_NoWidth => k_is); (case xn_NoWidth => k_is); (case xf_NoWidth => k_is); (case xk_NoWidth => k_is)
    (case xe_NoForm => kernel_rfl); (case xs_NoForm => k_is); (case xm_NoForm => k_is); (case xn_NoForm => k_is); (case xf_NoForm => k_is); (case xk_NoForm => k_is)
    (case kf_kc => k_is)
    (case kf_kt => k_is)
    (case kf_og => k_is)
    (case kf_ot => k_is)
    (case kf_dc_Shifted => k_is)
    (case kf_dc_Scaled => k_is)
    (case kf_dc_Early => k_is)
    (case kf_dc_More => k_is)
    (case kf_dc_Wide => k_is)
    (case kf_mo_Shifted => k_is)
    (case kf_mo_Scaled => k_is)
    (case kf_mo_Early => k_is)
    (case kf_mo_More => k_is)
    (case kf_mo_Wide => k_is)
    (case kf_ik_Shifted => k_is)
    (case kf_ik_Scaled => k_is)
    (case kf_ik_Early => k_is)
    (case kf_ik_More => k_is)
    (case kf_ik_Wide => k_is)
    (case kf_ic_Shifted => k_is)
    (case kf_tc_Shifted => k_is)
    (case kf_ic_Scaled => k_is)
    (case kf_tc_Scaled => k_is)
    (case kf_ic_Early => k_is)
    (case kf_tc_Early => k_is)
    (case kf_ic_More => k_is)
    (case kf_tc_More => k_is)
    (case kf_ic_Wide => k_is)
    (case kf_tc_Wide => k_is)
    (case kf_if__NoWidth => k_is)
    (case kf_tf_NoWidth => k_is)
    (case kf_mf_NoWidth => k_is)
    (case kf_wb_NoWidth => k_is)
    (case kf_ga_NoWidth => k_is)
    (case kf_gn_NoWidth => k_is)
    (case kf_gc_NoWidth => k_is)
    (case kf_mo_NoWidth => k_is)
    (case kf_mb_NoWidth => k_is)
    (case kf_hd_NoWidth => k_is)
    (case kf_nf_NoWidth => k_is)
    (case kf_if__NoForm => k_is)
    (case kf_tf_NoForm => k_is)
    (case kf_mf_NoForm => k_is)
    (case kf_wb_NoForm => k_is)
    (case kf_ga_NoForm => k_is)
    (case kf_gn_NoForm => k_is)
    (case kf_gc_NoForm => k_is)
    (case kf_mo_NoForm => k_is)
    (case kf_mb_NoForm => k_is)
    (case kf_hd_NoForm => k_is)
    (case kf_nf_NoForm => k_is)
    (case kf_dc_Cutting => k_is)
    (case kf_mo_Cutting => k_is)
    (case kf_dc_Turned => k_is)
    (case kf_mo_Turned => k_is)
    (case kf_ic_Cutting => k_is)
    (case kf_tc_Cutting => k_is)
    (case kf_ic_Turned => k_is)
    (case kf_tc_Turned => k_is)
    (case kf_ic_SignedForm => k_is)
    (case kf_tc_SignedForm => k_is)
    (case kf_m_Cutting_SignedForm => k_is)
    (case kf_m_Cutting_Form => k_is)
    (case kf_m_Cutting_Cutting => k_is)
    (case kf_m_Cutting_Turned => k_is)
    (case kf_m_Turned_SignedForm => k_is)
    (case kf_m_Turned_Form => k_is)
    (case kf_m_Turned_Cutting => k_is)
    (case kf_m_Turned_Turned => k_is)
    (case z_isinstance => k_is)
    (case z_int => k_is)
    (case z_bool => k_is)
    (case z_len => k_is)
    (case z_max => k_is)
    (case z_min => k_is)
    (case z_range => k_is)
    (case z_repr => k_is)
    (case z_abs => k_is)

