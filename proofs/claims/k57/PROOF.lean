import PyProof.Rows.All
import Wide.All
import OpenK.AllK
import Wide.FinOn
import Lean
import PyProof.EqAt
import PyProof.EqKinds
import PyProof.TupleCall
import KE.BitLaws
import KE.IntBitsLaws
import KE.KIntText
import PySem.Challenge.RW_overwise_k57_forged_rows
set_option Elab.async false
set_option linter.all false
set_option maxRecDepth 100000
namespace L2
open PySem PySem.Spec PyProof.Rows
abbrev Key := Sum Int Str
def keyIs : Key → Value → Bool
  | .inl k, v => Value.isInt k v
  | .inr x, v => Value.isStrOf x v
def keyH (w : World) : Key → Int
  | .inl k => hashInt k
  | .inr x => hashStr w x
theorem keyIs_shape : ∀ {k : Key} {v : Value}, keyIs k v = true → (∃ i t, k = Sum.inl i ∧ v = Value.int i t) ∨ (∃ x t, k = Sum.inr x ∧ v = Value.str x t)
  | .inl i, v, h => by
    obtain ⟨t, e⟩ := Value.isInt_shape (k := i) (v := v) h
    exact .inl ⟨i, t, rfl, e⟩
  | .inr x, v, h => by
    obtain ⟨t, e⟩ := Value.isStrOf_shape (x := x) (v := v) h
    exact .inr ⟨x, t, rfl, e⟩
theorem key_ll (a b : Int) : decide ((Sum.inl a : Key) = Sum.inl b) = (a == b) := by
  by_cases e : a = b
  · subst e; simp
  · have h : ¬ (Sum.inl a : Key) = Sum.inl b := fun q => e (Sum.inl.inj q)
    rw [decide_eq_false h]
    exact (beq_eq_false_iff_ne.mpr e).symm
theorem key_rr (a b : Str) : decide ((Sum.inr a : Key) = Sum.inr b) = decide (a = b) := by
  by_cases e : a = b
  · subst e; simp
  · have h : ¬ (Sum.inr a : Key) = Sum.inr b := fun q => e (Sum.inr.inj q)
    rw [decide_eq_false h, decide_eq_false e]
theorem key_lr (a : Int) (b : Str) : decide ((Sum.inl a : Key) = Sum.inr b) = false := decide_eq_false (fun q => nomatch q)
theorem key_rl (a : Str) (b : Int) : decide ((Sum.inr a : Key) = Sum.inl b) = false := decide_eq_false (fun q => nomatch q)
def mixKind (prog : Program) (w : World) : PySem.KeyKind prog w Key where
  is := keyIs
  hash := keyH w
  inj := fun v a b ha hb => by
    rcases keyIs_shape ha with ⟨i, t, rfl, rfl⟩ | ⟨x, t, rfl, rfl⟩
    · rcases keyIs_shape hb with ⟨j, u, rfl, e⟩ | ⟨y, u, rfl, e⟩
      · injection e with e1 _; rw [e1]
      · exact nomatch e
    · rcases keyIs_shape hb with ⟨j, u, rfl, e⟩ | ⟨y, u, rfl, e⟩
      · exact nomatch e
      · injection e with e1 _; rw [e1]
  byValue := fun k v h => by
    rcases keyIs_shape h with ⟨i, t, rfl, rfl⟩ | ⟨x, t, rfl, rfl⟩ <;> rfl
  pyHash := fun hv h => by
    rcases keyIs_shape hv with ⟨i, t, rfl, rfl⟩ | ⟨x, t, rfl, rfl⟩
    · exact wpAny_pyHash_int h
    · exact wpAny_pyHash_str h
  eqBool := fun hu hv h => by
    rcases keyIs_shape hu with ⟨i, t, rfl, rfl⟩ | ⟨x, t, rfl, rfl⟩
    · rcases keyIs_shape hv with ⟨j, u, rfl, rfl⟩ | ⟨y, u, rfl, rfl⟩
      · rw [key_ll] at h; exact wpAny_eqBool_int h
      · rw [key_lr] at h; exact SeqAt.EqAt.int_str i t y u _ _ _ _ h
    · rcases keyIs_shape hv with ⟨j, u, rfl, rfl⟩ | ⟨y, u, rfl, rfl⟩
      · rw [key_rl] at h; exact SeqAt.EqAt.str_int x t j u _ _ _ _ h
      · rw [key_rr] at h; exact wpAny_eqBool_str h
  «strs» := fun k x t v h => by
    rcases keyIs_shape h with ⟨i, u, rfl, e⟩ | ⟨y, u, rfl, e⟩
    · exact nomatch e
    · injection e with e1 _
      subst e1
      cases v <;> rfl
end L2
namespace L2
open PySem PySem.Spec PyProof.Rows
inductive V where
  | non | bl (b : Bool) | int (i : Int) | str (x : Str) | byt (b : Array UInt8) | flt (b : UInt64) | ref (a : Addr) | ty (n : String)
  deriving DecidableEq
def RelV : V → Value → Prop
  | .non, u => u = Value.none
  | .bl b, u => u = Value.bool b
  | .int i, u => ∃ t, u = Value.int i t
  | .str x, u => ∃ t, u = Value.str x t
  | .byt b, u => ∃ t, u = Value.bytes b t
  | .flt b, u => ∃ t, u = Value.float b t
  | .ref a, u => u = Value.ref a
  | .ty n, u => u = Value.type n
abbrev Vals : List V → List Value → Prop := Paired RelV
theorem Vals.length {xs : List V} {us : List Value} (r : Vals xs us) : xs.length = us.length := Paired.length r
theorem Vals.get : ∀ {xs : List V} {us : List Value} {i : Nat} {x : V}, Vals xs us → xs[i]? = some x → ∃ u, us[i]? = some u ∧ RelV x u
  | _, _, _, _, .nil, e => by simp at e
  | _, _, 0, _, .cons r _, e => by simp at e; subst e; exact ⟨_, rfl, r⟩
  | _, _, i + 1, x, .cons _ t, e => by
    obtain ⟨u, h1, h2⟩ := Vals.get (i := i) (x := x) t (by simpa using e)
    exact ⟨u, by simpa using h1, h2⟩
theorem Vals.set {x : V} {u : Value} (r : RelV x u) : ∀ {xs : List V} {us : List Value} (i : Nat), Vals xs us → Vals (xs.set i x) (us.set i u)
  | _, _, _, .nil => .nil
  | _, _, 0, .cons _ t => .cons r t
  | _, _, i + 1, .cons q t => .cons q (Vals.set r i t)
theorem Vals.append : ∀ {xs ys : List V} {us ws : List Value}, Vals xs us → Vals ys ws → Vals (xs ++ ys) (us ++ ws)
  | _, _, _, _, .nil, s => s
  | _, _, _, _, .cons r t, s => .cons r (Vals.append t s)
theorem Vals.take : ∀ {xs : List V} {us : List Value} (n : Nat), Vals xs us → Vals (xs.take n) (us.take n)
  | _, _, 0, _ => .nil
  | _, _, _ + 1, .nil => .nil
  | _, _, n + 1, .cons r t => .cons r (Vals.take n t)
theorem Vals.drop : ∀ {xs : List V} {us : List Value} (n : Nat), Vals xs us → Vals (xs.drop n) (us.drop n)
  | _, _, 0, r => r
  | _, _, _ + 1, .nil => .nil
  | _, _, n + 1, .cons _ t => Vals.drop n t
def RelO : Option V → Option Value → Prop
  | some v, some u => RelV v u
  | none, none => True
  | _, _ => False
def KV {κ : Type} : List (κ × V) → List (κ × Value) → Prop := Paired fun (p : κ × V) (q : κ × Value) => p.1 = q.1 ∧ RelV p.2 q.2
def kV : Key → V
  | .inl i => .int i
  | .inr x => .str x
inductive HO where
  /-- a list -/
  | lst (xs : List V)
  /-- a tuple (never changes) -/
  | tup (xs : List V)
  /-- a dict whose keys are ints and texts; one whose keys are tuples of ints and texts (the empty one is both) -/
  | dK (kvs : List (Key × V)) | dT (kvs : List (List Key × V))
  /-- a set of ints: its members, its size -/
  | set (S : Int → Bool) (n : Nat)
  /-- an instance of the class at C, its dict at dx, its attributes -/
  | ins (C dx : Addr) (fs : List (Str × V))
  /-- the dict of the instance at x -/
  | own (x : Addr)
  /-- the dict of an exception -/
  | xd (fs : List (Str × V))
  /-- a bound method, f of x -/
  | met (f x : Addr)
  /-- a range object lo, lo + 1, .. below hi -/
  | rng (lo hi : Int)
  /-- a thing that is known to the object (the script; a dict while a loop walks it): read, never written while it is so -/
  | frz (o : Obj) (u : HO)
  /-- a code object's table -/
  | tbl (ps : Array Value)
  /-- any other thing, by what is true of its one object (a def of one's own: SetO a S n := HO.ext fun h => ..) -/
  | ext (φ : Heap → Prop)
abbrev Hp := Addr → Option HO
def upd (H : Hp) (a : Addr) (o : HO) : Hp := fun b => if b = a then some o else H b
theorem upd_same {H : Hp} {a : Addr} {o : HO} : upd H a o a = some o := by unfold upd; rw [if_pos rfl]
theorem upd_ne {H : Hp} {a b : Addr} {o : HO} (h : b ≠ a) : upd H a o b = H b := by unfold upd; rw [if_neg h]
theorem ne_of_none {H : Hp} {a b : Addr} {o : HO} (h : H a = some o) (h' : H b = none) : a ≠ b := by
  intro e; subst e; rw [h] at h'; cases h'
section
variable (P : Program) (w : World)
def ObjOk (H : Hp) (h : Heap) (a : Addr) : HO → Prop
  | .lst xs => xs.length ≤ sizeLine ∧ ∃ (its : List Value) (n : Nat), Vals xs its ∧ h.get? a = some { cls := .type "list", data := .seq its.toArray n }
  | .tup xs => xs.length ≤ sizeLine ∧ ∃ its : List Value, Vals xs its ∧ IsTup h a its.toArray
  | .dK kvs => kvs.length ≤ sizeLine ∧ (a == sysModules) = false ∧ ∃ vs, KV kvs vs ∧ h.DictOf (mixKind P w) a vs
  | .dT kvs => kvs.length ≤ sizeLine ∧ (a == sysModules) = false ∧ ∃ xs : List (List Key × Addr × Value),
      Paired (fun (p : List Key × V) (q : List Key × Addr × Value) => p.1 = q.1 ∧ H q.2.1 = some (.tup (p.1.map kV)) ∧ RelV p.2 q.2.2) kvs xs ∧
      ∃ o es ep, h.get? a = some o ∧ o.ExactDict ∧ o.data = .dict es ep ∧ es.toList = xs.map (entryOfKey (tupleKind (mixKind P w))) ∧ (xs.map (·.1)).Nodup
  | .set S n => h.SetOf (intKind P w) a S n
  | .ins C dx fs => H dx = some (.own a) ∧ fs.length ≤ 1000 ∧ dx ≠ a ∧ h.get? a = some (PySem.W.instObj C dx) ∧
      ∃ mA, h.Ns1 dx mA ∧ (∀ f, RelO (fs.lookup f) (mA f)) ∧ PySem.Within mA (fs.map (·.1))
  | .own _ => ∃ o, h.get? a = some o
  | .xd fs => ∃ mA, h.Ns1 a mA ∧ ∀ f, RelO (fs.lookup f) (mA f)
  | .rng lo hi => ∃ t u v, h.get? a = some { cls := .type "range", data := .fields #[.int lo t, .int hi u, .int 1 v] }
  | .frz o u => h.get? a = some o ∧ ObjOk H h a u
  | .tbl ps => h.get? a = some { cls := .none, data := .fields ps }
  | .met f x => h.get? a = some (PySem.W.methodObj (.ref f) (.ref x))
  | .ext φ => φ h ∧ (∃ o, h.get? a = some o) ∧ ∀ h1 h2 : Heap, φ h1 → (∀ o, h1.get? a = some o → h2.get? a = some o) → φ h2
def HOk (H : Hp) (h : Heap) : Prop := ∀ a o, H a = some o → ObjOk P w H h a o
end
section
variable {P : Program} {w : World} {H H' : Hp} {h h' : Heap} {a : Addr} {o : HO}
theorem ObjOk.lt (x : ObjOk P w H h a o) : a < h.objs.size := by
  cases o with
  | lst xs => obtain ⟨_, _, _, _, e⟩ := x; exact Heap.lt_size e
  | tup xs => obtain ⟨_, _, _, p⟩ := x; exact p.lt
  | dK kvs => obtain ⟨_, _, _, _, o, _, _, e, _⟩ := x; exact Heap.lt_size e
  | dT kvs => obtain ⟨_, _, _, _, o, _, _, e, _⟩ := x; exact Heap.lt_size e
  | set S n => obtain ⟨o, _, _, _, e, _⟩ := x; exact Heap.lt_size e
  | ins C dx fs => obtain ⟨_, _, _, e, _⟩ := x; exact Heap.lt_size e
  | own y => obtain ⟨_, e⟩ := x; exact Heap.lt_size e
  | xd fs => obtain ⟨_, ⟨_, _, _, e, _⟩, _⟩ := x; exact Heap.lt_size e
  | rng lo hi => obtain ⟨_, _, _, e⟩ := x; exact Heap.lt_size e
  | frz ob u => obtain ⟨e, _⟩ := x; exact Heap.lt_size e
  | tbl ps => exact Heap.lt_size (show h.get? a = some _ from x)
  | met f y => exact Heap.lt_size (show h.get? a = some _ from x)
  | ext φ => obtain ⟨_, ⟨_, e⟩, _⟩ := x; exact Heap.lt_size e
theorem Paired.mapP {α β : Type} {F G : α → β → Prop} : ∀ {l₁ : List α} {l₂ : List β}, Paired F l₁ l₂ → (∀ a b, F a b → G a b) → Paired G l₁ l₂
  | _, _, .nil, _ => .nil
  | _, _, .cons r t, f => .cons (f _ _ r) (Paired.mapP t f)
theorem ObjOk.stay (x : ObjOk P w H h a o) (k : ∀ b u, (b = a ∨ H b = some (.own a)) → h.get? b = some u → h'.get? b = some u)
    (ho : ∀ b, H b = some (.own a) → H' b = some (.own a)) (ht : ∀ b xs, H b = some (.tup xs) → H' b = some (.tup xs)) : ObjOk P w H' h' a o := by
  induction o with
  | lst xs => obtain ⟨z, its, n, r, e⟩ := x; exact ⟨z, its, n, r, k _ _ (.inl rfl) e⟩
  | tup xs => obtain ⟨z, its, r, ob, e, c⟩ := x; exact ⟨z, its, r, ob, k _ _ (.inl rfl) e, c⟩
  | dK kvs => obtain ⟨z, y, vs, r, ob, es, ep, e, c⟩ := x; exact ⟨z, y, vs, r, ob, es, ep, k _ _ (.inl rfl) e, c⟩
  | dT kvs =>
    obtain ⟨z, y, xs, r, ob, es, ep, e, c⟩ := x
    exact ⟨z, y, xs, Paired.mapP r fun p q z => ⟨z.1, ht _ _ z.2.1, z.2.2⟩, ob, es, ep, k _ _ (.inl rfl) e, c⟩
  | set S n => obtain ⟨ob, es, ep, t, e, c⟩ := x; exact ⟨ob, es, ep, t, k _ _ (.inl rfl) e, c⟩
  | ins C dx fs =>
    obtain ⟨d, z, ne, e, mA, ⟨od, es, ep, e2, c⟩, r⟩ := x
    exact ⟨ho _ d, z, ne, k _ _ (.inl rfl) e, mA, ⟨od, es, ep, k _ _ (.inr d) e2, c⟩, r⟩
  | own y => obtain ⟨ob, e⟩ := x; exact ⟨ob, k _ _ (.inl rfl) e⟩
  | xd fs => obtain ⟨mA, ⟨od, es, ep, e, c⟩, r⟩ := x; exact ⟨mA, ⟨od, es, ep, k _ _ (.inl rfl) e, c⟩, r⟩
  | rng lo hi => obtain ⟨t, u, v, e⟩ := x; exact ⟨t, u, v, k _ _ (.inl rfl) e⟩
  | frz ob u ih => obtain ⟨e, q⟩ := x; exact ⟨k _ _ (.inl rfl) e, ih q⟩
  | tbl ps =>
    have e : h.get? a = some { cls := .none, data := .fields ps } := x
    show h'.get? a = some { cls := .none, data := .fields ps }
    exact k a _ (.inl rfl) e
  | met f y =>
    have e : h.get? a = some (PySem.W.methodObj (.ref f) (.ref y)) := x
    show h'.get? a = some (PySem.W.methodObj (.ref f) (.ref y))
    exact k a _ (.inl rfl) e
  | ext φ => obtain ⟨p, ⟨o, e⟩, st⟩ := x; exact ⟨st _ _ p fun o q => k _ _ (.inl rfl) q, ⟨o, k _ _ (.inl rfl) e⟩, st⟩
theorem HOk.lt (x : HOk P w H h) (e : H a = some o) : a < h.objs.size := (x a o e).lt
theorem HOk.fresh (x : HOk P w H h) (e : h.objs.size ≤ a) : H a = none := by
  cases q : H a with
  | none => rfl
  | some u => exact absurd (Nat.lt_of_lt_of_le (x.lt q) e) (Nat.lt_irrefl _)
theorem HOk.kept (x : HOk P w H h) (k : ∀ b u, h.get? b = some u → h'.get? b = some u) : HOk P w H h' := fun a o e =>
  (x a o e).stay (fun b u _ q => k b u q) (fun _ q => q) fun _ _ q => q
theorem HOk.laid (x : HOk P w H h) (k : ∀ b u, h.get? b = some u → h'.get? b = some u) (hp : h.objs.size ≤ a) (new : ObjOk P w (upd H a o) h' a o) : HOk P w (upd H a o) h' := fun b u e => by
  have hn := x.fresh hp
  by_cases hb : b = a
  · subst hb; rw [upd_same] at e; cases e; exact new
  · rw [upd_ne hb] at e
    exact (x b u e).stay (fun c v _ q => k c v q) (fun c q => by rw [upd_ne (ne_of_none q hn)]; exact q) fun c xs q => by rw [upd_ne (ne_of_none q hn)]; exact q
end
def Rd (H : Hp) (a : Addr) (u : HO) : Prop := H a = some u ∨ ∃ o, H a = some (.frz o u)
theorem Rd.ok {P : Program} {w : World} {H : Hp} {h : Heap} {a : Addr} {u : HO} (r : Rd H a u) (x : HOk P w H h) : ObjOk P w H h a u := by
  rcases r with r | ⟨o, r⟩
  · exact x a u r
  · obtain ⟨_, q⟩ := x a _ r
    exact q
def Mut : Option HO → Prop
  | some (.lst _) => True
  | some (.dK _) => True
  | some (.dT _) => True
  | some (.set _ _) => True
  | some (.ins _ _ _) => True
  | some (.ext _) => True
  | _ => False
section
variable {P : Program} {w : World} {H : Hp} {h h' : Heap} {x e : Addr} {o' : HO}
theorem HOk.write (ok : HOk P w H h) (mu : Mut (H x)) (he : e = x ∨ H e = some (.own x)) (k : ∀ b u, b ≠ e → h.get? b = some u → h'.get? b = some u) (heo : ∃ u, h'.get? e = some u)
    (new : ObjOk P w (upd H x o') h' x o') : HOk P w (upd H x o') h' := fun b u q => by
  have nown : ∀ c y, H c = some (.own y) → c ≠ x := fun c y r z => by subst z; rw [r] at mu; exact mu
  have ntup : ∀ c xs, H c = some (.tup xs) → c ≠ x := fun c xs r z => by subst z; rw [r] at mu; exact mu
  by_cases hb : b = x
  · subst hb; rw [upd_same] at q; cases q; exact new
  · rw [upd_ne hb] at q
    by_cases hbe : b = e
    · have q' : H b = some (.own x) := by
        rcases he with z | z
        · exact absurd (hbe.trans z) hb
        · rw [hbe]; exact z
      rw [q] at q'; cases q'
      obtain ⟨v, hv⟩ := heo
      exact ⟨v, by rw [hbe]; exact hv⟩
    · refine (ok b u q).stay (fun c v hc r => k c v ?_ r) (fun c r => by rw [upd_ne (nown c b r)]; exact r) fun c xs r => by rw [upd_ne (ntup c xs r)]; exact r
      rcases hc with rfl | hc
      · exact hbe
      · rintro rfl
        rcases he with z | z
        · exact nown c b hc z
        · rw [hc] at z; cases z; exact hb rfl
end
structure Un (fs ex : List Addr) (H H' : Hp) (h h' : Heap) : Prop where
  keep : ∀ b o, h.get? b = some o → H b = none → b ∉ fs → b ∉ ex → h'.get? b = some o
  slot : ∀ b o, h.get? b = some o → H b = none → b ∈ fs → b ∉ ex → ∃ sl, h'.get? b = some { o with slots := sl }
  free : ∀ b o, h.get? b = some o → H b = none → b ∉ ex → H' b = none
  there : ∀ b o, h.get? b = some o → b ∉ ex → ∃ o', h'.get? b = some o'
  tups : ∀ b xs, H b = some (.tup xs) → H' b = some (.tup xs)
  frzs : ∀ b o u, H b = some (.frz o u) → H' b = some (.frz o u)
  tbls : ∀ b ps, H b = some (.tbl ps) → ∃ more, H' b = some (.tbl (ps ++ more))
section
variable {fs fs' ex ex' : List Addr} {H H1 H2 : Hp} {h h1 h2 h' : Heap} {a x e : Addr} {o : HO}
theorem Un.any (u : Un fs ex H H1 h h1) {b : Addr} {ob : Obj} (q : h.get? b = some ob) (n : H b = none) (hx : b ∉ ex) : ∃ sl, h1.get? b = some { ob with slots := sl } := by
  by_cases hb : b ∈ fs
  · exact u.slot b ob q n hb hx
  · exact ⟨ob.slots, u.keep b ob q n hb hx⟩
theorem Un.kept (k : ∀ b u, h.get? b = some u → h'.get? b = some u) : Un fs ex H H h h' :=
  ⟨fun b ob q _ _ _ => k b ob q, fun b ob q _ _ _ => ⟨ob.slots, k b ob q⟩, fun _ _ _ n _ => n, fun b ob q _ => ⟨ob, k b ob q⟩, fun _ _ q => q, fun _ _ _ q => q, fun _ ps q => ⟨#[], by rw [q]; simp⟩⟩
theorem Un.refl : Un fs ex H H h h := Un.kept fun _ _ q => q
theorem Un.laid (k : ∀ b u, h.get? b = some u → h'.get? b = some u) (hp : h.objs.size ≤ a) (hn : H a = none) : Un fs ex H (upd H a o) h h' where
  keep := fun b u q _ _ _ => k b u q
  slot := fun b u q _ _ _ => ⟨u.slots, k b u q⟩
  free := fun b u q n _ => by rw [upd_ne (Nat.ne_of_lt (Nat.lt_of_lt_of_le (Heap.lt_size q) hp))]; exact n
  there := fun b u q _ => ⟨u, k b u q⟩
  tups := fun b xs q => by rw [upd_ne (ne_of_none q hn)]; exact q
  frzs := fun b u xs q => by rw [upd_ne (ne_of_none q hn)]; exact q
  tbls := fun b ps q => ⟨#[], by rw [upd_ne (ne_of_none q hn), q]; simp⟩
theorem Un.write (mu : Mut (H x)) (he : e = x ∨ H e = some (.own x)) (k : ∀ b u, b ≠ e → h.get? b = some u → h'.get? b = some u) (heo : ∃ u, h'.get? e = some u) : Un fs ex H (upd H x o) h h' := by
  have hx : ∀ b, H b = none → b ≠ x := fun b n z => by subst z; rw [n] at mu; exact mu
  have hb : ∀ b, H b = none → b ≠ e := fun b n z => by
    subst z
    rcases he with r | r
    · exact hx b n r
    · rw [n] at r; cases r
  have hm : ∀ b u, H b = some u → ¬ Mut (some u) → b ≠ x := fun b u q nm z => by subst z; rw [q] at mu; exact nm mu
  refine ⟨fun b u q n _ _ => k b u (hb b n) q, fun b u q n _ _ => ⟨u.slots, k b u (hb b n) q⟩, fun b u q n _ => by rw [upd_ne (hx b n)]; exact n, fun b u q _ => ?_,
    fun b xs q => by rw [upd_ne (hm b _ q fun z => z)]; exact q, fun b u xs q => by rw [upd_ne (hm b _ q fun z => z)]; exact q, fun b ps q => ⟨#[], by rw [upd_ne (hm b _ q fun z => z), q]; simp⟩⟩
  by_cases hbe : b = e
  · subst hbe; exact heo
  · exact ⟨u, k b u hbe q⟩
end
def trk (h : Heap) (H : Hp) : List Addr := (List.range h.objs.size).filter fun a => (H a).isSome
def hidT (h : Heap) (H : Hp) : Heap := PySem.W.hideAll h (trk h H)
theorem hidT_size (h : Heap) (H : Hp) : (hidT h H).objs.size = h.objs.size := PySem.W.hideAll_size _ _
theorem hidT_get {h : Heap} {H : Hp} {b : Addr} {o : Obj} (e : h.get? b = some o) (n : H b = none) : (hidT h H).get? b = some o :=
  PySem.W.hideAll_get _ e fun hm => by
    have q : (H b).isSome = true := (List.mem_filter.mp hm).2
    rw [n] at q; simp at q
theorem of_hidT {h : Heap} {H : Hp} {b : Addr} {o : Obj} (e : (hidT h H).get? b = some o) : h.get? b = some o ∧ H b = none := by
  have e' : h.get? b = some o := PySem.W.of_hideAll (trk h H) e
  refine ⟨e', ?_⟩
  cases q : H b with
  | none => rfl
  | some x =>
    have hm : b ∈ trk h H := List.mem_filter.mpr ⟨List.mem_range.mpr (Heap.lt_size e'), by simp [q]⟩
    have z : (hidT h H).get? b = none := PySem.W.hideAll_none (trk h H) hm
    rw [z] at e; cases e
end L2
namespace L2
open PySem PySem.Spec PyProof.Rows
structure Mod (K : PySem.W.Frag) (mg : Str → Option Value) (base : Heap) : Prop where
  kin : K.In base
  glob : base.Ns mainGlobals mg
  blt : ∃ mb, base.Ns builtinsNs mb ∧ ∀ x : Str, x ≠ "__name__" → mb x = bootBuiltins x
  nolimit : base.NoLimit
structure Cx where
  prog : Program
  w : World
  K : PySem.W.Frag
  mg : Str → Option Value
  base : Heap
  A : Around
  N : List Str
  s₀ : Shared
  H₀ : Hp
  env : Env
  outer : List Env
  stack : List Env
  ex : List Addr
  fn : Str → Bool
  calm : Bool
  pn : List (Addr × Obj)
  xe : Value → Shared → Prop
def frs (l : List Env) : List Addr := l.filterMap (·.frame)
abbrev Cx.fs (X : Cx) : List Addr := frs X.outer
def Vis (sc : Scope) (x : Str) : Prop := sc.names.lookup x = some .local ∨ sc.names.lookup x = some .cell ∨ sc.names.lookup x = some .free
def Loc (sc : Scope) (x : Str) : Prop := sc.names.lookup x = some .local ∨ sc.names.lookup x = some .cell
def Look (env : Env) (h : Heap) (m : Str → Option Value) (x : Str) (u : Value) : Prop :=
  (env.kindOf x = some .local ∧ m x = some u) ∨ ((env.kindOf x = some .cell ∨ env.kindOf x = some .free) ∧ ∃ c, env.cells.lookup x = some c ∧ h.IsCell c (some u))
structure Cx.Ok (X : Cx) : Prop where
  mod : Mod X.K X.mg X.base
  kind : X.env.scope.kind = .function
  glob : X.env.globals = mainGlobals
  blt : X.env.builtins = builtinsNs
  above : X.s₀.heap.objs.size ≤ X.env.locals
  inj : ∀ x y c, X.env.cells.lookup x = some c → X.env.cells.lookup y = some c → x = y
  has : ∀ x, (X.env.kindOf x = some .cell ∨ X.env.kindOf x = some .free) → ∃ c, X.env.cells.lookup x = some c
  cab : ∀ x c, X.fn x = true → X.env.cells.lookup x = some c → X.s₀.heap.objs.size ≤ c
  hd : X.calm = true → X.A.handled = none
  frames : X.A.frames = some X.stack
  stk : X.stack = X.outer ∨ (X.stack = X.env :: X.outer ∧ X.env.frame = some X.env.locals)
  exf : ∀ b ∈ X.ex, b ≠ X.env.locals ∧ ∀ x c, X.env.cells.lookup x = some c → c ≠ b
  bs : ∀ b o, X.base.get? b = some o → X.s₀.heap.get? b = some o ∧ X.H₀ b = none
  bsz : X.base.objs.size ≤ X.s₀.heap.objs.size
  noex : ∀ b o, X.base.get? b = some o → b ∉ X.ex
  exfs : ∀ b ∈ X.ex, b ∉ X.fs
  funs : X.s₀.heap.FunFrames X.base X.outer
  frf : ∀ b ∈ X.fs, X.H₀ b = none
structure Inv (X : Cx) (pins : List (Addr × Obj)) (σ : List (Option V)) (H : Hp) (s : Shared) : Prop where
  ok : X.Ok
  os : s.os = X.s₀.os
  bare : AllBare s.gens
  base : Un X.fs X.ex X.H₀ H X.s₀.heap s.heap
  loc : ∃ m, s.heap.Ns X.env.locals m ∧ ∀ (i : Nat) (x : Str) (v : V), X.N[i]? = some x → σ[i]? = some (some v) → Vis X.env.scope x → ∃ u, RelV v u ∧ Look X.env s.heap m x u
  cell : ∀ x c, X.env.cells.lookup x = some c → ∃ v, s.heap.IsCell c v
  free : H X.env.locals = none
  freeC : ∀ x c, X.env.cells.lookup x = some c → H c = none
  pin : ∀ p ∈ X.pn ++ pins, s.heap.get? p.1 = some p.2 ∧ H p.1 = none ∧ p.1 ≠ X.env.locals ∧ p.1 ∉ X.fs ∧ ∀ v, p.2.data ≠ .cell v
  hok : HOk X.prog X.w H s.heap
  len : σ.length = X.N.length
section
variable {X : Cx} {pins : List (Addr × Obj)} {σ : List (Option V)} {H H' : Hp} {s : Shared} {h' : Heap}
theorem Cx.Ok.nofr (ok : X.Ok) {b : Addr} {o : Obj} (e : X.base.get? b = some o) : b ∉ X.fs := fun hb => by
  have := (ok.funs.mem hb).1
  rw [e] at this; cases this
theorem Inv.bs (I : Inv X pins σ H s) : ∀ b o, X.base.get? b = some o → s.heap.get? b = some o ∧ H b = none := fun b o e =>
  ⟨I.base.keep b o (I.ok.bs b o e).1 (I.ok.bs b o e).2 (I.ok.nofr e) (I.ok.noex b o e), I.base.free b o (I.ok.bs b o e).1 (I.ok.bs b o e).2 (I.ok.noex b o e)⟩
theorem Inv.bk (I : Inv X pins σ H s) : ∀ b o, X.base.get? b = some o → s.heap.get? b = some o := fun b o e => (I.bs b o e).1
theorem Inv.mod (I : Inv X pins σ H s) : Mod X.K X.mg X.base := I.ok.mod
theorem Inv.kIn (I : Inv X pins σ H s) : X.K.In s.heap := I.ok.mod.kin.keeps I.bk
theorem Inv.lt (I : Inv X pins σ H s) : X.env.locals < s.heap.objs.size := let ⟨_, hn, _⟩ := I.loc; hn.lt
theorem Inv.sz (I : Inv X pins σ H s) : X.s₀.heap.objs.size ≤ s.heap.objs.size := Nat.le_trans I.ok.above (Nat.le_of_lt I.lt)
theorem Inv.nofs (I : Inv X pins σ H s) {a : Addr} (h : s.heap.objs.size ≤ a) : a ∉ X.fs := fun hb => by
  obtain ⟨_, o, ho, _⟩ := I.ok.funs.mem hb
  exact absurd (Nat.lt_of_lt_of_le (Heap.lt_size ho) (Nat.le_trans I.sz h)) (Nat.lt_irrefl _)
theorem Inv.cne (I : Inv X pins σ H s) : ∀ x c, X.env.cells.lookup x = some c → c ≠ X.env.locals := fun x c e z => by
  obtain ⟨v, o, ho, hd⟩ := I.cell x c e
  obtain ⟨m, ⟨o', es, ep, ho', hd', _⟩, _⟩ := I.loc
  rw [z, ho'] at ho; cases ho; rw [hd'] at hd; cases hd
theorem Inv.funs (I : Inv X pins σ H s) : s.heap.FunFrames X.base X.outer := by
  have all : ∀ (l : List Env), (∀ b ∈ frs l, b ∈ X.fs) → X.s₀.heap.FunFrames X.base l → s.heap.FunFrames X.base l := by
    intro l
    induction l with
    | nil => intro _ _; trivial
    | cons env r ih =>
      intro hs hl
      obtain ⟨hk, ⟨L, o, hf, hn, ho, hd⟩, hr⟩ := hl
      have hL : L ∈ X.fs := hs L (by unfold frs; rw [List.filterMap_cons, hf]; exact List.mem_cons_self)
      obtain ⟨sl, e⟩ := I.base.slot L o ho (I.ok.frf L hL) hL fun z => I.ok.exfs L z hL
      exact ⟨hk, ⟨L, _, hf, hn, e, hd⟩, ih (fun b hb => hs b (by unfold frs; rw [List.filterMap_cons, hf]; exact List.mem_cons_of_mem _ hb)) hr⟩
  exact all X.outer (fun _ hb => hb) I.ok.funs
theorem Inv.stack (I : Inv X pins σ H s) : s.heap.FunFrames X.base X.stack := by
  rcases I.ok.stk with e | ⟨e, hf⟩
  · rw [e]; exact I.funs
  · rw [e]
    obtain ⟨m, hn, _⟩ := I.loc
    refine .cons (by rw [I.ok.kind]; decide) hf hn ?_ I.funs
    exact Heap.get?_none_of_le (Nat.le_trans I.ok.bsz I.ok.above)
theorem Inv.stkSub (I : Inv X pins σ H s) : ∀ b ∈ frs X.stack, b ∈ X.env.locals :: X.fs := fun b hb => by
  rcases I.ok.stk with e | ⟨e, hf⟩
  · rw [e] at hb; exact List.mem_cons_of_mem _ hb
  · rw [e] at hb
    unfold frs at hb
    rw [List.filterMap_cons, hf] at hb
    exact hb
theorem Inv.stkFree (I : Inv X pins σ H s) : ∀ b ∈ frs X.stack, H b = none := fun b hb => by
  rcases List.mem_cons.mp (I.stkSub b hb) with e | hb
  · rw [e]; exact I.free
  · obtain ⟨_, o, ho, _⟩ := I.ok.funs.mem hb
    exact I.base.free b o ho (I.ok.frf b hb) fun z => I.ok.exfs b z hb
theorem Inv.step {g' : Array GenState} {t' : Nat} {d' : Drawn} {ch : List Addr} (I : Inv X pins σ H s)
    (hch : ∀ b ∈ ch, (b ∈ X.ex ∨ X.s₀.heap.objs.size ≤ b) ∧ b ≠ X.env.locals ∧ (∀ x c, X.env.cells.lookup x = some c → c ≠ b) ∧ ∀ p ∈ X.pn ++ pins, p.1 ≠ b)
    (keep : ∀ b o, b ≠ X.env.locals → b ∉ X.fs → b ∉ ch → s.heap.get? b = some o → H b = none → h'.get? b = some o)
    (slot : ∀ b o, b ≠ X.env.locals → b ∈ X.fs → b ∉ ch → s.heap.get? b = some o → H b = none → ∃ sl, h'.get? b = some { o with slots := sl }) (free : ∀ b o, b ∉ ch → s.heap.get? b = some o → H b = none → H' b = none)
    (there : ∀ b o, b ∉ ch → s.heap.get? b = some o → ∃ o', h'.get? b = some o')
    (tups : ∀ b xs, H b = some (.tup xs) → H' b = some (.tup xs)) (frzs : ∀ b o u, H b = some (.frz o u) → H' b = some (.frz o u)) (tbls : ∀ b ps, H b = some (.tbl ps) → ∃ more, H' b = some (.tbl (ps ++ more)))
    (ns : ∀ m, s.heap.Ns X.env.locals m → h'.Ns X.env.locals m) (hok : HOk X.prog X.w H' h') (hg : AllBare g') :
    Inv X pins σ H' { s with heap := h', gens := g', drawn := d', toks := t' } := by
  have neL : ∀ b o, X.s₀.heap.get? b = some o → b ≠ X.env.locals := fun b o e => Nat.ne_of_lt (Nat.lt_of_lt_of_le (Heap.lt_size e) I.ok.above)
  have neC : ∀ b o, X.s₀.heap.get? b = some o → b ∉ X.ex → b ∉ ch := fun b o e hx hb => by
    rcases (hch b hb).1 with z | z
    · exact hx z
    · exact absurd (Nat.lt_of_lt_of_le (Heap.lt_size e) z) (Nat.lt_irrefl _)
  have cellK : ∀ x c, X.env.cells.lookup x = some c → ∀ v, s.heap.IsCell c v → h'.IsCell c v := fun x c e v ⟨o, ho, hd⟩ => by
    have nch : c ∉ ch := fun z => (hch c z).2.2.1 x c e rfl
    by_cases hc : c ∈ X.fs
    · obtain ⟨sl, q⟩ := slot c o (I.cne x c e) hc nch ho (I.freeC x c e)
      exact ⟨_, q, hd⟩
    · exact ⟨o, keep c o (I.cne x c e) hc nch ho (I.freeC x c e), hd⟩
  refine ⟨I.ok, I.os, hg, ⟨fun b o e n hb hx => ?_, fun b o e n hb hx => ?_, fun b o e n hx => ?_, fun b o e hx => ?_, fun b xs e => tups b xs (I.base.tups b xs e), fun b o xs e => frzs b o xs (I.base.frzs b o xs e), fun b ps e => ?_⟩, ?_, fun x c e => ?_, ?_, fun x c e => ?_, fun p hp => ?_, hok, I.len⟩
  · exact keep b o (neL b o e) hb (neC b o e hx) (I.base.keep b o e n hb hx) (I.base.free b o e n hx)
  · obtain ⟨sl, e1⟩ := I.base.slot b o e n hb hx
    obtain ⟨sl', e2⟩ := slot b _ (neL b o e) hb (neC b o e hx) e1 (I.base.free b o e n hx)
    exact ⟨sl', e2⟩
  · obtain ⟨o', e1⟩ := I.base.there b o e hx
    exact free b o' (neC b o e hx) e1 (I.base.free b o e n hx)
  · obtain ⟨o', e1⟩ := I.base.there b o e hx
    exact there b o' (neC b o e hx) e1
  · obtain ⟨m1, e1⟩ := I.base.tbls b ps e
    obtain ⟨m2, e2⟩ := tbls b _ e1
    exact ⟨m1 ++ m2, by rw [e2, Array.append_assoc]⟩
  · obtain ⟨m, hn, hl⟩ := I.loc
    refine ⟨m, ns m hn, fun i x v e1 e2 e3 => ?_⟩
    obtain ⟨u, r, l⟩ := hl i x v e1 e2 e3
    refine ⟨u, r, ?_⟩
    rcases l with l | ⟨k, c, e, z⟩
    · exact .inl l
    · exact .inr ⟨k, c, e, cellK x c e _ z⟩
  · obtain ⟨v, z⟩ := I.cell x c e
    exact ⟨v, cellK x c e v z⟩
  · obtain ⟨m, ⟨o, _, _, ho, _⟩, _⟩ := I.loc
    exact free _ o (fun z => (hch _ z).2.1 rfl) ho I.free
  · obtain ⟨v, o, ho, hd⟩ := I.cell x c e
    exact free c o (fun z => (hch c z).2.2.1 x c e rfl) ho (I.freeC x c e)
  · obtain ⟨e, n, ne, nf, d⟩ := I.pin p hp
    have nch : p.1 ∉ ch := fun z => (hch p.1 z).2.2.2 p hp rfl
    exact ⟨keep p.1 p.2 ne nf nch e n, free p.1 p.2 nch e n, ne, nf, d⟩
theorem Inv.un {t' : Nat} (I : Inv X pins σ H s) (u : Un X.fs [] H H' s.heap h') (hok : HOk X.prog X.w H' h') : Inv X pins σ H' { s with heap := h', toks := t' } := by
  obtain ⟨m, ⟨o, es, ep, ho, r⟩, _⟩ := id I.loc
  obtain ⟨sl, hL⟩ := u.any ho I.free (by simp)
  exact I.step (g' := s.gens) (d' := s.drawn) (ch := []) (fun _ z => nomatch z) (fun b o _ hb _ e n => u.keep b o e n hb (by simp)) (fun b o _ hb _ e n => u.slot b o e n hb (by simp)) (fun b o _ e n => u.free b o e n (by simp)) (fun b o _ e => u.there b o e (by simp)) u.tups u.frzs u.tbls (fun m' hm => by
    obtain ⟨o', es', ep', ho', r'⟩ := hm
    rw [ho] at ho'; cases ho'
    exact ⟨_, es', ep', hL, r'⟩) hok I.bare
theorem Inv.call {g' : Array GenState} {t' : Nat} {d' : Drawn} {ch : List Addr} (I : Inv X pins σ H s) (u : Un (frs X.stack) ch H H' s.heap h') (hok : HOk X.prog X.w H' h') (hg : AllBare g')
    (hch : ∀ b ∈ ch, (b ∈ X.ex ∨ X.s₀.heap.objs.size ≤ b) ∧ b ≠ X.env.locals ∧ (∀ x c, X.env.cells.lookup x = some c → c ≠ b) ∧ ∀ p ∈ X.pn ++ pins, p.1 ≠ b) :
    Inv X pins σ H' { s with heap := h', gens := g', drawn := d', toks := t' } := by
  obtain ⟨m, ⟨o, es, ep, ho, r⟩, _⟩ := id I.loc
  obtain ⟨sl, hL⟩ := u.any ho I.free fun z => (hch _ z).2.1 rfl
  exact I.step (ch := ch) hch (fun b o hL hb hc e n => u.keep b o e n (fun z => (List.mem_cons.mp (I.stkSub b z)).elim hL hb) hc) (fun b o _ _ hc e n => u.any e n hc) (fun b o hc e n => u.free b o e n hc) (fun b o hc e => u.there b o e hc) u.tups u.frzs u.tbls (fun m' hm => by
    obtain ⟨o', es', ep', ho', r'⟩ := hm
    rw [ho] at ho'; cases ho'
    exact ⟨_, es', ep', hL, r'⟩) hok hg
theorem Inv.turned {t' : Nat} {it : Addr} (I : Inv X pins σ H s) (k : ∀ b o, b ≠ it → s.heap.get? b = some o → h'.get? b = some o) (hn : H it = none) (hL : it ≠ X.env.locals)
    (h1 : it ∈ X.ex ∨ X.s₀.heap.objs.size ≤ it) (h2 : ∀ x c, X.env.cells.lookup x = some c → c ≠ it) (h3 : ∀ p ∈ X.pn ++ pins, p.1 ≠ it) : Inv X pins σ H { s with heap := h', toks := t' } := by
  have nit : ∀ b u, H b = some u → b ≠ it := fun b u e z => by rw [z, hn] at e; cases e
  refine I.step (g' := s.gens) (d' := s.drawn) (ch := [it]) (fun b hb => ?_) (fun b o _ _ hc e _ => k b o (fun z => hc (by simp [z])) e) (fun b o _ _ hc e _ => ⟨o.slots, k b o (fun z => hc (by simp [z])) e⟩) (fun _ _ _ _ n => n)
    (fun b o hc e => ⟨o, k b o (fun z => hc (by simp [z])) e⟩) (fun _ _ e => e) (fun _ _ _ e => e) (fun b ps e => ⟨#[], by rw [e]; simp⟩) (fun m hm => ?_) (fun b u e => ?_) I.bare
  · have e : b = it := by simpa using hb
    subst e
    exact ⟨h1, hL, h2, h3⟩
  · obtain ⟨o, es, ep, ho, r⟩ := hm
    exact ⟨o, es, ep, k _ o (Ne.symm hL) ho, r⟩
  · refine (I.hok b u e).stay (fun c v hc q => k c v ?_ q) (fun _ q => q) fun _ _ q => q
    rcases hc with z | z
    · rw [z]; exact nit b u e
    · exact nit c _ z
theorem Inv.tok (I : Inv X pins σ H s) (t : Nat) : Inv X pins σ H { s with toks := t } := I.un (h' := s.heap) (t' := t) Un.refl I.hok
theorem Inv.kept {t' : Nat} (I : Inv X pins σ H s) (k : ∀ b u, s.heap.get? b = some u → h'.get? b = some u) : Inv X pins σ H { s with heap := h', toks := t' } := I.un (Un.kept k) (I.hok.kept k)
theorem Inv.laid {a : Addr} {o : HO} {t' : Nat} (I : Inv X pins σ H s) (k : ∀ b u, s.heap.get? b = some u → h'.get? b = some u) (hp : s.heap.objs.size ≤ a) (new : ObjOk X.prog X.w (upd H a o) h' a o) :
    Inv X pins σ (upd H a o) { s with heap := h', toks := t' } := I.un (Un.laid k hp (I.hok.fresh hp)) (I.hok.laid k hp new)
theorem Inv.write {x e : Addr} {o : HO} {t' : Nat} (I : Inv X pins σ H s) (mu : Mut (H x)) (he : e = x ∨ H e = some (.own x)) (k : ∀ b u, b ≠ e → s.heap.get? b = some u → h'.get? b = some u) (heo : ∃ u, h'.get? e = some u)
    (new : ObjOk X.prog X.w (upd H x o) h' x o) : Inv X pins σ (upd H x o) { s with heap := h', toks := t' } := I.un (Un.write mu he k heo) (I.hok.write mu he k heo new)
theorem Inv.pins_of {pins' : List (Addr × Obj)} (I : Inv X pins σ H s) (h : ∀ p ∈ pins', s.heap.get? p.1 = some p.2 ∧ H p.1 = none ∧ p.1 ≠ X.env.locals ∧ p.1 ∉ X.fs ∧ ∀ v, p.2.data ≠ .cell v) : Inv X pins' σ H s :=
  ⟨I.ok, I.os, I.bare, I.base, I.loc, I.cell, I.free, I.freeC, fun p hp => (List.mem_append.mp hp).elim (fun z => I.pin p (List.mem_append_left _ z)) (h p), I.hok, I.len⟩
theorem nodup_ix {N : List Str} (hN : N.Nodup) {i j : Nat} {x : Str} (a : N[i]? = some x) (b : N[j]? = some x) : i = j := by
  obtain ⟨h1, e1⟩ := List.getElem?_eq_some_iff.mp a
  obtain ⟨h2, e2⟩ := List.getElem?_eq_some_iff.mp b
  exact (List.getElem_inj hN).mp (e1.trans e2.symm)
theorem store_ok2 {M : Model} {A : Around} {E : Value → Shared → Prop} {i : Nat} {x : Str} {v : V} {u : Value} {Q : Unit → Shared → Prop} (I : Inv X pins σ H s) (hN : X.N.Nodup) (hi : X.N[i]? = some x) (hx : Loc X.env.scope x) (r : RelV v u)
    (h : ∀ s', Inv X pins (σ.set i (some v)) H s' → (∃ a, Heap.SameBut a s.heap s'.heap ∧ (a = X.env.locals ∨ X.env.cells.lookup x = some a)) → Q () s') (hf : X.fn x = true ∨ X.env.scope.names.lookup x = some .local := by first | exact .inl rfl | exact .inr rfl | assumption) : wpAny M A (storeName X.env x u) Q E s := by
  obtain ⟨m, hn, hl⟩ := id I.loc
  have hcls : (X.env.scope.kind == .class || (X.env.scope.kind == .module && X.env.locals != X.env.globals)) = false := by rw [I.ok.kind]; rfl
  have hiσ : i < σ.length := by rw [I.len]; exact (List.getElem?_eq_some_iff.mp hi).1
  have cne := I.cne
  have tracked : ∀ {a : Addr} {h' : Heap}, (∃ o, s.heap.get? a = some o ∧ H a = none) → Heap.SameBut a s.heap h' → HOk X.prog X.w H h' := fun {a h'} ha hs b ob e => by
    obtain ⟨_, _, hfree⟩ := ha
    refine (I.hok b ob e).stay (fun c w' hc q => (hs.2 c ?_).trans q) (fun _ q => q) fun _ _ q => q
    rintro rfl
    rcases hc with rfl | hc
    · rw [hfree] at e; cases e
    · rw [hfree] at hc; cases hc
  rcases hx with hk | hk
  · refine wpAny_storeName_local hk hn (fun h' hn' hs => ?_) hcls
    obtain ⟨oL, _, _, hoL, _⟩ := id hn
    refine h _ ⟨I.ok, I.os, I.bare, ⟨fun b o e n hb hx => ?_, fun b o e n hb hx => ?_, I.base.free, fun b o e hx => ?_, I.base.tups, I.base.frzs, I.base.tbls⟩, ⟨_, hn', fun j y v' e1 e2 e3 => ?_⟩, fun y c e => ?_, I.free, I.freeC, fun p hp => ?_, tracked ⟨oL, hoL, I.free⟩ hs, by simpa using I.len⟩ ⟨_, hs, .inl rfl⟩
    · exact (hs.2 b (Nat.ne_of_lt (Nat.lt_of_lt_of_le (Heap.lt_size e) I.ok.above))).trans (I.base.keep b o e n hb hx)
    · obtain ⟨sl, e1⟩ := I.base.slot b o e n hb hx
      exact ⟨sl, (hs.2 b (Nat.ne_of_lt (Nat.lt_of_lt_of_le (Heap.lt_size e) I.ok.above))).trans e1⟩
    · obtain ⟨o', e1⟩ := I.base.there b o e hx
      exact ⟨o', (hs.2 b (Nat.ne_of_lt (Nat.lt_of_lt_of_le (Heap.lt_size e) I.ok.above))).trans e1⟩
    · by_cases hj : j = i
      · subst hj
        rw [hi] at e1; cases e1
        rw [List.getElem?_set_self hiσ] at e2
        cases e2
        exact ⟨u, r, .inl ⟨hk, by simp⟩⟩
      · rw [List.getElem?_set_ne (Ne.symm hj)] at e2
        obtain ⟨u', r', q⟩ := hl j y v' e1 e2 e3
        refine ⟨u', r', ?_⟩
        rcases q with ⟨k, e⟩ | ⟨k, c, e, z⟩
        · refine .inl ⟨k, ?_⟩
          have : y ≠ x := fun e => hj (nodup_ix hN e1 (e ▸ hi))
          simp [this, e]
        · exact .inr ⟨k, c, e, z.sameBut hs (cne y c e)⟩
    · obtain ⟨w', z⟩ := I.cell y c e
      exact ⟨w', z.sameBut hs (cne y c e)⟩
    · obtain ⟨e, n, ne, nf, d⟩ := I.pin p hp
      exact ⟨(hs.2 p.1 ne).trans e, n, ne, nf, d⟩
  · have hfn : X.fn x = true := by
      rcases hf with z | z
      · exact z
      · rw [z] at hk; cases hk
    obtain ⟨c, hc⟩ := I.ok.has x (.inl hk)
    obtain ⟨w', z⟩ := I.cell x c hc
    refine wpAny_storeName_cell I.ok.kind hk hc z (fun h' hc' hs => ?_)
    obtain ⟨oc, hoc, hocd⟩ := id z
    refine h { s with heap := h' } ⟨I.ok, I.os, I.bare, ⟨fun b o e n hb hx => ?_, fun b o e n hb hx => ?_, I.base.free, fun b o e hx => ?_, I.base.tups, I.base.frzs, I.base.tbls⟩, ⟨m, hn.sameBut hs (Ne.symm (cne x c hc)), fun j y v' e1 e2 e3 => ?_⟩, fun y c' e => ?_, I.free, I.freeC, fun p hp => ?_, tracked ⟨oc, hoc, I.freeC x c hc⟩ hs, by simpa using I.len⟩ ⟨c, hs, .inr hc⟩
    · exact (hs.2 b (Nat.ne_of_lt (Nat.lt_of_lt_of_le (Heap.lt_size e) (I.ok.cab x c hfn hc)))).trans (I.base.keep b o e n hb hx)
    · obtain ⟨sl, e1⟩ := I.base.slot b o e n hb hx
      exact ⟨sl, (hs.2 b (Nat.ne_of_lt (Nat.lt_of_lt_of_le (Heap.lt_size e) (I.ok.cab x c hfn hc)))).trans e1⟩
    · obtain ⟨o', e1⟩ := I.base.there b o e hx
      exact ⟨o', (hs.2 b (Nat.ne_of_lt (Nat.lt_of_lt_of_le (Heap.lt_size e) (I.ok.cab x c hfn hc)))).trans e1⟩
    · by_cases hj : j = i
      · subst hj
        rw [hi] at e1; cases e1
        rw [List.getElem?_set_self hiσ] at e2
        cases e2
        exact ⟨u, r, .inr ⟨.inl hk, c, hc, hc'⟩⟩
      · rw [List.getElem?_set_ne (Ne.symm hj)] at e2
        obtain ⟨u', r', q⟩ := hl j y v' e1 e2 e3
        refine ⟨u', r', ?_⟩
        rcases q with q | ⟨k, c', e, z'⟩
        · exact .inl q
        · refine .inr ⟨k, c', e, z'.sameBut hs ?_⟩
          rintro rfl
          exact hj (nodup_ix hN e1 (I.ok.inj _ _ _ e hc ▸ hi))
    · by_cases hcc : c' = c
      · subst hcc; exact ⟨_, hc'⟩
      · obtain ⟨w2, z2⟩ := I.cell y c' e
        exact ⟨w2, z2.sameBut hs hcc⟩
    · obtain ⟨e, n, ne, nf, d⟩ := I.pin p hp
      refine ⟨(hs.2 p.1 ?_).trans e, n, ne, nf, d⟩
      intro q
      rw [q, hoc] at e
      have q' : oc = p.2 := Option.some.inj e
      exact d w' (by rw [← q']; exact hocd)
theorem store_ok {M : Model} {A : Around} {E : Value → Shared → Prop} {i : Nat} {x : Str} {v : V} {u : Value} {Q : Unit → Shared → Prop} (I : Inv X pins σ H s) (hN : X.N.Nodup) (hi : X.N[i]? = some x) (hx : Loc X.env.scope x) (r : RelV v u)
    (h : ∀ s', Inv X pins (σ.set i (some v)) H s' → Q () s') (hf : X.fn x = true ∨ X.env.scope.names.lookup x = some .local := by first | exact .inl rfl | exact .inr rfl | assumption) : wpAny M A (storeName X.env x u) Q E s :=
  store_ok2 I hN hi hx r (fun s' I' _ => h s' I') hf
theorem Inv.call' {s' : Shared} {ch : List Addr} (I : Inv X pins σ H s) (ho : s'.os = s.os) (u : Un (frs X.stack) ch H H' s.heap s'.heap) (hok : HOk X.prog X.w H' s'.heap) (hg : AllBare s'.gens)
    (hch : ∀ b ∈ ch, (b ∈ X.ex ∨ X.s₀.heap.objs.size ≤ b) ∧ b ≠ X.env.locals ∧ (∀ x c, X.env.cells.lookup x = some c → c ≠ b) ∧ ∀ p ∈ X.pn ++ pins, p.1 ≠ b) : Inv X pins σ H' s' := by
  obtain ⟨h', g', d', t', o'⟩ := s'
  have e : o' = s.os := ho
  subst e
  exact I.call (g' := g') (t' := t') (d' := d') u hok hg hch
end
abbrev XK := Value → Option Addr → Hp → Prop
abbrev St := List (Option V)
abbrev VK := V → Hp → Prop
abbrev TE := St → Hp → VK → Prop
abbrev TT := St → Hp → (Bool → Hp → Prop) → Prop
abbrev TA := St → Hp → (List V → Hp → Prop) → Prop
structure Ends where
  nx : St → Hp → Prop
  rt : VK
  bk : St → Hp → Prop := fun _ _ => False
  ct : St → Hp → Prop := fun _ _ => False
abbrev TS := Ends → St → Hp → Prop
def EP (X : Cx) (pins : List (Addr × Obj)) (σ : St) (Q : VK) (u : Value) (s' : Shared) : Prop := ∃ v H', Inv X pins σ H' s' ∧ RelV v u ∧ Q v H'
def TP (X : Cx) (pins : List (Addr × Obj)) (σ : St) (Q : Bool → Hp → Prop) (b : Bool) (s' : Shared) : Prop := ∃ H', Inv X pins σ H' s' ∧ Q b H'
def AP (X : Cx) (pins : List (Addr × Obj)) (σ : St) (Q : List V → Hp → Prop) (us : List Value) (s' : Shared) : Prop := ∃ vs H', Inv X pins σ H' s' ∧ Vals vs us ∧ Q vs H'
def SP (X : Cx) (pins : List (Addr × Obj)) (D : Ends) (f : Flow) (s' : Shared) : Prop :=
  match f with
  | .next => ∃ σ' H', Inv X pins σ' H' s' ∧ D.nx σ' H'
  | .brk => ∃ σ' H', Inv X pins σ' H' s' ∧ D.bk σ' H'
  | .cont => ∃ σ' H', Inv X pins σ' H' s' ∧ D.ct σ' H'
  | .ret u => ∃ v σ' H', Inv X pins σ' H' s' ∧ RelV v u ∧ D.rt v H'
def PE (X : Cx) (e : Expr) (t : TE) : Prop :=
  ∀ (pins : List (Addr × Obj)) (s : Shared) (σ : St) (H : Hp) (Q : VK), Inv X pins σ H s → t σ H Q → wpAny (model X.prog X.w) X.A (eval e X.env) (EP X pins σ Q) X.xe s
def PT (X : Cx) (e : Expr) (t : TT) : Prop :=
  ∀ (pins : List (Addr × Obj)) (s : Shared) (σ : St) (H : Hp) (Q : Bool → Hp → Prop), Inv X pins σ H s → t σ H Q → wpAny (model X.prog X.w) X.A (isTrue e X.env (eval e X.env)) (TP X pins σ Q) X.xe s
def PW (X : Cx) (e : Expr) (t : TT) : Prop :=
  ∀ (whole : Sem Value) (pins : List (Addr × Obj)) (s : Shared) (σ : St) (H : Hp) (Q : Bool → Hp → Prop), Inv X pins σ H s → t σ H Q → wpAny (model X.prog X.w) X.A (isTrue e X.env whole) (TP X pins σ Q) X.xe s
theorem PW.pt {X : Cx} {e : Expr} {t : TT} (h : PW X e t) : PT X e t := h _
def PA (X : Cx) (es : List Expr) (t : TA) : Prop :=
  ∀ (pos : Pos) (pins : List (Addr × Obj)) (s : Shared) (σ : St) (H : Hp) (Q : List V → Hp → Prop), Inv X pins σ H s → t σ H Q → wpAny (model X.prog X.w) X.A (spliced (backTo pos (starEach es X.env))) (AP X pins σ Q) X.xe s
def PS (X : Cx) (st : Stmt) (t : TS) : Prop :=
  ∀ (pins : List (Addr × Obj)) (s : Shared) (σ : St) (H : Hp) (D : Ends), Inv X pins σ H s → t D σ H → wpAny (model X.prog X.w) X.A (exec st X.env) (SP X pins D) X.xe s
def PSs (X : Cx) (st : List Stmt) (t : TS) : Prop :=
  ∀ (pins : List (Addr × Obj)) (s : Shared) (σ : St) (H : Hp) (D : Ends), Inv X pins σ H s → t D σ H → wpAny (model X.prog X.w) X.A (execs st X.env) (SP X pins D) X.xe s
theorem thn {α : Type} {t : Sem α} {Q Q' : α → Shared → Prop} {M : Model} {A : Around} {E : Value → Shared → Prop} {s : Shared} (h : wpAny M A t Q E s) (hQ : ∀ a s, Q a s → Q' a s) : wpAny M A t Q' E s := wpAny_mono h hQ fun _ _ x => x
end L2
namespace L2
open PySem PySem.Spec PyProof.Rows
section
variable {X : Cx}
def tVar (i : Nat) : TE := fun σ H Q => ∃ v, σ[i]? = some (some v) ∧ Q v H
def tC (v : V) : TE := fun _ H Q => Q v H
theorem pe_var {i : Nat} {x : Str} {pos : Pos} (hN : X.N[i]? = some x) (hv : Vis X.env.scope x) (hd : (x == ("__debug__" : Str)) = false := by decide) (hcd : (x == ("__classdict__" : Str)) = false := by decide) : PE X (.Name x pos) (tVar i) := by
  intro pins s σ H Q I h
  obtain ⟨v, e, h⟩ := h
  obtain ⟨m, hn, hl⟩ := I.loc
  obtain ⟨u, r, l⟩ := hl i x v hN e hv
  have fin : EP X pins σ Q u s := ⟨v, H, I, r, h⟩
  rcases l with ⟨hk, hm⟩ | ⟨hk, c, hc, hcell⟩
  · exact wpAny_Name (wpAny_loadName_local I.ok.kind hk hn hm fin) hd
  · rcases hk with hk | hk
    · exact wpAny_Name (wpAny_loadName_cell I.ok.kind hk hc hcell fin) hd
    · exact wpAny_Name (wpAny_loadName_free I.ok.kind hk hc hcell fin hcd) hd
theorem pe_int {i j pos} : PE X (.Constant (.int i) j pos) (tC (.int i)) := fun _ _ _ H _ I h => wpAny_Constant_int ⟨.int i, H, I.tok _, ⟨_, rfl⟩, h⟩
theorem pe_bl {b j pos} : PE X (.Constant (.bool b) j pos) (tC (.bl b)) := fun _ _ _ H _ I h => Constant_bool ⟨.bl b, H, I, rfl, h⟩
theorem pe_non {j pos} : PE X (.Constant .none j pos) (tC .non) := fun _ _ _ H _ I h => Constant_none ⟨.non, H, I, rfl, h⟩
theorem pe_str {x j pos} : PE X (.Constant (.str x) j pos) (tC (.str x)) := fun _ _ _ H _ I h => Calls.Constant_str ⟨.str x, H, I.tok _, ⟨_, rfl⟩, h⟩
def Gl (X : Cx) (x : Str) : Prop := X.env.kindOf x = some .globalImplicit
theorem ld_glob {E : Value → Shared → Prop} {pins : List (Addr × Obj)} {s : Shared} {σ : St} {H : Hp} {x : Str} {u : Value} {pos : Pos} {Q : Value → Shared → Prop} (I : Inv X pins σ H s) (hg : Gl X x) (hm : X.mg x = some u) (h : Q u s)
    (hd : (x == ("__debug__" : Str)) = false := by decide) : wpAny (model X.prog X.w) X.A (eval (.Name x pos) X.env) Q E s :=
  Calls.Name_function_global I.ok.kind hg (Calls.loadGlobal_global (by rw [I.ok.glob]; exact I.mod.glob.keeps I.bk) hm h) hd
theorem ld_blt {E : Value → Shared → Prop} {pins : List (Addr × Obj)} {s : Shared} {σ : St} {H : Hp} {x : Str} {u : Value} {pos : Pos} {Q : Value → Shared → Prop} (I : Inv X pins σ H s) (hg : Gl X x) (hm : X.mg x = none) (hv : bootBuiltins x = some u) (h : Q u s)
    (hn : x ≠ "__name__" := by decide) (hd : (x == ("__debug__" : Str)) = false := by decide) : wpAny (model X.prog X.w) X.A (eval (.Name x pos) X.env) Q E s := by
  obtain ⟨mb, h1, h2⟩ := I.mod.blt
  exact Calls.Name_function_global I.ok.kind hg (Calls.loadGlobal_builtin (by rw [I.ok.glob]; exact I.mod.glob.keeps I.bk) hm (by rw [I.ok.blt]; exact h1.keeps I.bk) ((h2 x hn).trans hv) h) hd
theorem pe_bltn {x : Str} {v : V} {u : Value} {pos : Pos} (hg : Gl X x) (hm : X.mg x = none) (hv : bootBuiltins x = some u) (r : RelV v u) (hn : x ≠ "__name__" := by decide) (hd : (x == ("__debug__" : Str)) = false := by decide) : PE X (.Name x pos) (tC v) :=
  fun _ _ _ H _ I h => ld_blt I hg hm hv ⟨v, H, I, r, h⟩ hn hd
variable {a b : Expr} {ta tb : TE} {pos : Pos}
def tB (t : TE) : TT := fun σ H Q => t σ H fun x H1 => ∃ c, x = .bl c ∧ Q c H1
theorem pt_val {e : Expr} {t : TE} (h : PE X e t) (he : ∀ whole, isTrue e X.env whole = (do let v ← whole; standAt e.pos; holding [v] (truthy v)) := by intro _; rfl) : PT X e (tB t) := by
  intro pins s σ H Q I hw
  refine isTrue_plain (thn (h pins s σ H _ I hw) fun v s1 ⟨x, H1, I1, r1, q1⟩ => ?_) (he _)
  obtain ⟨d, rfl, q⟩ := q1
  cases r1
  exact wpAny_truthy_bool ⟨H1, I1, q⟩
variable {tA tB' : TT} {rest : List Expr}
def tAnd (t u : TT) : TT := fun σ H Q => t σ H fun c H1 => if c = true then u σ H1 Q else Q false H1
def tOr (t u : TT) : TT := fun σ H Q => t σ H fun c H1 => if c = true then Q true H1 else u σ H1 Q
def tNot (t : TT) : TT := fun σ H Q => t σ H fun c H1 => Q (!c) H1
theorem pw_and1 (ha : PT X a tA) : PW X (.BoolOp .And [a] pos) tA := by
  intro wh pins s σ H Q I h
  refine isTrue_and (thn (ha pins s σ H Q I h) fun c s1 e => ?_)
  cases c with
  | true => exact isTrue_and_nil e
  | false => exact e
theorem pw_or1 (ha : PT X a tA) : PW X (.BoolOp .Or [a] pos) tA := by
  intro wh pins s σ H Q I h
  refine isTrue_or (thn (ha pins s σ H Q I h) fun c s1 e => ?_)
  cases c with
  | false => exact isTrue_or_nil e
  | true => exact e
theorem pw_and (ha : PT X a tA) (hb : PW X (.BoolOp .And (b :: rest) pos) tB') : PW X (.BoolOp .And (a :: b :: rest) pos) (tAnd tA tB') := by
  intro wh pins s σ H Q I h
  refine isTrue_and (thn (ha pins s σ H _ I h) fun c s1 ⟨H1, I1, q1⟩ => ?_)
  cases c with
  | true => exact hb wh pins s1 σ H1 Q I1 q1
  | false => exact ⟨H1, I1, q1⟩
theorem pw_or (ha : PT X a tA) (hb : PW X (.BoolOp .Or (b :: rest) pos) tB') : PW X (.BoolOp .Or (a :: b :: rest) pos) (tOr tA tB') := by
  intro wh pins s σ H Q I h
  refine isTrue_or (thn (ha pins s σ H _ I h) fun c s1 ⟨H1, I1, q1⟩ => ?_)
  cases c with
  | true => exact ⟨H1, I1, q1⟩
  | false => exact hb wh pins s1 σ H1 Q I1 q1
theorem pt_not (ha : PT X a tA) : PT X (.UnaryOp .Not a pos) (tNot tA) := by
  intro pins s σ H Q I h
  exact isTrue_not (ha pins s σ H (fun c H1 => Q (!c) H1) I h)
def tAndV (ta tb : TE) : TE := fun σ H Q => ta σ H fun x H1 => ∃ c, x = .bl c ∧ if c = true then tb σ H1 Q else Q (.bl false) H1
def tOrV (ta tb : TE) : TE := fun σ H Q => ta σ H fun x H1 => ∃ c, x = .bl c ∧ if c = true then Q (.bl true) H1 else tb σ H1 Q
def tNotV (ta : TE) : TE := fun σ H Q => ta σ H fun x H1 => ∃ c, x = .bl c ∧ Q (.bl (!c)) H1
theorem pe_one {op} {t : TE} (h : PE X a t) : PE X (.BoolOp op [a] pos) t := fun pins s σ H Q I hw => BoolOp_one (h pins s σ H Q I hw)
theorem pe_and (ha : PE X a ta) (hb : PE X (.BoolOp .And (b :: rest) pos) tb) : PE X (.BoolOp .And (a :: b :: rest) pos) (tAndV ta tb) := by
  intro pins s σ H Q I h
  refine BoolOp_and (thn (ha pins s σ H _ I h) fun v s1 ⟨x, H1, I1, r1, q1⟩ => ?_)
  obtain ⟨c, rfl, q1⟩ := q1
  cases r1
  refine wpAny_truthy_bool ?_
  cases c with
  | true => exact hb pins s1 σ H1 Q I1 q1
  | false => exact ⟨.bl false, H1, I1, rfl, q1⟩
theorem pe_or (ha : PE X a ta) (hb : PE X (.BoolOp .Or (b :: rest) pos) tb) : PE X (.BoolOp .Or (a :: b :: rest) pos) (tOrV ta tb) := by
  intro pins s σ H Q I h
  refine BoolOp_or (thn (ha pins s σ H _ I h) fun v s1 ⟨x, H1, I1, r1, q1⟩ => ?_)
  obtain ⟨c, rfl, q1⟩ := q1
  cases r1
  refine wpAny_truthy_bool ?_
  cases c with
  | false => exact hb pins s1 σ H1 Q I1 q1
  | true => exact ⟨.bl true, H1, I1, rfl, q1⟩
theorem pe_not (ha : PE X a ta) : PE X (.UnaryOp .Not a pos) (tNotV ta) := by
  intro pins s σ H Q I h
  refine UnaryOp_ (thn (ha pins s σ H _ I h) fun v s1 ⟨x, H1, I1, r1, q1⟩ => ?_)
  obtain ⟨c, rfl, q1⟩ := q1
  cases r1
  exact not_of (wpAny_truthy_bool ⟨.bl (!c), H1, I1, rfl, q1⟩)
def tIf (t : TT) (ta tb : TE) : TE := fun σ H Q => t σ H fun c H1 => if c = true then ta σ H1 Q else tb σ H1 Q
theorem pe_ifExp {c : Expr} (hc : PT X c tA) (ha : PE X a ta) (hb : PE X b tb) : PE X (.IfExp c a b pos) (tIf tA ta tb) := by
  intro pins s σ H Q I h
  refine wpAny_IfExp (thn (hc pins s σ H _ I h) fun d s1 ⟨H1, I1, q1⟩ => ?_)
  cases d with
  | true => exact ha pins s1 σ H1 Q I1 q1
  | false => exact hb pins s1 σ H1 Q I1 q1
end
end L2
namespace L2
open PySem PySem.Spec PyProof.Rows
def SqL (K : PySem.W.Frag) (H : Hp) (a : Addr) (xs : List V) : Prop :=
  Rd H a (.lst xs) ∨
    ∃ (o : Obj) (its : Array Value) (n : Nat), K.lookup a = some o ∧ o.cls = .type "list" ∧ o.dict = none ∧ o.data = .seq its n ∧ its.size ≤ sizeLine ∧ Vals xs its.toList
def SqT (K : PySem.W.Frag) (H : Hp) (a : Addr) (xs : List V) : Prop :=
  Rd H a (.tup xs) ∨
    ∃ (o : Obj) (its : Array Value) (n : Nat), K.lookup a = some o ∧ o.cls = .type "tuple" ∧ o.data = .seq its n ∧ its.size ≤ sizeLine ∧ Vals xs its.toList
def absV : Value → Option V
  | .none => some .non
  | .bool b => some (.bl b)
  | .int i _ => some (.int i)
  | .str x _ => some (.str x)
  | .bytes b _ => some (.byt b)
  | .float b _ => some (.flt b)
  | .ref a => some (.ref a)
  | .type n => some (.ty n)
  | _ => none
theorem RelV.abs {x : V} {u : Value} (r : RelV x u) : absV u = some x := by
  cases x with
  | non => cases r; rfl
  | bl _ => cases r; rfl
  | int _ => obtain ⟨t, rfl⟩ := r; rfl
  | str _ => obtain ⟨t, rfl⟩ := r; rfl
  | byt _ => obtain ⟨t, rfl⟩ := r; rfl
  | flt _ => obtain ⟨t, rfl⟩ := r; rfl
  | ref _ => cases r; rfl
  | ty _ => cases r; rfl
theorem RelV.inj {x y : V} {u : Value} (r : RelV x u) (q : RelV y u) : x = y := Option.some.inj (r.abs.symm.trans q.abs)
theorem Vals.inj : ∀ {xs ys : List V} {us : List Value}, Vals xs us → Vals ys us → xs = ys
  | _, _, _, .nil, .nil => rfl
  | _, _, _, .cons r t, .cons r' t' => by rw [r.inj r', Vals.inj t t']
section
variable {X : Cx} {pins : List (Addr × Obj)} {σ : St} {H : Hp} {s : Shared} {a : Addr} {xs ys : List V}
theorem SqL.of {K : PySem.W.Frag} (h : H a = some (.lst xs)) : SqL K H a xs := .inl (.inl h)
theorem SqT.of {K : PySem.W.Frag} (h : H a = some (.tup xs)) : SqT K H a xs := .inl (.inl h)
theorem Inv.list (I : Inv X pins σ H s) (h : SqL X.K H a xs) : ∃ its : List Value, Vals xs its ∧ PlainL s.heap a its.toArray ∧ xs.length ≤ sizeLine := by
  rcases h with h | ⟨o, its, n, hk, hc, hd, hs, hz, r⟩
  · obtain ⟨z, its, n, r, e⟩ := h.ok I.hok
    exact ⟨its, r, ⟨_, n, e, rfl, rfl, rfl⟩, z⟩
  · refine ⟨its.toList, r, ⟨o, n, I.kIn a o hk, hc, hd, by simpa using hs⟩, ?_⟩
    have e := r.length
    simp only [Array.length_toList] at e
    omega
theorem Inv.tuple (I : Inv X pins σ H s) (h : SqT X.K H a xs) : ∃ its : List Value, Vals xs its ∧ IsTup s.heap a its.toArray ∧ xs.length ≤ sizeLine := by
  rcases h with h | ⟨o, its, n, hk, hc, hs, hz, r⟩
  · obtain ⟨z, its, r, p⟩ := h.ok I.hok
    exact ⟨its, r, p, z⟩
  · refine ⟨its.toList, r, ⟨o, I.kIn a o hk, hc, n, by simpa using hs⟩, ?_⟩
    have e := r.length
    simp only [Array.length_toList] at e
    omega
theorem Inv.list_inj (I : Inv X pins σ H s) (h : SqL X.K H a xs) (h' : SqL X.K H a ys) : xs = ys := by
  obtain ⟨its, r, ⟨o, n, e, _, _, d⟩, _⟩ := I.list h
  obtain ⟨its', r', ⟨o', n', e', _, _, d'⟩, _⟩ := I.list h'
  rw [e] at e'; cases e'
  rw [d] at d'
  injection d' with d1 _
  have : its = its' := by simpa using congrArg Array.toList d1
  subst this
  exact r.inj r'
end
abbrev Cx.wish (X : Cx) (E : Value → Shared → Prop) : Cx := { X with xe := E }
abbrev Cx.nox (X : Cx) : Cx := X.wish fun _ _ => False
theorem Cx.Ok.wish {X : Cx} (ok : X.Ok) (E : Value → Shared → Prop) : (X.wish E).Ok :=
  ⟨ok.mod, ok.kind, ok.glob, ok.blt, ok.above, ok.inj, ok.has, ok.cab, ok.hd, ok.frames, ok.stk, ok.exf, ok.bs, ok.bsz, ok.noex, ok.exfs, ok.funs, ok.frf⟩
theorem Cx.Ok.unwish {X : Cx} {E : Value → Shared → Prop} (ok : (X.wish E).Ok) : X.Ok :=
  ⟨ok.mod, ok.kind, ok.glob, ok.blt, ok.above, ok.inj, ok.has, ok.cab, ok.hd, ok.frames, ok.stk, ok.exf, ok.bs, ok.bsz, ok.noex, ok.exfs, ok.funs, ok.frf⟩
section
variable {X : Cx} {pins : List (Addr × Obj)} {σ : St} {H : Hp} {s : Shared} {E : Value → Shared → Prop}
theorem Inv.wish (I : Inv X pins σ H s) (E : Value → Shared → Prop) : Inv (X.wish E) pins σ H s := ⟨I.ok.wish E, I.os, I.bare, I.base, I.loc, I.cell, I.free, I.freeC, I.pin, I.hok, I.len⟩
theorem Inv.unwish (I : Inv (X.wish E) pins σ H s) : Inv X pins σ H s := ⟨I.ok.unwish, I.os, I.bare, I.base, I.loc, I.cell, I.free, I.freeC, I.pin, I.hok, I.len⟩
theorem SP.unwish {D : Ends} {f : Flow} {s' : Shared} (h : SP (X.wish E) pins D f s') : SP X pins D f s' := by
  cases f with
  | next => obtain ⟨σ', H', I, q⟩ := h; exact ⟨σ', H', I.unwish, q⟩
  | brk => obtain ⟨σ', H', I, q⟩ := h; exact ⟨σ', H', I.unwish, q⟩
  | cont => obtain ⟨σ', H', I, q⟩ := h; exact ⟨σ', H', I.unwish, q⟩
  | ret u => obtain ⟨v, σ', H', I, r, q⟩ := h; exact ⟨v, σ', H', I.unwish, r, q⟩
theorem PSs.nox {st : List Stmt} {t : TS} (h : PSs X.nox st t) : PSs X st t := fun pins s σ H D I hw =>
  wpAny_mono (h pins s σ H D (I.wish _) hw) (fun _ _ q => q.unwish) fun _ _ z => False.elim z
end
section
variable {X : Cx} {st : Stmt} {rest : List Stmt} {t u : TS} {e : Expr} {te : TE} {pos : Pos}
def tNext : TS := fun D σ H => D.nx σ H
def tSeq (t u : TS) : TS := fun D σ H => t { D with nx := u D } σ H
theorem pss_nil : PSs X [] tNext := fun _ _ σ H _ I h => wpAny_execs_nil ⟨σ, H, I, h⟩
theorem pss_cons (h1 : PS X st t) (h2 : PSs X rest u) : PSs X (st :: rest) (tSeq t u) := by
  intro pins s σ H D I h
  refine wpAny_execs_cons (thn (h1 pins s σ H { D with nx := u D } I h) fun f s1 q => ?_)
  cases f with
  | next =>
    obtain ⟨σ', H', I', q⟩ := q
    exact h2 pins s1 σ' H' D I' q
  | ret v => exact q
  | brk => exact q
  | cont => exact q
theorem pss_one (h1 : PS X st t) : PSs X [st] t := by
  intro pins s σ H D I h
  refine wpAny_execs_cons (thn (h1 pins s σ H D I h) fun f s1 q => ?_)
  cases f with
  | next => exact wpAny_execs_nil q
  | ret v => exact q
  | brk => exact q
  | cont => exact q
theorem Inv.quiet {pins : List (Addr × Obj)} {σ : St} {H : Hp} {s : Shared} (I : Inv X pins σ H s) : interactive X.env = false := by simp [interactive, I.ok.kind]
def tDrop (te : TE) : TS := fun D σ H => te σ H fun _ H1 => D.nx σ H1
theorem ps_expr (he : PE X e te) (hs : swapsWith e none pos.line X.env = pure false := by rfl) : PS X (.Expr e pos) (tDrop te) := by
  intro pins s σ H D I h
  exact wpAny_Expr_any (thn (he pins s σ H _ I h) fun v s1 ⟨x, H1, I1, r1, q1⟩ => ⟨σ, H1, I1, q1⟩) I.quiet hs
def tRet (te : TE) : TS := fun D σ H => te σ H D.rt
theorem ps_ret (he : PE X e te) : PS X (.Return (some e) pos) (tRet te) := by
  intro pins s σ H D I h
  exact wpAny_Return_some (thn (he pins s σ H _ I h) fun v s1 ⟨x, H1, I1, r1, q1⟩ => ⟨x, σ, H1, I1, r1, q1⟩)
def tIfS (c : TT) (t u : TS) : TS := fun D σ H => c σ H fun b H1 => if b = true then t D σ H1 else u D σ H1
theorem ps_if {c : Expr} {a b : List Stmt} {tc : TT} (hc : PT X c tc) (ha : PSs X a t) (hb : PSs X b u) : PS X (.If c a b pos) (tIfS tc t u) := by
  intro pins s σ H D I h
  refine wpAny_If (thn (hc pins s σ H _ I h) fun d s1 ⟨H1, I1, q1⟩ => ?_)
  cases d with
  | true => exact ha pins s1 σ H1 D I1 q1
  | false => exact hb pins s1 σ H1 D I1 q1
def tNever : TS := fun _ _ _ => False
theorem ps_never : PS X st tNever := fun _ _ _ _ _ _ h => h.elim
end
abbrev TG := V → St → Hp → (St → Hp → Prop) → Prop
abbrev TGs := List V → St → Hp → (St → Hp → Prop) → Prop
def PG (X : Cx) (target : Expr) (t : TG) : Prop :=
  ∀ (pins : List (Addr × Obj)) (s : Shared) (σ : St) (H : Hp) (v : V) (u : Value) (Q : St → Hp → Prop), Inv X pins σ H s → RelV v u → t v σ H Q →
    wpAny (model X.prog X.w) X.A (assign target X.env u) (fun _ s' => ∃ σ' H', Inv X pins σ' H' s' ∧ Q σ' H') X.xe s
def PGs (X : Cx) (ts : List Expr) (t : TGs) : Prop :=
  ∀ (pins : List (Addr × Obj)) (s : Shared) (σ : St) (H : Hp) (vs : List V) (us : List Value) (Q : St → Hp → Prop), Inv X pins σ H s → Vals vs us → t vs σ H Q →
    wpAny (model X.prog X.w) X.A (assignInOrder ((assignEach ts X.env).map (·.2)) us) (fun _ s' => ∃ σ' H', Inv X pins σ' H' s' ∧ Q σ' H') X.xe s
abbrev TSet := V → V → V → Hp → (Hp → Prop) → Prop
def PSet (X : Cx) (t : TSet) : Prop :=
  ∀ (pins : List (Addr × Obj)) (s : Shared) (σ : St) (H : Hp) (o i v : V) (ov iv u : Value) (Q : Hp → Prop), Inv X pins σ H s → RelV o ov → RelV i iv → RelV v u → t o i v H Q →
    wpAny (model X.prog X.w) X.A (setItem ov iv u) (fun _ s' => ∃ H', Inv X pins σ H' s' ∧ Q H') X.xe s
abbrev TIp := V → V → Hp → VK → Prop
def PIp (X : Cx) (op : Operator) (t : TIp) : Prop :=
  ∀ (pins : List (Addr × Obj)) (s : Shared) (σ : St) (H : Hp) (x y : V) (v u : Value) (Q : VK), Inv X pins σ H s → RelV x v → RelV y u → t x y H Q →
    wpAny (model X.prog X.w) X.A (inplaceOp op v u) (EP X pins σ Q) X.xe s
section
variable {X : Cx} {pos : Pos}
def gName (i : Nat) : TG := fun v σ H Q => Q (σ.set i (some v)) H
theorem pg_name {i : Nat} {x : Str} (hN : X.N.Nodup) (hi : X.N[i]? = some x) (hx : Loc X.env.scope x) (hf : X.fn x = true ∨ X.env.scope.names.lookup x = some .local := by first | exact .inl rfl | exact .inr rfl | assumption) : PG X (.Name x pos) (gName i) := by
  intro pins s σ H v u Q I r h
  exact wpAny_assign_Name (store_ok I hN hi hx r (fun s' I' => ⟨_, H, I', h⟩) hf)
def gNil : TGs := fun vs σ H Q => vs = [] ∧ Q σ H
def gCons (t : TG) (u : TGs) : TGs := fun vs σ H Q => ∃ v r, vs = v :: r ∧ t v σ H fun σ' H' => u r σ' H' Q
theorem pgs_nil : PGs X [] gNil := by
  intro pins s σ H vs us Q I r h
  obtain ⟨e, h⟩ := h
  subst e
  cases r
  exact assignInOrder_nil ⟨σ, H, I, h⟩
theorem pgs_cons {e : Expr} {es : List Expr} {t : TG} {u : TGs} (h1 : PG X e t) (h2 : PGs X es u)
    (hs : (assignEach (e :: es) X.env).map (·.2) = assign e X.env :: (assignEach es X.env).map (·.2) := by rfl) : PGs X (e :: es) (gCons t u) := by
  intro pins s σ H vs us Q I r h
  obtain ⟨v, vr, e1, h⟩ := h
  subst e1
  cases r with
  | cons r rr =>
    rw [hs]
    refine assignInOrder_cons (thn (h1 pins s σ H _ _ _ I r h) fun _ s1 ⟨σ1, H1, I1, q1⟩ => ?_)
    exact h2 pins s1 σ1 H1 _ _ Q I1 rr q1
def gTup (K : PySem.W.Frag) (n : Nat) (t : TGs) : TG := fun v σ H Q => ∃ a xs, v = .ref a ∧ SqT K H a xs ∧ xs.length = n ∧ t xs σ H Q
theorem pg_tup {es : List Expr} {k : Nat} {t : TGs} {n : Nat} (hc : X.calm = true) (h : PGs X es t)
    (hn : (assignEach es X.env).length = n := by rfl) (hst : (assignEach es X.env).findIdx? (·.1) = none := by rfl) : PG X (.Tuple es k pos) (gTup X.K n t) := by
  intro pins s σ H v u Q I r hw
  obtain ⟨a, xs, e1, hq, hl, hw⟩ := hw
  subst e1
  cases r
  obtain ⟨its, rv, ht, hz⟩ := I.tuple hq
  refine assign_Tuple_tuple (I.ok.hd hc) ht (by simp [hn, ← hl, rv.length]) hst fun h' hx => ?_
  have I1 : Inv X pins σ H { s with heap := h' } := I.kept (t' := s.toks) fun b o e => hx b o (Nat.ne_of_lt (Heap.lt_size e)) e
  exact h pins _ σ H xs _ Q I1 (by simpa using rv) hw
def gSub (to ti : TE) (t : TSet) : TG := fun v σ H Q => to σ H fun o H1 => ti σ H1 fun i H2 => t o i v H2 fun H3 => Q σ H3
theorem pg_sub {o i : Expr} {to ti : TE} {t : TSet} (ho : PE X o to) (hi : PE X i ti) (hs : PSet X t)
    (ha : ∀ v, assign (.Subscript o i pos) X.env v = (do
      let ov ← holding [v] (eval o X.env)
      let iv ← holding [v, ov] (eval i X.env)
      standAt pos
      holding [v, ov, iv] (setItem ov iv v)
      release [v, ov, iv] []) := by intro _; rfl) : PG X (.Subscript o i pos) (gSub to ti t) := by
  intro pins s σ H v u Q I r h
  rw [ha]
  refine wpAny_bind (wpAny_holding (thn (ho pins s σ H _ I h) fun ov s1 ⟨x, H1, I1, r1, q1⟩ => ?_))
  refine wpAny_bind (wpAny_holding (thn (hi pins s1 σ H1 _ I1 q1) fun iv s2 ⟨y, H2, I2, r2, q2⟩ => ?_))
  refine wpAny_bind (wpAny_standAt (wpAny_bind (wpAny_holding (thn (hs pins s2 σ H2 x y v ov iv u _ I2 r1 r2 r q2) fun _ s3 ⟨H3, I3, q3⟩ => ?_))))
  exact wpAny_release ⟨σ, H3, I3, q3⟩
def tAsg (te : TE) (g : TG) : TS := fun D σ H => te σ H fun x H1 => g x σ H1 D.nx
theorem ps_asg {tg e : Expr} {te : TE} {g : TG} (he : PE X e te) (hg : PG X tg g) (hs : swapsWithSole [tg] e pos.line X.env = pure false := by rfl) (hw : swappedStores [tg] e X.env = pure none := by rfl)
    (h1 : (assignEach [tg] X.env).map (·.2) = [assign tg X.env] := by rfl) : PS X (.Assign [tg] e pos) (tAsg te g) := by
  intro pins s σ H D I h
  refine wpAny_Assign_stores (thn (he pins s σ H _ I h) fun v s1 ⟨x, H1, I1, r1, q1⟩ => ?_) hs hw
  rw [h1]
  exact thn (hg pins s1 σ H1 x v _ I1 r1 q1) fun _ s2 q => q
theorem ps_set {i : Nat} {x : Str} {e : Expr} {te : TE} {pos' : Pos} (hN : X.N.Nodup) (hi : X.N[i]? = some x) (hx : Loc X.env.scope x) (he : PE X e te) (hs : swapsWith e (some (.Name x pos')) pos.line X.env = pure false := by rfl) (hf : X.fn x = true ∨ X.env.scope.names.lookup x = some .local := by first | exact .inl rfl | exact .inr rfl | assumption) :
    PS X (.Assign [.Name x pos'] e pos) (tAsg te (gName i)) := by
  intro pins s σ H D I h
  refine wpAny_Assign_Name (thn (he pins s σ H _ I h) fun v s1 ⟨y, H1, I1, r1, q1⟩ => ?_) hs
  exact store_ok I1 hN hi hx r1 (fun s2 I2 => ⟨_, H1, I2, q1⟩) hf
def tAug (i : Nat) (te : TE) (ti : TIp) : TS := fun D σ H => ∃ x, σ[i]? = some (some x) ∧ te σ H fun y H1 => ti x y H1 fun z H2 => D.nx (σ.set i (some z)) H2
theorem ps_aug {i : Nat} {x : Str} {e : Expr} {te : TE} {op : Operator} {ti : TIp} {pos' : Pos} (hN : X.N.Nodup) (hi : X.N[i]? = some x) (hx : Loc X.env.scope x) (he : PE X e te) (ho : PIp X op ti) (hf : X.fn x = true ∨ X.env.scope.names.lookup x = some .local := by first | exact .inl rfl | exact .inr rfl | assumption) :
    PS X (.AugAssign (.Name x pos') op e pos) (tAug i te ti) := by
  intro pins s σ H D I h
  obtain ⟨v, e1, h⟩ := h
  obtain ⟨m, hn, hl⟩ := I.loc
  have vis : Vis X.env.scope x := by rcases hx with k | k; exact .inl k; exact .inr (.inl k)
  obtain ⟨u, r, l⟩ := hl i x v hi e1 vis
  refine wpAny_AugAssign_Name ?_
  have go : wpAny (model X.prog X.w) X.A (eval e X.env) (fun w s₂ => wpAny (model X.prog X.w) X.A (inplaceOp op u w) (fun r s₃ => wpAny (model X.prog X.w) X.A (storeName X.env x r) (fun _ => SP X pins D .next) X.xe s₃) X.xe s₂) X.xe s := by
    refine thn (he pins s σ H _ I h) fun w s1 ⟨y, H1, I1, r1, q1⟩ => ?_
    refine thn (ho pins s1 σ H1 v y u w _ I1 r r1 q1) fun z s2 ⟨zv, H2, I2, r2, q2⟩ => ?_
    exact store_ok I2 hN hi hx r2 (fun s3 I3 => ⟨_, H2, I3, q2⟩) hf
  rcases l with ⟨hk, hm⟩ | ⟨hk, c, hc, hcell⟩
  · exact wpAny_loadName_local I.ok.kind hk hn hm go
  · rcases hk with hk | hk
    · exact wpAny_loadName_cell I.ok.kind hk hc hcell go
    · rcases hx with k | k
      · have : X.env.scope.names.lookup x = some .free := hk
        rw [k] at this; cases this
      · have : X.env.scope.names.lookup x = some .free := hk
        rw [k] at this; cases this
def ipI (f : Int → Int → Int) : TIp := fun x y H Q => ∃ i j, x = .int i ∧ y = .int j ∧ Q (.int (f i j)) H
theorem ip_add : PIp X .Add (ipI fun i j => i + j) := by
  intro pins s σ H x y v u Q I r1 r2 h
  obtain ⟨i, j, e1, e2, q⟩ := h
  subst e1; subst e2
  obtain ⟨t, rfl⟩ := r1
  obtain ⟨t', rfl⟩ := r2
  exact iadd_int ⟨.int _, H, I.tok _, ⟨_, rfl⟩, q⟩
theorem ip_sub : PIp X .Sub (ipI fun i j => i - j) := by
  intro pins s σ H x y v u Q I r1 r2 h
  obtain ⟨i, j, e1, e2, q⟩ := h
  subst e1; subst e2
  obtain ⟨t, rfl⟩ := r1
  obtain ⟨t', rfl⟩ := r2
  exact isub_int ⟨.int _, H, I.tok _, ⟨_, rfl⟩, q⟩
end
section
variable {X : Cx} {pos : Pos}
def tWhile (c : TT) (tb : TS) : TS := fun D σ H => ∃ W : Nat → St → Hp → Prop, (∃ m, W m σ H) ∧ ∀ m σ H, W m σ H →
  c σ H fun b H1 => if b = true then ∃ N : St → Hp → Prop, (∀ σ' H', N σ' H' → ∃ m', m' < m ∧ W m' σ' H') ∧ tb { D with nx := N, ct := N, bk := D.nx } σ H1 else D.nx σ H1
theorem ps_while {c : Expr} {body : List Stmt} {tc : TT} {tb : TS} (hp : PassesOwn (model X.prog X.w) X.A X.env X.xe) (hc : PT X c tc) (hb : PSs X body tb) : PS X (.While c body [] pos) (tWhile tc tb) := by
  intro pins s σ H D I h
  obtain ⟨W, ⟨m0, w0⟩, turn⟩ := h
  refine wpAny_While (codeAny_whileLoop (fun n s' => ∃ σ' H', Inv X pins σ' H' s' ∧ W n σ' H') ?_ m0 ⟨σ, H, I, w0⟩)
  rintro n s1 ⟨σ1, H1, I1, w1⟩
  refine wpAny_passesOwn hp (thn (hc pins s1 σ1 H1 _ I1 (turn n σ1 H1 w1)) fun b s2 ⟨H2, I2, q2⟩ => ?_)
  cases b with
  | true =>
    obtain ⟨N, hN, q2⟩ := q2
    rw [if_pos rfl]
    refine wpAny_passesOwn hp (thn (hb pins s2 σ1 H2 _ I2 q2) fun f s3 q3 => ?_)
    cases f with
    | next =>
      obtain ⟨σ3, H3, I3, n3⟩ := q3
      obtain ⟨m', hm, w3⟩ := hN σ3 H3 n3
      exact ⟨m', hm, σ3, H3, I3, w3⟩
    | cont =>
      obtain ⟨σ3, H3, I3, n3⟩ := q3
      obtain ⟨m', hm, w3⟩ := hN σ3 H3 n3
      exact ⟨m', hm, σ3, H3, I3, w3⟩
    | brk => exact q3
    | ret v => exact q3
  | false =>
    rw [if_neg Bool.false_ne_true]
    exact wpAny_execs_nil ⟨σ1, H2, I2, q2⟩
end
structure It where
  go : Nat → Hp → Prop
  yld : Nat → Hp → V → Hp → Prop
  stop : Nat → Hp → Prop
def FpOk (X : Cx) (pins : List (Addr × Obj)) (H : Hp) (b : Addr) : Prop :=
  H b = none ∧ b ≠ X.env.locals ∧ b ∉ X.fs ∧ (b ∈ X.ex ∨ X.s₀.heap.objs.size ≤ b) ∧ (∀ x c, X.env.cells.lookup x = some c → c ≠ b) ∧ ∀ p ∈ X.pn ++ pins, p.1 ≠ b
theorem Inv.fpOk {X : Cx} {pins : List (Addr × Obj)} {σ : St} {H H' : Hp} {s : Shared} {b : Addr} (I : Inv X pins σ H s) (hb : s.heap.objs.size ≤ b) (hn : H' b = none) : FpOk X pins H' b := by
  refine ⟨hn, Nat.ne_of_gt (Nat.lt_of_lt_of_le I.lt hb), I.nofs hb, .inr (Nat.le_trans I.sz hb), fun x c e z => ?_, fun p hp z => ?_⟩
  · obtain ⟨v, q⟩ := I.cell x c e
    exact absurd (Nat.lt_of_lt_of_le q.lt (by rw [z]; exact hb)) (Nat.lt_irrefl _)
  · exact absurd (Nat.lt_of_lt_of_le (Heap.lt_size (I.pin p hp).1) (by rw [z]; exact hb)) (Nat.lt_irrefl _)
structure Turn (P : Program) (w : World) (K : PySem.W.Frag) (tg : Expr) (J : It) (fp : List Addr) (it : Addr) (tn : Nat → Heap → Prop) : Prop where
  mem : it ∈ fp
  obj : ∀ i h, tn i h → ∀ b ∈ fp, ∃ o, h.get? b = some o ∧ ∀ v, o.data ≠ .cell v
  keep : ∀ i h h', tn i h → (∀ b ∈ fp, ∀ o, h.get? b = some o → h'.get? b = some o) → tn i h'
  item : ∀ (X : Cx), X.prog = P → X.w = w → X.K = K → X.calm = true → ∀ (i : Nat) (pins : List (Addr × Obj)) (s : Shared) (σ : St) (H : Hp) (E : Value → Shared → Prop), Inv X pins σ H s → (∀ b ∈ fp, FpOk X pins H b) → tn i s.heap → J.go i H →
    wpAny (model P w) X.A (pyNext (.ref it)) (fun r s1 => ∃ u, r = some u ∧
      wpAny (model P w) X.A (letOwnedTupleGo tg (.ref it) u) (fun _ s2 => ∃ x H', Inv X pins σ H' s2 ∧ RelV x u ∧ J.yld i H x H' ∧ tn (i + 1) s2.heap ∧ ∀ b ∈ fp, H' b = none) E s1) E s
  done : ∀ (X : Cx), X.prog = P → X.w = w → X.K = K → X.calm = true → ∀ (i : Nat) (pins : List (Addr × Obj)) (s : Shared) (σ : St) (H : Hp) (E : Value → Shared → Prop), Inv X pins σ H s → (∀ b ∈ fp, FpOk X pins H b) → tn i s.heap → J.stop i H →
    wpAny (model P w) X.A (pyNext (.ref it)) (fun r s1 => r = none ∧ Inv X pins σ H s1) E s
  self : ∀ (A : Around) (i : Nat) (s : Shared) (Q : Value → Shared → Prop) (E : Value → Shared → Prop), tn i s.heap → Q (.ref it) s → wpAny (model P w) A (pyIter (.ref it)) Q E s
abbrev TI := St → Hp → (It → Hp → Prop) → Prop
def PIE (X : Cx) (pins : List (Addr × Obj)) (σ : St) (tg : Expr) (R : It → Hp → Prop) (itv : Value) (s2 : Shared) : Prop :=
  ∃ (it : Addr) (fp : List Addr) (tn : Nat → Heap → Prop) (J : It) (H' : Hp), itv = .ref it ∧ Inv X pins σ H' s2 ∧ Turn X.prog X.w X.K tg J fp it tn ∧ tn 0 s2.heap ∧ (∀ b ∈ fp, FpOk X pins H' b) ∧ R J H'
def PI (X : Cx) (tg iter : Expr) (wi : TI) : Prop :=
  ∀ (pins : List (Addr × Obj)) (s : Shared) (σ : St) (H : Hp) (R : It → Hp → Prop), Inv X pins σ H s → wi σ H R →
    wpAny (model X.prog X.w) X.A (eval iter X.env) (fun v s1 => wpAny (model X.prog X.w) X.A (pyIter v) (PIE X pins σ tg R) X.xe s1) X.xe s
theorem go_of {M : Model} {A : Around} {E : Value → Shared → Prop} {s : Shared} {tg : Expr} {it : Addr} {u : Value} {o : Obj} {n : String} {vs : Array Value} {Q : Unit → Shared → Prop} (ho : s.heap.get? it = some o) (hc : o.cls = .type n) (hd : o.data = .fields vs)
    (hn : ["enumerate", "zip", "dict_itemiterator", "dict_reverseitemiterator", "odict_iterator", "itertools.zip_longest", "itertools.pairwise"].contains n = false) (hQ : Q () s) : wpAny M A (letOwnedTupleGo tg (.ref it) u) Q E s := by
  unfold letOwnedTupleGo
  cases tg <;> first
    | exact wpAny_pure hQ
    | (cases u <;> first
        | exact wpAny_pure hQ
        | (refine wpAny_bind (wpAny_load ho ?_)
           rw [hc, hd]
           show wpAny M A (if (["enumerate", "zip", "dict_itemiterator", "dict_reverseitemiterator", "odict_iterator", "itertools.zip_longest", "itertools.pairwise"].contains n && vs[0]? == some (rawInt _)) = true then _ else _) Q E s
           rw [if_neg (by intro h; rw [hn, Bool.false_and] at h; cases h)]
           exact wpAny_pure hQ))
def Itl (K : PySem.W.Frag) (a : Addr) : It :=
  ⟨fun i H => ∃ xs x, SqL K H a xs ∧ xs[i]? = some x, fun i H x H' => H' = H ∧ ∀ xs, SqL K H a xs → xs[i]? = some x, fun i H => ∃ xs, SqL K H a xs ∧ xs.length ≤ i⟩
def Itr (lo : Int) (n : Nat) : It := ⟨fun i _ => i < n, fun i H x H' => H' = H ∧ x = .int (lo + i), fun i _ => n ≤ i⟩
theorem turn_list {P : Program} {w : World} {K : PySem.W.Frag} {tg : Expr} (a it : Addr) : Turn P w K tg (Itl K a) [it] it (fun i h => h.IsListIter it a i) where
  mem := by simp
  obj := fun i h st b hb => by
    have e : b = it := by simpa using hb
    subst e
    obtain ⟨o, e, c, d⟩ := st
    exact ⟨o, e, fun v z => by rw [d] at z; cases z⟩
  keep := fun i h h' st k => st.at fun o e => k it (by simp) o e
  item := by
    intro X hP hw hK hc i pins s σ H E I hf st hg
    subst hP hw hK
    obtain ⟨xs, x, hq, hx⟩ := hg
    obtain ⟨its, rv, p, hz⟩ := I.list hq
    obtain ⟨u, hu, ru⟩ := rv.get hx
    obtain ⟨f0, f1, f2, f3, f4, f5⟩ := hf it (by simp)
    refine wpAny_pyNext_list_item st p.isList (x := u) (by simpa using hu) fun h' st' sb => ?_
    have I1 : Inv X pins σ H { s with heap := h' } := I.turned (t' := s.toks) (fun b o hb e => (sb.2 b hb).trans e) f0 f1 f3 f4 f5
    obtain ⟨o, e, c, d⟩ := id st'
    exact ⟨u, rfl, go_of (s := { s with heap := h' }) e c d (by decide) ⟨x, H, I1, ru, ⟨rfl, fun ys hy => by rw [I.list_inj hy hq]; exact hx⟩, st', fun b hb => (hf b hb).1⟩⟩
  done := by
    intro X hP hw hK hc i pins s σ H E I hf st hg
    subst hP hw hK
    obtain ⟨xs, hq, hx⟩ := hg
    obtain ⟨its, rv, p, hz⟩ := I.list hq
    obtain ⟨f0, f1, f2, f3, f4, f5⟩ := hf it (by simp)
    have hl := rv.length
    exact wpAny_pyNext_list_end (I.ok.hd hc) st p.isList (by simp; omega) fun h' eb => ⟨rfl, I.turned (t' := s.toks) (fun b o hb e => eb b o hb e) f0 f1 f3 f4 f5⟩
  self := fun _ _ _ _ _ st h => wpAny_pyIter_listiter st h
theorem turn_range {P : Program} {w : World} {K : PySem.W.Frag} {tg : Expr} (it : Addr) (lo : Int) (n : Nat) : Turn P w K tg (Itr lo n) [it] it (fun i h => IsRangeIter h it (lo + (i : Nat) * 1) ((n : Int) - (i : Nat)) 1) where
  mem := by simp
  obj := fun i h st b hb => by
    have e : b = it := by simpa using hb
    subst e
    exact ⟨_, st, fun v z => by
      have z' : Data.fields _ = Data.cell v := z
      cases z'⟩
  keep := fun i h h' st k => k it (by simp) _ st
  item := by
    intro X hP hw hK hc i pins s σ H E I hf st hg
    subst hP hw hK
    obtain ⟨f0, f1, f2, f3, f4, f5⟩ := hf it (by simp)
    have W := Walks.range (prog := X.prog) (w := X.w) (I.ok.hd hc) it lo 1 n
    refine W.item i s _ _ hg st fun v h' tk hv st' kk => ?_
    obtain ⟨t, rfl⟩ := hv
    have I1 : Inv X pins σ H { s with heap := h', toks := tk } := I.turned (fun b o hb e => kk b o (by simpa using hb) e) f0 f1 f3 f4 f5
    refine ⟨_, rfl, go_of (s := { s with heap := h', toks := tk }) (n := "range_iterator") st' rfl rfl (by decide) ⟨.int (lo + i), H, I1, ⟨t, ?_⟩, ⟨rfl, rfl⟩, st', fun b hb => (hf b hb).1⟩⟩
    rw [Int.mul_one]
  done := by
    intro X hP hw hK hc i pins s σ H E I hf st hg
    subst hP hw hK
    obtain ⟨f0, f1, f2, f3, f4, f5⟩ := hf it (by simp)
    exact wpAny_pyNext_range_end (I.ok.hd hc) st (by have : n ≤ i := hg; omega) fun h' eb => ⟨rfl, I.turned (t' := s.toks) (fun b o hb e => eb b o hb e) f0 f1 f3 f4 f5⟩
  self := fun _ _ _ _ _ st h => wpAny_pyIter_rangeiter st h
end L2
namespace L2
open PySem PySem.Spec PyProof.Rows
section
variable {X : Cx} {tg : Expr}
def iList (K : PySem.W.Frag) (tl : TE) : TI := fun σ H R => tl σ H fun x H1 => ∃ a, x = .ref a ∧ (∃ xs, SqL K H1 a xs) ∧ R (Itl K a) H1
theorem pi_list {l : Expr} {tl : TE} (hl : PE X l tl) : PI X tg l (iList X.K tl) := by
  intro pins s σ H R I h
  refine thn (hl pins s σ H _ I h) fun v s1 ⟨x, H1, I1, r1, q1⟩ => ?_
  obtain ⟨a, e, ⟨xs, hq⟩, q⟩ := q1
  subst e
  cases r1
  obtain ⟨its, rv, p, hz⟩ := I1.list hq
  refine wpAny_pyIter_list p.isList ?_
  refine ⟨s1.heap.objs.size, [s1.heap.objs.size], _, _, H1, rfl, I1.kept (t' := s1.toks) fun b o e => Heap.get?_push_of_some _ e, turn_list a _, ⟨_, Heap.get?_push_size _ rfl, rfl, rfl⟩, fun b hb => ?_, q⟩
  have e : b = s1.heap.objs.size := by simpa using hb
  subst e
  exact I1.fpOk (Nat.le_refl _) (I1.hok.fresh (Nat.le_refl _))
theorem range_it {pins : List (Addr × Obj)} {σ : St} {H : Hp} {s : Shared} {R : It → Hp → Prop} {E : Value → Shared → Prop} {lo hi : Int} {t u v : Tok} {tk : Nat} (I : Inv X pins σ H s) (h1 : -(2 ^ 62) ≤ lo) (h2 : lo < 2 ^ 62) (h3 : -(2 ^ 62) ≤ hi) (h4 : hi < 2 ^ 62)
    (q : R (Itr lo (hi - lo).toNat) H) : wpAny (model X.prog X.w) X.A (pyIter (.ref s.heap.objs.size)) (PIE X pins σ tg R) E { s with heap := s.heap.push { cls := .type "range", data := .fields #[.int lo t, .int hi u, .int 1 v] }, toks := tk } := by
  refine wpAny_pyIter_range (IsRange.new ..) (small_one h1 h2 h3 h4) ?_
  have I1 : Inv X pins σ H { s with heap := s.heap.push { cls := .type "range", data := .fields #[.int lo t, .int hi u, .int 1 v] }, toks := tk } := I.kept fun b o e => Heap.get?_push_of_some _ e
  refine ⟨(s.heap.push { cls := .type "range", data := .fields #[.int lo t, .int hi u, .int 1 v] }).objs.size, [(s.heap.push { cls := .type "range", data := .fields #[.int lo t, .int hi u, .int 1 v] }).objs.size], _, _, H, rfl,
    I1.kept (t' := tk) fun b o e => Heap.get?_push_of_some _ e, turn_range _ lo (hi - lo).toNat, ?_, fun b hb => ?_, q⟩
  · have e1 : lo + ((0 : Nat) : Int) * 1 = lo := by simp
    have e2 : (((hi - lo).toNat : Nat) : Int) - ((0 : Nat) : Int) = Builtin.Range.rangeSize lo hi 1 := by rw [rangeSize_one]; split <;> omega
    show IsRangeIter _ _ (lo + ((0 : Nat) : Int) * 1) ((((hi - lo).toNat : Nat) : Int) - ((0 : Nat) : Int)) 1
    rw [e1, e2]
    exact Heap.get?_push_size _ rfl
  · have e : b = (s.heap.push { cls := .type "range", data := .fields #[.int lo t, .int hi u, .int 1 v] }).objs.size := by simpa using hb
    subst e
    exact I1.fpOk (Nat.le_refl _) (I1.hok.fresh (Nat.le_refl _))
def iRng1 (ta : TA) : TI := fun σ H R => ta σ H fun vs H1 => ∃ j : Int, vs = [.int j] ∧ -(2 ^ 62) ≤ j ∧ j < 2 ^ 62 ∧ R (Itr 0 j.toNat) H1
theorem pi_range1 {a : Expr} {ta : TA} {p pos : Pos} (hg : Gl X "range") (hm : X.mg "range" = none) (ha : PA X [a] ta) (hs : starEach [a] X.env = [(false, eval a X.env)] := by rfl) : PI X tg (.Call (.Name "range" p) [a] [] pos) (iRng1 ta) := by
  intro pins s σ H R I h
  refine Call_ (ld_blt I hg hm boot_range (PyProof.Rows.callWith_type1 (thn (ha pos pins s σ H _ I h) fun us s1 ⟨vs, H1, I1, r1, q1⟩ => ?_) hs rfl))
  obtain ⟨j, e, q1, q2, q⟩ := q1
  subst e
  cases r1 with
  | cons r rr =>
    cases rr
    obtain ⟨t, rfl⟩ := r
    exact call_range_1 (range_it I1 (by omega) (by omega) q1 q2 (by simpa using q))
def tFor (wi : TI) (g : TG) (tb : TS) : TS := fun D σ H => wi σ H fun J H1 => ∃ W : Nat → Nat → St → Hp → Prop, (∃ m, W 0 m σ H1) ∧ ∀ i m σ H, W i m σ H →
  (J.stop i H ∧ D.nx σ H) ∨ (J.go i H ∧ ∃ N : St → Hp → Prop, (∀ σ' H', N σ' H' → ∃ m', m' < m ∧ W (i + 1) m' σ' H') ∧ ∀ x H', J.yld i H x H' → g x σ H' fun σ2 H2 => tb { D with nx := N, ct := N, bk := D.nx } σ2 H2)
def pinsAt (fp : List Addr) (h : Heap) : List (Addr × Obj) := fp.filterMap fun b => (h.get? b).map fun o => (b, o)
theorem mem_pinsAt {fp : List Addr} {h : Heap} {b : Addr} {o : Obj} (hb : b ∈ fp) (e : h.get? b = some o) : (b, o) ∈ pinsAt fp h := List.mem_filterMap.mpr ⟨b, hb, by rw [e]; rfl⟩
theorem of_pinsAt {fp : List Addr} {h : Heap} {p : Addr × Obj} (hp : p ∈ pinsAt fp h) : p.1 ∈ fp ∧ h.get? p.1 = some p.2 := by
  obtain ⟨b, hb, e⟩ := List.mem_filterMap.mp hp
  cases q : h.get? b with
  | none => rw [q] at e; cases e
  | some o =>
    rw [q] at e
    have e' : (b, o) = p := Option.some.inj e
    subst e'
    exact ⟨hb, q⟩
theorem Inv.pinned {pins : List (Addr × Obj)} {σ : St} {H : Hp} {s : Shared} {fp : List Addr} (I : Inv X pins σ H s) (hf : ∀ b ∈ fp, FpOk X pins H b) (ho : ∀ b ∈ fp, ∃ o, s.heap.get? b = some o ∧ ∀ v, o.data ≠ .cell v) : Inv X (pins ++ pinsAt fp s.heap) σ H s :=
  I.pins_of fun p hp => (List.mem_append.mp hp).elim (fun z => I.pin p (List.mem_append_right _ z)) fun z => by
    obtain ⟨hb, e⟩ := of_pinsAt z
    obtain ⟨f0, f1, f2, _⟩ := hf p.1 hb
    obtain ⟨o, e', d⟩ := ho p.1 hb
    rw [e] at e'; cases e'
    exact ⟨e, f0, f1, f2, d⟩
theorem Inv.unpinned {pins pl : List (Addr × Obj)} {σ : St} {H : Hp} {s : Shared} (I : Inv X (pins ++ pl) σ H s) : Inv X pins σ H s := I.pins_of fun p hp => I.pin p (List.mem_append_right _ (List.mem_append_left _ hp))
theorem ps_for {iter : Expr} {body : List Stmt} {wi : TI} {g : TG} {tb : TS} {pos : Pos} (hp : PassesOwn (model X.prog X.w) X.A X.env X.xe) (hc : X.calm = true) (hi : PI X tg iter wi) (hg : PG X tg g) (hb : PSs X body tb)
    (hs : ∀ x, foldedSetIterable iter X.env x = pure x := by intro _; rfl) : PS X (.For tg iter body [] pos) (tFor wi g tb) := by
  intro pins s σ H D I h
  refine wpAny_For (thn (hi pins s σ H _ I h) fun v s1 h1 => thn h1 fun itv s2 h2 => ?_) hs
  obtain ⟨it, fp, tn, J, H2, e, I2, T, st2, f2, W, ⟨m0, w0⟩, turn⟩ := h2
  subst e
  have stat : ∀ {H' : Hp}, (∀ b ∈ fp, H' b = none) → ∀ b ∈ fp, FpOk X pins H' b := fun hn b hb => ⟨hn b hb, (f2 b hb).2⟩
  refine codeAny_forLoop_any (fun n s' => ∃ i σ' H', Inv X pins σ' H' s' ∧ tn i s'.heap ∧ (∀ b ∈ fp, H' b = none) ∧ W i n σ' H') ?_ m0 ⟨0, σ, H2, I2, st2, fun b hb => (f2 b hb).1, w0⟩
  rintro n s3 ⟨i, σ3, H3, I3, st3, fr3, w3⟩
  rcases turn i n σ3 H3 w3 with ⟨stop, qn⟩ | ⟨go, N, hN, step⟩
  · refine wpAny_passesOwn hp (thn (T.done X rfl rfl rfl hc i pins s3 σ3 H3 X.xe I3 (stat fr3) st3 stop) fun r s4 ⟨hr, I4⟩ => ?_)
    subst hr
    exact wpAny_execs_nil ⟨σ3, H3, I4, qn⟩
  · refine wpAny_passesOwn hp (thn (T.item X rfl rfl rfl hc i pins s3 σ3 H3 X.xe I3 (stat fr3) st3 go) fun r s4 ⟨u, hr, h4⟩ => ?_)
    subst hr
    refine wpAny_passesOwn hp (thn h4 fun _ s5 ⟨x, H5, I5, r5, y5, st5, fr5⟩ => ?_)
    have I5' := I5.pinned (stat fr5) (T.obj _ _ st5)
    refine wpAny_passesOwn hp (thn (hg _ s5 σ3 H5 x u _ I5' r5 (step x H5 y5)) fun _ s6 ⟨σ6, H6, I6, q6⟩ => ?_)
    refine wpAny_passesOwn hp (thn (hb _ s6 σ6 H6 _ I6 q6) fun f s7 q7 => ?_)
    have again : ∀ {σ7 : St} {H7 : Hp}, Inv X (pins ++ pinsAt fp s5.heap) σ7 H7 s7 → N σ7 H7 → ∃ m, m < n ∧ ∃ i σ' H', Inv X pins σ' H' s7 ∧ tn i s7.heap ∧ (∀ b ∈ fp, H' b = none) ∧ W i m σ' H' := fun {σ7 H7} I7 n7 => by
      obtain ⟨m', hm, w7⟩ := hN σ7 H7 n7
      refine ⟨m', hm, i + 1, σ7, H7, I7.unpinned, T.keep _ _ _ st5 fun b hb o e => (I7.pin (b, o) (List.mem_append_right _ (List.mem_append_right _ (mem_pinsAt hb e)))).1, fun b hb => ?_, w7⟩
      obtain ⟨o, e, d⟩ := T.obj _ _ st5 b hb
      exact (I7.pin (b, o) (List.mem_append_right _ (List.mem_append_right _ (mem_pinsAt hb e)))).2.1
    cases f with
    | next => obtain ⟨σ7, H7, I7, n7⟩ := q7; exact again I7 n7
    | cont => obtain ⟨σ7, H7, I7, n7⟩ := q7; exact again I7 n7
    | brk => obtain ⟨σ7, H7, I7, q7⟩ := q7; exact ⟨σ7, H7, I7.unpinned, q7⟩
    | ret v => obtain ⟨x7, σ7, H7, I7, r7, q7⟩ := q7; exact ⟨x7, σ7, H7, I7.unpinned, r7, q7⟩
end
theorem for_list {K : PySem.W.Frag} {a : Addr} {xs : List V} {g : TG} {tb : TS} {D : Ends} {σ : St} {H : Hp} (Pv : Nat → St → Hp → Prop) (h0 : Pv 0 σ H) (hl : ∀ i σ H, i ≤ xs.length → Pv i σ H → SqL K H a xs)
    (hs : ∀ i x σ H, xs[i]? = some x → Pv i σ H → g x σ H fun σ2 H2 => tb { D with nx := Pv (i + 1), ct := Pv (i + 1), bk := D.nx } σ2 H2) (hd : ∀ σ H, Pv xs.length σ H → D.nx σ H) :
    ∃ W : Nat → Nat → St → Hp → Prop, (∃ m, W 0 m σ H) ∧ ∀ i m σ H, W i m σ H →
      ((Itl K a).stop i H ∧ D.nx σ H) ∨ ((Itl K a).go i H ∧ ∃ N : St → Hp → Prop, (∀ σ' H', N σ' H' → ∃ m', m' < m ∧ W (i + 1) m' σ' H') ∧ ∀ x H', (Itl K a).yld i H x H' → g x σ H' fun σ2 H2 => tb { D with nx := N, ct := N, bk := D.nx } σ2 H2) := by
  refine ⟨fun i m σ H => m = xs.length - i ∧ i ≤ xs.length ∧ Pv i σ H, ⟨xs.length, by simp, Nat.zero_le _, h0⟩, ?_⟩
  rintro i m σ H ⟨rfl, hi, p⟩
  have q := hl i σ H hi p
  by_cases hlt : i < xs.length
  · refine .inr ⟨⟨xs, xs[i], q, by simp [hlt]⟩, Pv (i + 1), fun σ' H' p' => ⟨xs.length - (i + 1), by omega, rfl, hlt, p'⟩, fun x H' y => ?_⟩
    obtain ⟨e, y⟩ := y
    subst e
    exact hs i x σ _ (y xs q) p
  · have e : i = xs.length := by omega
    subst e
    exact .inl ⟨⟨xs, q, Nat.le_refl _⟩, hd σ H p⟩
theorem for_range {lo : Int} {n : Nat} {g : TG} {tb : TS} {D : Ends} {σ : St} {H : Hp} (Pv : Nat → St → Hp → Prop) (h0 : Pv 0 σ H)
    (hs : ∀ i σ H, i < n → Pv i σ H → g (.int (lo + i)) σ H fun σ2 H2 => tb { D with nx := Pv (i + 1), ct := Pv (i + 1), bk := D.nx } σ2 H2) (hd : ∀ σ H, Pv n σ H → D.nx σ H) :
    ∃ W : Nat → Nat → St → Hp → Prop, (∃ m, W 0 m σ H) ∧ ∀ i m σ H, W i m σ H →
      ((Itr lo n).stop i H ∧ D.nx σ H) ∨ ((Itr lo n).go i H ∧ ∃ N : St → Hp → Prop, (∀ σ' H', N σ' H' → ∃ m', m' < m ∧ W (i + 1) m' σ' H') ∧ ∀ x H', (Itr lo n).yld i H x H' → g x σ H' fun σ2 H2 => tb { D with nx := N, ct := N, bk := D.nx } σ2 H2) := by
  refine ⟨fun i m σ H => m = n - i ∧ i ≤ n ∧ Pv i σ H, ⟨n, by simp, Nat.zero_le _, h0⟩, ?_⟩
  rintro i m σ H ⟨rfl, hi, p⟩
  by_cases hlt : i < n
  · refine .inr ⟨hlt, Pv (i + 1), fun σ' H' p' => ⟨n - (i + 1), by omega, rfl, hlt, p'⟩, fun x H' y => ?_⟩
    obtain ⟨e, y⟩ := y
    subst e y
    exact hs i σ _ hlt p
  · have e : i = n := by omega
    subst e
    exact .inl ⟨Nat.le_refl _, hd σ H p⟩
theorem while_by {c : TT} {tb : TS} {D : Ends} {σ : St} {H : Hp} (Pv : St → Hp → Prop) (μ : St → Hp → Nat) (h0 : Pv σ H)
    (hs : ∀ σ H, Pv σ H → c σ H fun b H1 => if b = true then tb { D with nx := fun σ' H' => Pv σ' H' ∧ μ σ' H' < μ σ H, ct := fun σ' H' => Pv σ' H' ∧ μ σ' H' < μ σ H, bk := D.nx } σ H1 else D.nx σ H1)
    (mono : ∀ σ H Q Q', (∀ b H1, Q b H1 → Q' b H1) → c σ H Q → c σ H Q') : tWhile c tb D σ H := by
  refine ⟨fun m σ H => m = μ σ H ∧ Pv σ H, ⟨_, rfl, h0⟩, ?_⟩
  rintro m σ H ⟨rfl, p⟩
  refine mono σ H _ _ (fun b H1 q => ?_) (hs σ H p)
  cases b with
  | true => exact ⟨_, fun σ' H' ⟨p', l⟩ => ⟨_, l, rfl, p'⟩, q⟩
  | false => exact q
end L2
namespace L2
open PySem PySem.Spec PyProof.Rows
abbrev R2 := V → V → Hp → VK → Prop
def OpR (X : Cx) (f : Value → Value → Sem Value) (r : R2) : Prop :=
  ∀ (pins : List (Addr × Obj)) (s : Shared) (σ : St) (H : Hp) (x y : V) (v u : Value) (Q : VK), Inv X pins σ H s → RelV x v → RelV y u → r x y H Q →
    wpAny (model X.prog X.w) X.A (f v u) (EP X pins σ Q) X.xe s
def UnR (X : Cx) (f : Value → Sem Value) (r : V → Hp → VK → Prop) : Prop :=
  ∀ (pins : List (Addr × Obj)) (s : Shared) (σ : St) (H : Hp) (x : V) (v : Value) (Q : VK), Inv X pins σ H s → RelV x v → r x H Q →
    wpAny (model X.prog X.w) X.A (f v) (EP X pins σ Q) X.xe s
def CallR (X : Cx) (f : Value) (r : List V → Hp → VK → Prop) : Prop :=
  ∀ (pins : List (Addr × Obj)) (s : Shared) (σ : St) (H : Hp) (xs : List V) (us : List Value) (Q : VK), Inv X pins σ H s → Vals xs us → r xs H Q →
    wpAny (model X.prog X.w) X.A (call f us) (EP X pins σ Q) X.xe s
def tOp (r : R2) (ta tb : TE) : TE := fun σ H Q => ta σ H fun x H1 => tb σ H1 fun y H2 => r x y H2 Q
def tUn (r : V → Hp → VK → Prop) (ta : TE) : TE := fun σ H Q => ta σ H fun x H1 => r x H1 Q
def rI (C : Int → Int → Prop) (g : Int → Int → V) : R2 := fun x y H Q => ∃ i j, x = .int i ∧ y = .int j ∧ C i j ∧ Q (g i j) H
def rI0 (g : Int → Int → V) : R2 := fun x y H Q => ∃ i j, x = .int i ∧ y = .int j ∧ Q (g i j) H
def rU (g : Int → V) : V → Hp → VK → Prop := fun x H Q => ∃ i, x = .int i ∧ Q (g i) H
section
variable {X : Cx} {a b c : Expr} {ta tb tc : TE} {pos : Pos}
theorem binT (ha : PE X a ta) (hb : PE X b tb) {pins : List (Addr × Obj)} {s : Shared} {σ : St} {H : Hp} {R : V → V → Hp → Prop} (I : Inv X pins σ H s)
    (h : ta σ H fun x H1 => tb σ H1 fun y H2 => R x y H2) {Q : Value → Shared → Prop} {f : Value → Value → Sem Value}
    (hf : ∀ v u s2 x y H2, Inv X pins σ H2 s2 → RelV x v → RelV y u → R x y H2 → wpAny (model X.prog X.w) X.A (f v u) Q X.xe s2) :
    wpAny (model X.prog X.w) X.A (eval a X.env) (fun v s₁ => wpAny (model X.prog X.w) X.A (eval b X.env) (fun u s₂ => wpAny (model X.prog X.w) X.A (f v u) Q X.xe s₂) X.xe s₁) X.xe s := by
  refine thn (ha pins s σ H _ I h) fun v s1 ⟨x, H1, I1, r1, q1⟩ => ?_
  refine thn (hb pins s1 σ H1 _ I1 q1) fun u s2 ⟨y, H2, I2, r2, q2⟩ => ?_
  exact hf v u s2 x y H2 I2 r1 r2 q2
theorem pe_op {op : Operator} {r : R2} (ho : OpR X (binaryOp op) r) (ha : PE X a ta) (hb : PE X b tb) : PE X (.BinOp a op b pos) (tOp r ta tb) := by
  intro pins s σ H Q I h
  exact wpAny_BinOp (binT ha hb I h fun v u s2 x y H2 I2 rx ry q => ho pins s2 σ H2 x y v u Q I2 rx ry q)
theorem pe_un {op : UnaryOp} {r : V → Hp → VK → Prop} (ho : UnR X (unaryOp op) r) (ha : PE X a ta) : PE X (.UnaryOp op a pos) (tUn r ta) := by
  intro pins s σ H Q I h
  exact UnaryOp_ (thn (ha pins s σ H _ I h) fun v s1 ⟨x, H1, I1, r1, q1⟩ => ho pins s1 σ H1 x v Q I1 r1 q1)
theorem opI {f : Value → Value → Sem Value} {C : Int → Int → Prop} {g : Int → Int → Int}
    (rule : ∀ (i j : Int) (t u : Tok) (s : Shared) (Q : Value → Shared → Prop) (E : Value → Shared → Prop), C i j → Q (.int (g i j) s.toks) { s with toks := s.toks + 1 } → wpAny (model X.prog X.w) X.A (f (.int i t) (.int j u)) Q E s) :
    OpR X f (rI C fun i j => .int (g i j)) := by
  intro pins s σ H x y v u Q I rx ry h
  obtain ⟨i, j, rfl, rfl, hc, q⟩ := h
  obtain ⟨t, rfl⟩ := rx
  obtain ⟨t', rfl⟩ := ry
  exact rule i j t t' s _ _ hc ⟨.int (g i j), H, I.tok _, ⟨_, rfl⟩, q⟩
theorem opI0 {f : Value → Value → Sem Value} {g : Int → Int → Int}
    (rule : ∀ (i j : Int) (t u : Tok) (s : Shared) (Q : Value → Shared → Prop) (E : Value → Shared → Prop), Q (.int (g i j) s.toks) { s with toks := s.toks + 1 } → wpAny (model X.prog X.w) X.A (f (.int i t) (.int j u)) Q E s) :
    OpR X f (rI0 fun i j => .int (g i j)) := by
  intro pins s σ H x y v u Q I rx ry h
  obtain ⟨i, j, rfl, rfl, q⟩ := h
  obtain ⟨t, rfl⟩ := rx
  obtain ⟨t', rfl⟩ := ry
  exact rule i j t t' s _ _ ⟨.int (g i j), H, I.tok _, ⟨_, rfl⟩, q⟩
theorem opB0 {f : Value → Value → Sem Value} {g : Int → Int → Bool}
    (rule : ∀ (i j : Int) (t u : Tok) (s : Shared) (Q : Value → Shared → Prop) (E : Value → Shared → Prop), Q (.bool (g i j)) s → wpAny (model X.prog X.w) X.A (f (.int i t) (.int j u)) Q E s) :
    OpR X f (rI0 fun i j => .bl (g i j)) := by
  intro pins s σ H x y v u Q I rx ry h
  obtain ⟨i, j, rfl, rfl, q⟩ := h
  obtain ⟨t, rfl⟩ := rx
  obtain ⟨t', rfl⟩ := ry
  exact rule i j t t' s _ _ ⟨.bl (g i j), H, I, rfl, q⟩
def CDiv (i j : Int) : Prop := 0 < j ∧ j < 1073741824
def CPow (i j : Int) : Prop := 0 ≤ j ∧ j ≤ 1000000 ∧ i.natAbs < 2 ^ 64
def CMul (i j : Int) : Prop := (-(2 ^ 64) < i ∧ i < 2 ^ 64) ∨ (-(2 ^ 64) < j ∧ j < 2 ^ 64)
theorem CMul.ok {i j : Int} (h : CMul i j) : IntMulOk i j := by
  rcases h with ⟨h1, h2⟩ | ⟨h1, h2⟩
  · exact .of_left (intBits_le_64 h1 h2)
  · exact .of_right (intBits_le_64 h1 h2)
theorem two_pow_nn (k : Nat) : (0 : Int) ≤ 2 ^ k := by
  rw [two_pow_cast]
  exact Int.natCast_nonneg _
theorem op_add : OpR X (binaryOp .Add) (rI0 fun i j => .int (i + j)) := opI0 fun _ _ _ _ _ _ _ q => add_int q
theorem op_sub : OpR X (binaryOp .Sub) (rI0 fun i j => .int (i - j)) := opI0 fun _ _ _ _ _ _ _ q => sub_int q
theorem op_mul : OpR X (binaryOp .Mult) (rI CMul fun i j => .int (i * j)) := opI fun _ _ _ _ _ _ _ hc q => mul_int q hc.ok
theorem op_fdiv : OpR X (binaryOp .FloorDiv) (rI CDiv fun i j => .int (i / j)) := opI fun i j _ _ _ _ _ hc q => by
  have h1 : (0 : Int) < j := hc.1
  have h2 : j < 1073741824 := hc.2
  exact floordiv_int (by omega) (by rw [Int.fdiv_eq_ediv_of_nonneg i (by omega)]; exact q) (.inl (PyProof.noPylong_small (by omega)))
theorem op_mod : OpR X (binaryOp .Mod) (rI (fun _ j => 0 < j) fun i j => .int (i % j)) := opI fun i j _ _ _ _ _ hc q => by
  have h1 : (0 : Int) < j := hc
  exact mod_int' (by omega) (by rw [Int.fmod_eq_emod_of_nonneg i (by omega)]; exact q)
theorem op_pow : OpR X (binaryOp .Pow) (rI CPow fun i j => .int (i ^ j.toNat)) := opI fun _ _ _ _ _ _ _ hc q => pow_int_small hc.1 hc.2.1 hc.2.2 q
theorem op_shl : OpR X (binaryOp .LShift) (rI CPow fun i j => .int (i * 2 ^ j.toNat)) := opI fun _ _ _ _ _ _ _ hc q => lshift_int_small hc.1 hc.2.1 hc.2.2 q
theorem op_shr : OpR X (binaryOp .RShift) (rI (fun _ j => 0 ≤ j) fun i j => .int (i / 2 ^ j.toNat)) := opI fun i j _ _ _ _ _ hc q =>
  rshift_int hc (by rw [Int.fdiv_eq_ediv_of_nonneg i (two_pow_nn _)]; exact q)
theorem op_and : OpR X (binaryOp .BitAnd) (rI0 fun i j => .int (Builtin.bitAnd i j)) := opI0 fun _ _ _ _ _ _ _ q => and_int q
theorem op_or : OpR X (binaryOp .BitOr) (rI0 fun i j => .int (Builtin.bitOr i j)) := opI0 fun _ _ _ _ _ _ _ q => or_int q
theorem unI {f : Value → Sem Value} {g : Int → Int}
    (rule : ∀ (i : Int) (t : Tok) (s : Shared) (Q : Value → Shared → Prop) (E : Value → Shared → Prop), Q (.int (g i) s.toks) { s with toks := s.toks + 1 } → wpAny (model X.prog X.w) X.A (f (.int i t)) Q E s) :
    UnR X f (rU fun i => .int (g i)) := by
  intro pins s σ H x v Q I rx h
  obtain ⟨i, rfl, q⟩ := h
  obtain ⟨t, rfl⟩ := rx
  exact rule i t s _ _ ⟨.int (g i), H, I.tok _, ⟨_, rfl⟩, q⟩
theorem un_neg : UnR X (unaryOp .USub) (rU fun i => .int (-i)) := unI fun _ _ _ _ _ q => neg_int q
end
def scal : V → V → Bool
  | .non, .non => true | .non, .int _ => true | .int _, .non => true | .non, .bl _ => true | .bl _, .non => true | .non, .str _ => true | .str _, .non => true
  | .int _, .int _ => true | .bl _, .bl _ => true | .str _, .str _ => true | .byt _, .byt _ => true
  | .int _, .str _ => true | .str _, .int _ => true | .bl _, .str _ => true | .str _, .bl _ => true
  | _, _ => false
def rEq : R2 := fun x y H Q => scal x y = true ∧ Q (.bl (decide (x = y))) H
def rNe : R2 := fun x y H Q => scal x y = true ∧ Q (.bl (!decide (x = y))) H
theorem dec_int {i j : Int} : decide (V.int i = V.int j) = (i == j) := by
  rw [Bool.eq_iff_iff]
  simp
theorem dec_bl {i j : Bool} : decide (V.bl i = V.bl j) = (i == j) := by
  rw [Bool.eq_iff_iff]
  simp
theorem dec_str {i j : Str} : decide (V.str i = V.str j) = (i == j) := by
  rw [Bool.eq_iff_iff]
  simp
theorem dec_byt {i j : Array UInt8} : decide (V.byt i = V.byt j) = (i.toList == j.toList) := by
  rw [Bool.eq_iff_iff]
  cases i
  cases j
  simp
section
variable {X : Cx} {a b c : Expr} {ta tb tc : TE} {pos : Pos}
theorem fin_bl {pins : List (Addr × Obj)} {σ : St} {H : Hp} {s : Shared} {Q : VK} {k k' : Bool} (I : Inv X pins σ H s) (q : Q (.bl k) H) (e : k = k') : EP X pins σ Q (.bool k') s := by
  subst e
  exact ⟨.bl k, H, I, rfl, q⟩
theorem op_eq : OpR X (compareOp .Eq) rEq := by
  intro pins s σ H x y v u Q I rx ry h
  obtain ⟨hs, q⟩ := h
  cases x with
  | non =>
    cases rx
    cases y with
    | non => cases ry; exact PySem.EqNone.eq_none_none (fin_bl I q (by simp))
    | bl j => cases ry; exact PySem.EqNone.eq_none_bool (fin_bl I q (by simp))
    | int j => obtain ⟨t', rfl⟩ := ry; exact PySem.EqNone.eq_none_int (fin_bl I q (by simp))
    | str j => obtain ⟨t', rfl⟩ := ry; exact PySem.EqNone.eq_none_str (fin_bl I q (by simp))
    | _ => exact absurd (show false = true from hs) Bool.false_ne_true
  | bl i =>
    cases rx
    cases y with
    | non => cases ry; exact PySem.EqNone.eq_bool_none (fin_bl I q (by simp))
    | bl j => cases ry; exact eq_bool (fin_bl I q dec_bl)
    | str j => obtain ⟨t', rfl⟩ := ry; exact PySem.EqMixed.eq_bool_str (fin_bl I q (by simp))
    | _ => exact absurd (show false = true from hs) Bool.false_ne_true
  | int i =>
    obtain ⟨t, rfl⟩ := rx
    cases y with
    | non => cases ry; exact PySem.EqNone.eq_int_none (fin_bl I q (by simp))
    | int j => obtain ⟨t', rfl⟩ := ry; exact eq_int (fin_bl I q dec_int)
    | str j => obtain ⟨t', rfl⟩ := ry; exact PySem.EqMixed.eq_int_str (fin_bl I q (by simp))
    | _ => exact absurd (show false = true from hs) Bool.false_ne_true
  | str i =>
    obtain ⟨t, rfl⟩ := rx
    cases y with
    | non => cases ry; exact PySem.EqNone.eq_str_none (fin_bl I q (by simp))
    | bl j => cases ry; exact PySem.EqMixed.eq_str_bool (fin_bl I q (by simp))
    | int j => obtain ⟨t', rfl⟩ := ry; exact PySem.EqMixed.eq_str_int (fin_bl I q (by simp))
    | str j => obtain ⟨t', rfl⟩ := ry; exact eq_str (fin_bl I q dec_str)
    | _ => exact absurd (show false = true from hs) Bool.false_ne_true
  | byt i =>
    obtain ⟨t, rfl⟩ := rx
    cases y with
    | byt j => obtain ⟨t', rfl⟩ := ry; exact PySem.W.eq_bytes (fin_bl I q dec_byt)
    | _ => exact absurd (show false = true from hs) Bool.false_ne_true
  | _ => cases y <;> exact absurd (show false = true from hs) Bool.false_ne_true
theorem op_ne : OpR X (compareOp .NotEq) rNe := by
  intro pins s σ H x y v u Q I rx ry h
  obtain ⟨hs, q⟩ := h
  cases x with
  | non =>
    cases rx
    cases y with
    | non => cases ry; exact PySem.EqNone.ne_none_none (fin_bl I q (by simp))
    | bl j => cases ry; exact PySem.EqNone.ne_none_bool (fin_bl I q (by simp))
    | int j => obtain ⟨t', rfl⟩ := ry; exact PySem.EqNone.ne_none_int (fin_bl I q (by simp))
    | str j => obtain ⟨t', rfl⟩ := ry; exact PySem.EqNone.ne_none_str (fin_bl I q (by simp))
    | _ => exact absurd (show false = true from hs) Bool.false_ne_true
  | bl i =>
    cases rx
    cases y with
    | non => cases ry; exact PySem.EqNone.ne_bool_none (fin_bl I q (by simp))
    | bl j => cases ry; exact ne_bool (fin_bl I q (congrArg not dec_bl))
    | str j => obtain ⟨t', rfl⟩ := ry; exact PySem.EqMixed.ne_bool_str (fin_bl I q (by simp))
    | _ => exact absurd (show false = true from hs) Bool.false_ne_true
  | int i =>
    obtain ⟨t, rfl⟩ := rx
    cases y with
    | non => cases ry; exact PySem.EqNone.ne_int_none (fin_bl I q (by simp))
    | int j => obtain ⟨t', rfl⟩ := ry; exact ne_int (fin_bl I q (congrArg not dec_int))
    | str j => obtain ⟨t', rfl⟩ := ry; exact PySem.EqMixed.ne_int_str (fin_bl I q (by simp))
    | _ => exact absurd (show false = true from hs) Bool.false_ne_true
  | str i =>
    obtain ⟨t, rfl⟩ := rx
    cases y with
    | non => cases ry; exact PySem.EqNone.ne_str_none (fin_bl I q (by simp))
    | bl j => cases ry; exact PySem.EqMixed.ne_str_bool (fin_bl I q (by simp))
    | int j => obtain ⟨t', rfl⟩ := ry; exact PySem.EqMixed.ne_str_int (fin_bl I q (by simp))
    | str j => obtain ⟨t', rfl⟩ := ry; exact ne_str (fin_bl I q (congrArg not dec_str))
    | _ => exact absurd (show false = true from hs) Bool.false_ne_true
  | byt i =>
    obtain ⟨t, rfl⟩ := rx
    cases y with
    | byt j => obtain ⟨t', rfl⟩ := ry; exact PySem.W.ne_bytes (fin_bl I q (congrArg not dec_byt))
    | _ => exact absurd (show false = true from hs) Bool.false_ne_true
  | _ => cases y <;> exact absurd (show false = true from hs) Bool.false_ne_true
theorem op_lt : OpR X (compareOp .Lt) (rI0 fun i j => .bl (decide (i < j))) := opB0 fun _ _ _ _ _ _ _ q => lt_int q
theorem op_le : OpR X (compareOp .LtE) (rI0 fun i j => .bl (decide (i ≤ j))) := opB0 fun _ _ _ _ _ _ _ q => le_int q
theorem op_gt : OpR X (compareOp .Gt) (rI0 fun i j => .bl (decide (j < i))) := opB0 fun _ _ _ _ _ _ _ q => gt_int q
theorem op_ge : OpR X (compareOp .GtE) (rI0 fun i j => .bl (decide (j ≤ i))) := opB0 fun _ _ _ _ _ _ _ q => ge_int q
theorem nomark (b : Expr) {op : CmpOp} (h : op ≠ .In := by decide) (h2 : op ≠ .NotIn := by decide) : behindInMarks op b = false := by
  have e1 : (op == CmpOp.In) = false := by cases op <;> first | rfl | exact absurd rfl h
  have e2 : (op == CmpOp.NotIn) = false := by cases op <;> first | rfl | exact absurd rfl h2
  cases b <;> simp [behindInMarks, e1, e2]
theorem pe_cmpR {op : CmpOp} {r : R2} (ho : OpR X (compareOp op) r) (ha : PE X a ta) (hb : PE X b tb) (hm : behindInMarks op b = false) : PE X (.Compare a [op] [b] pos) (tOp r ta tb) := by
  intro pins s σ H Q I h
  exact wpAny_Compare1 (binT ha hb I h fun v u s2 x y H2 I2 rx ry q => ho pins s2 σ H2 x y v u Q I2 rx ry q) hm
def tTest (t : TE) : TT := fun σ H Q => t σ H fun x H' => ∃ k, x = .bl k ∧ Q k H'
theorem pt_cmpR {op : CmpOp} {r : R2} (ho : OpR X (compareOp op) r) (ha : PE X a ta) (hb : PE X b tb) (hm : behindInMarks op b = false) : PT X (.Compare a [op] [b] pos) (tTest (tOp r ta tb)) := by
  intro pins s σ H Q I h
  refine wpAny_isTrue_Compare1 (thn (ha pins s σ H _ I h) fun v s1 ⟨x, H1, I1, r1, q1⟩ => thn (hb pins s1 σ H1 _ I1 q1) fun u s2 ⟨y, H2, I2, r2, q2⟩ =>
    thn (ho pins s2 σ H2 x y v u _ I2 r1 r2 q2) fun c s3 ⟨z, H3, I3, r3, k, e, q3⟩ => ?_) hm
  subst e
  cases r3
  exact wpAny_truthy_bool ⟨H3, I3, q3⟩
def tChain (r r' : R2) (ta tb tc : TE) : TE := fun σ H Q => ta σ H fun x H1 => tb σ H1 fun y H2 => r x y H2 fun z H3 => ∃ k, z = .bl k ∧
  (if k = true then tc σ H3 fun w' H4 => r' y w' H4 Q else Q (.bl false) H3)
theorem pe_chain {op op' : CmpOp} {r r' : R2} (ho : OpR X (compareOp op) r) (ho' : OpR X (compareOp op') r') (ha : PE X a ta) (hb : PE X b tb) (hc : PE X c tc)
    (hm : lastMarks [op, op'] [b, c] = false := by with_unfolding_all rfl) : PE X (.Compare a [op, op'] [b, c] pos) (tChain r r' ta tb tc) := by
  intro pins s σ H Q I h
  refine Compare_chain (thn (ha pins s σ H _ I h) fun v s1 ⟨x, H1, I1, r1, q1⟩ => chain_link (thn (hb pins s1 σ H1 _ I1 q1) fun u s2 ⟨y, H2, I2, r2, q2⟩ =>
    thn (ho pins s2 σ H2 x y v u _ I2 r1 r2 q2) fun d s3 ⟨z, H3, I3, r3, k, e, q3⟩ => ?_)) hm
  subst e
  cases r3
  refine wpAny_truthy_bool ?_
  cases k with
  | false => exact ite_ff ⟨.bl false, H3, I3, rfl, q3⟩
  | true => exact ite_tt (chain_last (thn (hc pins s3 σ H3 _ I3 q3) fun w' s4 ⟨z', H4, I4, r4, q4⟩ => ho' pins s4 σ H4 y z' u w' Q I4 r2 r4 q4))
theorem line63 : (sizeLine : Nat) < 2 ^ 63 := by rw [sizeLine_eq]; decide
theorem vals1 {x : V} {us : List Value} (r : Vals [x] us) : ∃ u, us = [u] ∧ RelV x u := by
  cases r with
  | cons r1 r2 => cases r2; exact ⟨_, rfl, r1⟩
theorem vals2 {x y : V} {us : List Value} (r : Vals [x, y] us) : ∃ u w', us = [u, w'] ∧ RelV x u ∧ RelV y w' := by
  cases r with
  | cons r1 r2 =>
    cases r2 with
    | cons r3 r4 => cases r4; exact ⟨_, _, rfl, r1, r3⟩
theorem call_max2 (hc : X.calm = true) : CallR X (.builtin "max") (fun xs H Q => ∃ i j, xs = [.int i, .int j] ∧ Q (.int (if j > i then j else i)) H) := by
  intro pins s σ H xs us Q I r h
  obtain ⟨i, j, rfl, q⟩ := h
  obtain ⟨u, w', rfl, ⟨t, rfl⟩, ⟨t', rfl⟩⟩ := vals2 r
  refine max_two_ints (I.ok.hd hc) fun h' tk k => ⟨_, H, I.kept k, ?_, q⟩
  by_cases hj : j > i
  · rw [if_pos hj, if_pos hj]; exact ⟨_, rfl⟩
  · rw [if_neg hj, if_neg hj]; exact ⟨_, rfl⟩
theorem call_min2 (hc : X.calm = true) : CallR X (.builtin "min") (fun xs H Q => ∃ i j, xs = [.int i, .int j] ∧ Q (.int (if j < i then j else i)) H) := by
  intro pins s σ H xs us Q I r h
  obtain ⟨i, j, rfl, q⟩ := h
  obtain ⟨u, w', rfl, ⟨t, rfl⟩, ⟨t', rfl⟩⟩ := vals2 r
  refine min_two_ints (I.ok.hd hc) fun h' tk k => ⟨_, H, I.kept k, ?_, q⟩
  by_cases hj : j < i
  · rw [if_pos hj, if_pos hj]; exact ⟨_, rfl⟩
  · rw [if_neg hj, if_neg hj]; exact ⟨_, rfl⟩
end
end L2
namespace L2
open PySem PySem.Spec PyProof.Rows
structure ObjM (h : Heap) (x dx C : Addr) (mA : Str → Option Value) : Prop where
  obj : h.get? x = some (PySem.W.instObj C dx)
  ns : h.Ns1 dx mA
  ne : dx ≠ x
theorem lookIn_ns {h : Heap} {dx : Addr} {mA : Str → Option Value} (n : h.Ns1 dx mA) : ∃ od, h.get? dx = some od ∧ ∀ name, PySem.W.lookIn name od = some (mA name) := by
  obtain ⟨o, es, ep, ho, hd, hk, _, hm⟩ := n
  refine ⟨o, ho, fun name => ?_⟩
  have e := hm name
  unfold nsFind findBy at e
  rw [← Array.find?_toList] at e
  unfold PySem.W.lookIn
  rw [hd]
  dsimp only
  split
  · rename_i y q
    rw [q] at e
    exact congrArg some e
  · rename_i q
    rw [q] at e
    have a : es.toList.any (·.refKey) = false := by
      rw [List.any_eq_false]
      intro y hy
      obtain ⟨z, t, hkey⟩ := hk y (Array.mem_toList_iff.mp hy)
      simp [DictEntry.refKey, hkey]
    have a' : ¬ es.toList.any (·.refKey) = true := by rw [a]; exact Bool.false_ne_true
    rw [if_neg a']
    exact congrArg some e
theorem ObjM.look {h : Heap} {x dx C : Addr} {mA : Str → Option Value} (I : ObjM h x dx C mA) : ∃ od, PySem.W.InstAt h x (PySem.W.instObj C dx) C (some od) ∧ ∀ name, PySem.W.lookIn name od = some (mA name) :=
  let ⟨od, ho, hl⟩ := lookIn_ns I.ns
  ⟨od, ⟨I.obj, rfl, rfl, ho⟩, hl⟩
section
variable {prog : Program} {w : World} {A : Around} {E : Value → Shared → Prop} {s : Shared} {K : PySem.W.Frag} {x dx C f : Addr} {mA : Str → Option Value} {name : Str} {v : Value}
end
section
variable {P : Program} {w : World} {H H' : Hp} {h h' : Heap} {a C dx : Addr} {fs fs' : List (Str × V)}
theorem ins_get (hok : HOk P w H h) (e : H a = some (.ins C dx fs)) : ∃ mA, ObjM h a dx C mA ∧ (∀ f, RelO (fs.lookup f) (mA f)) ∧ PySem.Within mA (fs.map (·.1)) ∧ fs.length ≤ 1000 ∧ H dx = some (.own a) := by
  obtain ⟨d, z, ne, ob, mA, n, r, q⟩ := (show ObjOk P w H h a (.ins C dx fs) from hok a _ e)
  exact ⟨mA, ⟨ob, n, ne⟩, r, q, z, d⟩
end
structure Cls (K : PySem.W.Frag) (C : Addr) : Prop where
  pg : PySem.W.plainGet K C Str.empty = true
  hd : PySem.W.hasDictIn K C = true
  po : PySem.W.plainOver K C = true
  sa : PySem.W.findIn K (.ref C) "__setattr__" = some (some (.builtin "object.__setattr__"))
theorem Cls.get {K : PySem.W.Frag} {C : Addr} (c : Cls K C) (f : Str) : PySem.W.plainGet K C f = true := c.pg
section
variable {X : Cx} {pins : List (Addr × Obj)} {σ : St} {H : Hp} {s : Shared} {a C dx : Addr} {fs : List (Str × V)} {f : Str} {v : V} {A : Around} {E : Value → Shared → Prop}
end
section
variable {X : Cx} {o e value : Expr} {f : Str} {pos pos' tpos : Pos} {ta tv : TE}
end
section
variable {X : Cx} {pins : List (Addr × Obj)} {σ : St} {H : Hp} {s : Shared} {A : Around} {E : Value → Shared → Prop} {Q : Value → Shared → Prop} {c : Value} {b : Bool}
inductive TyOf (K : PySem.W.Frag) (H : Hp) : V → Value → Prop where
  | non : TyOf K H .non (.type "NoneType")
  | bl (x : Bool) : TyOf K H (.bl x) (.type "bool")
  | int (i : Int) : TyOf K H (.int i) (.type "int")
  | str (x : Str) : TyOf K H (.str x) (.type "str")
  | flt (x : UInt64) : TyOf K H (.flt x) (.type "float")
  | lst {a : Addr} {xs : List V} (e : H a = some (.lst xs)) : TyOf K H (.ref a) (.type "list")
  | frz {a : Addr} {o : Obj} {xs : List V} (e : H a = some (.frz o (.lst xs))) : TyOf K H (.ref a) (.type "list")
  | tup {a : Addr} {xs : List V} (e : H a = some (.tup xs)) : TyOf K H (.ref a) (.type "tuple")
  | dK {a : Addr} {kvs : List (Key × V)} (e : H a = some (.dK kvs)) : TyOf K H (.ref a) (.type "dict")
  | dT {a : Addr} {kvs : List (List Key × V)} (e : H a = some (.dT kvs)) : TyOf K H (.ref a) (.type "dict")
  | ins {a C dx : Addr} {fs : List (Str × V)} (e : H a = some (.ins C dx fs)) (cl : Cls K C) (ha : PySem.W.findIn K (.ref C) "__class__" = some (some (.builtin "object.__class__")))
      (hn : PySem.W.specialIn K (.builtin "object.__class__") "__get__" = some (some (.builtin "getset_descriptor.__get__"))) (htk : PySem.W.takesIn K (.builtin "object.__class__") = some true)
      (hm : PySem.W.mroIn K C (.type "object") = some true) : TyOf K H (.ref a) (.ref C)
theorem isinst_ok {x : V} {u t : Value} (I : Inv X pins σ H s) (rx : RelV x u) (ty : TyOf X.K H x t) (e : PySem.W.kitOne X.K t c = some b) (h : ∀ tk, Q (.bool b) { s with toks := tk }) :
    wpAny (model X.prog X.w) A (call (.builtin "isinstance") [u, c]) Q E s := by
  cases ty with
  | non => cases (show u = Value.none from rx); exact PySem.W.kia_one PySem.W.kitx_none I.kIn True.intro e (fun z => nomatch z) h
  | bl y => cases (show u = Value.bool y from rx); exact PySem.W.kia_one PySem.W.kitx_bool I.kIn True.intro e (fun z => nomatch z) h
  | int i => obtain ⟨t, q⟩ := (show ∃ t, u = Value.int i t from rx); cases q; exact PySem.W.kia_one PySem.W.kitx_int I.kIn True.intro e (fun z => nomatch z) h
  | str y => obtain ⟨t, q⟩ := (show ∃ t, u = Value.str y t from rx); cases q; exact PySem.W.kia_one PySem.W.kitx_str I.kIn True.intro e (fun z => nomatch z) h
  | flt y => obtain ⟨t, q⟩ := (show ∃ t, u = Value.float y t from rx); cases q; exact PySem.W.kia_one PySem.W.kitx_float I.kIn True.intro e (fun z => nomatch z) h
  | @lst a xs ea =>
    cases (show u = Value.ref a from rx)
    obtain ⟨_, _, n, _, h1⟩ := (show ObjOk X.prog X.w H s.heap a (.lst xs) from I.hok a _ ea)
    exact PySem.W.kia_one PySem.W.kitx_list I.kIn ⟨_, h1, rfl⟩ e (fun z => nomatch z) h
  | @frz a ob xs ea =>
    cases (show u = Value.ref a from rx)
    obtain ⟨_, _, _, n, _, h1⟩ := (show ObjOk X.prog X.w H s.heap a (.frz ob (.lst xs)) from I.hok a _ ea)
    exact PySem.W.kia_one PySem.W.kitx_list I.kIn ⟨_, h1, rfl⟩ e (fun z => nomatch z) h
  | @tup a xs ea =>
    cases (show u = Value.ref a from rx)
    obtain ⟨_, _, _, p⟩ := (show ObjOk X.prog X.w H s.heap a (.tup xs) from I.hok a _ ea)
    obtain ⟨o, h1, h2, _⟩ := p
    exact PySem.W.kia_one PySem.W.kitx_tuple I.kIn ⟨o, h1, h2⟩ e (fun z => nomatch z) h
  | @dK a kvs ea =>
    cases (show u = Value.ref a from rx)
    obtain ⟨_, _, vs, _, p⟩ := (show ObjOk X.prog X.w H s.heap a (.dK kvs) from I.hok a _ ea)
    obtain ⟨o, es, ep, h1, h2, _⟩ := p
    exact PySem.W.kia_one PySem.W.kitx_dict I.kIn ⟨o, h1, h2.1⟩ e (fun z => nomatch z) h
  | @dT a kvs ea =>
    cases (show u = Value.ref a from rx)
    obtain ⟨_, _, xs, _, o, es, ep, h1, h2, _⟩ := (show ObjOk X.prog X.w H s.heap a (.dT kvs) from I.hok a _ ea)
    exact PySem.W.kia_one PySem.W.kitx_dict I.kIn ⟨o, h1, h2.1⟩ e (fun z => nomatch z) h
  | @ins a C dx fs ea cl ha hn htk hm =>
    cases (show u = Value.ref a from rx)
    obtain ⟨mA, O, _⟩ := ins_get I.hok ea
    obtain ⟨od, J, _⟩ := O.look
    exact PySem.W.kia_one (PySem.W.kitx_own (cl.get _) cl.hd ha hn htk hm) I.kIn J e (fun z => nomatch z) h
end
end L2
namespace L2
open PySem PySem.Spec PyProof.Rows
structure Room (k : Nat) (A : Around) : Prop where
  hd : A.handled = none
  dp : A.depth + 3 * k + 5 < recursionLimit
  un : A.units + 16 * k + 200 < cLine
  gd : A.guards = some []
theorem Room.mono {j k : Nat} {A : Around} (r : Room k A) (h : j ≤ k) : Room j A := ⟨r.hd, by have := r.dp; omega, by have := r.un; omega, r.gd⟩
theorem Room.deeper {k : Nat} {A : Around} (r : Room (k + 1) A) (env : Env) : Room k (A.deeper env) :=
  ⟨r.hd, by have := r.dp; show A.depth + 1 + 3 * k + 5 < _; omega, by have := r.un; show A.units + 3 + 16 * k + 200 < _; omega, r.gd⟩
theorem Room.depth {k : Nat} {A : Around} (r : Room k A) : A.depth < recursionLimit := by have := r.dp; omega
theorem Room.units {k : Nat} {A : Around} (r : Room k A) : A.units + 64 < cLine := by have := r.un; omega
def tNil : TA := fun _ H Q => Q [] H
def tCons (ta : TE) (tr : TA) : TA := fun σ H Q => ta σ H fun x H1 => tr σ H1 fun xs H2 => Q (x :: xs) H2
section
variable {X : Cx} {e : Expr} {es : List Expr} {te : TE} {t : TA} {pos : Pos}
theorem pa_nil : PA X [] tNil := fun _ _ _ _ H Q I h => Calls.spliced_nil ⟨[], H, I, .nil, h⟩
theorem pa_cons (ha : PE X e te) (hr : PA X es t) (hs : starEach (e :: es) X.env = (false, eval e X.env) :: starEach es X.env := by rfl) : PA X (e :: es) (tCons te t) := by
  intro pos pins s σ H Q I h
  rw [hs]
  show wpAny _ _ (spliced ((false, eval e X.env) :: backTo pos (starEach es X.env))) _ _ s
  refine Calls.spliced_cons (thn (ha pins s σ H _ I h) fun u s1 ⟨x, H1, I1, r1, q1⟩ => ?_)
  exact thn (hr pos pins s1 σ H1 _ I1 q1) fun us s2 ⟨xs, H2, I2, r2, q2⟩ => ⟨x :: xs, H2, I2, .cons r1 r2, q2⟩
def tTup (t : TA) : TE := fun σ H Q => t σ H fun xs H1 => xs.length ≤ sizeLine ∧ ∀ p, H1 p = none → Q (.ref p) (upd H1 p (.tup xs))
def tLst (t : TA) : TE := fun σ H Q => t σ H fun xs H1 => xs.length ≤ sizeLine ∧ ∀ p, H1 p = none → Q (.ref p) (upd H1 p (.lst xs))
theorem pe_tup {x1} (h : PA X es t) : PE X (.Tuple es x1 pos) (tTup t) := by
  intro pins s σ H Q I hq
  refine wpAny_Tuple_spliced (thn (h pos pins s σ H _ I hq) fun us s1 ⟨xs, H1, I1, r, z, q⟩ => ⟨by rw [← r.length]; exact z, ?_⟩)
  have hf : H1 s1.heap.objs.size = none := I1.hok.fresh (Nat.le_refl _)
  refine ⟨.ref s1.heap.objs.size, upd H1 s1.heap.objs.size (.tup xs), I1.laid (t' := s1.toks) (fun b u e => Heap.get?_push_of_some _ e) (Nat.le_refl _) ?_, rfl, q _ hf⟩
  exact ⟨z, us, r, ⟨_, Heap.get?_push_size _ rfl, rfl, _, rfl⟩⟩
theorem pe_lst (h : PA X es t) : PE X (.List es pos) (tLst t) := by
  intro pins s σ H Q I hq
  refine wpAny_List_spliced (thn (h pos pins s σ H _ I hq) fun us s1 ⟨xs, H1, I1, r, z, q⟩ => ⟨by rw [← r.length]; exact z, ?_⟩)
  have hf : H1 s1.heap.objs.size = none := I1.hok.fresh (Nat.le_refl _)
  refine ⟨.ref s1.heap.objs.size, upd H1 s1.heap.objs.size (.lst xs), I1.laid (t' := s1.toks) (fun b u e => Heap.get?_push_of_some _ e) (Nat.le_refl _) ?_, rfl, q _ hf⟩
  exact ⟨z, us, 0, r, Heap.get?_push_size _ rfl⟩
end
abbrev Sp := List V → Hp → VK → XK → Prop
abbrev CXT := List Env → Hp → Shared → XK → Value → Shared → Prop
structure Env0 (P : Program) (w : World) (K : PySem.W.Frag) (mg : Str → Option Value) (base : Heap) (A : Around) (outer : List Env) (s : Shared) (H : Hp) : Prop where
  frames : A.frames = some outer
  mod : Mod K mg base
  bs : ∀ b o, base.get? b = some o → s.heap.get? b = some o ∧ H b = none
  bsz : base.objs.size ≤ s.heap.objs.size
  funs : s.heap.FunFrames base outer
  frf : ∀ b ∈ frs outer, H b = none
  hok : HOk P w H s.heap
  bare : AllBare s.gens
def CE (outer : List Env) (P : Program) (w : World) (H : Hp) (s : Shared) (Q : VK) (u : Value) (s' : Shared) : Prop :=
  ∃ v H', s'.os = s.os ∧ AllBare s'.gens ∧ Un (frs outer) [] H H' s.heap s'.heap ∧ HOk P w H' s'.heap ∧ RelV v u ∧ Q v H'
def CR (CX : CXT) (outer : List Env) (P : Program) (w : World) (H : Hp) (s : Shared) (Q : VK) (E : XK) (r : Result) (s' : Shared) : Prop :=
  match r with
  | .ok (.ret u) => CE outer P w H s Q u s'
  | .ok _ => False
  | .error e => CX outer H s E e s'
structure FnOk (P : Program) (w : World) (K : PySem.W.Frag) (mg : Str → Option Value) (base : Heap) (CX : CXT) (k : Nat) (f : Addr) (fd : FuncData) (ps : List Str) (sp : Sp) : Prop where
  len : ∀ vs H Q E, sp vs H Q E → vs.length = ps.length
  run : ∀ (A : Around) (outer : List Env) (s : Shared) (H : Hp) (args : Args) (us : List Value) (vs : List V) (Q : VK) (E : XK), Room k A → Env0 P w K mg base A outer s H → BindsTo s fd args (ps.zip us) → Vals vs us → sp vs H Q E →
    codeAny (model P w) A (.call (.ref f) args) (CR CX outer P w H s Q E) s
theorem FnOk.imp {P : Program} {w : World} {K : PySem.W.Frag} {mg : Str → Option Value} {base : Heap} {CX : CXT} {k : Nat} {f : Addr} {fd : FuncData} {ps : List Str} {sp sp' : Sp} (F : FnOk P w K mg base CX k f fd ps sp)
    (h : ∀ vs H Q E, sp' vs H Q E → sp vs H Q E) : FnOk P w K mg base CX k f fd ps sp' :=
  ⟨fun vs H Q E q => F.len vs H Q E (h _ _ _ _ q), fun A outer s H args us vs Q E hr he hb hv hs => F.run A outer s H args us vs Q E hr he hb hv (h _ _ _ _ hs)⟩
section
variable {X : Cx} {pins : List (Addr × Obj)} {σ : St} {H : Hp} {s s' : Shared}
theorem Inv.env0 (I : Inv X pins σ H s) : Env0 X.prog X.w X.K X.mg X.base X.A X.stack s H :=
  ⟨I.ok.frames, I.ok.mod, I.bs, Nat.le_trans I.ok.bsz I.sz, I.stack, I.stkFree, I.hok, I.bare⟩
theorem Inv.after {Q : VK} {u : Value} (I : Inv X pins σ H s) (h : CE X.stack X.prog X.w H s Q u s') : EP X pins σ Q u s' := by
  obtain ⟨v, H', os, bare, un, hok, r, q⟩ := h
  obtain ⟨hh, g, d, t, os'⟩ := s'
  obtain rfl : os' = s.os := os
  exact ⟨v, H', I.call (h' := hh) (g' := g) (d' := d) (t' := t) (ch := []) un hok bare (fun b z => absurd z (by simp)), r, q⟩
end
def tCall (sp : Sp) (dvs : List V) (E : XK) (t : TA) : TE := fun σ H Q => t σ H fun vs H1 => sp (vs ++ dvs) H1 Q E
def Binds (K : PySem.W.Frag) (fd : FuncData) (ps : List Str) (ds : List Value) : Prop :=
  ∀ (s : Shared) (us : List Value), K.In s.heap → (us ++ ds).length = ps.length → BindsTo s fd ⟨us, []⟩ (ps.zip (us ++ ds))
theorem Binds.all {K : PySem.W.Frag} {fd : FuncData} {ps : List Str} (h : ∀ us : List Value, us.length = ps.length → bindArgs fd ⟨us, []⟩ = pure (ps.zip us)) : Binds K fd ps [] := fun s us _ hl => by
  rw [List.append_nil] at hl ⊢
  exact .of_eq (h us hl)
def Passes (CX : CXT) (X : Cx) (E : XK) : Prop := ∀ (pins : List (Addr × Obj)) (σ : St) (H : Hp) (s : Shared) (e : Value) (s' : Shared), Inv X pins σ H s → CX X.stack H s E e s' → X.xe e s'
section
variable {X : Cx} {CX : CXT} {k : Nat} {f C : Addr} {fd : FuncData} {ps : List Str} {sp : Sp} {dvs : List V} {ds : List Value} {E : XK} {x m : Str} {p pos apos : Pos} {e o : Expr} {es : List Expr} {ta : TE} {t : TA}
theorem run_fn {pins : List (Addr × Obj)} {σ : St} {H : Hp} {s : Shared} {Q : VK} {us : List Value} {vs : List V} (F : FnOk X.prog X.w X.K X.mg X.base CX k f fd ps sp) (hr : Room k X.A) (hb : Binds X.K fd ps ds) (hd : Vals dvs ds) (hx : Passes CX X E)
    (I : Inv X pins σ H s) (r : Vals vs us) (h : sp (vs ++ dvs) H Q E) : wpAny (model X.prog X.w) X.A (call (.ref f) us) (EP X pins σ Q) X.xe s := by
  have r2 : Vals (vs ++ dvs) (us ++ ds) := r.append hd
  have hl : (us ++ ds).length = ps.length := by rw [← r2.length]; exact F.len _ _ _ _ h
  refine wpAny_call (codeAny_mono (F.run X.A X.stack s H ⟨us, []⟩ (us ++ ds) (vs ++ dvs) Q E hr I.env0 (hb s us I.kIn hl) r2 h) fun r s' hq => ?_)
  cases r with
  | error e => exact hx pins σ H s e s' I hq
  | ok fl =>
    cases fl with
    | ret u => exact I.after hq
    | next => exact False.elim hq
    | brk => exact False.elim hq
    | cont => exact False.elim hq
theorem pe_call (F : FnOk X.prog X.w X.K X.mg X.base CX k f fd ps sp) (hr : Room k X.A) (hg : Gl X x) (hm : X.mg x = some (.ref f)) (hk : PySem.W.keepIn X.K (.ref f) = true) (hb : Binds X.K fd ps ds) (hd : Vals dvs ds) (hx : Passes CX X E)
    (ha : PA X (e :: es) t) (hdb : (x == ("__debug__" : Str)) = false := by decide) (he : starEach (e :: es) X.env = (false, eval e X.env) :: starEach es X.env := by rfl) (hpl : (backTo pos (starEach es X.env)).any (·.1) = false := by rfl) :
    PE X (.Call (.Name x p) (e :: es) [] pos) (tCall sp dvs E t) := by
  intro pins s σ H Q I h
  refine wpAny_Call_Name_kw (ld_glob I hg hm ?_ hdb)
  refine PySem.W.callWith_K (h₀ := X.base) I.ok.mod.kin hk (thn (ha pos pins s σ H _ I h) fun us s1 ⟨vs, H1, I1, r, q⟩ => ⟨I1.kIn, ?_⟩) he hpl
  exact run_fn F hr hb hd hx I1 r q
end
section
variable {X : Cx} {CX : CXT} {k : Nat} {f C : Addr} {fd : FuncData} {ps ks : List Str} {sp : Sp} {E : XK} {x m : Str} {p pos apos kpos : Pos} {e o : Expr} {es : List Expr} {kws : List Keyword} {te ta : TE} {t tk : TA} {nm : Option Str}
variable {g : List Value → List Value → List Value} {gV : List V → List V → List V}
end
structure FnScope (N P : List Str) (sc : Scope) : Prop where
  kind : sc.kind = .function
  co : sc.isCoroutine = false
  gen : sc.isGenerator = false
  nd : N.Nodup
  pre : N.take P.length = P
  par : ∀ x ∈ P, sc.names.lookup x = some .local ∨ sc.names.lookup x = some .cell
  nofree : ∀ y ∈ sc.names, y.2 ≠ .free
theorem bindL_out {kindOf : Str → Option NameKind} {x : Str} : ∀ {binds : List (Str × Value)} {m : Str → Option Value}, (∀ v, (x, v) ∉ binds) → bindL kindOf binds m x = m x
  | [], _, _ => rfl
  | (n, v) :: r, m, h => by
    unfold bindL
    rw [bindL_out fun w hw => h w (List.mem_cons_of_mem _ hw)]
    split
    · have : x ≠ n := by rintro rfl; exact h v List.mem_cons_self
      simp [this]
    · rfl
theorem bindC_out {kindOf : Str → Option NameKind} {x : Str} : ∀ {binds : List (Str × Value)} {m : Str → Option Value}, (∀ v, (x, v) ∉ binds) → bindC kindOf binds m x = m x
  | [], _, _ => rfl
  | (n, v) :: r, m, h => by
    unfold bindC
    rw [bindC_out fun w hw => h w (List.mem_cons_of_mem _ hw)]
    split
    · rfl
    · have : x ≠ n := by rintro rfl; exact h v List.mem_cons_self
      simp [this]
theorem bindL_get {kindOf : Str → Option NameKind} {x : Str} {v : Value} : ∀ {P : List Str} {vs : List Value} {i : Nat} {m : Str → Option Value}, P.Nodup → P[i]? = some x → vs[i]? = some v → kindOf x = some .local →
    bindL kindOf (P.zip vs) m x = some v
  | [], _, _, _, _, h, _, _ => by simp at h
  | _ :: _, [], _, _, _, _, h, _ => by simp at h
  | p :: P, w :: vs, 0, m, nd, h1, h2, hk => by
    simp at h1 h2; subst h1; subst h2
    show bindL kindOf ((p, w) :: P.zip vs) m p = _
    unfold bindL
    rw [bindL_out fun v hv => (List.nodup_cons.mp nd).1 (List.of_mem_zip hv).1, if_pos hk]
    simp
  | p :: P, w :: vs, i + 1, m, nd, h1, h2, hk => by
    show bindL kindOf ((p, w) :: P.zip vs) m x = _
    unfold bindL
    exact bindL_get (i := i) (List.nodup_cons.mp nd).2 (by simpa using h1) (by simpa using h2) hk
theorem bindC_get {kindOf : Str → Option NameKind} {x : Str} {v : Value} : ∀ {P : List Str} {vs : List Value} {i : Nat} {m : Str → Option Value}, P.Nodup → P[i]? = some x → vs[i]? = some v → kindOf x ≠ some .local →
    bindC kindOf (P.zip vs) m x = some v
  | [], _, _, _, _, h, _, _ => by simp at h
  | _ :: _, [], _, _, _, _, h, _ => by simp at h
  | p :: P, w :: vs, 0, m, nd, h1, h2, hk => by
    simp at h1 h2; subst h1; subst h2
    show bindC kindOf ((p, w) :: P.zip vs) m p = _
    unfold bindC
    rw [bindC_out fun v hv => (List.nodup_cons.mp nd).1 (List.of_mem_zip hv).1, if_neg hk]
    simp
  | p :: P, w :: vs, i + 1, m, nd, h1, h2, hk => by
    show bindC kindOf ((p, w) :: P.zip vs) m x = _
    unfold bindC
    exact bindC_get (i := i) (List.nodup_cons.mp nd).2 (by simpa using h1) (by simpa using h2) hk
def start (N : List Str) (vs : List V) : St := vs.map some ++ List.replicate (N.length - vs.length) none
def cxOf (CX : CXT) (P : Program) (w : World) (K : PySem.W.Frag) (mg : Str → Option Value) (base : Heap) (N : List Str) (qual : Str) (scope : Scope) (f : Addr) (cd : Value) (A : Around) (outer : List Env) (s : Shared) (H : Hp) (E : XK) : Cx where
  prog := P
  w := w
  K := K
  mg := mg
  base := base
  A := A.deeper (envOfC qual scope s.heap.objs.size f cd)
  N := N
  s₀ := s
  H₀ := H
  env := envOfC qual scope s.heap.objs.size f cd
  outer := outer
  stack := envOfC qual scope s.heap.objs.size f cd :: outer
  ex := []
  calm := true
  fn := fun _ => true
  pn := []
  xe := fun e s' => wpAny (model P w) (A.deeper (envOfC qual scope s.heap.objs.size f cd)) (leaving (envOfC qual scope s.heap.objs.size f cd) e) (fun _ s'' => CX outer H s E e s'') (fun e' s'' => CX outer H s E e' s'') s'
theorem cell_has {sc : Scope} {n : Nat} {x : Str} (h : sc.names.lookup x = some .cell) : ∃ c, (cellsFrom n sc.names []).lookup x = some c := by
  have q := PySem.W.cellsFrom_some sc.names n [] (.inl h)
  exact Option.isSome_iff_exists.mp q
theorem inv_start {CX : CXT} {P : Program} {w : World} {K : PySem.W.Frag} {mg : Str → Option Value} {base : Heap} {N ps : List Str} {qual : Str} {scope : Scope} {f : Addr} {cd : Value} {A : Around} {outer : List Env} {s s1 : Shared} {H : Hp} {E : XK} {us : List Value} {vs : List V}
    (S : FnScope N ps scope) (hd : A.handled = none) (e0 : Env0 P w K mg base A outer s H) (hl : vs.length = ps.length) (r : Vals vs us)
    (x : InCallC s s.heap.objs.size (bindL (envOfC qual scope s.heap.objs.size f cd).kindOf (ps.zip us) fun _ => none) (cellsFrom (s.heap.objs.size + 1) scope.names []) (bindC (envOfC qual scope s.heap.objs.size f cd).kindOf (ps.zip us) fun _ => none) s1) :
    Inv (cxOf CX P w K mg base N qual scope f cd A outer s H E) [] (start N vs) H s1 := by
  have hpl : ps.length ≤ N.length := by have := congrArg List.length S.pre; rw [List.length_take] at this; omega
  obtain ⟨h1, tk, rfl, hk⟩ := x.done
  have noA : ∀ b : Addr, b ∉ (cxOf CX P w K mg base N qual scope f cd A outer s H E).ex := fun b z => absurd (show b ∈ ([] : List Addr) from z) (by simp)
  refine ⟨⟨e0.mod, S.kind, rfl, rfl, Nat.le_refl _, fun y z c h1 h2 => ?_, fun y hy => ?_, fun y c _ h => ?_, fun _ => hd, Around.frames_deeper e0.frames, .inr ⟨rfl, rfl⟩, fun b z => absurd z (noA b), e0.bs, e0.bsz, fun b _ _ => noA b, fun b z => absurd z (noA b), e0.funs, e0.frf⟩,
    rfl, e0.bare, Un.kept hk, ⟨_, x.toInCall.ns, fun i y v h1 h2 h3 => ?_⟩, fun y c h => ⟨_, x.cell y c h⟩, e0.hok.fresh (Nat.le_refl _), fun y c h => ?_, fun p hp => absurd (show p ∈ ([] : List (Addr × Obj)) from hp) (by simp), e0.hok.kept hk, ?_⟩
  · exact name_of_addr x.apart (PySem.mem_of_lookup h1) (PySem.mem_of_lookup h2)
  · have hy : scope.names.lookup y = some .cell ∨ scope.names.lookup y = some .free := hy
    rcases hy with hy | hy
    · exact cell_has hy
    · exact absurd rfl (S.nofree _ (PySem.mem_of_lookup hy))
  · exact Nat.le_of_lt (x.above y c (PySem.mem_of_lookup h))
  · have hi : i < vs.length := by
      unfold start at h2
      by_cases hi : i < vs.length
      · exact hi
      · rw [List.getElem?_append_right (by simpa using hi)] at h2
        rw [List.getElem?_replicate] at h2
        split at h2 <;> cases h2
    have ha : vs[i]? = some v := by
      unfold start at h2
      rw [List.getElem?_append_left (by simpa using hi), List.getElem?_map] at h2
      cases e : vs[i]? with
      | none => rw [e] at h2; cases h2
      | some a => rw [e] at h2; cases h2; rfl
    obtain ⟨u, hu, rv⟩ := r.get ha
    have hp : ps[i]? = some y := by
      rw [← S.pre, List.getElem?_take_of_lt (by omega)]; exact h1
    have ndP : ps.Nodup := by rw [← S.pre]; exact S.nd.sublist (List.take_sublist _ _)
    refine ⟨u, rv, ?_⟩
    rcases S.par y (List.mem_of_getElem? hp) with k | k
    · exact .inl ⟨k, bindL_get ndP hp hu k⟩
    · obtain ⟨c, e⟩ := cell_has (n := s.heap.objs.size + 1) k
      refine .inr ⟨.inl k, c, e, ?_⟩
      have q := x.cell y c e
      rw [bindC_get ndP hp hu (by show scope.names.lookup y ≠ _; rw [k]; decide)] at q
      exact q
  · exact e0.hok.fresh (Nat.le_of_lt (x.above y c (PySem.mem_of_lookup h)))
  · unfold start
    show _ = N.length
    rw [List.length_append, List.length_map, List.length_replicate]
    omega
theorem fn_of {CX : CXT} {P : Program} {w : World} {K : PySem.W.Frag} {mg : Str → Option Value} {base : Heap} {k : Nat} {f : Addr} {name qual : Str} {params : Arguments} {body : List Stmt} {scope : Scope} {dV kV doc pm cdv ct oc : Value} {an od : Option Addr}
    {osl : Array (Option Value)} {N ps : List Str} {sp : Sp} (lk : K.lookup f = some ⟨oc, od, .func (PySem.W.fnOf name qual params body scope dV kV doc pm an cdv ct), osl⟩) (hcd : PySem.W.codeIn K cdv qual = true) (S : FnScope N ps scope)
    (len : ∀ vs H Q E, sp vs H Q E → vs.length = ps.length)
    (hbody : ∀ (A : Around) (outer : List Env) (s : Shared) (H : Hp) (vs : List V) (Q : VK) (E : XK), Room k (A.deeper (envOfC qual scope s.heap.objs.size f cdv)) → sp vs H Q E →
      ∃ t, PSs (cxOf CX P w K mg base N qual scope f cdv A outer s H E) body t ∧ t { nx := fun _ H' => Q .non H', rt := Q } (start N vs) H) :
    FnOk P w K mg base CX (k + 1) f (PySem.W.fnOf name qual params body scope dV kV doc pm an cdv ct) ps sp := by
  refine ⟨len, fun A outer s H args us vs Q E hr e0 hb r hsp => ?_⟩
  have hl := len _ _ _ _ hsp
  have KX : K.In s.heap := e0.mod.kin.keeps fun b o e => (e0.bs b o e).1
  have lim : s.heap.NoLimit := e0.mod.nolimit.keeps fun b o e => (e0.bs b o e).1
  have hkind : ∀ y ∈ ps.zip us, scope.names.lookup y.1 = some .local ∨ (scope.names.lookup y.1 = some .cell ∧ ((cellsFrom (s.heap.objs.size + 1) scope.names []).lookup y.1).isSome = true) := fun ⟨n, v⟩ hy => by
    rcases S.par n (List.of_mem_zip hy).1 with q | q
    · exact .inl q
    · exact .inr ⟨q, PySem.W.cellsFrom_some _ _ _ (.inl q)⟩
  refine codeAny_call_function hr.depth (KX _ _ lk) rfl S.co S.gen rfl (PySem.W.codeRec_of KX hcd) (hb _ _ _ _ ?_)
  refine wpAny_newFunctionEnv_cells S.kind hkind fun env he s1 x => ?_
  subst he
  refine ⟨lim.keeps x.toInCall.keep, codeAny_func ?_⟩
  obtain ⟨t, ht, hq⟩ := hbody A outer s H vs Q E (hr.deeper _) hsp
  have I : Inv (cxOf CX P w K mg base N qual scope f cdv A outer s H E) [] (start N vs) H s1 := inv_start S hr.hd e0 hl r x
  refine wpAny_mono (ht [] s1 (start N vs) H _ I hq) (fun fl s' hs => ?_) fun e s' hs => hs
  have fin : ∀ {σ' : St} {H' : Hp} {v : V} {u : Value}, Inv (cxOf CX P w K mg base N qual scope f cdv A outer s H E) [] σ' H' s' → RelV v u → Q v H' → CE outer P w H s Q u s' :=
    fun {σ' H' v u} J rv q => ⟨v, H', J.os, J.bare, J.base, J.hok, rv, q⟩
  cases fl with
  | ret u =>
    obtain ⟨v, σ', H', J, rv, q⟩ := hs
    exact fin J rv q
  | next =>
    obtain ⟨σ', H', J, q⟩ := hs
    exact fin (v := V.non) (u := Value.none) J rfl q
  | brk =>
    obtain ⟨_, _, _, q⟩ := hs
    exact False.elim q
  | cont =>
    obtain ⟨_, _, _, q⟩ := hs
    exact False.elim q
end L2
namespace L2
open PySem PySem.Spec PyProof.Rows
section
variable {X : Cx} {x : Str} {p pos : Pos} {e : Expr} {es : List Expr} {t : TA} {id T : String} {r : List V → Hp → VK → Prop}
def tCB (r : List V → Hp → VK → Prop) (t : TA) : TE := fun σ H Q => t σ H fun vs H1 => r vs H1 Q
theorem pe_callB (hc : CallR X (.builtin id) r) (hg : Gl X x) (hm : X.mg x = none) (hv : bootBuiltins x = some (.builtin id)) (ha : PA X (e :: es) t) (hn : x ≠ "__name__" := by decide) (hdb : (x == ("__debug__" : Str)) = false := by decide)
    (he : starEach (e :: es) X.env = (false, eval e X.env) :: starEach es X.env := by rfl) (hpl : (backTo pos (starEach es X.env)).any (·.1) = false := by rfl) : PE X (.Call (.Name x p) (e :: es) [] pos) (tCB r t) := by
  intro pins s σ H Q I h
  refine wpAny_Call_Name_kw (ld_blt I hg hm hv ?_ hn hdb)
  exact PyProof.Rows.callWith_builtin1 (thn (ha pos pins s σ H _ I h) fun us s1 ⟨vs, H1, I1, r1, q1⟩ => hc pins s1 σ H1 vs us Q I1 r1 q1) he hpl
theorem pe_callTy (hc : CallR X (.type T) r) (hg : Gl X x) (hm : X.mg x = none) (hv : bootBuiltins x = some (.type T)) (ha : PA X (e :: es) t) (hn : x ≠ "__name__" := by decide) (hdb : (x == ("__debug__" : Str)) = false := by decide)
    (he : starEach (e :: es) X.env = (false, eval e X.env) :: starEach es X.env := by rfl) (hpl : (backTo pos (starEach es X.env)).any (·.1) = false := by rfl) : PE X (.Call (.Name x p) (e :: es) [] pos) (tCB r t) := by
  intro pins s σ H Q I h
  refine wpAny_Call_Name_kw (ld_blt I hg hm hv ?_ hn hdb)
  exact PyProof.Rows.callWith_type1 (thn (ha pos pins s σ H _ I h) fun us s1 ⟨vs, H1, I1, r1, q1⟩ => hc pins s1 σ H1 vs us Q I1 r1 q1) he hpl
end
end L2
namespace HT
open PySem PyProof.Rows
section
open PySem.SeqAt
open PySem.AutoSeq1 (wpAny_loadPart')
open PySem.MeetsSeq PySem.MeetsSeq2 PySem.MeetsSeq3
end
section
variable {prog : Program} {w : World} {A : Around} {E : Value → Shared → Prop} {s : Shared}
theorem cat_tup {t b : Addr} {vs ws : List Value} {Q : Value → Shared → Prop} (ht : IsTup s.heap t vs.toArray) (hb : IsTup s.heap b ws.toArray) (hv : vs ≠ [])
    (h1 : ws = [] → Q (.ref t) s) (h2 : ws ≠ [] → Q (.ref s.heap.objs.size) { s with heap := s.heap.push { cls := .type "tuple", data := .seq (vs ++ ws).toArray } })
    (hsz : vs.length + ws.length ≤ sizeLine) : wpAny (model prog w) A (binaryOp .Add (.ref t) (.ref b)) Q E s := by
  obtain ⟨⟨cls, dd, data, sl⟩, ho, hc, n, hd⟩ := id ht
  obtain ⟨⟨cls2, dd2, data2, sl2⟩, ho2, hc2, n2, hd2⟩ := id hb
  simp only at hc hd hc2 hd2
  subst hc hd hc2 hd2
  have e : vs.toArray ++ ws.toArray = (vs ++ ws).toArray := by simp
  by_cases hw : ws = []
  · exact concat_meets ⟨_, ho, rfl⟩ ⟨_, ho2, rfl⟩ noFill_tuple_add seq_tuple_add PySem.F.slot_tuple_add PySem.F.entry_tuple_add (PySem.F.args_tuple_add_2 _ _)
      (tuple_addW1 t b vs.toArray ws.toArray n n2 dd dd2 sl sl2 (by simpa using hv) (by simp [hw])) ⟨ho, ho2, h1 hw⟩
  · refine concat_meets ⟨_, ho, rfl⟩ ⟨_, ho2, rfl⟩ noFill_tuple_add seq_tuple_add PySem.F.slot_tuple_add PySem.F.entry_tuple_add (PySem.F.args_tuple_add_2 _ _)
      (tuple_addW2 t b vs.toArray ws.toArray n n2 dd dd2 sl sl2 (by simpa using hv) (by simpa using hw) (by rw [List.size_toArray, List.size_toArray]; exact hsz)) ⟨ho, ho2, ?_⟩
    rw [e]
    exact h2 hw
def sIx (n d : Nat) : Option Int → Nat
  | none => d
  | some v => if v < 0 then (v + (n : Int)).toNat else min v.toNat n
theorem sIx_none (n d : Nat) : sIx n d none = d := rfl
theorem sIx_nat (n d k : Nat) : sIx n d (some (k : Int)) = min k n := by
  show (if (k : Int) < 0 then ((k : Int) + (n : Int)).toNat else min (k : Int).toNat n) = min k n
  rw [if_neg (by omega), Int.toNat_natCast]
theorem sIx_le (n d : Nat) (hd : d ≤ n) (o : Option Int) : sIx n d o ≤ n := by
  cases o with
  | none => exact hd
  | some v =>
    show (if v < 0 then (v + (n : Int)).toNat else min v.toNat n) ≤ n
    by_cases hv : v < 0
    · rw [if_pos hv]; omega
    · rw [if_neg hv]; exact Nat.min_le_right _ _
theorem clip_eq (v : Int) (n d : Nat) : (if v < 0 then max (v + (n : Int)) 0 else min v (n : Int)) = ((sIx n d (some v) : Nat) : Int) := by
  show (if v < 0 then max (v + (n : Int)) 0 else min v (n : Int)) = (((if v < 0 then (v + (n : Int)).toNat else min v.toNat n) : Nat) : Int)
  by_cases hv : v < 0
  · simp only [if_pos hv]; omega
  · simp only [if_neg hv]; omega
theorem adjust_gen (lo hi : Option Int) (n : Nat) : Builtin.Slice.sliceAdjust lo hi 1 (n : Int) = (((sIx n 0 lo : Nat) : Int), ((sIx n n hi : Nat) : Int)) := by
  have h1 : ¬ ((1 : Int) < 0) := by omega
  unfold Builtin.Slice.sliceAdjust
  simp only [h1, if_false]
  refine Prod.ext ?_ ?_
  · cases lo with
    | none => rfl
    | some v => exact clip_eq v n 0
  · cases hi with
    | none => rfl
    | some v => exact clip_eq v n n
theorem places_gen (i j : Nat) : Builtin.Slice.slicePlaces (i : Int) (j : Int) 1 = j - i := by
  unfold Builtin.Slice.slicePlaces
  have h1 : (1 : Int) > 0 := by omega
  simp only [h1, if_true, Int.ediv_one]
  split <;> omega
theorem slicePart_ {v : Value} {o : Option Int} {Q : Option Int → Shared → Prop} (p : IsPart v o) (h : Q o s) : wpAny (model prog w) A (Builtin.Slice.slicePartIndex v) Q E s := by
  cases p with
  | none => exact slicePart_none h
  | int i t => exact slicePart_int h
theorem sliceApplied_gen {sl : Addr} {vl vu : Value} {lo hi : Option Int} {n : Nat} {Q : Int × Int × Nat → Shared → Prop} (hs : s.heap.IsSliceOf sl vl vu .none) (pl : IsPart vl lo) (pu : IsPart vu hi)
    (h : Q (((sIx n 0 lo : Nat) : Int), 1, sIx n n hi - sIx n 0 lo) s) : wpAny (model prog w) A (Builtin.Slice.sliceApplied (.ref sl) (pure (n : Int))) Q E s := by
  obtain ⟨os, hos, hcs, hds⟩ := id hs
  unfold Builtin.Slice.sliceApplied Builtin.Slice.sliceFields
  refine wpAny_bind (wpAny_bind (wpAny_field hos hds (x := vl) rfl (wpAny_bind (wpAny_field hos hds (x := vu) rfl (wpAny_bind (wpAny_field hos hds (x := .none) rfl (wpAny_pure ?_)))))))
  refine wpAny_bind (slicePart_none ?_)
  show wpAny _ _ (if ((1 : Int) == 0) = true then _ else _) _ _ s
  rw [if_neg (by decide)]
  refine wpAny_bind (slicePart_ pl (wpAny_bind (slicePart_ pu (wpAny_bind (wpAny_pure ?_)))))
  show wpAny _ _ (match Builtin.Slice.sliceAdjust lo hi 1 (n : Int) with | (lo, hi) => pure (lo, (1 : Int), Builtin.Slice.slicePlaces lo hi 1)) _ _ s
  rw [adjust_gen lo hi n]
  show wpAny _ _ (pure (((sIx n 0 lo : Nat) : Int), (1 : Int), Builtin.Slice.slicePlaces ((sIx n 0 lo : Nat) : Int) ((sIx n n hi : Nat) : Int) 1)) _ _ s
  rw [places_gen]
  exact wpAny_pure h
theorem pick_gen (xs : Array Value) (i k : Nat) : ((List.range k).filterMap fun (m : Nat) => xs[((i : Int) + (m : Int) * 1).toNat]?).toArray = ((xs.toList.drop i).take k).toArray := by
  have e : (fun (m : Nat) => xs[((i : Int) + (m : Int) * 1).toNat]?) = fun m => xs[i + m]? := by
    funext m
    have : ((i : Int) + (m : Int) * 1).toNat = i + m := by omega
    rw [this]
  rw [e]
  have := pick_run xs i k
  rw [List.filterMap_map] at this
  have e2 : ((fun x => xs[x]?) ∘ fun x => i + x) = fun m => xs[i + m]? := rfl
  rw [e2] at this
  rw [this]
theorem getItem_tuple_cut {t sl : Addr} {items : Array Value} {vl vu : Value} {lo hi : Option Int} {Q : Value → Shared → Prop} (ht : IsTup s.heap t items) (hs : s.heap.IsSliceOf sl vl vu .none) (pl : IsPart vl lo) (pu : IsPart vu hi)
    (hw : ¬ (sIx items.size 0 lo = 0 ∧ sIx items.size items.size hi = items.size))
    (h : Q (.ref s.heap.objs.size) { s with heap := s.heap.push { cls := .type "tuple", data := .seq ((items.toList.drop (sIx items.size 0 lo)).take (sIx items.size items.size hi - sIx items.size 0 lo)).toArray } })
    (hsz : items.size ≤ sizeLine) : wpAny (model prog w) A (getItem (.ref t) (.ref sl)) Q E s := by
  have htake : sizeOk (.seq ((items.toList.drop (sIx items.size 0 lo)).take (sIx items.size items.size hi - sIx items.size 0 lo)).toArray) := by
    show ((items.toList.drop (sIx items.size 0 lo)).take (sIx items.size items.size hi - sIx items.size 0 lo)).toArray.size ≤ sizeLine
    rw [List.size_toArray, List.length_take, List.length_drop, Array.length_toList]
    omega
  have hj : sIx items.size items.size hi ≤ items.size := sIx_le _ _ (Nat.le_refl _) hi
  obtain ⟨os, hos, hcs, hds⟩ := id hs
  have hTs : s.TypeIs (.ref sl) "slice" := ⟨os, hos, hcs⟩
  unfold getItem
  try with_reducible refine wpAny_holding ?_
  first | refine wpAny_bind (wpAny_pure ?_) | skip
  refine wpAny_bind (wpAny_sequenceKey ht.typeIs (by decide) ?_)
  refine wpAny_bind (wpAny_callSpecial?_slot (name := Str.ofString "__getitem__") ht.typeIs PyProof.Rows.slot_tuple_getitem
    (wpAny_call_entry PyProof.Rows.slot_tuple_getitem ht.typeIs entry_tuple_getitem ?_ (args_tuple_getitem _ _)))
  show wpAny _ _ (Builtin.Tuple.tupleItemsOf (.ref t) >>= _) _ _ s
  refine wpAny_bind (tupleItemsOf_ ht ?_)
  refine wpAny_bind (wpAny_typeOf hTs ?_)
  rw [if_pos (by decide)]
  refine wpAny_bind (sliceApplied_gen hs pl pu ?_)
  have hno : ¬ ((((sIx items.size 0 lo : Nat) : Int) == 0 && (1 : Int) == 1 && (sIx items.size items.size hi - sIx items.size 0 lo) == items.size) = true) := by
    intro q
    rw [Bool.and_eq_true, Bool.and_eq_true] at q
    have q1 : ((sIx items.size 0 lo : Nat) : Int) = 0 := eq_of_beq q.1.1
    have q2 : sIx items.size items.size hi - sIx items.size 0 lo = items.size := eq_of_beq q.2
    exact hw ⟨by omega, by omega⟩
  show wpAny _ _ (if (((sIx items.size 0 lo : Nat) : Int) == 0 && (1 : Int) == 1 && (sIx items.size items.size hi - sIx items.size 0 lo) == items.size) = true then _ else _) _ _ s
  rw [if_neg hno, pick_gen]
  first
    | exact wpAny_bind (m := Builtin.Tuple.tupleExact _) (wpAny_newObj_type (wpAny_pure ⟨_, rfl, wpAny_pure h⟩) htake)
    | exact wpAny_bind (m := Builtin.Tuple.tupleExact _) (wpAny_newObj_type (wpAny_bind (wpAny_pure (wpAny_pure ⟨_, rfl, wpAny_pure h⟩))) htake)
    | exact wpAny_bind (wpAny_bind (m := Builtin.Tuple.tupleExact _) (wpAny_newObj_type (wpAny_pure (wpAny_pure ⟨_, rfl, wpAny_pure h⟩)) htake))
    | exact wpAny_bind (wpAny_bind (m := Builtin.Tuple.tupleExact _) (wpAny_newObj_type (wpAny_pure ⟨_, rfl, wpAny_pure h⟩) htake))
end
end HT
namespace L2
open PySem PySem.Spec PyProof.Rows
abbrev TO := St → Hp → (Option Int → Hp → Prop) → Prop
def PO (X : Cx) (e : Option Expr) (t : TO) : Prop :=
  ∀ (pins : List (Addr × Obj)) (s : Shared) (σ : St) (H : Hp) (Q : Option Int → Hp → Prop), Inv X pins σ H s → t σ H Q →
    wpAny (model X.prog X.w) X.A (evalPart e X.env) (fun u s' => ∃ o H', Inv X pins σ H' s' ∧ IsPart u o ∧ Q o H') X.xe s
def tNoPart : TO := fun _ H Q => Q none H
def tPart (t : TE) : TO := fun σ H Q => t σ H fun x H1 => ∃ i, x = .int i ∧ Q (some i) H1
section
variable {X : Cx} {e : Expr} {te : TE} {lo hi : Option Expr} {tl th : TO} {pos p2 : Pos}
theorem po_none : PO X none tNoPart := by
  intro pins s σ H Q I h
  rw [evalPart_none]
  exact wpAny_pure ⟨none, H, I, .none, h⟩
theorem po_some (h : PE X e te) : PO X (some e) (tPart te) := by
  intro pins s σ H Q I hw
  rw [evalPart_some]
  refine thn (h pins s σ H _ I hw) fun u s1 ⟨x, H1, I1, r1, q1⟩ => ?_
  obtain ⟨i, rfl, q⟩ := q1
  obtain ⟨t, rfl⟩ := r1
  exact ⟨some i, H1, I1, .int i t, q⟩
def SlR (X : Cx) (r : V → Option Int → Option Int → Hp → VK → Prop) : Prop :=
  ∀ (pins : List (Addr × Obj)) (s : Shared) (σ : St) (H : Hp) (x : V) (v vl vu : Value) (lo hi : Option Int) (sl : Addr) (Q : VK), Inv X pins σ H s → RelV x v → s.heap.IsSliceOf sl vl vu .none → IsPart vl lo → IsPart vu hi → r x lo hi H Q →
    ∃ T id, typeLookup (.type T) "__getitem__" = pure (some (.builtin id)) ∧ s.TypeIs v T ∧ wpAny (model X.prog X.w) X.A (getItem v (.ref sl)) (EP X pins σ Q) X.xe s
def tSl (r : V → Option Int → Option Int → Hp → VK → Prop) (te : TE) (tl th : TO) : TE := fun σ H Q => te σ H fun x H1 => tl σ H1 fun l H2 => th σ H2 fun u H3 => r x l u H3 Q
theorem pe_slice {r : V → Option Int → Option Int → Hp → VK → Prop} (hr : SlR X r) (he : PE X e te) (hl : PO X lo tl) (hu : PO X hi th) : PE X (.Subscript e (.Slice lo hi none p2) pos) (tSl r te tl th) := by
  intro pins s σ H Q I h
  refine Subscript_ (thn (he pins s σ H _ I h) fun v s1 ⟨x, H1, I1, r1, q1⟩ => ?_)
  refine wpAny_Slice (thn (hl pins s1 σ H1 _ I1 q1) fun vl s2 ⟨l, H2, I2, pl, q2⟩ => thn (hu pins s2 σ H2 _ I2 q2) fun vu s3 ⟨u, H3, I3, pu, q3⟩ => ?_)
  rw [evalPart_none]
  refine wpAny_pure ?_
  have I4 : Inv X pins σ H3 { s3 with heap := s3.heap.push { cls := .type "slice", data := .fields #[vl, vu, .none] } } := I3.kept (t' := s3.toks) fun b ob q => Heap.get?_push_of_some _ q
  obtain ⟨T, id, hT, ht, hg⟩ := hr pins { s3 with heap := s3.heap.push { cls := .type "slice", data := .fields #[vl, vu, .none] } } σ H3 x v vl vu l u s3.heap.objs.size Q I4 r1 (Heap.IsSliceOf.new ..) pl pu q3
  show wpAny (model X.prog X.w) X.A (subscriptTail e (.Slice lo hi none p2) v (.ref s3.heap.objs.size)) (EP X pins σ Q) X.xe { s3 with heap := s3.heap.push { cls := .type "slice", data := .fields #[vl, vu, .none] } }
  exact tail_any (ops := [.ref s3.heap.objs.size, v]) ht hT hg (by with_unfolding_all rfl)
def cutV (xs : List V) (lo hi : Option Int) : List V := (xs.drop (HT.sIx xs.length 0 lo)).take (HT.sIx xs.length xs.length hi - HT.sIx xs.length 0 lo)
theorem cutV_length (xs : List V) (lo hi : Option Int) : (cutV xs lo hi).length ≤ xs.length := by
  unfold cutV
  rw [List.length_take, List.length_drop]
  omega
def rSlT (K : PySem.W.Frag) : V → Option Int → Option Int → Hp → VK → Prop := fun x lo hi H Q => ∃ a xs, x = .ref a ∧ SqT K H a xs ∧
  ¬ (HT.sIx xs.length 0 lo = 0 ∧ HT.sIx xs.length xs.length hi = xs.length) ∧ ∀ p, H p = none → Q (.ref p) (upd H p (.tup (cutV xs lo hi)))
theorem sl_tup : SlR X (rSlT X.K) := by
  intro pins s σ H x v vl vu lo hi sl Q I rx hs pl pu h
  obtain ⟨a, xs, rfl, hx, hw, q⟩ := h
  cases rx
  obtain ⟨its, r, ht, hz⟩ := I.tuple hx
  have hlen : its.toArray.size = xs.length := by rw [List.size_toArray]; exact r.length.symm
  refine ⟨"tuple", _, PyProof.Rows.slot_tuple_getitem.lookup, ht.typeIs, ?_⟩
  refine HT.getItem_tuple_cut ht hs pl pu (by rw [hlen]; exact hw) ?_ (by rw [hlen]; exact hz)
  rw [hlen]
  refine ⟨.ref s.heap.objs.size, _, I.laid (t' := s.toks) (o := .tup (cutV xs lo hi)) (fun b ob q => Heap.get?_push_of_some _ q) (Nat.le_refl _) ?_, rfl, q _ (I.hok.fresh (Nat.le_refl _))⟩
  exact ⟨Nat.le_trans (cutV_length xs lo hi) hz, _, (r.drop (HT.sIx xs.length 0 lo)).take (HT.sIx xs.length xs.length hi - HT.sIx xs.length 0 lo), IsTup.new _ _⟩
def rCatT (K : PySem.W.Frag) : R2 := fun x y H Q => ∃ a b xs ys, x = .ref a ∧ y = .ref b ∧ SqT K H a xs ∧ SqT K H b ys ∧ xs ≠ [] ∧ xs.length + ys.length ≤ sizeLine ∧
  (ys = [] → Q (.ref a) H) ∧ (ys ≠ [] → ∀ p, H p = none → Q (.ref p) (upd H p (.tup (xs ++ ys))))
theorem Vals.nil_iff {xs : List V} {us : List Value} (r : Vals xs us) : us = [] ↔ xs = [] := by
  cases r with
  | nil => simp
  | cons _ _ => simp
theorem op_catT : OpR X (binaryOp .Add) (rCatT X.K) := by
  intro pins s σ H x y v u Q I rx ry h
  obtain ⟨a, b, xs, ys, rfl, rfl, ha, hb, hx, hz, q1, q2⟩ := h
  cases rx
  cases ry
  obtain ⟨its, r1, p1, _⟩ := I.tuple ha
  obtain ⟨its2, r2, p2, _⟩ := I.tuple hb
  refine HT.cat_tup p1 p2 (fun z => hx (r1.nil_iff.mp z)) (fun z => ⟨.ref a, H, I, rfl, q1 (r2.nil_iff.mp z)⟩) (fun z => ?_) (by rw [← r1.length, ← r2.length]; exact hz)
  refine ⟨.ref s.heap.objs.size, _, I.laid (t' := s.toks) (o := .tup (xs ++ ys)) (fun b ob q => Heap.get?_push_of_some _ q) (Nat.le_refl _) ?_, rfl, q2 (fun w => z (r2.nil_iff.mpr w)) _ (I.hok.fresh (Nat.le_refl _))⟩
  exact ⟨by rw [List.length_append]; exact hz, _, r1.append r2, IsTup.new _ _⟩
end
end L2
namespace L2
open PySem PySem.Spec PyProof.Rows
def ixN (n : Nat) (i : Int) : Option Nat := if 0 ≤ i then (if i < n then some i.toNat else none) else if -(n : Int) ≤ i then some (i + n).toNat else none
def atI {α : Type} (xs : List α) (i : Int) : Option α := (ixN xs.length i).bind fun j => xs[j]?
theorem ixN_seq {n : Nat} {i : Int} {j : Nat} (h : ixN n i = some j) : seqIndex? i n = some j ∧ j < n ∧ -(n : Int) ≤ i ∧ i < n := by
  unfold ixN at h
  by_cases h0 : 0 ≤ i
  · rw [if_pos h0] at h
    by_cases h1 : i < n
    · rw [if_pos h1] at h
      have e : i.toNat = j := Option.some.inj h
      exact ⟨by rw [seqIndex_of h0 h1, e], by omega, by omega, h1⟩
    · rw [if_neg h1] at h; cases h
  · rw [if_neg h0] at h
    by_cases h1 : -(n : Int) ≤ i
    · rw [if_pos h1] at h
      have e : (i + n).toNat = j := Option.some.inj h
      exact ⟨by rw [seqIndex_neg (by omega) h1, e], by omega, h1, by omega⟩
    · rw [if_neg h1] at h; cases h
theorem atI_get {α : Type} {xs : List α} {i : Int} {v : α} (h : atI xs i = some v) : ∃ j, seqIndex? i xs.length = some j ∧ xs[j]? = some v ∧ j < xs.length ∧ -(xs.length : Int) ≤ i ∧ i < xs.length := by
  unfold atI at h
  cases e : ixN xs.length i with
  | none => rw [e] at h; cases h
  | some j =>
    rw [e] at h
    obtain ⟨h1, h2, h3, h4⟩ := ixN_seq e
    exact ⟨j, h1, h, h2, h3, h4⟩
theorem atI_nat {α : Type} {xs : List α} {j : Nat} {v : α} (h : xs[j]? = some v) : atI xs (j : Int) = some v := by
  have hj : j < xs.length := (List.getElem?_eq_some_iff.mp h).1
  have e : ixN xs.length (j : Int) = some j := by
    unfold ixN
    rw [if_pos (by omega), if_pos (by omega)]; simp
  unfold atI; rw [e]; exact h
theorem atI_last {α : Type} (xs : List α) (v : α) : atI (xs ++ [v]) (-1) = some v := by
  have hl : (xs ++ [v]).length = xs.length + 1 := by simp
  have e : ixN (xs ++ [v]).length (-1) = some xs.length := by
    unfold ixN
    rw [hl, if_neg (by decide), if_pos (by omega)]
    congr 1
    omega
  unfold atI
  rw [e]
  show (xs ++ [v])[xs.length]? = some v
  simp
def PlainIx (b : Expr) : Prop := ∀ o i, subscripted b false o i = operate [o, i] (getItem o i)
def IxR (X : Cx) (r : R2) : Prop :=
  ∀ (value slice : Expr) (pins : List (Addr × Obj)) (s : Shared) (σ : St) (H : Hp) (x y : V) (v u : Value) (Q : VK), Inv X pins σ H s → RelV x v → RelV y u → r x y H Q →
    subscripted slice false v u = operate [v, u] (getItem v u) → wpAny (model X.prog X.w) X.A (subscriptTail value slice v u) (EP X pins σ Q) X.xe s
def MtR (X : Cx) (id : String) (r : V → List V → Hp → VK → Prop) : Prop :=
  ∀ (pins : List (Addr × Obj)) (s : Shared) (σ : St) (H : Hp) (x : V) (xs : List V) (v : Value) (us : List Value) (Q : VK), Inv X pins σ H s → RelV x v → Vals xs us → r x xs H Q →
    wpAny (model X.prog X.w) X.A (call (.builtin id) (v :: us)) (EP X pins σ Q) X.xe s
section
variable {X : Cx} {a b : Expr} {ta tb : TE} {pos : Pos}
theorem pe_ix {r : R2} (hr : IxR X r) (ha : PE X a ta) (hb : PE X b tb) (hs : PlainIx b) : PE X (.Subscript a b pos) (tOp r ta tb) := by
  intro pins s σ H Q I h
  exact Subscript_ (binT ha hb I h fun v u s2 x y H2 I2 rx ry q => hr a b pins s2 σ H2 x y v u Q I2 rx ry q (hs _ _))
def rIxL (K : PySem.W.Frag) : R2 := fun x y H Q => ∃ p xs i v, x = .ref p ∧ y = .int i ∧ SqL K H p xs ∧ atI xs i = some v ∧ Q v H
def rIxT (K : PySem.W.Frag) : R2 := fun x y H Q => ∃ p xs i v, x = .ref p ∧ y = .int i ∧ SqT K H p xs ∧ atI xs i = some v ∧ Q v H
theorem ix_list : IxR X (rIxL X.K) := by
  intro value slice pins s σ H x y v u Q I rx ry h hs
  obtain ⟨p, xs, i, z, rfl, rfl, hq, he, q⟩ := h
  cases rx
  obtain ⟨t, rfl⟩ := ry
  obtain ⟨its, r, pl, hz⟩ := I.list hq
  obtain ⟨j, h1, h2, h3, h4, h5⟩ := atI_get he
  obtain ⟨w, ew, rw'⟩ := r.get h2
  have hl := r.length
  have hn := line63
  have fin : EP X pins σ Q w s := ⟨z, H, I, rw', q⟩
  by_cases h0 : 0 ≤ i
  · have hj : i.toNat = j := by
      rw [seqIndex_of h0 h5] at h1
      exact Option.some.inj h1
    exact item_listR pl.isList h0 (by omega) (by rw [hj]; simpa using ew) fin hs
  · have hj : (i + (its.toArray.size : Int)).toNat = j := by
      rw [seqIndex_neg (by omega) h4] at h1
      rw [List.size_toArray, ← hl]
      exact Option.some.inj h1
    exact subscriptTail_builtinR (x := w) pl.isList.typeIs slot_list_getitem.lookup
      (wpAny_getItem_list_neg (Q := fun r s' => r = w ∧ EP X pins σ Q r s') pl.isList (by omega) (by rw [List.size_toArray] <;> omega) (by omega) (by rw [hj]; simpa using ew) ⟨rfl, fin⟩) hs
theorem ix_tup : IxR X (rIxT X.K) := by
  intro value slice pins s σ H x y v u Q I rx ry h hs
  obtain ⟨p, xs, i, z, rfl, rfl, hq, he, q⟩ := h
  cases rx
  obtain ⟨t, rfl⟩ := ry
  obtain ⟨its, r, pl, hz⟩ := I.tuple hq
  obtain ⟨j, h1, h2, h3, h4, h5⟩ := atI_get he
  obtain ⟨w, ew, rw'⟩ := r.get h2
  have hl := r.length
  have hn := line63
  have fin : EP X pins σ Q w s := ⟨z, H, I, rw', q⟩
  exact subscriptTail_builtinR (x := w) pl.typeIs slot_tuple_getitem.lookup
    (getItem_tuple (j := j) (Q := fun r s' => r = w ∧ EP X pins σ Q r s') pl (by omega) (by omega) (by rw [List.size_toArray, ← hl]; exact h1) (by simpa using ew) ⟨rfl, fin⟩) hs
theorem mapSeq_set (its : List Value) (n j : Nat) (u : Value) : Obj.mapSeq (·.setIfInBounds j u) { cls := .type "list", data := .seq its.toArray n } = { cls := .type "list", data := .seq (its.set j u).toArray n } := by
  simp [Obj.mapSeq]
theorem Inv.lst {pins : List (Addr × Obj)} {σ : St} {H : Hp} {s : Shared} {p : Addr} {xs : List V} (I : Inv X pins σ H s) (h : H p = some (.lst xs)) :
    ∃ (its : List Value) (n : Nat), Vals xs its ∧ s.heap.get? p = some { cls := .type "list", data := .seq its.toArray n } ∧ xs.length ≤ sizeLine := by
  obtain ⟨z, its, n, r, e⟩ := I.hok p _ h
  exact ⟨its, n, r, e, z⟩
theorem Inv.lstUpd {pins : List (Addr × Obj)} {σ : St} {H : Hp} {s : Shared} {p : Addr} {xs ys : List V} {its its' : List Value} {n n' : Nat} {f : Obj → Obj} (I : Inv X pins σ H s) (h : H p = some (.lst xs))
    (ho : s.heap.get? p = some { cls := .type "list", data := .seq its.toArray n }) (hf : f { cls := .type "list", data := .seq its.toArray n } = { cls := .type "list", data := .seq its'.toArray n' }) (r : Vals ys its') (hz : ys.length ≤ sizeLine) (t : Nat) :
    Inv X pins σ (upd H p (.lst ys)) { s with heap := s.heap.update p f, toks := t } := by
  have e : (s.heap.update p f).get? p = some { cls := .type "list", data := .seq its'.toArray n' } := by
    rw [Heap.get?_update_self f ho (by rw [hf] <;> rfl), hf]
  refine I.write (x := p) (e := p) (by rw [h]; trivial) (.inl rfl) (fun b u hb q => (Heap.get?_update_other _ _ (Ne.symm hb)).trans q) ⟨_, e⟩ ?_
  exact ⟨hz, its', n', r, e⟩
def rSetL : V → V → V → Hp → (Hp → Prop) → Prop := fun o i v H Q => ∃ p xs k j, o = .ref p ∧ i = .int k ∧ H p = some (.lst xs) ∧ ixN xs.length k = some j ∧ Q (upd H p (.lst (xs.set j v)))
theorem set_list : PSet X rSetL := by
  intro pins s σ H o i v ov iv u Q I ro ri rv h
  obtain ⟨p, xs, k, j, rfl, rfl, hp, hj, q⟩ := h
  cases ro
  obtain ⟨t, rfl⟩ := ri
  obtain ⟨its, n, r, ho, hz⟩ := I.lst hp
  obtain ⟨h1, h2, h3, h4⟩ := ixN_seq hj
  have hl := r.length
  have hn := line63
  have I' : Inv X pins σ (upd H p (.lst (xs.set j v))) { s with heap := s.heap.update p (Obj.mapSeq (·.setIfInBounds j u)) } :=
    I.lstUpd hp ho (mapSeq_set its n j u) (r.set rv j) (by rw [List.length_set]; exact hz) s.toks
  by_cases h0 : 0 ≤ k
  · have hk : k.toNat = j := by
      rw [seqIndex_of h0 h4] at h1
      exact Option.some.inj h1
    exact PySem.W.ki_setAt ho h0 (by omega) (by rw [List.size_toArray, ← hl]; exact h4) (by rw [hk]; exact ⟨_, I', q⟩)
  · have hk : (k + (its.toArray.size : Int)).toNat = j := by
      rw [seqIndex_neg (by omega) h3] at h1
      rw [List.size_toArray, ← hl]
      exact Option.some.inj h1
    exact PySem.W.ki_setBack ho (by omega) (by rw [List.size_toArray, ← hl]; exact h3) (by omega) (by rw [hk]; exact ⟨_, I', q⟩)
theorem slice_bounds (lo hi : Option Int) (n : Nat) : (sliceBounds lo hi none n).1 = ((HT.sIx n 0 lo : Nat) : Int) ∧ (sliceBounds lo hi none n).2.1 = ((HT.sIx n n hi : Nat) : Int) ∧ (sliceBounds lo hi none n).2.2 = 1 := by
  refine ⟨?_, ?_, rfl⟩
  · cases lo with
    | none => simp [sliceBounds, HT.sIx]
    | some i =>
      simp only [sliceBounds, HT.sIx, Option.getD_none, show (1 : Int) > 0 by decide, if_true]
      by_cases h : i < 0
      · simp only [h, if_true] <;> omega
      · simp only [h, if_false] <;> omega
  · cases hi with
    | none => simp [sliceBounds, HT.sIx]
    | some i =>
      simp only [sliceBounds, HT.sIx, Option.getD_none, show (1 : Int) > 0 by decide, if_true]
      by_cases h : i < 0
      · simp only [h, if_true] <;> omega
      · simp only [h, if_false] <;> omega
theorem slicePick_cut (its : List Value) (lo hi : Option Int) : slicePick its.toArray lo hi none = ((its.drop (HT.sIx its.length 0 lo)).take (HT.sIx its.length its.length hi - HT.sIx its.length 0 lo)).toArray := by
  obtain ⟨h1, h2, h3⟩ := slice_bounds lo hi its.toArray.size
  unfold slicePick
  rw [h1, h2, h3]
  simp only [sliceRange_one, pick_run, List.size_toArray] <;> rfl
def rSlL (K : PySem.W.Frag) : V → Option Int → Option Int → Hp → VK → Prop := fun x lo hi H Q => ∃ a xs, x = .ref a ∧ SqL K H a xs ∧ ∀ p, H p = none → Q (.ref p) (upd H p (.lst (cutV xs lo hi)))
theorem sl_list : SlR X (rSlL X.K) := by
  intro pins s σ H x v vl vu lo hi sl Q I rx hs pl pu h
  obtain ⟨a, xs, rfl, hx, q⟩ := h
  cases rx
  obtain ⟨its, r, ht, hz⟩ := I.list hx
  have hlen := r.length
  refine ⟨"list", _, slot_list_getitem.lookup, ht.isList.typeIs, ?_⟩
  refine wpAny_getItem_list_slice ht.isList hs pl pu .none (by simp) ?_ (by rw [List.size_toArray] <;> omega)
  rw [slicePick_cut, ← hlen]
  refine ⟨.ref s.heap.objs.size, _, I.laid (t' := s.toks) (o := .lst (cutV xs lo hi)) (fun b ob q => Heap.get?_push_of_some _ q) (Nat.le_refl _) ?_, rfl, q _ (I.hok.fresh (Nat.le_refl _))⟩
  exact ⟨Nat.le_trans (cutV_length xs lo hi) hz, _, 0, (r.drop (HT.sIx xs.length 0 lo)).take (HT.sIx xs.length xs.length hi - HT.sIx xs.length 0 lo), Heap.get?_push_size _ rfl⟩
def flatV : V → Bool
  | .non => true
  | .bl _ => true
  | .int _ => true
  | .str _ => true
  | _ => false
def eqV : V → V → Bool
  | .non, .non => true
  | .bl a, .bl b => a == b
  | .bl a, .int b => (if a then 1 else 0) == b
  | .int a, .bl b => a == (if b then 1 else 0)
  | .int a, .int b => a == b
  | .str a, .str b => a == b
  | _, _ => false
theorem eqAt_V {A : Around} {s : Shared} {y x : V} {u v : Value} (ry : RelV y u) (rx : RelV x v) (fy : flatV y = true) (fx : flatV x = true) : SeqAt.EqAt A s u v (eqV y x) := by
  cases y with
  | non =>
    cases ry
    cases x with
    | non => cases rx; exact SeqAt.EqAt.same _
    | bl b => cases rx; exact SeqAt.EqAt.none_bool b
    | int b => obtain ⟨t, rfl⟩ := rx; exact SeqAt.EqAt.none_int b t
    | str b => obtain ⟨t, rfl⟩ := rx; exact SeqAt.EqAt.none_str b t
    | _ => exact absurd (show false = true from fx) Bool.false_ne_true
  | bl a =>
    cases ry
    cases x with
    | non => cases rx; exact SeqAt.EqAt.bool_none a
    | bl b => cases rx; exact SeqAt.EqAt.bool_bool a b
    | int b => obtain ⟨t, rfl⟩ := rx; exact SeqAt.EqAt.bool_int a b t
    | str b => obtain ⟨t, rfl⟩ := rx; exact SeqAt.EqAt.bool_str a b t
    | _ => exact absurd (show false = true from fx) Bool.false_ne_true
  | int a =>
    obtain ⟨t', rfl⟩ := ry
    cases x with
    | non => cases rx; exact SeqAt.EqAt.int_none a t'
    | bl b => cases rx; exact SeqAt.EqAt.int_bool a t' b
    | int b => obtain ⟨t, rfl⟩ := rx; exact SeqAt.EqAt.int_int a t' b t
    | str b => obtain ⟨t, rfl⟩ := rx; exact SeqAt.EqAt.int_str a t' b t
    | _ => exact absurd (show false = true from fx) Bool.false_ne_true
  | str a =>
    obtain ⟨t', rfl⟩ := ry
    cases x with
    | non => cases rx; exact SeqAt.EqAt.str_none a t'
    | bl b => cases rx; exact SeqAt.EqAt.str_bool a t' b
    | int b => obtain ⟨t, rfl⟩ := rx; exact SeqAt.EqAt.str_int a t' b t
    | str b => obtain ⟨t, rfl⟩ := rx; exact SeqAt.EqAt.str_str a t' b t
    | _ => exact absurd (show false = true from fx) Bool.false_ne_true
  | _ => exact absurd (show false = true from fy) Bool.false_ne_true
def eqU (x : V) (u : Value) : Bool := match u with
  | .none => eqV .non x
  | .bool b => eqV (.bl b) x
  | .int i _ => eqV (.int i) x
  | .str z _ => eqV (.str z) x
  | _ => false
theorem eqU_of {x y : V} {u : Value} (r : RelV y u) (f : flatV y = true) : eqU x u = eqV y x := by
  cases y with
  | non => cases r; rfl
  | bl b => cases r; rfl
  | int i => obtain ⟨t, rfl⟩ := r; rfl
  | str z => obtain ⟨t, rfl⟩ := r; rfl
  | _ => exact absurd (show false = true from f) Bool.false_ne_true
theorem any_eqU {x : V} : ∀ {xs : List V} {us : List Value}, Vals xs us → xs.all flatV = true → us.any (eqU x) = xs.any fun y => eqV y x
  | _, _, .nil, _ => rfl
  | y :: xs, u :: us, .cons r t, f => by
    rw [List.all_cons, Bool.and_eq_true] at f
    rw [List.any_cons, List.any_cons, eqU_of r f.1, any_eqU t f.2]
theorem mem_eqAt {A : Around} {s : Shared} {x : V} {v : Value} (rx : RelV x v) (fx : flatV x = true) : ∀ {xs : List V} {us : List Value}, Vals xs us → xs.all flatV = true → ∀ u ∈ us, SeqAt.EqAt A s u v (eqU x u)
  | _, _, .nil, _ => fun u hu => by cases hu
  | y :: xs, u :: us, .cons r t, f => fun u' hu => by
    rw [List.all_cons, Bool.and_eq_true] at f
    rcases List.mem_cons.mp hu with rfl | hu
    · rw [eqU_of r f.1]; exact eqAt_V r rx f.1 fx
    · exact mem_eqAt rx fx t f.2 u' hu
def inV (x : V) (xs : List V) : Bool := xs.any fun y => eqV y x
def rIn (K : PySem.W.Frag) (neg : Bool) : R2 := fun x y H Q => ∃ p xs, y = .ref p ∧ (SqL K H p xs ∨ SqT K H p xs) ∧ flatV x = true ∧ xs.all flatV = true ∧ Q (.bl (if neg then !inV x xs else inV x xs)) H
theorem op_in_seq : OpR X (compareOp .In) (rIn X.K false) := by
  intro pins s σ H x y v u Q I rx ry h
  obtain ⟨p, xs, rfl, hq, fx, fs, q⟩ := h
  cases ry
  rcases hq with hq | hq
  · obtain ⟨its, r, pl, hz⟩ := I.list hq
    refine SeqAt.in_listAt (eqU x) pl.isList (fun w hw => mem_eqAt rx fx r fs w (by simpa using hw)) ⟨.bl _, H, I, rfl, ?_⟩
    rw [show its.toArray.any (eqU x) = its.any (eqU x) by simp, any_eqU r fs]
    exact q
  · obtain ⟨its, r, pl, hz⟩ := I.tuple hq
    refine SeqAt.in_tupleAt (eqU x) pl (fun w hw => mem_eqAt rx fx r fs w (by simpa using hw)) ⟨.bl _, H, I, rfl, ?_⟩
    rw [show its.toArray.any (eqU x) = its.any (eqU x) by simp, any_eqU r fs]
    exact q
theorem call_len_seq : CallR X (.builtin "len") (fun xs H Q => ∃ p ys, xs = [.ref p] ∧ (SqL X.K H p ys ∨ SqT X.K H p ys) ∧ Q (.int ys.length) H) := by
  intro pins s σ H xs us Q I r h
  obtain ⟨p, ys, rfl, hq, q⟩ := h
  obtain ⟨u, rfl, rx⟩ := vals1 r
  cases rx
  have hn := line63
  rcases hq with hq | hq
  · obtain ⟨its, r', pl, hz⟩ := I.list hq
    have hlen := r'.length
    exact Calls.call_len_list pl.isList (by simp only [List.size_toArray] <;> omega) ⟨.int ys.length, H, I.tok _, ⟨s.toks + 1, by rw [List.size_toArray, hlen]⟩, q⟩
  · obtain ⟨its, r', pl, hz⟩ := I.tuple hq
    have hlen := r'.length
    exact len_tuple pl (by simp only [List.size_toArray] <;> omega) ⟨.int ys.length, H, I.tok _, ⟨s.toks + 1, by rw [List.size_toArray, hlen]⟩, q⟩
theorem call_list_of : CallR X (.type "list") (fun xs H Q => ∃ p ys, xs = [.ref p] ∧ (SqL X.K H p ys ∨ SqT X.K H p ys) ∧ ∀ l, H l = none → Q (.ref l) (upd H l (.lst ys))) := by
  intro pins s σ H xs us Q I r h
  obtain ⟨p, ys, rfl, hq, q⟩ := h
  obtain ⟨u, rfl, rx⟩ := vals1 r
  cases rx
  have fin : ∀ (its : List Value), Vals ys its → ys.length ≤ sizeLine → ∀ (h' : Heap) (c' : Nat), (∀ b o', s.heap.get? b = some o' → h'.get? b = some o') →
      h'.get? s.heap.objs.size = some { cls := .type "list", dict := none, data := .seq its.toArray c', slots := #[] } → EP X pins σ Q (.ref s.heap.objs.size) { s with heap := h' } := fun its r' hz h' c' kp e =>
    ⟨.ref s.heap.objs.size, _, I.laid (t' := s.toks) kp (Nat.le_refl _) (show ObjOk X.prog X.w _ h' _ (.lst ys) from ⟨hz, its, c', r', e⟩), rfl, q _ (I.hok.fresh (Nat.le_refl _))⟩
  rcases hq with hq | hq
  · obtain ⟨its, r', pl, hz⟩ := I.list hq
    have hlen := r'.length
    obtain ⟨o, ho, hc, n, hd⟩ := pl.isList
    exact call_list_seq p (.inl rfl) ho hc hd (fun h' c' kp e => fin its r' hz h' c' kp e) (by simp only [List.size_toArray] <;> omega)
  · obtain ⟨its, r', pl, hz⟩ := I.tuple hq
    have hlen := r'.length
    obtain ⟨o, ho, hc, n, hd⟩ := pl
    exact call_list_seq p (.inr rfl) ho hc hd (fun h' c' kp e => fin its r' hz h' c' kp e) (by simp only [List.size_toArray] <;> omega)
theorem call_tuple_of : CallR X (.type "tuple") (fun xs H Q => ∃ p ys, xs = [.ref p] ∧ ((SqL X.K H p ys ∧ ∀ l, H l = none → Q (.ref l) (upd H l (.tup ys))) ∨ (SqT X.K H p ys ∧ Q (.ref p) H))) := by
  intro pins s σ H xs us Q I r h
  obtain ⟨p, ys, rfl, h⟩ := h
  obtain ⟨u, rfl, rx⟩ := vals1 r
  cases rx
  rcases h with ⟨hq, q⟩ | ⟨hq, q⟩
  · obtain ⟨its, r', pl, hz⟩ := I.list hq
    have hlen := r'.length
    refine call_tuple_list pl.isList (fun h' kp => ?_) (by simp only [List.size_toArray] <;> omega)
    have I1 : Inv X pins σ H { s with heap := h' } := I.kept (t' := s.toks) kp
    have I2 : Inv X pins σ (upd H h'.objs.size (.tup ys)) { s with heap := h'.push { cls := .type "tuple", data := .seq its.toArray } } :=
      I1.laid (t' := s.toks) (fun b o e => Heap.get?_push_of_some _ e) (Nat.le_refl _) (show ObjOk X.prog X.w _ _ _ (.tup ys) from ⟨hz, its, r', IsTup.new _ _⟩)
    exact ⟨.ref h'.objs.size, _, I2, rfl, q _ (I1.hok.fresh (Nat.le_refl _))⟩
  · obtain ⟨its, r', pl, hz⟩ := I.tuple hq
    exact call_tuple_same pl ⟨.ref p, H, I, rfl, q⟩
def tyV (K : PySem.W.Frag) (T : String) (x : V) (H : Hp) : Prop := match x with
  | .str _ => T = "str"
  | .int _ => T = "int"
  | .ref p => (T = "list" ∧ ∃ xs, SqL K H p xs) ∨ (T = "tuple" ∧ ∃ o, K.lookup p = some o ∧ o.cls = .type "tuple" ∧ o.dict = none) ∨
      (T = "dict" ∧ ((∃ kvs, H p = some (.dK kvs)) ∨ ∃ kvs, H p = some (.dT kvs))) ∨ (T = "set" ∧ ∃ S n, H p = some (.set S n))
  | _ => False
theorem tyV_is {pins : List (Addr × Obj)} {σ : St} {H : Hp} {s : Shared} {T : String} {x : V} {v : Value} (I : Inv X pins σ H s) (r : RelV x v) (ty : tyV X.K T x H) :
    s.TypeIs v T ∧ ∀ a, v = .ref a → ∃ ob, s.heap.get? a = some ob ∧ ob.dict = none := by
  cases x with
  | str z =>
    obtain ⟨t, rfl⟩ := r
    cases (show T = "str" from ty)
    exact ⟨typeIs_str s z t, fun _ e => nomatch e⟩
  | int i =>
    obtain ⟨t, rfl⟩ := r
    cases (show T = "int" from ty)
    exact ⟨typeIs_int s i t, fun _ e => nomatch e⟩
  | ref p =>
    cases r
    rcases ty with ⟨rfl, xs, hq⟩ | ⟨rfl, o, hk, hc, hd⟩ | ⟨rfl, hk⟩ | ⟨rfl, S, n, hk⟩
    · obtain ⟨its, _, pl, _⟩ := I.list hq
      refine ⟨pl.isList.typeIs, fun a e => ?_⟩
      cases e
      obtain ⟨o, n, e, c, hd, _⟩ := pl
      exact ⟨o, e, hd⟩
    · refine ⟨⟨o, I.kIn p o hk, hc⟩, fun a e => ?_⟩
      cases e
      exact ⟨o, I.kIn _ o hk, hd⟩
    · have z : ∃ o, s.heap.get? p = some o ∧ o.ExactDict := by
        rcases hk with ⟨kvs, hk⟩ | ⟨kvs, hk⟩
        · obtain ⟨_, _, _, _, o, _, _, e, ex, _⟩ := I.hok p _ hk
          exact ⟨o, e, ex⟩
        · obtain ⟨_, _, _, _, o, _, _, e, ex, _⟩ := I.hok p _ hk
          exact ⟨o, e, ex⟩
      obtain ⟨o, e, ex⟩ := z
      refine ⟨⟨o, e, ex.1⟩, fun a e2 => ?_⟩
      cases e2
      exact ⟨o, e, ex.2.1⟩
    · obtain ⟨o, _, _, _, e, ex, _⟩ := I.hok p _ hk
      refine ⟨⟨o, e, ex.1⟩, fun a e2 => ?_⟩
      cases e2
      exact ⟨o, e, ex.2.1⟩
  | _ => exact False.elim ty
def tBM0 (K : PySem.W.Frag) (T : String) (r : V → List V → Hp → VK → Prop) (to : TE) : TE := fun σ H Q => to σ H fun x H1 => tyV K T x H1 ∧ r x [] H1 Q
def tBM (K : PySem.W.Frag) (T : String) (r : V → List V → Hp → VK → Prop) (to : TE) (t : TA) : TE := fun σ H Q => to σ H fun x H1 => tyV K T x H1 ∧ t σ H1 fun xs H2 => r x xs H2 Q
variable {o e : Expr} {es : List Expr} {to : TE} {t : TA} {name : Str} {apos cpos : Pos} {T id : String} {r : V → List V → Hp → VK → Prop}
theorem pe_bm0 (pa : PlainAttrs T) (slot : Slot T name id) (hty : typeOf (.builtin id) = pure (.type "method_descriptor")) (hm : MtR X id r) (ho : PE X o to)
    (hbase : attributeBase o name X.env (eval o X.env) = eval o X.env := by rfl) (hline : (apos.endLine == cpos.line) = true := by rfl) : PE X (.Call (.Attribute o name apos) [] [] cpos) (tBM0 X.K T r to) := by
  intro pins s σ H Q I h
  refine wpAny_Call_method0_late hbase hline (thn (ho pins s σ H _ I h) fun v s1 ⟨x, H1, I1, r1, ty, q1⟩ => ?_)
  obtain ⟨h1, h2⟩ := tyV_is I1 r1 ty
  exact ⟨T, id, pa, slot, hty, h1, h2, Calls.callWith_builtin rfl (PySem.evalArgs_none (hm pins s1 σ H1 x [] v [] Q I1 r1 .nil q1))⟩
theorem pe_bm (pa : PlainAttrs T) (slot : Slot T name id) (hty : typeOf (.builtin id) = pure (.type "method_descriptor")) (hm : MtR X id r) (ho : PE X o to) (ha : PA X (e :: es) t)
    (hbase : attributeBase o name X.env (eval o X.env) = eval o X.env := by rfl)
    (hfew : ((backTo cpos (starEach (e :: es) X.env)).all (fun x => !x.1) && (backToKw cpos (keywordEach [] X.env)).all (fun x => x.1.isSome)
      && decide ((e :: es).length + ([] : List Keyword).length + (if ([] : List Keyword).isEmpty then 0 else 1) < 30)) = true := by rfl)
    (hline : (apos.endLine == cpos.line) = true := by rfl) (hs : starEach (e :: es) X.env = (false, eval e X.env) :: starEach es X.env := by rfl) (hplain : (backTo cpos (starEach es X.env)).any (·.1) = false := by rfl) :
    PE X (.Call (.Attribute o name apos) (e :: es) [] cpos) (tBM X.K T r to t) := by
  intro pins s σ H Q I h
  refine wpAny_Call_method_late hbase hfew hline rfl (thn (ho pins s σ H _ I h) fun v s1 ⟨x, H1, I1, r1, ty, q1⟩ => ?_)
  obtain ⟨h1, h2⟩ := tyV_is I1 r1 ty
  refine ⟨T, id, pa, slot, hty, h1, h2, ?_⟩
  have hA := ha cpos pins s1 σ H1 _ I1 q1
  rw [hs] at hA ⊢
  refine Calls.callWith_builtin (by show (false || (backTo cpos (starEach es X.env)).any (·.1)) = false; rw [hplain] <;> rfl) (Calls.evalArgs_plain ?_)
  exact thn hA fun us s2 ⟨vs, H2, I2, r2, q2⟩ => hm pins s2 σ H2 x vs v us Q I2 r1 r2 q2
/- xs.append(e), list.index on a module's tuple .. are MtR facts of 06m -/
end
end L2
namespace L2
open PySem PySem.Spec PyProof.Rows
def MtM (X : Cx) (id : String) (r : V → List V → Hp → VK → Prop) : Prop :=
  ∀ (pins : List (Addr × Obj)) (s : Shared) (σ : St) (H : Hp) (x : V) (xs : List V) (v : Value) (us : List Value) (Q : VK), Inv X pins σ H s → RelV x v → Vals xs us → r x xs H Q →
    wpAny (model X.prog X.w) X.A (call (.builtin id) (v :: us)) (EP X pins σ Q) X.xe s
theorem Vals.one : ∀ {x : V} {us : List Value}, Vals [x] us → ∃ u, us = [u] ∧ RelV x u
  | _, _, .cons r .nil => ⟨_, rfl, r⟩
theorem Vals.zero : ∀ {us : List Value}, Vals [] us → us = []
  | _, .nil => rfl
theorem Vals.reverse {xs : List V} {us : List Value} (h : Vals xs us) : Vals xs.reverse us.reverse := by
  induction h with
  | nil => exact .nil
  | cons r t ih => rw [List.reverse_cons, List.reverse_cons]; exact Vals.append ih (.cons r .nil)
theorem Vals.rep {xs : List V} {us : List Value} (h : Vals xs us) : ∀ k : Nat, Vals (List.replicate k xs).flatten (List.replicate k us).flatten
  | 0 => .nil
  | k + 1 => by
    rw [List.replicate_succ, List.replicate_succ, List.flatten_cons, List.flatten_cons]
    exact Vals.append h (Vals.rep h k)
theorem foldl_rep (its : List Value) : ∀ (k : Nat) (acc : List Value),
    List.foldl (fun x1 x2 => x1 ++ x2) acc.toArray (List.replicate k its.toArray) = (acc ++ (List.replicate k its).flatten).toArray
  | 0, acc => by simp
  | k + 1, acc => by
    have e : acc.toArray ++ its.toArray = (acc ++ its).toArray := by simp
    have e2 : (acc ++ its) ++ (List.replicate k its).flatten = acc ++ (List.replicate (k + 1) its).flatten := by
      rw [List.replicate_succ, List.flatten_cons, List.append_assoc]
    rw [← e2, ← foldl_rep its k (acc ++ its), ← e, List.replicate_succ, List.foldl_cons]
section
variable {X : Cx} {pins : List (Addr × Obj)} {σ : St} {H : Hp} {s : Shared} {l b : Addr} {xs ys zs : List V}
theorem Inv.lset {its its' : List Value} {n : Nat} {f : Array Value → Array Value} {t' : Nat} (I : Inv X pins σ H s) (hH : H l = some (.lst xs))
    (e : s.heap.get? l = some { cls := .type "list", data := .seq its.toArray n }) (hf : f its.toArray = its'.toArray) (hv : Vals ys its') (hz : ys.length ≤ sizeLine) :
    Inv X pins σ (upd H l (.lst ys)) { s with heap := s.heap.update l (Obj.mapSeq f), toks := t' } := by
  have q := PySem.IsL.update e f
  rw [hf] at q
  refine I.write (x := l) (e := l) (by rw [hH]; exact trivial) (.inl rfl) (fun b' u hb hu => (Heap.get?_update_other s.heap (Obj.mapSeq f) (Ne.symm hb)).trans hu) ⟨_, q⟩ ?_
  exact ⟨hz, its', _, hv, q⟩
theorem Inv.lnew {its : List Value} {t' : Nat} (I : Inv X pins σ H s) (hv : Vals ys its) (hz : ys.length ≤ sizeLine) :
    Inv X pins σ (upd H s.heap.objs.size (.lst ys)) { s with heap := s.heap.push { cls := .type "list", data := .seq its.toArray }, toks := t' } :=
  I.laid (fun _ _ q => Heap.get?_push_of_some _ q) (Nat.le_refl _) ⟨hz, its, 0, hv, Heap.get?_push_size _ rfl⟩
theorem Inv.fresh (I : Inv X pins σ H s) : H s.heap.objs.size = none := I.hok.fresh (Nat.le_refl _)
theorem Inv.lstM (I : Inv X pins σ H s) (hH : H l = some (.lst xs)) : xs.length ≤ sizeLine ∧ ∃ (its : List Value) (n : Nat), Vals xs its ∧ xs.length = its.length ∧ s.heap.get? l = some { cls := .type "list", data := .seq its.toArray n } := by
  obtain ⟨z, its, n, r, e⟩ := I.hok l _ hH
  exact ⟨z, its, n, r, r.length, e⟩
theorem notLongL {n : Nat} (h : n ≤ sizeLine) : Builtin.List.listTooLong n = false := by
  unfold Builtin.List.listTooLong
  exact decide_eq_false (by omega)
end
section
variable {X : Cx}
def rAppend : V → List V → Hp → VK → Prop := fun x vs H Q => ∃ l xs y, x = .ref l ∧ vs = [y] ∧ H l = some (.lst xs) ∧ xs.length < sizeLine ∧ Q .non (upd H l (.lst (xs ++ [y])))
theorem mt_append : MtM X "list.append" rAppend := by
  intro pins s σ H x vs v us Q I rx rv h
  obtain ⟨l, xs, y, rfl, rfl, hH, hz, q⟩ := h
  cases rx
  obtain ⟨u, rfl, ru⟩ := rv.one
  obtain ⟨z, its, n, r, hl, e⟩ := I.lstM hH
  refine call_meets F.slot_list_append ⟨_, e, rfl⟩ F.entry_list_append (F.args_list_append_2 _ _) (PySem.list_append l its.toArray n u (by rw [List.size_toArray]; omega)) ⟨e, ?_⟩
  refine ⟨.non, _, I.lset (its' := its ++ [u]) hH e (by simp) (r.append (.cons ru .nil)) ?_, rfl, q⟩
  rw [List.length_append, List.length_singleton]
  omega
def rRep : R2 := fun x y H Q => ∃ l k xs, x = .ref l ∧ y = .int k ∧ H l = some (.lst xs) ∧ -(2 ^ 63) ≤ k ∧ k < 2 ^ 63 ∧ xs.length * k.toNat ≤ sizeLine ∧
  ∀ p, H p = none → Q (.ref p) (upd H p (.lst (List.replicate k.toNat xs).flatten))
theorem len_rep {α : Type} (xs : List α) (k : Nat) : (List.replicate k xs).flatten.length = k * xs.length := by
  induction k with
  | zero => simp
  | succ k ih => rw [List.replicate_succ, List.flatten_cons, List.length_append, ih, Nat.succ_mul, Nat.add_comm]
theorem op_rep : OpR X (binaryOp .Mult) rRep := by
  intro pins s σ H x y v u Q I rx ry h
  obtain ⟨l, k, xs, rfl, rfl, hH, h1, h2, hz, q⟩ := h
  cases rx
  obtain ⟨t, rfl⟩ := ry
  obtain ⟨z, its, n, r, hl, e⟩ := I.lstM hH
  have hlen : its.toArray.size * k.toNat ≤ sizeLine := by rw [List.size_toArray, ← hl]; exact hz
  have hcap : ¬ its.toArray.size * k.toNat > (2 ^ 63 - 1) / 8 := by
    have : (sizeLine : Nat) ≤ (2 ^ 63 - 1) / 8 := by decide
    omega
  have hfit : ¬ (!Builtin.List.listFitsIndex k) = true := by
    rw [fitsIndex_both h1 h2]
    exact Bool.false_ne_true
  have hlong : ¬ Builtin.List.listTooLong (its.toArray.size * k.toNat) = true := by
    rw [notLongL hlen]
    exact Bool.false_ne_true
  have hnew : List.foldl (fun x1 x2 => x1 ++ x2) #[] (List.replicate (if its.toArray.isEmpty = true then 0 else k.toNat) its.toArray) = (List.replicate k.toNat its).flatten.toArray := by
    have f0 : ∀ m : Nat, List.foldl (fun x1 x2 => x1 ++ x2) #[] (List.replicate m its.toArray) = (List.replicate m its).flatten.toArray := fun m => by
      have := foldl_rep its m []
      rw [List.nil_append] at this
      exact this
    rw [f0]
    cases its with
    | nil => simp
    | cons a r' => rw [if_neg (by simp)]
  refine wpAny_binaryOp_repeat_ref (T := "list") (U := "int") (by decide) ⟨_, e, rfl⟩ (fun s' => typeIs_int s' k t) noFill_list_mul F.fills_int_mul F.slot_int_rmul repeat_list F.slot_int_index.lookup
    (call_meets F.slot_int_rmul (typeIs_int s k t) F.entry_int_rmul (F.args_int_rmul_2 _ _) (int___rmul___int_list k t l its.toArray n)
      ⟨e, rfl, ⟨_, e, rfl⟩, call_meets F.slot_list_mul ⟨_, e, rfl⟩ F.entry_list_mul (F.args_list_mul_2 _ _) (AutoListH.list___mul___list_int_3 l its.toArray n k t hfit hcap hlong) ⟨e, ?_⟩⟩)
  rw [hnew]
  exact ⟨.ref _, _, I.lnew (t' := s.toks) (r.rep k.toNat) (by rw [len_rep, Nat.mul_comm]; exact hz), rfl, q _ I.fresh⟩
end
section
variable {prog : Program} {w : World} {A : Around} {E : Value → Shared → Prop} {s : Shared}
set_option maxRecDepth 100000 in
end
section
variable {X : Cx}
end
end L2
namespace Att
open PySem PySem.W PySem.Calls PyProof.Rows
theorem ints_of_wellAll {P : Params} {h : Heap} : ∀ (ns : List Int) (vs : List Value), WellAll P h vs (ns.map WData.int) → IntsAre vs ns := by
  intro ns
  induction ns with
  | nil =>
    intro vs w
    rw [List.map_nil] at w
    cases w
    exact .nil
  | cons n ns ih =>
    intro vs w
    rw [List.map_cons] at w
    cases w with
    | cons a b =>
      cases a
      exact .cons _ _ (ih _ b)
theorem script_of {l : OpenLaw} {n : Nat} (hn : l.most = some n) {P : Params} {h : Heap} {args : List WData} {vals : List Value}
    (hpre : l.row.toRowW.claim.pre args = true) (hwl : WellAll P h vals args) :
    ∃ a vs ns, vals = [Value.ref a] ∧ args = [WData.list (ns.map WData.int)] ∧ h.get? a = some { cls := .type "list", data := .seq vs.toArray } ∧ IntsAre vs ns ∧ ns.length ≤ n := by
  have hsh : WShape.hasAll [] args [.list .int] = true := (pre_splitW hpre).1
  have hc : l.pre.holds [] { args := args } = true := (pre_splitW hpre).2
  obtain ⟨d, r, rfl, h1, h2⟩ := hasAllW_cons hsh
  obtain rfl := hasAllW_nil h2
  obtain ⟨xs, rfl, h3⟩ := hasW_list h1
  obtain ⟨ns, rfl⟩ := items_int h3
  have hlen : ns.length ≤ n := by
    unfold OpenLaw.pre at hc
    have h4 : (WTm.not (.lt (.lit (.int (n : Int))) (.len (.arg 0)))).holds [] { args := [.list (ns.map .int)] } = true := by
      have h4 := (holds_andW hc).1
      rw [hn] at h4
      exact h4
    have h5 := condW_of h4 (w_not (w_lt w_lit (w_len_list (w_arg rfl))))
    rw [List.length_map] at h5
    refine Nat.le_of_not_lt fun q => ?_
    have q' : (n : Int) < ((ns.length : Nat) : Int) := by omega
    first
      | (rw [decide_eq_true q'] at h5; exact absurd h5 (by decide))
      | (simp at h5; omega)
  cases hwl with
  | cons w1 w2 =>
    cases w2
    cases w1 with
    | list ho hall => exact ⟨_, _, ns, rfl, rfl, ho, ints_of_wellAll ns _ hall, hlen⟩
theorem post_true (l : OpenLaw) (args : List WData) : l.row.toRowW.claim.post args (.bool true) args = true :=
  postW_of (r := l.row.toRowW) (X := (true == true))
    (show WShape.has [] (.bool true) .bool = true by first | rfl | decide | simp [WShape.has, WShape.arms, WShape.armsAll])
    (show (WTm.eq .res (.lit (.bool true))).value [] { args := args, res := some (.bool true), after := args } = some (.bool (true == true)) from w_eq_bool (w_res rfl) w_lit) rfl
theorem attach_call {l : OpenLaw} {n : Nat} {q : Program} {loose : List Str} {XP : (Str → Option Value) → Heap → Prop} {YP : World → Heap → Prop} {d : DefRec}
    (hn : l.most = some n) (hdf : d.params.defaults = [])
    (call : ∀ (w : World) (s₀ s₁ : Shared) (mg mb : Str → Option Value) (fa : Addr) (o : Obj) (pm cd doc : Value) (a : Addr) (vs : List Value) (ns : List Int),
      Ground q loose [] XP w s₀ mg mb s₁.heap → YP w s₁.heap →
      s₁.heap.get? fa = some o → o.data = .func (docDef d.name d.params d.body d.scope pm cd doc) → s₁.heap.CodeRec cd d.name → mg d.name = some (.ref fa) →
      s₁.heap.get? a = some { cls := .type "list", data := .seq vs.toArray } → IntsAre vs ns → ns.length ≤ n → s₁.gens = #[] →
      codeAny (model l.prog w) callerA (.call (.ref fa) ⟨[.ref a], []⟩) (fun r s' => r = .ok (.ret (.bool true)) ∧ OldK s₁.heap s'.heap ∧ s'.os = s₁.os ∧ AllBare s'.gens) s₁) :
    WalkO q loose XP YP l.row.toRowW d [] (fun f vs => PySem.call f vs) := by
  intro w s₀ s₁ mg mb G Y fa o pm cd doc dV kV ho hd hcd hD hmg hg args vals as hpre hlay hrd hwl hlo
  obtain rfl : dV = .none := Dflts.none hD hdf
  obtain rfl : kV = .none := Dflts.noKw hD
  obtain ⟨a, vs, ns, rfl, rfl, hobj, hints, hlen⟩ := script_of hn hpre hwl
  refine enter_call (codeAny_mono (call w s₀ s₁ mg mb fa o pm cd doc a vs ns G Y ho (fd_plain hd) hcd hmg hobj hints hlen hg) fun r s' hq => ?_)
  obtain ⟨rfl, h2, h3, h4⟩ := hq
  exact ⟨.inl ⟨.bool true, .bool true, [], rfl, fun _ => rfl, .bool true, post_true l _, fun _ => ⟨List.Pairwise.nil, fun _ hm => (nomatch hm)⟩⟩, h2, h3, h4⟩
section
variable {prog : Program} {w : World} {A : Around} {E : Value → Shared → Prop} {s : Shared} {K : Frag}
end
end Att
namespace L2
open PySem PySem.Spec PyProof.Rows
theorem vals_ints : ∀ {vs : List Value} {ns : List Int}, IntsAre vs ns → Vals (ns.map V.int) vs
  | _, _, .nil => .nil
  | _, _, .cons n t h => .cons ⟨t, rfl⟩ (vals_ints h)
def Only (H : Hp) : Prop := ∀ b, H b = none ∨ ∃ o xs, H b = some (.frz o (.lst xs))
theorem law_call {P : Program} {w : World} {K : PySem.W.Frag} {mg mb : Str → Option Value} {CX : CXT} {k : Nat} {fa a : Addr} {fd : FuncData} {x : Str} {sp : Sp} {s₁ : Shared} {vs : List Value} {ns : List Int}
    (KX : K.In s₁.heap) (hns : s₁.heap.Ns mainGlobals mg) (hb : s₁.heap.Ns builtinsNs mb) (hbb : ∀ x : Str, x ≠ "__name__" → mb x = bootBuiltins x) (hlim : s₁.heap.NoLimit) (hg : s₁.gens = #[])
    (ha : s₁.heap.get? a = some { cls := .type "list", data := .seq vs.toArray }) (hi : IntsAre vs ns) (hl : ns.length ≤ sizeLine) (hr : Room k callerA)
    (F : ∀ base : Heap, K.In base → base.Ns mainGlobals mg → FnOk P w K mg base CX k fa fd [x] sp) (hbind : ∀ (s : Shared) (u : Value), BindsTo s fd ⟨[u], []⟩ [(x, u)])
    (hsp : ∀ H : Hp, Only H → SqL K H a (ns.map V.int) → sp [.ref a] H (fun v _ => v = .bl true) fun _ _ _ => False)
    (hCX : ∀ H e s', CX [] H s₁ (fun _ _ _ => False) e s' → False) :
    codeAny (model P w) callerA (.call (.ref fa) ⟨[.ref a], []⟩) (fun r s' => r = .ok (.ret (.bool true)) ∧ OldK s₁.heap s'.heap ∧ s'.os = s₁.os ∧ AllBare s'.gens) s₁ := by
  have rv := vals_ints hi
  have lenV := hi.length
  have core : ∀ H : Hp, Only H → SqL K H a (ns.map V.int) → HOk P w H s₁.heap → (∀ b, H b ≠ none → b = a) → (H a ≠ none → K.lookup a = none) →
      codeAny (model P w) callerA (.call (.ref fa) ⟨[.ref a], []⟩) (fun r s' => r = .ok (.ret (.bool true)) ∧ OldK s₁.heap s'.heap ∧ s'.os = s₁.os ∧ AllBare s'.gens) s₁ := by
    intro H hO hS hok hA hK
    have base_of : ∀ {b : Addr} {o : Obj}, s₁.heap.get? b = some o → H b = none → (hidT s₁.heap H).get? b = some o := fun e n => hidT_get e n
    have noA : ∀ {b : Addr} {o : Obj} {es : Array DictEntry} {ep : Nat}, s₁.heap.get? b = some o → o.data = .dict es ep → H b = none := fun {b o es ep} e d => by
      cases q : H b with
      | none => rfl
      | some u =>
        have e' : b = a := hA b (by rw [q]; simp)
        subst e'
        rw [ha] at e; cases e
        have d' : Data.seq vs.toArray _ = Data.dict es ep := d
        cases d'
    have nsK : ∀ {b : Addr} {m : Str → Option Value}, s₁.heap.Ns b m → (hidT s₁.heap H).Ns b m := fun {b m} ⟨o, es, ep, e, d, r⟩ => ⟨o, es, ep, base_of e (noA e d), d, r⟩
    have hKb : K.In (hidT s₁.heap H) := fun b o e => base_of (KX b o e) (by
      cases q : H b with
      | none => rfl
      | some u =>
        have e' : b = a := hA b (by rw [q]; simp)
        subst e'
        rw [hK (by rw [q]; simp)] at e; cases e)
    have hM : Mod K mg (hidT s₁.heap H) := ⟨hKb, nsK hns, ⟨mb, nsK hb, hbb⟩, let ⟨mc, h1, h2⟩ := hlim; ⟨mc, nsK h1, h2⟩⟩
    have e0 : Env0 P w K mg (hidT s₁.heap H) callerA [] s₁ H := ⟨rfl, hM, fun b o e => of_hidT e, Nat.le_of_eq (hidT_size _ _), trivial, fun b hb => absurd (show b ∈ ([] : List Addr) from hb) (by simp), hok, .of_eq hg⟩
    refine codeAny_mono ((F _ hKb (nsK hns)).run callerA [] s₁ H ⟨[.ref a], []⟩ [.ref a] [.ref a] _ _ hr e0 (hbind s₁ (.ref a)) (.cons rfl .nil) (hsp H hO hS)) fun r s' h => ?_
    cases r with
    | error e => exact (hCX H e s' h).elim
    | ok fl =>
      cases fl with
      | next => exact False.elim h
      | brk => exact False.elim h
      | cont => exact False.elim h
      | ret u =>
        obtain ⟨v, H', os, bare, un, hok', r', q⟩ := h
        have q' : v = .bl true := q
        subst q'
        obtain rfl : u = Value.bool true := r'
        refine ⟨rfl, OldK.of_keep fun b o e => ?_, os, bare⟩
        cases q : H b with
        | none => exact un.keep b o e q (by intro z; exact absurd (show b ∈ ([] : List Addr) from z) (by simp)) (by simp)
        | some u =>
          rcases hO b with z | ⟨ob, xs, z⟩
          · rw [q] at z; cases z
          · have z2 := un.frzs b ob _ z
            obtain ⟨e1, _⟩ := hok b _ z
            obtain ⟨e2, _⟩ := hok' b _ z2
            rw [e] at e1; cases e1
            exact e2
  cases hk : K.lookup a with
  | some o =>
    have e := KX a o hk
    rw [ha] at e
    cases e
    refine core (fun _ => none) (fun _ => .inl rfl) (.inr ⟨_, vs.toArray, _, hk, rfl, rfl, rfl, by rw [List.size_toArray, lenV]; exact hl, by simpa using rv⟩) (fun b u z => by have z' : (none : Option HO) = some u := z; cases z') (fun b z => absurd rfl z) fun z => absurd rfl z
  | none =>
    refine core (fun b => if b = a then some (.frz { cls := .type "list", data := .seq vs.toArray } (.lst (ns.map V.int))) else none) (fun b => ?_) (.inl (.inr ⟨{ cls := .type "list", data := .seq vs.toArray }, if_pos rfl⟩)) (fun b u z => ?_) (fun b z => ?_) fun _ => hk
    · by_cases hb : b = a
      · exact .inr ⟨_, _, if_pos hb⟩
      · exact .inl (if_neg hb)
    · by_cases hb : b = a
      · have z' := (if_pos hb).symm.trans z
        cases z'
        subst hb
        exact ⟨ha, by rw [List.length_map]; exact hl, vs, _, rv, ha⟩
      · have z' := (if_neg hb).symm.trans z
        cases z'
    · by_cases hb : b = a
      · exact hb
      · exact absurd (if_neg hb) z
end L2
namespace L2
open PySem PySem.Spec PyProof.Rows
theorem walk_of {l : PySem.W.OpenLaw} {n k : Nat} {q : Program} {loose : List Str} {XP : (Str → Option Value) → Heap → Prop} {YP : World → Heap → Prop} {d : DefRec} {K : Params → PySem.W.Frag} {CX : World → CXT} {sp : World → Sp} {x : Str}
    (hn : l.most = some n) (hn2 : n ≤ sizeLine) (hdf : d.params.defaults = []) (hr : Room k callerA)
    (hY : ∀ (w : World) (h : Heap), YP w h → (K w.params).In h)
    (F : ∀ (w : World) (mg : Str → Option Value) (fa : Addr) (h : Heap), (K w.params).In h → h.Ns mainGlobals mg → mg d.name = some (.ref fa) →
      ∃ fd : FuncData, (∀ (s : Shared) (u : Value), BindsTo s fd ⟨[u], []⟩ [(x, u)]) ∧
        ∀ base : Heap, (K w.params).In base → base.Ns mainGlobals mg → FnOk l.prog w (K w.params) mg base (CX w) k fa fd [x] (sp w))
    (hsp : ∀ (w : World) (H : Hp) (a : Addr) (ns : List Int), ns.length ≤ n → Only H → SqL (K w.params) H a (ns.map V.int) → sp w [.ref a] H (fun v _ => v = .bl true) fun _ _ _ => False)
    (hCX : ∀ (w : World) (H : Hp) (s : Shared) (e : Value) (s' : Shared), CX w [] H s (fun _ _ _ => False) e s' → False) :
    PySem.W.WalkO q loose XP YP l.row.toRowW d [] (fun f vs => PySem.call f vs) := by
  refine Att.attach_call hn hdf fun w s₀ s₁ mg mb fa o pm cd doc a vs ns G Y ho hd hcd hmg hobj hints hlen hg => ?_
  have KX := hY w _ Y
  obtain ⟨fd, hb, hF⟩ := F w mg fa _ KX G.T.g hmg
  exact law_call KX G.T.g G.T.b G.T.builtins G.T.nolimit hg hobj hints (Nat.le_trans hlen hn2) hr hF hb (fun H hO hS => hsp w H a ns hlen hO hS) fun H e s' => hCX w H s₁ e s'
end L2
namespace L2
open PySem PySem.Spec PyProof.Rows
def defArgs (s : Stmt) : Arguments := match s with
  | .FunctionDef _ a _ _ _ _ _ _ _ _ => a
  | _ => { posonlyargs := [], args := [], vararg := none, kwonlyargs := [], kw_defaults := [], kwarg := none, defaults := [] }
def defBody (s : Stmt) : List Stmt := match s with
  | .FunctionDef _ _ b _ _ _ _ _ _ _ => b
  | _ => []
def defScope (s : Stmt) : Scope := match s with
  | .FunctionDef _ _ _ _ _ _ sc _ _ _ => sc
  | _ => { kind := .function, names := [], isGenerator := false, isCoroutine := false }
abbrev CX0 : CXT := fun _ _ _ _ _ _ => False
abbrev E0 : XK := fun _ _ _ => False
theorem pass0 {X : Cx} : Passes CX0 X E0 := fun _ _ _ _ _ _ _ h => h.elim
structure Fun (K : PySem.W.Frag) (x qual : Str) (st : Stmt) (f : Addr) (fd : FuncData) : Prop where
  ex : ∃ (oc : Value) (od : Option Addr) (kV doc pm : Value) (an : Option Addr) (cdv ct : Value) (osl : Array (Option Value)),
    fd = PySem.W.fnOf x qual (defArgs st) (defBody st) (defScope st) .none kV doc pm an cdv ct ∧ K.lookup f = some ⟨oc, od, .func fd, osl⟩ ∧ PySem.W.codeIn K cdv qual = true
  kp : PySem.W.keepIn K (.ref f) = true
section
variable {P : Program} {w : World} {K : PySem.W.Frag} {mg : Str → Option Value} {base : Heap}
theorem Fun.ok {x qual : Str} {st : Stmt} {f : Addr} {fd : FuncData} {N ps : List Str} {k : Nat} {sp : Sp} (F : Fun K x qual st f fd) (S : FnScope N ps (defScope st)) (len : ∀ vs H Q E, sp vs H Q E → vs.length = ps.length)
    (hbody : ∀ (cdv : Value) (A : Around) (outer : List Env) (s : Shared) (H : Hp) (vs : List V) (Q : VK) (E : XK), Room k (A.deeper (envOfC qual (defScope st) s.heap.objs.size f cdv)) → sp vs H Q E →
      ∃ t, PSs (cxOf CX0 P w K mg base N qual (defScope st) f cdv A outer s H E).nox (defBody st) t ∧ t { nx := fun _ H' => Q .non H', rt := Q } (start N vs) H) : FnOk P w K mg base CX0 (k + 1) f fd ps sp := by
  obtain ⟨oc, od, kV, doc, pm, an, cdv, ct, osl, rfl, lk, hcd⟩ := F.ex
  refine fn_of lk hcd S len fun A outer s H vs Q E hr hsp => ?_
  obtain ⟨t, h, q⟩ := hbody cdv A outer s H vs Q E hr hsp
  exact ⟨t, h.nox, q⟩
theorem Fun.binds {x qual : Str} {st : Stmt} {f : Addr} {fd : FuncData} {ps : List Str} (F : Fun K x qual st f fd)
    (h : ∀ (kV doc pm : Value) (an : Option Addr) (cdv ct : Value) (us : List Value), us.length = ps.length → bindArgs (PySem.W.fnOf x qual (defArgs st) (defBody st) (defScope st) .none kV doc pm an cdv ct) ⟨us, []⟩ = pure (ps.zip us)) : Binds K fd ps [] := by
  obtain ⟨oc, od, kV, doc, pm, an, cdv, ct, osl, rfl, lk, hcd⟩ := F.ex
  exact .all (h kV doc pm an cdv ct)
theorem fun_mk {x qual : Str} {st : Stmt} {f : Addr} {oc : Value} {od an : Option Addr} {osl : Array (Option Value)} {kV doc pm cdv ct : Value} (l : K.lookup f = some ⟨oc, od, .func (PySem.W.fnOf x qual (defArgs st) (defBody st) (defScope st) .none kV doc pm an cdv ct), osl⟩)
    (c : PySem.W.codeIn K cdv qual = true) (k : PySem.W.keepIn K (.ref f) = true) : Fun K x qual st f (PySem.W.fnOf x qual (defArgs st) (defBody st) (defScope st) .none kV doc pm an cdv ct) := ⟨⟨oc, od, kV, doc, pm, an, cdv, ct, osl, rfl, l, c⟩, k⟩
end
theorem hu_of {A : Around} {k : Nat} (hr : Room k A) : A.units + 1 < cLine := Nat.lt_of_le_of_lt (Nat.add_le_add_left (by decide : 1 ≤ 64) _) hr.units
section
variable {X : Cx}
theorem pv (i : Nat) {x : Str} {pos : Pos} (hN : X.N[i]? = some x := by rfl) (hv : Vis X.env.scope x := by first | exact Or.inl rfl | exact Or.inr (Or.inl rfl) | exact Or.inr (Or.inr rfl)) (hd : (x == ("__debug__" : Str)) = false := by decide)
    (hcd : (x == ("__classdict__" : Str)) = false := by decide) : PE X (.Name x pos) (tVar i) := pe_var hN hv hd hcd
end
theorem iteF {A B : Prop} (h : B) : if false = true then A else B := by
  rw [if_neg Bool.false_ne_true]
  exact h
theorem iteT {A B : Prop} (h : A) : if true = true then A else B := by
  rw [if_pos rfl]
  exact h
theorem ite2 {c A B : Prop} [Decidable c] (h1 : c → A) (h2 : ¬ c → B) : if c then A else B := by
  by_cases h : c
  · rw [if_pos h]
    exact h1 h
  · rw [if_neg h]
    exact h2 h
theorem iteNS {c A B : Prop} [Decidable c] (hc : c) (h : B) : if (!decide c) = true then A else B := by
  rw [decide_eq_true hc]
  exact iteF h
def Same (H H' : Hp) : Prop := ∀ b o, H b = some o → H' b = some o
theorem Same.refl (H : Hp) : Same H H := fun _ _ h => h
theorem Same.trans {H H1 H2 : Hp} (a : Same H H1) (b : Same H1 H2) : Same H H2 := fun c o h => b c o (a c o h)
theorem Same.free {H H' : Hp} (e : Same H H') {l : Addr} (h : H' l = Option.none) : H l = Option.none := by
  cases q : H l with
  | none => rfl
  | some o =>
    rw [e l o q] at h
    cases h
theorem Same.seq {K : PySem.W.Frag} {H H' : Hp} {a : Addr} {xs : List V} (e : Same H H') (h : SqL K H a xs) : SqL K H' a xs := by
  rcases h with (h | ⟨o, h⟩) | h
  · exact .inl (.inl (e _ _ h))
  · exact .inl (.inr ⟨o, e _ _ h⟩)
  · exact .inr h
end L2
set_option maxHeartbeats 4000000
namespace Ow
open PySem PySem.Spec PyProof.Rows L2
structure Has (P : Program) (w : World) (K : PySem.W.Frag) (mg : Str → Option Value) (base : Heap) (k : Nat) (x : Str) (ps : List Str) (sp : Sp) : Prop where
  ex : ∃ (f : Addr) (fd : FuncData), FnOk P w K mg base CX0 k f fd ps sp ∧ Binds K fd ps [] ∧ PySem.W.keepIn K (.ref f) = true ∧ mg x = some (.ref f)
section
variable {X : Cx} {k : Nat} {x : Str} {ps : List Str} {sp : Sp} {p pos : Pos} {e : Expr} {es : List Expr} {t : TA}
theorem pe_fn (h : Has X.prog X.w X.K X.mg X.base k x ps sp) (hr : Room k X.A) (hg : Gl X x) (ha : PA X (e :: es) t) (hdb : (x == ("__debug__" : Str)) = false := by decide)
    (he : starEach (e :: es) X.env = (false, eval e X.env) :: starEach es X.env := by rfl) (hpl : (backTo pos (starEach es X.env)).any (·.1) = false := by rfl) :
    PE X (.Call (.Name x p) (e :: es) [] pos) (tCall sp [] E0 t) := by
  obtain ⟨f, fd, F, b, kp, m⟩ := h.ex
  exact pe_call F hr hg m kp b .nil pass0 ha hdb he hpl
theorem pe_ty {T : String} (hg : Gl X x) (hm : X.mg x = none) (hv : bootBuiltins x = some (.type T)) (hn : x ≠ "__name__" := by decide) (hd : (x == ("__debug__" : Str)) = false := by decide) : PE X (.Name x pos) (tC (.ty T)) := pe_bltn (v := .ty T) hg hm hv rfl hn hd
def clsV : V → Option Value
  | .ty n => some (.type n)
  | .ref C => some (.ref C)
  | _ => none
theorem clsV_rel {c : V} {u cv : Value} (r : RelV c u) (h : clsV c = some cv) : u = cv := by
  cases c with
  | ty n => cases h; exact r
  | ref C => cases h; exact r
  | _ => cases h
theorem call_isinst : CallR X (.builtin "isinstance") (fun xs H Q => ∃ x c t cv b, xs = [x, c] ∧ clsV c = some cv ∧ TyOf X.K H x t ∧ PySem.W.kitOne X.K t cv = some b ∧ Q (.bl b) H) := by
  intro pins s σ H xs us Q I r h
  obtain ⟨x, c, t, cv, b, rfl, hc, ty, e, q⟩ := h
  obtain ⟨u, u', rfl, rx, rc⟩ := vals2 r
  cases clsV_rel rc hc
  exact isinst_ok I rx ty e fun tk => ⟨.bl b, H, I.tok _, rfl, q⟩
theorem op_fdivB : OpR X (binaryOp .FloorDiv) (rI (fun _ j => 0 < j ∧ j.natAbs.log2 < 9000) fun i j => .int (i / j)) := opI fun i j _ _ _ _ _ hc q => by
  have h1 : (0 : Int) < j := hc.1
  exact floordiv_int (by omega) (by rw [Int.fdiv_eq_ediv_of_nonneg i (by omega)]; exact q) (.inl (PyProof.noPylong_of_log2 hc.2))
theorem op_mulB : OpR X (binaryOp .Mult) (rI (fun i j => Builtin.Int.intBits i ≤ 100000 ∧ Builtin.Int.intBits j ≤ 100000) fun i j => .int (i * j)) := opI fun _ _ _ _ _ _ _ hc q =>
  mul_int q (IntMulOk.of_bits (Nat.le_trans hc.1 (by decide)) (Nat.le_trans hc.2 (by decide)))
theorem op_shlB : OpR X (binaryOp .LShift) (rI (fun i j => 0 ≤ j ∧ j ≤ 100000 ∧ Builtin.Int.intBits i ≤ 100000) fun i j => .int (i * 2 ^ j.toNat)) := opI fun i j _ _ _ _ _ hc q =>
  lshift_int hc.1 (by have h1 := hc.2.1; have h2 : Builtin.Int.intBits i ≤ 100000 := hc.2.2; have h3 : (2 : Int) ^ 27 = 134217728 := by decide
                      rw [h3]; omega) q
end
theorem kit_int_int (K : PySem.W.Frag) : PySem.W.kitOne K (.type "int") (.type "int") = some true := rfl
theorem kit_int_bool (K : PySem.W.Frag) : PySem.W.kitOne K (.type "int") (.type "bool") = some false := by with_unfolding_all rfl
theorem kit_tup_tup (K : PySem.W.Frag) : PySem.W.kitOne K (.type "tuple") (.type "tuple") = some true := rfl
theorem kit_bl_int (K : PySem.W.Frag) : PySem.W.kitOne K (.type "bool") (.type "int") = some true := by with_unfolding_all rfl
theorem kit_bl_bl (K : PySem.W.Frag) : PySem.W.kitOne K (.type "bool") (.type "bool") = some true := rfl
theorem iteD {c A B : Prop} [Decidable c] (hc : c) (h : A) : if decide c = true then A else B := by
  rw [if_pos (decide_eq_true hc)]
  exact h
theorem iteDN {c A B : Prop} [Decidable c] (hc : ¬ c) (h : B) : if decide c = true then A else B := by
  rw [if_neg (by rw [decide_eq_false hc]; decide)]
  exact h
theorem iteN {c A B : Prop} [Decidable c] (hc : ¬ c) (h : A) : if (!decide c) = true then A else B := by
  rw [decide_eq_false hc]
  exact iteT h
theorem p1_pos (n : Nat) : (0 : Int) < 1 * 2 ^ n := by
  rw [Int.one_mul]
  exact Int.pow_pos (by decide)
theorem p_pos (n : Nat) : (0 : Int) < 2 ^ n := Int.pow_pos (by decide)
theorem p_mono {m n : Nat} (h : m ≤ n) : (2 : Int) ^ m ≤ 2 ^ n := by
  have e : n = m + (n - m) := by omega
  rw [e, Int.pow_add]
  have h1 := p_pos m
  have h2 : (1 : Int) ≤ 2 ^ (n - m) := p_pos (n - m)
  have h3 := Int.mul_le_mul_of_nonneg_left h2 (Int.le_of_lt h1)
  rw [Int.mul_one] at h3
  exact h3
def SameX (p : Addr) (H H' : Hp) : Prop := ∀ b o, b ≠ p → H b = some o → H' b = some o
theorem SameX.trans {p : Addr} {H H1 H2 : Hp} (a : SameX p H H1) (b : SameX p H1 H2) : SameX p H H2 := fun c o n h => b c o n (a c o n h)
theorem SameX.upd {p : Addr} {H : Hp} {o : HO} : SameX p H (upd H p o) := fun c u n h => by rw [upd_ne n]; exact h
theorem same_new {H : Hp} {p : Addr} (h : H p = none) (o : HO) : Same H (L2.upd H p o) := fun b u q => by rw [upd_ne (ne_of_none q h)]; exact q
theorem SameX.fresh {p : Addr} {H H1 : Hp} (h : H p = none) (a : SameX p H H1) : Same H H1 := fun b o q => a b o (ne_of_none q h) q
theorem getI (ns : List Int) (k : Nat) (h : k < ns.length) : atI (ns.map V.int) (k : Int) = some (.int ns[k]) := atI_nat (by rw [List.getElem?_map, List.getElem?_eq_getElem h] <;> rfl)
end Ow
namespace Ow
open PySem PySem.Spec PyProof.Rows L2
section
variable {X : Cx} {k : Nat} {x m : Str} {C : Addr} {p pos apos : Pos} {o e : Expr} {es : List Expr} {ta : TE} {t : TA}
end
end Ow
namespace Ow
open PySem PySem.Spec PyProof.Rows L2
def cxComp (X : Cx) (N : List Str) (scope : Scope) (cl : List (Str × Addr)) (C : Addr) (s2 : Shared) (H2 : Hp) (fp : List Addr) : Cx where
  prog := X.prog
  w := X.w
  K := X.K
  mg := X.mg
  base := X.base
  A := X.A
  N := N
  s₀ := s2
  H₀ := H2
  env := compEnvC scope cl C X.env
  outer := X.stack
  stack := X.stack
  ex := fp
  calm := true
  fn := fun _ => false
  pn := []
  xe := fun _ _ => False
def tComp (wi : TI) (te : TE) (cap : L2.St → L2.St) : TE := fun σ H Q => wi σ H fun J H1 => ∀ D, H1 D = none → ∃ W : Nat → Nat → Hp → Prop, (∃ m, W 0 m (upd H1 D (.lst []))) ∧ ∀ i m H, W i m H →
  (J.stop i H ∧ Q (.ref D) H) ∨ (J.go i H ∧ ∀ x H', J.yld i H x H' → te (some x :: cap σ) H' fun y H2 => ∃ ys, H2 D = some (.lst ys) ∧ ys.length < sizeLine ∧ ∃ m', m' < m ∧ W (i + 1) m' (upd H2 D (.lst (ys ++ [y]))))
section
variable {X : Cx} {elt iter : Expr} {x : Str} {px pos : Pos} {scope : Scope} {wi : TI} {te : TE} {N : List Str} {cl : List (Str × Addr)} {cap : L2.St → L2.St}
theorem pe_comp (hc : X.calm = true) (hclos : closureFor scope X.env = pure cl) (hsub : ∀ n c, cl.lookup n = some c → X.env.cells.lookup n = some c)
    (hcell : ∀ y ∈ scope.names, y.2 ≠ .cell) (hkind : scope.kind = .function) (hnames : ∀ y ∈ scope.names, y.2 = .local → scope.names.lookup y.1 = some .local) (hx : scope.names.lookup x = some .local)
    (hhas : ∀ y, (Env.kindOf (compEnvC scope cl 0 X.env) y = some .cell ∨ Env.kindOf (compEnvC scope cl 0 X.env) y = some .free) → ∃ c, cl.lookup y = some c)
    (hN : (x :: N).Nodup) (hcapl : ∀ σ, (cap σ).length = N.length)
    (hcap : ∀ (σ : L2.St) (i : Nat) (y : Str) (v : V), σ.length = X.N.length → N[i]? = some y → (cap σ)[i]? = some (some v) → (Env.kindOf (compEnvC scope cl 0 X.env) y = some .cell ∨ Env.kindOf (compEnvC scope cl 0 X.env) y = some .free) ∧ X.env.kindOf y = some .cell ∧ ∃ j : Nat, X.N[j]? = some y ∧ σ[j]? = some (some v))
    (hi : PI X (.Name x px) iter wi) (he : ∀ C s2 H2 fp, PE (cxComp X (x :: N) scope cl C s2 H2 fp) elt te)
    (hs : ∀ z, foldedSetIterable iter X.env z = pure z := by intro _; rfl) :
    PE X (.ListComp elt [⟨.Name x px, iter, [], 0⟩] scope pos) (tComp wi te cap) := by
  intro pins s σ H Q I h
  rw [eval_ListComp]
  refine wpAny_comprehension_free (use := none) rfl hs hclos hkind hnames (thn (hi pins s σ H _ I h) fun xv s1 h1 => thn h1 fun itv s2 h2 => ?_)
  obtain ⟨it, fp, tn, J, H2, e, I2, T, st2, f2, hW⟩ := h2
  subst e
  have hD : H2 s2.heap.objs.size = none := I2.hok.fresh (Nat.le_refl _)
  obtain ⟨W, ⟨m0, w0⟩, turn⟩ := hW s2.heap.objs.size hD
  refine wpAny_newObj_type (wpAny_newFunctionEnv hcell (by intro y hy; simp at hy) (fun h4 hns4 hsb4 => ?_) hkind) (by show 0 ≤ sizeLine; decide)
  dsimp only at hns4 hsb4 ⊢
  generalize hH3 : s2.heap.push { cls := .type "list", dict := none, data := .seq ([] : List Value).toArray } = H3 at hns4 hsb4 ⊢
  have hCz : H3.objs.size = s2.heap.objs.size + 1 := by rw [← hH3, Heap.size_push]
  have old3 : ∀ b o, s2.heap.get? b = some o → H3.get? b = some o := fun b o e => hH3 ▸ Heap.get?_push_of_some _ e
  have eD3 : H3.get? s2.heap.objs.size = some { cls := .type "list", dict := none, data := .seq ([] : List Value).toArray } := hH3 ▸ Heap.get?_push_size _ rfl
  have old4 : ∀ b o, H3.get? b = some o → h4.get? b = some o := fun b o e => hsb4.extBut b o (Nat.ne_of_lt (Heap.lt_size e)) (Heap.get?_push_of_some _ e)
  have old : ∀ b o, s2.heap.get? b = some o → h4.get? b = some o := fun b o e => old4 b o (old3 b o e)
  have szC : s2.heap.objs.size < H3.objs.size := by rw [hCz]; exact Nat.lt_succ_self _
  have fpC : ∀ b ∈ fp, b ≠ H3.objs.size := fun b hb => by
    obtain ⟨o, ho, _⟩ := T.obj 0 _ st2 b hb
    exact Nat.ne_of_lt (Nat.lt_trans (Heap.lt_size ho) szC)
  have ok' : (cxComp X (x :: N) scope cl H3.objs.size s2 H2 fp).Ok := by
    refine ⟨I2.ok.mod, hkind, I2.ok.glob, I2.ok.blt, (Nat.le_of_lt szC), fun a b c e1 e2 => I2.ok.inj a b c (hsub a c e1) (hsub b c e2), fun y hy => hhas y hy, fun y c z _ => absurd (show false = true from z) (by decide),
      fun _ => I2.ok.hd hc, I2.ok.frames, .inl rfl, fun b hb => ⟨fpC b hb, fun y c e => (f2 b hb).2.2.2.2.1 y c (hsub y c e)⟩, I2.bs, Nat.le_trans I2.ok.bsz I2.sz, fun b o e hb => ?_, fun b hb z => ?_, I2.stack, I2.stkFree⟩
    · rcases (f2 b hb).2.2.2.1 with q | q
      · exact I2.ok.noex b o e q
      · exact absurd (Nat.lt_of_lt_of_le (Heap.lt_size e) (Nat.le_trans I2.ok.bsz q)) (Nat.lt_irrefl _)
    · rcases List.mem_cons.mp (I2.stkSub b z) with q | q
      · exact (f2 b hb).2.1 q
      · exact (f2 b hb).2.2.1 q
  have okD : ObjOk X.prog X.w (upd H2 s2.heap.objs.size (.lst [])) h4 s2.heap.objs.size (.lst []) := ⟨Nat.zero_le _, [], 0, .nil, old4 _ _ eD3⟩
  have I4 : Inv (cxComp X (x :: N) scope cl H3.objs.size s2 H2 fp) [] (none :: cap σ) (upd H2 s2.heap.objs.size (.lst [])) { s2 with heap := h4, toks := s2.toks + ([] : List (Str × Value)).length } := by
    refine ⟨ok', rfl, I2.bare, Un.laid old (Nat.le_refl _) hD, ⟨_, hns4, fun i y v e1 e2 _ => ?_⟩, fun y c e => ?_, ?_, fun y c e => ?_, fun p hp => absurd hp (by show p ∉ ([] ++ [] : List (Addr × Obj)); simp), I2.hok.laid old (Nat.le_refl _) okD, ?_⟩
    · cases i with
      | zero => simp at e2
      | succ i =>
        obtain ⟨k1, k2, j, e3, e4⟩ := hcap σ i y v I2.len (show N[i]? = some y from e1) (show (cap σ)[i]? = some (some v) from e2)
        obtain ⟨m, _, hl⟩ := I2.loc
        obtain ⟨u, ru, lk⟩ := hl j y v e3 e4 (.inr (.inl k2))
        refine ⟨u, ru, .inr ⟨k1, ?_⟩⟩
        rcases lk with ⟨z, _⟩ | ⟨_, c, e5, hcl⟩
        · rw [k2] at z; cases z
        · obtain ⟨c', e6⟩ := hhas y k1
          have : c' = c := by
            have := hsub y c' e6
            rw [e5] at this
            exact (Option.some.inj this).symm
          subst this
          obtain ⟨oc, ho, hd⟩ := hcl
          exact ⟨c', e6, oc, old _ _ ho, hd⟩
    · obtain ⟨v, oc, ho, hd⟩ := I2.cell y c (hsub y c e)
      exact ⟨v, oc, old _ _ ho, hd⟩
    · show upd H2 s2.heap.objs.size (.lst []) H3.objs.size = none
      rw [upd_ne (Nat.ne_of_gt szC)]
      exact I2.hok.fresh (Nat.le_of_lt szC)
    · have h1 := I2.freeC y c (hsub y c e)
      obtain ⟨v, oc, ho, _⟩ := I2.cell y c (hsub y c e)
      rw [upd_ne (Nat.ne_of_lt (Heap.lt_size ho))]
      exact h1
    · show (none :: cap σ).length = (x :: N).length
      simp [hcapl]
  have stat : ∀ {H' : Hp}, (∀ b ∈ fp, H' b = none) → ∀ b ∈ fp, FpOk (cxComp X (x :: N) scope cl H3.objs.size s2 H2 fp) [] H' b := fun {H'} hn b hb =>
    ⟨hn b hb, (ok'.exf b hb).1, ok'.exfs b hb, .inl hb, (ok'.exf b hb).2, fun p hp => absurd hp (by show p ∉ ([] ++ [] : List (Addr × Obj)); simp)⟩
  have loop : codeAny (model X.prog X.w) X.A (.compLoop (.ListComp elt [⟨.Name x px, iter, [], 0⟩] scope pos) 0 (.ref it) (.ref s2.heap.objs.size) (compEnvC scope cl H3.objs.size X.env))
      (compPost (model X.prog X.w) X.A X.xe none (EP X pins σ Q) (.ref s2.heap.objs.size) H3.objs.size) { s2 with heap := h4, toks := s2.toks + ([] : List (Str × Value)).length } := by
    refine codeAny_compLoop_list (fun n s' => ∃ (i : Nat) (z0 : Option V) (H' : Hp), Inv (cxComp X (x :: N) scope cl H3.objs.size s2 H2 fp) [] (z0 :: cap σ) H' s' ∧ tn i s'.heap ∧ (∀ b ∈ fp, H' b = none) ∧ W i n H') ?_ m0
      ⟨0, none, _, I4, T.keep 0 _ _ st2 (fun b _ o e => old b o e), fun b hb => ?_, w0⟩
    · rintro n s5 ⟨i, z0, H5, I5, st5, fr5, w5⟩
      rcases turn i n H5 w5 with ⟨stop, qn⟩ | ⟨go, step⟩
      · refine wpAny_mono (T.done (cxComp X (x :: N) scope cl H3.objs.size s2 H2 fp) rfl rfl rfl rfl i [] s5 _ H5 _ I5 (stat fr5) st5 stop) (fun r s6 ⟨hr, I6⟩ => ?_) fun _ _ z => z
        subst hr
        obtain ⟨m, hn6, _⟩ := id I6.loc
        refine ⟨m, hn6, fun h' sb => ⟨.ref s2.heap.objs.size, H5, ?_, rfl, qn⟩⟩
        have kp : ∀ b o, b ≠ H3.objs.size → s6.heap.get? b = some o → h'.get? b = some o := fun b o hb e => sb.extBut b o hb e
        have nC : ∀ b o, s2.heap.get? b = some o → b ≠ H3.objs.size := fun b o e => Nat.ne_of_lt (Nat.lt_trans (Heap.lt_size e) szC)
        have fC : H5 H3.objs.size = none := I6.free
        refine I2.call' (ch := fp) (s' := { s6 with heap := h' }) I6.os ?_ ?_ I6.bare fun b hb => ⟨(f2 b hb).2.2.2.1, (f2 b hb).2.1, (f2 b hb).2.2.2.2.1, (f2 b hb).2.2.2.2.2⟩
        · have U : Un (frs X.stack) fp H2 H5 s2.heap s6.heap := I6.base
          exact ⟨fun b o e n1 n2 n3 => kp b o (nC b o e) (U.keep b o e n1 n2 n3), fun b o e n1 n2 n3 => by
              obtain ⟨sl, q⟩ := U.slot b o e n1 n2 n3
              exact ⟨sl, kp b _ (nC b o e) q⟩, U.free, fun b o e n3 => by
              obtain ⟨o', q⟩ := U.there b o e n3
              exact ⟨o', kp b _ (nC b o e) q⟩, U.tups, U.frzs, U.tbls⟩
        · intro b u e
          refine (I6.hok b u e).stay (fun c v hc q => kp c v (fun z => ?_) q) (fun _ q => q) fun _ _ q => q
          rcases hc with y | y
          · rw [← y, z, fC] at e
            cases e
          · rw [z, fC] at y
            cases y
      · refine wpAny_mono (T.item (cxComp X (x :: N) scope cl H3.objs.size s2 H2 fp) rfl rfl rfl rfl i [] s5 _ H5 _ I5 (stat fr5) st5 go) (fun r s6 ⟨u, hr, h6⟩ => ?_) fun _ _ z => z
        subst hr
        have key : (letOwnedTupleGo (.Name x px) (.ref it) u >>= fun _ => assign (.Name x px) (compEnvC scope cl H3.objs.size X.env) u) = assign (.Name x px) (compEnvC scope cl H3.objs.size X.env) u := by first | rfl | exact pure_bind _ _
        dsimp only
        rw [← key]
        refine wpAny_bind (wpAny_mono h6 (fun _ s7 ⟨v, H7, I7, r7, y7, st7, fr7⟩ => ?_) fun _ _ z => z)
        have I7' := I7.pinned (stat fr7) (T.obj _ _ st7)
        refine wpAny_assign_Name (store_ok (i := 0) I7' hN rfl (.inl (lookup_relabel_local hx)) r7 (fun s8 I8 => ?_) (.inr (lookup_relabel_local hx)))
        refine wpAny_mono (he H3.objs.size s2 H2 fp _ s8 (some v :: cap σ) H7 _ I8 (step v H7 y7)) (fun w9 s9 ⟨y, H9, I9, r9, ys, hys, hlt, m', hm, w9'⟩ => ?_) fun _ _ z => z.elim
        refine wpAny_mono (mt_append (X := cxComp X (x :: N) scope cl H3.objs.size s2 H2 fp) _ s9 _ H9 (.ref s2.heap.objs.size) [y] _ [w9] (fun _ Hn => Hn = upd H9 s2.heap.objs.size (.lst (ys ++ [y]))) I9 rfl (.cons r9 .nil) ⟨_, ys, y, rfl, rfl, hys, hlt, rfl⟩) (fun _ s10 ⟨_, H10, I10, _, e10⟩ => ?_) fun _ _ z => z.elim
        subst e10
        refine ⟨m', hm, i + 1, some v, _, I10.unpinned, T.keep _ _ _ st7 fun b hb o e => (I10.pin (b, o) (List.mem_append_right _ (List.mem_append_right _ (mem_pinsAt hb e)))).1, fun b hb => ?_, w9'⟩
        obtain ⟨o, e, d⟩ := T.obj _ _ st7 b hb
        exact (I10.pin (b, o) (List.mem_append_right _ (List.mem_append_right _ (mem_pinsAt hb e)))).2.1
    · obtain ⟨o, ho, _⟩ := T.obj 0 _ st2 b hb
      rw [upd_ne (Nat.ne_of_lt (Heap.lt_size ho))]
      exact (f2 b hb).1
  exact codeAny_compStart_list loop (T.self X.A 0 _ _ _ (T.keep 0 _ _ st2 (fun b _ o e => old b o e)) loop)
theorem pe_comp0 (hc : X.calm = true) (hclos : closureFor scope X.env = pure []) (hno : ∀ p ∈ scope.names, p.2 ≠ .cell ∧ p.2 ≠ .free) (hkind : scope.kind = .function)
    (hnames : ∀ y ∈ scope.names, y.2 = .local → scope.names.lookup y.1 = some .local) (hx : scope.names.lookup x = some .local)
    (hi : PI X (.Name x px) iter wi) (he : ∀ C s2 H2 fp, PE (cxComp X [x] scope [] C s2 H2 fp) elt te)
    (hs : ∀ z, foldedSetIterable iter X.env z = pure z := by intro _; rfl) :
    PE X (.ListComp elt [⟨.Name x px, iter, [], 0⟩] scope pos) (tComp wi te fun _ => []) := by
  refine pe_comp (N := []) (cl := []) hc hclos (fun _ _ e => nomatch e) (fun y hy => (hno y hy).1) hkind hnames hx (fun y hy => ?_) (by simp) (fun _ => rfl) (fun _ i y v _ e _ => by simp at e) hi he hs
  exfalso
  have sub : ∀ (l : List (Str × NameKind)), (∀ p ∈ l, p.2 ≠ .cell ∧ p.2 ≠ .free) → ∀ p ∈ (l.map fun (n, k) => if (k == NameKind.free && X.env.scope.kind == ScopeKind.function && X.env.kindOf n == some NameKind.cell) then (n, NameKind.cell) else (n, k)), p.2 ≠ .cell ∧ p.2 ≠ .free := by
    intro l hl p hp
    obtain ⟨q, hq, e⟩ := List.mem_map.mp hp
    have h1 := hl q hq
    obtain ⟨n, k⟩ := q
    have hf : (k == NameKind.free) = false := by
      cases k <;> first | rfl | exact absurd rfl h1.2
    rw [← e]
    dsimp only
    rw [hf, Bool.false_and, Bool.false_and, if_neg (by decide)]
    exact h1
  have mem : ∀ k, Env.kindOf (compEnvC scope [] 0 X.env) y = some k → k ≠ .cell ∧ k ≠ .free := fun k e => sub scope.names hno (y, k) (PySem.mem_of_lookup e)
  rcases hy with z | z
  · exact (mem _ z).1 rfl
  · exact (mem _ z).2 rfl
theorem ps_comp {i : Nat} {y : Str} {py spos : Pos} (hNX : X.N.Nodup) (hiy : X.N[i]? = some y) (hly : Loc X.env.scope y) (hsw : swapsWith (.ListComp elt [⟨.Name x px, iter, [], 0⟩] scope pos) (some (.Name y py)) spos.line X.env = pure true) (hc : X.calm = true) (hclos : closureFor scope X.env = pure cl) (hsub : ∀ n c, cl.lookup n = some c → X.env.cells.lookup n = some c)
    (hcell : ∀ y ∈ scope.names, y.2 ≠ .cell) (hkind : scope.kind = .function) (hnames : ∀ y ∈ scope.names, y.2 = .local → scope.names.lookup y.1 = some .local) (hx : scope.names.lookup x = some .local)
    (hhas : ∀ y, (Env.kindOf (compEnvC scope cl 0 X.env) y = some .cell ∨ Env.kindOf (compEnvC scope cl 0 X.env) y = some .free) → ∃ c, cl.lookup y = some c)
    (hN : (x :: N).Nodup) (hcapl : ∀ σ, (cap σ).length = N.length)
    (hcap : ∀ (σ : L2.St) (i : Nat) (y : Str) (v : V), σ.length = X.N.length → N[i]? = some y → (cap σ)[i]? = some (some v) → (Env.kindOf (compEnvC scope cl 0 X.env) y = some .cell ∨ Env.kindOf (compEnvC scope cl 0 X.env) y = some .free) ∧ X.env.kindOf y = some .cell ∧ ∃ j : Nat, X.N[j]? = some y ∧ σ[j]? = some (some v))
    (hi : PI X (.Name x px) iter wi) (he : ∀ C s2 H2 fp, PE (cxComp X (x :: N) scope cl C s2 H2 fp) elt te)
    (hs : ∀ z, foldedSetIterable iter X.env z = pure z := by intro _; rfl) (hf : X.fn y = true ∨ X.env.scope.names.lookup y = some .local := by first | exact .inl rfl | exact .inr rfl | assumption) :
    PS X (.Assign [.Name y py] (.ListComp elt [⟨.Name x px, iter, [], 0⟩] scope pos) spos) (tAsg (tComp wi te cap) (gName i)) := by
  intro pins s σ H DD I h
  rw [exec_Assign_Name_used _ _ _ _ hsw]
  refine wpAny_bind (wpAny_standAt (wpAny_bind ?_))
  show wpAny _ X.A (do let _ ← comprehension (.ListComp elt [⟨.Name x px, iter, [], 0⟩] scope pos) scope X.env _ (newList []) false (eval iter X.env) (some (assign (.Name y py) X.env))) _ _ s
  refine wpAny_bind (wpAny_mono (wpAny_comprehension_free (use := some (assign (.Name y py) X.env)) (Q := fun _ s' => SP X pins DD .next s') rfl hs hclos hkind hnames (thn (hi pins s σ H _ I h) fun xv s1 h1 => thn h1 fun itv s2 h2 => ?_)) (fun _ s' hq => wpAny_pure (wpAny_pure hq)) fun _ _ e => e)
  obtain ⟨it, fp, tn, J, H2, e, I2, T, st2, f2, hW⟩ := h2
  subst e
  have hD : H2 s2.heap.objs.size = none := I2.hok.fresh (Nat.le_refl _)
  obtain ⟨W, ⟨m0, w0⟩, turn⟩ := hW s2.heap.objs.size hD
  refine wpAny_newObj_type (wpAny_newFunctionEnv hcell (by intro y hy; simp at hy) (fun h4 hns4 hsb4 => ?_) hkind) (by show 0 ≤ sizeLine; decide)
  dsimp only at hns4 hsb4 ⊢
  generalize hH3 : s2.heap.push { cls := .type "list", dict := none, data := .seq ([] : List Value).toArray } = H3 at hns4 hsb4 ⊢
  have hCz : H3.objs.size = s2.heap.objs.size + 1 := by rw [← hH3, Heap.size_push]
  have old3 : ∀ b o, s2.heap.get? b = some o → H3.get? b = some o := fun b o e => hH3 ▸ Heap.get?_push_of_some _ e
  have eD3 : H3.get? s2.heap.objs.size = some { cls := .type "list", dict := none, data := .seq ([] : List Value).toArray } := hH3 ▸ Heap.get?_push_size _ rfl
  have old4 : ∀ b o, H3.get? b = some o → h4.get? b = some o := fun b o e => hsb4.extBut b o (Nat.ne_of_lt (Heap.lt_size e)) (Heap.get?_push_of_some _ e)
  have old : ∀ b o, s2.heap.get? b = some o → h4.get? b = some o := fun b o e => old4 b o (old3 b o e)
  have szC : s2.heap.objs.size < H3.objs.size := by rw [hCz]; exact Nat.lt_succ_self _
  have fpC : ∀ b ∈ fp, b ≠ H3.objs.size := fun b hb => by
    obtain ⟨o, ho, _⟩ := T.obj 0 _ st2 b hb
    exact Nat.ne_of_lt (Nat.lt_trans (Heap.lt_size ho) szC)
  have ok' : (cxComp X (x :: N) scope cl H3.objs.size s2 H2 fp).Ok := by
    refine ⟨I2.ok.mod, hkind, I2.ok.glob, I2.ok.blt, (Nat.le_of_lt szC), fun a b c e1 e2 => I2.ok.inj a b c (hsub a c e1) (hsub b c e2), fun y hy => hhas y hy, fun y c z _ => absurd (show false = true from z) (by decide),
      fun _ => I2.ok.hd hc, I2.ok.frames, .inl rfl, fun b hb => ⟨fpC b hb, fun y c e => (f2 b hb).2.2.2.2.1 y c (hsub y c e)⟩, I2.bs, Nat.le_trans I2.ok.bsz I2.sz, fun b o e hb => ?_, fun b hb z => ?_, I2.stack, I2.stkFree⟩
    · rcases (f2 b hb).2.2.2.1 with q | q
      · exact I2.ok.noex b o e q
      · exact absurd (Nat.lt_of_lt_of_le (Heap.lt_size e) (Nat.le_trans I2.ok.bsz q)) (Nat.lt_irrefl _)
    · rcases List.mem_cons.mp (I2.stkSub b z) with q | q
      · exact (f2 b hb).2.1 q
      · exact (f2 b hb).2.2.1 q
  have okD : ObjOk X.prog X.w (upd H2 s2.heap.objs.size (.lst [])) h4 s2.heap.objs.size (.lst []) := ⟨Nat.zero_le _, [], 0, .nil, old4 _ _ eD3⟩
  have I4 : Inv (cxComp X (x :: N) scope cl H3.objs.size s2 H2 fp) [] (none :: cap σ) (upd H2 s2.heap.objs.size (.lst [])) { s2 with heap := h4, toks := s2.toks + ([] : List (Str × Value)).length } := by
    refine ⟨ok', rfl, I2.bare, Un.laid old (Nat.le_refl _) hD, ⟨_, hns4, fun i y v e1 e2 _ => ?_⟩, fun y c e => ?_, ?_, fun y c e => ?_, fun p hp => absurd hp (by show p ∉ ([] ++ [] : List (Addr × Obj)); simp), I2.hok.laid old (Nat.le_refl _) okD, ?_⟩
    · cases i with
      | zero => simp at e2
      | succ i =>
        obtain ⟨k1, k2, j, e3, e4⟩ := hcap σ i y v I2.len (show N[i]? = some y from e1) (show (cap σ)[i]? = some (some v) from e2)
        obtain ⟨m, _, hl⟩ := I2.loc
        obtain ⟨u, ru, lk⟩ := hl j y v e3 e4 (.inr (.inl k2))
        refine ⟨u, ru, .inr ⟨k1, ?_⟩⟩
        rcases lk with ⟨z, _⟩ | ⟨_, c, e5, hcl⟩
        · rw [k2] at z; cases z
        · obtain ⟨c', e6⟩ := hhas y k1
          have : c' = c := by
            have := hsub y c' e6
            rw [e5] at this
            exact (Option.some.inj this).symm
          subst this
          obtain ⟨oc, ho, hd⟩ := hcl
          exact ⟨c', e6, oc, old _ _ ho, hd⟩
    · obtain ⟨v, oc, ho, hd⟩ := I2.cell y c (hsub y c e)
      exact ⟨v, oc, old _ _ ho, hd⟩
    · show upd H2 s2.heap.objs.size (.lst []) H3.objs.size = none
      rw [upd_ne (Nat.ne_of_gt szC)]
      exact I2.hok.fresh (Nat.le_of_lt szC)
    · have h1 := I2.freeC y c (hsub y c e)
      obtain ⟨v, oc, ho, _⟩ := I2.cell y c (hsub y c e)
      rw [upd_ne (Nat.ne_of_lt (Heap.lt_size ho))]
      exact h1
    · show (none :: cap σ).length = (x :: N).length
      simp [hcapl]
  have stat : ∀ {H' : Hp}, (∀ b ∈ fp, H' b = none) → ∀ b ∈ fp, FpOk (cxComp X (x :: N) scope cl H3.objs.size s2 H2 fp) [] H' b := fun {H'} hn b hb =>
    ⟨hn b hb, (ok'.exf b hb).1, ok'.exfs b hb, .inl hb, (ok'.exf b hb).2, fun p hp => absurd hp (by show p ∉ ([] ++ [] : List (Addr × Obj)); simp)⟩
  have loop : codeAny (model X.prog X.w) X.A (.compLoop (.ListComp elt [⟨.Name x px, iter, [], 0⟩] scope pos) 0 (.ref it) (.ref s2.heap.objs.size) (compEnvC scope cl H3.objs.size X.env))
      (compPost (model X.prog X.w) X.A X.xe (some (assign (.Name y py) X.env)) (fun _ s' => SP X pins DD .next s') (.ref s2.heap.objs.size) H3.objs.size) { s2 with heap := h4, toks := s2.toks + ([] : List (Str × Value)).length } := by
    refine codeAny_compLoop_list (fun n s' => ∃ (i : Nat) (z0 : Option V) (H' : Hp), Inv (cxComp X (x :: N) scope cl H3.objs.size s2 H2 fp) [] (z0 :: cap σ) H' s' ∧ tn i s'.heap ∧ (∀ b ∈ fp, H' b = none) ∧ W i n H') ?_ m0
      ⟨0, none, _, I4, T.keep 0 _ _ st2 (fun b _ o e => old b o e), fun b hb => ?_, w0⟩
    · rintro n s5 ⟨i, z0, H5, I5, st5, fr5, w5⟩
      rcases turn i n H5 w5 with ⟨stop, qn⟩ | ⟨go, step⟩
      · refine wpAny_mono (T.done (cxComp X (x :: N) scope cl H3.objs.size s2 H2 fp) rfl rfl rfl rfl i [] s5 _ H5 _ I5 (stat fr5) st5 stop) (fun r s6 ⟨hr, I6⟩ => ?_) fun _ _ z => z
        subst hr
        obtain ⟨m, hn6, _⟩ := id I6.loc
        have I6X : Inv X pins σ H5 s6 := I2.call' (ch := fp) (s' := s6) I6.os I6.base I6.hok I6.bare fun b hb => ⟨(f2 b hb).2.2.2.1, (f2 b hb).2.1, (f2 b hb).2.2.2.2.1, (f2 b hb).2.2.2.2.2⟩
        have fC : H5 H3.objs.size = none := I6.free
        have nL : H3.objs.size ≠ X.env.locals := Ne.symm (Nat.ne_of_lt (Nat.lt_trans I2.lt szC))
        have nCl : ∀ z c, X.env.cells.lookup z = some c → c ≠ H3.objs.size := fun z c e => by
          obtain ⟨v, oc, ho, _⟩ := I2.cell z c e
          exact Nat.ne_of_lt (Nat.lt_trans (Heap.lt_size ho) szC)
        refine wpAny_assign_Name (store_ok2 I6X hNX hiy hly (v := .ref s2.heap.objs.size) rfl (fun s7 I7 ⟨ad, sb7, had⟩ => ?_) hf)
        have nA : H3.objs.size ≠ ad := by
          rcases had with e | e
          · rw [e]; exact nL
          · exact Ne.symm (nCl _ _ e)
        refine ⟨m, hn6.sameBut sb7 nA, fun h' sb => ⟨_, H5, ?_, qn⟩⟩
        refine I7.turned (it := H3.objs.size) (t' := s7.toks) (fun b o hb e => sb.extBut b o hb e) fC nL (.inr (Nat.le_trans I2.sz (Nat.le_of_lt szC))) nCl fun p hp => ?_
        exact Nat.ne_of_lt (Nat.lt_trans (Heap.lt_size (I2.pin p hp).1) szC)
      · refine wpAny_mono (T.item (cxComp X (x :: N) scope cl H3.objs.size s2 H2 fp) rfl rfl rfl rfl i [] s5 _ H5 _ I5 (stat fr5) st5 go) (fun r s6 ⟨u, hr, h6⟩ => ?_) fun _ _ z => z
        subst hr
        have key : (letOwnedTupleGo (.Name x px) (.ref it) u >>= fun _ => assign (.Name x px) (compEnvC scope cl H3.objs.size X.env) u) = assign (.Name x px) (compEnvC scope cl H3.objs.size X.env) u := by first | rfl | exact pure_bind _ _
        dsimp only
        rw [← key]
        refine wpAny_bind (wpAny_mono h6 (fun _ s7 ⟨v, H7, I7, r7, y7, st7, fr7⟩ => ?_) fun _ _ z => z)
        have I7' := I7.pinned (stat fr7) (T.obj _ _ st7)
        refine wpAny_assign_Name (store_ok (i := 0) I7' hN rfl (.inl (lookup_relabel_local hx)) r7 (fun s8 I8 => ?_) (.inr (lookup_relabel_local hx)))
        refine wpAny_mono (he H3.objs.size s2 H2 fp _ s8 (some v :: cap σ) H7 _ I8 (step v H7 y7)) (fun w9 s9 ⟨yv, H9, I9, r9, ys, hys, hlt, m', hm, w9'⟩ => ?_) fun _ _ z => z.elim
        refine wpAny_mono (mt_append (X := cxComp X (x :: N) scope cl H3.objs.size s2 H2 fp) _ s9 _ H9 (.ref s2.heap.objs.size) [yv] _ [w9] (fun _ Hn => Hn = upd H9 s2.heap.objs.size (.lst (ys ++ [yv]))) I9 rfl (.cons r9 .nil) ⟨_, ys, yv, rfl, rfl, hys, hlt, rfl⟩) (fun _ s10 ⟨_, H10, I10, _, e10⟩ => ?_) fun _ _ z => z.elim
        subst e10
        refine ⟨m', hm, i + 1, some v, _, I10.unpinned, T.keep _ _ _ st7 fun b hb o e => (I10.pin (b, o) (List.mem_append_right _ (List.mem_append_right _ (mem_pinsAt hb e)))).1, fun b hb => ?_, w9'⟩
        obtain ⟨o, e, d⟩ := T.obj _ _ st7 b hb
        exact (I10.pin (b, o) (List.mem_append_right _ (List.mem_append_right _ (mem_pinsAt hb e)))).2.1
    · obtain ⟨o, ho, _⟩ := T.obj 0 _ st2 b hb
      rw [upd_ne (Nat.ne_of_lt (Heap.lt_size ho))]
      exact (f2 b hb).1
  exact codeAny_compStart_list loop (T.self X.A 0 _ _ _ (T.keep 0 _ _ st2 (fun b _ o e => old b o e)) loop)
theorem ps_comp0 {i : Nat} {y : Str} {py spos : Pos} (hNX : X.N.Nodup) (hiy : X.N[i]? = some y) (hly : Loc X.env.scope y) (hsw : swapsWith (.ListComp elt [⟨.Name x px, iter, [], 0⟩] scope pos) (some (.Name y py)) spos.line X.env = pure true) (hc : X.calm = true) (hclos : closureFor scope X.env = pure []) (hno : ∀ p ∈ scope.names, p.2 ≠ .cell ∧ p.2 ≠ .free) (hkind : scope.kind = .function)
    (hnames : ∀ y ∈ scope.names, y.2 = .local → scope.names.lookup y.1 = some .local) (hx : scope.names.lookup x = some .local)
    (hi : PI X (.Name x px) iter wi) (he : ∀ C s2 H2 fp, PE (cxComp X [x] scope [] C s2 H2 fp) elt te)
    (hs : ∀ z, foldedSetIterable iter X.env z = pure z := by intro _; rfl) (hf : X.fn y = true ∨ X.env.scope.names.lookup y = some .local := by first | exact .inl rfl | exact .inr rfl | assumption) :
    PS X (.Assign [.Name y py] (.ListComp elt [⟨.Name x px, iter, [], 0⟩] scope pos) spos) (tAsg (tComp wi te fun _ => []) (gName i)) := by
  refine ps_comp hNX hiy hly hsw (N := []) (cl := []) hc hclos (fun _ _ e => nomatch e) (fun z hy => (hno z hy).1) hkind hnames hx (fun z0 hy => ?_) (by simp) (fun _ => rfl) (fun _ i y v _ e _ => by simp at e) hi he hs hf
  exfalso
  have sub : ∀ (l : List (Str × NameKind)), (∀ p ∈ l, p.2 ≠ .cell ∧ p.2 ≠ .free) → ∀ p ∈ (l.map fun (n, k) => if (k == NameKind.free && X.env.scope.kind == ScopeKind.function && X.env.kindOf n == some NameKind.cell) then (n, NameKind.cell) else (n, k)), p.2 ≠ .cell ∧ p.2 ≠ .free := by
    intro l hl p hp
    obtain ⟨q, hq, e⟩ := List.mem_map.mp hp
    have h1 := hl q hq
    obtain ⟨n, k⟩ := q
    have hf : (k == NameKind.free) = false := by
      cases k <;> first | rfl | exact absurd rfl h1.2
    rw [← e]
    dsimp only
    rw [hf, Bool.false_and, Bool.false_and, if_neg (by decide)]
    exact h1
  have mem : ∀ k, Env.kindOf (compEnvC scope [] 0 X.env) z0 = some k → k ≠ .cell ∧ k ≠ .free := fun k e => sub scope.names hno (z0, k) (PySem.mem_of_lookup e)
  rcases hy with z | z
  · exact (mem _ z).1 rfl
  · exact (mem _ z).2 rfl
theorem comp_list {K : PySem.W.Frag} {a D : Addr} {xs : List V} {te' : TE} {tl : L2.St} {G : Hp → Prop} {H1 : Hp} (Pv : Nat → Hp → Prop) (h0 : Pv 0 (upd H1 D (.lst []))) (hl : ∀ i H, i ≤ xs.length → Pv i H → SqL K H a xs)
    (hs : ∀ i x H, xs[i]? = some x → Pv i H → te' (some x :: tl) H fun y H2 => ∃ ys, H2 D = some (.lst ys) ∧ ys.length < sizeLine ∧ ∃ m', m' < xs.length - i ∧ (m' = xs.length - (i + 1) ∧ i + 1 ≤ xs.length ∧ Pv (i + 1) (upd H2 D (.lst (ys ++ [y])))))
    (hd : ∀ H, Pv xs.length H → G H) :
    ∃ W : Nat → Nat → Hp → Prop, (∃ m, W 0 m (upd H1 D (.lst []))) ∧ ∀ i m H, W i m H →
      ((Itl K a).stop i H ∧ G H) ∨ ((Itl K a).go i H ∧ ∀ x H', (Itl K a).yld i H x H' → te' (some x :: tl) H' fun y H2 => ∃ ys, H2 D = some (.lst ys) ∧ ys.length < sizeLine ∧ ∃ m', m' < m ∧ W (i + 1) m' (upd H2 D (.lst (ys ++ [y])))) := by
  refine ⟨fun i m H => m = xs.length - i ∧ i ≤ xs.length ∧ Pv i H, ⟨xs.length, by simp, Nat.zero_le _, h0⟩, ?_⟩
  rintro i m H ⟨rfl, hi, p⟩
  have q := hl i H hi p
  by_cases hlt : i < xs.length
  · refine .inr ⟨⟨xs, xs[i], q, by simp [hlt]⟩, fun x H' y => ?_⟩
    obtain ⟨e, y⟩ := y
    subst e
    exact hs i x _ (y xs q) p
  · have e : i = xs.length := by omega
    subst e
    exact .inl ⟨⟨xs, q, Nat.le_refl _⟩, hd H p⟩
end
def tJoin (t u : TS) : TS := fun D σ H => ∃ J : L2.St → Hp → Prop, t { D with nx := J } σ H ∧ ∀ σ' H', J σ' H' → u D σ' H'
theorem pss_join {X : Cx} {st : Stmt} {rest : List Stmt} {t u : TS} (h1 : PS X st t) (h2 : PSs X rest u) : PSs X (st :: rest) (tJoin t u) := by
  intro pins s σ H D I h
  obtain ⟨J, h, hJ⟩ := h
  refine wpAny_execs_cons (thn (h1 pins s σ H { D with nx := J } I h) fun f s1 q => ?_)
  cases f with
  | next =>
    obtain ⟨σ', H', I', q⟩ := q
    exact h2 pins s1 σ' H' D I' (hJ _ _ q)
  | ret v => exact q
  | brk => exact q
  | cont => exact q
end Ow
namespace Ow
open PySem PySem.Spec PyProof.Rows L2
section
variable {X : Cx}
theorem vals_at {xs : List V} {us : List Value} (r : Vals xs us) {j : Nat} (h1 : j < us.length) : RelV (xs.getD j .non) us[j] := by
  have hl := r.length
  have hj : j < xs.length := by omega
  obtain ⟨u, hu, ru⟩ := r.get (i := j) (x := xs[j]) (List.getElem?_eq_getElem hj)
  rw [List.getElem?_eq_getElem h1] at hu
  rw [List.getD_eq_getElem?_getD, List.getElem?_eq_getElem hj]
  cases hu
  exact ru
def rEq0 (K : PySem.W.Frag) (neg : Bool) : R2 := fun x y H Q => ∃ p q xs, x = .ref p ∧ y = .ref q ∧ SqL K H p xs ∧ SqL K H q [] ∧ Q (.bl (if neg then !xs.isEmpty else xs.isEmpty)) H
theorem op_eq0 (hu : X.A.units < cLine) : OpR X (compareOp .Eq) (rEq0 X.K false) := by
  intro pins s σ H x y v u Q I rx ry h
  obtain ⟨p, q, xs, rfl, rfl, hp, hq, k⟩ := h
  cases rx
  cases ry
  obtain ⟨its, r, pl, hz⟩ := I.list hp
  obtain ⟨its2, r2, pl2, hz2⟩ := I.list hq
  cases r2
  have hl := r.length
  cases xs with
  | nil =>
    cases r
    exact SeqAt.eq_listAt (e := fun _ => true) pl.isList pl2.isList rfl hu (fun j h1 _ => absurd h1 (by simp)) ⟨.bl _, H, I, rfl, k⟩
  | cons z zs =>
    refine SeqAt.eq_list_lengthsAt pl.isList pl2.isList ?_ hu ⟨.bl _, H, I, rfl, k⟩
    rw [List.length_cons] at hl
    simp only [List.size_toArray, ← hl]
    rfl
theorem op_ne0 (hu : X.A.units < cLine) : OpR X (compareOp .NotEq) (rEq0 X.K true) := by
  intro pins s σ H x y v u Q I rx ry h
  obtain ⟨p, q, xs, rfl, rfl, hp, hq, k⟩ := h
  cases rx
  cases ry
  obtain ⟨its, r, pl, hz⟩ := I.list hp
  obtain ⟨its2, r2, pl2, hz2⟩ := I.list hq
  cases r2
  have hl := r.length
  cases xs with
  | nil =>
    cases r
    exact SeqAt.RcNeAt.lists (e := fun _ => true) pl.isList pl2.isList rfl hu (fun j h1 _ => absurd h1 (by simp)) X.prog X.w X.xe _ ⟨.bl _, H, I, rfl, k⟩
  | cons z zs =>
    refine SeqAt.RcNeAt.lists_lengths pl.isList pl2.isList ?_ hu X.prog X.w X.xe _ ⟨.bl _, H, I, rfl, k⟩
    rw [List.length_cons] at hl
    simp only [List.size_toArray, ← hl]
    rfl
def tRev (K : PySem.W.Frag) (te : TE) : TE := fun σ H Q => te σ H fun x H1 => ∃ a xs, x = .ref a ∧ SqL K H1 a xs ∧ ∀ p, H1 p = none → Q (.ref p) (upd H1 p (.lst xs.reverse))
theorem pe_rev {e : Expr} {te : TE} {j : Nat} {p1 p2 p3 pos : Pos} (he : PE X e te) : PE X (.Subscript e (.Slice none none (some (.UnaryOp .USub (.Constant (.int 1) j p1) p3)) p2) pos) (tRev X.K te) := by
  intro pins s σ H Q I h
  refine Subscript_ (thn (he pins s σ H _ I h) fun v s1 ⟨x, H1, I1, r1, a, xs, ex, hx, q⟩ => ?_)
  subst ex
  cases r1
  refine wpAny_Slice ?_
  rw [evalPart_none]
  refine wpAny_pure (wpAny_pure ?_)
  rw [evalPart_some]
  refine thn ((pe_un un_neg pe_int : PE X (.UnaryOp .USub (.Constant (.int 1) j p1) p3) _) pins s1 σ H1 (fun z Hz => z = .int (-1) ∧ Hz = H1) I1 ⟨_, rfl, rfl, rfl⟩) fun vk s2 ⟨z, H2, I2, rz, ez, eH⟩ => ?_
  subst ez eH
  obtain ⟨tk, rfl⟩ := rz
  obtain ⟨its, r, ht, hz⟩ := I2.list hx
  have hlen := r.length
  have I4 : Inv X pins σ H2 { s2 with heap := s2.heap.push { cls := .type "slice", data := .fields #[.none, .none, .int (-1) tk] } } := I2.kept (t' := s2.toks) fun b ob q => Heap.get?_push_of_some _ q
  obtain ⟨its', r', ht', hz'⟩ := I4.list hx
  show wpAny (model X.prog X.w) X.A (subscriptTail e (.Slice none none (some (.UnaryOp .USub (.Constant (.int 1) j p1) p3)) p2) (.ref a) (.ref s2.heap.objs.size)) (EP X pins σ Q) X.xe { s2 with heap := s2.heap.push { cls := .type "slice", data := .fields #[.none, .none, .int (-1) tk] } }
  have hlen' := r'.length
  refine tail_any (ops := [.ref a, .ref s2.heap.objs.size]) ht'.isList.typeIs slot_list_getitem.lookup (wpAny_getItem_list_slice ht'.isList (Heap.IsSliceOf.new ..) .none .none (.int (-1) tk) (by decide) ?_ (by rw [List.size_toArray] <;> omega)) (by with_unfolding_all rfl)
  rw [PySem.W.krv_pick]
  refine ⟨.ref (s2.heap.push { cls := .type "slice", data := .fields #[.none, .none, .int (-1) tk] }).objs.size, _, I4.laid (t' := s2.toks) (o := .lst xs.reverse) (fun b ob q => Heap.get?_push_of_some _ q) (Nat.le_refl _) ?_, rfl, q _ (I4.hok.fresh (Nat.le_refl _))⟩
  refine ⟨by rw [List.length_reverse]; exact hz, its'.reverse, 0, L2.Vals.reverse r', ?_⟩
  exact Heap.get?_push_size _ rfl
end
end Ow
namespace Ow
open PySem PySem.Spec PyProof.Rows L2
section
variable {X : Cx}
def rAddL (K : PySem.W.Frag) : R2 := fun x y H Q => ∃ a b xs ys, x = .ref a ∧ y = .ref b ∧ SqL K H a xs ∧ SqL K H b ys ∧ xs.length + ys.length ≤ sizeLine ∧ ∀ p, H p = none → Q (.ref p) (upd H p (.lst (xs ++ ys)))
theorem op_addL : OpR X (binaryOp .Add) (rAddL X.K) := by
  intro pins s σ H x y v u Q I rx ry h
  obtain ⟨a, b, xs, ys, rfl, rfl, ha, hb, hz, q⟩ := h
  cases rx
  cases ry
  obtain ⟨its, r, pl, _⟩ := I.list ha
  obtain ⟨its2, r2, pl2, _⟩ := I.list hb
  have hl := r.length
  have hl2 := r2.length
  obtain ⟨⟨cls, dd, data, sl⟩, ho, hc, n, hd⟩ := id pl.isList
  obtain ⟨⟨cls2, dd2, data2, sl2⟩, ho2, hc2, n2, hd2⟩ := id pl2.isList
  simp only at hc hd hc2 hd2
  subst hc hd hc2 hd2
  have e : its.toArray ++ its2.toArray = (its ++ its2).toArray := by simp
  refine concat_meets ⟨_, ho, rfl⟩ ⟨_, ho2, rfl⟩ noFill_list_add seq_list_add PySem.F.slot_list_add PySem.F.entry_list_add (PySem.F.args_list_add_2 _ _) (list_addW a b its.toArray its2.toArray n n2 dd dd2 sl sl2 (by simp; omega)) ⟨ho, ho2, ?_⟩
  rw [e]
  exact ⟨.ref s.heap.objs.size, _, I.lnew (t' := s.toks) (r.append r2) (by rw [List.length_append]; exact hz), rfl, q _ I.fresh⟩
def Itd (lo : Int) (n : Nat) : It := ⟨fun i _ => i < n, fun i H x H' => H' = H ∧ x = .int (lo - i), fun i _ => n ≤ i⟩
theorem turn_down {P : Program} {w : World} {K : PySem.W.Frag} {tg : Expr} (it : Addr) (lo : Int) (n : Nat) : Turn P w K tg (Itd lo n) [it] it (fun i h => IsRangeIter h it (lo + (i : Nat) * (-1)) ((n : Int) - (i : Nat)) (-1)) where
  mem := by simp
  obj := fun i h st b hb => by
    have e : b = it := by simpa using hb
    subst e
    exact ⟨_, st, fun v z => by
      have z' : Data.fields _ = Data.cell v := z
      cases z'⟩
  keep := fun i h h' st k => k it (by simp) _ st
  item := by
    intro X hP hw hK hc i pins s σ H E I hf st hg
    subst hP hw hK
    obtain ⟨f0, f1, f2, f3, f4, f5⟩ := hf it (by simp)
    have W := Walks.range (prog := X.prog) (w := X.w) (I.ok.hd hc) it lo (-1) n
    refine W.item i s _ _ hg st fun v h' tk hv st' kk => ?_
    obtain ⟨t, rfl⟩ := hv
    have I1 : Inv X pins σ H { s with heap := h', toks := tk } := I.turned (fun b o hb e => kk b o (by simpa using hb) e) f0 f1 f3 f4 f5
    refine ⟨_, rfl, go_of (s := { s with heap := h', toks := tk }) (n := "range_iterator") st' rfl rfl (by decide) ⟨.int (lo - i), H, I1, ⟨t, ?_⟩, ⟨rfl, rfl⟩, st', fun b hb => (hf b hb).1⟩⟩
    rw [Int.mul_neg, Int.mul_one]
    rfl
  done := by
    intro X hP hw hK hc i pins s σ H E I hf st hg
    subst hP hw hK
    obtain ⟨f0, f1, f2, f3, f4, f5⟩ := hf it (by simp)
    exact wpAny_pyNext_range_end (I.ok.hd hc) st (by have : n ≤ i := hg; omega) fun h' eb => ⟨rfl, I.turned (t' := s.toks) (fun b o hb e => eb b o hb e) f0 f1 f3 f4 f5⟩
  self := fun _ _ _ _ _ st h => wpAny_pyIter_rangeiter st h
theorem rangeSize_down {a : Int} (ha : -1 ≤ a) : Builtin.Range.rangeSize a (-1) (-1) = a + 1 := by
  unfold Builtin.Range.rangeSize
  rw [if_neg (by decide)]
  have e : -(-1 : Int) = 1 := by decide
  rw [e, Int.ediv_one]
  split <;> omega
theorem small_down {a : Int} (ha : -1 ≤ a) (ha' : a < 2 ^ 62) : Builtin.Range.small a (-1) (-1) = true := by
  unfold Builtin.Range.small
  rw [rangeSize_down ha]
  simp only [Builtin.Range.rangeFitsLong, Bool.and_eq_true, Bool.or_eq_true, decide_eq_true_eq, beq_iff_eq, show ((-1 : Int) > 0) = False from by simp, if_false]
  omega
variable {tg : Expr}
def iDown (ta : TA) : TI := fun σ H R => ta σ H fun vs H1 => ∃ i : Int, vs = [.int i, .int (-1), .int (-1)] ∧ -1 ≤ i ∧ i < 2 ^ 62 ∧ R (Itd i (i + 1).toNat) H1
theorem down_it {pins : List (Addr × Obj)} {σ : L2.St} {H : Hp} {s : Shared} {R : It → Hp → Prop} {E : Value → Shared → Prop} {lo : Int} {t u v : Tok} {tk : Nat} (I : Inv X pins σ H s) (h1 : -1 ≤ lo) (h2 : lo < 2 ^ 62)
    (q : R (Itd lo (lo + 1).toNat) H) : wpAny (model X.prog X.w) X.A (pyIter (.ref s.heap.objs.size)) (PIE X pins σ tg R) E { s with heap := s.heap.push { cls := .type "range", data := .fields #[.int lo t, .int (-1) u, .int (-1) v] }, toks := tk } := by
  refine wpAny_pyIter_range (IsRange.new ..) (small_down h1 h2) ?_
  have I1 : Inv X pins σ H { s with heap := s.heap.push { cls := .type "range", data := .fields #[.int lo t, .int (-1) u, .int (-1) v] }, toks := tk } := I.kept fun b o e => Heap.get?_push_of_some _ e
  refine ⟨(s.heap.push { cls := .type "range", data := .fields #[.int lo t, .int (-1) u, .int (-1) v] }).objs.size, [(s.heap.push { cls := .type "range", data := .fields #[.int lo t, .int (-1) u, .int (-1) v] }).objs.size], _, _, H, rfl,
    I1.kept (t' := tk) fun b o e => Heap.get?_push_of_some _ e, turn_down _ lo (lo + 1).toNat, ?_, fun b hb => ?_, q⟩
  · have e1 : lo + ((0 : Nat) : Int) * (-1) = lo := by simp
    have e2 : (((lo + 1).toNat : Nat) : Int) - ((0 : Nat) : Int) = Builtin.Range.rangeSize lo (-1) (-1) := by rw [rangeSize_down h1]; omega
    show IsRangeIter _ _ (lo + ((0 : Nat) : Int) * (-1)) ((((lo + 1).toNat : Nat) : Int) - ((0 : Nat) : Int)) (-1)
    rw [e1, e2]
    exact Heap.get?_push_size _ rfl
  · have e : b = (s.heap.push { cls := .type "range", data := .fields #[.int lo t, .int (-1) u, .int (-1) v] }).objs.size := by simpa using hb
    subst e
    exact I1.fpOk (Nat.le_refl _) (I1.hok.fresh (Nat.le_refl _))
theorem pi_down {a b c : Expr} {ta : TA} {p pos : Pos} (hg : Gl X "range") (hm : X.mg "range" = none) (ha : PA X [a, b, c] ta) (hs : starEach [a, b, c] X.env = [(false, eval a X.env), (false, eval b X.env), (false, eval c X.env)] := by rfl) (hs2 : starEach [b, c] X.env = [(false, eval b X.env), (false, eval c X.env)] := by rfl) :
    PI X tg (.Call (.Name "range" p) [a, b, c] [] pos) (iDown ta) := by
  intro pins s σ H R I h
  refine Call_ (ld_blt I hg hm boot_range (PyProof.Rows.callWith_type1 (thn (ha pos pins s σ H _ I h) fun us s1 ⟨vs, H1, I1, r1, q1⟩ => ?_) (by rw [hs, hs2]) (by rw [hs2]; rfl)))
  obtain ⟨i, e, q1, q2, q⟩ := q1
  subst e
  cases r1 with
  | cons r rr =>
    cases rr with
    | cons r' rr =>
      cases rr with
      | cons r'' rr =>
        cases rr
        obtain ⟨t, rfl⟩ := r
        obtain ⟨t', rfl⟩ := r'
        obtain ⟨t'', rfl⟩ := r''
        exact call_range_3 (by decide) (down_it I1 q1 q2 q) (.inl (PyProof.noPylong_of_log2 (by decide)))
theorem for_down {lo : Int} {n : Nat} {g : TG} {tb : TS} {D : Ends} {σ : L2.St} {H : Hp} (Pv : Nat → L2.St → Hp → Prop) (h0 : Pv 0 σ H)
    (hs : ∀ i σ H, i < n → Pv i σ H → g (.int (lo - i)) σ H fun σ2 H2 => tb { D with nx := Pv (i + 1), ct := Pv (i + 1), bk := D.nx } σ2 H2) (hd : ∀ σ H, Pv n σ H → D.nx σ H) :
    ∃ W : Nat → Nat → L2.St → Hp → Prop, (∃ m, W 0 m σ H) ∧ ∀ i m σ H, W i m σ H →
      ((Itd lo n).stop i H ∧ D.nx σ H) ∨ ((Itd lo n).go i H ∧ ∃ N : L2.St → Hp → Prop, (∀ σ' H', N σ' H' → ∃ m', m' < m ∧ W (i + 1) m' σ' H') ∧ ∀ x H', (Itd lo n).yld i H x H' → g x σ H' fun σ2 H2 => tb { D with nx := N, ct := N, bk := D.nx } σ2 H2) := by
  refine ⟨fun i m σ H => m = n - i ∧ i ≤ n ∧ Pv i σ H, ⟨n, by simp, Nat.zero_le _, h0⟩, ?_⟩
  rintro i m σ H ⟨rfl, hi, p⟩
  by_cases hlt : i < n
  · refine .inr ⟨hlt, Pv (i + 1), fun σ' H' p' => ⟨n - (i + 1), by omega, rfl, hlt, p'⟩, fun x H' y => ?_⟩
    obtain ⟨e, y⟩ := y
    subst e y
    exact hs i σ _ hlt p
  · have e : i = n := by omega
    subst e
    exact .inl ⟨Nat.le_refl _, hd σ H p⟩
inductive EqD (K : PySem.W.Frag) (H : Hp) : Nat → V → V → Bool → Prop where
  | flat {d : Nat} {x y : V} (fx : flatV x = true) (fy : flatV y = true) : EqD K H d x y (eqV x y)
  | tup {d : Nat} {p q : Addr} {xs ys : List V} {e : Nat → Bool} (hn : p ≠ q) (hx : SqT K H p xs) (hy : SqT K H q ys) (he : ∀ j, j < xs.length → j < ys.length → EqD K H d (xs.getD j .non) (ys.getD j .non) (e j)) :
      EqD K H (d + 1) (.ref p) (.ref q) ((List.range (min xs.length ys.length)).all e && xs.length == ys.length)
  | lst {d : Nat} {p q : Addr} {xs ys : List V} {e : Nat → Bool} (hn : p ≠ q) (hx : SqL K H p xs) (hy : SqL K H q ys) (hl : xs.length = ys.length) (he : ∀ j, j < xs.length → EqD K H d (xs.getD j .non) (ys.getD j .non) (e j)) :
      EqD K H (d + 1) (.ref p) (.ref q) ((List.range xs.length).all e)
  | same {d : Nat} {p : Addr} : EqD K H d (.ref p) (.ref p) true
theorem EqD.at {pins : List (Addr × Obj)} {σ : L2.St} {H : Hp} {s : Shared} (I : Inv X pins σ H s) : ∀ {d : Nat} {x y : V} {b : Bool} {u v : Value} {A : Around}, EqD X.K H d x y b → RelV x u → RelV y v → A.units + d < cLine → SeqAt.EqAt A s u v b := by
  intro d x y b u v A h
  induction h generalizing u v A with
  | flat fx fy => intro rx ry _; exact eqAt_V rx ry fx fy
  | same => intro rx ry _; cases rx; cases ry; exact SeqAt.EqAt.same _
  | @tup d p q xs ys e hn hx hy he ih =>
    intro rx ry hu
    cases rx
    cases ry
    obtain ⟨its, r, pl, _⟩ := I.tuple hx
    obtain ⟨its2, r2, pl2, _⟩ := I.tuple hy
    have hl := r.length
    have hl2 := r2.length
    have := SeqAt.EqAt.of_refs hn (SeqAt.RcAt.tuples (A := A) (e := e) pl pl2 (by omega) (fun j h1 h2 => by
      have h1' : j < its.length := by simpa using h1
      have h2' : j < its2.length := by simpa using h2
      have z := ih j (by omega) (by omega) (vals_at r h1') (vals_at r2 h2') (A := A.in1) (by show A.units + 1 + d < _; omega)
      simpa using z))
    simp only [List.size_toArray, ← hl, ← hl2] at this
    exact this
  | @lst d p q xs ys e hn hx hy hle he ih =>
    intro rx ry hu
    cases rx
    cases ry
    obtain ⟨its, r, pl, _⟩ := I.list hx
    obtain ⟨its2, r2, pl2, _⟩ := I.list hy
    have hl := r.length
    have hl2 := r2.length
    have := SeqAt.EqAt.of_refs hn (SeqAt.RcAt.lists (A := A) (e := e) pl.isList pl2.isList (by simp only [List.size_toArray]; omega) (by omega) (fun j h1 h2 => by
      have h1' : j < its.length := by simpa using h1
      have h2' : j < its2.length := by simpa using h2
      have z := ih j (by omega) (vals_at r h1') (vals_at r2 h2') (A := A.in1) (by show A.units + 1 + d < _; omega)
      simpa using z))
    simp only [List.size_toArray, ← hl] at this
    exact this
end
end Ow
namespace Ow
open PySem PySem.Spec PyProof.Rows L2
def Itv (K : PySem.W.Frag) (a : Addr) (n : Nat) : It :=
  ⟨fun i H => i < n ∧ ∃ xs x, SqL K H a xs ∧ xs[n - 1 - i]? = some x, fun i H x H' => H' = H ∧ ∀ xs, SqL K H a xs → xs[n - 1 - i]? = some x, fun i _ => i = n⟩
theorem turn_rev {P : Program} {w : World} {K : PySem.W.Frag} {tg : Expr} (a it : Addr) (n : Nat) : Turn P w K tg (Itv K a n) [it] it (fun i h => h.IsRevIter it a ((n : Int) - 1 - (i : Int))) where
  mem := by simp
  obj := fun i h st b hb => by
    have e : b = it := by simpa using hb
    subst e
    obtain ⟨o, e, c, d⟩ := st
    exact ⟨o, e, fun v z => by rw [d] at z; cases z⟩
  keep := fun i h h' st k => st.at fun o e => k it (by simp) o e
  item := by
    intro X hP hw hK hc i pins s σ H E I hf st hg
    subst hP hw hK
    obtain ⟨hi, xs, x, hq, hx⟩ := hg
    obtain ⟨its, rv, p, hz⟩ := I.list hq
    obtain ⟨u, hu, ru⟩ := rv.get hx
    obtain ⟨f0, f1, f2, f3, f4, f5⟩ := hf it (by simp)
    have e1 : (n : Int) - 1 - (i : Int) = ((n - 1 - i : Nat) : Int) := by omega
    rw [e1] at st
    refine wpAny_pyNext_rev_item st p.isList (x := u) (by simpa using hu) fun h' st' sb => ?_
    have I1 : Inv X pins σ H { s with heap := h' } := I.turned (t' := s.toks) (fun b o hb e => (sb.2 b hb).trans e) f0 f1 f3 f4 f5
    obtain ⟨o, e, c, d⟩ := id st'
    have e2 : ((n - 1 - i : Nat) : Int) - 1 = (n : Int) - 1 - ((i + 1 : Nat) : Int) := by omega
    rw [e2] at st'
    exact ⟨u, rfl, go_of (s := { s with heap := h' }) e c d (by decide) ⟨x, H, I1, ru, ⟨rfl, fun ys hy => by rw [I.list_inj hy hq]; exact hx⟩, st', fun b hb => (hf b hb).1⟩⟩
  done := by
    intro X hP hw hK hc i pins s σ H E I hf st hg
    subst hP hw hK
    obtain ⟨f0, f1, f2, f3, f4, f5⟩ := hf it (by simp)
    have hg' : i = n := hg
    have e1 : (n : Int) - 1 - (i : Int) = -1 := by omega
    rw [e1] at st
    exact wpAny_pyNext_rev_end (I.ok.hd hc) st fun h' eb => ⟨rfl, I.turned (t' := s.toks) (fun b o hb e => eb b o hb e) f0 f1 f3 f4 f5⟩
  self := fun _ _ _ _ _ st h => wpAny_pyIter_revIter st h
section
variable {X : Cx} {tg : Expr}
def iRev (K : PySem.W.Frag) (ta : TA) : TI := fun σ H R => ta σ H fun vs H1 => ∃ a xs, vs = [.ref a] ∧ SqL K H1 a xs ∧ R (Itv K a xs.length) H1
theorem pi_rev {l : Expr} {ta : TA} {p pos : Pos} (hg : Gl X "reversed") (hm : X.mg "reversed" = none) (ha : PA X [l] ta) (hs : starEach [l] X.env = [(false, eval l X.env)] := by rfl) : PI X tg (.Call (.Name "reversed" p) [l] [] pos) (iRev X.K ta) := by
  intro pins s σ H R I h
  refine Call_ (ld_blt I hg hm boot_reversed (PyProof.Rows.callWith_type1 (thn (ha pos pins s σ H _ I h) fun us s1 ⟨vs, H1, I1, r1, q1⟩ => ?_) hs rfl))
  obtain ⟨a, xs, e, hq, q⟩ := q1
  subst e
  cases r1 with
  | cons r rr =>
    cases rr
    cases r
    obtain ⟨its, rv, pl, hz⟩ := I1.list hq
    have hl := rv.length
    refine call_reversed_list pl.isList ?_
    have I2 : Inv X pins σ H1 { s1 with heap := s1.heap.push (revObj a ((its.toArray.size : Int) - 1)) } := I1.kept (t' := s1.toks) fun b o e => Heap.get?_push_of_some _ e
    have hit : (s1.heap.push (revObj a ((its.toArray.size : Int) - 1))).IsRevIter s1.heap.objs.size a ((xs.length : Int) - 1 - ((0 : Nat) : Int)) := ⟨_, Heap.get?_push_size _ rfl, rfl, by
      show Data.fields #[.ref a, rawInt _] = Data.fields #[.ref a, rawInt _]
      rw [List.size_toArray, ← hl]
      simp⟩
    refine wpAny_pyIter_revIter hit ?_
    refine ⟨s1.heap.objs.size, [s1.heap.objs.size], _, _, H1, rfl, I2, turn_rev a _ xs.length, hit, fun b hb => ?_, q⟩
    have e : b = s1.heap.objs.size := by simpa using hb
    subst e
    exact I1.fpOk (Nat.le_refl _) (I1.hok.fresh (Nat.le_refl _))
theorem call_all_bl (hc : X.calm = true) : CallR X (.builtin "all") (fun xs H Q => ∃ (a : Addr) (bs : List Bool), xs = [.ref a] ∧ SqL X.K H a (bs.map V.bl) ∧ Q (.bl (bs.all id)) H) := by
  intro pins s σ H xs us Q I r h
  obtain ⟨a, bs, rfl, hq, q⟩ := h
  obtain ⟨u, rfl, rx⟩ := vals1 r
  cases rx
  obtain ⟨its, rv, pl, hz⟩ := I.list hq
  have hl := rv.length
  rw [List.length_map] at hl
  refine call_all_walk (wpAny_pyIter_list pl.isList ?_)
  have hne : a ≠ s.heap.objs.size := by
    obtain ⟨o, ho, _⟩ := pl.isList
    exact Nat.ne_of_lt (Heap.lt_size ho)
  refine ⟨s.heap.objs.size, _, _, _, _, _, fun j => bs.getD j false, rfl, Walks.list (A := X.A.in1) (I.ok.hd hc) s.heap.objs.size a hne its.toArray, ⟨⟨_, Heap.get?_push_size _ rfl, rfl, rfl⟩, Heap.IsList.push pl.isList _⟩, ?_, ?_⟩
  · intro i v s' Q' E' hP hQ'
    have hP' : its[i]? = some v := by simpa using hP
    have hi : i < its.length := (List.getElem?_eq_some_iff.mp hP').1
    have hb : (bs.map V.bl)[i]? = some (V.bl (bs.getD i false)) := by
      rw [List.getElem?_map, List.getD_eq_getElem?_getD, List.getElem?_eq_getElem (by omega)]
      rfl
    obtain ⟨u', hu', ru'⟩ := rv.get hb
    rw [hP'] at hu'
    cases hu'
    cases ru'
    exact wpAny_truthy_bool hQ'
  · intro h' tk hk
    refine ⟨.bl _, H, I.kept (t' := tk) fun b o e => hk b o (fun z => ?_) (Heap.get?_push_of_some _ e), ?_, q⟩
    · have z' : b = s.heap.objs.size := by simpa using z
      exact absurd (Heap.lt_size e) (by rw [z']; exact Nat.lt_irrefl _)
    · have e1 : (List.range its.toArray.size).all (fun j => bs.getD j false) = bs.all id := by
        rw [List.size_toArray, ← hl]
        rw [Bool.eq_iff_iff, List.all_eq_true, List.all_eq_true]
        constructor
        · intro h x hx
          obtain ⟨j, hj, e⟩ := List.getElem_of_mem hx
          have := h j (List.mem_range.mpr hj)
          rw [List.getD_eq_getElem?_getD, List.getElem?_eq_getElem hj] at this
          show x = true
          rw [← e]
          exact this
        · intro h j hj
          have hj' := List.mem_range.mp hj
          rw [List.getD_eq_getElem?_getD, List.getElem?_eq_getElem hj']
          exact h _ (List.getElem_mem hj')
      rw [e1]
      rfl
variable {elt iter : Expr} {x : Str} {px pos : Pos} {scope : Scope} {wi : TI} {te : TE} {cl : List (Str × Addr)}
theorem pe_compC (js : List Nat) (ns : List Str) (hc : X.calm = true) (hclos : closureFor scope X.env = pure cl) (hcls : cl.map (·.1) = ns) (hsub : ∀ p ∈ cl, X.env.cells.lookup p.1 = some p.2)
    (hno : ∀ p ∈ scope.names, p.2 ≠ .cell ∧ (p.2 = .free → p.1 ∈ ns)) (hkind : scope.kind = .function) (hnames : ∀ y ∈ scope.names, y.2 = .local → scope.names.lookup y.1 = some .local) (hx : scope.names.lookup x = some .local)
    (hN : (x :: ns).Nodup) (hkd : ∀ y ∈ ns, (Env.kindOf (compEnvC scope cl 0 X.env) y = some .cell ∨ Env.kindOf (compEnvC scope cl 0 X.env) y = some .free) ∧ X.env.kindOf y = some .cell)
    (hjl : js.length = ns.length) (hj : js.map (fun j => X.N[j]?) = ns.map some)
    (hi : PI X (.Name x px) iter wi) (he : ∀ C s2 H2 fp, PE (cxComp X (x :: ns) scope cl C s2 H2 fp) elt te)
    (hs : ∀ z, foldedSetIterable iter X.env z = pure z := by intro _; rfl) :
    PE X (.ListComp elt [⟨.Name x px, iter, [], 0⟩] scope pos) (tComp wi te fun σ => js.map fun j => (σ[j]?).getD none) := by
  refine pe_comp (N := ns) (cl := cl) hc hclos (fun n c e => hsub (n, c) (PySem.mem_of_lookup e)) (fun y hy => (hno y hy).1) hkind hnames hx (fun y hy => ?_) hN (fun σ => by rw [List.length_map]; exact hjl) (fun σ i y v _ e1 e2 => ?_) hi he hs
  · have sub : ∀ (l : List (Str × NameKind)), (∀ p ∈ l, p.2 ≠ .cell ∧ (p.2 = .free → p.1 ∈ ns)) → ∀ p ∈ (l.map fun (n, k) => if (k == NameKind.free && X.env.scope.kind == ScopeKind.function && X.env.kindOf n == some NameKind.cell) then (n, NameKind.cell) else (n, k)), (p.2 = .cell ∨ p.2 = .free) → p.1 ∈ ns := by
      intro l hl p hp hk
      obtain ⟨q, hq, e⟩ := List.mem_map.mp hp
      have h1 := hl q hq
      obtain ⟨n, k⟩ := q
      dsimp only at e
      by_cases hf : k = .free
      · have h2 := h1.2 hf
        split at e
        · rw [← e]; exact h2
        · rw [← e]; exact h2
      · have hf' : (k == NameKind.free) = false := by
          cases k <;> first | rfl | exact absurd rfl hf
        rw [hf', Bool.false_and, Bool.false_and, if_neg (by decide)] at e
        rw [← e] at hk
        rcases hk with z | z
        · exact absurd z h1.1
        · exact absurd z hf
    have hy' : y ∈ ns := by
      rcases hy with z | z
      · exact sub scope.names hno (y, .cell) (PySem.mem_of_lookup z) (.inl rfl)
      · exact sub scope.names hno (y, .free) (PySem.mem_of_lookup z) (.inr rfl)
    rw [← hcls] at hy'
    have key : ∀ l : List (Str × Addr), y ∈ l.map (·.1) → ∃ c, l.lookup y = some c := by
      intro l
      induction l with
      | nil => intro h; simp at h
      | cons p r ih =>
        intro h
        by_cases e : y = p.1
        · exact ⟨p.2, by obtain ⟨p1, p2⟩ := p; dsimp only at e; subst e; simp [List.lookup]⟩
        · have h' : y ∈ r.map (·.1) := by
            rw [List.map_cons] at h
            exact (List.mem_cons.mp h).resolve_left e
          obtain ⟨c, hc'⟩ := ih h'
          refine ⟨c, ?_⟩
          obtain ⟨p1, p2⟩ := p
          have : (y == p1) = false := by simpa using e
          rw [List.lookup_cons, this]
          exact hc'
    exact key cl hy'
  · have hm : y ∈ ns := List.mem_of_getElem? e1
    refine ⟨(hkd y hm).1, (hkd y hm).2, ?_⟩
    rw [List.getElem?_map] at e2
    cases hji : js[i]? with
    | none => rw [hji] at e2; cases e2
    | some j =>
      rw [hji] at e2
      have e3 : (σ[j]?).getD none = some v := by
        have := Option.some.inj e2
        exact this
      have e4 := congrArg (fun l => l[i]?) hj
      rw [List.getElem?_map, List.getElem?_map, hji, e1] at e4
      have e5 : X.N[j]? = some y := by
        have := Option.some.inj e4
        exact this
      refine ⟨j, e5, ?_⟩
      cases hσ : σ[j]? with
      | none => rw [hσ] at e3; cases e3
      | some o =>
        rw [hσ] at e3
        have e6 : o = some v := e3
        rw [e6]
theorem comp_range {lo : Int} {n : Nat} {D : Addr} {te' : TE} {tl : L2.St} {G : Hp → Prop} {H1 : Hp} (Pv : Nat → Hp → Prop) (h0 : Pv 0 (upd H1 D (.lst [])))
    (hs : ∀ (i : Nat) H, i < n → Pv i H → te' (some (.int (lo + i)) :: tl) H fun y H2 => ∃ ys, H2 D = some (.lst ys) ∧ ys.length < sizeLine ∧ Pv (i + 1) (upd H2 D (.lst (ys ++ [y]))))
    (mono : ∀ (σ : L2.St) H Q Q', (∀ y H2, Q y H2 → Q' y H2) → te' σ H Q → te' σ H Q')
    (hd : ∀ H, Pv n H → G H) :
    ∃ W : Nat → Nat → Hp → Prop, (∃ m, W 0 m (upd H1 D (.lst []))) ∧ ∀ i m H, W i m H →
      ((Itr lo n).stop i H ∧ G H) ∨ ((Itr lo n).go i H ∧ ∀ x H', (Itr lo n).yld i H x H' → te' (some x :: tl) H' fun y H2 => ∃ ys, H2 D = some (.lst ys) ∧ ys.length < sizeLine ∧ ∃ m', m' < m ∧ W (i + 1) m' (upd H2 D (.lst (ys ++ [y])))) := by
  refine ⟨fun i m H => m = n - i ∧ i ≤ n ∧ Pv i H, ⟨n, by simp, Nat.zero_le _, h0⟩, ?_⟩
  rintro i m H ⟨rfl, hi, p⟩
  by_cases hlt : i < n
  · refine .inr ⟨hlt, fun x H' y => ?_⟩
    obtain ⟨e, y⟩ := y
    subst e y
    refine mono _ _ _ _ (fun y H2 ⟨ys, a, b, c⟩ => ⟨ys, a, b, n - (i + 1), by omega, rfl, hlt, c⟩) (hs i _ hlt p)
  · have e : i = n := by omega
    subst e
    exact .inl ⟨Nat.le_refl _, hd H p⟩
end
end Ow
namespace Ow
open PySem PySem.Spec PyProof.Rows L2
section
variable {X : Cx}
theorem call_len_seqK {K : PySem.W.Frag} (h : X.K = K) : CallR X (.builtin "len") (fun xs H Q => ∃ p ys, xs = [.ref p] ∧ (SqL K H p ys ∨ SqT K H p ys) ∧ Q (.int ys.length) H) := by
  subst h
  exact call_len_seq
theorem ix_listK {K : PySem.W.Frag} (h : X.K = K) : IxR X (rIxL K) := by
  subst h
  exact ix_list
theorem ix_tupK {K : PySem.W.Frag} (h : X.K = K) : IxR X (rIxT K) := by
  subst h
  exact ix_tup
theorem op_isB : OpR X (compareOp .Is) (fun x y H Q => ∃ a b : Bool, x = .bl a ∧ y = .bl b ∧ Q (.bl (a == b)) H) := by
  intro pins s σ H x y v u Q I rx ry h
  obtain ⟨a, b, rfl, rfl, q⟩ := h
  cases rx
  cases ry
  refine wpAny_is_plain rfl ⟨.bl (a == b), H, I, ?_, q⟩
  cases a <;> cases b <;> rfl
theorem op_notB : OpR X (compareOp .IsNot) (fun x y H Q => ∃ a b : Bool, x = .bl a ∧ y = .bl b ∧ Q (.bl (!(a == b))) H) := by
  intro pins s σ H x y v u Q I rx ry h
  obtain ⟨a, b, rfl, rfl, q⟩ := h
  cases rx
  cases ry
  refine wpAny_isNot_plain rfl ⟨.bl (!(a == b)), H, I, ?_, q⟩
  cases a <;> cases b <;> rfl
variable {elt iter : Expr} {x : Str} {px pos : Pos} {scope : Scope} {wi : TI} {te : TE} {cl : List (Str × Addr)}
theorem ps_compC {i : Nat} {y : Str} {py spos : Pos} (hNX : X.N.Nodup) (hiy : X.N[i]? = some y) (hly : Loc X.env.scope y) (hsw : swapsWith (.ListComp elt [⟨.Name x px, iter, [], 0⟩] scope pos) (some (.Name y py)) spos.line X.env = pure true) (js : List Nat) (ns : List Str) (hc : X.calm = true) (hclos : closureFor scope X.env = pure cl) (hcls : cl.map (·.1) = ns) (hsub : ∀ p ∈ cl, X.env.cells.lookup p.1 = some p.2)
    (hno : ∀ p ∈ scope.names, p.2 ≠ .cell ∧ (p.2 = .free → p.1 ∈ ns)) (hkind : scope.kind = .function) (hnames : ∀ y ∈ scope.names, y.2 = .local → scope.names.lookup y.1 = some .local) (hx : scope.names.lookup x = some .local)
    (hN : (x :: ns).Nodup) (hkd : ∀ y ∈ ns, (Env.kindOf (compEnvC scope cl 0 X.env) y = some .cell ∨ Env.kindOf (compEnvC scope cl 0 X.env) y = some .free) ∧ X.env.kindOf y = some .cell)
    (hjl : js.length = ns.length) (hj : js.map (fun j => X.N[j]?) = ns.map some)
    (hi : PI X (.Name x px) iter wi) (he : ∀ C s2 H2 fp, PE (cxComp X (x :: ns) scope cl C s2 H2 fp) elt te)
    (hs : ∀ z, foldedSetIterable iter X.env z = pure z := by intro _; rfl) (hf : X.fn y = true ∨ X.env.scope.names.lookup y = some .local := by first | exact .inl rfl | exact .inr rfl | assumption) :
    PS X (.Assign [.Name y py] (.ListComp elt [⟨.Name x px, iter, [], 0⟩] scope pos) spos) (tAsg (tComp wi te fun σ => js.map fun j => (σ[j]?).getD none) (gName i)) := by
  refine ps_comp hNX hiy hly hsw (N := ns) (cl := cl) hc hclos (fun n c e => hsub (n, c) (PySem.mem_of_lookup e)) (fun y hy => (hno y hy).1) hkind hnames hx (fun y hy => ?_) hN (fun σ => by rw [List.length_map]; exact hjl) (fun σ i y v _ e1 e2 => ?_) hi he hs hf
  · have sub : ∀ (l : List (Str × NameKind)), (∀ p ∈ l, p.2 ≠ .cell ∧ (p.2 = .free → p.1 ∈ ns)) → ∀ p ∈ (l.map fun (n, k) => if (k == NameKind.free && X.env.scope.kind == ScopeKind.function && X.env.kindOf n == some NameKind.cell) then (n, NameKind.cell) else (n, k)), (p.2 = .cell ∨ p.2 = .free) → p.1 ∈ ns := by
      intro l hl p hp hk
      obtain ⟨q, hq, e⟩ := List.mem_map.mp hp
      have h1 := hl q hq
      obtain ⟨n, k⟩ := q
      dsimp only at e
      by_cases hf : k = .free
      · have h2 := h1.2 hf
        split at e
        · rw [← e]; exact h2
        · rw [← e]; exact h2
      · have hf' : (k == NameKind.free) = false := by
          cases k <;> first | rfl | exact absurd rfl hf
        rw [hf', Bool.false_and, Bool.false_and, if_neg (by decide)] at e
        rw [← e] at hk
        rcases hk with z | z
        · exact absurd z h1.1
        · exact absurd z hf
    have hy' : y ∈ ns := by
      rcases hy with z | z
      · exact sub scope.names hno (y, .cell) (PySem.mem_of_lookup z) (.inl rfl)
      · exact sub scope.names hno (y, .free) (PySem.mem_of_lookup z) (.inr rfl)
    rw [← hcls] at hy'
    have key : ∀ l : List (Str × Addr), y ∈ l.map (·.1) → ∃ c, l.lookup y = some c := by
      intro l
      induction l with
      | nil => intro h; simp at h
      | cons p r ih =>
        intro h
        by_cases e : y = p.1
        · exact ⟨p.2, by obtain ⟨p1, p2⟩ := p; dsimp only at e; subst e; simp [List.lookup]⟩
        · have h' : y ∈ r.map (·.1) := by
            rw [List.map_cons] at h
            exact (List.mem_cons.mp h).resolve_left e
          obtain ⟨c, hc'⟩ := ih h'
          refine ⟨c, ?_⟩
          obtain ⟨p1, p2⟩ := p
          have : (y == p1) = false := by simpa using e
          rw [List.lookup_cons, this]
          exact hc'
    exact key cl hy'
  · have hm : y ∈ ns := List.mem_of_getElem? e1
    refine ⟨(hkd y hm).1, (hkd y hm).2, ?_⟩
    rw [List.getElem?_map] at e2
    cases hji : js[i]? with
    | none => rw [hji] at e2; cases e2
    | some j =>
      rw [hji] at e2
      have e3 : (σ[j]?).getD none = some v := by
        have := Option.some.inj e2
        exact this
      have e4 := congrArg (fun l => l[i]?) hj
      rw [List.getElem?_map, List.getElem?_map, hji, e1] at e4
      have e5 : X.N[j]? = some y := by
        have := Option.some.inj e4
        exact this
      refine ⟨j, e5, ?_⟩
      cases hσ : σ[j]? with
      | none => rw [hσ] at e3; cases e3
      | some o =>
        rw [hσ] at e3
        have e6 : o = some v := e3
        rw [e6]
end
end Ow
namespace Ow
open PySem PySem.Spec PyProof.Rows L2
section
variable {P : Program} {w : World} {base h h1 h2 B : Heap} {fs : List Addr} {H H' : Hp} {l : List Env}
end
section
variable {P : Program} {w : World} {K : PySem.W.Frag} {mg : Str → Option Value} {base : Heap} {N : List Str} {qual : Str} {scope : Scope} {f : Addr} {cdv : Value} {A : Around} {outer : List Env} {s₀ : Shared} {H₀ : Hp} {E : XK}
end
section
variable {X : Cx} {pins : List (Addr × Obj)} {σ : L2.St} {H : Hp} {s : Shared} {a : Addr} {oe : Obj}
end
section
variable {X : Cx} {k i j : Nat} {f y n c : Str} {ps : List Str} {sp : Sp} {e : Expr} {es : List Expr} {ta : TA} {C₁ : Addr} {b₀ : Stmt} {suite : List Stmt} {tb : Addr → Obj → TS} {py p pos apos np hpos tpos : Pos}
end
section
variable {prog : Program} {w : World} {A : Around} {E : Value → Shared → Prop} {h : Heap} {g : Array GenState} {d : Drawn} {t : Nat} {os : OsState} {K : PySem.W.Frag} {a C : Addr} {o : Obj}
end
end Ow
namespace Ow
open PySem PySem.Spec PyProof.Rows L2
section
variable {P : Program} {w : World} {K : PySem.W.Frag} {mg : Str → Option Value} {base : Heap} {N : List Str} {qual : Str} {scope : Scope} {f : Addr} {cdv : Value} {A : Around} {outer : List Env} {s₀ : Shared} {H₀ : Hp} {E : XK}
end
section
variable {X : Cx} {pins pins' : List (Addr × Obj)} {σ : L2.St} {H : Hp} {s : Shared} {E : L2.St → XK}
end
def rEqLI (K : PySem.W.Frag) (neg : Bool) : R2 := fun x y H Q => ∃ (p q : Addr) (as bs : List Int), x = .ref p ∧ y = .ref q ∧ SqL K H p (as.map V.int) ∧ SqL K H q (bs.map V.int) ∧ Q (.bl (if neg = true then !decide (as = bs) else decide (as = bs))) H
theorem eq_ints {as bs : List Int} (h : as.length = bs.length) : (List.range (as.map V.int).length).all (fun j => eqV ((as.map V.int).getD j .non) ((bs.map V.int).getD j .non)) = decide (as = bs) := by
  rw [Bool.eq_iff_iff, List.all_eq_true, decide_eq_true_iff]
  have ga : ∀ (ws : List Int) (j : Nat) (hj : j < ws.length), (ws.map V.int).getD j .non = V.int ws[j] := fun ws j hj => by
    rw [List.getD_eq_getElem?_getD, List.getElem?_map, List.getElem?_eq_getElem hj]
    rfl
  constructor
  · intro k
    refine List.ext_getElem h fun j h1 h2 => ?_
    have z := k j (List.mem_range.mpr (by rw [List.length_map]; exact h1))
    rw [ga as j h1, ga bs j h2] at z
    exact beq_iff_eq.mp (show (as[j] == bs[j]) = true from z)
  · rintro rfl j hj
    have hj' : j < as.length := by have := List.mem_range.mp hj; rw [List.length_map] at this; exact this
    rw [ga as j hj']
    show (as[j] == as[j]) = true
    exact beq_self_eq_true _
theorem flat_ints (as : List Int) (j : Nat) (hj : j < (as.map V.int).length) : flatV ((as.map V.int).getD j .non) = true := by
  rw [List.length_map] at hj
  rw [List.getD_eq_getElem?_getD, List.getElem?_map, List.getElem?_eq_getElem hj]
  rfl
theorem op_eqLI {X : Cx} (hu : X.A.units < cLine) : OpR X (compareOp .Eq) (rEqLI X.K false) := by
  intro pins s σ H x y v u Q I rx ry h
  obtain ⟨p, q, as, bs, rfl, rfl, hp, hq, k⟩ := h
  cases rx
  cases ry
  obtain ⟨its, r, pl, _⟩ := I.list hp
  obtain ⟨its2, r2, pl2, _⟩ := I.list hq
  have hl := r.length
  have hl2 := r2.length
  by_cases hle : as.length = bs.length
  · refine SeqAt.eq_listAt (e := fun j => eqV ((as.map V.int).getD j .non) ((bs.map V.int).getD j .non)) pl.isList pl2.isList (by simp only [List.size_toArray]; rw [List.length_map] at hl hl2; omega) hu (fun j h1 h2 => ?_) ⟨.bl _, H, I, rfl, ?_⟩
    · have h1' : j < its.length := by simpa using h1
      have h2' : j < its2.length := by simpa using h2
      have z := eqAt_V (A := X.A.in1) (s := s) (vals_at r h1') (vals_at r2 h2') (flat_ints as j (by omega)) (flat_ints bs j (by omega))
      simpa using z
    · simp only [List.size_toArray, ← hl]
      rw [eq_ints hle]
      exact k
  · refine SeqAt.eq_list_lengthsAt pl.isList pl2.isList (by simp only [List.size_toArray]; rw [List.length_map] at hl hl2; exact bne_iff_ne.mpr (by omega)) hu ⟨.bl _, H, I, rfl, ?_⟩
    have e : decide (as = bs) = false := decide_eq_false fun z => hle (by rw [z])
    rw [if_neg Bool.false_ne_true, e] at k
    exact k
end Ow
namespace Ow
open PySem PySem.Spec PyProof.Rows L2
section
variable {X : Cx} {pins : List (Addr × Obj)} {σ : L2.St} {H : Hp} {s : Shared} {a : Addr} {oe : Obj} {j : Nat} {n : Str}
end
section
variable {X : Cx} {j : Nat} {n c : Str} {C₁ : Addr} {b₀ : Stmt} {suite : List Stmt} {tb : Addr → Obj → TS} {np hpos : Pos}
end
def rBits : V → List V → Hp → VK → Prop := fun x vs H Q => ∃ i : Int, x = .int i ∧ vs = [] ∧ Q (.int ((Builtin.Int.intBits i : Nat) : Int)) H
theorem mt_bits {X : Cx} : MtR X "int.bit_length" rBits := by
  intro pins s σ H x vs v us Q I rx rv h
  obtain ⟨i, rfl, rfl, q⟩ := h
  obtain ⟨t, rfl⟩ := rx
  cases rv.zero
  exact call_int_bit_length ⟨.int _, H, I.tok _, ⟨_, rfl⟩, q⟩
theorem ty_int {K : PySem.W.Frag} {i : Int} {H : Hp} : tyV K "int" (.int i) H := rfl
end Ow
namespace Ow
open PySem PySem.Spec PyProof.Rows L2
section
variable {M : Model} {A : Around} {E : Value → Shared → Prop} {s : Shared} {bs : Heap} {en : Env} {out : List Env} {L e : Addr} {c : Bool}
end
end Ow
namespace Ow
open PySem PySem.Spec PyProof.Rows L2
section
variable {prog : Program} {w : World} {A : Around} {E : Value → Shared → Prop} {s : Shared} {K : PySem.W.Frag} {x C N : Addr} {fs : Array Value} {sl : Array (Option Value)} {name : Str} {v : Value}
variable {nm qn : Str} {bs bm : List Value} {sn : List Str} {sub : List Value} {ab : Bool} {col : Option Bool} {dd : Option Addr} {k0 k1 k2 k3 k5 : Option Value} {nid : String}
end
end Ow
namespace Ow
open PySem PySem.Spec PyProof.Rows L2
section
variable {prog : Program} {w : World} {A : Around} {E : Value → Shared → Prop} {h : Heap} {g : Array GenState} {d : Drawn} {t : Nat} {os : OsState} {C N fI : Addr} {v : Value} {oI : Obj} {mN : Str → Option Value}
variable {nm qn : Str} {bs bm : List Value} {hdc : Bool} {sn : List Str} {sub : List Value} {ab : Bool} {col : Option Bool} {dd : Option Addr} {k0 k1 k2 k3 k5 : Option Value}
end
end Ow
namespace Ow
open PySem PySem.Spec PyProof.Rows L2
section
variable {P : Program} {w : World} {K : PySem.W.Frag} {mg : Str → Option Value} {base : Heap} {N : List Str} {qual : Str} {scope : Scope} {f : Addr} {cdv : Value} {A : Around} {outer : List Env} {s₀ : Shared} {H₀ : Hp} {E : XK}
end
end Ow
namespace Ow
open PySem PySem.Spec PyProof.Rows L2
section
variable {X : Cx} {f : Str} {o value : Expr} {ta tv : TE} {pos pos' : Pos}
end
end Ow
namespace Ow
open PySem PySem.Spec PyProof.Rows L2
section
variable {P : Program} {w : World} {K : PySem.W.Frag} {mg : Str → Option Value} {base : Heap} {N : List Str} {qual : Str} {scope : Scope} {fa : Addr} {cdv : Value} {A : Around} {outer : List Env} {s₀ : Shared} {H₀ : Hp} {E : XK}
end
end Ow
namespace Ow
open PySem PySem.Spec PyProof.Rows L2
section
variable {P : Program} {w : World} {K : PySem.W.Frag} {mg : Str → Option Value} {base : Heap} {N : List Str} {qual : Str} {scope : Scope} {f : Addr} {cdv : Value} {A : Around} {outer : List Env} {s₀ : Shared} {H₀ : Hp} {E : XK}
end
section
variable {P : Program} {w : World} {K : PySem.W.Frag} {mg : Str → Option Value} {base : Heap} {N : List Str} {qual : Str} {scope : Scope} {f : Addr} {cdv : Value} {A : Around} {outer : List Env} {s₀ : Shared} {H₀ : Hp} {E : XK}
end
section
variable {X : Cx} {j : Nat} {n c : Str} {C₁ : Addr} {b₀ : Stmt} {suite : List Stmt} {tb : Addr → Obj → TS} {np hpos : Pos}
end
end Ow
namespace Ow
open PySem PySem.Spec PyProof.Rows L2
section
variable {prog : Program} {w : World} {A : Around} {E : Value → Shared → Prop} {h : Heap} {g : Array GenState} {d : Drawn} {t : Nat} {os : OsState} {K : PySem.W.Frag} {a C D : Addr} {o od : Obj} {name : Str} {v : Value}
end
end Ow
namespace Ow
open PySem PySem.Spec PyProof.Rows L2
theorem Has.imp {P : Program} {w : World} {K : PySem.W.Frag} {mg : Str → Option Value} {base : Heap} {k : Nat} {x : Str} {ps : List Str} {sp sp' : Sp} (h : Has P w K mg base k x ps sp) (i : ∀ vs H Q E, sp' vs H Q E → sp vs H Q E) : Has P w K mg base k x ps sp' := by
  obtain ⟨f, fd, F, b, kp, m⟩ := h.ex
  exact ⟨f, fd, F.imp i, b, kp, m⟩
theorem dk_none {P : Program} {w : World} {H : Hp} (h : Heap) (hb : sysModules < h.objs.size) : ObjOk P w H (h.push { cls := .type "dict", data := .dict #[] }) h.objs.size (.dK []) :=
  ⟨Nat.zero_le _, beq_eq_false_iff_ne.mpr (Ne.symm (Nat.ne_of_lt hb)), [], .nil, Heap.DictOf.new h⟩
theorem inv_big {X : Cx} {pins : List (Addr × Obj)} {σ : L2.St} {H : Hp} {s : Shared} (I : Inv X pins σ H s) : sysModules < s.heap.objs.size := by
  have h1 := I.ok.mod.glob.lt
  have h2 := Nat.le_trans I.ok.bsz I.sz
  exact Nat.lt_of_lt_of_le (Nat.lt_of_le_of_lt (by decide) h1) h2
def tDNew : TE := fun _ H Q => ∀ p, H p = none → Q (.ref p) (upd H p (.dK []))
theorem pe_dnewK {X : Cx} {pos : Pos} : PE X (.Dict [] [] pos) tDNew := fun pins s σ H Q I h =>
  wpAny_Dict_empty ⟨.ref s.heap.objs.size, _, I.laid (a := s.heap.objs.size) (o := .dK []) (t' := s.toks) (fun _ _ q => Heap.get?_push_of_some _ q) (Nat.le_refl _) (dk_none s.heap (inv_big I)), rfl, h _ (I.hok.fresh (Nat.le_refl _))⟩
inductive Th (H : Hp) : V → Prop where
  | int (i : Int) : Th H (.int i)
  | bl (b : Bool) : Th H (.bl b)
  | str (x : Str) : Th H (.str x)
  | non : Th H .non
  | lst {a : Addr} {xs : List V} (h : H a = some (.lst xs)) : Th H (.ref a)
  | tup {a : Addr} {xs : List V} (h : H a = some (.tup xs)) : Th H (.ref a)
  | dct {a : Addr} {kvs : List (Key × V)} (h : H a = some (.dK kvs)) : Th H (.ref a)
theorem Th.same {H H' : Hp} {x : V} (t : Th H x) (s : Same H H') : Th H' x := by
  cases t with
  | int i => exact .int i
  | bl b => exact .bl b
  | str x => exact .str x
  | non => exact .non
  | lst h => exact .lst (s _ _ h)
  | tup h => exact .tup (s _ _ h)
  | dct h => exact .dct (s _ _ h)
def isI : V → Bool
  | .int _ => true
  | _ => false
def btw (x : V) (lo hi : Int) : Bool := match x with
  | .int i => decide (lo ≤ i) && decide (i ≤ hi)
  | _ => false
theorem btw_not {x : V} {lo hi : Int} (h : isI x = false) : btw x lo hi = false := by
  cases x <;> first | rfl | cases h
theorem kit_str_int (K : PySem.W.Frag) : PySem.W.kitOne K (.type "str") (.type "int") = some false := by with_unfolding_all rfl
theorem kit_non_int (K : PySem.W.Frag) : PySem.W.kitOne K (.type "NoneType") (.type "int") = some false := by with_unfolding_all rfl
theorem kit_lst_int (K : PySem.W.Frag) : PySem.W.kitOne K (.type "list") (.type "int") = some false := by with_unfolding_all rfl
theorem kit_tup_int (K : PySem.W.Frag) : PySem.W.kitOne K (.type "tuple") (.type "int") = some false := by with_unfolding_all rfl
theorem kit_dct_int (K : PySem.W.Frag) : PySem.W.kitOne K (.type "dict") (.type "int") = some false := by with_unfolding_all rfl
def spWholeG : Sp := fun vs H Q _ => ∃ x : V, vs = [x] ∧ Th H x ∧ Q (.bl (isI x)) H
def spBtwG : Sp := fun vs H Q _ => ∃ (x : V) (lo hi : Int), vs = [x, .int lo, .int hi] ∧ Th H x ∧ Q (.bl (btw x lo hi)) H
def spWordG : Sp := fun vs H Q _ => ∃ (w : Int) (x : V), vs = [.int w, x] ∧ 4 ≤ w ∧ w ≤ 32 ∧ Th H x ∧ Q (.bl (btw x 0 (1 * 2 ^ w.toNat - 1))) H
end Ow
namespace Ow
open PySem PySem.Spec PyProof.Rows L2
section
variable {X : Cx} {elt iter cc : Expr} {x : Str} {px pos : Pos} {scope : Scope} {wi : TI} {tc : TT} {te : TE} {N : List Str} {cl : List (Str × Addr)} {cap : L2.St → L2.St}
end
end Ow
namespace Ow
open PySem PySem.Spec PyProof.Rows L2
section
variable {X : Cx}
end
end Ow
namespace Ow
open PySem PySem.Spec PyProof.Rows L2
end Ow
namespace Ow
open PySem PySem.Spec PyProof.Rows L2
theorem comp_rng {lo : Int} {n : Nat} {D : Addr} {te' : TE} {tl : L2.St} {G : Hp → Prop} {H1 : Hp} (Pv : Nat → Hp → Prop) (h0 : Pv 0 (upd H1 D (.lst [])))
    (hs : ∀ (i : Nat) H, i < n → Pv i H → te' (some (.int (lo + i)) :: tl) H fun y H2 => ∃ ys, H2 D = some (.lst ys) ∧ ys.length < sizeLine ∧ ∃ m', m' < n - i ∧ (m' = n - (i + 1) ∧ i + 1 ≤ n ∧ Pv (i + 1) (upd H2 D (.lst (ys ++ [y])))))
    (hd : ∀ H, Pv n H → G H) :
    ∃ W : Nat → Nat → Hp → Prop, (∃ m, W 0 m (upd H1 D (.lst []))) ∧ ∀ i m H, W i m H →
      ((Itr lo n).stop i H ∧ G H) ∨ ((Itr lo n).go i H ∧ ∀ x H', (Itr lo n).yld i H x H' → te' (some x :: tl) H' fun y H2 => ∃ ys, H2 D = some (.lst ys) ∧ ys.length < sizeLine ∧ ∃ m', m' < m ∧ W (i + 1) m' (upd H2 D (.lst (ys ++ [y])))) := by
  refine ⟨fun i m H => m = n - i ∧ i ≤ n ∧ Pv i H, ⟨n, by simp, Nat.zero_le _, h0⟩, ?_⟩
  rintro i m H ⟨rfl, hi, p⟩
  by_cases hlt : i < n
  · refine .inr ⟨hlt, fun x H' y => ?_⟩
    obtain ⟨e, y⟩ := y
    subst e y
    exact hs i _ hlt p
  · have e : i = n := by omega
    subst e
    exact .inl ⟨Nat.le_refl _, hd H p⟩
end Ow
namespace Ow
open PySem PySem.Spec PyProof.Rows L2
section
variable {X : Cx}
end
def rEqTD (K : PySem.W.Frag) (d : Nat) (neg : Bool) : R2 := fun x y H Q => ∃ p q xs ys e, x = .ref p ∧ y = .ref q ∧ SqT K H p xs ∧ SqT K H q ys ∧ (∀ j, j < xs.length → j < ys.length → EqD K H d (xs.getD j .non) (ys.getD j .non) (e j)) ∧ Q (.bl (if neg = true then !((List.range (min xs.length ys.length)).all e && xs.length == ys.length) else ((List.range (min xs.length ys.length)).all e && xs.length == ys.length))) H
end Ow
namespace Ow
open PySem PySem.Spec PyProof.Rows L2
end Ow
namespace Ow
open PySem PySem.Spec PyProof.Rows L2
section
variable {prog : Program} {w : World} {K : Type} [DecidableEq K] {knd : KeyKind prog w K} {A : Around} {E : Value → Shared → Prop} {s : Shared}
end
section
variable {prog : Program} {w : World} {A : Around} {E : Value → Shared → Prop} {s : Shared}
end
section
variable {X : Cx}
end
def noStar : Expr → Bool
  | .Starred _ _ => false
  | _ => true
theorem star_cons {e : Expr} (h : noStar e = true) (rest : List Expr) (env : Env) : starEach (e :: rest) env = (false, eval e env) :: starEach rest env := by
  cases e <;> first | rfl | cases h
theorem pa_consN {X : Cx} {e : Expr} {es : List Expr} {te : TE} {t : TA} (ha : PE X e te) (hr : PA X es t) (hn : noStar e = true := by rfl) : PA X (e :: es) (tCons te t) := pa_cons ha hr (star_cons hn es X.env)
section
variable {X : Cx}
end
end Ow
namespace L2
open PySem PySem.Spec PyProof.Rows
section
variable {κ : Type} [DecidableEq κ]
end
section
variable {P : Program} {w : World} {H : Hp} {h : Heap} {a : Addr}
end
section
variable {X : Cx} {pins : List (Addr × Obj)} {σ : St} {H : Hp} {s : Shared} {a : Addr} {y v : V} {u r : Value} {o : Option V} {A : Around} {E : Value → Shared → Prop}
end
section
variable {X : Cx} {pins : List (Addr × Obj)} {σ : St} {H : Hp} {s : Shared} {a : Addr} {kvs : List (Key × V)} {k : Key} {u : Value} {A : Around} {E : Value → Shared → Prop}
end
section
variable {X : Cx} {o i e value : Expr} {pos pos' tpos : Pos} {td ty tv : TE}
end
section
variable {X : Cx} {pos : Pos}
end
section
variable {X : Cx} {pins : List (Addr × Obj)} {σ : St} {H : Hp} {s : Shared} {a : Addr} {y d : V} {u r : Value} {o : Option V} {A : Around} {E : Value → Shared → Prop}
end
section
variable {X : Cx} {o e f : Expr} {apos cpos : Pos} {td ty tx : TE}
end
section
variable {X : Cx} {pins : List (Addr × Obj)} {σ : St} {H : Hp} {s : Shared} {a : Addr} {kvs : List (Key × V)} {A : Around} {E : Value → Shared → Prop}
end
section
variable {X : Cx} {pins : List (Addr × Obj)} {σ : St} {H : Hp} {s : Shared} {a : Addr} {y : V} {u : Value} {A : Around} {E : Value → Shared → Prop}
end
end L2
namespace L2
open PySem PySem.Spec PyProof.Rows
section
variable {κ : Type} [DecidableEq κ]
end
end L2
namespace Ow
open PySem PySem.Spec PyProof.Rows L2
section
variable {X : Cx} {pins : List (Addr × Obj)} {σ : L2.St} {H : Hp} {s : Shared}
end
section
variable {X : Cx} {tg : Expr}
end
section
variable {X : Cx}
end
theorem op_neTD {X : Cx} {d : Nat} (hu : X.A.units + d + 1 < cLine) : OpR X (compareOp .NotEq) (rEqTD X.K d true) := by
  intro pins s σ H x y v u Q I rx ry h
  obtain ⟨p, q, xs, ys, e, rfl, rfl, hp, hq, he, k⟩ := h
  cases rx
  cases ry
  obtain ⟨its, r, pl, _⟩ := I.tuple hp
  obtain ⟨its2, r2, pl2, _⟩ := I.tuple hq
  have hl := r.length
  have hl2 := r2.length
  refine SeqAt.RcNeAt.tuples (e := e) pl pl2 (by omega) (fun j h1 h2 => ?_) X.prog X.w X.xe _ ⟨.bl _, H, I, rfl, ?_⟩
  · have h1' : j < its.length := by simpa using h1
    have h2' : j < its2.length := by simpa using h2
    have z := (he j (by omega) (by omega)).at I (vals_at r h1') (vals_at r2 h2') (A := X.A.in1) (by show X.A.units + 1 + d < _; omega)
    simpa using z
  · simp only [List.size_toArray, ← hl, ← hl2]
    exact k
end Ow
namespace Ow
open PySem PySem.Spec PyProof.Rows L2
open Builtin.Int (intBits)
def top (i : Nat) : Stmt := PySem.Challenge.pw_overwise_k57_forged_rows.main.body.getD i (.Pass ⟨0, 0, 0, 0⟩)
abbrev s_is_whole : Stmt := top 6
theorem sc_is_whole : FnScope ["thing"] ["thing"] (defScope s_is_whole) := ⟨rfl, rfl, rfl, by decide +kernel, rfl, by decide +kernel, by decide +kernel⟩
abbrev s_is_between : Stmt := top 7
theorem sc_is_between : FnScope ["thing", "low", "high"] ["thing", "low", "high"] (defScope s_is_between) := ⟨rfl, rfl, rfl, by decide +kernel, rfl, by decide +kernel, by decide +kernel⟩
abbrev s_need_width : Stmt := top 8
theorem sc_need_width : FnScope ["width"] ["width"] (defScope s_need_width) := ⟨rfl, rfl, rfl, by decide +kernel, rfl, by decide +kernel, by decide +kernel⟩
abbrev s_is_word : Stmt := top 9
theorem sc_is_word : FnScope ["width", "thing"] ["width", "thing"] (defScope s_is_word) := ⟨rfl, rfl, rfl, by decide +kernel, rfl, by decide +kernel, by decide +kernel⟩
abbrev s_has_long : Stmt := top 11
theorem sc_has_long : FnScope ["width", "thing"] ["width", "thing"] (defScope s_has_long) := ⟨rfl, rfl, rfl, by decide +kernel, rfl, by decide +kernel, by decide +kernel⟩
abbrev s_need_long : Stmt := top 12
theorem sc_need_long : FnScope ["width", "one"] ["width", "one"] (defScope s_need_long) := ⟨rfl, rfl, rfl, by decide +kernel, rfl, by decide +kernel, by decide +kernel⟩
abbrev s_need_longs : Stmt := top 13
theorem sc_need_longs : FnScope ["width", "one", "other"] ["width", "one", "other"] (defScope s_need_longs) := ⟨rfl, rfl, rfl, by decide +kernel, rfl, by decide +kernel, by decide +kernel⟩
abbrev s_trimmed : Stmt := top 14
theorem sc_trimmed : FnScope ["words", "many"] ["words"] (defScope s_trimmed) := ⟨rfl, rfl, rfl, by decide +kernel, rfl, by decide +kernel, by decide +kernel⟩
abbrev s_word_at : Stmt := top 15
theorem sc_word_at : FnScope ["one", "place"] ["one", "place"] (defScope s_word_at) := ⟨rfl, rfl, rfl, by decide +kernel, rfl, by decide +kernel, by decide +kernel⟩
abbrev s_add_words : Stmt := top 16
theorem sc_add_words : FnScope ["width", "one", "other", "words", "goes_on", "carry", "place", "total"] ["width", "one", "other"] (defScope s_add_words) := ⟨rfl, rfl, rfl, by decide +kernel, rfl, by decide +kernel, by decide +kernel⟩
abbrev s_compared : Stmt := top 17
theorem sc_compared : FnScope ["one", "other", "place"] ["one", "other"] (defScope s_compared) := ⟨rfl, rfl, rfl, by decide +kernel, rfl, by decide +kernel, by decide +kernel⟩
abbrev s_product_by_word : Stmt := top 18
theorem sc_product_by_word : FnScope ["width", "one", "word", "words", "carry", "each", "total"] ["width", "one", "word"] (defScope s_product_by_word) := ⟨rfl, rfl, rfl, by decide +kernel, rfl, by decide +kernel, by decide +kernel⟩
abbrev s_moved_left : Stmt := top 19
theorem sc_moved_left : FnScope ["width", "one", "many", "nothing"] ["width", "one", "many"] (defScope s_moved_left) := ⟨rfl, rfl, rfl, by decide +kernel, rfl, by decide +kernel, by decide +kernel⟩
abbrev s_turn_to : Stmt := top 21
theorem sc_turn_to : FnScope ["width", "bottom"] ["width", "bottom"] (defScope s_turn_to) := ⟨rfl, rfl, rfl, by decide +kernel, rfl, by decide +kernel, by decide +kernel⟩
abbrev s_need_division : Stmt := top 22
theorem sc_need_division : FnScope ["width", "top", "bottom"] ["width", "top", "bottom"] (defScope s_need_division) := ⟨rfl, rfl, rfl, by decide +kernel, rfl, by decide +kernel, by decide +kernel⟩
abbrev s_count_steps : Stmt := top 23
theorem sc_count_steps : FnScope ["top", "bottom"] ["top", "bottom"] (defScope s_count_steps) := ⟨rfl, rfl, rfl, by decide +kernel, rfl, by decide +kernel, by decide +kernel⟩
abbrev s_is_guess : Stmt := top 24
theorem sc_is_guess : FnScope ["width", "divided", "lower", "thing", "place", "pair", "product"] ["width", "divided", "lower", "thing"] (defScope s_is_guess) := ⟨rfl, rfl, rfl, by decide +kernel, rfl, by decide +kernel, by decide +kernel⟩
abbrev s_is_row : Stmt := top 25
theorem sc_is_row : FnScope ["width", "place", "divided", "lower", "thing"] ["width", "place", "divided", "lower", "thing"] (defScope s_is_row) := ⟨rfl, rfl, rfl, by decide +kernel, rfl, by decide +kernel, by decide +kernel⟩
abbrev s_is_division : Stmt := top 26
theorem sc_is_division : FnScope ["width", "top", "bottom", "quotient", "rest", "rows", "steps", "turn", "lower", "upper", "remains", "place", "row", "digits"] ["width", "top", "bottom", "quotient", "rest", "rows"] (defScope s_is_division) := ⟨rfl, rfl, rfl, by decide +kernel, rfl, by decide +kernel, by decide +kernel⟩
abbrev s__law_drawn : Stmt := top 28
theorem sc__law_drawn : FnScope ["_law_cell", "_law_sizes", "_law_found", "_law_many", "_law_one", "_law_other"] ["_law_cell", "_law_sizes"] (defScope s__law_drawn) := ⟨rfl, rfl, rfl, by decide +kernel, rfl, by decide +kernel, by decide +kernel⟩
abbrev s__law_long : Stmt := top 29
theorem sc__law_long : FnScope ["_law_draws", "_law_at", "_law_many", "_law_width", "_law_big", "_law_menu", "_law_words_here", "_law_k", "_law_kind", "_law_raw"] ["_law_draws", "_law_at", "_law_many", "_law_width"] (defScope s__law_long) := ⟨rfl, rfl, rfl, by decide +kernel, rfl, by decide +kernel, by decide +kernel⟩
abbrev s__law_number : Stmt := top 30
theorem sc__law_number : FnScope ["_law_words_here", "_law_width", "_law_number_here", "_law_word"] ["_law_words_here", "_law_width"] (defScope s__law_number) := ⟨rfl, rfl, rfl, by decide +kernel, rfl, by decide +kernel, by decide +kernel⟩
abbrev s__law_words : Stmt := top 31
theorem sc__law_words : FnScope ["_law_number_here", "_law_width", "_law_words_here"] ["_law_number_here", "_law_width"] (defScope s__law_words) := ⟨rfl, rfl, rfl, by decide +kernel, rfl, by decide +kernel, by decide +kernel⟩
abbrev s__law_whole : Stmt := top 32
theorem sc__law_whole : FnScope ["_law_found"] ["_law_found"] (defScope s__law_whole) := ⟨rfl, rfl, rfl, by decide +kernel, rfl, by decide +kernel, by decide +kernel⟩
abbrev s__law_same : Stmt := top 33
theorem sc__law_same : FnScope ["_law_found", "_law_due", "_law_k"] ["_law_found", "_law_due"] (defScope s__law_same) := ⟨rfl, rfl, rfl, by decide +kernel, rfl, by decide +kernel, by decide +kernel⟩
abbrev s__law_case : Stmt := top 34
theorem sc__law_case : FnScope ["_law_cell", "_law_draws", "_law_width", "_law_big", "_law_top", "_law_bottom", "_law_kind", "_law_lower", "_law_upper"] ["_law_cell"] (defScope s__law_case) := ⟨rfl, rfl, rfl, by decide +kernel, rfl, by decide +kernel, by decide +kernel⟩
abbrev s__law_far : Stmt := top 35
theorem sc__law_far : FnScope ["_law_words_here", "_law_size", "_law_found"] ["_law_words_here", "_law_size"] (defScope s__law_far) := ⟨rfl, rfl, rfl, by decide +kernel, rfl, by decide +kernel, by decide +kernel⟩
abbrev s__law_made : Stmt := top 36
theorem sc__law_made : FnScope ["_law_width", "_law_top", "_law_bottom", "_law_at", "_law_more", "_law_turn", "_law_upper", "_law_lower", "_law_size", "_law_steps", "_law_now", "_law_rows", "_law_quotient", "_law_k", "_law_place", "_law_word", "_law_guess", "_law_digit"] ["_law_width", "_law_top", "_law_bottom", "_law_at", "_law_more"] (defScope s__law_made) := ⟨rfl, rfl, rfl, by decide +kernel, rfl, by decide +kernel, by decide +kernel⟩
abbrev s__law_copy : Stmt := top 37
theorem sc__law_copy : FnScope ["_law_rows"] ["_law_rows"] (defScope s__law_copy) := ⟨rfl, rfl, rfl, by decide +kernel, rfl, by decide +kernel, by decide +kernel⟩
abbrev s__law_plus : Stmt := top 38
theorem sc__law_plus : FnScope ["_law_words_here", "_law_more", "_law_width"] ["_law_words_here", "_law_more", "_law_width"] (defScope s__law_plus) := ⟨rfl, rfl, rfl, by decide +kernel, rfl, by decide +kernel, by decide +kernel⟩
abbrev s__law_truth : Stmt := top 39
theorem sc__law_truth : FnScope ["_law_words_here"] ["_law_words_here"] (defScope s__law_truth) := ⟨rfl, rfl, rfl, by decide +kernel, rfl, by decide +kernel, by decide +kernel⟩
abbrev s__law_row_forged : Stmt := top 40
theorem sc__law_row_forged : FnScope ["_law_way", "_law_row", "_law_place", "_law_guess", "_law_back", "_law_digit", "_law_rest", "_law_fewer"] ["_law_way", "_law_row"] (defScope s__law_row_forged) := ⟨rfl, rfl, rfl, by decide +kernel, rfl, by decide +kernel, by decide +kernel⟩
abbrev s__law_last : Stmt := top 41
theorem sc__law_last : FnScope ["_law_way", "_law_honest", "_law_width", "_law_quotient", "_law_rest", "_law_rows", "_law_turn", "_law_lower", "_law_place", "_law_guess", "_law_back", "_law_digit", "_law_behind", "_law_row"] ["_law_way", "_law_honest", "_law_width"] (defScope s__law_last) := ⟨rfl, rfl, rfl, by decide +kernel, rfl, by decide +kernel, by decide +kernel⟩
abbrev s__law_forged : Stmt := top 42
theorem sc__law_forged : FnScope ["_law_way", "_law_at", "_law_honest", "_law_width", "_law_quotient", "_law_rest", "_law_rows", "_law_turn", "_law_lower"] ["_law_way", "_law_at", "_law_honest", "_law_width"] (defScope s__law_forged) := ⟨rfl, rfl, rfl, by decide +kernel, rfl, by decide +kernel, by decide +kernel⟩
abbrev s__law_asked : Stmt := top 43
theorem sc__law_asked : FnScope ["_law_width", "_law_top", "_law_bottom", "_law_told", "_law_upper", "_law_lower", "_law_found"] ["_law_width", "_law_top", "_law_bottom", "_law_told"] (defScope s__law_asked) := ⟨rfl, rfl, rfl, by decide +kernel, rfl, by decide +kernel, by decide +kernel⟩
abbrev s__law_held : Stmt := top 44
theorem sc__law_held : FnScope ["_law_width", "_law_top", "_law_bottom", "_law_ways", "_law_at", "_law_honest", "_law_handed", "_law_way", "_law_copied", "_law_other"] ["_law_width", "_law_top", "_law_bottom", "_law_ways", "_law_at"] (defScope s__law_held) := ⟨rfl, rfl, rfl, by decide +kernel, rfl, by decide +kernel, by decide +kernel⟩
abbrev s_law : Stmt := top 45
theorem sc_law : FnScope ["_law_script", "_law_cells", "_law_k", "_law_cell", "_law_width", "_law_top", "_law_bottom", "_law_first", "_law_ways"] ["_law_script"] (defScope s_law) := ⟨rfl, rfl, rfl, by decide +kernel, rfl, by decide +kernel, by decide +kernel⟩
structure Txt (K : PySem.W.Frag) (mg : Str → Option Value) : Prop where
  n_isinstance : mg "isinstance" = none
  n_int : mg "int" = none
  n_bool : mg "bool" = none
  n_list : mg "list" = none
  n_tuple : mg "tuple" = none
  n_len : mg "len" = none
  n_max : mg "max" = none
  n_min : mg "min" = none
  n_range : mg "range" = none
  n_all : mg "all" = none
  n_reversed : mg "reversed" = none
def num (B : Int) : List Int → Int
  | [] => 0
  | x :: r => x + B * num B r
structure Wds (B : Int) (ws : List Int) : Prop where
  ok : ∀ x ∈ ws, 0 ≤ x ∧ x < B
theorem Wds.tail {B x : Int} {ws : List Int} (h : Wds B (x :: ws)) : Wds B ws := ⟨fun y hy => h.ok y (List.mem_cons_of_mem _ hy)⟩
theorem num_nonneg {B : Int} (hB : 0 < B) : ∀ {ws : List Int}, Wds B ws → 0 ≤ num B ws
  | [], _ => Int.le_refl _
  | x :: r, h => by
    have h1 := (h.ok x (List.mem_cons_self ..)).1
    have h2 := num_nonneg hB h.tail
    have h3 := Int.mul_nonneg (Int.le_of_lt hB) h2
    show 0 ≤ x + B * num B r
    omega
theorem num_lt {B : Int} (hB : 0 < B) : ∀ {ws : List Int}, Wds B ws → num B ws < B ^ ws.length
  | [], _ => by show (0 : Int) < B ^ 0; rw [Int.pow_zero]; decide
  | x :: r, h => by
    have h1 := (h.ok x (List.mem_cons_self ..)).2
    have h2 := num_lt hB h.tail
    have h3 : B * (num B r + 1) ≤ B * B ^ r.length := Int.mul_le_mul_of_nonneg_left h2 (Int.le_of_lt hB)
    show x + B * num B r < B ^ (r.length + 1)
    rw [Int.pow_succ, Int.mul_comm (B ^ r.length)]
    rw [Int.mul_add, Int.mul_one] at h3
    omega
theorem num_mod {B x : Int} {r : List Int} (h0 : 0 ≤ x) (h1 : x < B) : num B (x :: r) % B = x := by
  show (x + B * num B r) % B = x
  rw [Int.add_mul_emod_self_left]
  exact Int.emod_eq_of_lt h0 h1
theorem num_div {B x : Int} {r : List Int} (h0 : 0 ≤ x) (h1 : x < B) : num B (x :: r) / B = num B r := by
  show (x + B * num B r) / B = num B r
  rw [Int.add_mul_ediv_left _ _ (by omega), Int.ediv_eq_zero_of_lt h0 h1, Int.zero_add]
theorem num_pos {B : Int} (hB : 0 < B) : ∀ {ws : List Int}, Wds B ws → ws ≠ [] → ws.getLast? ≠ some 0 → 0 < num B ws
  | [], _, hn, _ => absurd rfl hn
  | [x], h, _, hl => by
    have h1 := (h.ok x (List.mem_cons_self ..)).1
    have h2 : x ≠ 0 := fun e => hl (by rw [e]; rfl)
    show 0 < x + B * 0
    omega
  | x :: y :: r, h, _, hl => by
    have h1 := (h.ok x (List.mem_cons_self ..)).1
    have h2 := num_pos hB h.tail (by simp) (by rw [List.getLast?_cons_cons] at hl; exact hl)
    have h3 := Int.mul_pos hB h2
    show 0 < x + B * num B (y :: r)
    omega
theorem num_app (B : Int) : ∀ (xs ys : List Int), num B (xs ++ ys) = num B xs + B ^ xs.length * num B ys
  | [], ys => by show num B ys = 0 + B ^ 0 * num B ys; rw [Int.pow_zero]; omega
  | x :: r, ys => by
    show x + B * num B (r ++ ys) = x + B * num B r + B ^ (r.length + 1) * num B ys
    rw [num_app B r ys, Int.mul_add, Int.pow_succ, Int.mul_comm (B ^ r.length) B, Int.mul_assoc]
    omega
theorem num_snoc (B : Int) (xs : List Int) (v : Int) : num B (xs ++ [v]) = num B xs + B ^ xs.length * v := by
  rw [num_app]
  show _ + _ * (v + B * 0) = _
  rw [Int.mul_zero, Int.add_zero]
theorem place_on {B t c : Int} (hB : 0 < B) (n k : Int) (p : Nat) (h : n + B ^ p * c = k) : n + B ^ p * ((t + c) % B) + B ^ (p + 1) * ((t + c) / B) = k + B ^ p * t := by
  have e := Int.mul_ediv_add_emod (t + c) B
  have e2 : B ^ p * ((t + c) % B) + B ^ (p + 1) * ((t + c) / B) = B ^ p * (t + c) := by
    rw [Int.pow_succ, Int.mul_assoc, ← Int.mul_add, Int.add_comm ((t + c) % B), e]
  rw [Int.add_assoc, e2, Int.mul_add]
  omega
theorem num_inj {B : Int} (hB : 0 < B) : ∀ {xs ys : List Int}, Wds B xs → Wds B ys → xs.getLast? ≠ some 0 → ys.getLast? ≠ some 0 → num B xs = num B ys → xs = ys
  | [], [], _, _, _, _, _ => rfl
  | [], y :: r, _, wy, _, ly, e => by
    have := num_pos hB wy (by simp) ly
    rw [← e] at this
    exact absurd this (by show ¬ (0 : Int) < 0; omega)
  | x :: r, [], wx, _, lx, _, e => by
    have := num_pos hB wx (by simp) lx
    rw [e] at this
    exact absurd this (by show ¬ (0 : Int) < 0; omega)
  | x :: r, y :: q, wx, wy, lx, ly, e => by
    have a := wx.ok x (List.mem_cons_self ..)
    have b := wy.ok y (List.mem_cons_self ..)
    have e' : x + B * num B r = y + B * num B q := e
    have ex : x = y := by
      have := congrArg (· % B) e'
      simp only [Int.add_mul_emod_self_left] at this
      rw [Int.emod_eq_of_lt a.1 a.2, Int.emod_eq_of_lt b.1 b.2] at this
      exact this
    subst ex
    have er : num B r = num B q := by
      have : B * num B r = B * num B q := by omega
      exact Int.eq_of_mul_eq_mul_left (by omega) this
    have lr : r.getLast? ≠ some 0 := by
      cases r with
      | nil => intro z; cases z
      | cons u v => rw [List.getLast?_cons_cons] at lx; exact lx
    have lq : q.getLast? ≠ some 0 := by
      cases q with
      | nil => intro z; cases z
      | cons u v => rw [List.getLast?_cons_cons] at ly; exact ly
    rw [num_inj hB wx.tail wy.tail lr lq er]
theorem trim_step {B : Int} {ws : List Int} {k : Nat} (hk : k < ws.length) (hz : ws[k]? = some 0) : num B (ws.take k) = num B (ws.take (k + 1)) := by
  rw [List.take_succ, hz]
  show _ = num B (ws.take k ++ [0])
  rw [num_snoc, Int.mul_zero, Int.add_zero]
theorem split_last {ws : List Int} (h : ws ≠ []) : ∃ us v, ws = us ++ [v] ∧ ws.getLast? = some v := by
  refine ⟨ws.dropLast, ws.getLast h, (List.dropLast_concat_getLast h).symm, List.getLast?_eq_some_getLast h⟩
theorem Wds.left {B : Int} {us vs : List Int} (h : Wds B (us ++ vs)) : Wds B us := ⟨fun x hx => h.ok x (List.mem_append_left _ hx)⟩
theorem ge_of {B : Int} (hB : 0 < B) {ws : List Int} (w : Wds B ws) (hn : ws ≠ []) (hl : ws.getLast? ≠ some 0) : B ^ (ws.length - 1) ≤ num B ws := by
  obtain ⟨us, v, e, el⟩ := split_last hn
  rw [el] at hl
  have v0 := w.ok v (by rw [e]; simp)
  have v1 : 1 ≤ v := by
    have : v ≠ 0 := fun z => hl (by rw [z])
    omega
  rw [e] at w ⊢
  rw [num_snoc, List.length_append]
  have u0 := num_nonneg hB w.left
  have : B ^ us.length * 1 ≤ B ^ us.length * v := Int.mul_le_mul_of_nonneg_left v1 (Int.le_of_lt (Int.pow_pos hB))
  show B ^ (us.length + 1 - 1) ≤ _
  rw [Nat.add_sub_cancel]
  omega
theorem last_of {B : Int} (hB : 0 < B) {ws : List Int} (w : Wds B ws) (hg : B ^ (ws.length - 1) ≤ num B ws) (hn : ws ≠ []) : ws.getLast? ≠ some 0 := by
  obtain ⟨us, v, e, el⟩ := split_last hn
  rw [el]
  intro z
  have vz : v = 0 := Option.some.inj z
  rw [e] at w hg
  rw [num_snoc, List.length_append, vz, Int.mul_zero, Int.add_zero] at hg
  have := num_lt hB w.left
  have e2 : us.length + [v].length - 1 = us.length := by simp
  rw [vz] at e2
  rw [e2] at hg
  omega
theorem pow_lt_pow {B : Int} (hB : 1 < B) {m n : Nat} (h : m < n) : B ^ m < B ^ n := by
  have e : n = m + (n - m - 1 + 1) := by omega
  rw [e, Int.pow_add, Int.pow_succ]
  have a : (0 : Int) < B ^ m := Int.pow_pos (by omega)
  have b : (0 : Int) < B ^ (n - m - 1) := Int.pow_pos (by omega)
  have c : 1 < B ^ (n - m - 1) * B := by
    have : 1 * B ≤ B ^ (n - m - 1) * B := Int.mul_le_mul_of_nonneg_right (by omega) (by omega)
    omega
  have d : B ^ m * 1 < B ^ m * (B ^ (n - m - 1) * B) := Int.mul_lt_mul_of_pos_left c a
  omega
theorem len_le {B : Int} (hB : 1 < B) {ws : List Int} (w : Wds B ws) (hl : ws.getLast? ≠ some 0) {m : Nat} (h : num B ws < B ^ m) : ws.length ≤ m := by
  by_cases hn : ws = []
  · rw [hn]; exact Nat.zero_le _
  have g := ge_of (by omega) w hn hl
  refine Nat.le_of_not_lt fun c => ?_
  have : B ^ m ≤ B ^ (ws.length - 1) := by
    by_cases e : m = ws.length - 1
    · rw [e]; exact Int.le_refl _
    · exact Int.le_of_lt (pow_lt_pow hB (by omega))
  omega
theorem words_ex {B : Int} (hB : 1 < B) : ∀ (k : Nat) (n : Int), 0 ≤ n → n < B ^ k → ∃ ws, Wds B ws ∧ ws.getLast? ≠ some 0 ∧ num B ws = n ∧ ws.length ≤ k
  | 0, n, h0, h1 => ⟨[], ⟨fun x hx => by simp at hx⟩, by simp, by rw [Int.pow_zero] at h1; show (0 : Int) = n; omega, Nat.le_refl _⟩
  | k + 1, n, h0, h1 => by
    by_cases hz : n = 0
    · exact ⟨[], ⟨fun x hx => by simp at hx⟩, by simp, by show (0 : Int) = n; omega, Nat.zero_le _⟩
    have e := Int.mul_ediv_add_emod n B
    have d0 : 0 ≤ n / B := Int.ediv_nonneg h0 (by omega)
    have m0 := Int.emod_nonneg n (show B ≠ 0 by omega)
    have m1 := Int.emod_lt_of_pos n (show 0 < B by omega)
    have d1 : n / B < B ^ k := by
      refine Int.ediv_lt_of_lt_mul (by omega) ?_
      rw [Int.pow_succ] at h1
      exact h1
    obtain ⟨ws, w, la, hn, hl⟩ := words_ex hB k (n / B) d0 d1
    refine ⟨n % B :: ws, ⟨fun x hx => ?_⟩, ?_, ?_, by simp; exact hl⟩
    · rcases List.mem_cons.mp hx with rfl | hx
      · exact ⟨m0, m1⟩
      · exact w.ok x hx
    · cases ws with
      | nil =>
        intro z
        have z' : n % B = 0 := Option.some.inj z
        have hn' : n / B = 0 := hn.symm
        rw [z', hn', Int.mul_zero] at e
        omega
      | cons u v => rw [List.getLast?_cons_cons]; exact la
    · show n % B + B * num B ws = n
      rw [hn]
      omega
theorem num_take_succ (B : Int) (xs : List Int) (j : Nat) : num B (xs.take (j + 1)) = num B (xs.take j) + B ^ j * xs.getD j 0 := by
  by_cases h : j < xs.length
  · rw [List.take_succ, List.getElem?_eq_getElem h]
    show num B (xs.take j ++ [xs[j]]) = _
    rw [num_snoc, List.length_take, Nat.min_eq_left (by omega), List.getD_eq_getElem?_getD, List.getElem?_eq_getElem h]
    rfl
  · rw [List.take_of_length_le (by omega), List.take_of_length_le (by omega), List.getD_eq_getElem?_getD, List.getElem?_eq_none (by omega)]
    show _ = _ + B ^ j * 0
    omega
theorem Wds.getD {B : Int} (hB : 0 < B) {ws : List Int} (h : Wds B ws) (j : Nat) : 0 ≤ ws.getD j 0 ∧ ws.getD j 0 < B := by
  by_cases hj : j < ws.length
  · rw [List.getD_eq_getElem?_getD, List.getElem?_eq_getElem hj]
    exact h.ok _ (List.getElem_mem hj)
  · rw [List.getD_eq_getElem?_getD, List.getElem?_eq_none (by omega)]
    exact ⟨Int.le_refl _, hB⟩
theorem Wds.nil (B : Int) : Wds B [] := ⟨fun x hx => by simp at hx⟩
theorem sum_on {B c : Int} (hB : 0 < B) {xs ys zs : List Int} {j : Nat} (hz : zs.length = j) (h : num B zs + B ^ j * c = num B (xs.take j) + num B (ys.take j)) :
    num B (zs ++ [(xs.getD j 0 + ys.getD j 0 + c) % B]) + B ^ (j + 1) * ((xs.getD j 0 + ys.getD j 0 + c) / B) = num B (xs.take (j + 1)) + num B (ys.take (j + 1)) := by
  have := place_on (t := xs.getD j 0 + ys.getD j 0) (c := c) hB (num B zs) _ j h
  rw [num_snoc, hz, this, num_take_succ, num_take_succ, Int.mul_add]
  omega
theorem carry_on {B x y c : Int} (x0 : 0 ≤ x) (x1 : x < B) (y0 : 0 ≤ y) (y1 : y < B) (c0 : 0 ≤ c) (c1 : c ≤ 1) : 0 ≤ (x + y + c) / B ∧ (x + y + c) / B ≤ 1 := by
  have : 0 < B := by omega
  constructor
  · exact Int.ediv_nonneg (by omega) (by omega)
  · have : (x + y + c) / B < 2 := Int.ediv_lt_of_lt_mul (by omega) (by omega)
    omega
theorem prod_on {B c m x : Int} (hB : 0 < B) {xs zs : List Int} {j : Nat} (hz : zs.length = j) (hx : xs[j]? = some x) (h : num B zs + B ^ j * c = num B (xs.take j) * m) :
    num B (zs ++ [(x * m + c) % B]) + B ^ (j + 1) * ((x * m + c) / B) = num B (xs.take (j + 1)) * m := by
  have := place_on (t := x * m) (c := c) hB (num B zs) _ j h
  have g : xs.getD j 0 = x := by rw [List.getD_eq_getElem?_getD, hx]; rfl
  rw [num_snoc, hz, this, num_take_succ, g, Int.add_mul, Int.mul_assoc]
theorem prod_carry {B x m c : Int} (x0 : 0 ≤ x) (x1 : x < B) (m0 : 0 ≤ m) (m1 : m < B) (c0 : 0 ≤ c) (c1 : c < B) : 0 ≤ x * m + c ∧ 0 ≤ (x * m + c) / B ∧ (x * m + c) / B < B := by
  have hB : 0 < B := by omega
  have a := Int.mul_nonneg x0 m0
  have b : x * m ≤ (B - 1) * (B - 1) := Int.mul_le_mul (by omega) (by omega) m0 (by omega)
  have e : (B - 1) * (B - 1) + (B - 1) = B * B - B := by
    rw [Int.sub_mul, Int.mul_sub, Int.one_mul, Int.mul_one]
    omega
  refine ⟨by omega, Int.ediv_nonneg (by omega) (by omega), Int.ediv_lt_of_lt_mul hB (by omega)⟩
theorem num_zeros (B : Int) (q : Nat) (ys : List Int) : num B (List.replicate q 0 ++ ys) = B ^ q * num B ys := by
  induction q with
  | zero => show num B ys = B ^ 0 * _; rw [Int.pow_zero, Int.one_mul]
  | succ q ih =>
    show 0 + B * num B (List.replicate q 0 ++ ys) = _
    rw [ih, Int.pow_succ, Int.mul_comm (B ^ q) B, Int.mul_assoc]
    omega
theorem sum_last {B : Int} (hB : 1 < B) {xs ys zs : List Int} (wx : Wds B xs) (wy : Wds B ys) (wz : Wds B zs) (lx : xs.getLast? ≠ some 0) (ly : ys.getLast? ≠ some 0) (hl : zs.length = max xs.length ys.length) (e : num B zs = num B xs + num B ys) : zs.getLast? ≠ some 0 := by
  by_cases hn : zs = []
  · rw [hn]; exact fun z => nomatch z
  have x0 := num_nonneg (by omega) wx
  have y0 := num_nonneg (by omega) wy
  refine last_of (by omega) wz ?_ hn
  have : zs.length ≠ 0 := fun z => hn (List.eq_nil_of_length_eq_zero z)
  by_cases c : xs.length ≤ ys.length
  · have g := ge_of (by omega) wy (by intro z; rw [z] at c hl; simp at c hl; rw [c] at hl; simp at hl; exact hn hl) ly
    rw [hl, Nat.max_eq_right c]
    omega
  · have g := ge_of (by omega) wx (by intro z; rw [z] at c; simp at c) lx
    rw [hl, Nat.max_eq_left (by omega)]
    omega
theorem num_drop_div {B : Int} (hB : 0 < B) {ws : List Int} (w : Wds B ws) : ∀ k, num B ws / B ^ k = num B (ws.drop k) := by
  intro k
  by_cases h : k ≤ ws.length
  · have e : num B ws = num B (ws.take k) + B ^ k * num B (ws.drop k) := by
      have := num_app B (ws.take k) (ws.drop k)
      rw [List.take_append_drop, List.length_take, Nat.min_eq_left h] at this
      exact this
    have wt : Wds B (ws.take k) := ⟨fun x hx => w.ok x (List.mem_of_mem_take hx)⟩
    have a := num_nonneg hB wt
    have b := num_lt hB wt
    rw [List.length_take, Nat.min_eq_left h] at b
    rw [e, Int.add_mul_ediv_left _ _ (Int.ne_of_gt (Int.pow_pos hB)), Int.ediv_eq_zero_of_lt a b, Int.zero_add]
  · rw [List.drop_of_length_le (by omega)]
    show _ = (0 : Int)
    refine Int.ediv_eq_zero_of_lt (num_nonneg hB w) ?_
    refine Int.lt_of_lt_of_le (num_lt hB w) ?_
    have e : k = ws.length + (k - ws.length) := by omega
    rw [e, Int.pow_add]
    have : B ^ ws.length * 1 ≤ B ^ ws.length * B ^ (k - ws.length) := Int.mul_le_mul_of_nonneg_left (Int.pow_pos hB) (Int.le_of_lt (Int.pow_pos hB))
    omega
theorem pow_split {i k : Int} (h : 0 < i) (k0 : 0 ≤ k) : ((2 : Int) ^ i.toNat) ^ (k / i).toNat * 2 ^ (k % i).toNat = 2 ^ k.toNat := by
  have a := Int.ediv_nonneg k0 (Int.le_of_lt h)
  have b := Int.emod_nonneg k (show i ≠ 0 by omega)
  have e := Int.mul_ediv_add_emod k i
  rw [← Int.pow_mul, ← Int.pow_add]
  congr 1
  have e2 : i * (k / i) = ((i.toNat * (k / i).toNat : Nat) : Int) := by rw [Int.natCast_mul, Int.toNat_of_nonneg (by omega), Int.toNat_of_nonneg a]
  omega
theorem len_of_le {B : Int} (hB : 1 < B) {xs ys : List Int} (wx : Wds B xs) (wy : Wds B ys) (ly : ys.getLast? ≠ some 0) (h : num B ys ≤ num B xs) : ys.length ≤ xs.length :=
  len_le hB wy ly (Int.lt_of_le_of_lt h (num_lt (by omega) wx))
def cmpI (a b : Int) : Int := if a < b then -1 else if b < a then 1 else 0
theorem cmp_lt {a b : Int} (h : a < b) : cmpI a b = -1 := if_pos h
theorem cmp_gt {a b : Int} (h : b < a) : cmpI a b = 1 := by unfold cmpI; rw [if_neg (by omega), if_pos h]
theorem cmp_eq {a b : Int} (h : a = b) : cmpI a b = 0 := by unfold cmpI; rw [if_neg (by omega), if_neg (by omega)]
theorem lt_of_len {B : Int} (hB : 1 < B) {xs ys : List Int} (wx : Wds B xs) (wy : Wds B ys) (ly : ys.getLast? ≠ some 0) (h : xs.length < ys.length) : num B xs < num B ys := by
  refine Int.lt_of_not_ge fun c => ?_
  have := len_of_le hB wx wy ly c
  omega
theorem lt_at {B : Int} (hB : 0 < B) {xs ys : List Int} (wx : Wds B xs) (wy : Wds B ys) {p : Nat} (hx : p < xs.length) (hy : p < ys.length) (hd : xs.drop (p + 1) = ys.drop (p + 1)) (h : xs[p] < ys[p]) : num B xs < num B ys := by
  have e : ∀ (ws : List Int) (hp : p < ws.length), num B ws = num B (ws.take p) + B ^ p * (ws[p] + B * num B (ws.drop (p + 1))) := fun ws hp => by
    have := num_app B (ws.take p) (ws.drop p)
    rw [List.take_append_drop, List.length_take, Nat.min_eq_left (by omega), List.drop_eq_getElem_cons hp] at this
    exact this
  rw [e xs hx, e ys hy, hd]
  have a := num_lt hB (show Wds B (xs.take p) from ⟨fun x hx => wx.ok x (List.mem_of_mem_take hx)⟩)
  rw [List.length_take, Nat.min_eq_left (by omega)] at a
  have b := num_nonneg hB (show Wds B (ys.take p) from ⟨fun x hx => wy.ok x (List.mem_of_mem_take hx)⟩)
  have c : B ^ p * (xs[p] + B * num B (ys.drop (p + 1)) + 1) ≤ B ^ p * (ys[p] + B * num B (ys.drop (p + 1))) := Int.mul_le_mul_of_nonneg_left (by omega) (Int.le_of_lt (Int.pow_pos hB))
  rw [Int.mul_add _ _ 1, Int.mul_one] at c
  omega
theorem lt_of_mul_lt' {a b c : Int} (hc : 0 < c) (h : a * c < b * c) : a < b := by
  refine Int.lt_of_not_ge fun z => ?_
  have := Int.mul_le_mul_of_nonneg_right z (Int.le_of_lt hc)
  omega
theorem num_upto {B : Int} (hB : 0 < B) {ws : List Int} (w : Wds B ws) (k : Nat) : 0 ≤ num B (ws.take k) ∧ num B (ws.take k) < B ^ k := by
  have wt : Wds B (ws.take k) := ⟨fun x hx => w.ok x (List.mem_of_mem_take hx)⟩
  refine ⟨num_nonneg hB wt, ?_⟩
  refine Int.lt_of_lt_of_le (num_lt hB wt) ?_
  rw [List.length_take]
  by_cases c : k ≤ ws.length
  · rw [Nat.min_eq_left c]; exact Int.le_refl _
  · rw [Nat.min_eq_right (by omega)]
    by_cases hB1 : B = 1
    · rw [hB1, Int.one_pow, Int.one_pow]; exact Int.le_refl _
    · exact Int.le_of_lt (pow_lt_pow (by omega) (by omega))
theorem top_le {B : Int} (hB : 0 < B) {ws : List Int} (w : Wds B ws) {n : Nat} (hn : ws.length = n + 1) : ws.getD n 0 * B ^ n ≤ num B ws ∧ num B ws < (ws.getD n 0 + 1) * B ^ n := by
  have a := num_take_succ B ws n
  have b := num_upto hB w n
  rw [List.take_of_length_le (by omega)] at a
  rw [a, Int.add_mul, Int.one_mul, Int.mul_comm (B ^ n)]
  omega
theorem two_le {B : Int} (hB : 0 < B) {ws : List Int} (w : Wds B ws) {n : Nat} (hn : ws.length ≤ n + 2) : (ws.getD (n + 1) 0 * B + ws.getD n 0) * B ^ n ≤ num B ws ∧ num B ws < (ws.getD (n + 1) 0 * B + ws.getD n 0 + 1) * B ^ n := by
  have a := num_take_succ B ws n
  have a2 := num_take_succ B ws (n + 1)
  have b := num_upto hB w n
  rw [List.take_of_length_le (by omega : ws.length ≤ n + 1 + 1), Int.pow_succ] at a2
  have e : B ^ n * B * ws.getD (n + 1) 0 = ws.getD (n + 1) 0 * B * B ^ n := by
    rw [Int.mul_comm (B ^ n * B), Int.mul_comm (B ^ n) B, Int.mul_assoc]
  rw [a2, a, e, Int.add_mul _ 1, Int.add_mul, Int.one_mul, Int.mul_comm (B ^ n) (ws.getD n 0)]
  omega
theorem turn_ok {b : Int} {w : Nat} (b0 : 0 < b) (b1 : b < 2 ^ w) : b.natAbs.log2 + 1 ≤ w ∧ (2 : Int) ^ (w - 1) ≤ b * 2 ^ (w - (b.natAbs.log2 + 1)) ∧ (b + 1) * 2 ^ (w - (b.natAbs.log2 + 1)) ≤ 2 ^ w := by
  have hb : ((b.natAbs : Nat) : Int) = b := by omega
  have n0 : b.natAbs ≠ 0 := by omega
  have hlt : b.natAbs < 2 ^ w := by
    have : ((b.natAbs : Nat) : Int) < ((2 ^ w : Nat) : Int) := by rw [hb, Int.natCast_pow]; exact b1
    exact Int.ofNat_lt.mp this
  have l1 := (Nat.log2_lt n0).mpr hlt
  have l2 := Nat.log2_self_le n0
  have l3 : b.natAbs < 2 ^ (b.natAbs.log2 + 1) := Nat.lt_log2_self
  have i2 : (2 : Int) ^ b.natAbs.log2 ≤ b := by
    have := Int.ofNat_le.mpr l2
    rw [hb, Int.natCast_pow] at this
    exact this
  have i3 : b + 1 ≤ (2 : Int) ^ (b.natAbs.log2 + 1) := by
    have := Int.ofNat_lt.mpr l3
    rw [hb, Int.natCast_pow] at this
    have t : b < (2 : Int) ^ (b.natAbs.log2 + 1) := this
    omega
  generalize b.natAbs.log2 = k at *
  have p : (0 : Int) < 2 ^ (w - (k + 1)) := Int.pow_pos (by decide)
  refine ⟨by omega, ?_, ?_⟩
  · have e : (2 : Int) ^ (w - 1) = 2 ^ k * 2 ^ (w - (k + 1)) := by
      rw [← Int.pow_add]
      congr 1
      omega
    rw [e]
    exact Int.mul_le_mul_of_nonneg_right i2 (by omega)
  · have e : (2 : Int) ^ w = 2 ^ (k + 1) * 2 ^ (w - (k + 1)) := by
      rw [← Int.pow_add]
      congr 1
      omega
    rw [e]
    exact Int.mul_le_mul_of_nonneg_right i3 (by omega)
theorem lower_ok {B T Hf : Int} (hB : 1 < B) (hH : 0 < Hf) {ys ls : List Int} {n : Nat} (wy : Wds B ys) (wl : Wds B ls) (ll : ls.getLast? ≠ some 0) (hn : ys.length = n + 1) (T0 : 0 < T) (h1 : Hf ≤ ys.getD n 0 * T) (h2 : (ys.getD n 0 + 1) * T ≤ B) (e : num B ls = num B ys * T) :
    ls.length = n + 1 ∧ Hf ≤ ls.getD n 0 := by
  have p : 0 < B ^ n := Int.pow_pos (by omega)
  obtain ⟨a1, a2⟩ := top_le (by omega) wy hn
  have b1 : ys.getD n 0 * B ^ n * T ≤ num B ls := by rw [e]; exact Int.mul_le_mul_of_nonneg_right a1 (by omega)
  have b2 : num B ls < (ys.getD n 0 + 1) * B ^ n * T := by rw [e]; exact Int.mul_lt_mul_of_pos_right a2 T0
  have c1 : Hf * B ^ n ≤ num B ls := by
    have : Hf * B ^ n ≤ ys.getD n 0 * T * B ^ n := Int.mul_le_mul_of_nonneg_right h1 (by omega)
    rw [Int.mul_right_comm] at b1
    omega
  have c2 : num B ls < B ^ (n + 1) := by
    have : (ys.getD n 0 + 1) * T * B ^ n ≤ B * B ^ n := Int.mul_le_mul_of_nonneg_right h2 (by omega)
    rw [Int.mul_right_comm] at b2
    rw [Int.pow_succ, Int.mul_comm]
    omega
  have d1 := len_le hB wl ll c2
  have d2 : ls.length = n + 1 := by
    refine Nat.le_antisymm d1 (Nat.le_of_not_lt fun z => ?_)
    have f := num_lt (by omega) wl
    have g : B ^ ls.length ≤ B ^ n := by
      by_cases q : ls.length = n
      · rw [q]; exact Int.le_refl _
      · exact Int.le_of_lt (pow_lt_pow hB (by omega))
    have : 1 * B ^ n ≤ Hf * B ^ n := Int.mul_le_mul_of_nonneg_right (by omega) (by omega)
    omega
  refine ⟨d2, ?_⟩
  have f := (top_le (by omega) wl d2).2
  have g := lt_of_mul_lt' p (Int.lt_of_le_of_lt c1 f)
  omega
theorem ahead_lt {B T : Int} (hB : 1 < B) {xs ys : List Int} {m : Nat} (wx : Wds B xs) (wy : Wds B ys) (hy : ys ≠ []) (ly : ys.getLast? ≠ some 0) (T0 : 0 < T) (hm : xs.length ≤ ys.length - 1 + m) : num B xs * T / B ^ m < num B ys * T := by
  have p : 0 < B ^ m := Int.pow_pos (by omega)
  refine Int.ediv_lt_of_lt_mul p ?_
  have a := num_lt (by omega) wx
  have b := ge_of (by omega) wy hy ly
  have c : B ^ xs.length ≤ B ^ (ys.length - 1) * B ^ m := by
    rw [← Int.pow_add]
    by_cases q : xs.length = ys.length - 1 + m
    · rw [q]; exact Int.le_refl _
    · exact Int.le_of_lt (pow_lt_pow hB (by omega))
  have d : B ^ (ys.length - 1) * B ^ m ≤ num B ys * B ^ m := Int.mul_le_mul_of_nonneg_right b (by omega)
  have e : num B xs * T < num B ys * B ^ m * T := Int.mul_lt_mul_of_pos_right (by omega) T0
  rw [Int.mul_right_comm] at e
  exact e
def rJ (B U L : Int) (m j : Nat) : Int := U / B ^ (m - j) % L
def qJ (B U L : Int) (m j : Nat) : Int := U / B ^ (m - j) / L
def nJ (B U L : Int) (m j : Nat) : Int := rJ B U L m j * B + U / B ^ (m - 1 - j) % B
def dJ (B U L : Int) (m j : Nat) : Int := nJ B U L m j / L
def gOf (B L N : Int) (n : Nat) : Int := if N / B ^ n / (if L / B ^ n > 1 then L / B ^ n else 1) < B - 1 then N / B ^ n / (if L / B ^ n > 1 then L / B ^ n else 1) else B - 1
theorem rJ_range {B U L : Int} {m : Nat} (L0 : 0 < L) (j : Nat) : 0 ≤ rJ B U L m j ∧ rJ B U L m j < L := ⟨Int.emod_nonneg _ (by omega), Int.emod_lt_of_pos _ L0⟩
theorem nJ_range {B U L : Int} {m : Nat} (B0 : 0 < B) (L0 : 0 < L) (j : Nat) : 0 ≤ nJ B U L m j ∧ nJ B U L m j < B * L := by
  have a := rJ_range (B := B) (U := U) (m := m) L0 j
  have b := Int.emod_nonneg (U / B ^ (m - 1 - j)) (show B ≠ 0 by omega)
  have c := Int.emod_lt_of_pos (U / B ^ (m - 1 - j)) B0
  unfold nJ
  refine ⟨Int.add_nonneg (Int.mul_nonneg a.1 (by omega)) b, ?_⟩
  have d : (rJ B U L m j + 1) * B ≤ L * B := Int.mul_le_mul_of_nonneg_right (by omega) (by omega)
  rw [Int.add_mul, Int.one_mul, Int.mul_comm L] at d
  omega
theorem dJ_range {B U L : Int} {m : Nat} (B0 : 0 < B) (L0 : 0 < L) (j : Nat) : 0 ≤ dJ B U L m j ∧ dJ B U L m j < B := by
  have a := nJ_range (B := B) (U := U) (m := m) B0 L0 j
  exact ⟨Int.ediv_nonneg a.1 (by omega), Int.ediv_lt_of_lt_mul L0 a.2⟩
theorem stepJ {B U L : Int} {m j : Nat} (B0 : 0 < B) (L0 : 0 < L) (hj : j < m) : rJ B U L m (j + 1) = nJ B U L m j - dJ B U L m j * L ∧ qJ B U L m (j + 1) = qJ B U L m j * B + dJ B U L m j := by
  have e1 : m - (j + 1) = m - 1 - j := by omega
  have e2 : m - j = m - 1 - j + 1 := by omega
  unfold dJ nJ rJ qJ
  rw [e1, e2]
  generalize m - 1 - j = p
  have a : U / B ^ (p + 1) = U / B ^ p / B := by rw [Int.pow_succ, ← Int.ediv_ediv_of_nonneg (Int.le_of_lt (Int.pow_pos B0))]
  rw [a]
  generalize U / B ^ p = A
  have h1 : A = A / B * B + A % B := by have := Int.mul_ediv_add_emod A B; rw [Int.mul_comm] at this; omega
  have h2 : A / B = L * (A / B / L) + A / B % L := (Int.mul_ediv_add_emod _ _).symm
  have h3 : A = (A / B % L * B + A % B) + L * (A / B / L * B) := by
    have : A / B * B = L * (A / B / L) * B + A / B % L * B := by rw [← Int.add_mul, ← h2]
    rw [Int.mul_assoc] at this
    omega
  generalize hn : A / B % L * B + A % B = N at h3 ⊢
  generalize hq : A / B / L = q at h3 ⊢
  rw [h3]
  constructor
  · rw [Int.add_mul_emod_self_left]
    have := Int.mul_ediv_add_emod N L
    rw [Int.mul_comm] at this
    omega
  · rw [Int.add_mul_ediv_left _ _ (by omega)]
    omega
theorem ediv_is {a b q : Int} (hb : 0 < b) (h1 : q * b ≤ a) (h2 : a < (q + 1) * b) : a / b = q := by
  have x := (Int.le_ediv_iff_mul_le hb).mpr h1
  have y := (Int.ediv_lt_iff_lt_mul hb).mpr h2
  omega
theorem digit_at {B : Int} (hB : 0 < B) {us : List Int} (wu : Wds B us) (p : Nat) : us.getD p 0 = num B us / B ^ p % B := by
  rw [num_drop_div hB wu p]
  by_cases c : p < us.length
  · have e : us.drop p = us[p] :: us.drop (p + 1) := List.drop_eq_getElem_cons c
    have b := wu.ok us[p] (List.getElem_mem c)
    rw [e, List.getD_eq_getElem?_getD, List.getElem?_eq_getElem c]
    show us[p] = (us[p] + B * num B (us.drop (p + 1))) % B
    rw [Int.add_mul_emod_self_left, Int.emod_eq_of_lt b.1 b.2]
  · rw [List.drop_of_length_le (by omega), List.getD_eq_getElem?_getD, List.getElem?_eq_none (by omega)]
    show (0 : Int) = 0 % B
    rw [Int.zero_emod]
theorem pow_at {i : Int} (h : 0 ≤ i) (k : Nat) : (2 : Int) ^ (i * (k : Int)).toNat = (2 ^ i.toNat) ^ k := by
  rw [← Int.pow_mul]
  congr 1
  obtain ⟨a, rfl⟩ : ∃ a : Nat, i = (a : Int) := ⟨i.toNat, by omega⟩
  rw [← Int.natCast_mul, Int.toNat_natCast, Int.toNat_natCast]
theorem pw_bounds {w : Int} (h1 : 4 ≤ w) (h2 : w ≤ 32) : 16 ≤ (2 : Int) ^ w.toNat ∧ (2 : Int) ^ w.toNat ≤ 4294967296 := by
  have a : (2 : Int) ^ 4 ≤ 2 ^ w.toNat := p_mono (by omega)
  have b : (2 : Int) ^ w.toNat ≤ 2 ^ 32 := p_mono (by omega)
  exact ⟨a, b⟩
theorem log_small {m : Int} (h0 : 0 < m) (h : m < 2 ^ 64) : m.natAbs.log2 < 9000 := by
  have h1 : m.natAbs ≠ 0 := by omega
  have h2 : m.natAbs < 2 ^ 64 := by omega
  have := (Nat.log2_lt h1).mpr h2
  omega
theorem cpow1 {w : Int} (h1 : 0 ≤ w) (h2 : w ≤ 100000) : CPow 1 w := ⟨h1, by omega, by decide⟩
theorem cmul_mod {x y m : Int} (h0 : 0 < m) (h : m ≤ 2 ^ 64) : CMul (x % m) y := by
  have a := Int.emod_nonneg x (show m ≠ 0 by omega)
  have b := Int.emod_lt_of_pos x h0
  exact .inl ⟨by omega, by omega⟩
theorem cmul_l {x y : Int} (h0 : 0 ≤ x) (h : x < 2 ^ 64) : CMul x y := .inl ⟨by omega, h⟩
def spWhole : Sp := fun vs H Q _ => ∃ i : Int, vs = [.int i] ∧ Q (.bl true) H
def spNeedW : Sp := fun vs H Q _ => ∃ i : Int, vs = [.int i] ∧ 4 ≤ i ∧ i ≤ 32 ∧ Q .non H
def spLaw (K : PySem.W.Frag) : Sp := fun vs H Q _ => ∃ (a : Addr) (ns : List Int), vs = [.ref a] ∧ SqL K H a (ns.map V.int) ∧ ns.length ≤ 63 ∧ ∀ H', Q (.bl true) H'
def DrOk (xs ms : List Int) : Prop := xs.length = ms.length ∧ ∀ (j : Nat) (x m : Int), xs[j]? = some x → ms[j]? = some m → 0 ≤ x ∧ x < m
def spDrawn : Sp := fun vs H Q _ => ∃ (c : Int) (z : Addr) (ms : List Int), vs = [.int c, .ref z] ∧ H z = some (.lst (ms.map V.int)) ∧ (∀ m ∈ ms, 0 < m ∧ m ≤ 4294967296) ∧ ms.length ≤ 1000 ∧ ∀ (l : Addr) (xs : List Int) H', H l = none → H' l = some (.lst (xs.map V.int)) → Same H H' → DrOk xs ms → Q (.ref l) H'
theorem at_last {xs : List Int} {s : Int} (h : xs[xs.length - 1]? = some s) : atI (xs.map V.int) (-1) = some (.int s) := by
  have hl := (List.getElem?_eq_some_iff.mp h).1
  have e : ixN (xs.map V.int).length (-1) = some (xs.length - 1) := by
    unfold ixN
    rw [if_neg (by decide), List.length_map, if_pos (by omega)]
    congr 1
    omega
  unfold atI
  rw [e]
  show (xs.map V.int)[xs.length - 1]? = _
  rw [List.getElem?_map, h]
  rfl
theorem at_nat {xs : List Int} {j : Nat} {s : Int} (h : xs[j]? = some s) : atI (xs.map V.int) (j : Int) = some (.int s) := atI_nat (by rw [List.getElem?_map, h] <;> rfl)
theorem dr_nil : DrOk [] [] := ⟨rfl, fun j x m h _ => by simp at h⟩
theorem dr_snoc {xs ms : List Int} {x m : Int} (d : DrOk xs ms) (h0 : 0 ≤ x) (h1 : x < m) : DrOk (xs ++ [x]) (ms ++ [m]) := by
  obtain ⟨a, b⟩ := d
  refine ⟨by simp [a], fun j y k hy hk => ?_⟩
  by_cases hj : j < xs.length
  · rw [List.getElem?_append_left hj] at hy
    rw [List.getElem?_append_left (by omega)] at hk
    exact b j y k hy hk
  · rw [List.getElem?_append_right (by omega)] at hy
    rw [List.getElem?_append_right (by omega)] at hk
    have e : j - xs.length = 0 := by
      have := (List.getElem?_eq_some_iff.mp hy).1
      simp at this
      omega
    have e2 : j - ms.length = 0 := by omega
    rw [e] at hy
    rw [e2] at hk
    cases hy
    cases hk
    exact ⟨h0, h1⟩
theorem take_snoc {ms : List Int} {j : Nat} {m : Int} (h : ms[j]? = some m) : ms.take (j + 1) = ms.take j ++ [m] := by
  obtain ⟨hj, e⟩ := List.getElem?_eq_some_iff.mp h
  rw [List.take_succ, h]
  rfl
def isL (w : Int) (xs : List V) : Bool := xs.all (fun x => btw x 0 (1 * 2 ^ w.toNat - 1)) && (xs.isEmpty || !decide (xs.getLast? = some (V.int 0)))
def spHasL : Sp := fun vs H Q _ => ∃ (w : Int) (x : V), vs = [.int w, x] ∧ 4 ≤ w ∧ w ≤ 32 ∧ ((∃ (a : Addr) (xs : List V), x = .ref a ∧ H a = some (.lst xs) ∧ (∀ y ∈ xs, Th H y) ∧ xs.length ≤ 1000 ∧ ∀ H', Same H H' → Q (.bl (isL w xs)) H') ∨ ((x = .non ∨ ∃ (a : Addr) (xs : List V), x = .ref a ∧ H a = some (.tup xs)) ∧ ∀ H', Same H H' → Q (.bl false) H'))
structure Lg (w : Int) (ws : List Int) : Prop where
  wd : Wds (2 ^ w.toNat) ws
  la : ws.getLast? ≠ some 0
  ln : ws.length ≤ 100
def spNeedL : Sp := fun vs H Q _ => ∃ (w : Int) (a : Addr) (ws : List Int), vs = [.int w, .ref a] ∧ 4 ≤ w ∧ w ≤ 32 ∧ H a = some (.lst (ws.map V.int)) ∧ Lg w ws ∧ ∀ H', Same H H' → Q .non H'
theorem isL_of {w : Int} {ws : List Int} (h : Lg w ws) : isL w (ws.map V.int) = true := by
  unfold isL
  rw [Bool.and_eq_true]
  constructor
  · rw [List.all_eq_true]
    intro x hx
    obtain ⟨i, hi, rfl⟩ := List.mem_map.mp hx
    have := h.wd.ok i hi
    show (decide (0 ≤ i) && decide (i ≤ 1 * 2 ^ w.toNat - 1)) = true
    rw [decide_eq_true (by omega), decide_eq_true (by omega)]
    rfl
  · cases ws with
    | nil => rfl
    | cons x r =>
      have e : ((x :: r).map V.int).getLast? ≠ some (V.int 0) := by
        rw [List.getLast?_map]
        intro z
        have la := h.la
        cases hl : (x :: r).getLast? with
        | none => rw [hl] at z; cases z
        | some y =>
          rw [hl] at z la
          have : y = 0 := by
            have := Option.some.inj z
            injection this
          exact la (by rw [this])
      rw [decide_eq_false e]
      rfl
theorem th_ints (H : Hp) (ws : List Int) : ∀ y ∈ ws.map V.int, Th H y := fun y hy => by
  obtain ⟨i, _, rfl⟩ := List.mem_map.mp hy
  exact .int i
theorem bits_num {w : Int} {ws : List Int} (h1 : 4 ≤ w) (h2 : w ≤ 32) (h : Wds (2 ^ w.toNat) ws) (hl : ws.length ≤ 200) : intBits (num (2 ^ w.toNat) ws) ≤ 6400 := by
  have a := num_nonneg (p_pos w.toNat) h
  have b := num_lt (p_pos w.toNat) h
  refine intBits_le_iff.mpr ?_
  have e : ((2 : Int) ^ w.toNat) ^ ws.length = 2 ^ (w.toNat * ws.length) := (Int.pow_mul ..).symm
  rw [e] at b
  have m : w.toNat * ws.length ≤ 32 * 200 := Nat.mul_le_mul (by omega) hl
  have c : (2 : Int) ^ (w.toNat * ws.length) ≤ 2 ^ 6400 := p_mono (by omega)
  have d : ((2 ^ 6400 : Nat) : Int) = (2 : Int) ^ 6400 := Int.natCast_pow 2 6400
  have f : (num (2 ^ w.toNat) ws).natAbs < 2 ^ 6400 := by
    have g : ((num (2 ^ w.toNat) ws).natAbs : Int) = num (2 ^ w.toNat) ws := by omega
    have : ((num (2 ^ w.toNat) ws).natAbs : Int) < ((2 ^ 6400 : Nat) : Int) := by rw [g, d]; exact Int.lt_of_lt_of_le b c
    exact Int.ofNat_lt.mp this
  exact f
theorem drop_last {ws : List Int} {k : Nat} (hk : k < ws.length) : (ws.drop k).getLast? = ws.getLast? := by
  rw [List.getLast?_drop, if_neg (by omega)]
theorem kit_non_lst (K : PySem.W.Frag) : PySem.W.kitOne K (.type "NoneType") (.type "list") = some false := by with_unfolding_all rfl
theorem kit_tup_lst (K : PySem.W.Frag) : PySem.W.kitOne K (.type "tuple") (.type "list") = some false := by with_unfolding_all rfl
theorem or_shift {x y : Int} {n : Nat} (x0 : 0 ≤ x) (y0 : 0 ≤ y) (y1 : y < 2 ^ n) : Builtin.bitOr (x * 2 ^ n) y = x * 2 ^ n + y := by
  have e : Builtin.bitAnd (x * 2 ^ n) y = 0 := by
    rw [bitAnd_pp (Int.mul_nonneg x0 (Int.le_of_lt (p_pos n))) y0]
    have hy : y.toNat < 2 ^ n := by
      have d : ((2 ^ n : Nat) : Int) = (2 : Int) ^ n := Int.natCast_pow 2 n
      have : ((y.toNat : Nat) : Int) < ((2 ^ n : Nat) : Int) := by rw [d]; omega
      exact Int.ofNat_lt.mp this
    have hx : (x * 2 ^ n).toNat = x.toNat * 2 ^ n := by
      have e1 : x * 2 ^ n = ((x.toNat * 2 ^ n : Nat) : Int) := by
        rw [Int.natCast_mul, Int.natCast_pow, Int.toNat_of_nonneg x0]
        rfl
      rw [e1, Int.toNat_natCast]
    rw [hx]
    have z : x.toNat * 2 ^ n &&& y.toNat = 0 := by
      refine Nat.eq_of_testBit_eq fun i => ?_
      rw [Nat.testBit_and, Nat.zero_testBit, Nat.testBit_mul_two_pow]
      by_cases hi : n ≤ i
      · rw [Nat.testBit_lt_two_pow (Nat.lt_of_lt_of_le hy (Nat.pow_le_pow_right (by decide) hi)), Bool.and_false]
      · rw [decide_eq_false hi, Bool.false_and, Bool.false_and]
    rw [z]
    rfl
  rw [bitOr_and, e]
  omega
def spLNum : Sp := fun vs H Q _ => ∃ (a : Addr) (ws : List Int) (w : Int), vs = [.ref a, .int w] ∧ 4 ≤ w ∧ w ≤ 32 ∧ H a = some (.lst (ws.map V.int)) ∧ Wds (2 ^ w.toNat) ws ∧ ws.length ≤ 100 ∧ ∀ H', Same H H' → Q (.int (num (2 ^ w.toNat) ws)) H'
def spSame : Sp := fun vs H Q _ => ∃ (a b : Addr) (ws : List Int), vs = [.ref a, .ref b] ∧ H a = some (.lst (ws.map V.int)) ∧ H b = some (.lst (ws.map V.int)) ∧ ws.length ≤ 1000 ∧ Q (.bl true) H
structure Ln (w : Int) (ws : List Int) : Prop where
  wd : Wds (2 ^ w.toNat) ws
  la : ws.getLast? ≠ some 0
theorem Lg.ln' {w : Int} {ws : List Int} (h : Lg w ws) : Ln w ws := ⟨h.wd, h.la⟩
def spNeedLs : Sp := fun vs H Q _ => ∃ (w : Int) (a b : Addr) (xs ys : List Int), vs = [.int w, .ref a, .ref b] ∧ 4 ≤ w ∧ w ≤ 32 ∧ H a = some (.lst (xs.map V.int)) ∧ H b = some (.lst (ys.map V.int)) ∧ Lg w xs ∧ Lg w ys ∧ ∀ H', Same H H' → Q .non H'
def spTrim : Sp := fun vs H Q _ => ∃ (a : Addr) (ws : List Int), vs = [.ref a] ∧ H a = some (.lst (ws.map V.int)) ∧ ws.length ≤ 1000 ∧ ∀ (p : Addr) (k : Nat) H', H p = none → H' p = some (.lst ((ws.take k).map V.int)) → k ≤ ws.length → (∀ B, num B (ws.take k) = num B ws) → (ws.take k).getLast? ≠ some 0 → Same H H' → Q (.ref p) H'
def spWAt : Sp := fun vs H Q _ => ∃ (a : Addr) (ws : List Int) (p v : Int), vs = [.ref a, .int p] ∧ H a = some (.lst (ws.map V.int)) ∧ 0 ≤ p ∧ ws.getD p.toNat 0 = v ∧ Q (.int v) H
theorem cut_to (ws : List Int) (k : Nat) (h : k ≤ ws.length) : cutV (ws.map V.int) none (some (k : Int)) = (ws.take k).map V.int := by
  unfold cutV
  show ((ws.map V.int).drop 0).take ((if (k : Int) < 0 then ((k : Int) + ((ws.map V.int).length : Int)).toNat else min (k : Int).toNat (ws.map V.int).length) - 0) = _
  rw [List.drop_zero, Nat.sub_zero, if_neg (by omega), List.length_map, Int.toNat_natCast, Nat.min_eq_left h, List.map_take]
theorem take_last {ws : List Int} {k : Nat} (h0 : 0 < k) (h : k ≤ ws.length) : (ws.take k).getLast? = ws[k - 1]? := by
  rw [List.getLast?_eq_getElem?, List.length_take, Nat.min_eq_left h, List.getElem?_take_of_lt (by omega)]
def LL (H : Hp) (w : Int) (a b : Addr) (xs ys : List Int) : Prop := 4 ≤ w ∧ w ≤ 32 ∧ H a = some (.lst (xs.map V.int)) ∧ H b = some (.lst (ys.map V.int)) ∧ Lg w xs ∧ Lg w ys
abbrev nm (w : Int) (xs : List Int) : Int := num (2 ^ w.toNat) xs
def spCmp : Sp := fun vs H Q _ => ∃ (w : Int) (a b : Addr) (xs ys : List Int), vs = [.ref a, .ref b] ∧ LL H w a b xs ys ∧ Q (.int (cmpI (nm w xs) (nm w ys))) H
theorem LL.same {H H' : Hp} {w : Int} {a b : Addr} {xs ys : List Int} (h : LL H w a b xs ys) (s : Same H H') : LL H' w a b xs ys := ⟨h.1, h.2.1, s _ _ h.2.2.1, s _ _ h.2.2.2.1, h.2.2.2.2⟩
def spPBW : Sp := fun vs H Q _ => ∃ (w : Int) (a : Addr) (m : Int) (xs : List Int), vs = [.int w, .ref a, .int m] ∧ 4 ≤ w ∧ w ≤ 32 ∧ H a = some (.lst (xs.map V.int)) ∧ Wds (2 ^ w.toNat) xs ∧ xs.length ≤ 300 ∧ 0 ≤ m ∧ m < 2 ^ w.toNat ∧
  ∀ (p : Addr) (zs : List Int) H', H p = none → H' p = some (.lst (zs.map V.int)) → Ln w zs → num (2 ^ w.toNat) zs = num (2 ^ w.toNat) xs * m → zs.length ≤ xs.length + 1 → Same H H' → Q (.ref p) H'
def spML : Sp := fun vs H Q _ => ∃ (w : Int) (a : Addr) (m : Int) (xs : List Int), vs = [.int w, .ref a, .int m] ∧ 4 ≤ w ∧ w ≤ 32 ∧ H a = some (.lst (xs.map V.int)) ∧ Lg w xs ∧ 0 ≤ m ∧ m ≤ 64 ∧
  ∀ (p : Addr) (zs : List Int) H', H p = none → H' p = some (.lst (zs.map V.int)) → Ln w zs → num (2 ^ w.toNat) zs = num (2 ^ w.toNat) xs * 2 ^ m.toNat → zs.length ≤ 200 → Same H H' → Q (.ref p) H'
def spLW : Sp := fun vs H Q _ => ∃ (n w : Int) (ws : List Int), vs = [.int n, .int w] ∧ 4 ≤ w ∧ w ≤ 32 ∧ num (2 ^ w.toNat) ws = n ∧ Ln w ws ∧ ws.length ≤ 300 ∧ ∀ (a : Addr) H', H a = none → H' a = some (.lst (ws.map V.int)) → Same H H' → Q (.ref a) H'
theorem p_pos' (n : Nat) : (0 : Int) < 2 ^ n := Int.pow_pos (by decide)
abbrev lastW (ys : List Int) : Int := ys.getD (ys.length - 1) 0
def turnI (w : Int) (ys : List Int) : Int := w - ((intBits (lastW ys) : Nat) : Int)
def cntN (xs ys : List Int) : Nat := xs.length + 1 - ys.length
def spTT : Sp := fun vs H Q _ => ∃ (w : Int) (b : Addr) (ys : List Int), vs = [.int w, .ref b] ∧ H b = some (.lst (ys.map V.int)) ∧ ys ≠ [] ∧ Q (.int (turnI w ys)) H
def spND : Sp := fun vs H Q _ => ∃ (w : Int) (a b : Addr) (xs ys : List Int), vs = [.int w, .ref a, .ref b] ∧ LL H w a b xs ys ∧ ys ≠ [] ∧ ∀ H', Same H H' → Q .non H'
def spCnt : Sp := fun vs H Q _ => ∃ (a b : Addr) (xs ys : List Int), vs = [.ref a, .ref b] ∧ H a = some (.lst (xs.map V.int)) ∧ H b = some (.lst (ys.map V.int)) ∧ Q (.int ((cntN xs ys : Nat) : Int)) H
structure StIn (w : Int) (ds ls : List Int) : Prop where
  ld : Ln w ds
  ll : Ln w ls
  l1 : 0 < ls.length
  l2 : ls.length ≤ 60
  l3 : ds.length ≤ ls.length + 1
  tp : 2 ^ (w - 1).toNat ≤ lastW ls
  lt : num (2 ^ w.toNat) ds < 2 ^ w.toNat * num (2 ^ w.toNat) ls
def uW (w : Int) (xs ys : List Int) : Int := nm w xs * 2 ^ (turnI w ys).toNat
def lW (w : Int) (ys : List Int) : Int := nm w ys * 2 ^ (turnI w ys).toNat
def spFar : Sp := fun vs H Q _ => ∃ (a : Addr) (ws : List Int) (n w : Int), vs = [.ref a, .int n] ∧ H a = some (.lst (ws.map V.int)) ∧ Lg w ws ∧ ws ≠ [] ∧ 4 ≤ w ∧ w ≤ 32 ∧ 1 ≤ n ∧ n ≤ 40 ∧ ∀ (p : Addr) (us : List Int) H', H p = none → H' p = some (.lst (us.map V.int)) → Lg w us → us ≠ [] → us.length ≤ 45 → Same H H' → Q (.ref p) H'
def spCase : Sp := fun vs H Q _ => ∃ c : Int, vs = [.int c] ∧ ∀ (t a b : Addr) (w : Int) (xs ys : List Int) H', H t = none → H' t = some (.tup [.int w, .ref a, .ref b]) → LL H' w a b xs ys → xs.length ≤ 45 → ys.length ≤ 45 → Same H H' → Q (.ref t) H'
theorem and_mask {x : Int} (x0 : 0 ≤ x) (n : Nat) : Builtin.bitAnd x (1 * 2 ^ n - 1) = x % 2 ^ n := by
  have p := p_pos' n
  rw [Int.one_mul, bitAnd_pp x0 (by omega)]
  have e : ((2 : Int) ^ n - 1).toNat = 2 ^ n - 1 := by
    have d : ((2 ^ n : Nat) : Int) = (2 : Int) ^ n := Int.natCast_pow 2 n
    omega
  rw [e, Nat.and_two_pow_sub_one_eq_mod]
  show ((x.toNat % 2 ^ n : Nat) : Int) = _
  rw [Int.natCast_emod, Int.natCast_pow, Int.toNat_of_nonneg x0]
  rfl
theorem eqV_int (i : Int) : eqV (V.int i) (V.int i) = true := by show (i == i) = true; exact beq_self_eq_true i
def spAdd : Sp := fun vs H Q _ => ∃ (w : Int) (a b : Addr) (xs ys : List Int), vs = [.int w, .ref a, .ref b] ∧ 4 ≤ w ∧ w ≤ 32 ∧ H a = some (.lst (xs.map V.int)) ∧ H b = some (.lst (ys.map V.int)) ∧ Ln w xs ∧ Ln w ys ∧ xs.length ≤ 300 ∧ ys.length ≤ 300 ∧
  ∀ (t p g : Addr) (zs : List Int) H', H t = none → H p = none → H' t = some (.tup [.ref p, .ref g]) → H' p = some (.lst (zs.map V.int)) → Ln w zs → num (2 ^ w.toNat) zs = num (2 ^ w.toNat) xs + num (2 ^ w.toNat) ys → zs.length ≤ max xs.length ys.length + 1 → Same H H' → Q (.ref t) H'
inductive LV (H : Hp) : V → Option (List V) → Prop where
  | lst {a : Addr} {xs : List V} (h : H a = some (.lst xs)) (t : ∀ y ∈ xs, Th H y) (n : xs.length ≤ 1000) : LV H (.ref a) (some xs)
  | int (i : Int) : LV H (.int i) none
  | bl (b : Bool) : LV H (.bl b) none
  | str (x : Str) : LV H (.str x) none
  | non : LV H .non none
  | tup {a : Addr} {xs : List V} (h : H a = some (.tup xs)) : LV H (.ref a) none
  | dct {a : Addr} {kvs : List (Key × V)} (h : H a = some (.dK kvs)) : LV H (.ref a) none
theorem LV.same {H H' : Hp} {v : V} {o : Option (List V)} (l : LV H v o) (s : Same H H') : LV H' v o := by
  cases l with
  | lst h t n => exact .lst (s _ _ h) (fun y hy => (t y hy).same s) n
  | int i => exact .int i
  | bl b => exact .bl b
  | str x => exact .str x
  | non => exact .non
  | tup h => exact .tup (s _ _ h)
  | dct h => exact .dct (s _ _ h)
theorem kit_int_lst (K : PySem.W.Frag) : PySem.W.kitOne K (.type "int") (.type "list") = some false := by with_unfolding_all rfl
theorem kit_bl_lst (K : PySem.W.Frag) : PySem.W.kitOne K (.type "bool") (.type "list") = some false := by with_unfolding_all rfl
theorem kit_str_lst (K : PySem.W.Frag) : PySem.W.kitOne K (.type "str") (.type "list") = some false := by with_unfolding_all rfl
theorem kit_dct_lst (K : PySem.W.Frag) : PySem.W.kitOne K (.type "dict") (.type "list") = some false := by with_unfolding_all rfl
theorem LV.parts {K : PySem.W.Frag} {H : Hp} {v : V} {o : Option (List V)} (l : LV H v o) : (∃ a xs, v = .ref a ∧ o = some xs ∧ H a = some (.lst xs) ∧ (∀ y ∈ xs, Th H y) ∧ xs.length ≤ 1000) ∨ (o = none ∧ ∃ ty, TyOf K H v ty ∧ PySem.W.kitOne K ty (.type "list") = some false) := by
  cases l with
  | lst h t n => exact .inl ⟨_, _, rfl, rfl, h, t, n⟩
  | int i => exact .inr ⟨rfl, _, TyOf.int _, kit_int_lst _⟩
  | bl b => exact .inr ⟨rfl, _, TyOf.bl _, kit_bl_lst _⟩
  | str x => exact .inr ⟨rfl, _, TyOf.str _, kit_str_lst _⟩
  | non => exact .inr ⟨rfl, _, TyOf.non, kit_non_lst _⟩
  | tup h => exact .inr ⟨rfl, _, TyOf.tup h, kit_tup_lst _⟩
  | dct h => exact .inr ⟨rfl, _, TyOf.dK h, kit_dct_lst _⟩
def hasO (w : Int) : Option (List V) → Bool
  | none => false
  | some xs => isL w xs
def spHasO : Sp := fun vs H Q _ => ∃ (w : Int) (x : V) (ox : Option (List V)), vs = [.int w, x] ∧ 4 ≤ w ∧ w ≤ 32 ∧ LV H x ox ∧ ∀ H', Same H H' → Q (.bl (hasO w ox)) H'
local macro_rules | `(tactic| walk_at "s") => `(tactic| first
  | omega | assumption | exact ty_int | exact rfl | (dsimp only; omega) | exact cpow1 (by omega) (by omega) | exact ⟨by decide, by decide⟩ | exact ⟨by omega, log_small (by omega) (by omega)⟩
  | exact .inr ⟨by decide, by decide⟩ | exact .inl ⟨by decide, by decide⟩ | exact .inl ⟨by omega, by omega⟩ | exact .inr ⟨by omega, by omega⟩ | exact ⟨b200 (by omega) (by omega), b200 (by omega) (by omega)⟩
  | exact ⟨by decide, by decide, by decide⟩ | exact Nat.le_of_ble_eq_true rfl)
local macro_rules | `(tactic| walk_at "q") => `(tactic| first | exact SqT.of (by first | assumption | exact upd_same) | exact SqL.of (by first | assumption | exact upd_same) | assumption)
local macro_rules | `(tactic| walk_at "o") => `(tactic| repeat (first
  | refine ⟨_, rfl, ?_⟩ | refine ⟨_, _, rfl, rfl, ?_⟩ | with_reducible refine iteF ?_ | with_reducible refine iteT ?_
  | refine ⟨_, _, _, _, rfl, rfl, (by walk_at "q"), rfl, ?_⟩
  | refine And.intro (by walk_at "s") ?_
  | refine ⟨_, _, rfl, ?_⟩ | refine ⟨_, _, _, rfl, ?_⟩
  | refine ⟨_, _, _, _, _, rfl, rfl, TyOf.int _, kit_int_int _, ?_⟩ | refine ⟨_, _, _, _, _, rfl, rfl, TyOf.int _, kit_int_bool _, ?_⟩
  | refine ⟨_, _, _, _, _, rfl, rfl, TyOf.bl _, rfl, ?_⟩
  | refine ⟨_, _, _, _, _, rfl, rfl, TyOf.tup (by assumption), rfl, ?_⟩
  | refine ⟨_, _, rfl, .inr (SqT.of (by assumption)), ?_⟩ | refine ⟨_, _, rfl, .inl (SqL.of (by assumption)), ?_⟩
  | with_reducible refine iteD (by omega) ?_ | with_reducible refine iteDN (by omega) ?_ | with_reducible refine iteN (by omega) ?_ | with_reducible refine iteNS (by omega) ?_
  | with_reducible refine iteNS rfl ?_))
local macro_rules | `(tactic| walk_at "c") => `(tactic| first | with_reducible refine iteI ?_ ?_ | with_reducible refine iteIN ?_ ?_ | with_reducible refine iteC ?_ ?_ | with_reducible refine iteCN ?_ ?_ | refine ite2 ?_ ?_)
local macro_rules | `(tactic| walk_at "n") => `(tactic| (intro z; injection z with z; revert z; decide +kernel))
theorem imp_hasL : ∀ vs H Q E, spHasL vs H Q E → spHasO vs H Q E := by
  rintro vs H Q E ⟨w, x, rfl, h1, h2, ⟨a, xs, rfl, ha, ht, hl, q⟩ | ⟨hx, q⟩⟩
  · exact ⟨w, _, some xs, rfl, h1, h2, .lst ha ht hl, q⟩
  · rcases hx with rfl | ⟨a, xs, rfl, ha⟩
    · exact ⟨w, _, none, rfl, h1, h2, .non, q⟩
    · exact ⟨w, _, none, rfl, h1, h2, .tup ha, q⟩
inductive RV (H : Hp) : V → Option (List V) → Prop where
  | five {t : Addr} {a b c d e : V} {oe : Option (List V)} (h : H t = some (.tup [a, b, c, d, e])) (ta : Th H a) (tb : Th H b) (tc : Th H c) (td : Th H d) (le : LV H e oe) (n : ∀ xs, oe = some xs → xs.length ≤ 100) : RV H (.ref t) (some [a, b, c, d, e])
  | tup {t : Addr} {xs : List V} (h : H t = some (.tup xs)) (n : xs.length ≠ 5) : RV H (.ref t) none
  | lst {t : Addr} {xs : List V} (h : H t = some (.lst xs)) : RV H (.ref t) none
  | non : RV H .non none
theorem RV.same {H H' : Hp} {v : V} {o : Option (List V)} (r : RV H v o) (s : Same H H') : RV H' v o := by
  cases r with
  | five h ta tb tc td le n => exact .five (s _ _ h) (ta.same s) (tb.same s) (tc.same s) (td.same s) (le.same s) n
  | tup h n => exact .tup (s _ _ h) n
  | lst h => exact .lst (s _ _ h)
  | non => exact .non
def RowIs (H : Hp) (v : V) (p g b d : Int) (rs : List Int) : Prop := ∃ t r : Addr, v = .ref t ∧ H t = some (.tup [.int p, .int g, .int b, .int d, .ref r]) ∧ H r = some (.lst (rs.map V.int))
theorem RowIs.same {H H' : Hp} {v : V} {p g b d : Int} {rs : List Int} (r : RowIs H v p g b d rs) (s : Same H H') : RowIs H' v p g b d rs := by
  obtain ⟨t, r', e, h1, h2⟩ := r
  exact ⟨t, r', e, s _ _ h1, s _ _ h2⟩
theorem LV.ints {H : Hp} {r : Addr} {rs : List Int} (h : H r = some (.lst (rs.map V.int))) (n : rs.length ≤ 1000) : LV H (.ref r) (some (rs.map V.int)) := .lst h (fun y hy => by obtain ⟨i, _, rfl⟩ := List.mem_map.mp hy; exact .int i) (by rw [List.length_map]; exact n)
theorem RowIs.rv {H : Hp} {v : V} {p g b d : Int} {rs : List Int} (r : RowIs H v p g b d rs) (n : rs.length ≤ 100) : ∃ o, RV H v o := by
  obtain ⟨t, r', rfl, h1, h2⟩ := r
  exact ⟨_, .five h1 (.int _) (.int _) (.int _) (.int _) (LV.ints h2 (by omega)) (fun xs e => by cases e; rw [List.length_map]; exact n)⟩
def RowT (w pl D L : Int) (n : Nat) (H : Hp) (v : V) : Prop := ∃ rs : List Int, RowIs H v pl (gOf (2 ^ w.toNat) L D n) (gOf (2 ^ w.toNat) L D n - D / L) (D / L) rs ∧ Ln w rs ∧ num (2 ^ w.toNat) rs = D % L
theorem RowT.same {w pl D L : Int} {n : Nat} {H H' : Hp} {v : V} (r : RowT w pl D L n H v) (s : Same H H') : RowT w pl D L n H' v := by
  obtain ⟨rs, a, b⟩ := r
  exact ⟨rs, a.same s, b⟩
theorem RowIs.of {H H' : Hp} {v : V} {p g b d : Int} {rs : List Int} (s : Same H H') (x : ∃ o, RV H v o) (r : RowIs H' v p g b d rs) : RowIs H v p g b d rs := by
  obtain ⟨t, r', rfl, h1, h2⟩ := r
  obtain ⟨o, x⟩ := x
  cases x with
  | five h _ _ _ _ le _ =>
    rw [s _ _ h] at h1
    cases h1
    refine ⟨t, r', rfl, h, ?_⟩
    cases le with
    | lst h3 _ _ => rw [s _ _ h3] at h2; cases h2; exact h3
    | tup h3 => rw [s _ _ h3] at h2; cases h2
    | dct h3 => rw [s _ _ h3] at h2; cases h2
  | tup h n => rw [s _ _ h] at h1; cases h1; exact absurd rfl n
  | lst h => rw [s _ _ h] at h1; cases h1
theorem RowT.of {w pl D L : Int} {n : Nat} {H H' : Hp} {v : V} (s : Same H H') (x : ∃ o, RV H v o) (r : RowT w pl D L n H' v) : RowT w pl D L n H v := by
  obtain ⟨rs, a, b⟩ := r
  exact ⟨rs, a.of s x, b⟩
def RL (H : Hp) (v : V) (ol : Option (List V)) : Prop := (∃ (l : Addr) (vs : List V), v = .ref l ∧ H l = some (.lst vs) ∧ ol = some vs ∧ (∀ e ∈ vs, ∃ o, RV H e o)) ∨ (ol = none ∧ LV H v none)
theorem RL.same {H H' : Hp} {v : V} {o : Option (List V)} (r : RL H v o) (s : Same H H') : RL H' v o := by
  rcases r with ⟨l, vs, e, h, e2, x⟩ | ⟨e, h⟩
  · exact .inl ⟨l, vs, e, s _ _ h, e2, fun y hy => by obtain ⟨o, z⟩ := x y hy; exact ⟨o, z.same s⟩⟩
  · exact .inr ⟨e, h.same s⟩
def LgIs (H : Hp) (w : Int) (v : V) (N : Int) : Prop := ∃ (a : Addr) (ws : List Int), v = .ref a ∧ H a = some (.lst (ws.map V.int)) ∧ Ln w ws ∧ num (2 ^ w.toNat) ws = N
theorem LgIs.same {H H' : Hp} {w : Int} {v : V} {N : Int} (r : LgIs H w v N) (s : Same H H') : LgIs H' w v N := by
  obtain ⟨a, ws, e, h, x⟩ := r
  exact ⟨a, ws, e, s _ _ h, x⟩
theorem LgIs.of {H H' : Hp} {w : Int} {v : V} {N : Int} {o : Option (List V)} (s : Same H H') (l : LV H v o) (r : LgIs H' w v N) : LgIs H w v N := by
  obtain ⟨a, ws, rfl, h, x⟩ := r
  cases l with
  | lst h3 _ _ => rw [s _ _ h3] at h; cases h; exact ⟨a, ws, rfl, h3, x⟩
  | tup h3 => rw [s _ _ h3] at h; cases h
  | dct h3 => rw [s _ _ h3] at h; cases h
def RowsT (H : Hp) (w : Int) (xs ys : List Int) (v : V) : Prop := ∃ (l : Addr) (vs : List V), v = .ref l ∧ H l = some (.lst vs) ∧ vs.length = cntN xs ys ∧ ∀ (j : Nat) (u : V), vs[j]? = some u → RowT w ((cntN xs ys : Int) - 1 - (j : Int)) (nJ (2 ^ w.toNat) (uW w xs ys) (lW w ys) (cntN xs ys) j) (lW w ys) (ys.length - 1) H u
def DivT (H : Hp) (w : Int) (xs ys : List Int) (q r rows : V) : Prop := LgIs H w q (nm w xs / nm w ys) ∧ LgIs H w r (nm w xs % nm w ys) ∧ RowsT H w xs ys rows
def Short (o : Option (List V)) : Prop := ∀ xs, o = some xs → xs.length ≤ 100
structure Told (H : Hp) (q r rows : V) : Prop where
  lq : ∃ o, LV H q o ∧ Short o
  lr : ∃ o, LV H r o ∧ Short o
  rl : ∃ o, RL H rows o
theorem Told.same {H H' : Hp} {q r rows : V} (t : Told H q r rows) (s : Same H H') : Told H' q r rows := by
  obtain ⟨⟨o, a, b⟩, ⟨o2, c, d⟩, o3, e⟩ := t
  exact ⟨⟨o, a.same s, b⟩, ⟨o2, c.same s, d⟩, o3, e.same s⟩
theorem RowsT.of {H H' : Hp} {w : Int} {xs ys : List Int} {v : V} {o : Option (List V)} (s : Same H H') (l : RL H v o) (r : RowsT H' w xs ys v) : RowsT H w xs ys v := by
  obtain ⟨a, vs, rfl, h, hl, x⟩ := r
  rcases l with ⟨l, us, e, h2, _, y⟩ | ⟨_, y⟩
  · cases e
    rw [s _ _ h2] at h
    cases h
    exact ⟨_, vs, rfl, h2, hl, fun j u hu => (x j u hu).of s (y u (List.mem_of_getElem? hu))⟩
  · cases y with
    | tup h3 => rw [s _ _ h3] at h; cases h
    | dct h3 => rw [s _ _ h3] at h; cases h
theorem DivT.of {H H' : Hp} {w : Int} {xs ys : List Int} {q r rows : V} (s : Same H H') (t : Told H q r rows) (d : DivT H' w xs ys q r rows) : DivT H w xs ys q r rows := by
  obtain ⟨⟨o, a, _⟩, ⟨o2, c, _⟩, o3, e⟩ := t
  exact ⟨d.1.of s a, d.2.1.of s c, d.2.2.of s e⟩
theorem RowsT.same {H H' : Hp} {w : Int} {xs ys : List Int} {v : V} (r : RowsT H w xs ys v) (s : Same H H') : RowsT H' w xs ys v := by
  obtain ⟨a, vs, rfl, h, hl, x⟩ := r
  exact ⟨a, vs, rfl, s _ _ h, hl, fun j u hu => (x j u hu).same s⟩
def spIsG : Sp := fun vs H Q _ => ∃ (w : Int) (d l : Addr) (ds ls : List Int) (n : Nat) (x : V), vs = [.int w, .ref d, .ref l, x] ∧ 4 ≤ w ∧ w ≤ 32 ∧ H d = some (.lst (ds.map V.int)) ∧ H l = some (.lst (ls.map V.int)) ∧ StIn w ds ls ∧ ls.length = n + 1 ∧ Th H x ∧ ∀ b : Bool, (b = true ↔ x = .int (gOf (2 ^ w.toNat) (nm w ls) (nm w ds) n)) → Q (.bl b) H
def spIsR : Sp := fun vs H Q _ => ∃ (w pl : Int) (d l : Addr) (ds ls : List Int) (n : Nat) (v : V) (o : Option (List V)), vs = [.int w, .int pl, .ref d, .ref l, v] ∧ 4 ≤ w ∧ w ≤ 32 ∧ H d = some (.lst (ds.map V.int)) ∧ H l = some (.lst (ls.map V.int)) ∧ StIn w ds ls ∧ ls.length = n + 1 ∧ RV H v o ∧ ∀ (b : Bool) H', Same H H' → (b = true ↔ RowT w pl (nm w ds) (nm w ls) n H v) → Q (.bl b) H'
def spIsD : Sp := fun vs H Q _ => ∃ (w : Int) (a b : Addr) (xs ys : List Int) (q r rows : V), vs = [.int w, .ref a, .ref b, q, r, rows] ∧ LL H w a b xs ys ∧ xs.length ≤ 45 ∧ ys.length ≤ 45 ∧ ys ≠ [] ∧ Told H q r rows ∧ ∀ (bb : Bool) H', Same H H' → (bb = true ↔ DivT H w xs ys q r rows) → Q (.bl bb) H'
structure Made (H : Hp) (w : Int) (xs ys : List Int) (t : Addr) (qs rs : List Int) (vs : List V) : Prop where
  ex : ∃ q r l : Addr, H t = some (.tup [.ref q, .ref r, .ref l, .int (turnI w ys), .int (lW w ys)]) ∧ H q = some (.lst (qs.map V.int)) ∧ H r = some (.lst (rs.map V.int)) ∧ H l = some (.lst vs)
  lq : Ln w qs
  lr : Ln w rs
  nq : qs.length ≤ 98
  nr : rs.length ≤ 98
  vl : vs.length = cntN xs ys
  ok : ∀ (j : Nat) (u : V), vs[j]? = some u → ∃ (p g b d : Int) (us : List Int), RowIs H u p g b d us ∧ Ln w us ∧ us.length ≤ 60
structure Hon (H : Hp) (w : Int) (xs ys : List Int) (t : Addr) (qs rs : List Int) (vs : List V) : Prop where
  md : Made H w xs ys t qs rs vs
  eq : nm w qs = nm w xs / nm w ys
  er : nm w rs = nm w xs % nm w ys
  rw : ∀ (j : Nat) (u : V), vs[j]? = some u → RowT w ((cntN xs ys : Int) - 1 - (j : Int)) (nJ (2 ^ w.toNat) (uW w xs ys) (lW w ys) (cntN xs ys) j) (lW w ys) (ys.length - 1) H u
theorem Made.same {H H' : Hp} {w : Int} {xs ys : List Int} {t : Addr} {qs rs : List Int} {vs : List V} (m : Made H w xs ys t qs rs vs) (s : Same H H') : Made H' w xs ys t qs rs vs := by
  obtain ⟨⟨q, r, l, a, b, c, d⟩, e, f, g, h, i, j⟩ := m
  exact ⟨⟨q, r, l, s _ _ a, s _ _ b, s _ _ c, s _ _ d⟩, e, f, g, h, i, fun k u hu => by
    obtain ⟨p, g, b, d, us, x, y⟩ := j k u hu
    exact ⟨p, g, b, d, us, x.same s, y⟩⟩
theorem Hon.same {H H' : Hp} {w : Int} {xs ys : List Int} {t : Addr} {qs rs : List Int} {vs : List V} (m : Hon H w xs ys t qs rs vs) (s : Same H H') : Hon H' w xs ys t qs rs vs := ⟨m.md.same s, m.eq, m.er, fun j u hu => (m.rw j u hu).same s⟩
def spMadeR : Sp := fun vs H Q _ => ∃ (w : Int) (a b : Addr) (xs ys : List Int) (at' more : Int), vs = [.int w, .ref a, .ref b, .int at', .int more] ∧ LL H w a b xs ys ∧ xs.length ≤ 45 ∧ ys.length ≤ 45 ∧ ys ≠ [] ∧ ∀ (t : Addr) (qs rs : List Int) (us : List V) H', Same H H' → Made H' w xs ys t qs rs us → (at' = -1 → Hon H' w xs ys t qs rs us) → (∀ j : Nat, at' = (j : Int) → j < cntN xs ys → ∃ u, us[j]? = some u ∧ ¬ RowT w ((cntN xs ys : Int) - 1 - (j : Int)) (nJ (2 ^ w.toNat) (uW w xs ys) (lW w ys) (cntN xs ys) j) (lW w ys) (ys.length - 1) H' u) → Q (.ref t) H'
def spCopy : Sp := fun vs H Q _ => ∃ (l : Addr) (us : List V) (w : Int), vs = [.ref l] ∧ H l = some (.lst us) ∧ us.length ≤ 100 ∧ (∀ (j : Nat) (u : V), us[j]? = some u → ∃ (p g b d : Int) (zs : List Int), RowIs H u p g b d zs ∧ zs.length ≤ 60) ∧ ∀ (l' : Addr) (us' : List V) H', Same H H' → H' l' = some (.lst us') → us'.length = us.length → (∀ (j : Nat) (u u' : V), us[j]? = some u → us'[j]? = some u' → ∀ (p g b d : Int) (zs : List Int), RowIs H u p g b d zs → RowIs H' u' p g b d zs) → Q (.ref l') H'
def spPlus : Sp := fun vs H Q _ => ∃ (a : Addr) (ws : List Int) (more w : Int), vs = [.ref a, .int more, .int w] ∧ 4 ≤ w ∧ w ≤ 32 ∧ H a = some (.lst (ws.map V.int)) ∧ Ln w ws ∧ ws.length ≤ 98 ∧ more < (2 ^ w.toNat) ^ 98 ∧ ∀ (p : Addr) (us : List Int) H', Same H H' → H' p = some (.lst (us.map V.int)) → Ln w us → us.length ≤ 99 → num (2 ^ w.toNat) us = (if 0 < nm w ws + more then nm w ws + more else 0) → Q (.ref p) H'
def spTruth : Sp := fun vs H Q _ => ∃ (a : Addr) (ws : List Int), vs = [.ref a] ∧ H a = some (.lst (ws.map V.int)) ∧ ws.length ≤ 98 ∧ ∀ (v : V) (o : Option (List V)) H', Same H H' → LV H' v o → Short o → (∀ us : List Int, o ≠ some (us.map V.int)) → Q v H'
def spRowF : Sp := fun vs H Q _ => ∃ (way : Int) (v : V) (p g b d : Int) (zs : List Int), vs = [.int way, v] ∧ 0 ≤ way ∧ way < 18 ∧ RowIs H v p g b d zs ∧ zs.length ≤ 60 ∧ zs.getLast? ≠ some 0 ∧ ∀ (v' : V) H', Same H H' → (∃ o, RV H' v' o) → (∀ us : List Int, us.getLast? ≠ some 0 → RowIs H' v' p g b d us → us ≠ zs) → Q v' H'
def spLast : Sp := fun vs H Q _ => ∃ (way w : Int) (t : Addr) (xs ys qs rs : List Int) (us : List V), vs = [.int way, .ref t, .int w] ∧ 4 ≤ w ∧ w ≤ 32 ∧ Lg w xs ∧ Lg w ys ∧ ys ≠ [] ∧ xs.length ≤ 45 ∧ ys.length ≤ 45 ∧ 0 ≤ way ∧ way < 4 ∧ Hon H w xs ys t qs rs us ∧ ∀ (t' : Addr) (q r rows : V) H', Same H H' → H' t' = some (.tup [q, r, rows]) → Told H' q r rows → ¬ DivT H' w xs ys q r rows → Q (.ref t') H'
def spForg : Sp := fun vs H Q _ => ∃ (way at' w : Int) (t : Addr) (xs ys qs rs : List Int) (us : List V), vs = [.int way, .int at', .ref t, .int w] ∧ 4 ≤ w ∧ w ≤ 32 ∧ Lg w xs ∧ Lg w ys ∧ ys ≠ [] ∧ xs.length ≤ 45 ∧ ys.length ≤ 45 ∧ 0 ≤ way ∧ way < 36 ∧ Hon H w xs ys t qs rs us ∧ ∀ (t' : Addr) (q r rows : V) H', Same H H' → H' t' = some (.tup [q, r, rows]) → Told H' q r rows → ¬ DivT H' w xs ys q r rows → Q (.ref t') H'
def spAsk : Sp := fun vs H Q _ => ∃ (w : Int) (a b t : Addr) (xs ys : List Int) (q r rows : V), vs = [.int w, .ref a, .ref b, .ref t] ∧ LL H w a b xs ys ∧ xs.length ≤ 45 ∧ ys.length ≤ 45 ∧ ys ≠ [] ∧ H t = some (.tup [q, r, rows]) ∧ Told H q r rows ∧ ∀ (bb : Bool) H', Same H H' → (bb = true ↔ DivT H w xs ys q r rows) → Q (.bl bb) H'
def spHeld : Sp := fun vs H Q _ => ∃ (w : Int) (a b wy : Addr) (xs ys wys : List Int) (at' : Int), vs = [.int w, .ref a, .ref b, .ref wy, .int at'] ∧ LL H w a b xs ys ∧ xs.length ≤ 45 ∧ ys.length ≤ 45 ∧ ys ≠ [] ∧ H wy = some (.lst (wys.map V.int)) ∧ (∀ x ∈ wys, 0 ≤ x ∧ x < 36) ∧ ∀ H', Same H H' → Q (.bl true) H'
section
variable {P : Program} {w : World} {K : PySem.W.Frag} {mg : Str → Option Value} {base : Heap}
theorem ok__law_whole {f : Addr} {fd : FuncData} (F : Fun K "_law_whole" "_law_whole" s__law_whole f fd) (T : Txt K mg)  : FnOk P w K mg base CX0 1 f fd ["_law_found"] spWhole := by
  refine F.ok sc__law_whole (fun vs H Q E h => ?_) (fun cdv A outer s H vs Q E hr h => ?_)
  · obtain ⟨i, rfl, _⟩ := h
    rfl
  obtain ⟨i, rfl, q⟩ := h
  refine ⟨_, (pss_one (ps_ret (pe_and (pe_callB call_isinst rfl T.n_isinstance boot_isinstance (pa_cons (pv 0) (pa_cons (pe_ty rfl T.n_int boot_int) pa_nil))) (pe_one (pe_not (pe_callB call_isinst rfl T.n_isinstance boot_isinstance (pa_cons (pv 0) (pa_cons (pe_ty rfl T.n_bool boot_bool) pa_nil)))))))), ?_⟩
  refine ⟨_, rfl, _, _, _, _, _, rfl, rfl, TyOf.int _, kit_int_int _, _, rfl, iteT ?_⟩
  refine ⟨_, rfl, _, _, _, _, _, rfl, rfl, TyOf.int _, kit_int_bool _, _, rfl, ?_⟩
  exact q
theorem ok_is_whole {f : Addr} {fd : FuncData} (F : Fun K "is_whole" "is_whole" s_is_whole f fd) (T : Txt K mg)  : FnOk P w K mg base CX0 1 f fd ["thing"] spWholeG := by
  refine F.ok sc_is_whole (fun vs H Q E h => ?_) (fun cdv A outer s H vs Q E hr h => ?_)
  · obtain ⟨x, rfl, _⟩ := h
    rfl
  obtain ⟨x, rfl, th, q⟩ := h
  refine ⟨_, (pss_one (ps_ret (pe_and (pe_callB call_isinst rfl T.n_isinstance boot_isinstance (pa_cons (pv 0) (pa_cons (pe_ty rfl T.n_int boot_int) pa_nil))) (pe_one (pe_not (pe_callB call_isinst rfl T.n_isinstance boot_isinstance (pa_cons (pv 0) (pa_cons (pe_ty rfl T.n_bool boot_bool) pa_nil)))))))), ?_⟩
  cases th with
  | int i =>
    refine ⟨_, rfl, _, _, _, _, _, rfl, rfl, TyOf.int _, kit_int_int _, _, rfl, iteT ?_⟩
    exact ⟨_, rfl, _, _, _, _, _, rfl, rfl, TyOf.int _, kit_int_bool _, _, rfl, q⟩
  | bl b =>
    refine ⟨_, rfl, _, _, _, _, _, rfl, rfl, TyOf.bl _, kit_bl_int _, _, rfl, iteT ?_⟩
    exact ⟨_, rfl, _, _, _, _, _, rfl, rfl, TyOf.bl _, kit_bl_bl _, _, rfl, q⟩
  | str x => exact ⟨_, rfl, _, _, _, _, _, rfl, rfl, TyOf.str _, kit_str_int _, _, rfl, iteF q⟩
  | non => exact ⟨_, rfl, _, _, _, _, _, rfl, rfl, TyOf.non, kit_non_int _, _, rfl, iteF q⟩
  | lst h => exact ⟨_, rfl, _, _, _, _, _, rfl, rfl, TyOf.lst h, kit_lst_int _, _, rfl, iteF q⟩
  | tup h => exact ⟨_, rfl, _, _, _, _, _, rfl, rfl, TyOf.tup h, kit_tup_int _, _, rfl, iteF q⟩
  | dct h => exact ⟨_, rfl, _, _, _, _, _, rfl, rfl, TyOf.dK h, kit_dct_int _, _, rfl, iteF q⟩
theorem ok_is_between {f : Addr} {fd : FuncData} (F : Fun K "is_between" "is_between" s_is_between f fd) (T : Txt K mg) (H_is_whole : Has P w K mg base 1 "is_whole" ["thing"] spWholeG) : FnOk P w K mg base CX0 2 f fd ["thing", "low", "high"] spBtwG := by
  refine F.ok sc_is_between (fun vs H Q E h => ?_) (fun cdv A outer s H vs Q E hr h => ?_)
  · obtain ⟨x, lo, hi, rfl, _⟩ := h
    rfl
  obtain ⟨x, lo, hi, rfl, th, q⟩ := h
  refine ⟨_, (pss_one (ps_ret (pe_and (pe_fn H_is_whole (hr.mono (by omega)) rfl (pa_cons (pv 0) pa_nil)) (pe_one (pe_chain op_le op_le (pv 1) (pv 0) (pv 2)))))), ?_⟩
  refine ⟨_, rfl, x, rfl, th, _, rfl, ?_⟩
  cases hi' : isI x with
  | false =>
    refine iteF ?_
    rw [btw_not hi'] at q
    exact q
  | true =>
    refine iteT ?_
    cases x with
    | int i =>
      refine ⟨_, rfl, _, rfl, _, _, rfl, rfl, _, rfl, ?_⟩
      by_cases c1 : lo ≤ i
      · refine iteD c1 ⟨_, rfl, _, _, rfl, rfl, ?_⟩
        have e : btw (.int i) lo hi = decide (i ≤ hi) := by show (decide (lo ≤ i) && decide (i ≤ hi)) = _; rw [decide_eq_true c1, Bool.true_and]
        rw [e] at q
        exact q
      · refine iteDN c1 ?_
        have e : btw (.int i) lo hi = false := by show (decide (lo ≤ i) && decide (i ≤ hi)) = _; rw [decide_eq_false c1, Bool.false_and]
        rw [e] at q
        exact q
    | _ => cases hi'
theorem ok_need_width {f : Addr} {fd : FuncData} (F : Fun K "need_width" "need_width" s_need_width f fd) (T : Txt K mg) (H_is_between : Has P w K mg base 2 "is_between" ["thing", "low", "high"] spBtwG) : FnOk P w K mg base CX0 3 f fd ["width"] spNeedW := by
  refine F.ok sc_need_width (fun vs H Q E h => ?_) (fun cdv A outer s H vs Q E hr h => ?_)
  · obtain ⟨i, rfl, _⟩ := h
    rfl
  obtain ⟨i, rfl, h1, h2, q⟩ := h
  refine ⟨_, (pss_one (ps_if (pt_not (pt_val (pe_fn H_is_between (hr.mono (by omega)) rfl (pa_cons (pv 0) (pa_cons pe_int (pa_cons pe_int pa_nil))))))
      (pss_one ps_never)
      pss_nil)), ?_⟩
  refine ⟨_, rfl, _, _, _, rfl, .int i, ?_⟩
  have e : btw (.int i) 4 32 = true := by show (decide (4 ≤ i) && decide (i ≤ 32)) = _; rw [decide_eq_true h1, decide_eq_true h2]; rfl
  rw [e]
  exact ⟨_, rfl, iteF q⟩
theorem ok_is_word {f : Addr} {fd : FuncData} (F : Fun K "is_word" "is_word" s_is_word f fd) (T : Txt K mg) (H_is_between : Has P w K mg base 2 "is_between" ["thing", "low", "high"] spBtwG) : FnOk P w K mg base CX0 3 f fd ["width", "thing"] spWordG := by
  refine F.ok sc_is_word (fun vs H Q E h => ?_) (fun cdv A outer s H vs Q E hr h => ?_)
  · obtain ⟨i, x, rfl, _⟩ := h
    rfl
  obtain ⟨i, x, rfl, h1, h2, th, q⟩ := h
  refine ⟨_, (pss_one (ps_ret (pe_fn H_is_between (hr.mono (by omega)) rfl (pa_cons (pv 1) (pa_cons pe_int (pa_cons (pe_op op_sub (pe_op op_shl pe_int (pv 0)) pe_int) pa_nil)))))), ?_⟩
  exact ⟨_, rfl, _, rfl, _, _, rfl, rfl, cpow1 (by omega) (by omega), _, _, rfl, rfl, x, _, _, rfl, th, q⟩
theorem ok_has_long {f : Addr} {fd : FuncData} (F : Fun K "has_long" "has_long" s_has_long f fd) (T : Txt K mg) (H_is_word : Has P w K mg base 3 "is_word" ["width", "thing"] spWordG) : FnOk P w K mg base CX0 4 f fd ["width", "thing"] spHasO := by
  refine F.ok sc_has_long (fun vs H Q E h => ?_) (fun cdv A outer s H vs Q E hr h => ?_)
  · obtain ⟨i, x, ox, rfl, _⟩ := h
    rfl
  obtain ⟨i, x, ox, rfl, h1, h2, lv, q⟩ := h
  refine ⟨_, (pss_cons (ps_if (PW.pt (pw_or (pt_not (pt_val (pe_callB call_isinst rfl T.n_isinstance boot_isinstance (pa_cons (pv 1) (pa_cons (pe_ty rfl T.n_list boot_list) pa_nil))))) (pw_or1 (pt_not (pt_val (pe_callB (call_all_bl rfl) rfl T.n_all boot_all (pa_cons (pe_compC [0] ["width"] rfl (by first | rfl | with_unfolding_all rfl) (by rfl) (by exact (List.forall_mem_cons.mpr ⟨rfl, (fun _ h => nomatch h)⟩)) (by decide +kernel) rfl (by decide +kernel) rfl (by decide +kernel) (by exact (List.forall_mem_cons.mpr ⟨⟨by first | exact Or.inl rfl | exact Or.inr rfl, rfl⟩, (fun _ h => nomatch h)⟩)) rfl (by rfl) (pi_list (pv 1)) (fun C s2 H2 fp => (pe_fn H_is_word (hr.mono (by omega)) rfl (pa_cons (pv 1) (pa_cons (pv 0) pa_nil))))) pa_nil)))))))
      (pss_one (ps_ret pe_bl))
      pss_nil)
    (pss_one (ps_ret (pe_or (pe_cmpR (op_eq0 (Nat.lt_of_succ_lt (hu_of hr))) (pv 1) (pe_lst pa_nil) (nomark _)) (pe_one (pe_cmpR op_ne (pe_ix ix_list (pv 1) (pe_un un_neg pe_int) (fun _ _ => rfl)) pe_int (nomark _))))))), ?_⟩
  rcases lv.parts (K := K) with ⟨a, xs, rfl, rfl, ha, hth, hlen⟩ | ⟨rfl, ty, ht1, ht2⟩
  · have q : ∀ H', Same H H' → Q (.bl (isL i xs)) H' := q
    refine ⟨_, rfl, _, _, _, _, _, rfl, rfl, TyOf.lst ha, rfl, _, rfl, iteF ?_⟩
    refine ⟨_, rfl, a, rfl, ⟨_, SqL.of ha⟩, fun D hD => ?_⟩
    have nD : a ≠ D := ne_of_none ha hD
    refine comp_list (K := K) (a := a) (te' := tCall spWordG [] E0 (tCons (tVar 1) (tCons (tVar 0) tNil))) (xs := xs) (fun j H1 => Same H H1 ∧ H1 D = some (.lst ((xs.take j).map fun y => V.bl (btw y 0 (1 * 2 ^ i.toNat - 1))))) ⟨same_new hD _, upd_same⟩ (fun j H1 _ ⟨s1, _⟩ => SqL.of (s1 _ _ ha)) ?_ ?_
    · rintro j y H1 hj ⟨s1, hd1⟩
      have hjl := (List.getElem?_eq_some_iff.mp hj).1
      refine ⟨_, rfl, _, rfl, i, y, rfl, h1, h2, (hth y (List.mem_of_getElem? hj)).same s1, _, hd1, ?_, xs.length - (j + 1), by omega, rfl, by omega, ?_, ?_⟩
      · rw [List.length_map, List.length_take]
        have : (1001 : Nat) ≤ sizeLine := by decide
        omega
      · exact fun b o h => by rw [upd_ne (ne_of_none h hD)]; exact s1 b o h
      · rw [upd_same, List.take_succ, hj, List.map_append]
        rfl
    · rintro H1 ⟨s1, hd1⟩
      rw [List.take_length] at hd1
      have hd2 : H1 D = some (.lst ((xs.map fun y => btw y 0 (1 * 2 ^ i.toNat - 1)).map V.bl)) := by rw [hd1, List.map_map]; rfl
      refine ⟨D, _, rfl, SqL.of hd2, _, rfl, ?_⟩
      have ea : (xs.map fun y => btw y 0 (1 * 2 ^ i.toNat - 1)).all id = xs.all (fun x => btw x 0 (1 * 2 ^ i.toNat - 1)) := by rw [List.all_map]; rfl
      rw [ea]
      cases hal : xs.all (fun x => btw x 0 (1 * 2 ^ i.toNat - 1)) with
      | false =>
        refine iteT ?_
        have e : isL i xs = false := by unfold isL; rw [hal, Bool.false_and]
        rw [e] at q
        exact q H1 s1
      | true =>
        refine iteF ?_
        refine ⟨_, rfl, (by show 0 ≤ sizeLine; decide), fun l0 hl0 => ?_⟩
        have s2 := same_new hl0 (.lst [])
        have ha1 := s1 _ _ ha
        refine ⟨a, l0, xs, rfl, rfl, SqL.of (s2 _ _ ha1), SqL.of upd_same, _, rfl, ?_⟩
        have e : isL i xs = (xs.isEmpty || !decide (xs.getLast? = some (V.int 0))) := by unfold isL; rw [hal, Bool.true_and]
        rw [e] at q
        cases xs with
        | nil =>
          refine iteT ?_
          exact q _ (s1.trans s2)
        | cons y r =>
          refine iteF ?_
          obtain ⟨z, hz⟩ : ∃ z, (y :: r).getLast? = some z := ⟨_, List.getLast?_eq_some_getLast (by simp)⟩
          have hzm : z ∈ y :: r := List.mem_of_getLast? hz
          have hzb := List.all_eq_true.mp hal z hzm
          obtain ⟨zi, rfl⟩ : ∃ zi, z = .int zi := by
            cases z with
            | int zi => exact ⟨zi, rfl⟩
            | _ => cases hzb
          have hat : atI (y :: r) (-1) = some (V.int zi) := by
            have hne : (y :: r) ≠ [] := by simp
            have e := List.dropLast_concat_getLast hne
            have e3 : (y :: r).getLast hne = V.int zi := by
              rw [List.getLast?_eq_some_getLast hne] at hz
              exact Option.some.inj hz
            rw [e3] at e
            rw [← e]
            exact atI_last _ _
          refine ⟨_, rfl, _, rfl, a, _, _, _, rfl, rfl, SqL.of (s2 _ _ ha1), hat, rfl, ?_⟩
          have e2 : (false || !decide ((y :: r).getLast? = some (V.int 0))) = !decide (V.int zi = V.int 0) := by
            rw [Bool.false_or, hz]
            congr 1
            exact decide_eq_decide.mpr ⟨fun z => Option.some.inj z, fun z => congrArg some z⟩
          have q2 := q _ (s1.trans s2)
          rw [show (y :: r).isEmpty = false from rfl, e2] at q2
          exact q2
  · exact ⟨_, rfl, _, _, _, _, _, rfl, rfl, ht1, ht2, _, rfl, iteT (iteT (q H (Same.refl _)))⟩
theorem ok_need_long {f : Addr} {fd : FuncData} (F : Fun K "need_long" "need_long" s_need_long f fd) (T : Txt K mg) (H_need_width : Has P w K mg base 3 "need_width" ["width"] spNeedW) (H_has_long : Has P w K mg base 4 "has_long" ["width", "thing"] spHasL) : FnOk P w K mg base CX0 5 f fd ["width", "one"] spNeedL := by
  refine F.ok sc_need_long (fun vs H Q E h => ?_) (fun cdv A outer s H vs Q E hr h => ?_)
  · obtain ⟨i, a, ws, rfl, _⟩ := h
    rfl
  obtain ⟨i, a, ws, rfl, h1, h2, ha, lg, q⟩ := h
  refine ⟨_, (pss_cons (ps_expr (pe_fn H_need_width (hr.mono (by omega)) rfl (pa_cons (pv 0) pa_nil)))
    (pss_one (ps_if (pt_not (pt_val (pe_fn H_has_long (hr.mono (by omega)) rfl (pa_cons (pv 0) (pa_cons (pv 1) pa_nil)))))
      (pss_one ps_never)
      pss_nil))), ?_⟩
  refine ⟨_, rfl, _, rfl, h1, h2, ?_⟩
  refine ⟨_, rfl, _, rfl, i, _, rfl, h1, h2, .inl ⟨a, _, rfl, ha, th_ints _ _, by rw [List.length_map]; have := lg.ln; omega, fun H' s' => ?_⟩⟩
  rw [isL_of lg]
  exact ⟨_, rfl, iteF (q H' s')⟩
theorem ok__law_drawn {f : Addr} {fd : FuncData} (F : Fun K "_law_drawn" "_law_drawn" s__law_drawn f fd) (T : Txt K mg)  : FnOk P w K mg base CX0 1 f fd ["_law_cell", "_law_sizes"] spDrawn := by
  refine F.ok sc__law_drawn (fun vs H Q E h => ?_) (fun cdv A outer s H vs Q E hr h => ?_)
  · obtain ⟨c, z, ms, rfl, _⟩ := h
    rfl
  obtain ⟨c, z, ms, rfl, hz, hm, hml, q⟩ := h
  refine ⟨_, (pss_cons (ps_set (i := 2) sc__law_drawn.nd rfl (Or.inl rfl) (pe_lst pa_nil))
    (pss_cons (ps_if (pt_cmpR op_ge (pv 0) (pe_op op_pow pe_int pe_int) (nomark _))
      (pss_cons (ps_for PassesOwn.never rfl (pi_list (pv 1)) (pg_name (i := 3) sc__law_drawn.nd rfl (Or.inl rfl))
        (pss_cons (ps_expr (pe_bm PySem.F.plainAttrs_list PySem.F.slot_list_append PySem.F.type_list_append mt_append (pv 2) (pa_cons (pe_op op_mod (pv 0) (pv 3)) pa_nil)))
        (pss_one (ps_set (i := 0) sc__law_drawn.nd rfl (Or.inl rfl) (pe_op op_fdivB (pv 0) (pv 3))))))
      (pss_one (ps_ret (pv 2))))
      pss_nil)
    (pss_cons (ps_set (i := 4) sc__law_drawn.nd rfl (Or.inl rfl) (pe_op op_mod (pe_op op_add (pe_op op_mul (pv 0) pe_int) pe_int) pe_int))
    (pss_cons (ps_set (i := 5) sc__law_drawn.nd rfl (Or.inl rfl) (pe_op op_mod (pe_op op_add (pe_op op_mul (pv 0) pe_int) pe_int) pe_int))
    (pss_cons (ps_set (i := 4) sc__law_drawn.nd rfl (Or.inl rfl) (pe_op op_mod (pe_op op_add (pe_op op_add (pe_op op_mul (pv 4) (pv 4)) (pe_op op_mul pe_int (pv 4))) pe_int) pe_int))
    (pss_cons (ps_for PassesOwn.never rfl (pi_list (pv 1)) (pg_name (i := 3) sc__law_drawn.nd rfl (Or.inl rfl))
      (pss_cons (ps_set (i := 4) sc__law_drawn.nd rfl (Or.inl rfl) (pe_op op_mod (pe_op op_add (pe_op op_add (pe_op op_mul (pv 4) (pv 4)) (pe_op op_mul pe_int (pv 4))) pe_int) pe_int))
      (pss_cons (ps_set (i := 5) sc__law_drawn.nd rfl (Or.inl rfl) (pe_op op_mod (pe_op op_add (pe_op op_add (pe_op op_mul (pv 5) pe_int) (pe_op op_mul pe_int (pe_op op_mod (pv 4) pe_int))) pe_int) pe_int))
      (pss_one (ps_expr (pe_bm PySem.F.plainAttrs_list PySem.F.slot_list_append PySem.F.type_list_append mt_append (pv 2) (pa_cons (pe_op op_mod (pe_op op_add (pe_op op_mul (pv 4) pe_int) (pv 5)) (pv 3)) pa_nil)))))))
    (pss_one (ps_ret (pv 2))))))))), ?_⟩
  refine ⟨(by show 0 ≤ sizeLine; decide), fun l hl => ?_⟩
  have nzl : z ≠ l := ne_of_none hz hl
  have hlen : (ms.map V.int).length = ms.length := List.length_map _
  have big : (2000 : Nat) ≤ sizeLine := by decide
  have getm : ∀ {j : Nat} {x : V}, (ms.map V.int)[j]? = some x → ∃ m : Int, x = .int m ∧ ms[j]? = some m ∧ 0 < m ∧ m ≤ 4294967296 ∧ j < ms.length := by
    intro j x h
    rw [List.getElem?_map] at h
    cases hjx : ms[j]? with
    | none => rw [hjx] at h; cases h
    | some m =>
      rw [hjx] at h
      cases h
      exact ⟨m, rfl, rfl, (hm m (List.mem_of_getElem? hjx)).1, (hm m (List.mem_of_getElem? hjx)).2, (List.getElem?_eq_some_iff.mp hjx).1⟩
  refine ⟨_, rfl, _, _, rfl, rfl, ⟨by decide, by decide, by decide⟩, _, _, rfl, rfl, _, rfl, ?_⟩
  refine ite2 (fun _ => ?_) (fun _ => ?_)
  · refine ⟨_, rfl, z, rfl, ⟨_, SqL.of (same_new hl (.lst []) _ _ hz)⟩, for_list (xs := ms.map V.int) (fun j σ H2 => ∃ (xs : List Int) (c' : Int) (y u v : Option V), σ = [some (.int c'), some (.ref z), some (.ref l), y, u, v] ∧ H2 l = some (.lst (xs.map V.int)) ∧ SameX l H H2 ∧ DrOk xs (ms.take j)) ⟨[], c, _, _, _, rfl, upd_same, SameX.upd, dr_nil⟩ ?_ ?_ ?_⟩
    · rintro j σ H2 hj ⟨xs, c', y, u, v, rfl, hx, x2, dr⟩
      exact SqL.of (x2 _ _ nzl hz)
    · rintro j x σ H2 hj ⟨xs, c', y, u, v, rfl, hx, x2, dr⟩
      obtain ⟨m, rfl, hjm, m0, m1, hjl⟩ := getm hj
      have dl := dr.1
      have tl : (ms.take j).length = j := by rw [List.length_take]; omega
      refine ⟨_, rfl, .inl ⟨rfl, _, SqL.of hx⟩, _, rfl, _, rfl, _, _, rfl, rfl, m0, l, _, _, rfl, rfl, hx, (by rw [List.length_map]; omega), ?_⟩
      refine ⟨_, rfl, _, rfl, _, _, rfl, rfl, ⟨m0, log_small m0 (by omega)⟩, ?_⟩
      refine ⟨xs ++ [c' % m], _, _, _, _, rfl, ?_, x2.trans SameX.upd, ?_⟩
      · rw [upd_same, List.map_append]
        rfl
      · rw [take_snoc hjm]
        exact dr_snoc dr (Int.emod_nonneg _ (by omega)) (Int.emod_lt_of_pos _ m0)
    · rintro σ H2 ⟨xs, c', y, u, v, rfl, hx, x2, dr⟩
      rw [hlen, List.take_length] at dr
      exact ⟨_, rfl, q l xs H2 hl hx (x2.fresh hl) dr⟩
  · refine ⟨_, rfl, _, _, rfl, rfl, .inr ⟨by decide, by decide⟩, _, _, rfl, rfl, _, _, rfl, rfl, (by show (0 : Int) < 2147483647; decide), ?_⟩
    refine ⟨_, rfl, _, _, rfl, rfl, .inr ⟨by decide, by decide⟩, _, _, rfl, rfl, _, _, rfl, rfl, (by show (0 : Int) < 998244353; decide), ?_⟩
    refine ⟨_, rfl, _, rfl, _, _, rfl, rfl, cmul_mod (by decide) (by decide), _, rfl, _, _, rfl, rfl, .inl ⟨by decide, by decide⟩, _, _, rfl, rfl, _, _, rfl, rfl, _, _, rfl, rfl, (by show (0 : Int) < 2147483647; decide), ?_⟩
    have i0 : ∀ y : Int, 0 ≤ y % 2147483647 ∧ y % 2147483647 < 2147483647 := fun y => ⟨by omega, by omega⟩
    refine ⟨_, rfl, z, rfl, ⟨_, SqL.of (same_new hl (.lst []) _ _ hz)⟩, for_list (xs := ms.map V.int) (fun j σ H2 => ∃ (xs : List Int) (a b : Int) (y : Option V), σ = [some (.int c), some (.ref z), some (.ref l), y, some (.int a), some (.int b)] ∧ 0 ≤ a ∧ a < 2147483647 ∧ H2 l = some (.lst (xs.map V.int)) ∧ SameX l H H2 ∧ DrOk xs (ms.take j)) ⟨[], _, _, _, rfl, (i0 _).1, (i0 _).2, upd_same, SameX.upd, dr_nil⟩ ?_ ?_ ?_⟩
    · rintro j σ H2 hj ⟨xs, a, b, y, rfl, a0, a1, hx, x2, dr⟩
      exact SqL.of (x2 _ _ nzl hz)
    · rintro j x σ H2 hj ⟨xs, a, b, y, rfl, a0, a1, hx, x2, dr⟩
      obtain ⟨m, rfl, hjm, m0, m1, hjl⟩ := getm hj
      have dl := dr.1
      have tl : (ms.take j).length = j := by rw [List.length_take]; omega
      refine ⟨_, rfl, _, rfl, _, _, rfl, rfl, cmul_l a0 (by omega), _, rfl, _, _, rfl, rfl, .inl ⟨by decide, by decide⟩, _, _, rfl, rfl, _, _, rfl, rfl, _, _, rfl, rfl, (by show (0 : Int) < 2147483647; decide), ?_⟩
      refine ⟨_, rfl, _, _, rfl, rfl, .inr ⟨by decide, by decide⟩, _, rfl, _, _, rfl, rfl, (by show (0 : Int) < 65536; decide), _, _, rfl, rfl, .inl ⟨by decide, by decide⟩, _, _, rfl, rfl, _, _, rfl, rfl, _, _, rfl, rfl, (by show (0 : Int) < 998244353; decide), ?_⟩
      refine ⟨_, rfl, .inl ⟨rfl, _, SqL.of hx⟩, _, rfl, _, _, rfl, rfl, .inr ⟨by decide, by decide⟩, _, rfl, _, _, rfl, rfl, _, rfl, _, _, rfl, rfl, m0, l, _, _, rfl, rfl, hx, (by rw [List.length_map]; omega), ?_⟩
      refine ⟨xs ++ [(((a * a + 48271 * a + 13) % 2147483647) * 998244353 + (b * 16807 + 48611 * ((a * a + 48271 * a + 13) % 2147483647 % 65536) + 5) % 998244353) % m], _, _, _, rfl, (i0 _).1, (i0 _).2, ?_, x2.trans SameX.upd, ?_⟩
      · rw [upd_same, List.map_append]
        rfl
      · rw [take_snoc hjm]
        exact dr_snoc dr (Int.emod_nonneg _ (by omega)) (Int.emod_lt_of_pos _ m0)
    · rintro σ H2 ⟨xs, a, b, y, rfl, a0, a1, hx, x2, dr⟩
      rw [hlen, List.take_length] at dr
      exact ⟨_, rfl, q l xs H2 hl hx (x2.fresh hl) dr⟩
theorem wd_drop {B : Int} {ws : List Int} (h : Wds B ws) (k : Nat) : Wds B (ws.drop k) := ⟨fun x hx => h.ok x (List.mem_of_mem_drop hx)⟩
theorem ok__law_number {f : Addr} {fd : FuncData} (F : Fun K "_law_number" "_law_number" s__law_number f fd) (T : Txt K mg)  : FnOk P w K mg base CX0 1 f fd ["_law_words_here", "_law_width"] spLNum := by
  refine F.ok sc__law_number (fun vs H Q E h => ?_) (fun cdv A outer s H vs Q E hr h => ?_)
  · obtain ⟨a, ws, i, rfl, _⟩ := h
    rfl
  obtain ⟨a, ws, i, rfl, h1, h2, ha, wd, ln, q⟩ := h
  refine ⟨_, (pss_cons (ps_set (i := 2) sc__law_number.nd rfl (Or.inl rfl) pe_int)
    (pss_cons (ps_for PassesOwn.never rfl (pi_list (pe_rev (pv 0))) (pg_name (i := 3) sc__law_number.nd rfl (Or.inl rfl))
      (pss_one (ps_set (i := 2) sc__law_number.nd rfl (Or.inl rfl) (pe_op op_or (pe_op op_shlB (pv 2) (pv 1)) (pv 3)))))
    (pss_one (ps_ret (pv 2))))), ?_⟩
  have hB := p_pos i.toNat
  have hl : (ws.map V.int).length = ws.length := List.length_map _
  refine ⟨_, rfl, a, _, rfl, SqL.of ha, fun p hp => ?_⟩
  have s1 := same_new hp (.lst (ws.map V.int).reverse)
  refine ⟨p, rfl, ⟨_, SqL.of upd_same⟩, for_list (xs := (ws.map V.int).reverse) (fun j σ H2 => ∃ y : Option V, σ = [some (.ref a), some (.int i), some (.int (num (2 ^ i.toNat) (ws.drop (ws.length - j)))), y] ∧ H2 = upd H p (.lst (ws.map V.int).reverse)) ⟨_, by show _ = [some (V.ref a), some (V.int i), some (V.int (num (2 ^ i.toNat) (ws.drop (ws.length - 0)))), _]; rw [Nat.sub_zero, List.drop_length]; rfl, rfl⟩ ?_ ?_ ?_⟩
  · rintro j σ H2 hj ⟨y, rfl, rfl⟩
    exact SqL.of upd_same
  · rintro j x σ H2 hx ⟨y, rfl, rfl⟩
    have hj : j < ws.length := by
      have := (List.getElem?_eq_some_iff.mp hx).1
      rw [List.length_reverse, hl] at this
      exact this
    have hlt : ws.length - 1 - j < ws.length := by omega
    rw [List.getElem?_reverse (by rw [hl]; exact hj), List.getElem?_map, hl, List.getElem?_eq_getElem hlt] at hx
    cases hx
    have hd : ws.drop (ws.length - (j + 1)) = ws[ws.length - 1 - j] :: ws.drop (ws.length - j) := by
      have e1 : ws.length - (j + 1) = ws.length - 1 - j := by omega
      have e2 : ws.length - j = ws.length - 1 - j + 1 := by omega
      rw [e1, e2]
      exact List.drop_eq_getElem_cons hlt
    have bn := bits_num h1 h2 (wd_drop wd (ws.length - j)) (by rw [List.length_drop]; omega)
    have wk := wd.ok _ (List.getElem_mem hlt)
    refine ⟨_, rfl, _, rfl, _, _, rfl, rfl, ⟨by omega, by omega, Nat.le_trans bn (by decide)⟩, _, rfl, _, _, rfl, rfl, ?_⟩
    refine ⟨some (.int ws[ws.length - 1 - j]), ?_, rfl⟩
    rw [hd]
    show [some (V.ref a), some (V.int i), some (V.int (Builtin.bitOr (num (2 ^ i.toNat) (ws.drop (ws.length - j)) * 2 ^ i.toNat) ws[ws.length - 1 - j])), _] = [some (V.ref a), some (V.int i), some (V.int (ws[ws.length - 1 - j] + 2 ^ i.toNat * num (2 ^ i.toNat) (ws.drop (ws.length - j)))), _]
    rw [or_shift (num_nonneg hB (wd_drop wd _)) wk.1 wk.2, Int.add_comm, Int.mul_comm]
  · rintro σ H2 ⟨y, rfl, rfl⟩
    rw [List.length_reverse, hl, Nat.sub_self, List.drop_zero]
    exact ⟨_, rfl, q _ s1⟩
theorem ok__law_same {f : Addr} {fd : FuncData} (F : Fun K "_law_same" "_law_same" s__law_same f fd) (T : Txt K mg) (H__law_whole : Has P w K mg base 1 "_law_whole" ["_law_found"] spWhole) : FnOk P w K mg base CX0 2 f fd ["_law_found", "_law_due"] spSame := by
  refine F.ok sc__law_same (fun vs H Q E h => ?_) (fun cdv A outer s H vs Q E hr h => ?_)
  · obtain ⟨a, b, ws, rfl, _⟩ := h
    rfl
  obtain ⟨a, b, ws, rfl, ha, hb, ln, q⟩ := h
  refine ⟨_, (pss_cons (ps_if (PW.pt (pw_or (pt_not (pt_val (pe_callB call_isinst rfl T.n_isinstance boot_isinstance (pa_cons (pv 0) (pa_cons (pe_ty rfl T.n_list boot_list) pa_nil))))) (pw_or1 (pt_cmpR op_ne (pe_callB call_len_seq rfl T.n_len boot_len (pa_cons (pv 0) pa_nil)) (pe_callB call_len_seq rfl T.n_len boot_len (pa_cons (pv 1) pa_nil)) (nomark _)))))
      (pss_one (ps_ret pe_bl))
      pss_nil)
    (pss_cons (ps_for PassesOwn.never rfl (pi_range1 rfl T.n_range (pa_cons (pe_callB call_len_seq rfl T.n_len boot_len (pa_cons (pv 1) pa_nil)) pa_nil)) (pg_name (i := 2) sc__law_same.nd rfl (Or.inl rfl))
      (pss_one (ps_if (PW.pt (pw_or (pt_not (pt_val (pe_fn H__law_whole (hr.mono (by omega)) rfl (pa_cons (pe_ix ix_list (pv 0) (pv 2) (fun _ _ => rfl)) pa_nil)))) (pw_or1 (pt_cmpR op_ne (pe_ix ix_list (pv 0) (pv 2) (fun _ _ => rfl)) (pe_ix ix_list (pv 1) (pv 2) (fun _ _ => rfl)) (nomark _)))))
        (pss_one (ps_ret pe_bl))
        pss_nil)))
    (pss_one (ps_ret pe_bl)))), ?_⟩
  have hl : (ws.map V.int).length = ws.length := List.length_map _
  refine ⟨_, rfl, _, _, _, _, _, rfl, rfl, TyOf.lst ha, rfl, _, rfl, iteF ?_⟩
  refine ⟨_, rfl, a, _, rfl, .inl (SqL.of ha), _, rfl, b, _, rfl, .inl (SqL.of hb), rfl, _, rfl, iteNS rfl ?_⟩
  refine ⟨_, rfl, b, _, rfl, .inl (SqL.of hb), _, rfl, by rw [hl]; omega, by rw [hl]; omega, for_range (fun j σ H1 => ∃ y : Option V, σ = [some (.ref a), some (.ref b), y] ∧ H1 = H) ⟨_, rfl, rfl⟩ ?_ ?_⟩
  · rintro j σ H1 hj ⟨y, rfl, rfl⟩
    have hj2 : j < ws.length := by rw [hl] at hj; omega
    have g := getI ws j hj2
    have ej : (0 : Int) + (j : Int) = (j : Int) := Int.zero_add _
    rw [← ej] at g
    refine ⟨_, rfl, _, rfl, a, _, _, _, rfl, rfl, SqL.of ha, g, _, rfl, _, rfl, iteF ?_⟩
    exact ⟨_, rfl, _, rfl, a, _, _, _, rfl, rfl, SqL.of ha, g, _, rfl, _, rfl, b, _, _, _, rfl, rfl, SqL.of hb, g, rfl, _, rfl, iteNS rfl ⟨_, rfl, rfl⟩⟩
  · rintro σ H1 ⟨y, rfl, rfl⟩
    exact q
theorem ix_last {n : Nat} (h : 0 < n) : ixN n (-1) = some (n - 1) := by
  unfold ixN
  rw [if_neg (by decide), if_pos (by omega)]
  congr 1
  omega
theorem set_ints (ws : List Int) (j : Nat) (v : Int) : (ws.map V.int).set j (V.int v) = (ws.set j v).map V.int := List.map_set.symm
theorem last_set {ws : List Int} (h : 0 < ws.length) (v : Int) : (ws.set (ws.length - 1) v).getLast? = some v := by
  rw [List.getLast?_eq_getElem?, List.length_set, List.getElem?_set_self (by omega)]
theorem Wds.set {B v : Int} {ws : List Int} (h : Wds B ws) (j : Nat) (v0 : 0 ≤ v) (v1 : v < B) : Wds B (ws.set j v) := ⟨fun x hx => by
  rcases List.mem_or_eq_of_mem_set hx with hx | rfl
  · exact h.ok x hx
  · exact ⟨v0, v1⟩⟩
theorem Wds.snoc {B v : Int} {ws : List Int} (h : Wds B ws) (v0 : 0 ≤ v) (v1 : v < B) : Wds B (ws ++ [v]) := ⟨fun x hx => by
  rcases List.mem_append.mp hx with hx | hx
  · exact h.ok x hx
  · rw [List.mem_singleton.mp hx]
    exact ⟨v0, v1⟩⟩
theorem last_at {ws : List Int} (h : 0 < ws.length) : ∃ s, ws[ws.length - 1]? = some s ∧ ws.getLast? = some s ∧ s ∈ ws := by
  refine ⟨ws[ws.length - 1], List.getElem?_eq_getElem (by omega), ?_, List.getElem_mem _⟩
  rw [List.getLast?_eq_getElem?, List.getElem?_eq_getElem (by omega)]
def spLLong : Sp := fun vs H Q _ => ∃ (l : Addr) (ds : List Int) (n0 : Nat) (m w : Int), vs = [.ref l, .int (n0 : Int), .int m, .int w] ∧ H l = some (.lst (ds.map V.int)) ∧ (n0 : Int) + 2 * m ≤ ((ds.length : Nat) : Int) ∧ 0 ≤ m ∧ m ≤ 6 ∧ 4 ≤ w ∧ w ≤ 32 ∧ ∀ (a : Addr) (ws : List Int) H', H a = none → H' a = some (.lst (ws.map V.int)) → ws.length = m.toNat → Wds (2 ^ w.toNat) ws → ws.getLast? ≠ some 0 → Same H H' → Q (.ref a) H'
theorem ok__law_long {f : Addr} {fd : FuncData} (F : Fun K "_law_long" "_law_long" s__law_long f fd) (T : Txt K mg)  : FnOk P w K mg base CX0 1 f fd ["_law_draws", "_law_at", "_law_many", "_law_width"] spLLong := by
  refine F.ok sc__law_long (fun vs H Q E h => ?_) (fun cdv A outer s H vs Q E hr h => ?_)
  · obtain ⟨l, ds, n0, m, i, rfl, _⟩ := h
    rfl
  obtain ⟨l, ds, n0, m, i, rfl, hl, hn0, m0, m1, h1, h2, q⟩ := h
  refine ⟨_, (pss_cons (ps_set (i := 4) sc__law_long.nd rfl (Or.inl rfl) (pe_op op_shl pe_int (pv 3)))
    (pss_cons (ps_set (i := 5) sc__law_long.nd rfl (Or.inl rfl) (pe_lst (pa_cons pe_int (pa_cons (pe_op op_sub (pv 4) pe_int) (pa_cons (pe_op op_fdivB (pv 4) pe_int) (pa_cons (pe_op op_sub (pe_op op_fdivB (pv 4) pe_int) pe_int) (pa_cons pe_int pa_nil)))))))
    (pss_cons (ps_set (i := 6) sc__law_long.nd rfl (Or.inl rfl) (pe_lst pa_nil))
    (pss_cons (ps_for PassesOwn.never rfl (pi_range1 rfl T.n_range (pa_cons (pv 2) pa_nil)) (pg_name (i := 7) sc__law_long.nd rfl (Or.inl rfl))
      (pss_cons (ps_set (i := 8) sc__law_long.nd rfl (Or.inl rfl) (pe_op op_mod (pe_ix ix_list (pv 0) (pe_op op_add (pv 1) (pe_op op_mul pe_int (pv 7))) (fun _ _ => rfl)) pe_int))
      (pss_cons (ps_set (i := 9) sc__law_long.nd rfl (Or.inl rfl) (pe_op op_mod (pe_ix ix_list (pv 0) (pe_op op_add (pe_op op_add (pv 1) (pe_op op_mul pe_int (pv 7))) pe_int) (fun _ _ => rfl)) (pv 4)))
      (pss_one (ps_expr (pe_bm PySem.F.plainAttrs_list PySem.F.slot_list_append PySem.F.type_list_append mt_append (pv 6) (pa_cons (pe_ifExp (pt_cmpR op_lt (pv 8) pe_int (nomark _)) (pe_ix ix_list (pv 5) (pv 8) (fun _ _ => rfl)) (pv 9)) pa_nil)))))))
    (pss_join (ps_if (PW.pt (pw_and (pt_cmpR op_gt (pv 2) pe_int (nomark _)) (pw_and1 (pt_cmpR op_eq (pe_ix ix_list (pv 6) (pe_un un_neg pe_int) (fun _ _ => rfl)) pe_int (nomark _)))))
      (pss_one (ps_asg (pe_op op_add pe_int (pe_op op_mod (pe_ix ix_list (pv 0) (pe_op op_sub (pe_op op_add (pv 1) (pe_op op_mul pe_int (pv 2))) pe_int) (fun _ _ => rfl)) (pe_op op_sub (pv 4) pe_int))) (pg_sub (pv 6) (pe_un un_neg pe_int) set_list)))
      pss_nil)
    (pss_one (ps_ret (pv 6)))))))), ?_⟩
  have pb := pw_bounds h1 h2
  have e1 : (1 : Int) * 2 ^ i.toNat = 2 ^ i.toNat := Int.one_mul _
  have big : (1001 : Nat) ≤ sizeLine := by decide
  refine ⟨_, rfl, _, _, rfl, rfl, cpow1 (by omega) (by omega), ?_⟩
  refine ⟨_, rfl, _, _, rfl, rfl, _, rfl, _, _, rfl, rfl, ⟨by decide, by decide⟩, _, rfl, _, _, rfl, rfl, ⟨by decide, by decide⟩, _, _, rfl, rfl, (by show 5 ≤ sizeLine; decide), fun mm hmm => ?_⟩
  have hm0 : (upd H mm (.lst [.int 0, .int (1 * 2 ^ i.toNat - 1), .int (1 * 2 ^ i.toNat / 2), .int (1 * 2 ^ i.toNat / 2 - 1), .int 1])) mm = some (.lst [.int 0, .int (1 * 2 ^ i.toNat - 1), .int (1 * 2 ^ i.toNat / 2), .int (1 * 2 ^ i.toNat / 2 - 1), .int 1]) := upd_same
  have s0 := same_new hmm (.lst [.int 0, .int (1 * 2 ^ i.toNat - 1), .int (1 * 2 ^ i.toNat / 2), .int (1 * 2 ^ i.toNat / 2 - 1), .int 1])
  have hl0 := s0 _ _ hl
  generalize (upd H mm (.lst [.int 0, .int (1 * 2 ^ i.toNat - 1), .int (1 * 2 ^ i.toNat / 2), .int (1 * 2 ^ i.toNat / 2 - 1), .int 1])) = H0 at hm0 s0 hl0 ⊢
  refine ⟨(by show 0 ≤ sizeLine; decide), fun p hp => ?_⟩
  have nlp : l ≠ p := ne_of_none hl0 hp
  have nmp : mm ≠ p := ne_of_none hm0 hp
  have gd : ∀ n : Nat, n < ds.length → ∃ d : Int, atI (ds.map V.int) (n : Int) = some (.int d) := fun n hn => ⟨_, getI ds n (by omega)⟩
  refine ⟨_, rfl, _, rfl, by omega, by omega, for_range (fun j σ H1 => ∃ (ws : List Int) (y1 y2 y3 : Option V), σ = [some (.ref l), some (.int (n0 : Int)), some (.int m), some (.int i), some (.int (1 * 2 ^ i.toNat)), some (.ref mm), some (.ref p), y1, y2, y3] ∧ H1 p = some (.lst (ws.map V.int)) ∧ ws.length = j ∧ Wds (2 ^ i.toNat) ws ∧ SameX p H0 H1) ⟨[], _, _, _, rfl, upd_same, rfl, ⟨fun x hx => by simp at hx⟩, SameX.upd⟩ ?_ ?_⟩
  · rintro j σ H1 hj ⟨ws, y1, y2, y3, rfl, hws, hwl, wd, x1⟩
    obtain ⟨d1, g1⟩ := gd (n0 + 2 * j) (by omega)
    obtain ⟨d2, g2⟩ := gd (n0 + 2 * j + 1) (by omega)
    have e3 : ((n0 + 2 * j : Nat) : Int) = (n0 : Int) + 2 * (0 + (j : Int)) := by omega
    have e4 : ((n0 + 2 * j + 1 : Nat) : Int) = (n0 : Int) + 2 * (0 + (j : Int)) + 1 := by omega
    rw [e3] at g1
    rw [e4] at g2
    have hl1 := x1 _ _ nlp hl0
    have hm1 := x1 _ _ nmp hm0
    refine ⟨_, rfl, _, rfl, _, rfl, _, _, rfl, rfl, .inl ⟨by decide, by decide⟩, _, _, rfl, rfl, l, _, _, _, rfl, rfl, SqL.of hl1, g1, _, _, rfl, rfl, (by show (0 : Int) < 9; decide), ?_⟩
    refine ⟨_, rfl, _, rfl, _, rfl, _, _, rfl, rfl, .inl ⟨by decide, by decide⟩, _, _, rfl, rfl, _, _, rfl, rfl, l, _, _, _, rfl, rfl, SqL.of hl1, g2, _, rfl, _, _, rfl, rfl, p1_pos _, ?_⟩
    have fin : ∀ v : Int, 0 ≤ v → v < 2 ^ i.toNat → ∃ (ws' : List Int) (y1 y2 y3 : Option V), [some (V.ref l), some (.int (n0 : Int)), some (.int m), some (.int i), some (.int (1 * 2 ^ i.toNat)), some (.ref mm), some (.ref p), some (.int (0 + (j : Int))), some (.int (d1 % 9)), some (.int (d2 % (1 * 2 ^ i.toNat)))] = [some (.ref l), some (.int (n0 : Int)), some (.int m), some (.int i), some (.int (1 * 2 ^ i.toNat)), some (.ref mm), some (.ref p), y1, y2, y3] ∧ (upd H1 p (.lst (ws.map V.int ++ [.int v]))) p = some (.lst (ws'.map V.int)) ∧ ws'.length = j + 1 ∧ Wds (2 ^ i.toNat) ws' ∧ SameX p H0 (upd H1 p (.lst (ws.map V.int ++ [.int v]))) := fun v v0 v1 => ⟨ws ++ [v], _, _, _, rfl, by rw [upd_same, List.map_append]; rfl, by simp [hwl], wd.snoc v0 v1, x1.trans SameX.upd⟩
    have szl : (ws.map V.int).length < sizeLine := by rw [List.length_map, hwl]; omega
    refine ⟨_, rfl, .inl ⟨rfl, _, SqL.of hws⟩, _, rfl, _, _, rfl, rfl, _, rfl, ?_⟩
    by_cases c5 : d1 % 9 < 5
    · refine iteD c5 ?_
      obtain ⟨v, hv, v0, v1⟩ : ∃ v : Int, atI [V.int 0, .int (1 * 2 ^ i.toNat - 1), .int (1 * 2 ^ i.toNat / 2), .int (1 * 2 ^ i.toNat / 2 - 1), .int 1] (d1 % 9) = some (.int v) ∧ 0 ≤ v ∧ v < 2 ^ i.toNat := by
        have kk0 : 0 ≤ d1 % 9 := Int.emod_nonneg _ (by decide)
        generalize d1 % 9 = k at *
        rcases (by omega : k = 0 ∨ k = 1 ∨ k = 2 ∨ k = 3 ∨ k = 4) with rfl | rfl | rfl | rfl | rfl
        · exact ⟨_, rfl, by omega, by omega⟩
        · exact ⟨_, rfl, by omega, by omega⟩
        · exact ⟨_, rfl, by omega, by omega⟩
        · exact ⟨_, rfl, by omega, by omega⟩
        · exact ⟨_, rfl, by omega, by omega⟩
      exact ⟨_, rfl, _, rfl, mm, _, _, _, rfl, rfl, SqL.of hm1, hv, p, _, _, rfl, rfl, hws, szl, fin v v0 v1⟩
    · refine iteDN c5 ?_
      have r0 := Int.emod_nonneg d2 (Int.ne_of_gt (p1_pos i.toNat))
      have r1 := Int.emod_lt_of_pos d2 (p1_pos i.toNat)
      exact ⟨_, rfl, p, _, _, rfl, rfl, hws, szl, fin _ r0 (by omega)⟩
  rintro σ H1 ⟨ws, y1, y2, y3, rfl, hws, hwl, wd, x1⟩
  have hl1 := x1 _ _ nlp hl0
  refine ⟨fun σ2 H2 => ∃ ws' : List Int, σ2 = [some (.ref l), some (.int (n0 : Int)), some (.int m), some (.int i), some (.int (1 * 2 ^ i.toNat)), some (.ref mm), some (.ref p), y1, y2, y3] ∧ H2 p = some (.lst (ws'.map V.int)) ∧ ws'.length = m.toNat ∧ Wds (2 ^ i.toNat) ws' ∧ ws'.getLast? ≠ some 0 ∧ SameX p H0 H2, ?_, ?_⟩
  · refine ⟨_, rfl, _, _, rfl, rfl, _, rfl, ?_⟩
    by_cases c0 : 0 < m
    · refine iteD c0 ?_
      obtain ⟨s0', a1, a2, a3⟩ := last_at (ws := ws) (by omega)
      refine ⟨_, rfl, _, rfl, p, _, _, _, rfl, rfl, SqL.of hws, at_last a1, rfl, _, rfl, ?_⟩
      by_cases cz : s0' = 0
      · refine iteD (congrArg V.int cz) ?_
        obtain ⟨d3, g3⟩ := gd (n0 + 2 * m.toNat - 1) (by omega)
        have e5 : ((n0 + 2 * m.toNat - 1 : Nat) : Int) = (n0 : Int) + 2 * m - 1 := by omega
        rw [e5] at g3
        refine ⟨_, rfl, _, rfl, _, rfl, _, _, rfl, rfl, .inl ⟨by decide, by decide⟩, _, _, rfl, rfl, _, _, rfl, rfl, l, _, _, _, rfl, rfl, SqL.of hl1, g3, _, rfl, _, _, rfl, rfl, _, _, rfl, rfl, (by omega), _, _, rfl, rfl, _, rfl, _, rfl, p, _, _, _, rfl, rfl, hws, ix_last (by rw [List.length_map]; omega), ?_⟩
        have r0 := Int.emod_nonneg d3 (show (1 * 2 ^ i.toNat - 1 : Int) ≠ 0 by omega)
        have r1 := Int.emod_lt_of_pos d3 (show (0 : Int) < 1 * 2 ^ i.toNat - 1 by omega)
        refine ⟨ws.set (ws.length - 1) (1 + d3 % (1 * 2 ^ i.toNat - 1)), rfl, ?_, by rw [List.length_set]; omega, wd.set _ (by omega) (by omega), ?_, x1.trans SameX.upd⟩
        · rw [upd_same, List.length_map]
          show some (HO.lst ((ws.map V.int).set (ws.length - 1) (V.int (1 + d3 % (1 * 2 ^ i.toNat - 1))))) = _
          rw [set_ints]
        · rw [last_set (by omega)]
          intro z
          have := Option.some.inj z
          omega
      · refine iteDN (fun z => cz (by injection z)) ?_
        exact ⟨ws, rfl, hws, by omega, wd, by rw [a2]; intro z; exact cz (Option.some.inj z), x1⟩
    · refine iteDN c0 ?_
      refine iteF ?_
      have e0 : ws = [] := List.eq_nil_of_length_eq_zero (by omega)
      have la0 : ws.getLast? ≠ some 0 := by rw [e0]; exact fun z => nomatch z
      exact ⟨ws, rfl, hws, by omega, wd, la0, x1⟩
  · rintro σ2 H2 ⟨ws', rfl, hw2, hl2, wd2, la2, x2⟩
    exact ⟨_, rfl, q p ws' H2 (s0.free hp) hw2 hl2 wd2 la2 (fun b o h => x2 b o (ne_of_none (s0 _ _ h) hp) (s0 _ _ h))⟩
theorem cut_tail (ws : List Int) : cutV (ws.map V.int) (some (-1)) none = (ws.drop (ws.length - 1)).map V.int := by
  unfold cutV
  show ((ws.map V.int).drop ((-1 : Int) + ((ws.map V.int).length : Int)).toNat).take ((ws.map V.int).length - ((-1 : Int) + ((ws.map V.int).length : Int)).toNat) = _
  have e : ((-1 : Int) + ((ws.map V.int).length : Int)).toNat = ws.length - 1 := by rw [List.length_map]; omega
  rw [e, List.take_of_length_le (by rw [List.length_drop]; exact Nat.le_refl _), List.map_drop]
theorem cut_from (ws : List Int) (k : Nat) (h : k ≤ ws.length) : cutV (ws.map V.int) (some (k : Int)) none = (ws.drop k).map V.int := by
  unfold cutV
  have e : HT.sIx (ws.map V.int).length 0 (some (k : Int)) = k := by
    show (if (k : Int) < 0 then ((k : Int) + ((ws.map V.int).length : Int)).toNat else min (k : Int).toNat (ws.map V.int).length) = k
    rw [if_neg (by omega), List.length_map]
    omega
  rw [e]
  show ((ws.map V.int).drop k).take ((ws.map V.int).length - k) = _
  rw [List.take_of_length_le (by rw [List.length_drop]; exact Nat.le_refl _), List.map_drop]
theorem rep_one {n : Nat} {x : V} : (List.replicate n [x]).flatten = List.replicate n x := by
  induction n with
  | zero => rfl
  | succ n ih => rw [List.replicate_succ, List.flatten_cons, ih]; rfl
theorem ok_need_longs {f : Addr} {fd : FuncData} (F : Fun K "need_longs" "need_longs" s_need_longs f fd) (T : Txt K mg) (H_need_long : Has P w K mg base 5 "need_long" ["width", "one"] spNeedL) : FnOk P w K mg base CX0 6 f fd ["width", "one", "other"] spNeedLs := by
  refine F.ok sc_need_longs (fun vs H Q E h => ?_) (fun cdv A outer s H vs Q E hr h => ?_)
  · obtain ⟨i, a, b, xs, ys, rfl, _⟩ := h
    rfl
  obtain ⟨i, a, b, xs, ys, rfl, h1, h2, ha, hb, lx, ly, q⟩ := h
  refine ⟨_, (pss_cons (ps_expr (pe_fn H_need_long (hr.mono (by omega)) rfl (pa_cons (pv 0) (pa_cons (pv 1) pa_nil))))
    (pss_one (ps_expr (pe_fn H_need_long (hr.mono (by omega)) rfl (pa_cons (pv 0) (pa_cons (pv 2) pa_nil)))))), ?_⟩
  refine ⟨_, rfl, _, rfl, i, a, xs, rfl, h1, h2, ha, lx, fun H1 s1 => ?_⟩
  exact ⟨_, rfl, _, rfl, i, b, ys, rfl, h1, h2, s1 _ _ hb, ly, fun H2 s2 => q H2 (s1.trans s2)⟩
theorem ok_trimmed {f : Addr} {fd : FuncData} (F : Fun K "trimmed" "trimmed" s_trimmed f fd) (T : Txt K mg)  : FnOk P w K mg base CX0 1 f fd ["words"] spTrim := by
  refine F.ok sc_trimmed (fun vs H Q E h => ?_) (fun cdv A outer s H vs Q E hr h => ?_)
  · obtain ⟨a, ws, rfl, _⟩ := h
    rfl
  obtain ⟨a, ws, rfl, ha, ln, q⟩ := h
  refine ⟨_, (pss_cons (ps_set (i := 1) sc_trimmed.nd rfl (Or.inl rfl) (pe_callB call_len_seq rfl T.n_len boot_len (pa_cons (pv 0) pa_nil)))
    (pss_cons (ps_while PassesOwn.never (PW.pt (pw_and (pt_cmpR op_gt (pv 1) pe_int (nomark _)) (pw_and1 (pt_cmpR op_eq (pe_ix ix_list (pv 0) (pe_op op_sub (pv 1) pe_int) (fun _ _ => rfl)) pe_int (nomark _)))))
      (pss_one (ps_set (i := 1) sc_trimmed.nd rfl (Or.inl rfl) (pe_op op_sub (pv 1) pe_int))))
    (pss_one (ps_ret (pe_slice sl_list (pv 0) po_none (po_some (pv 1))))))), ?_⟩
  have hl : (ws.map V.int).length = ws.length := List.length_map _
  refine ⟨_, rfl, a, _, rfl, .inl (SqL.of ha), ?_⟩
  have fin : ∀ k : Nat, k ≤ ws.length → (∀ B, num B (ws.take k) = num B ws) → (ws.take k).getLast? ≠ some 0 → ∀ p, H p = none → Q (.ref p) (upd H p (.lst (cutV (ws.map V.int) none (some (k : Int))))) := fun k hk hn hla p hp => by
    rw [cut_to ws k hk]
    exact q p k _ hp upd_same hk hn hla (same_new hp _)
  refine while_by (fun σ H1 => ∃ k : Nat, σ = [some (.ref a), some (.int (k : Int))] ∧ k ≤ ws.length ∧ (∀ B, num B (ws.take k) = num B ws) ∧ H1 = H) (fun σ H1 => match σ with | [_, some (.int k)] => k.toNat | _ => 0) ⟨ws.length, ?_, Nat.le_refl _, fun B => by rw [List.take_length], rfl⟩ ?_ ?_
  · show [some (V.ref a), some (V.int (((ws.map V.int).length : Nat) : Int))] = _
    rw [hl]
  · rintro σ H1 ⟨k, rfl, hk, hn, rfl⟩
    refine ⟨_, rfl, _, _, rfl, rfl, _, rfl, ?_⟩
    by_cases c0 : 0 < k
    · refine iteD (show (0 : Int) < (k : Int) by omega) ?_
      have hlt : k - 1 < ws.length := by omega
      have g := getI ws (k - 1) hlt
      have e : ((k - 1 : Nat) : Int) = (k : Int) - 1 := by omega
      rw [e] at g
      refine ⟨_, rfl, _, rfl, _, _, rfl, rfl, a, _, _, _, rfl, rfl, SqL.of ha, g, rfl, _, rfl, ?_⟩
      by_cases cz : ws[k - 1] = 0
      · refine iteD (congrArg V.int cz) ?_
        refine ⟨_, rfl, _, _, rfl, rfl, ⟨k - 1, ?_, by omega, fun B => ?_, rfl⟩, ?_⟩
        · show [some (V.ref a), some (V.int ((k : Int) - 1))] = _
          rw [e]
        · have t := trim_step (B := B) (k := k - 1) hlt (by rw [List.getElem?_eq_getElem hlt, cz])
          rw [show k - 1 + 1 = k by omega] at t
          rw [t, hn]
        · show ((k : Int) - 1).toNat < (k : Int).toNat
          omega
      · refine iteDN (fun z => cz (by injection z)) ?_
        refine ⟨_, rfl, _, rfl, _, rfl, a, _, rfl, SqL.of ha, fun p hp => ?_⟩
        refine fin k hk hn ?_ p hp
        rw [take_last c0 hk, List.getElem?_eq_getElem hlt]
        exact fun z => cz (Option.some.inj z)
    · refine iteDN (show ¬ (0 : Int) < (k : Int) by omega) (iteF ?_)
      refine ⟨_, rfl, _, rfl, _, rfl, a, _, rfl, SqL.of ha, fun p hp => ?_⟩
      refine fin k hk hn ?_ p hp
      rw [show k = 0 by omega]
      exact fun z => nomatch z
  · rintro σ H1 Q1 Q2 hQ ⟨v, hv, i, j, e1, e2, c, hc, h⟩
    refine ⟨v, hv, i, j, e1, e2, c, hc, ?_⟩
    cases c with
    | false =>
      rw [if_neg Bool.false_ne_true] at h ⊢
      exact hQ _ _ h
    | true =>
      rw [if_pos rfl] at h ⊢
      obtain ⟨a1, a2, a3, a4, a5, a6, a7, a8, b1, b2, b3, b4, b5, b6, b7, b8, b9, b10, b11, b12⟩ := h
      exact ⟨a1, a2, a3, a4, a5, a6, a7, a8, b1, b2, b3, b4, b5, b6, b7, b8, b9, b10, b11, hQ _ _ b12⟩
theorem ok_word_at {f : Addr} {fd : FuncData} (F : Fun K "word_at" "word_at" s_word_at f fd) (T : Txt K mg)  : FnOk P w K mg base CX0 1 f fd ["one", "place"] spWAt := by
  refine F.ok sc_word_at (fun vs H Q E h => ?_) (fun cdv A outer s H vs Q E hr h => ?_)
  · obtain ⟨a, ws, j, v, rfl, _⟩ := h
    rfl
  obtain ⟨a, ws, j, v, rfl, ha, j0, hv, q⟩ := h
  refine ⟨_, (pss_one (ps_ret (pe_ifExp (pt_cmpR op_lt (pv 1) (pe_callB call_len_seq rfl T.n_len boot_len (pa_cons (pv 0) pa_nil)) (nomark _)) (pe_ix ix_list (pv 0) (pv 1) (fun _ _ => rfl)) pe_int))), ?_⟩
  have hl : (ws.map V.int).length = ws.length := List.length_map _
  refine ⟨_, rfl, _, rfl, a, _, rfl, .inl (SqL.of ha), _, _, rfl, rfl, _, rfl, ?_⟩
  by_cases c : j.toNat < ws.length
  · refine iteD (by rw [hl]; omega) ?_
    have g := getI ws j.toNat c
    rw [show ((j.toNat : Nat) : Int) = j by omega] at g
    have e : ws[j.toNat] = v := by rw [← hv, List.getD_eq_getElem?_getD, List.getElem?_eq_getElem c]; rfl
    rw [e] at g
    exact ⟨_, rfl, _, rfl, a, _, _, _, rfl, rfl, SqL.of ha, g, q⟩
  · refine iteDN (by rw [hl]; omega) ?_
    have e : v = 0 := by rw [← hv, List.getD_eq_getElem?_getD, List.getElem?_eq_none (by omega)]; rfl
    rw [e] at q
    exact q
theorem ok_add_words {f : Addr} {fd : FuncData} (F : Fun K "add_words" "add_words" s_add_words f fd) (T : Txt K mg) (H_word_at : Has P w K mg base 1 "word_at" ["one", "place"] spWAt) : FnOk P w K mg base CX0 2 f fd ["width", "one", "other"] spAdd := by
  refine F.ok sc_add_words (fun vs H Q E h => ?_) (fun cdv A outer s H vs Q E hr h => ?_)
  · obtain ⟨i, a, b, xs, ys, rfl, _⟩ := h
    rfl
  obtain ⟨i, a, b, xs, ys, rfl, h1, h2, ha, hb, lx, ly, l1, l2, q⟩ := h
  refine ⟨_, (pss_cons (ps_set (i := 3) sc_add_words.nd rfl (Or.inl rfl) (pe_lst pa_nil))
    (pss_cons (ps_set (i := 4) sc_add_words.nd rfl (Or.inl rfl) (pe_lst pa_nil))
    (pss_cons (ps_set (i := 5) sc_add_words.nd rfl (Or.inl rfl) pe_int)
    (pss_cons (ps_for PassesOwn.never rfl (pi_range1 rfl T.n_range (pa_cons (pe_callB (call_max2 rfl) rfl T.n_max boot_max (pa_cons (pe_callB call_len_seq rfl T.n_len boot_len (pa_cons (pv 1) pa_nil)) (pa_cons (pe_callB call_len_seq rfl T.n_len boot_len (pa_cons (pv 2) pa_nil)) pa_nil))) pa_nil)) (pg_name (i := 6) sc_add_words.nd rfl (Or.inl rfl))
      (pss_cons (ps_set (i := 7) sc_add_words.nd rfl (Or.inl rfl) (pe_op op_add (pe_op op_add (pe_fn H_word_at (hr.mono (by omega)) rfl (pa_cons (pv 1) (pa_cons (pv 6) pa_nil))) (pe_fn H_word_at (hr.mono (by omega)) rfl (pa_cons (pv 2) (pa_cons (pv 6) pa_nil)))) (pv 5)))
      (pss_cons (ps_set (i := 5) sc_add_words.nd rfl (Or.inl rfl) (pe_op op_shr (pv 7) (pv 0)))
      (pss_cons (ps_expr (pe_bm PySem.F.plainAttrs_list PySem.F.slot_list_append PySem.F.type_list_append mt_append (pv 3) (pa_cons (pe_op op_mod (pv 7) (pe_op op_shl pe_int (pv 0))) pa_nil)))
      (pss_one (ps_expr (pe_bm PySem.F.plainAttrs_list PySem.F.slot_list_append PySem.F.type_list_append mt_append (pv 4) (pa_cons (pv 5) pa_nil))))))))
    (pss_join (ps_if (pt_cmpR op_eq (pv 5) pe_int (nomark _))
      (pss_one (ps_expr (pe_bm PySem.F.plainAttrs_list PySem.F.slot_list_append PySem.F.type_list_append mt_append (pv 3) (pa_cons pe_int pa_nil))))
      pss_nil)
    (pss_one (ps_ret (pe_tup (pa_cons (pv 3) (pa_cons (pv 4) pa_nil)))))))))), ?_⟩
  have hB := p_pos i.toNat
  have pb := pw_bounds h1 h2
  have e1 : (1 : Int) * 2 ^ i.toNat = 2 ^ i.toNat := Int.one_mul _
  have big : (1001 : Nat) ≤ sizeLine := by decide
  have hlx : (xs.map V.int).length = xs.length := List.length_map _
  have hly : (ys.map V.int).length = ys.length := List.length_map _
  refine ⟨(by show 0 ≤ sizeLine; decide), fun p hp => ?_⟩
  refine ⟨(by show 0 ≤ sizeLine; decide), fun g hg => ?_⟩
  have npg : p ≠ g := ne_of_none (show upd H p (.lst []) p = some (.lst []) from upd_same) hg
  have sg : Same H (upd (upd H p (.lst [])) g (.lst [])) := (same_new hp _).trans (same_new hg _)
  have em : (if (((ys.map V.int).length : Nat) : Int) > (((xs.map V.int).length : Nat) : Int) then (((ys.map V.int).length : Nat) : Int) else (((xs.map V.int).length : Nat) : Int)) = ((max xs.length ys.length : Nat) : Int) := by
    rw [hlx, hly]
    split <;> omega
  refine ⟨_, rfl, a, _, rfl, .inl (SqL.of (sg _ _ ha)), _, rfl, b, _, rfl, .inl (SqL.of (sg _ _ hb)), _, _, rfl, ((max xs.length ys.length : Nat) : Int), congrArg (fun z => [V.int z]) em, by omega, by omega, ?_⟩
  refine for_range (n := max xs.length ys.length) (fun j σ H1 => ∃ (zs : List Int) (gs : List V) (c : Int) (y1 y2 : Option V), σ = [some (.int i), some (.ref a), some (.ref b), some (.ref p), some (.ref g), some (.int c), y1, y2] ∧ H1 p = some (.lst (zs.map V.int)) ∧ H1 g = some (.lst gs) ∧ zs.length = j ∧ gs.length = j ∧ Wds (2 ^ i.toNat) zs ∧ num (2 ^ i.toNat) zs + (2 ^ i.toNat) ^ j * c = num (2 ^ i.toNat) (xs.take j) + num (2 ^ i.toNat) (ys.take j) ∧ 0 ≤ c ∧ c ≤ 1 ∧ Same H H1) ⟨[], [], 0, _, _, rfl, by rw [upd_ne npg]; exact upd_same, upd_same, rfl, rfl, Wds.nil _, by show (0 : Int) + _ * 0 = 0 + 0; omega, by omega, by omega, sg⟩ ?_ ?_
  · rintro j σ H1 hj ⟨zs, gs, c, y1, y2, rfl, hp1, hg1, hzl, hgl, wd, hn, c0, c1, s1⟩
    have ej : (0 + (j : Int)).toNat = j := by omega
    have x01 := lx.wd.getD hB j
    have y01 := ly.wd.getD hB j
    have cc := carry_on x01.1 x01.2 y01.1 y01.2 c0 c1
    refine ⟨_, rfl, _, rfl, a, xs, _, xs.getD j 0, rfl, s1 _ _ ha, by omega, by rw [ej], _, rfl, _, rfl, b, ys, _, ys.getD j 0, rfl, s1 _ _ hb, by omega, by rw [ej], _, _, rfl, rfl, _, rfl, _, _, rfl, rfl, ?_⟩
    refine ⟨_, rfl, _, rfl, _, _, rfl, rfl, (by show 0 ≤ i; omega), ?_⟩
    have ng : g ≠ p := fun z => npg z.symm
    refine ⟨_, rfl, .inl ⟨rfl, _, SqL.of hp1⟩, _, rfl, _, rfl, _, _, rfl, rfl, cpow1 (by omega) (by omega), _, _, rfl, rfl, p1_pos _, p, _, _, rfl, rfl, hp1, ?_, ?_⟩
    · rw [List.length_map]; omega
    have hg2 : (upd H1 p (.lst (zs.map V.int ++ [.int ((xs.getD j 0 + ys.getD j 0 + c) % (1 * 2 ^ i.toNat))]))) g = some (.lst gs) := by rw [upd_ne ng]; exact hg1
    refine ⟨_, rfl, .inl ⟨rfl, _, SqL.of hg2⟩, _, rfl, g, _, _, rfl, rfl, hg2, by omega, ?_⟩
    have r0 := Int.emod_nonneg (xs.getD j 0 + ys.getD j 0 + c) (Int.ne_of_gt hB)
    have r1 := Int.emod_lt_of_pos (xs.getD j 0 + ys.getD j 0 + c) hB
    refine ⟨zs ++ [(xs.getD j 0 + ys.getD j 0 + c) % 2 ^ i.toNat], gs ++ [_], _, _, _, rfl, ?_, upd_same, by simp [hzl], by simp [hgl], wd.snoc r0 r1, sum_on hB hzl hn, cc.1, cc.2, ?_⟩
    · rw [upd_ne npg, upd_same, List.map_append]
      show some (HO.lst (zs.map V.int ++ [.int ((xs.getD j 0 + ys.getD j 0 + c) % (1 * 2 ^ i.toNat))])) = _
      rw [e1]
      rfl
    · intro z o h
      have n1 : z ≠ g := ne_of_none h ((same_new hp _).free hg)
      rw [upd_ne n1, upd_ne (ne_of_none h hp)]
      exact s1 z o h
  · rintro σ H1 ⟨zs, gs, c, y1, y2, rfl, hp1, hg1, hzl, hgl, wd, hn, c0, c1, s1⟩
    rw [List.take_of_length_le (Nat.le_max_left _ _), List.take_of_length_le (Nat.le_max_right _ _)] at hn
    refine ⟨fun σ2 H2 => ∃ zs' : List Int, σ2 = [some (.int i), some (.ref a), some (.ref b), some (.ref p), some (.ref g), some (.int c), y1, y2] ∧ H2 p = some (.lst (zs'.map V.int)) ∧ Ln i zs' ∧ num (2 ^ i.toNat) zs' = num (2 ^ i.toNat) xs + num (2 ^ i.toNat) ys ∧ zs'.length ≤ max xs.length ys.length + 1 ∧ Same H H2, ?_, ?_⟩
    · refine ⟨_, rfl, rfl, _, rfl, ?_⟩
      by_cases cz : c = 1
      · refine iteD (congrArg V.int cz) ?_
        refine ⟨_, rfl, .inl ⟨rfl, _, SqL.of hp1⟩, p, _, _, rfl, rfl, hp1, (by rw [List.length_map]; omega), zs ++ [1], rfl, by rw [upd_same, List.map_append]; rfl, ⟨wd.snoc (by omega) (by omega), by rw [List.getLast?_concat]; exact fun z => by have := Option.some.inj z; omega⟩, ?_, by rw [List.length_append]; show zs.length + 1 ≤ _; omega, ?_⟩
        · rw [cz] at hn
          rw [num_snoc, hzl]
          exact hn
        · intro z o h
          rw [upd_ne (ne_of_none h hp)]
          exact s1 z o h
      · refine iteDN (fun z => cz (by injection z)) ?_
        have c00 : c = 0 := by omega
        rw [c00, Int.mul_zero, Int.add_zero] at hn
        exact ⟨zs, rfl, hp1, ⟨wd, sum_last (by omega) lx.wd ly.wd wd lx.la ly.la hzl hn⟩, hn, by omega, s1⟩
    · rintro σ2 H2 ⟨zs', rfl, hp2, ln2, en2, le2, s2⟩
      exact ⟨_, rfl, _, rfl, (by show 2 ≤ sizeLine; decide), fun t ht => q t p g zs' _ (s2.free ht) hp upd_same (same_new ht _ _ _ hp2) ln2 en2 le2 (s2.trans (same_new ht _))⟩
theorem ok_compared {f : Addr} {fd : FuncData} (F : Fun K "compared" "compared" s_compared f fd) (T : Txt K mg)  : FnOk P w K mg base CX0 1 f fd ["one", "other"] spCmp := by
  refine F.ok sc_compared (fun vs H Q E h => ?_) (fun cdv A outer s H vs Q E hr h => ?_)
  · obtain ⟨w, a, b, xs, ys, rfl, _⟩ := h
    rfl
  obtain ⟨w, a, b, xs, ys, rfl, ⟨h1, h2, ha, hb, lx, ly⟩, q⟩ := h
  refine ⟨_, (pss_cons (ps_if (pt_cmpR op_ne (pe_callB call_len_seq rfl T.n_len boot_len (pa_cons (pv 0) pa_nil)) (pe_callB call_len_seq rfl T.n_len boot_len (pa_cons (pv 1) pa_nil)) (nomark _))
      (pss_one (ps_ret (pe_ifExp (pt_cmpR op_lt (pe_callB call_len_seq rfl T.n_len boot_len (pa_cons (pv 0) pa_nil)) (pe_callB call_len_seq rfl T.n_len boot_len (pa_cons (pv 1) pa_nil)) (nomark _)) (pe_un un_neg pe_int) pe_int)))
      pss_nil)
    (pss_cons (ps_for PassesOwn.never rfl (pi_down rfl T.n_range (pa_cons (pe_op op_sub (pe_callB call_len_seq rfl T.n_len boot_len (pa_cons (pv 0) pa_nil)) pe_int) (pa_cons (pe_un un_neg pe_int) (pa_cons (pe_un un_neg pe_int) pa_nil)))) (pg_name (i := 2) sc_compared.nd rfl (Or.inl rfl))
      (pss_one (ps_if (pt_cmpR op_ne (pe_ix ix_list (pv 0) (pv 2) (fun _ _ => rfl)) (pe_ix ix_list (pv 1) (pv 2) (fun _ _ => rfl)) (nomark _))
        (pss_one (ps_ret (pe_ifExp (pt_cmpR op_lt (pe_ix ix_list (pv 0) (pv 2) (fun _ _ => rfl)) (pe_ix ix_list (pv 1) (pv 2) (fun _ _ => rfl)) (nomark _)) (pe_un un_neg pe_int) pe_int)))
        pss_nil)))
    (pss_one (ps_ret pe_int)))), ?_⟩
  have hB := p_pos w.toNat
  have pb := pw_bounds h1 h2
  have hlx : (xs.map V.int).length = xs.length := List.length_map _
  have hly : (ys.map V.int).length = ys.length := List.length_map _
  have l1 := lx.ln
  refine ⟨_, rfl, a, _, rfl, .inl (SqL.of ha), _, rfl, b, _, rfl, .inl (SqL.of hb), rfl, _, rfl, ?_⟩
  rw [hlx, hly]
  by_cases cl : xs.length = ys.length
  · refine iteNS (by rw [cl]) ?_
    refine ⟨_, rfl, a, _, rfl, .inl (SqL.of ha), _, _, rfl, rfl, _, rfl, _, rfl, (xs.length : Int) - 1, by rw [hlx], by omega, by omega, ?_⟩
    refine for_down (n := ((xs.length : Int) - 1 + 1).toNat) (fun j σ H1 => ∃ y : Option V, σ = [some (.ref a), some (.ref b), y] ∧ H1 = H ∧ xs.drop (xs.length - j) = ys.drop (xs.length - j)) ⟨_, rfl, rfl, by rw [Nat.sub_zero, List.drop_length, cl, List.drop_length]⟩ ?_ ?_
    · rintro j σ H1 hj ⟨y, rfl, rfl, hd⟩
      have hj2 : j < xs.length := by omega
      have hx : xs.length - 1 - j < xs.length := by omega
      have hy : xs.length - 1 - j < ys.length := by omega
      have gx := getI xs _ hx
      have gy := getI ys _ hy
      have ep : ((xs.length - 1 - j : Nat) : Int) = (xs.length : Int) - 1 - (j : Int) := by omega
      rw [ep] at gx gy
      have hd' : xs.drop (xs.length - 1 - j + 1) = ys.drop (xs.length - 1 - j + 1) := by
        rw [show xs.length - 1 - j + 1 = xs.length - j by omega]
        exact hd
      refine ⟨_, rfl, _, rfl, a, _, _, _, rfl, rfl, SqL.of ha, gx, _, rfl, _, rfl, b, _, _, _, rfl, rfl, SqL.of hb, gy, rfl, _, rfl, ?_⟩
      by_cases ce : xs[xs.length - 1 - j] = ys[xs.length - 1 - j]
      · refine iteNS (congrArg V.int ce) ⟨_, rfl, rfl, ?_⟩
        rw [show xs.length - (j + 1) = xs.length - 1 - j by omega, List.drop_eq_getElem_cons hx, List.drop_eq_getElem_cons hy, ce, hd']
      · refine iteN (fun z => ce (by injection z)) ?_
        refine ⟨_, rfl, _, rfl, a, _, _, _, rfl, rfl, SqL.of ha, gx, _, rfl, _, rfl, b, _, _, _, rfl, rfl, SqL.of hb, gy, _, _, rfl, rfl, _, rfl, ?_⟩
        by_cases ct : xs[xs.length - 1 - j] < ys[xs.length - 1 - j]
        · refine iteD ct ?_
          rw [cmp_lt (lt_at hB lx.wd ly.wd hx hy hd' ct)] at q
          exact ⟨_, rfl, q⟩
        · refine iteDN ct ?_
          rw [cmp_gt (lt_at hB ly.wd lx.wd hy hx hd'.symm (by omega))] at q
          exact q
    · rintro σ H1 ⟨y, rfl, rfl, hd⟩
      have e0 : xs.length - ((xs.length : Int) - 1 + 1).toNat = 0 := by omega
      rw [e0, List.drop_zero, List.drop_zero] at hd
      rw [hd, cmp_eq rfl] at q
      exact q
  · refine iteN (fun z => cl (by injection z with z; omega)) ?_
    refine ⟨_, rfl, a, _, rfl, .inl (SqL.of ha), _, rfl, b, _, rfl, .inl (SqL.of hb), _, _, rfl, rfl, _, rfl, ?_⟩
    rw [hlx, hly]
    by_cases ct : xs.length < ys.length
    · refine iteD (by omega) ?_
      rw [cmp_lt (lt_of_len (B := 2 ^ w.toNat) (by omega) lx.wd ly.wd ly.la ct)] at q
      exact ⟨_, rfl, q⟩
    · refine iteDN (by omega) ?_
      rw [cmp_gt (lt_of_len (B := 2 ^ w.toNat) (by omega) ly.wd lx.wd lx.la (by omega))] at q
      exact q
theorem ok_product_by_word {f : Addr} {fd : FuncData} (F : Fun K "product_by_word" "product_by_word" s_product_by_word f fd) (T : Txt K mg) (H_trimmed : Has P w K mg base 1 "trimmed" ["words"] spTrim) : FnOk P w K mg base CX0 2 f fd ["width", "one", "word"] spPBW := by
  refine F.ok sc_product_by_word (fun vs H Q E h => ?_) (fun cdv A outer s H vs Q E hr h => ?_)
  · obtain ⟨i, a, m, xs, rfl, _⟩ := h
    rfl
  obtain ⟨i, a, m, xs, rfl, h1, h2, ha, wx, l1, m0, m1, q⟩ := h
  refine ⟨_, (pss_cons (ps_set (i := 3) sc_product_by_word.nd rfl (Or.inl rfl) (pe_lst pa_nil))
    (pss_cons (ps_set (i := 4) sc_product_by_word.nd rfl (Or.inl rfl) pe_int)
    (pss_cons (ps_for PassesOwn.never rfl (pi_list (pv 1)) (pg_name (i := 5) sc_product_by_word.nd rfl (Or.inl rfl))
      (pss_cons (ps_set (i := 6) sc_product_by_word.nd rfl (Or.inl rfl) (pe_op op_add (pe_op op_mul (pv 5) (pv 2)) (pv 4)))
      (pss_cons (ps_expr (pe_bm PySem.F.plainAttrs_list PySem.F.slot_list_append PySem.F.type_list_append mt_append (pv 3) (pa_cons (pe_op op_mod (pv 6) (pe_op op_shl pe_int (pv 0))) pa_nil)))
      (pss_one (ps_set (i := 4) sc_product_by_word.nd rfl (Or.inl rfl) (pe_op op_shr (pv 6) (pv 0)))))))
    (pss_cons (ps_expr (pe_bm PySem.F.plainAttrs_list PySem.F.slot_list_append PySem.F.type_list_append mt_append (pv 3) (pa_cons (pv 4) pa_nil)))
    (pss_one (ps_ret (pe_fn H_trimmed (hr.mono (by omega)) rfl (pa_cons (pv 3) pa_nil)))))))), ?_⟩
  have hB := p_pos i.toNat
  have pb := pw_bounds h1 h2
  have e1 : (1 : Int) * 2 ^ i.toNat = 2 ^ i.toNat := Int.one_mul _
  have big : (1001 : Nat) ≤ sizeLine := by decide
  have hlx : (xs.map V.int).length = xs.length := List.length_map _
  refine ⟨(by show 0 ≤ sizeLine; decide), fun p hp => ?_⟩
  have s0 := same_new hp (.lst [])
  refine ⟨_, rfl, a, rfl, ⟨_, SqL.of (s0 _ _ ha)⟩, for_list (xs := xs.map V.int) (fun j σ H1 => ∃ (zs : List Int) (c : Int) (y1 y2 : Option V), σ = [some (.int i), some (.ref a), some (.int m), some (.ref p), some (.int c), y1, y2] ∧ H1 p = some (.lst (zs.map V.int)) ∧ zs.length = j ∧ Wds (2 ^ i.toNat) zs ∧ num (2 ^ i.toNat) zs + (2 ^ i.toNat) ^ j * c = num (2 ^ i.toNat) (xs.take j) * m ∧ 0 ≤ c ∧ c < 2 ^ i.toNat ∧ Same H H1) ⟨[], 0, _, _, rfl, upd_same, rfl, Wds.nil _, by show (0 : Int) + _ * 0 = 0 * m; omega, by omega, hB, s0⟩ ?_ ?_ ?_⟩
  · rintro j σ H1 hj ⟨zs, c, y1, y2, rfl, hp1, hzl, wd, hn, c0, c1, s1⟩
    exact SqL.of (s1 _ _ ha)
  · rintro j x σ H1 hj ⟨zs, c, y1, y2, rfl, hp1, hzl, wd, hn, c0, c1, s1⟩
    rw [List.getElem?_map] at hj
    cases hjx : xs[j]? with
    | none => rw [hjx] at hj; cases hj
    | some v =>
    rw [hjx] at hj
    cases hj
    have vb := wx.ok v (List.mem_of_getElem? hjx)
    have hjl := (List.getElem?_eq_some_iff.mp hjx).1
    obtain ⟨t0, t1, t2⟩ := prod_carry vb.1 vb.2 m0 m1 c0 c1
    refine ⟨_, rfl, _, rfl, _, _, rfl, rfl, .inl ⟨by omega, by omega⟩, _, rfl, _, _, rfl, rfl, ?_⟩
    refine ⟨_, rfl, .inl ⟨rfl, _, SqL.of hp1⟩, _, rfl, _, rfl, _, _, rfl, rfl, cpow1 (by omega) (by omega), _, _, rfl, rfl, p1_pos _, p, _, _, rfl, rfl, hp1, ?_, ?_⟩
    · rw [List.length_map]; omega
    refine ⟨_, rfl, _, rfl, _, _, rfl, rfl, (by show 0 ≤ i; omega), ?_⟩
    have r0 := Int.emod_nonneg (v * m + c) (Int.ne_of_gt hB)
    have r1 := Int.emod_lt_of_pos (v * m + c) hB
    refine ⟨zs ++ [(v * m + c) % 2 ^ i.toNat], _, _, _, rfl, ?_, by simp [hzl], wd.snoc r0 r1, prod_on hB hzl hjx hn, t1, t2, ?_⟩
    · rw [upd_same, List.map_append]
      show some (HO.lst (zs.map V.int ++ [.int ((v * m + c) % (1 * 2 ^ i.toNat))])) = _
      rw [e1]
      rfl
    · intro z o h
      rw [upd_ne (ne_of_none h hp)]
      exact s1 z o h
  · rintro σ H1 ⟨zs, c, y1, y2, rfl, hp1, hzl, wd, hn, c0, c1, s1⟩
    rw [hlx] at hzl hn
    rw [List.take_length] at hn
    refine ⟨_, rfl, .inl ⟨rfl, _, SqL.of hp1⟩, _, rfl, p, _, _, rfl, rfl, hp1, (by rw [List.length_map]; omega), ?_⟩
    have s2 : Same H (upd H1 p (.lst (zs.map V.int ++ [.int c]))) := fun z o h => by rw [upd_ne (ne_of_none h hp)]; exact s1 z o h
    have wz := wd.snoc c0 c1
    refine ⟨_, rfl, p, zs ++ [c], rfl, by rw [upd_same, List.map_append]; rfl, by rw [List.length_append]; show zs.length + 1 ≤ _; omega, fun p2 k H' hp0 hp2 hk en la s3 => ?_⟩
    refine q p2 _ H' (s2.free hp0) hp2 ⟨⟨fun x hx => wz.ok x (List.mem_of_mem_take hx)⟩, la⟩ ?_ ?_ (s2.trans s3)
    · rw [en, num_snoc, hzl]
      exact hn
    · rw [List.length_take, List.length_append]
      show min k (zs.length + 1) ≤ _
      omega
theorem ok_moved_left {f : Addr} {fd : FuncData} (F : Fun K "moved_left" "moved_left" s_moved_left f fd) (T : Txt K mg) (H_trimmed : Has P w K mg base 1 "trimmed" ["words"] spTrim) (H_product_by_word : Has P w K mg base 2 "product_by_word" ["width", "one", "word"] spPBW) : FnOk P w K mg base CX0 3 f fd ["width", "one", "many"] spML := by
  refine F.ok sc_moved_left (fun vs H Q E h => ?_) (fun cdv A outer s H vs Q E hr h => ?_)
  · obtain ⟨i, a, m, xs, rfl, _⟩ := h
    rfl
  obtain ⟨i, a, m, xs, rfl, h1, h2, ha, lg, m0, m1, q⟩ := h
  refine ⟨_, (pss_cons (ps_comp0 (i := 3) sc_moved_left.nd rfl (Or.inl rfl) rfl rfl (by first | rfl | with_unfolding_all rfl) (by decide +kernel) rfl (by decide +kernel) rfl (pi_range1 rfl T.n_range (pa_cons (pe_op op_fdiv (pv 2) (pv 0)) pa_nil)) (fun C s2 H2 fp => pe_int))
    (pss_one (ps_ret (pe_fn H_trimmed (hr.mono (by omega)) rfl (pa_cons (pe_op op_addL (pv 3) (pe_fn H_product_by_word (hr.mono (by omega)) rfl (pa_cons (pv 0) (pa_cons (pv 1) (pa_cons (pe_op op_shl pe_int (pe_op op_mod (pv 2) (pv 0))) pa_nil))))) pa_nil))))), ?_⟩
  have hB := p_pos i.toNat
  have pb := pw_bounds h1 h2
  have e1 : (1 : Int) * 2 ^ (m % i).toNat = 2 ^ (m % i).toNat := Int.one_mul _
  have big : (1001 : Nat) ≤ sizeLine := by decide
  have l1 := lg.ln
  have d0 := Int.ediv_nonneg m0 (show 0 ≤ i by omega)
  have d1 : m / i ≤ m := Int.ediv_le_self _ m0
  have r0 := Int.emod_nonneg m (show i ≠ 0 by omega)
  have r1 := Int.emod_lt_of_pos m (show 0 < i by omega)
  have ps := pow_split (i := i) (by omega) m0
  refine ⟨_, rfl, _, rfl, _, _, rfl, rfl, ⟨by omega, by omega⟩, _, rfl, by omega, by omega, fun D hD => comp_range (fun j HJ => HJ D = some (.lst (List.replicate j (V.int 0))) ∧ Same H HJ) ⟨upd_same, same_new hD _⟩ ?_ ?_ ?_⟩
  · rintro j HJ hj ⟨hd, sJ⟩
    refine ⟨_, hd, by rw [List.length_replicate]; omega, ?_, ?_⟩
    · rw [upd_same, ← List.replicate_succ']
    · exact fun z o h => by rw [upd_ne (ne_of_none h hD)]; exact sJ z o h
  · rintro σ HJ Q1 Q2 hQ h
    exact hQ _ _ h
  rintro HF ⟨hd, sF⟩
  refine ⟨_, rfl, _, rfl, _, rfl, _, rfl, _, rfl, _, _, rfl, rfl, (by show 0 < i; omega), _, _, rfl, rfl, cpow1 (by omega) (by omega), i, a, _, xs, rfl, h1, h2, sF _ _ ha, lg.wd, by omega, ?_, ?_, fun p2 us H3 hp20 hp2 lu eu leu s3 => ?_⟩
  · exact Int.le_of_lt (p1_pos _)
  · have : (2 : Int) ^ (m % i).toNat < 2 ^ i.toNat := pow_lt_pow (by decide) (by omega)
    omega
  have hd3 := s3 _ _ hd
  have t3 := sF.trans s3
  have er : List.replicate (m / i).toNat (V.int 0) ++ us.map V.int = (List.replicate (m / i).toNat 0 ++ us).map V.int := by rw [List.map_append, List.map_replicate]
  have wz : Wds (2 ^ i.toNat) (List.replicate (m / i).toNat 0 ++ us) := ⟨fun x hx => by
    rcases List.mem_append.mp hx with hx | hx
    · rw [List.eq_of_mem_replicate hx]; exact ⟨Int.le_refl _, hB⟩
    · exact lu.wd.ok x hx⟩
  have lz : (List.replicate (m / i).toNat 0 ++ us).length = (m / i).toNat + us.length := by rw [List.length_append, List.length_replicate]
  refine ⟨D, p2, _, _, rfl, rfl, SqL.of hd3, SqL.of hp2, (by rw [List.length_replicate, List.length_map]; omega), fun z1 hz1 => ?_⟩
  refine ⟨z1, _, rfl, by rw [upd_same, er], by rw [lz]; omega, fun p k H' hp0 hp hk ek lk s4 => ?_⟩
  have t4 := t3.trans (same_new hz1 (.lst (List.replicate (m / i).toNat (V.int 0) ++ us.map V.int)))
  refine q p _ H' (t4.free hp0) hp ⟨⟨fun x hx => wz.ok x (List.mem_of_mem_take hx)⟩, lk⟩ ?_ (by rw [List.length_take, lz]; omega) (t4.trans s4)
  rw [ek, num_zeros, eu, e1, ← ps, ← Int.mul_assoc, Int.mul_comm _ (num (2 ^ i.toNat) xs), Int.mul_assoc]
theorem ok__law_words {f : Addr} {fd : FuncData} (F : Fun K "_law_words" "_law_words" s__law_words f fd) (T : Txt K mg)  : FnOk P w K mg base CX0 1 f fd ["_law_number_here", "_law_width"] spLW := by
  refine F.ok sc__law_words (fun vs H Q E h => ?_) (fun cdv A outer s H vs Q E hr h => ?_)
  · obtain ⟨n, i, ws, rfl, _⟩ := h
    rfl
  obtain ⟨n, i, ws, rfl, h1, h2, en, lg, l1, q⟩ := h
  refine ⟨_, (pss_cons (ps_set (i := 2) sc__law_words.nd rfl (Or.inl rfl) (pe_lst pa_nil))
    (pss_cons (ps_while PassesOwn.never (pt_cmpR op_gt (pv 0) pe_int (nomark _))
      (pss_cons (ps_expr (pe_bm PySem.F.plainAttrs_list PySem.F.slot_list_append PySem.F.type_list_append mt_append (pv 2) (pa_cons (pe_op op_mod (pv 0) (pe_op op_shl pe_int (pv 1))) pa_nil)))
      (pss_one (ps_set (i := 0) sc__law_words.nd rfl (Or.inl rfl) (pe_op op_shr (pv 0) (pv 1))))))
    (pss_one (ps_ret (pv 2))))), ?_⟩
  have hB := p_pos i.toNat
  have e1 : (1 : Int) * 2 ^ i.toNat = 2 ^ i.toNat := Int.one_mul _
  have lgd : ∀ k, Wds (2 ^ i.toNat) (ws.drop k) := fun k => ⟨fun x hx => lg.wd.ok x (List.mem_of_mem_drop hx)⟩
  refine ⟨(by show 0 ≤ sizeLine; decide), fun p hp => ?_⟩
  refine while_by (fun σ H1 => ∃ k : Nat, σ = [some (.int (num (2 ^ i.toNat) (ws.drop k))), some (.int i), some (.ref p)] ∧ k ≤ ws.length ∧ H1 p = some (.lst ((ws.take k).map V.int)) ∧ SameX p H H1) (fun σ H1 => 400 - (match H1 p with | some (.lst ys) => ys.length | _ => 0)) ⟨0, by rw [List.drop_zero, en]; rfl, by omega, upd_same, SameX.upd⟩ ?_ ?_
  · rintro σ H1 ⟨k, rfl, hk, h3, x3⟩
    refine ⟨_, rfl, _, _, rfl, rfl, _, rfl, ?_⟩
    by_cases hc : k < ws.length
    · have hd : ws.drop k = ws[k] :: ws.drop (k + 1) := List.drop_eq_getElem_cons hc
      have wk := lg.wd.ok ws[k] (List.getElem_mem hc)
      have pos : 0 < num (2 ^ i.toNat) (ws.drop k) := num_pos hB (lgd k) (by rw [hd]; exact List.cons_ne_nil _ _) (by rw [drop_last hc]; exact lg.la)
      refine iteD pos ?_
      refine ⟨_, rfl, .inl ⟨rfl, _, SqL.of h3⟩, _, rfl, _, rfl, _, _, rfl, rfl, cpow1 (by omega) (by omega), _, _, rfl, rfl, p1_pos _, p, _, _, rfl, rfl, h3, ?_, ?_⟩
      · rw [List.length_map, List.length_take]
        have : (1001 : Nat) ≤ sizeLine := by decide
        omega
      refine ⟨_, rfl, _, rfl, _, _, rfl, rfl, (by omega), ?_⟩
      have em : num (2 ^ i.toNat) (ws.drop k) % (1 * 2 ^ i.toNat) = ws[k] := by rw [e1, hd]; exact num_mod wk.1 wk.2
      have ed : num (2 ^ i.toNat) (ws.drop k) / 2 ^ i.toNat = num (2 ^ i.toNat) (ws.drop (k + 1)) := by rw [hd]; exact num_div wk.1 wk.2
      refine ⟨⟨k + 1, ?_, by omega, ?_, x3.trans SameX.upd⟩, ?_⟩
      · show [some (V.int (num (2 ^ i.toNat) (ws.drop k) / 2 ^ i.toNat)), some (V.int i), some (V.ref p)] = _
        rw [ed]
      · rw [upd_same, List.take_succ, List.getElem?_eq_getElem hc, List.map_append]
        show some (HO.lst ((ws.take k).map V.int ++ [V.int (num (2 ^ i.toNat) (ws.drop k) % (1 * 2 ^ i.toNat))])) = _
        rw [em]
        rfl
      · rw [upd_same, h3]
        show 400 - ((ws.take k).map V.int ++ [_]).length < 400 - ((ws.take k).map V.int).length
        rw [List.length_append, List.length_map, List.length_take]
        show 400 - (min k ws.length + 1) < _
        omega
    · have ek : k = ws.length := by omega
      subst ek
      rw [List.drop_length]
      refine iteDN (by show ¬ ((0 : Int) < 0); omega) ?_
      rw [List.take_length] at h3
      exact ⟨_, rfl, q p H1 hp h3 (x3.fresh hp)⟩
  · rintro σ H1 Q1 Q2 hQ ⟨v, hv, a, b, c, d, k, hk, q1⟩
    exact ⟨v, hv, a, b, c, d, k, hk, hQ _ _ q1⟩
theorem ex_words {w n : Int} {k : Nat} (h1 : 4 ≤ w) (h2 : w ≤ 32) (h0 : 0 ≤ n) (hn : n < (2 ^ w.toNat) ^ k) : ∃ ws, Ln w ws ∧ num (2 ^ w.toNat) ws = n ∧ ws.length ≤ k := by
  have pb := pw_bounds h1 h2
  obtain ⟨ws, a, b, c, d⟩ := words_ex (by omega) k n h0 hn
  exact ⟨ws, ⟨a, b⟩, c, d⟩
theorem Ln.eq {w : Int} {xs ys : List Int} (lx : Ln w xs) (ly : Ln w ys) (e : num (2 ^ w.toNat) xs = num (2 ^ w.toNat) ys) : xs = ys := num_inj (p_pos _) lx.wd ly.wd lx.la ly.la e
theorem ok_turn_to {f : Addr} {fd : FuncData} (F : Fun K "turn_to" "turn_to" s_turn_to f fd) (T : Txt K mg)  : FnOk P w K mg base CX0 1 f fd ["width", "bottom"] spTT := by
  refine F.ok sc_turn_to (fun vs H Q E h => ?_) (fun cdv A outer s H vs Q E hr h => ?_)
  · obtain ⟨i, b, ys, rfl, _⟩ := h
    rfl
  obtain ⟨i, b, ys, rfl, hb, hn, q⟩ := h
  refine ⟨_, (pss_one (ps_ret (pe_op op_sub (pv 0) (pe_bm0 PySem.F.plainAttrs_int PySem.F.slot_int_bit_length PySem.F.type_int_bit_length mt_bits (pe_ix ix_list (pv 1) (pe_un un_neg pe_int) (fun _ _ => rfl)))))), ?_⟩
  have l0 : 0 < ys.length := by
    cases ys with
    | nil => exact absurd rfl hn
    | cons u v => exact Nat.succ_pos _
  obtain ⟨s0, a1, a2, a3⟩ := last_at l0
  have e : lastW ys = s0 := by show ys.getD (ys.length - 1) 0 = s0; rw [List.getD_eq_getElem?_getD, a1]; rfl
  unfold turnI at q
  rw [e] at q
  exact ⟨_, rfl, _, rfl, _, rfl, b, _, _, _, rfl, rfl, SqL.of hb, at_last a1, ty_int, _, rfl, rfl, _, _, rfl, rfl, q⟩
theorem emp (ws : List Int) : (if false = true then !(ws.map V.int).isEmpty else (ws.map V.int).isEmpty) = decide (ws = []) := by
  rw [if_neg Bool.false_ne_true]
  cases ws <;> simp
theorem ok_need_division {f : Addr} {fd : FuncData} (F : Fun K "need_division" "need_division" s_need_division f fd) (T : Txt K mg) (H_need_longs : Has P w K mg base 6 "need_longs" ["width", "one", "other"] spNeedLs) : FnOk P w K mg base CX0 7 f fd ["width", "top", "bottom"] spND := by
  refine F.ok sc_need_division (fun vs H Q E h => ?_) (fun cdv A outer s H vs Q E hr h => ?_)
  · obtain ⟨i, a, b, xs, ys, rfl, _⟩ := h
    rfl
  obtain ⟨i, a, b, xs, ys, rfl, L, c0, q⟩ := h
  refine ⟨_, (pss_cons (ps_expr (pe_fn H_need_longs (hr.mono (by omega)) rfl (pa_cons (pv 0) (pa_cons (pv 1) (pa_cons (pv 2) pa_nil)))))
    (pss_one (ps_if (pt_cmpR (op_eq0 (Nat.lt_of_succ_lt (hu_of hr))) (pv 2) (pe_lst pa_nil) (nomark _))
      (pss_one ps_never)
      pss_nil))), ?_⟩
  refine ⟨_, rfl, _, rfl, _, rfl, i, a, b, xs, ys, rfl, L.1, L.2.1, L.2.2.1, L.2.2.2.1, L.2.2.2.2.1, L.2.2.2.2.2, fun H1 s1 => ?_⟩
  refine ⟨_, rfl, (by show 0 ≤ sizeLine; decide), fun z hz => ?_⟩
  have s2 := same_new hz (.lst [])
  refine ⟨b, z, _, rfl, rfl, SqL.of (s2 _ _ (s1 _ _ L.2.2.2.1)), SqL.of upd_same, _, rfl, ?_⟩
  rw [emp]
  exact iteDN c0 (q _ (s1.trans s2))
theorem ok_count_steps {f : Addr} {fd : FuncData} (F : Fun K "count_steps" "count_steps" s_count_steps f fd) (T : Txt K mg)  : FnOk P w K mg base CX0 1 f fd ["top", "bottom"] spCnt := by
  refine F.ok sc_count_steps (fun vs H Q E h => ?_) (fun cdv A outer s H vs Q E hr h => ?_)
  · obtain ⟨a, b, xs, ys, rfl, _⟩ := h
    rfl
  obtain ⟨a, b, xs, ys, rfl, ha, hb, q⟩ := h
  refine ⟨_, (pss_one (ps_ret (pe_callB (call_max2 rfl) rfl T.n_max boot_max (pa_cons pe_int (pa_cons (pe_op op_add (pe_op op_sub (pe_callB call_len_seq rfl T.n_len boot_len (pa_cons (pv 0) pa_nil)) (pe_callB call_len_seq rfl T.n_len boot_len (pa_cons (pv 1) pa_nil))) pe_int) pa_nil))))), ?_⟩
  refine ⟨_, rfl, a, _, rfl, .inl (SqL.of ha), _, rfl, b, _, rfl, .inl (SqL.of hb), _, _, rfl, rfl, _, _, rfl, rfl, _, _, rfl, ?_⟩
  have e : (if (((xs.map V.int).length : Nat) : Int) - (((ys.map V.int).length : Nat) : Int) + 1 > 0 then (((xs.map V.int).length : Nat) : Int) - (((ys.map V.int).length : Nat) : Int) + 1 else 0) = ((cntN xs ys : Nat) : Int) := by
    unfold cntN
    rw [List.length_map, List.length_map]
    split <;> omega
  rw [e]
  exact q
theorem lt_turn {w : Int} {ys : List Int} (h1 : 4 ≤ w) (h2 : w ≤ 32) (lg : Ln w ys) (hn : ys ≠ []) : 0 ≤ turnI w ys ∧ turnI w ys < w ∧ (2 : Int) ^ (w - 1).toNat ≤ lastW ys * 2 ^ (turnI w ys).toNat ∧ (lastW ys + 1) * 2 ^ (turnI w ys).toNat ≤ 2 ^ w.toNat := by
  have l0 : 0 < ys.length := by
    cases ys with
    | nil => exact absurd rfl hn
    | cons u v => exact Nat.succ_pos _
  obtain ⟨s0, a1, a2, a3⟩ := last_at l0
  have e : lastW ys = s0 := by show ys.getD (ys.length - 1) 0 = s0; rw [List.getD_eq_getElem?_getD, a1]; rfl
  have sb := lg.wd.ok s0 a3
  have sz : s0 ≠ 0 := fun z => lg.la (by rw [a2, z])
  have eb : intBits s0 = s0.natAbs.log2 + 1 := by
    unfold Builtin.Int.intBits
    rw [if_neg (by intro z; exact sz (beq_iff_eq.mp z))]
  obtain ⟨b1, b2, b3⟩ := turn_ok (b := s0) (w := w.toNat) (by omega) sb.2
  have et : (turnI w ys).toNat = w.toNat - (s0.natAbs.log2 + 1) := by unfold turnI; rw [e, eb]; omega
  have e0 : turnI w ys = w - ((s0.natAbs.log2 + 1 : Nat) : Int) := by unfold turnI; rw [e, eb]
  rw [et, e]
  refine ⟨by rw [e0]; omega, by rw [e0]; omega, ?_, b3⟩
  rw [show (w - 1).toNat = w.toNat - 1 by omega]
  exact b2
theorem lastW_at {ys : List Int} (h : 0 < ys.length) : ys[ys.length - 1]? = some (lastW ys) := by
  show _ = some (ys.getD (ys.length - 1) 0)
  rw [List.getD_eq_getElem?_getD, List.getElem?_eq_getElem (by omega)]
  rfl
theorem drop_la {ws : List Int} (h : ws.getLast? ≠ some 0) (k : Nat) : (ws.drop k).getLast? ≠ some 0 := by
  by_cases c : k < ws.length
  · rw [drop_last c]; exact h
  · rw [List.drop_of_length_le (by omega)]; exact fun z => nomatch z
theorem ok__law_far {f : Addr} {fd : FuncData} (F : Fun K "_law_far" "_law_far" s__law_far f fd) (T : Txt K mg)  : FnOk P w K mg base CX0 1 f fd ["_law_words_here", "_law_size"] spFar := by
  refine F.ok sc__law_far (fun vs H Q E h => ?_) (fun cdv A outer s H vs Q E hr h => ?_)
  · obtain ⟨a, ws, n, i, rfl, _⟩ := h
    rfl
  obtain ⟨a, ws, n, i, rfl, ha, lg, hn, h1, h2, n0, n1, q⟩ := h
  refine ⟨_, (pss_cons (ps_compC (i := 2) sc__law_far.nd rfl (Or.inl rfl) rfl [0] ["_law_words_here"] rfl (by first | rfl | with_unfolding_all rfl) (by rfl) (by exact (List.forall_mem_cons.mpr ⟨rfl, (fun _ h => nomatch h)⟩)) (by decide +kernel) rfl (by decide +kernel) rfl (by decide +kernel) (by exact (List.forall_mem_cons.mpr ⟨⟨by first | exact Or.inl rfl | exact Or.inr rfl, rfl⟩, (fun _ h => nomatch h)⟩)) rfl (by rfl) (pi_range1 rfl T.n_range (pa_cons (pv 1) pa_nil)) (fun C s2 H2 fp => (pe_ix (ix_listK (K := K) rfl) (pv 1) (pe_op op_mod (pv 0) (pe_callB (call_len_seqK (K := K) rfl) rfl T.n_len boot_len (pa_cons (pv 1) pa_nil))) (fun _ _ => rfl))))
    (pss_cons (ps_asg (pe_callB (call_max2 rfl) rfl T.n_max boot_max (pa_cons pe_int (pa_cons (pe_ix ix_list (pv 2) (pe_un un_neg pe_int) (fun _ _ => rfl)) pa_nil))) (pg_sub (pv 2) (pe_un un_neg pe_int) set_list))
    (pss_one (ps_ret (pv 2))))), ?_⟩
  have big : (1001 : Nat) ≤ sizeLine := by decide
  have pb := pw_bounds h1 h2
  have wl0 : 0 < ws.length := by
    rcases Nat.eq_zero_or_pos ws.length with z | z
    · exact absurd (List.eq_nil_of_length_eq_zero z) hn
    · exact z
  have hml : (ws.map V.int).length = ws.length := List.length_map _
  refine ⟨_, rfl, _, rfl, by omega, by omega, fun D hD => comp_range (fun j HJ => ∃ ys : List Int, HJ D = some (.lst (ys.map V.int)) ∧ ys.length = j ∧ Wds (2 ^ i.toNat) ys ∧ Same H HJ) ⟨[], upd_same, rfl, Wds.nil _, same_new hD _⟩ ?_ ?_ ?_⟩
  · rintro j HJ hj ⟨ys, hys, hyl, wdy, sJ⟩
    have haJ := sJ _ _ ha
    have hpos : 0 < (((ws.map V.int).length : Nat) : Int) := by rw [hml]; omega
    have j0 := Int.emod_nonneg (0 + (j : Int)) (show (((ws.map V.int).length : Nat) : Int) ≠ 0 by omega)
    have j1 := Int.emod_lt_of_pos (0 + (j : Int)) hpos
    have hjj : ((0 + (j : Int)) % (((ws.map V.int).length : Nat) : Int)).toNat < ws.length := by rw [← hml]; omega
    have g := getI ws _ hjj
    have e : (0 + (j : Int)) % (((ws.map V.int).length : Nat) : Int) = ((((0 + (j : Int)) % (((ws.map V.int).length : Nat) : Int)).toNat : Nat) : Int) := by omega
    rw [← e] at g
    have wv := lg.wd.ok _ (List.getElem_mem hjj)
    refine ⟨_, rfl, _, rfl, _, rfl, a, _, rfl, .inl (SqL.of haJ), _, _, rfl, rfl, hpos, a, _, _, _, rfl, rfl, SqL.of haJ, g, ?_⟩
    refine ⟨_, hys, (by rw [List.length_map, hyl]; omega), ys ++ [_], ?_, by simp [hyl], wdy.snoc wv.1 wv.2, ?_⟩
    · rw [upd_same, List.map_append]
      rfl
    · exact fun b o h => by rw [upd_ne (ne_of_none h hD)]; exact sJ b o h
  · rintro σ HJ Q1 Q2 hQ ⟨v, hv, v2, hv2, v3, hv3, b1, b2, b3, b4, b5, b6, b7, b8, b9, p1, p2, p3, p4, p5, p6, p7, p8, p9⟩
    exact ⟨v, hv, v2, hv2, v3, hv3, b1, b2, b3, b4, b5, b6, b7, b8, b9, p1, p2, p3, p4, p5, p6, p7, p8, hQ _ _ p9⟩
  rintro HF ⟨ys, hys, hyl, wdy, sF⟩
  have yl0 : 0 < ys.length := by omega
  obtain ⟨s0', a1, a2, a3⟩ := last_at yl0
  have wv := wdy.ok _ a3
  refine ⟨_, rfl, _, rfl, D, _, _, _, rfl, rfl, SqL.of hys, at_last a1, _, _, rfl, _, rfl, _, rfl, D, _, _, _, rfl, rfl, hys, ix_last (by rw [List.length_map]; omega), ?_⟩
  have mx0 : 0 ≤ (if s0' > 1 then s0' else 1) := by split <;> omega
  have mx1 : (if s0' > 1 then s0' else 1) < 2 ^ i.toNat := by split <;> omega
  have mx2 : (if s0' > 1 then s0' else 1) ≠ 0 := by split <;> omega
  refine ⟨_, rfl, q D (ys.set (ys.length - 1) (if s0' > 1 then s0' else 1)) _ hD ?_ ⟨wdy.set _ mx0 mx1, by rw [last_set yl0]; exact fun z => mx2 (Option.some.inj z), by rw [List.length_set]; omega⟩ ?_ (by rw [List.length_set]; omega) ?_⟩
  · rw [upd_same, List.length_map]
    show some (HO.lst ((ys.map V.int).set (ys.length - 1) (V.int (if s0' > 1 then s0' else 1)))) = _
    rw [set_ints]
  · intro z
    have h0 := congrArg List.length z
    rw [List.length_set] at h0
    have h1 : ys.length = 0 := h0
    omega
  · exact fun b o h => by rw [upd_ne (ne_of_none h hD)]; exact sF _ _ h
theorem turnUp {b t T : Int} {w : Nat} (hw : 1 ≤ w) (t0 : 0 ≤ t) (hb : 0 ≤ b) (h1 : (2 : Int) ^ (w - 1) ≤ b * 2 ^ T.toNat) (h2 : (b + 1) * 2 ^ T.toNat ≤ 2 ^ w) (ht : t ≤ T) : b * 2 ^ t.toNat < 2 ^ (w - 1) ↔ t < T := by
  constructor
  · intro h
    refine Int.lt_of_not_ge fun z => ?_
    have e : t = T := by omega
    rw [e] at h
    omega
  · intro h
    have p := p_pos' t.toNat
    have e : (2 : Int) ^ T.toNat = 2 ^ t.toNat * 2 * 2 ^ (T.toNat - t.toNat - 1) := by
      rw [← Int.pow_succ, ← Int.pow_add]
      congr 1
      omega
    have e2 : (2 : Int) ^ w = 2 ^ (w - 1) * 2 := by rw [← Int.pow_succ]; congr 1; omega
    have p2 := p_pos' (T.toNat - t.toNat - 1)
    have k : b * (2 ^ t.toNat * 2) * 1 ≤ b * (2 ^ t.toNat * 2) * 2 ^ (T.toNat - t.toNat - 1) := Int.mul_le_mul_of_nonneg_left (by omega) (Int.mul_nonneg hb (by omega))
    have k' : b * (2 ^ t.toNat * 2) * 2 ^ (T.toNat - t.toNat - 1) = b * 2 ^ T.toNat := by rw [Int.mul_assoc, ← e]
    rw [k', Int.mul_one] at k
    have pT := p_pos' T.toNat
    rw [Int.add_mul, Int.one_mul] at h2
    have e3 : b * (2 ^ t.toNat * 2) = b * 2 ^ t.toNat * 2 := by rw [Int.mul_assoc]
    omega
theorem bits_mul {w : Int} {xs ys : List Int} {T : Int} (h1 : 4 ≤ w) (h2 : w ≤ 32) (hx : Wds (2 ^ w.toNat) xs) (hl : xs.length ≤ 100) (t0 : 0 ≤ T) (t1 : T < w) : 0 ≤ num (2 ^ w.toNat) xs * 2 ^ T.toNat ∧ num (2 ^ w.toNat) xs * 2 ^ T.toNat < (2 ^ w.toNat) ^ 101 := by
  have hB := p_pos' w.toNat
  have a := num_nonneg hB hx
  have b := num_lt hB hx
  have pT := p_pos' T.toNat
  have c : (2 : Int) ^ T.toNat ≤ 2 ^ w.toNat := p_mono (by omega)
  have pb := pw_bounds h1 h2
  have d : ((2 : Int) ^ w.toNat) ^ xs.length ≤ (2 ^ w.toNat) ^ 100 := by
    by_cases e : xs.length = 100
    · rw [e]; exact Int.le_refl _
    · exact Int.le_of_lt (pow_lt_pow (by omega) (by omega))
  refine ⟨Int.mul_nonneg a (by omega), ?_⟩
  rw [Int.pow_succ]
  have p100 : (0 : Int) < (2 ^ w.toNat) ^ 100 := Int.pow_pos hB
  have k1 : num (2 ^ w.toNat) xs * 2 ^ T.toNat < (2 ^ w.toNat) ^ 100 * 2 ^ T.toNat := Int.mul_lt_mul_of_pos_right (by omega) pT
  have k2 : ((2 : Int) ^ w.toNat) ^ 100 * 2 ^ T.toNat ≤ (2 ^ w.toNat) ^ 100 * 2 ^ w.toNat := Int.mul_le_mul_of_nonneg_left c (by omega)
  omega
theorem bits_lt {w n : Int} {k : Nat} (h1 : 4 ≤ w) (h2 : w ≤ 32) (n0 : 0 ≤ n) (hn : n < (2 ^ w.toNat) ^ k) (hk : k ≤ 200) : intBits n ≤ 6400 := by
  obtain ⟨ws, lw, ew, lew⟩ := ex_words h1 h2 n0 hn
  rw [← ew]
  exact bits_num h1 h2 lw.wd (by omega)
theorem cut_four (xs : List V) : cutV xs none (some 4) = xs.take 4 := by
  unfold cutV
  show (xs.drop 0).take (min (4 : Int).toNat xs.length - 0) = _
  rw [List.drop_zero, Nat.sub_zero]
  show xs.take (min 4 xs.length) = _
  by_cases h : xs.length ≤ 4
  · rw [Nat.min_eq_right h, List.take_length, List.take_of_length_le h]
  · rw [Nat.min_eq_left (by omega)]
def PJ (m : Nat) (H : Hp) (cc : Int) (l : Addr) (i x1 : Int) (ds : List Int) : L2.St → Hp → Prop := fun σ2 HZ => ∃ (a b : Addr) (us vs : List Int) (y1 y2 : Option V), σ2 = [some (.int cc), some (.ref l), some (.int i), some (.int (1 * 2 ^ i.toNat)), some (.ref a), some (.ref b), some (.int x1), y1, y2] ∧ HZ a = some (.lst (us.map V.int)) ∧ HZ b = some (.lst (vs.map V.int)) ∧ Lg i us ∧ Lg i vs ∧ us.length ≤ m ∧ vs.length ≤ m ∧ HZ l = some (.lst (ds.map V.int)) ∧ Same H HZ
theorem wd_rep {B v : Int} (v0 : 0 ≤ v) (v1 : v < B) (k : Nat) : Wds B (List.replicate k v) := ⟨fun x hx => by rw [List.eq_of_mem_replicate hx]; exact ⟨v0, v1⟩⟩
theorem ok__law_case {f : Addr} {fd : FuncData} (F : Fun K "_law_case" "_law_case" s__law_case f fd) (T : Txt K mg) (H__law_drawn : Has P w K mg base 1 "_law_drawn" ["_law_cell", "_law_sizes"] spDrawn) (H__law_long : Has P w K mg base 1 "_law_long" ["_law_draws", "_law_at", "_law_many", "_law_width"] spLLong) (H__law_words : Has P w K mg base 1 "_law_words" ["_law_number_here", "_law_width"] spLW) (H__law_number : Has P w K mg base 1 "_law_number" ["_law_words_here", "_law_width"] spLNum) : FnOk P w K mg base CX0 2 f fd ["_law_cell"] spCase := by
  refine F.ok sc__law_case (fun vs H Q E h => ?_) (fun cdv A outer s H vs Q E hr h => ?_)
  · obtain ⟨cc, rfl, _⟩ := h
    rfl
  obtain ⟨cc, rfl, q⟩ := h
  refine ⟨_, (pss_cons (ps_set (i := 1) sc__law_case.nd rfl (Or.inl rfl) (pe_fn H__law_drawn (hr.mono (by omega)) rfl (pa_cons (pv 0) (pa_cons (pe_op op_addL (pe_lst (pa_cons pe_int (pa_cons pe_int (pa_cons pe_int (pa_cons pe_int (pa_cons (pe_op op_shl pe_int pe_int) pa_nil)))))) (pe_op op_rep (pe_lst (pa_cons pe_int (pa_cons (pe_op op_shl pe_int pe_int) pa_nil))) pe_int)) pa_nil))))
    (pss_cons (ps_set (i := 2) sc__law_case.nd rfl (Or.inl rfl) (pe_op op_add pe_int (pe_ix ix_list (pv 1) pe_int (fun _ _ => rfl))))
    (pss_cons (ps_set (i := 3) sc__law_case.nd rfl (Or.inl rfl) (pe_op op_shl pe_int (pv 2)))
    (pss_cons (ps_set (i := 4) sc__law_case.nd rfl (Or.inl rfl) (pe_fn H__law_long (hr.mono (by omega)) rfl (pa_cons (pv 1) (pa_cons pe_int (pa_cons (pe_op op_mod (pe_ix ix_list (pv 1) pe_int (fun _ _ => rfl)) pe_int) (pa_cons (pv 2) pa_nil))))))
    (pss_cons (ps_set (i := 5) sc__law_case.nd rfl (Or.inl rfl) (pe_fn H__law_long (hr.mono (by omega)) rfl (pa_cons (pv 1) (pa_cons pe_int (pa_cons (pe_ix ix_list (pv 1) pe_int (fun _ _ => rfl)) (pa_cons (pv 2) pa_nil))))))
    (pss_cons (ps_set (i := 6) sc__law_case.nd rfl (Or.inl rfl) (pe_ix ix_list (pv 1) pe_int (fun _ _ => rfl)))
    (pss_join (ps_if (pt_cmpR op_in_seq (pv 6) (pe_tup (pa_cons pe_int (pa_cons pe_int (pa_cons pe_int pa_nil)))) (by with_unfolding_all rfl))
      (pss_one (ps_set (i := 5) sc__law_case.nd rfl (Or.inl rfl) (pe_op op_addL (pe_op op_rep (pe_slice sl_list (pe_lst (pa_cons (pe_op op_sub (pv 3) pe_int) (pa_cons pe_int (pa_cons (pe_op op_mod (pe_ix ix_list (pv 1) pe_int (fun _ _ => rfl)) (pv 3)) pa_nil)))) (po_some (pe_op op_sub (pv 6) pe_int)) (po_some (pv 6))) (pe_op op_add pe_int (pe_op op_mod (pe_ix ix_list (pv 1) pe_int (fun _ _ => rfl)) pe_int))) (pe_lst (pa_cons (pe_op op_fdiv (pv 3) pe_int) pa_nil)))))
      pss_nil)
    (pss_join (ps_if (pt_cmpR op_in_seq (pv 6) (pe_tup (pa_cons pe_int (pa_cons pe_int (pa_cons pe_int (pa_cons pe_int pa_nil))))) (by with_unfolding_all rfl))
      (pss_cons (ps_set (i := 7) sc__law_case.nd rfl (Or.inl rfl) (pe_callB (call_max2 rfl) rfl T.n_max boot_max (pa_cons pe_int (pa_cons (pe_fn H__law_number (hr.mono (by omega)) rfl (pa_cons (pv 5) (pa_cons (pv 2) pa_nil))) pa_nil))))
      (pss_cons (ps_set (i := 8) sc__law_case.nd rfl (Or.inl rfl) (pe_op op_add (pe_op op_mulB (pe_fn H__law_number (hr.mono (by omega)) rfl (pa_cons (pe_slice sl_list (pv 4) po_none (po_some pe_int)) (pa_cons (pv 2) pa_nil))) (pv 7)) (pe_ix ix_list (pe_lst (pa_cons pe_int (pa_cons (pe_op op_sub (pv 7) pe_int) (pa_cons (pe_op op_mod (pe_ix ix_list (pv 1) pe_int (fun _ _ => rfl)) (pv 7)) pa_nil)))) (pe_op op_mod (pv 6) pe_int) (fun _ _ => rfl))))
      (pss_one (ps_set (i := 4) sc__law_case.nd rfl (Or.inl rfl) (pe_fn H__law_words (hr.mono (by omega)) rfl (pa_cons (pv 8) (pa_cons (pv 2) pa_nil)))))))
      pss_nil)
    (pss_join (ps_if (pt_cmpR op_eq (pv 6) pe_int (nomark _))
      (pss_one (ps_set (i := 4) sc__law_case.nd rfl (Or.inl rfl) (pe_op op_rep (pe_lst (pa_cons (pe_op op_sub (pv 3) pe_int) pa_nil)) (pe_op op_add pe_int (pe_ix ix_list (pv 1) pe_int (fun _ _ => rfl))))))
      pss_nil)
    (pss_join (ps_if (pt_cmpR op_eq (pv 6) pe_int (nomark _))
      (pss_one (ps_set (i := 5) sc__law_case.nd rfl (Or.inl rfl) (pe_callTy call_list_of rfl T.n_list boot_list (pa_cons (pv 4) pa_nil))))
      pss_nil)
    (pss_join (ps_if (pt_cmpR op_eq (pv 6) pe_int (nomark _))
      (pss_one (ps_set (i := 5) sc__law_case.nd rfl (Or.inl rfl) (pe_slice sl_list (pv 5) (po_some (pe_un un_neg pe_int)) po_none)))
      pss_nil)
    (pss_join (ps_if (pt_cmpR op_eq (pv 6) pe_int (nomark _))
      (pss_one (ps_set (i := 4) sc__law_case.nd rfl (Or.inl rfl) (pe_op op_addL (pe_op op_rep (pe_lst (pa_cons (pe_op op_mod (pe_ix ix_list (pv 1) pe_int (fun _ _ => rfl)) (pv 3)) pa_nil)) (pe_op op_mod (pe_ix ix_list (pv 1) pe_int (fun _ _ => rfl)) pe_int)) (pe_lst (pa_cons (pe_op op_fdiv (pv 3) pe_int) (pa_cons (pe_op op_sub (pe_op op_fdiv (pv 3) pe_int) pe_int) pa_nil))))))
      pss_nil)
    (pss_one (ps_ret (pe_tup (pa_cons (pv 2) (pa_cons (pv 4) (pa_cons (pv 5) pa_nil)))))))))))))))))), ?_⟩
  have big : (1001 : Nat) ≤ sizeLine := by decide
  refine ⟨_, rfl, _, _, rfl, rfl, ⟨by decide, by decide, by decide⟩, (by show 5 ≤ sizeLine; decide), fun z1 hz1 => ⟨_, _, rfl, rfl, ⟨by decide, by decide, by decide⟩, (by show 2 ≤ sizeLine; decide), fun z2 hz2 => ⟨z2, 12, _, rfl, rfl, upd_same, by decide, by decide, (by show 2 * 12 ≤ sizeLine; decide), fun z3 hz3 => ?_⟩⟩⟩
  have t1 := same_new hz2 (.lst [V.int 9, .int (1 * 2 ^ (32 : Int).toNat)]) _ _ (show upd H z1 (.lst [V.int 29, .int 12, .int 8, .int 5, .int (1 * 2 ^ (32 : Int).toNat)]) z1 = some (.lst [V.int 29, .int 12, .int 8, .int 5, .int (1 * 2 ^ (32 : Int).toNat)]) from upd_same)
  have sA : Same H (upd (upd H z1 (.lst [V.int 29, .int 12, .int 8, .int 5, .int (1 * 2 ^ (32 : Int).toNat)])) z2 (.lst [V.int 9, .int (1 * 2 ^ (32 : Int).toNat)])) := (same_new hz1 _).trans (same_new hz2 _)
  generalize (upd (upd H z1 (.lst [V.int 29, .int 12, .int 8, .int 5, .int (1 * 2 ^ (32 : Int).toNat)])) z2 (.lst [V.int 9, .int (1 * 2 ^ (32 : Int).toNat)])) = HA at t1 sA hz3 ⊢
  have t1' := same_new hz3 (.lst (List.replicate (12 : Int).toNat [V.int 9, .int (1 * 2 ^ (32 : Int).toNat)]).flatten) _ _ t1
  refine ⟨z1, z3, _, _, rfl, rfl, SqL.of t1', SqL.of upd_same, (by show 5 + 24 ≤ sizeLine; decide), fun z4 hz4 => ?_⟩
  have sB := sA.trans ((same_new hz3 (.lst (List.replicate (12 : Int).toNat [V.int 9, .int (1 * 2 ^ (32 : Int).toNat)]).flatten)).trans (same_new hz4 (.lst ([V.int 29, .int 12, .int 8, .int 5, .int (1 * 2 ^ (32 : Int).toNat)] ++ (List.replicate (12 : Int).toNat [V.int 9, .int (1 * 2 ^ (32 : Int).toNat)]).flatten))))
  refine ⟨cc, z4, [29, 12, 8, 5, 1 * 2 ^ (32 : Int).toNat, 9, 1 * 2 ^ (32 : Int).toNat, 9, 1 * 2 ^ (32 : Int).toNat, 9, 1 * 2 ^ (32 : Int).toNat, 9, 1 * 2 ^ (32 : Int).toNat, 9, 1 * 2 ^ (32 : Int).toNat, 9, 1 * 2 ^ (32 : Int).toNat, 9, 1 * 2 ^ (32 : Int).toNat, 9, 1 * 2 ^ (32 : Int).toNat, 9, 1 * 2 ^ (32 : Int).toNat, 9, 1 * 2 ^ (32 : Int).toNat, 9, 1 * 2 ^ (32 : Int).toNat, 9, 1 * 2 ^ (32 : Int).toNat], rfl, upd_same, by decide, by decide, fun l xs H2 hl0 hx s2 dr => ?_⟩
  have s0 : Same H H2 := sB.trans s2
  clear sB t1' t1 sA
  obtain ⟨hlen, hb⟩ := dr
  have hlen' : xs.length = 29 := hlen
  obtain ⟨x0, hx0⟩ : ∃ x, xs[0]? = some x := ⟨_, List.getElem?_eq_getElem (by omega)⟩
  obtain ⟨x1, hx1⟩ : ∃ x, xs[1]? = some x := ⟨_, List.getElem?_eq_getElem (by omega)⟩
  obtain ⟨x2, hx2⟩ : ∃ x, xs[2]? = some x := ⟨_, List.getElem?_eq_getElem (by omega)⟩
  obtain ⟨x3, hx3⟩ : ∃ x, xs[3]? = some x := ⟨_, List.getElem?_eq_getElem (by omega)⟩
  obtain ⟨x4, hx4⟩ : ∃ x, xs[4]? = some x := ⟨_, List.getElem?_eq_getElem (by omega)⟩
  have c0 := hb 0 x0 29 hx0 rfl
  have c1 := hb 1 x1 12 hx1 rfl
  have c2 := hb 2 x2 8 hx2 rfl
  have c3 := hb 3 x3 5 hx3 rfl
  clear hb
  refine ⟨_, rfl, l, _, _, _, rfl, rfl, SqL.of hx, at_nat (j := 0) hx0, _, _, rfl, rfl, ?_⟩
  have h1 : 4 ≤ 4 + x0 := by omega
  have h2 : 4 + x0 ≤ 32 := by omega
  dsimp only
  generalize 4 + x0 = i at h1 h2 ⊢
  have pb := pw_bounds h1 h2
  have hB := p_pos i.toNat
  have e1 : (1 : Int) * 2 ^ i.toNat = 2 ^ i.toNat := Int.one_mul _
  refine ⟨_, rfl, _, _, rfl, rfl, cpow1 (by omega) (by omega), ?_⟩
  have m1 := Int.emod_nonneg x2 (show (7 : Int) ≠ 0 by decide)
  have m2 := Int.emod_lt_of_pos x2 (show (0 : Int) < 7 by decide)
  refine ⟨_, rfl, _, rfl, l, _, _, _, rfl, rfl, SqL.of hx, at_nat (j := 2) hx2, _, _, rfl, rfl, (show (0 : Int) < 7 by decide), _, rfl, l, xs, 5, x2 % 7, i, rfl, hx, by omega, m1, by omega, h1, h2, fun a us H3 ha0 ha hal wda laa s3 => ?_⟩
  have hx3' := s3 _ _ hx
  refine ⟨_, rfl, _, rfl, l, _, _, _, rfl, rfl, SqL.of hx3', at_nat (j := 3) hx3, _, rfl, l, xs, 19, x3, i, rfl, hx3', by omega, c3.1, by omega, h1, h2, fun b vs HZ hb0 hb hbl wdb lab s4 => ?_⟩
  have hl := s4 _ _ hx3'
  replace ha := s4 _ _ ha
  have sZ : Same H HZ := s0.trans (s3.trans s4)
  have lu : Lg i us := ⟨wda, laa, by omega⟩
  have lv : Lg i vs := ⟨wdb, lab, by omega⟩
  have ul : us.length ≤ 8 := by omega
  have vl : vs.length ≤ 8 := by omega
  refine ⟨_, rfl, l, _, _, _, rfl, rfl, SqL.of hl, at_nat (j := 1) hx1, ?_⟩
  refine ⟨PJ 8 H cc l i x1 xs, ?_, ?_⟩
  · refine ⟨_, rfl, (by show 3 ≤ sizeLine; decide), fun z hz => ?_⟩
    have sE := same_new hz (.tup [V.int 1, .int 2, .int 3])
    refine ⟨z, _, rfl, .inr (SqT.of upd_same), rfl, rfl, _, rfl, ?_⟩
    replace ha := sE _ _ ha
    replace hb := sE _ _ hb
    replace hl := sE _ _ hl
    replace sZ := sZ.trans sE
    generalize (upd HZ z (.tup [V.int 1, .int 2, .int 3])) = HE at ha hb hl sZ ⊢
    refine ite2 (fun hk => ?_) (fun _ => ⟨a, b, us, vs, _, _, rfl, ha, hb, lu, lv, ul, vl, hl, sZ⟩)
    replace hk : x1 = 1 ∨ x1 = 2 ∨ x1 = 3 := by
      simp [inV, eqV] at hk
      omega
    have r0 := Int.emod_nonneg x4 (show (1 : Int) * 2 ^ i.toNat ≠ 0 by omega)
    have r1 := Int.emod_lt_of_pos x4 (show (0 : Int) < 1 * 2 ^ i.toNat by omega)
    refine ⟨_, rfl, _, _, rfl, rfl, _, rfl, l, _, _, _, rfl, rfl, SqL.of hl, at_nat (j := 4) hx4, _, rfl, _, _, rfl, rfl, p1_pos _, (by show 3 ≤ sizeLine; decide), fun q1 hq1 => ?_⟩
    obtain ⟨v, ev, v0, v1⟩ : ∃ v : Int, cutV [V.int (1 * 2 ^ i.toNat - 1), .int 0, .int (x4 % (1 * 2 ^ i.toNat))] (some (x1 - 1)) (some x1) = [V.int v] ∧ 0 ≤ v ∧ v < 2 ^ i.toNat := by
      rcases hk with rfl | rfl | rfl
      · exact ⟨_, rfl, by omega, by omega⟩
      · exact ⟨_, rfl, by omega, by omega⟩
      · exact ⟨_, rfl, by omega, by omega⟩
    have n1 := same_new hq1 (.lst [V.int (1 * 2 ^ i.toNat - 1), .int 0, .int (x4 % (1 * 2 ^ i.toNat))])
    refine ⟨_, rfl, _, _, rfl, rfl, _, rfl, _, rfl, _, rfl, q1, _, rfl, SqL.of upd_same, fun q2 hq2 => ?_⟩
    dsimp only
    rw [ev]
    have n2 := same_new hq2 (.lst [V.int v])
    have m3 := Int.emod_nonneg x3 (show (3 : Int) ≠ 0 by decide)
    have m4 := Int.emod_lt_of_pos x3 (show (0 : Int) < 3 by decide)
    refine ⟨_, rfl, l, _, _, _, rfl, rfl, SqL.of (n2 _ _ (n1 _ _ hl)), at_nat (j := 3) hx3, _, _, rfl, rfl, (show (0 : Int) < 3 by decide), _, _, rfl, rfl, q2, _, _, rfl, rfl, upd_same, by omega, by omega, (by show 1 * (1 + x3 % 3).toNat ≤ sizeLine; omega), fun q3 hq3 => ?_⟩
    have n3 := same_new hq3 (.lst (List.replicate (1 + x3 % 3).toNat [V.int v]).flatten)
    refine ⟨_, rfl, _, _, rfl, rfl, ⟨by decide, by decide⟩, (by show 1 ≤ sizeLine; decide), fun q4 hq4 => ?_⟩
    have n4 := same_new hq4 (.lst [V.int (1 * 2 ^ i.toNat / 2)])
    refine ⟨q3, q4, _, _, rfl, rfl, SqL.of (n4 _ _ upd_same), SqL.of upd_same, ?_, fun q5 hq5 => ?_⟩
    · rw [len_rep]
      show (1 + x3 % 3).toNat * 1 + 1 ≤ _
      omega
    have n5 := n1.trans (n2.trans (n3.trans (n4.trans (same_new hq5 (.lst ((List.replicate (1 + x3 % 3).toNat [V.int v]).flatten ++ [V.int (1 * 2 ^ i.toNat / 2)]))))))
    have el : (List.replicate (1 + x3 % 3).toNat [V.int v]).flatten ++ [V.int (1 * 2 ^ i.toNat / 2)] = (List.replicate (1 + x3 % 3).toNat v ++ [1 * 2 ^ i.toNat / 2]).map V.int := by
      rw [rep_one, List.map_append, List.map_replicate]
      rfl
    have ll : (List.replicate (1 + x3 % 3).toNat v ++ [1 * 2 ^ i.toNat / 2]).length ≤ 4 := by
      rw [List.length_append, List.length_replicate]
      show (1 + x3 % 3).toNat + 1 ≤ 4
      omega
    exact ⟨a, q5, us, List.replicate (1 + x3 % 3).toNat v ++ [1 * 2 ^ i.toNat / 2], _, _, rfl, n5 _ _ ha, by rw [upd_same, el], lu, ⟨(wd_rep v0 v1 _).snoc (by omega) (by omega), by rw [List.getLast?_concat]; exact fun z => by have := Option.some.inj z; omega, by omega⟩, ul, by omega, n5 _ _ hl, sZ.trans n5⟩
  clear ha hb lu lv ul vl hl sZ wda laa wdb lab hal hbl ha0 hb0 s3 s4 hx3' hx s0 s2
  rintro σ2 HZ ⟨a, b, us, vs, y1, y2, rfl, ha, hb, lu, lv, ul, vl, hl, sZ⟩
  refine ⟨PJ 12 H cc l i x1 xs, ?_, ?_⟩
  · refine ⟨_, rfl, (by show 4 ≤ sizeLine; decide), fun z hz => ?_⟩
    have sE := same_new hz (.tup [V.int 2, .int 4, .int 5, .int 6])
    refine ⟨z, _, rfl, .inr (SqT.of upd_same), rfl, rfl, _, rfl, ?_⟩
    replace ha := sE _ _ ha
    replace hb := sE _ _ hb
    replace hl := sE _ _ hl
    replace sZ := sZ.trans sE
    generalize (upd HZ z (.tup [V.int 2, .int 4, .int 5, .int 6])) = HE at ha hb hl sZ ⊢
    refine ite2 (fun hk => ?_) (fun _ => ⟨a, b, us, vs, _, _, rfl, ha, hb, lu, lv, by omega, by omega, hl, sZ⟩)
    replace hk : x1 = 2 ∨ x1 = 4 ∨ x1 = 5 ∨ x1 = 6 := by
      simp [inV, eqV] at hk
      omega
    refine ⟨_, rfl, _, rfl, b, vs, i, rfl, h1, h2, hb, lv.wd, lv.ln, fun H4 s4 => ⟨_, _, rfl, ?_⟩⟩
    have nv0 := num_nonneg hB lv.wd
    have nv1 := num_lt hB lv.wd
    have p8 : ((2 : Int) ^ i.toNat) ^ vs.length ≤ (2 ^ i.toNat) ^ 8 := by
      by_cases c : vs.length = 8
      · rw [c]; exact Int.le_refl _
      · exact Int.le_of_lt (pow_lt_pow (by omega) (by omega))
    have q8 : (0 : Int) < (2 ^ i.toNat) ^ 8 := Int.pow_pos hB
    have bV := bits_num h1 h2 lv.wd (by omega)
    obtain ⟨lo, elo, lo1, lo2, lo3⟩ : ∃ lo : Int, (if num (2 ^ i.toNat) vs > 1 then num (2 ^ i.toNat) vs else 1) = lo ∧ 1 ≤ lo ∧ lo ≤ (2 ^ i.toNat) ^ 8 ∧ Builtin.Int.intBits lo ≤ 100000 := by
      refine ⟨_, rfl, ?_, ?_, ?_⟩
      · split <;> omega
      · split <;> omega
      · split
        · exact Nat.le_trans bV (by decide)
        · decide
    rw [elo]
    have k1 : ∀ (HH : Hp) (q1 : Addr), (upd HH q1 (.lst (cutV (us.map V.int) none (some 4)))) q1 = some (.lst ((us.take 4).map V.int)) := fun HH q1 => by rw [upd_same, cut_four, List.map_take]
    refine ⟨_, rfl, _, rfl, a, _, rfl, SqL.of (s4 _ _ ha), fun q1 hq1 => ?_⟩
    have n1 := same_new hq1 (.lst (cutV (us.map V.int) none (some 4)))
    have wt : Wds (2 ^ i.toNat) (us.take 4) := ⟨fun x hx => lu.wd.ok x (List.mem_of_mem_take hx)⟩
    have u4 := num_upto hB lu.wd 4
    have bU := bits_num h1 h2 wt (by rw [List.length_take]; omega)
    refine ⟨_, rfl, q1, us.take 4, i, rfl, h1, h2, k1 _ _, wt, by rw [List.length_take]; omega, fun H5 s5 => ?_⟩
    have t5 := s4.trans (n1.trans s5)
    obtain ⟨v, ev, v0, v1⟩ : ∃ v : Int, atI [V.int 0, .int (lo - 1), .int (x4 % lo)] (x1 % 3) = some (V.int v) ∧ 0 ≤ v ∧ v < lo := by
      have r0 := Int.emod_nonneg x4 (show lo ≠ 0 by omega)
      have r1 := Int.emod_lt_of_pos x4 (show 0 < lo by omega)
      rcases hk with rfl | rfl | rfl | rfl
      · exact ⟨_, rfl, r0, r1⟩
      · exact ⟨_, rfl, by omega, by omega⟩
      · exact ⟨_, rfl, r0, r1⟩
      · exact ⟨_, rfl, by omega, by omega⟩
    refine ⟨_, rfl, _, _, rfl, rfl, ⟨Nat.le_trans bU (by decide), lo3⟩, _, rfl, _, _, rfl, rfl, _, rfl, l, _, _, _, rfl, rfl, SqL.of (t5 _ _ hl), at_nat (j := 4) hx4, _, rfl, _, _, rfl, rfl, (show 0 < lo by omega), (by show 3 ≤ sizeLine; decide), fun q2 hq2 => ?_⟩
    have n2 := same_new hq2 (.lst [V.int 0, .int (lo - 1), .int (x4 % lo)])
    refine ⟨_, rfl, _, _, rfl, rfl, (show (0 : Int) < 3 by decide), q2, _, _, _, rfl, rfl, SqL.of upd_same, ev, _, _, rfl, rfl, ?_⟩
    have up0 : 0 ≤ num (2 ^ i.toNat) (us.take 4) * lo + v := Int.add_nonneg (Int.mul_nonneg u4.1 (by omega)) v0
    have up1 : num (2 ^ i.toNat) (us.take 4) * lo + v < (2 ^ i.toNat) ^ 12 := by
      have e : ((2 : Int) ^ i.toNat) ^ 12 = (2 ^ i.toNat) ^ 4 * (2 ^ i.toNat) ^ 8 := by rw [← Int.pow_add]
      rw [e]
      have b1 : (num (2 ^ i.toNat) (us.take 4) + 1) * lo ≤ (2 ^ i.toNat) ^ 4 * lo := Int.mul_le_mul_of_nonneg_right (by omega) (by omega)
      have b2 : ((2 : Int) ^ i.toNat) ^ 4 * lo ≤ (2 ^ i.toNat) ^ 4 * (2 ^ i.toNat) ^ 8 := Int.mul_le_mul_of_nonneg_left lo2 (Int.le_of_lt (Int.pow_pos hB))
      rw [Int.add_mul, Int.one_mul] at b1
      omega
    obtain ⟨ws, lw, ew, lew⟩ := ex_words h1 h2 up0 up1
    refine ⟨_, rfl, _, rfl, _, i, ws, rfl, h1, h2, ew, lw, by omega, fun a2 H6 ha20 ha2 s6 => ?_⟩
    have t6 := t5.trans (n2.trans s6)
    exact ⟨a2, b, ws, vs, _, _, rfl, ha2, t6 _ _ hb, ⟨lw.wd, lw.la, by omega⟩, lv, lew, by omega, t6 _ _ hl, sZ.trans t6⟩
  clear ha hb lu lv ul vl hl sZ
  rintro σ2 HZ ⟨a, b, us, vs, y1, y2, rfl, ha, hb, lu, lv, ul, vl, hl, sZ⟩
  refine ⟨PJ 12 H cc l i x1 xs, ?_, ?_⟩
  · refine ⟨_, rfl, rfl, _, rfl, ite2 (fun _ => ?_) (fun _ => ⟨a, b, us, vs, _, _, rfl, ha, hb, lu, lv, ul, vl, hl, sZ⟩)⟩
    refine ⟨_, rfl, _, _, rfl, rfl, (by show 1 ≤ sizeLine; decide), fun q1 hq1 => ?_⟩
    have n1 := same_new hq1 (.lst [V.int (1 * 2 ^ i.toNat - 1)])
    refine ⟨_, rfl, l, _, _, _, rfl, rfl, SqL.of (n1 _ _ hl), at_nat (j := 2) hx2, _, _, rfl, rfl, q1, _, _, rfl, rfl, upd_same, by omega, by omega, (by show 1 * (1 + x2).toNat ≤ sizeLine; omega), fun q2 hq2 => ?_⟩
    have n2 := n1.trans (same_new hq2 (.lst (List.replicate (1 + x2).toNat [V.int (1 * 2 ^ i.toNat - 1)]).flatten))
    have el : (List.replicate (1 + x2).toNat [V.int (1 * 2 ^ i.toNat - 1)]).flatten = (List.replicate (1 + x2).toNat (1 * 2 ^ i.toNat - 1)).map V.int := by rw [rep_one, List.map_replicate]
    refine ⟨q2, b, List.replicate (1 + x2).toNat (1 * 2 ^ i.toNat - 1), vs, _, _, rfl, by rw [upd_same, el], n2 _ _ hb, ⟨wd_rep (by omega) (by omega) _, ?_, by rw [List.length_replicate]; omega⟩, lv, by rw [List.length_replicate]; omega, vl, n2 _ _ hl, sZ.trans n2⟩
    intro z
    have := List.eq_of_mem_replicate (List.mem_of_getLast? z)
    omega
  clear ha hb lu lv ul vl hl sZ
  rintro σ2 HZ ⟨a, b, us, vs, y1, y2, rfl, ha, hb, lu, lv, ul, vl, hl, sZ⟩
  refine ⟨PJ 12 H cc l i x1 xs, ?_, ?_⟩
  · refine ⟨_, rfl, rfl, _, rfl, ite2 (fun _ => ?_) (fun _ => ⟨a, b, us, vs, _, _, rfl, ha, hb, lu, lv, ul, vl, hl, sZ⟩)⟩
    refine ⟨_, rfl, a, _, rfl, .inl (SqL.of ha), fun b2 hb2 => ?_⟩
    have s5 := same_new hb2 (.lst (us.map V.int))
    exact ⟨a, b2, us, us, _, _, rfl, s5 _ _ ha, upd_same, lu, lu, ul, ul, s5 _ _ hl, sZ.trans s5⟩
  clear ha hb lu lv ul vl hl sZ
  rintro σ2 HZ ⟨a, b, us, vs, y1, y2, rfl, ha, hb, lu, lv, ul, vl, hl, sZ⟩
  refine ⟨PJ 12 H cc l i x1 xs, ?_, ?_⟩
  · refine ⟨_, rfl, rfl, _, rfl, ite2 (fun _ => ?_) (fun _ => ⟨a, b, us, vs, _, _, rfl, ha, hb, lu, lv, ul, vl, hl, sZ⟩)⟩
    refine ⟨_, rfl, _, rfl, _, rfl, b, _, rfl, SqL.of hb, fun b2 hb2 => ?_⟩
    have s5 := same_new hb2 (.lst (cutV (vs.map V.int) (some (-1)) none))
    exact ⟨a, b2, us, vs.drop (vs.length - 1), _, _, rfl, s5 _ _ ha, by rw [upd_same, cut_tail], lu, ⟨wd_drop lv.wd _, drop_la lv.la _, by rw [List.length_drop]; omega⟩, ul, by rw [List.length_drop]; omega, s5 _ _ hl, sZ.trans s5⟩
  clear ha hb lu lv ul vl hl sZ
  rintro σ2 HZ ⟨a, b, us, vs, y1, y2, rfl, ha, hb, lu, lv, ul, vl, hl, sZ⟩
  refine ⟨PJ 12 H cc l i x1 xs, ?_, ?_⟩
  · refine ⟨_, rfl, rfl, _, rfl, ite2 (fun _ => ?_) (fun _ => ⟨a, b, us, vs, _, _, rfl, ha, hb, lu, lv, ul, vl, hl, sZ⟩)⟩
    have r0 := Int.emod_nonneg x4 (show (1 : Int) * 2 ^ i.toNat ≠ 0 by omega)
    have r1 := Int.emod_lt_of_pos x4 (show (0 : Int) < 1 * 2 ^ i.toNat by omega)
    refine ⟨_, rfl, l, _, _, _, rfl, rfl, SqL.of hl, at_nat (j := 4) hx4, _, rfl, _, _, rfl, rfl, p1_pos _, (by show 1 ≤ sizeLine; decide), fun q1 hq1 => ?_⟩
    dsimp only
    generalize x4 % (1 * 2 ^ i.toNat) = v at r0 r1 hq1 ⊢
    have n1 := same_new hq1 (.lst [V.int v])
    have m3 := Int.emod_nonneg x2 (show (3 : Int) ≠ 0 by decide)
    have m4 := Int.emod_lt_of_pos x2 (show (0 : Int) < 3 by decide)
    refine ⟨_, rfl, l, _, _, _, rfl, rfl, SqL.of (n1 _ _ hl), at_nat (j := 2) hx2, _, _, rfl, rfl, (show (0 : Int) < 3 by decide), q1, _, _, rfl, rfl, upd_same, by omega, by omega, (by show 1 * (x2 % 3).toNat ≤ sizeLine; omega), fun q3 hq3 => ?_⟩
    have n3 := same_new hq3 (.lst (List.replicate (x2 % 3).toNat [V.int v]).flatten)
    refine ⟨_, rfl, _, _, rfl, rfl, ⟨by decide, by decide⟩, _, rfl, _, _, rfl, rfl, ⟨by decide, by decide⟩, _, _, rfl, rfl, (by show 2 ≤ sizeLine; decide), fun q4 hq4 => ?_⟩
    have n4 := same_new hq4 (.lst [V.int (1 * 2 ^ i.toNat / 2), .int (1 * 2 ^ i.toNat / 2 - 1)])
    refine ⟨q3, q4, _, _, rfl, rfl, SqL.of (n4 _ _ upd_same), SqL.of upd_same, ?_, fun q5 hq5 => ?_⟩
    · rw [len_rep]
      show (x2 % 3).toNat * 1 + 2 ≤ _
      omega
    have n5 := n1.trans (n3.trans (n4.trans (same_new hq5 (.lst ((List.replicate (x2 % 3).toNat [V.int v]).flatten ++ [V.int (1 * 2 ^ i.toNat / 2), .int (1 * 2 ^ i.toNat / 2 - 1)])))))
    have el : (List.replicate (x2 % 3).toNat [V.int v]).flatten ++ [V.int (1 * 2 ^ i.toNat / 2), .int (1 * 2 ^ i.toNat / 2 - 1)] = (List.replicate (x2 % 3).toNat v ++ [1 * 2 ^ i.toNat / 2] ++ [1 * 2 ^ i.toNat / 2 - 1]).map V.int := by
      rw [rep_one, List.map_append, List.map_append, List.map_replicate, List.append_assoc]
      rfl
    have ll : (List.replicate (x2 % 3).toNat v ++ [1 * 2 ^ i.toNat / 2] ++ [1 * 2 ^ i.toNat / 2 - 1]).length ≤ 4 := by
      rw [List.length_append, List.length_append, List.length_replicate]
      show (x2 % 3).toNat + 1 + 1 ≤ 4
      omega
    exact ⟨q5, b, List.replicate (x2 % 3).toNat v ++ [1 * 2 ^ i.toNat / 2] ++ [1 * 2 ^ i.toNat / 2 - 1], vs, _, _, rfl, by rw [upd_same, el], n5 _ _ hb, ⟨((wd_rep r0 (by omega) _).snoc (by omega) (by omega)).snoc (by omega) (by omega), by rw [List.getLast?_concat]; exact fun z => by have := Option.some.inj z; omega, by omega⟩, lv, by omega, vl, n5 _ _ hl, sZ.trans n5⟩
  clear ha hb lu lv ul vl hl sZ
  rintro σ2 HZ ⟨a, b, us, vs, y1, y2, rfl, ha, hb, lu, lv, ul, vl, hl, sZ⟩
  refine ⟨_, rfl, _, rfl, _, rfl, (by show 3 ≤ sizeLine; decide), fun t ht => ?_⟩
  have s5 := same_new ht (.tup [.int i, .ref a, .ref b])
  exact q t a b i us vs _ (sZ.free ht) upd_same ⟨h1, h2, s5 _ _ ha, s5 _ _ hb, lu, lv⟩ (by omega) (by omega) (sZ.trans s5)
theorem kit_non_tup (K : PySem.W.Frag) : PySem.W.kitOne K (.type "NoneType") (.type "tuple") = some false := by with_unfolding_all rfl
theorem kit_lst_tup (K : PySem.W.Frag) : PySem.W.kitOne K (.type "list") (.type "tuple") = some false := by with_unfolding_all rfl
theorem isL_ln {w : Int} {xs : List V} (h : isL w xs = true) : ∃ ws : List Int, xs = ws.map V.int ∧ Ln w ws := by
  unfold isL at h
  rw [Bool.and_eq_true] at h
  obtain ⟨ha, hb⟩ := h
  have key : ∀ l : List V, l.all (fun x => btw x 0 (1 * 2 ^ w.toNat - 1)) = true → ∃ ws : List Int, l = ws.map V.int ∧ Wds (2 ^ w.toNat) ws := by
    intro l
    induction l with
    | nil => intro _; exact ⟨[], rfl, Wds.nil _⟩
    | cons x r ih =>
      intro h
      rw [List.all_cons, Bool.and_eq_true] at h
      obtain ⟨ws, rfl, wd⟩ := ih h.2
      cases x with
      | int i =>
        have h1 : (decide (0 ≤ i) && decide (i ≤ 1 * 2 ^ w.toNat - 1)) = true := h.1
        simp only [Bool.and_eq_true, decide_eq_true_eq] at h1
        refine ⟨i :: ws, rfl, ⟨fun y hy => ?_⟩⟩
        rcases List.mem_cons.mp hy with rfl | hy
        · rw [Int.one_mul] at h1
          omega
        · exact wd.ok y hy
      | _ => exact absurd (show false = true from h.1) (by decide)
  obtain ⟨ws, rfl, wd⟩ := key xs ha
  refine ⟨ws, rfl, wd, fun z => ?_⟩
  have e : (ws.map V.int).getLast? = some (V.int 0) := by rw [List.getLast?_map, z]; rfl
  rw [e] at hb
  cases ws with
  | nil => cases z
  | cons y r => simp at hb
theorem isL_of' {w : Int} {ws : List Int} (h : Ln w ws) : isL w (ws.map V.int) = true := by
  unfold isL
  rw [Bool.and_eq_true]
  refine ⟨List.all_eq_true.mpr fun x hx => ?_, ?_⟩
  · obtain ⟨i, hi, rfl⟩ := List.mem_map.mp hx
    have := h.wd.ok i hi
    show (decide (0 ≤ i) && decide (i ≤ 1 * 2 ^ w.toNat - 1)) = true
    rw [Bool.and_eq_true, decide_eq_true_eq, decide_eq_true_eq, Int.one_mul]
    omega
  · cases ws with
    | nil => rfl
    | cons y r =>
      have : ((y :: r).map V.int).getLast? ≠ some (V.int 0) := by
        rw [List.getLast?_map]
        intro z
        have := h.la
        cases e : (y :: r).getLast? with
        | none => rw [e] at z; cases z
        | some u =>
          rw [e] at z this
          have : V.int u = V.int 0 := Option.some.inj z
          injection this with this
          subst this
          contradiction
      rw [decide_eq_false this]
      rfl
theorem guess_iff {B v p x : Int} (v0 : 0 < v) (x1 : x ≤ B - 1) : (x * v ≤ p ∧ (x = B - 1 ∨ p < x * v + v)) ↔ x = if p / v < B - 1 then p / v else B - 1 := by
  have hd := Int.mul_ediv_add_emod p v
  have m0 := Int.emod_nonneg p (show v ≠ 0 by omega)
  have m1 := Int.emod_lt_of_pos p v0
  have le_iff : x * v ≤ p ↔ x ≤ p / v := (Int.le_ediv_iff_mul_le v0).symm
  have lt_iff : p < x * v + v ↔ p / v < x + 1 := by
    have := Int.ediv_lt_iff_lt_mul (a := p) (b := x + 1) v0
    rw [this, Int.add_mul, Int.one_mul]
  rw [le_iff, lt_iff]
  split <;> omega
theorem gOf_range {B L N : Int} {n : Nat} (B1 : 1 ≤ B) (N0 : 0 ≤ N) : 0 ≤ gOf B L N n ∧ gOf B L N n ≤ B - 1 := by
  have a : 0 ≤ N / B ^ n := Int.ediv_nonneg N0 (Int.le_of_lt (Int.pow_pos (by omega)))
  have b : 0 ≤ N / B ^ n / (if L / B ^ n > 1 then L / B ^ n else 1) := Int.ediv_nonneg a (by split <;> omega)
  unfold gOf
  generalize N / B ^ n / (if L / B ^ n > 1 then L / B ^ n else 1) = z at b ⊢
  split <;> omega
theorem ok_is_guess {f : Addr} {fd : FuncData} (F : Fun K "is_guess" "is_guess" s_is_guess f fd) (T : Txt K mg) (H_is_word : Has P w K mg base 3 "is_word" ["width", "thing"] spWordG) (H_word_at : Has P w K mg base 1 "word_at" ["one", "place"] spWAt) : FnOk P w K mg base CX0 4 f fd ["width", "divided", "lower", "thing"] spIsG := by
  refine F.ok sc_is_guess (fun vs H Q E h => ?_) (fun cdv A outer s H vs Q E hr h => ?_)
  · obtain ⟨w, d, l, ds, ls, n, x, rfl, _⟩ := h
    rfl
  obtain ⟨w, d, l, ds, ls, n, x, rfl, h1, h2, hd, hl, SI, hn, th, q⟩ := h
  refine ⟨_, (pss_cons (ps_if (pt_not (pt_val (pe_fn H_is_word (hr.mono (by omega)) rfl (pa_cons (pv 0) (pa_cons (pv 3) pa_nil)))))
      (pss_one (ps_ret pe_bl))
      pss_nil)
    (pss_cons (ps_set (i := 4) sc_is_guess.nd rfl (Or.inl rfl) (pe_callB call_len_seq rfl T.n_len boot_len (pa_cons (pv 2) pa_nil)))
    (pss_cons (ps_set (i := 5) sc_is_guess.nd rfl (Or.inl rfl) (pe_op op_add (pe_op op_shl (pe_fn H_word_at (hr.mono (by omega)) rfl (pa_cons (pv 1) (pa_cons (pv 4) pa_nil))) (pv 0)) (pe_fn H_word_at (hr.mono (by omega)) rfl (pa_cons (pv 1) (pa_cons (pe_op op_sub (pv 4) pe_int) pa_nil)))))
    (pss_cons (ps_set (i := 6) sc_is_guess.nd rfl (Or.inl rfl) (pe_op op_mul (pv 3) (pe_ix ix_list (pv 2) (pe_un un_neg pe_int) (fun _ _ => rfl))))
    (pss_one (ps_ret (pe_and (pe_cmpR op_le (pv 6) (pv 5) (nomark _)) (pe_one (pe_or (pe_cmpR op_eq (pv 3) (pe_op op_sub (pe_op op_shl pe_int (pv 0)) pe_int) (nomark _)) (pe_one (pe_cmpR op_lt (pv 5) (pe_op op_add (pv 6) (pe_ix ix_list (pv 2) (pe_un un_neg pe_int) (fun _ _ => rfl))) (nomark _)))))))))))), ?_⟩
  obtain ⟨ld, ll, l1, l2, l3, tp, lt⟩ := id SI
  have hB := p_pos w.toNat
  have pb := pw_bounds h1 h2
  have pH := p_pos (w - 1).toNat
  have hml : (ls.map V.int).length = ls.length := List.length_map _
  have lw : lastW ls = ls.getD n 0 := by show ls.getD (ls.length - 1) 0 = _; rw [hn]; rfl
  have tl := top_le hB ll.wd hn
  have t2 := two_le hB ld.wd (n := n) (by omega)
  have gh := ld.wd.getD hB (n + 1)
  have gl := ld.wd.getD hB n
  have gv := ll.wd.getD hB n
  have N0 : 0 ≤ nm w ds := num_nonneg hB ld.wd
  have gr := gOf_range (B := 2 ^ w.toNat) (L := nm w ls) (n := n) (by omega) N0
  refine ⟨_, rfl, _, rfl, w, x, rfl, h1, h2, th, _, rfl, ?_⟩
  cases hb : btw x 0 (1 * 2 ^ w.toNat - 1) with
  | false =>
    refine iteT (q false ⟨fun z => (nomatch z), fun e => ?_⟩)
    rw [e] at hb
    have hb' : (decide (0 ≤ gOf (2 ^ w.toNat) (nm w ls) (nm w ds) n) && decide (gOf (2 ^ w.toNat) (nm w ls) (nm w ds) n ≤ 1 * 2 ^ w.toNat - 1)) = false := hb
    rw [Int.one_mul, decide_eq_true gr.1, decide_eq_true gr.2] at hb'
    cases hb'
  | true =>
    refine iteF ?_
    obtain ⟨i, rfl, i0, i1⟩ : ∃ i : Int, x = .int i ∧ 0 ≤ i ∧ i ≤ 2 ^ w.toNat - 1 := by
      cases x with
      | int i =>
        have h1 : (decide (0 ≤ i) && decide (i ≤ 1 * 2 ^ w.toNat - 1)) = true := hb
        simp only [Bool.and_eq_true, decide_eq_true_eq, Int.one_mul] at h1
        exact ⟨i, rfl, h1⟩
      | _ => cases hb
    refine ⟨_, rfl, l, _, rfl, .inl (SqL.of hl), ?_⟩
    refine ⟨_, rfl, _, rfl, d, ds, _, ds.getD (n + 1) 0, rfl, hd, by omega, by rw [hml, hn]; rfl, _, rfl, _, _, rfl, rfl, ⟨by omega, by omega, by omega⟩, _, rfl, _, rfl, _, _, rfl, rfl, d, ds, _, ds.getD n 0, rfl, hd, by rw [hml]; omega, by rw [hml, hn]; congr 1; omega, _, _, rfl, rfl, ?_⟩
    refine ⟨_, rfl, _, rfl, _, rfl, l, _, _, _, rfl, rfl, SqL.of hl, at_last (lastW_at l1), _, _, rfl, rfl, cmul_l i0 (by omega), ?_⟩
    rw [lw]
    have v0 : 0 < ls.getD n 0 := by omega
    have p : (0 : Int) < (2 ^ w.toNat) ^ n := Int.pow_pos hB
    have eN := ediv_is p t2.1 t2.2
    have eL := ediv_is p tl.1 tl.2
    have gi := guess_iff (B := 2 ^ w.toNat) (p := ds.getD (n + 1) 0 * 2 ^ w.toNat + ds.getD n 0) v0 i1
    have gg : gOf (2 ^ w.toNat) (nm w ls) (nm w ds) n = if (ds.getD (n + 1) 0 * 2 ^ w.toNat + ds.getD n 0) / ls.getD n 0 < 2 ^ w.toNat - 1 then (ds.getD (n + 1) 0 * 2 ^ w.toNat + ds.getD n 0) / ls.getD n 0 else 2 ^ w.toNat - 1 := by
      unfold gOf
      rw [eN, eL, show (if ls.getD n 0 > 1 then ls.getD n 0 else 1) = ls.getD n 0 by split <;> omega]
    rw [← gg] at gi
    have fin : ∀ b : Bool, (b = true ↔ i * ls.getD n 0 ≤ ds.getD (n + 1) 0 * 2 ^ w.toNat + ds.getD n 0 ∧ (i = 2 ^ w.toNat - 1 ∨ ds.getD (n + 1) 0 * 2 ^ w.toNat + ds.getD n 0 < i * ls.getD n 0 + ls.getD n 0)) → Q (.bl b) H := fun b hb => q b (hb.trans (gi.trans ⟨fun e => by rw [e], fun e => by injection e⟩))
    refine ⟨_, rfl, _, rfl, _, _, rfl, rfl, _, rfl, ?_⟩
    by_cases c1 : i * ls.getD n 0 ≤ ds.getD (n + 1) 0 * 2 ^ w.toNat + ds.getD n 0
    rotate_left
    · refine iteDN c1 ?_
      exact fin false ⟨fun z => (nomatch z), fun z => absurd z.1 c1⟩
    refine iteD c1 ?_
    refine ⟨_, rfl, _, rfl, _, _, rfl, rfl, cpow1 (by omega) (by omega), _, _, rfl, rfl, rfl, _, rfl, ?_⟩
    by_cases c2 : i = 2 ^ w.toNat - 1
    · refine iteD (congrArg V.int (by rw [Int.one_mul]; exact c2)) ?_
      exact fin true ⟨fun _ => ⟨c1, .inl c2⟩, fun _ => rfl⟩
    refine iteDN (fun z => c2 (by injection z with z; rw [Int.one_mul] at z; exact z)) ?_
    refine ⟨_, rfl, _, rfl, _, rfl, _, rfl, l, _, _, _, rfl, rfl, SqL.of hl, at_last (lastW_at l1), _, _, rfl, rfl, _, _, rfl, rfl, ?_⟩
    refine fin _ ⟨fun z => ⟨c1, .inr ?_⟩, fun z => ?_⟩
    · have := of_decide_eq_true z
      rw [lw] at this
      exact this
    · have := z.2.resolve_left c2
      rw [lw]
      exact decide_eq_true this
theorem ints_inj : ∀ {xs ys : List Int}, xs.map V.int = ys.map V.int → xs = ys
  | [], [], _ => rfl
  | [], _ :: _, h => nomatch h
  | _ :: _, [], h => nomatch h
  | x :: xs, y :: ys, h => by
    rw [List.map_cons, List.map_cons] at h
    injection h with h1 h2
    injection h1 with h1
    rw [h1, ints_inj h2]
theorem RowT.parts {w pl D L : Int} {n : Nat} {H : Hp} {t : Addr} {a b c d e : V} (h : H t = some (.tup [a, b, c, d, e])) (r : RowT w pl D L n H (.ref t)) :
    a = .int pl ∧ b = .int (gOf (2 ^ w.toNat) L D n) ∧ c = .int (gOf (2 ^ w.toNat) L D n - D / L) ∧ d = .int (D / L) ∧ LgIs H w e (D % L) := by
  obtain ⟨rs, ⟨t', r', et, h1, h2⟩, l, nn⟩ := r
  cases et
  rw [h] at h1
  cases h1
  exact ⟨rfl, rfl, rfl, rfl, r', rs, rfl, h2, l, nn⟩
theorem btw_one {x : V} {i : Int} (h : btw x i i = true) : x = .int i := by
  cases x with
  | int j =>
    have h1 : (decide (i ≤ j) && decide (j ≤ i)) = true := h
    simp only [Bool.and_eq_true, decide_eq_true_eq] at h1
    rw [show j = i by omega]
  | _ => cases h
theorem btw_self (i : Int) : btw (.int i) i i = true := by
  show (decide (i ≤ i) && decide (i ≤ i)) = true
  rw [decide_eq_true (Int.le_refl i)]
  rfl
theorem btw_at {x : V} {lo hi : Int} (h : btw x lo hi = true) : ∃ i, x = .int i ∧ lo ≤ i ∧ i ≤ hi := by
  cases x with
  | int j =>
    have h1 : (decide (lo ≤ j) && decide (j ≤ hi)) = true := h
    simp only [Bool.and_eq_true, decide_eq_true_eq] at h1
    exact ⟨j, rfl, h1⟩
  | _ => cases h
theorem btw_in {i lo hi : Int} (h0 : lo ≤ i) (h1 : i ≤ hi) : btw (.int i) lo hi = true := by
  show (decide (lo ≤ i) && decide (i ≤ hi)) = true
  rw [decide_eq_true h0, decide_eq_true h1]
  rfl
theorem ok_is_row {f : Addr} {fd : FuncData} (F : Fun K "is_row" "is_row" s_is_row f fd) (T : Txt K mg) (H_is_guess : Has P w K mg base 4 "is_guess" ["width", "divided", "lower", "thing"] spIsG) (H_is_between : Has P w K mg base 2 "is_between" ["thing", "low", "high"] spBtwG) (H_is_whole : Has P w K mg base 1 "is_whole" ["thing"] spWholeG) (H_is_word : Has P w K mg base 3 "is_word" ["width", "thing"] spWordG) (H_has_long : Has P w K mg base 4 "has_long" ["width", "thing"] spHasO) (H_compared : Has P w K mg base 1 "compared" ["one", "other"] spCmp) (H_add_words : Has P w K mg base 2 "add_words" ["width", "one", "other"] spAdd) (H_product_by_word : Has P w K mg base 2 "product_by_word" ["width", "one", "word"] spPBW) : FnOk P w K mg base CX0 5 f fd ["width", "place", "divided", "lower", "thing"] spIsR := by
  refine F.ok sc_is_row (fun vs H Q E h => ?_) (fun cdv A outer s H vs Q E hr h => ?_)
  · obtain ⟨w, pl, dA, l, ds, ls, n, v, o, rfl, _⟩ := h
    rfl
  obtain ⟨w, pl, dA, l, ds, ls, n, v, o, rfl, h1, h2, hd, hl, SI, hn, rv, q⟩ := h
  refine ⟨_, (pss_cons (ps_if (PW.pt (pw_or (pt_not (pt_val (pe_callB call_isinst rfl T.n_isinstance boot_isinstance (pa_cons (pv 4) (pa_cons (pe_ty rfl T.n_tuple boot_tuple) pa_nil))))) (pw_or (pt_cmpR op_ne (pe_callB call_len_seq rfl T.n_len boot_len (pa_cons (pv 4) pa_nil)) pe_int (nomark _)) (pw_or1 (pt_not (pt_val (pe_fn H_is_between (hr.mono (by omega)) rfl (pa_cons (pe_ix ix_tup (pv 4) pe_int (fun _ _ => rfl)) (pa_cons (pv 1) (pa_cons (pv 1) pa_nil))))))))))
      (pss_one (ps_ret pe_bl))
      pss_nil)
    (pss_cons (ps_if (pt_not (pt_val (pe_fn H_is_guess (hr.mono (by omega)) rfl (pa_cons (pv 0) (pa_cons (pv 2) (pa_cons (pv 3) (pa_cons (pe_ix ix_tup (pv 4) pe_int (fun _ _ => rfl)) pa_nil)))))))
      (pss_one (ps_ret pe_bl))
      pss_nil)
    (pss_cons (ps_if (PW.pt (pw_or (pt_not (pt_val (pe_fn H_is_whole (hr.mono (by omega)) rfl (pa_cons (pe_ix ix_tup (pv 4) pe_int (fun _ _ => rfl)) pa_nil)))) (pw_or (pt_not (pt_val (pe_fn H_is_word (hr.mono (by omega)) rfl (pa_cons (pv 0) (pa_cons (pe_ix ix_tup (pv 4) pe_int (fun _ _ => rfl)) pa_nil))))) (pw_or1 (pt_cmpR op_ne (pe_op op_add (pe_ix ix_tup (pv 4) pe_int (fun _ _ => rfl)) (pe_ix ix_tup (pv 4) pe_int (fun _ _ => rfl))) (pe_ix ix_tup (pv 4) pe_int (fun _ _ => rfl)) (nomark _))))))
      (pss_one (ps_ret pe_bl))
      pss_nil)
    (pss_cons (ps_if (PW.pt (pw_or (pt_not (pt_val (pe_fn H_has_long (hr.mono (by omega)) rfl (pa_cons (pv 0) (pa_cons (pe_ix ix_tup (pv 4) pe_int (fun _ _ => rfl)) pa_nil))))) (pw_or1 (pt_cmpR op_ge (pe_fn H_compared (hr.mono (by omega)) rfl (pa_cons (pe_ix ix_tup (pv 4) pe_int (fun _ _ => rfl)) (pa_cons (pv 3) pa_nil))) pe_int (nomark _)))))
      (pss_one (ps_ret pe_bl))
      pss_nil)
    (pss_one (ps_ret (pe_cmpR (op_eqLI (Nat.lt_of_succ_lt (hu_of hr))) (pe_ix ix_tup (pe_fn H_add_words (hr.mono (by omega)) rfl (pa_cons (pv 0) (pa_cons (pe_fn H_product_by_word (hr.mono (by omega)) rfl (pa_cons (pv 0) (pa_cons (pv 3) (pa_cons (pe_ix ix_tup (pv 4) pe_int (fun _ _ => rfl)) pa_nil)))) (pa_cons (pe_ix ix_tup (pv 4) pe_int (fun _ _ => rfl)) pa_nil)))) pe_int (fun _ _ => rfl)) (pv 2) (nomark _)))))))), ?_⟩
  obtain ⟨ld, ll, l1, l2, l3, tp, lt⟩ := id SI
  have hB := p_pos w.toNat
  have pb := pw_bounds h1 h2
  have D0 : 0 ≤ nm w ds := num_nonneg hB ld.wd
  have L0 : 0 < nm w ls := num_pos hB ll.wd (by intro z; rw [z] at l1; exact absurd l1 (by decide)) ll.la
  have q0 : 0 ≤ nm w ds / nm w ls := Int.ediv_nonneg D0 (by omega)
  have q1 : nm w ds / nm w ls < 2 ^ w.toNat := Int.ediv_lt_of_lt_mul L0 lt
  have no : ∀ H', Same H H' → ¬ RowT w pl (nm w ds) (nm w ls) n H v → Q (.bl false) H' := fun H' s z => q false H' s ⟨fun z => (nomatch z), fun r => absurd r z⟩
  have R := Same.refl H
  cases rv with
  | non => exact ⟨_, rfl, _, _, _, _, _, rfl, rfl, TyOf.non, kit_non_tup _, _, rfl, iteT (no H R fun ⟨rs, ⟨t, r, e, _⟩, _⟩ => nomatch e)⟩
  | lst h => exact ⟨_, rfl, _, _, _, _, _, rfl, rfl, TyOf.lst h, kit_lst_tup _, _, rfl, iteT (no H R fun ⟨rs, ⟨t, r, e, e2, _⟩, _⟩ => by cases e; rw [h] at e2; cases e2)⟩
  | @tup t xs h hl5 =>
    refine ⟨_, rfl, _, _, _, _, _, rfl, rfl, TyOf.tup h, kit_tup_tup _, _, rfl, iteF ?_⟩
    refine ⟨_, rfl, t, _, rfl, .inr (SqT.of h), rfl, _, rfl, iteN (fun z => hl5 (by injection z with z; omega)) (no H R fun ⟨rs, ⟨t, r, e, e2, _⟩, _⟩ => by cases e; rw [h] at e2; cases e2; exact hl5 rfl)⟩
  | @five t a b c d e oe h ta tb tc td le ne =>
    have P : RowT w pl (nm w ds) (nm w ls) n H (.ref t) → a = .int pl ∧ b = .int (gOf (2 ^ w.toNat) (nm w ls) (nm w ds) n) ∧ c = .int (gOf (2 ^ w.toNat) (nm w ls) (nm w ds) n - nm w ds / nm w ls) ∧ d = .int (nm w ds / nm w ls) ∧ LgIs H w e (nm w ds % nm w ls) := fun r => r.parts h
    have ht := SqT.of (K := K) h
    refine ⟨_, rfl, _, _, _, _, _, rfl, rfl, TyOf.tup h, kit_tup_tup _, _, rfl, iteF ?_⟩
    refine ⟨_, rfl, t, _, rfl, .inr ht, rfl, _, rfl, iteNS rfl ?_⟩
    refine ⟨_, rfl, t, _, _, _, rfl, rfl, ht, rfl, _, rfl, _, rfl, a, pl, pl, rfl, ta, _, rfl, ?_⟩
    cases hb : btw a pl pl with
    | false => exact iteT (no H R fun r => by rw [(P r).1, btw_self] at hb; cases hb)
    | true =>
    refine iteF ?_
    cases btw_one hb
    refine ⟨_, rfl, _, rfl, _, rfl, _, rfl, t, _, _, _, rfl, rfl, ht, rfl, w, dA, l, ds, ls, n, b, rfl, h1, h2, hd, hl, SI, hn, tb, fun bb hbb => ⟨_, rfl, ?_⟩⟩
    cases bb with
    | false => exact iteT (no H R fun r => nomatch hbb.mpr (P r).2.1)
    | true =>
    refine iteF ?_
    cases hbb.mp rfl
    refine ⟨_, rfl, t, _, _, _, rfl, rfl, ht, rfl, c, rfl, tc, _, rfl, ?_⟩
    cases hc : isI c with
    | false => exact iteT (no H R fun r => by rw [(P r).2.2.1] at hc; cases hc)
    | true =>
    refine iteF ?_
    obtain ⟨ci, rfl⟩ : ∃ ci, c = .int ci := by
      cases c with
      | int i => exact ⟨i, rfl⟩
      | _ => cases hc
    refine ⟨_, rfl, _, rfl, t, _, _, _, rfl, rfl, ht, rfl, w, d, rfl, h1, h2, td, _, rfl, ?_⟩
    cases hw : btw d 0 (1 * 2 ^ w.toNat - 1) with
    | false => exact iteT (no H R fun r => by rw [(P r).2.2.2.1, btw_in q0 (by omega)] at hw; cases hw)
    | true =>
    refine iteF ?_
    obtain ⟨di, rfl, d0, d1⟩ := btw_at hw
    refine ⟨_, rfl, t, _, _, _, rfl, rfl, ht, rfl, _, rfl, t, _, _, _, rfl, rfl, ht, rfl, _, _, rfl, rfl, _, rfl, t, _, _, _, rfl, rfl, ht, rfl, rfl, _, rfl, ?_⟩
    by_cases cs : ci + di = gOf (2 ^ w.toNat) (nm w ls) (nm w ds) n
    rotate_left
    · refine iteN (fun z => cs (by injection z)) (no H R fun r => ?_)
      have e1 := (P r).2.2.1
      have e2 := (P r).2.2.2.1
      injection e1 with e1
      injection e2 with e2
      omega
    refine iteNS (congrArg V.int cs) ?_
    refine ⟨_, rfl, _, rfl, t, _, _, _, rfl, rfl, ht, rfl, w, e, oe, rfl, h1, h2, le, fun H1 s1 => ⟨_, rfl, ?_⟩⟩
    cases ho : hasO w oe with
    | false =>
      refine iteT (no H1 s1 fun r => ?_)
      obtain ⟨ra, rs, e1, e2, e3, _⟩ := (P r).2.2.2.2
      subst e1
      cases le with
      | lst h5 _ _ =>
        rw [h5] at e2
        cases e2
        have : isL w (rs.map V.int) = false := ho
        rw [isL_of' e3] at this
        cases this
      | tup h5 => rw [h5] at e2; cases e2
      | dct h5 => rw [h5] at e2; cases e2
    | true =>
    refine iteF ?_
    have le0 := le
    obtain ⟨ra, rs, rfl, hra, lr, lrl⟩ : ∃ (ra : Addr) (rs : List Int), e = .ref ra ∧ H ra = some (.lst (rs.map V.int)) ∧ Ln w rs ∧ rs.length ≤ 100 := by
      cases le with
      | @lst ra xs h5 h6 h7 =>
        obtain ⟨rs, rfl, lr⟩ := isL_ln (show isL w xs = true from ho)
        have := ne _ rfl
        rw [List.length_map] at this
        exact ⟨ra, rs, rfl, h5, lr, this⟩
      | _ => cases ho
    have P5 : RowT w pl (nm w ds) (nm w ls) n H (.ref t) → nm w rs = nm w ds % nm w ls := fun r => by
      obtain ⟨ra', rs', e1, e2, e3, e4⟩ := (P r).2.2.2.2
      cases e1
      rw [hra] at e2
      have : rs.map V.int = rs'.map V.int := by injection e2 with e2; injection e2
      have : rs = rs' := ints_inj this
      rw [this]
      exact e4
    have ht1 := SqT.of (K := K) (s1 _ _ h)
    have LLr : LL H1 w ra l rs ls := ⟨h1, h2, s1 _ _ hra, s1 _ _ hl, ⟨lr.wd, lr.la, lrl⟩, ⟨ll.wd, ll.la, by omega⟩⟩
    refine ⟨_, rfl, t, _, _, _, rfl, rfl, ht1, rfl, _, rfl, w, ra, l, rs, ls, rfl, LLr, _, _, rfl, rfl, _, rfl, ?_⟩
    by_cases cl : nm w rs < nm w ls
    rotate_left
    · have c0 : 0 ≤ cmpI (nm w rs) (nm w ls) := by
        unfold cmpI
        rw [if_neg cl]
        split <;> omega
      refine iteD c0 (no H1 s1 fun r => cl ?_)
      rw [P5 r]
      exact Int.emod_lt_of_pos _ L0
    have c0 : ¬ 0 ≤ cmpI (nm w rs) (nm w ls) := by
      unfold cmpI
      rw [if_pos cl]
      decide
    refine iteDN c0 ?_
    refine ⟨_, rfl, _, rfl, _, rfl, _, rfl, t, _, _, _, rfl, rfl, ht1, rfl, w, l, di, ls, rfl, h1, h2, s1 _ _ hl, ll.wd, by omega, d0, by omega, fun p zs H2 hp0 hp lz ez lez s2 => ?_⟩
    have ht2 := SqT.of (K := K) (s2 _ _ (s1 _ _ h))
    refine ⟨_, rfl, t, _, _, _, rfl, rfl, ht2, rfl, w, p, ra, zs, rs, rfl, h1, h2, hp, s2 _ _ (s1 _ _ hra), lz, lr, by omega, by omega, fun t3 p3 g3 us H3 ht30 hp30 ht3 hp3 lu eu lul s3 => ?_⟩
    refine ⟨t3, _, _, _, rfl, rfl, SqT.of ht3, rfl, _, rfl, p3, dA, us, ds, rfl, rfl, SqL.of hp3, SqL.of (s3 _ _ (s2 _ _ (s1 _ _ hd))), ?_⟩
    refine q _ H3 (s1.trans (s2.trans s3)) ⟨fun z => ?_, fun r => ?_⟩
    · have z : us = ds := of_decide_eq_true z
      rw [z, ez] at eu
      have r0 := num_nonneg hB lr.wd
      have eu' : nm w ds = nm w ls * di + nm w rs := eu
      have e1 : di = nm w ds / nm w ls := by
        refine (ediv_is L0 ?_ ?_).symm
        · rw [eu', Int.mul_comm]; have : 0 ≤ nm w rs := r0; omega
        · rw [eu', Int.add_mul, Int.one_mul, Int.mul_comm di]; omega
      have e2 : nm w rs = nm w ds % nm w ls := by
        have := Int.mul_ediv_add_emod (nm w ds) (nm w ls)
        rw [← e1] at this
        omega
      refine ⟨rs, ⟨t, ra, rfl, ?_, hra⟩, lr, e2⟩
      rw [h, ← e1, show ci = gOf (2 ^ w.toNat) (nm w ls) (nm w ds) n - di by omega]
    · have e1 := (P r).2.2.2.1
      injection e1 with e1
      have e2 := P5 r
      refine decide_eq_true (Ln.eq lu ld ?_)
      rw [eu, ez]
      have := Int.mul_ediv_add_emod (nm w ds) (nm w ls)
      rw [← e1] at this
      show nm w ls * di + nm w rs = nm w ds
      omega
theorem comp_rev {K : PySem.W.Frag} {a D : Addr} {xs : List V} {te' : TE} {tl : L2.St} {G : Hp → Prop} {H1 : Hp} (Pv : Nat → Hp → Prop) (h0 : Pv 0 (upd H1 D (.lst []))) (hl : ∀ i H, i ≤ xs.length → Pv i H → SqL K H a xs)
    (hs : ∀ i x H, i < xs.length → xs[xs.length - 1 - i]? = some x → Pv i H → te' (some x :: tl) H fun y H2 => ∃ ys, H2 D = some (.lst ys) ∧ ys.length < sizeLine ∧ ∃ m', m' < xs.length - i ∧ (m' = xs.length - (i + 1) ∧ i + 1 ≤ xs.length ∧ Pv (i + 1) (upd H2 D (.lst (ys ++ [y])))))
    (hd : ∀ H, Pv xs.length H → G H) :
    ∃ W : Nat → Nat → Hp → Prop, (∃ m, W 0 m (upd H1 D (.lst []))) ∧ ∀ i m H, W i m H →
      ((Itv K a xs.length).stop i H ∧ G H) ∨ ((Itv K a xs.length).go i H ∧ ∀ x H', (Itv K a xs.length).yld i H x H' → te' (some x :: tl) H' fun y H2 => ∃ ys, H2 D = some (.lst ys) ∧ ys.length < sizeLine ∧ ∃ m', m' < m ∧ W (i + 1) m' (upd H2 D (.lst (ys ++ [y])))) := by
  refine ⟨fun i m H => m = xs.length - i ∧ i ≤ xs.length ∧ Pv i H, ⟨xs.length, by simp, Nat.zero_le _, h0⟩, ?_⟩
  rintro i m H ⟨rfl, hi, p⟩
  have q := hl i H hi p
  by_cases hlt : i < xs.length
  · refine .inr ⟨⟨hlt, xs, xs[xs.length - 1 - i], q, List.getElem?_eq_getElem (by omega)⟩, fun x H' y => ?_⟩
    obtain ⟨e, y⟩ := y
    subst e
    exact hs i x _ hlt (y xs q) p
  · have e : i = xs.length := by omega
    subst e
    exact .inl ⟨rfl, hd H p⟩
def dgs (B U L : Int) (m : Nat) : Nat → List Int
  | 0 => []
  | j + 1 => dJ B U L m j :: dgs B U L m j
theorem dgs_len {B U L : Int} {m : Nat} : ∀ j, (dgs B U L m j).length = j
  | 0 => rfl
  | j + 1 => by show (dgs B U L m j).length + 1 = j + 1; rw [dgs_len j]
theorem dgs_num {B U L : Int} {m : Nat} (B0 : 0 < B) (L0 : 0 < L) (h0 : qJ B U L m 0 = 0) : ∀ j, j ≤ m → num B (dgs B U L m j) = qJ B U L m j
  | 0, _ => h0.symm
  | j + 1, h => by
    show dJ B U L m j + B * num B (dgs B U L m j) = _
    rw [dgs_num B0 L0 h0 j (by omega), (stepJ B0 L0 (by omega)).2, Int.mul_comm B]
    omega
theorem dgs_wd {B U L : Int} {m : Nat} (B0 : 0 < B) (L0 : 0 < L) : ∀ j, Wds B (dgs B U L m j)
  | 0 => Wds.nil _
  | j + 1 => ⟨fun x hx => by
    rcases List.mem_cons.mp hx with rfl | hx
    · exact dJ_range B0 L0 j
    · exact (dgs_wd B0 L0 j).ok x hx⟩
theorem dgs_at {B U L : Int} {m : Nat} : ∀ (j i : Nat), i < j → (dgs B U L m j)[i]? = some (dJ B U L m (j - 1 - i))
  | j + 1, 0, _ => by rw [Nat.add_sub_cancel, Nat.sub_zero]; rfl
  | j + 1, i + 1, h => by
    show (dgs B U L m j)[i]? = _
    rw [dgs_at j i (by omega)]
    congr 2
    omega
theorem dgs_take {B U L : Int} {m i : Nat} (h : i < m) : ((dgs B U L m m).take i).map V.int ++ [V.int (dJ B U L m (m - 1 - i))] = ((dgs B U L m m).take (i + 1)).map V.int := by
  rw [List.take_succ, dgs_at m i h, List.map_append]
  rfl
theorem ok_is_division {f : Addr} {fd : FuncData} (F : Fun K "is_division" "is_division" s_is_division f fd) (T : Txt K mg) (H_need_division : Has P w K mg base 7 "need_division" ["width", "top", "bottom"] spND) (H_count_steps : Has P w K mg base 1 "count_steps" ["top", "bottom"] spCnt) (H_turn_to : Has P w K mg base 1 "turn_to" ["width", "bottom"] spTT) (H_moved_left : Has P w K mg base 3 "moved_left" ["width", "one", "many"] spML) (H_has_long : Has P w K mg base 4 "has_long" ["width", "thing"] spHasO) (H_is_row : Has P w K mg base 5 "is_row" ["width", "place", "divided", "lower", "thing"] spIsR) (H_trimmed : Has P w K mg base 1 "trimmed" ["words"] spTrim) (H_word_at : Has P w K mg base 1 "word_at" ["one", "place"] spWAt) : FnOk P w K mg base CX0 8 f fd ["width", "top", "bottom", "quotient", "rest", "rows"] spIsD := by
  refine F.ok sc_is_division (fun vs H Q E h => ?_) (fun cdv A outer s H vs Q E hr h => ?_)
  · obtain ⟨w, a, b, xs, ys, qv, rv, rows, rfl, _⟩ := h
    rfl
  obtain ⟨i, a, b, xs, ys, qv, rv, rows, rfl, L, lx45, ly45, yn, TD, q⟩ := h
  refine ⟨_, (pss_cons (ps_expr (pe_fn H_need_division (hr.mono (by omega)) rfl (pa_cons (pv 0) (pa_cons (pv 1) (pa_cons (pv 2) pa_nil)))))
    (pss_cons (ps_set (i := 6) sc_is_division.nd rfl (Or.inl rfl) (pe_fn H_count_steps (hr.mono (by omega)) rfl (pa_cons (pv 1) (pa_cons (pv 2) pa_nil))))
    (pss_cons (ps_if (PW.pt (pw_or (pt_not (pt_val (pe_fn H_has_long (hr.mono (by omega)) rfl (pa_cons (pv 0) (pa_cons (pv 3) pa_nil))))) (pw_or1 (pt_not (pt_val (pe_fn H_has_long (hr.mono (by omega)) rfl (pa_cons (pv 0) (pa_cons (pv 4) pa_nil))))))))
      (pss_one (ps_ret pe_bl))
      pss_nil)
    (pss_cons (ps_if (PW.pt (pw_or (pt_not (pt_val (pe_callB call_isinst rfl T.n_isinstance boot_isinstance (pa_cons (pv 5) (pa_cons (pe_ty rfl T.n_list boot_list) pa_nil))))) (pw_or1 (pt_cmpR op_ne (pe_callB call_len_seq rfl T.n_len boot_len (pa_cons (pv 5) pa_nil)) (pv 6) (nomark _)))))
      (pss_one (ps_ret pe_bl))
      pss_nil)
    (pss_cons (ps_set (i := 7) sc_is_division.nd rfl (Or.inl rfl) (pe_fn H_turn_to (hr.mono (by omega)) rfl (pa_cons (pv 0) (pa_cons (pv 2) pa_nil))))
    (pss_cons (ps_set (i := 8) sc_is_division.nd rfl (Or.inl rfl) (pe_fn H_moved_left (hr.mono (by omega)) rfl (pa_cons (pv 0) (pa_cons (pv 2) (pa_cons (pv 7) pa_nil)))))
    (pss_cons (ps_set (i := 9) sc_is_division.nd rfl (Or.inl rfl) (pe_fn H_moved_left (hr.mono (by omega)) rfl (pa_cons (pv 0) (pa_cons (pv 1) (pa_cons (pv 7) pa_nil)))))
    (pss_cons (ps_set (i := 10) sc_is_division.nd rfl (Or.inl rfl) (pe_slice sl_list (pv 9) (po_some (pv 6)) po_none))
    (pss_cons (ps_for PassesOwn.never rfl (pi_down rfl T.n_range (pa_cons (pe_op op_sub (pv 6) pe_int) (pa_cons (pe_un un_neg pe_int) (pa_cons (pe_un un_neg pe_int) pa_nil)))) (pg_name (i := 11) sc_is_division.nd rfl (Or.inl rfl))
      (pss_cons (ps_set (i := 12) sc_is_division.nd rfl (Or.inl rfl) (pe_ix ix_list (pv 5) (pe_op op_sub (pe_op op_sub (pv 6) pe_int) (pv 11)) (fun _ _ => rfl)))
      (pss_cons (ps_if (pt_not (pt_val (pe_fn H_is_row (hr.mono (by omega)) rfl (pa_cons (pv 0) (pa_cons (pv 11) (pa_cons (pe_fn H_trimmed (hr.mono (by omega)) rfl (pa_cons (pe_op op_addL (pe_lst (pa_cons (pe_fn H_word_at (hr.mono (by omega)) rfl (pa_cons (pv 9) (pa_cons (pv 11) pa_nil))) pa_nil)) (pv 10)) pa_nil)) (pa_cons (pv 8) (pa_cons (pv 12) pa_nil))))))))
        (pss_one (ps_ret pe_bl))
        pss_nil)
      (pss_one (ps_set (i := 10) sc_is_division.nd rfl (Or.inl rfl) (pe_ix ix_tup (pv 12) pe_int (fun _ _ => rfl)))))))
    (pss_cons (ps_comp0 (i := 13) sc_is_division.nd rfl (Or.inl rfl) rfl rfl (by first | rfl | with_unfolding_all rfl) (by decide +kernel) rfl (by decide +kernel) rfl (pi_rev rfl T.n_reversed (pa_cons (pv 5) pa_nil)) (fun C s2 H2 fp => (pe_ix (ix_tupK (K := K) rfl) (pv 0) pe_int (fun _ _ => rfl))))
    (pss_one (ps_ret (pe_and (pe_cmpR (op_eqLI (Nat.lt_of_succ_lt (hu_of hr))) (pv 3) (pe_fn H_trimmed (hr.mono (by omega)) rfl (pa_cons (pv 13) pa_nil)) (nomark _)) (pe_one (pe_cmpR (op_eqLI (Nat.lt_of_succ_lt (hu_of hr))) (pe_fn H_moved_left (hr.mono (by omega)) rfl (pa_cons (pv 0) (pa_cons (pv 4) (pa_cons (pv 7) pa_nil)))) (pv 10) (nomark _)))))))))))))))), ?_⟩
  obtain ⟨h1, h2, ha, hb, lx, ly⟩ := id L
  obtain ⟨⟨oq, lq, nq⟩, ⟨orr, lr, nr⟩, ol, rl⟩ := id TD
  have hB := p_pos i.toNat
  have pb := pw_bounds h1 h2
  have big : (1001 : Nat) ≤ sizeLine := by decide
  have no : ∀ H', Same H H' → ¬ DivT H i xs ys qv rv rows → Q (.bl false) H' := fun H' s z => q false H' s ⟨fun z => (nomatch z), fun r => absurd r z⟩
  refine ⟨_, rfl, _, rfl, _, rfl, i, a, b, xs, ys, rfl, L, yn, fun H1 s1 => ?_⟩
  obtain ⟨t0, t1, t2, t3⟩ := lt_turn h1 h2 ly.ln' yn
  have yl : 0 < ys.length := by
    cases ys with
    | nil => exact absurd rfl yn
    | cons u v => exact Nat.succ_pos _
  refine ⟨_, rfl, _, rfl, a, b, xs, ys, rfl, s1 _ _ ha, s1 _ _ hb, ?_⟩
  refine ⟨_, rfl, _, rfl, i, qv, oq, rfl, h1, h2, lq.same s1, fun H2 s2 => ⟨_, rfl, ?_⟩⟩
  have s12 := s1.trans s2
  have hasN : ∀ {v : V} {o : Option (List V)} {N : Int}, LV H v o → LgIs H i v N → hasO i o = true := by
    rintro v o N lv ⟨ra, rs, e1, e2, e3, _⟩
    subst e1
    cases lv with
    | lst h5 _ _ => rw [h5] at e2; cases e2; exact isL_of' e3
    | tup h5 => rw [h5] at e2; cases e2
    | dct h5 => rw [h5] at e2; cases e2
  have hasY : ∀ {v : V} {o : Option (List V)}, LV H v o → Short o → hasO i o = true → ∃ (ra : Addr) (rs : List Int), v = .ref ra ∧ H ra = some (.lst (rs.map V.int)) ∧ Ln i rs ∧ rs.length ≤ 100 := by
    rintro v o lv sh ho
    cases lv with
    | @lst ra xs h5 h6 h7 =>
      obtain ⟨rs, rfl, lr⟩ := isL_ln (show isL i xs = true from ho)
      have := sh _ rfl
      rw [List.length_map] at this
      exact ⟨ra, rs, rfl, h5, lr, this⟩
    | _ => cases ho
  cases ho : hasO i oq with
  | false => exact iteT (no H2 s12 fun d => by rw [hasN lq d.1] at ho; cases ho)
  | true =>
  refine iteF ?_
  refine ⟨_, rfl, _, rfl, i, rv, orr, rfl, h1, h2, lr.same s12, fun H3 s3 => ⟨_, rfl, ?_⟩⟩
  have s13 := s12.trans s3
  cases ho2 : hasO i orr with
  | false => exact iteT (no H3 s13 fun d => by rw [hasN lr d.2.1] at ho2; cases ho2)
  | true =>
  refine iteF ?_
  obtain ⟨qa, qs, rfl, hqa, lqs, lqn⟩ := hasY lq nq ho
  obtain ⟨ra, rs, rfl, hra, lrs, lrn⟩ := hasY lr nr ho2
  rcases rl with ⟨l, vs, rfl, hl, rfl, hvs⟩ | ⟨rfl, lv⟩
  rotate_left
  · rcases (lv.same s13).parts (K := K) with ⟨_, _, _, z, _⟩ | ⟨_, ty, ty1, ty2⟩
    · cases z
    · refine ⟨_, rfl, _, _, ty, _, _, rfl, rfl, ty1, ty2, _, rfl, iteT (no H3 s13 fun d => ?_)⟩
      obtain ⟨l, vs, e1, e2, _⟩ := d.2.2
      subst e1
      cases lv with
      | tup h5 => rw [h5] at e2; cases e2
      | dct h5 => rw [h5] at e2; cases e2
  refine ⟨_, rfl, _, _, _, _, _, rfl, rfl, TyOf.lst (s13 _ _ hl), rfl, _, rfl, iteF ?_⟩
  refine ⟨_, rfl, l, _, rfl, .inl (SqL.of (s13 _ _ hl)), _, rfl, rfl, _, rfl, ?_⟩
  by_cases hvl : vs.length = cntN xs ys
  rotate_left
  · refine iteN (fun z => hvl (by injection z with z; omega)) (no H3 s13 fun d => hvl ?_)
    obtain ⟨l', vs', e1, e2, e3, _⟩ := d.2.2
    cases e1
    rw [hl] at e2
    cases e2
    exact e3
  refine iteNS (congrArg V.int (by rw [hvl])) ?_
  refine ⟨_, rfl, _, rfl, i, b, ys, rfl, s13 _ _ hb, yn, ?_⟩
  have hT := p_pos (turnI i ys).toNat
  have eU0 : uW i xs ys = num (2 ^ i.toNat) xs * 2 ^ (turnI i ys).toNat := rfl
  have eL0 : lW i ys = num (2 ^ i.toNat) ys * 2 ^ (turnI i ys).toNat := rfl
  generalize ht : turnI i ys = tn at t0 t1 t2 t3 hT eU0 eL0 ⊢
  refine ⟨_, rfl, _, rfl, _, rfl, i, b, tn, ys, rfl, h1, h2, s13 _ _ hb, ly, t0, by omega, fun lo ls H4 hlo0 hlo ll el _ s4 => ?_⟩
  refine ⟨_, rfl, _, rfl, _, rfl, i, a, tn, xs, rfl, h1, h2, s4 _ _ (s13 _ _ ha), lx, t0, by omega, fun up us H5 hup0 hup lu eu lu200 s5 => ?_⟩
  rw [← eL0] at el
  rw [← eU0] at eu
  obtain ⟨n, hn⟩ : ∃ n, ys.length = n + 1 := ⟨ys.length - 1, by omega⟩
  have lwy : lastW ys = ys.getD n 0 := by show ys.getD (ys.length - 1) 0 = _; rw [hn]; rfl
  rw [lwy] at t2 t3
  obtain ⟨ll1, ll2⟩ := lower_ok (B := 2 ^ i.toNat) (by omega) (p_pos (i - 1).toNat) ly.wd ll.wd ll.la hn hT t2 t3 (by rw [el, eL0])
  have lwl : lastW ls = ls.getD n 0 := by show ls.getD (ls.length - 1) 0 = _; rw [ll1]; rfl
  have lsn : ls ≠ [] := fun z => by rw [z] at ll1; exact absurd ll1 (by simp)
  have D0 : 0 < num (2 ^ i.toNat) ls := num_pos hB ll.wd lsn ll.la
  have ah := ahead_lt (m := cntN xs ys) (B := 2 ^ i.toNat) (by omega) lx.wd ly.wd yn ly.la hT (by unfold cntN; omega)
  rw [← eU0, ← eL0, ← eu, ← el] at ah
  have cn : cntN xs ys ≤ 46 := by unfold cntN; omega
  have noR : ∀ H', Same H H' → (∃ (j : Nat) (u : V), vs[j]? = some u ∧ ¬ RowT i ((cntN xs ys : Int) - 1 - (j : Int)) (nJ (2 ^ i.toNat) (num (2 ^ i.toNat) us) (num (2 ^ i.toNat) ls) (cntN xs ys) j) (num (2 ^ i.toNat) ls) n H u) → Q (.bl false) H' := by
    rintro H' s' ⟨j, u, e1, e2⟩
    refine no H' s' fun d => e2 ?_
    obtain ⟨l', vs', f1, f2, _, f4⟩ := d.2.2
    cases f1
    rw [hl] at f2
    cases f2
    have := f4 j u e1
    rw [← eu, ← el, hn, Nat.add_sub_cancel] at this
    exact this
  have yes : ∀ (bb : Bool) H', Same H H' → (∀ (j : Nat) (u : V), vs[j]? = some u → RowT i ((cntN xs ys : Int) - 1 - (j : Int)) (nJ (2 ^ i.toNat) (num (2 ^ i.toNat) us) (num (2 ^ i.toNat) ls) (cntN xs ys) j) (num (2 ^ i.toNat) ls) n H u) → (bb = true ↔ nm i qs = nm i xs / nm i ys ∧ nm i rs = nm i xs % nm i ys) → Q (.bl bb) H' := by
    intro bb H' s' hR hbb
    refine q bb H' s' ⟨fun z => ?_, fun d => hbb.mpr ⟨?_, ?_⟩⟩
    · refine ⟨⟨qa, qs, rfl, hqa, lqs, (hbb.mp z).1⟩, ⟨ra, rs, rfl, hra, lrs, (hbb.mp z).2⟩, l, vs, rfl, hl, hvl, fun j u e => ?_⟩
      have := hR j u e
      rw [eu, el] at this
      rw [hn, Nat.add_sub_cancel]
      exact this
    · obtain ⟨a', ws, f1, f2, f3, f4⟩ := d.1
      cases f1
      rw [hqa] at f2
      have : qs = ws := ints_inj (by injection f2 with f2; injection f2)
      rw [this]
      exact f4
    · obtain ⟨a', ws, f1, f2, f3, f4⟩ := d.2.1
      cases f1
      rw [hra] at f2
      have : rs = ws := ints_inj (by injection f2 with f2; injection f2)
      rw [this]
      exact f4
  generalize hm : cntN xs ys = m at ah cn noR yes hvl ⊢
  have s15 := s13.trans (s4.trans s5)
  have hlo5 := s5 _ _ hlo
  have hml : (us.map V.int).length = us.length := List.length_map _
  have U0 := num_nonneg hB lu.wd
  refine ⟨_, rfl, _, rfl, _, rfl, up, _, rfl, SqL.of hup, fun r hr0 => ?_⟩
  have hcut : ∃ rs : List Int, cutV (us.map V.int) (some (m : Int)) none = rs.map V.int ∧ rs = us.drop m := by
    refine ⟨us.drop m, ?_, rfl⟩
    by_cases c : m ≤ us.length
    · exact cut_from us m c
    · rw [List.drop_of_length_le (by omega)]
      unfold cutV
      show ((us.map V.int).drop (if (m : Int) < 0 then ((m : Int) + ((us.map V.int).length : Int)).toNat else min (m : Int).toNat (us.map V.int).length)).take _ = []
      rw [if_neg (by omega), hml, Int.toNat_natCast, Nat.min_eq_right (by omega), List.drop_of_length_le (by rw [hml]; exact Nat.le_refl _)]
      exact List.take_nil
  obtain ⟨rs0, ecut, ers0⟩ := hcut
  rw [ecut]
  have s6 := same_new hr0 (.lst (rs0.map V.int))
  have h6r : (upd H5 r (.lst (rs0.map V.int))) r = some (.lst (rs0.map V.int)) := upd_same
  have h6up := s6 _ _ hup
  have h6lo := s6 _ _ hlo5
  have s16 := s15.trans s6
  generalize (upd H5 r (.lst (rs0.map V.int))) = H6 at s16 h6r h6up h6lo ⊢
  have l0 : Ln i rs0 := by rw [ers0]; exact ⟨wd_drop lu.wd m, drop_la lu.la m⟩
  have e0 : num (2 ^ i.toNat) us / (2 ^ i.toNat) ^ m = num (2 ^ i.toNat) rs0 := by rw [ers0]; exact num_drop_div hB lu.wd m
  have r00 : num (2 ^ i.toNat) rs0 = rJ (2 ^ i.toNat) (num (2 ^ i.toNat) us) (num (2 ^ i.toNat) ls) m 0 := by
    unfold rJ
    rw [Nat.sub_zero, e0]
    exact (Int.emod_eq_of_lt (num_nonneg hB l0.wd) (by rw [← e0]; exact ah)).symm
  have q00 : qJ (2 ^ i.toNat) (num (2 ^ i.toNat) us) (num (2 ^ i.toNat) ls) m 0 = 0 := by
    unfold qJ
    rw [Nat.sub_zero]
    exact Int.ediv_eq_zero_of_lt (by rw [e0]; exact num_nonneg hB l0.wd) ah
  have em : ((m : Int) - 1 + 1).toNat = m := by omega
  refine ⟨_, rfl, _, _, rfl, rfl, _, rfl, _, rfl, _, rfl, by omega, by omega, for_down (fun j σ H7 => ∃ (r7 : Addr) (rs7 : List Int) (y1 y2 y3 : Option V), σ = [some (.int i), some (.ref a), some (.ref b), some (.ref qa), some (.ref ra), some (.ref l), some (.int (m : Int)), some (.int tn), some (.ref lo), some (.ref up), some (.ref r7), y1, y2, y3] ∧ H7 r7 = some (.lst (rs7.map V.int)) ∧ Ln i rs7 ∧ num (2 ^ i.toNat) rs7 = rJ (2 ^ i.toNat) (num (2 ^ i.toNat) us) (num (2 ^ i.toNat) ls) m j ∧ (∀ (k : Nat) (u : V), k < j → vs[k]? = some u → RowT i ((m : Int) - 1 - (k : Int)) (nJ (2 ^ i.toNat) (num (2 ^ i.toNat) us) (num (2 ^ i.toNat) ls) m k) (num (2 ^ i.toNat) ls) n H u) ∧ Same H6 H7)
    ⟨r, rs0, _, _, _, rfl, h6r, l0, r00, (fun k u hk => absurd hk (Nat.not_lt_zero k)), Same.refl _⟩ ?_ ?_⟩
  · rintro j σ H7 hj ⟨r7, rs7, y1, y2, y3, rfl, hr7, lr7, er7, hrows, s7⟩
    rw [em] at hj
    have s17 := s16.trans s7
    have ej : ((m : Int) - 1 - (j : Int)).toNat = m - 1 - j := by omega
    have rg := rJ_range (B := 2 ^ i.toNat) (U := num (2 ^ i.toNat) us) (m := m) D0 j
    have rl : rs7.length ≤ n + 1 := by
      rw [← ll1]
      exact len_le (by omega) lr7.wd lr7.la (by rw [er7]; exact Int.lt_trans rg.2 (num_lt hB ll.wd))
    have wb := lu.wd.getD hB (m - 1 - j)
    have hu : vs[j]? = some (vs[j]'(by omega)) := List.getElem?_eq_getElem (by omega)
    generalize vs[j]'(by omega) = u at hu
    have hix : atI vs ((m : Int) - 1 - ((m : Int) - 1 - (j : Int))) = some u := by
      rw [show (m : Int) - 1 - ((m : Int) - 1 - (j : Int)) = ((j : Nat) : Int) by omega]
      exact atI_nat hu
    refine ⟨_, rfl, _, rfl, _, _, rfl, rfl, _, rfl, _, _, rfl, rfl, l, _, _, _, rfl, rfl, SqL.of (s17 _ _ hl), hix, ?_⟩
    have hup7 := s7 _ _ h6up
    have hlo7 := s7 _ _ h6lo
    refine ⟨_, rfl, _, rfl, _, rfl, _, rfl, up, us, _, us.getD (m - 1 - j) 0, rfl, hup7, by omega, by rw [ej], (by show 1 ≤ sizeLine; decide), fun z1 hz1 => ?_⟩
    have s8 := same_new hz1 (.lst [V.int (us.getD (m - 1 - j) 0)])
    refine ⟨_, rfl, z1, r7, _, _, rfl, rfl, SqL.of upd_same, SqL.of (s8 _ _ hr7), (by rw [List.length_map]; show 1 + rs7.length ≤ _; omega), fun z2 hz2 => ?_⟩
    have s9 := s8.trans (same_new hz2 (.lst ([V.int (us.getD (m - 1 - j) 0)] ++ rs7.map V.int)))
    refine ⟨z2, us.getD (m - 1 - j) 0 :: rs7, rfl, upd_same, (by show rs7.length + 1 ≤ 1000; omega), fun p k H8 hp0 hp hk ek lk s10 => ?_⟩
    have t8 := s9.trans s10
    have wz : Wds (2 ^ i.toNat) (us.getD (m - 1 - j) 0 :: rs7) := ⟨fun x hx => by
      rcases List.mem_cons.mp hx with rfl | hx
      · exact wb
      · exact lr7.wd.ok x hx⟩
    have ek' : num (2 ^ i.toNat) ((us.getD (m - 1 - j) 0 :: rs7).take k) = us.getD (m - 1 - j) 0 + 2 ^ i.toNat * num (2 ^ i.toNat) rs7 := ek _
    have wdk : Wds (2 ^ i.toNat) ((us.getD (m - 1 - j) 0 :: rs7).take k) := ⟨fun x hx => wz.ok x (List.mem_of_mem_take hx)⟩
    have lkl : ((us.getD (m - 1 - j) 0 :: rs7).take k).length ≤ rs7.length + 1 := by rw [List.length_take, List.length_cons]; omega
    generalize ((us.getD (m - 1 - j) 0 :: rs7).take k) = dv at hp ek' wdk lkl lk
    have ltv : num (2 ^ i.toNat) dv < 2 ^ i.toNat * num (2 ^ i.toNat) ls := by
      have : 2 ^ i.toNat * (num (2 ^ i.toNat) rs7 + 1) ≤ 2 ^ i.toNat * num (2 ^ i.toNat) ls := Int.mul_le_mul_of_nonneg_left (by omega) (by omega)
      rw [Int.mul_add, Int.mul_one] at this
      omega
    have enJ : num (2 ^ i.toNat) dv = nJ (2 ^ i.toNat) (num (2 ^ i.toNat) us) (num (2 ^ i.toNat) ls) m j := by
      unfold nJ
      rw [ek', ← er7, ← digit_at hB lu.wd, Int.mul_comm (2 ^ i.toNat), Int.add_comm]
    have s18 := s17.trans t8
    obtain ⟨o, rvu⟩ := hvs u (List.mem_of_getElem? hu)
    refine ⟨_, rfl, _, rfl, i, _, p, lo, dv, ls, n, u, o, rfl, h1, h2, hp, t8 _ _ hlo7, ⟨⟨wdk, lk⟩, ll, by omega, by omega, by omega, by rw [lwl]; exact ll2, ltv⟩, ll1, rvu.same s18, fun bb H9 s19 hbb => ⟨_, rfl, ?_⟩⟩
    rw [show nm i dv = num (2 ^ i.toNat) dv from rfl, enJ] at hbb
    cases bb with
    | false =>
      refine iteT (noR H9 (s18.trans s19) ⟨j, u, hu, fun r => nomatch hbb.mpr (r.same s18)⟩)
    | true =>
    refine iteF ?_
    have RT := (hbb.mp rfl).of s18 ⟨o, rvu⟩
    obtain ⟨rs9, ⟨t, r9, rfl, ht9, hr9⟩, lr9, er9⟩ := id RT
    have s1A := s18.trans s19
    refine ⟨_, rfl, t, _, _, _, rfl, rfl, SqT.of (s1A _ _ ht9), rfl, ?_⟩
    refine ⟨r9, rs9, _, _, _, rfl, s1A _ _ hr9, lr9, ?_, fun k u hk hku => ?_, s7.trans (t8.trans s19)⟩
    · have er9' : num (2 ^ i.toNat) rs9 = nJ (2 ^ i.toNat) (num (2 ^ i.toNat) us) (num (2 ^ i.toNat) ls) m j % num (2 ^ i.toNat) ls := er9
      rw [er9', (stepJ hB D0 (by omega)).1]
      have := Int.mul_ediv_add_emod (nJ (2 ^ i.toNat) (num (2 ^ i.toNat) us) (num (2 ^ i.toNat) ls) m j) (num (2 ^ i.toNat) ls)
      unfold dJ
      rw [Int.mul_comm] at this
      omega
    · by_cases c : k < j
      · exact hrows k u c hku
      · have : k = j := by omega
        subst this
        rw [hu] at hku
        cases hku
        exact RT
  rintro σ H7 ⟨r7, rs7, y1, y2, y3, rfl, hr7, lr7, er7, hrows, s7⟩
  rw [em] at er7 hrows
  have s17 := s16.trans s7
  have allR : ∀ (j : Nat) (u : V), vs[j]? = some u → RowT i ((m : Int) - 1 - (j : Int)) (nJ (2 ^ i.toNat) (num (2 ^ i.toNat) us) (num (2 ^ i.toNat) ls) m j) (num (2 ^ i.toNat) ls) n H u := fun j u e => hrows j u (by have := (List.getElem?_eq_some_iff.mp e).1; omega) e
  refine ⟨_, rfl, l, vs, rfl, SqL.of (s17 _ _ hl), fun D hD => ?_⟩
  refine comp_rev (xs := vs) (fun k HJ => HJ D = some (.lst (((dgs (2 ^ i.toNat) (num (2 ^ i.toNat) us) (num (2 ^ i.toNat) ls) m m).take k).map V.int)) ∧ Same H7 HJ) ⟨upd_same, same_new hD _⟩ ?_ ?_ ?_
  · rintro k HJ _ ⟨_, sJ⟩
    exact SqL.of (sJ _ _ (s17 _ _ hl))
  · rintro k u HJ hk hu ⟨hy, sJ⟩
    obtain ⟨rs9, ⟨t, r9, rfl, ht9, hr9⟩, lr9, er9⟩ := allR _ u hu
    refine ⟨_, rfl, t, _, _, _, rfl, rfl, SqT.of (sJ _ _ (s17 _ _ ht9)), rfl, _, hy, ?_, vs.length - (k + 1), by omega, rfl, by omega, ?_, ?_⟩
    · rw [List.length_map, List.length_take, dgs_len]
      omega
    · rw [upd_same, ← dgs_take (by omega)]
      rw [hvl]
      rfl
    · intro z o h
      rw [upd_ne (ne_of_none h hD)]
      exact sJ _ _ h
  rintro H8 ⟨hy, s8⟩
  rw [hvl, List.take_of_length_le (by rw [dgs_len]; exact Nat.le_refl _)] at hy
  have s18 := s17.trans s8
  refine ⟨_, rfl, _, rfl, D, _, rfl, hy, by rw [dgs_len]; omega, fun p k H9 hp0 hp hk ek lk s9 => ?_⟩
  have wdk : Wds (2 ^ i.toNat) ((dgs (2 ^ i.toNat) (num (2 ^ i.toNat) us) (num (2 ^ i.toNat) ls) m m).take k) := ⟨fun x hx => (dgs_wd hB D0 m).ok x (List.mem_of_mem_take hx)⟩
  have ek' := ek (2 ^ i.toNat)
  rw [dgs_num hB D0 q00 m (Nat.le_refl m)] at ek'
  have jq : qJ (2 ^ i.toNat) (num (2 ^ i.toNat) us) (num (2 ^ i.toNat) ls) m m = nm i xs / nm i ys := by
    unfold qJ
    rw [Nat.sub_self, Int.pow_zero, Int.ediv_one, eu, el, eU0, eL0, Int.mul_ediv_mul_of_pos_left _ _ hT]
  have jr : rJ (2 ^ i.toNat) (num (2 ^ i.toNat) us) (num (2 ^ i.toNat) ls) m m = nm i xs % nm i ys * 2 ^ tn.toNat := by
    unfold rJ
    rw [Nat.sub_self, Int.pow_zero, Int.ediv_one, eu, el, eU0, eL0, Int.mul_comm, Int.mul_comm (num (2 ^ i.toNat) ys), Int.mul_emod_mul_of_pos _ _ hT, Int.mul_comm]
  have s19 := s18.trans s9
  refine ⟨qa, p, qs, _, rfl, rfl, SqL.of (s19 _ _ hqa), SqL.of hp, _, rfl, ?_⟩
  have qiff : qs = (dgs (2 ^ i.toNat) (num (2 ^ i.toNat) us) (num (2 ^ i.toNat) ls) m m).take k ↔ nm i qs = nm i xs / nm i ys := by
    constructor
    · intro z
      rw [z]
      exact ek'.trans jq
    · intro z
      exact Ln.eq lqs ⟨wdk, lk⟩ (by rw [ek', jq]; exact z)
  by_cases cq : qs = (dgs (2 ^ i.toNat) (num (2 ^ i.toNat) us) (num (2 ^ i.toNat) ls) m m).take k
  rotate_left
  · refine iteDN cq (yes false H9 s19 allR ⟨fun z => (nomatch z), fun z => absurd (qiff.mpr z.1) cq⟩)
  refine iteD cq ?_
  refine ⟨_, rfl, _, rfl, _, rfl, i, ra, tn, rs, rfl, h1, h2, s19 _ _ hra, ⟨lrs.wd, lrs.la, lrn⟩, t0, by omega, fun pr zs HA hpr0 hpr lz ez lez sA => ?_⟩
  refine ⟨_, rfl, pr, r7, zs, rs7, rfl, rfl, SqL.of hpr, SqL.of (sA _ _ (s9 _ _ (s8 _ _ hr7))), ?_⟩
  refine yes _ HA (s19.trans sA) allR ⟨fun z => ⟨qiff.mp cq, ?_⟩, fun z => ?_⟩
  · have z : zs = rs7 := of_decide_eq_true z
    have : num (2 ^ i.toNat) rs * 2 ^ tn.toNat = nm i xs % nm i ys * 2 ^ tn.toNat := by rw [← ez, z, er7, jr]
    exact Int.eq_of_mul_eq_mul_right (by omega) this
  · refine decide_eq_true (Ln.eq lz lr7 ?_)
    rw [ez, er7, jr]
    show nm i rs * 2 ^ tn.toNat = _
    rw [z.2]
theorem log_lt {w x : Int} {k : Nat} (h1 : 4 ≤ w) (h2 : w ≤ 32) (x0 : 0 < x) (hx : x < (2 ^ w.toNat) ^ k) (hk : k ≤ 200) : x.natAbs.log2 < 9000 := by
  have h : x.natAbs ≠ 0 := by omega
  have e : ((2 : Int) ^ w.toNat) ^ k = 2 ^ (w.toNat * k) := (Int.pow_mul ..).symm
  rw [e] at hx
  have b : x.natAbs < 2 ^ (w.toNat * k) := by
    have c : ((2 ^ (w.toNat * k) : Nat) : Int) = (2 : Int) ^ (w.toNat * k) := Int.natCast_pow 2 _
    omega
  have l := (Nat.log2_lt h).mpr b
  have : w.toNat * k ≤ 32 * 200 := Nat.mul_le_mul (by omega) hk
  omega
def hid (H : Hp) (a : Addr) : Hp := upd H a (.own 0)
theorem hid_upd {H : Hp} {a : Addr} {o : HO} : hid (upd H a o) a = hid H a := by
  funext b
  unfold hid
  by_cases c : b = a
  · rw [c, upd_same, upd_same]
  · rw [upd_ne c, upd_ne c, upd_ne c]
theorem same_hid {H H' : Hp} {a : Addr} (s : Same H H') : Same (hid H a) (hid H' a) := fun b o h => by
  unfold Ow.hid at h ⊢
  by_cases c : b = a
  · rw [c, upd_same] at h ⊢; exact h
  · rw [upd_ne c] at h ⊢; exact s b o h
theorem hid_at {H : Hp} {a b : Addr} {xs : List V} (h : hid H a b = some (.tup xs) ∨ hid H a b = some (.lst xs)) : b ≠ a := fun z => by
  rw [z] at h
  unfold hid at h
  rw [upd_same] at h
  rcases h with h | h <;> cases h
theorem RowIs.unhid {H : Hp} {a : Addr} {v : V} {p g b d : Int} {rs : List Int} (r : RowIs (hid H a) v p g b d rs) : RowIs H v p g b d rs := by
  obtain ⟨t, r', e, h1, h2⟩ := r
  have n1 := hid_at (.inl h1)
  have n2 := hid_at (.inr h2)
  unfold hid at h1 h2
  rw [upd_ne n1] at h1
  rw [upd_ne n2] at h2
  exact ⟨t, r', e, h1, h2⟩
theorem RowT.unhid {H : Hp} {a : Addr} {w pl D L : Int} {n : Nat} {v : V} (r : RowT w pl D L n (hid H a) v) : RowT w pl D L n H v := by
  obtain ⟨rs, x, y⟩ := r
  exact ⟨rs, x.unhid, y⟩
theorem RowIs.nums {H : Hp} {v : V} {p g b d p' g' b' d' : Int} {rs rs' : List Int} (x : RowIs H v p g b d rs) (y : RowIs H v p' g' b' d' rs') : p = p' ∧ g = g' ∧ b = b' ∧ d = d' ∧ rs = rs' := by
  obtain ⟨t, r, rfl, h1, h2⟩ := x
  obtain ⟨t', r', e, h3, h4⟩ := y
  cases e
  rw [h1] at h3
  cases h3
  rw [h2] at h4
  exact ⟨rfl, rfl, rfl, rfl, ints_inj (by injection h4 with h4; injection h4)⟩
theorem other_rest {R L c : Int} (R0 : 0 ≤ R) (R1 : R < L) (c0 : 1 ≤ c) (c1 : c < L) : (R + c) % L ≠ R := by
  intro z
  by_cases h : R + c < L
  · rw [Int.emod_eq_of_lt (by omega) h] at z
    omega
  · have e : (R + c) % L = R + c - L := by
      rw [← Int.sub_emod_right, Int.emod_eq_of_lt (by omega) (by omega)]
    rw [e] at z
    omega
theorem ok__law_made {f : Addr} {fd : FuncData} (F : Fun K "_law_made" "_law_made" s__law_made f fd) (T : Txt K mg) (H__law_number : Has P w K mg base 1 "_law_number" ["_law_words_here", "_law_width"] spLNum) (H__law_words : Has P w K mg base 1 "_law_words" ["_law_number_here", "_law_width"] spLW) : FnOk P w K mg base CX0 2 f fd ["_law_width", "_law_top", "_law_bottom", "_law_at", "_law_more"] spMadeR := by
  refine F.ok sc__law_made (fun vs H Q E h => ?_) (fun cdv A outer s H vs Q E hr h => ?_)
  · obtain ⟨w, a, b, xs, ys, at', more, rfl, _⟩ := h
    rfl
  obtain ⟨w, a, b, xs, ys, at', more, rfl, L, lx45, ly45, yn, q⟩ := h
  refine ⟨_, (pss_cons (ps_set (i := 5) sc__law_made.nd rfl (Or.inl rfl) pe_int)
    (pss_cons (ps_while PassesOwn.never (pt_cmpR op_lt (pe_op op_shl (pe_ix ix_list (pv 2) (pe_un un_neg pe_int) (fun _ _ => rfl)) (pv 5)) (pe_op op_shl pe_int (pe_op op_sub (pv 0) pe_int)) (nomark _))
      (pss_one (ps_aug (i := 5) sc__law_made.nd rfl (Or.inl rfl) pe_int ip_add)))
    (pss_cons (ps_set (i := 6) sc__law_made.nd rfl (Or.inl rfl) (pe_op op_shlB (pe_fn H__law_number (hr.mono (by omega)) rfl (pa_cons (pv 1) (pa_cons (pv 0) pa_nil))) (pv 5)))
    (pss_cons (ps_set (i := 7) sc__law_made.nd rfl (Or.inl rfl) (pe_op op_shlB (pe_fn H__law_number (hr.mono (by omega)) rfl (pa_cons (pv 2) (pa_cons (pv 0) pa_nil))) (pv 5)))
    (pss_cons (ps_set (i := 8) sc__law_made.nd rfl (Or.inl rfl) (pe_callB call_len_seq rfl T.n_len boot_len (pa_cons (pv 2) pa_nil)))
    (pss_cons (ps_set (i := 9) sc__law_made.nd rfl (Or.inl rfl) (pe_callB (call_max2 rfl) rfl T.n_max boot_max (pa_cons pe_int (pa_cons (pe_op op_add (pe_op op_sub (pe_callB call_len_seq rfl T.n_len boot_len (pa_cons (pv 1) pa_nil)) (pv 8)) pe_int) pa_nil))))
    (pss_cons (ps_set (i := 10) sc__law_made.nd rfl (Or.inl rfl) (pe_op op_shr (pv 6) (pe_op op_mul (pv 0) (pv 9))))
    (pss_cons (ps_set (i := 11) sc__law_made.nd rfl (Or.inl rfl) (pe_lst pa_nil))
    (pss_cons (ps_set (i := 12) sc__law_made.nd rfl (Or.inl rfl) pe_int)
    (pss_cons (ps_for PassesOwn.never rfl (pi_range1 rfl T.n_range (pa_cons (pv 9) pa_nil)) (pg_name (i := 13) sc__law_made.nd rfl (Or.inl rfl))
      (pss_cons (ps_set (i := 14) sc__law_made.nd rfl (Or.inl rfl) (pe_op op_sub (pe_op op_sub (pv 9) pe_int) (pv 13)))
      (pss_cons (ps_set (i := 10) sc__law_made.nd rfl (Or.inl rfl) (pe_op op_or (pe_op op_shlB (pv 10) (pv 0)) (pe_op op_and (pe_op op_shr (pv 6) (pe_op op_mul (pv 0) (pv 14))) (pe_op op_sub (pe_op op_shl pe_int (pv 0)) pe_int))))
      (pss_cons (ps_set (i := 15) sc__law_made.nd rfl (Or.inl rfl) (pe_callB (call_max2 rfl) rfl T.n_max boot_max (pa_cons pe_int (pa_cons (pe_op op_shr (pv 7) (pe_op op_mul (pv 0) (pe_op op_sub (pv 8) pe_int))) pa_nil))))
      (pss_cons (ps_set (i := 16) sc__law_made.nd rfl (Or.inl rfl) (pe_callB (call_min2 rfl) rfl T.n_min boot_min (pa_cons (pe_op op_sub (pe_op op_shl pe_int (pv 0)) pe_int) (pa_cons (pe_op op_fdivB (pe_op op_shr (pv 10) (pe_op op_mul (pv 0) (pe_op op_sub (pv 8) pe_int))) (pv 15)) pa_nil))))
      (pss_cons (ps_set (i := 17) sc__law_made.nd rfl (Or.inl rfl) (pe_op op_fdivB (pv 10) (pe_callB (call_max2 rfl) rfl T.n_max boot_max (pa_cons pe_int (pa_cons (pv 7) pa_nil)))))
      (pss_cons (ps_aug (i := 10) sc__law_made.nd rfl (Or.inl rfl) (pe_op op_mul (pv 17) (pv 7)) ip_sub)
      (pss_join (ps_if (pt_cmpR op_eq (pv 13) (pv 3) (nomark _))
        (pss_one (ps_set (i := 10) sc__law_made.nd rfl (Or.inl rfl) (pe_op op_mod (pe_op op_add (pe_op op_add (pv 10) pe_int) (pe_op op_mod (pv 4) (pe_callB (call_max2 rfl) rfl T.n_max boot_max (pa_cons pe_int (pa_cons (pe_op op_sub (pv 7) pe_int) pa_nil))))) (pe_callB (call_max2 rfl) rfl T.n_max boot_max (pa_cons pe_int (pa_cons (pv 7) pa_nil))))))
        pss_nil)
      (pss_cons (ps_set (i := 12) sc__law_made.nd rfl (Or.inl rfl) (pe_op op_or (pe_op op_shlB (pv 12) (pv 0)) (pv 17)))
      (pss_one (ps_expr (pe_bm PySem.F.plainAttrs_list PySem.F.slot_list_append PySem.F.type_list_append mt_append (pv 11) (pa_cons (pe_tup (pa_cons (pv 14) (pa_cons (pv 16) (pa_cons (pe_op op_sub (pv 16) (pv 17)) (pa_cons (pv 17) (pa_cons (pe_fn H__law_words (hr.mono (by omega)) rfl (pa_cons (pv 10) (pa_cons (pv 0) pa_nil))) pa_nil)))))) pa_nil)))))))))))))
    (pss_one (ps_ret (pe_tup (pa_cons (pe_fn H__law_words (hr.mono (by omega)) rfl (pa_cons (pv 12) (pa_cons (pv 0) pa_nil))) (pa_cons (pe_fn H__law_words (hr.mono (by omega)) rfl (pa_cons (pe_op op_shr (pv 10) (pv 5)) (pa_cons (pv 0) pa_nil))) (pa_cons (pv 11) (pa_cons (pv 5) (pa_cons (pv 7) pa_nil)))))))))))))))))), ?_⟩
  obtain ⟨h1, h2, ha, hb, lx, ly⟩ := id L
  have hB := p_pos w.toNat
  have pb := pw_bounds h1 h2
  have eB : (1 : Int) * 2 ^ w.toNat = 2 ^ w.toNat := Int.one_mul _
  have yl : 0 < ys.length := by
    cases ys with
    | nil => exact absurd rfl yn
    | cons u v => exact Nat.succ_pos _
  obtain ⟨t0, t1, t2, t3⟩ := lt_turn h1 h2 ly.ln' yn
  have lwb := ly.wd.getD hB (ys.length - 1)
  have lw1 : 0 ≤ lastW ys := lwb.1
  have lw2 : lastW ys < 2 ^ w.toNat := lwb.2
  rw [show (w - 1).toNat = w.toNat - 1 by omega] at t2
  have eU : uW w xs ys = num (2 ^ w.toNat) xs * 2 ^ (turnI w ys).toNat := rfl
  have eL : lW w ys = num (2 ^ w.toNat) ys * 2 ^ (turnI w ys).toNat := rfl
  have hT := p_pos (turnI w ys).toNat
  have Y0 : 0 < num (2 ^ w.toNat) ys := num_pos hB ly.wd yn ly.la
  have X0 := num_nonneg hB lx.wd
  have bU := bits_mul h1 h2 lx.wd lx.ln t0 t1 (ys := ys)
  have bL := bits_mul h1 h2 ly.wd ly.ln t0 t1 (ys := ys)
  rw [← eU] at bU
  rw [← eL] at bL
  have L0 : 0 < lW w ys := by rw [eL]; exact Int.mul_pos Y0 hT
  have ah := ahead_lt (m := cntN xs ys) (B := 2 ^ w.toNat) (by omega) lx.wd ly.wd yn ly.la hT (by unfold cntN; omega)
  rw [← eU, ← eL] at ah
  obtain ⟨n, hn⟩ : ∃ n, ys.length = n + 1 := ⟨ys.length - 1, by omega⟩
  have lwn : lastW ys = ys.getD n 0 := by show ys.getD (ys.length - 1) 0 = _; rw [hn]; rfl
  have top : ∃ v : Int, 0 < v ∧ (2 : Int) ^ w.toNat ≤ 2 * v ∧ v < 2 ^ w.toNat ∧ v * (2 ^ w.toNat) ^ n ≤ lW w ys ∧ lW w ys < (v + 1) * (2 ^ w.toNat) ^ n := by
    have lb : lW w ys < (2 ^ w.toNat) ^ 101 := bL.2
    obtain ⟨ls, ll, el, _⟩ := ex_words h1 h2 (Int.le_of_lt L0) lb
    have lk := lower_ok (B := 2 ^ w.toNat) (Hf := 2 ^ (w.toNat - 1)) (by omega) (p_pos' _) ly.wd ll.wd ll.la hn hT (by rw [← lwn]; exact t2) (by rw [← lwn]; exact t3) (by rw [el, eL])
    have tl := top_le hB ll.wd lk.1
    have g := ll.wd.getD hB n
    have e : (2 : Int) ^ w.toNat = 2 ^ (w.toNat - 1) * 2 := by rw [← Int.pow_succ]; congr 1; omega
    have pp := p_pos' (w.toNat - 1)
    rw [el] at tl
    exact ⟨ls.getD n 0, by omega, by omega, g.2, tl.1, tl.2⟩
  obtain ⟨v, v0, v1, v2, v3, v4⟩ := top
  have pN : (0 : Int) < (2 ^ w.toNat) ^ n := Int.pow_pos hB
  have evL := ediv_is pN v3 v4
  have t4 : turnI w ys ≤ 32 := by omega
  refine while_by (fun σ H3 => ∃ k : Int, σ = [some (.int w), some (.ref a), some (.ref b), some (.int at'), some (.int more), some (.int k), none, none, none, none, none, none, none, none, none, none, none, none] ∧ 0 ≤ k ∧ k ≤ turnI w ys ∧ H3 = H) (fun σ _ => match σ with | [_, _, _, _, _, some (.int k), _, _, _, _, _, _, _, _, _, _, _, _] => (turnI w ys - k).toNat | _ => 0) ⟨0, rfl, Int.le_refl _, t0, rfl⟩ ?_ ?_
  rotate_left
  · rintro σ H3 Q1 Q2 hQ ⟨a1, b1, a2, b2, a3, b3, a4, b4, a5, b5, a6, b6, a7, b7, a8, b8, a9, b9, a10, b10, a11, b11, a12, b12, a13, b13, a14, b14, a15, b15, a16, b16, a17, b17, a18, b18, a19⟩
    exact ⟨a1, b1, a2, b2, a3, b3, a4, b4, a5, b5, a6, b6, a7, b7, a8, b8, a9, b9, a10, b10, a11, b11, a12, b12, a13, b13, a14, b14, a15, b15, a16, b16, a17, b17, a18, b18, hQ _ _ a19⟩
  rintro σ H3 ⟨k, rfl, k0, k1, rfl⟩
  have iff := turnUp (w := w.toNat) (by omega) k0 lw1 t2 t3 k1
  refine ⟨_, rfl, _, rfl, b, _, _, _, rfl, rfl, SqL.of hb, at_last (lastW_at yl), _, rfl, _, _, rfl, rfl, ⟨k0, by omega, by omega⟩, _, rfl, _, _, rfl, rfl, _, _, rfl, rfl, cpow1 (by omega) (by omega), _, _, rfl, rfl, _, rfl, ?_⟩
  have e5 : (1 : Int) * 2 ^ (w - 1).toNat = 2 ^ (w.toNat - 1) := by rw [Int.one_mul, show (w - 1).toNat = w.toNat - 1 by omega]
  rw [e5]
  by_cases ck : k < turnI w ys
  · refine iteD (iff.mpr ck) ?_
    refine ⟨_, rfl, _, _, rfl, rfl, ⟨k + 1, rfl, by omega, by omega, rfl⟩, ?_⟩
    show (turnI w ys - (k + 1)).toNat < (turnI w ys - k).toNat
    omega
  refine iteDN (fun z => ck (iff.mp z)) ?_
  have ek : k = turnI w ys := by omega
  subst ek
  clear iff k0 k1 ck
  have bx := bits_num h1 h2 lx.wd (by have := lx.ln; omega)
  have bY := bits_num h1 h2 ly.wd (by have := ly.ln; omega)
  refine ⟨_, rfl, _, rfl, a, xs, w, rfl, h1, h2, ha, lx.wd, lx.ln, fun H4 s4 => ⟨_, rfl, _, _, rfl, rfl, ⟨t0, by omega, Nat.le_trans bx (by decide)⟩, ?_⟩⟩
  refine ⟨_, rfl, _, rfl, b, ys, w, rfl, h1, h2, s4 _ _ hb, ly.wd, ly.ln, fun H5 s5 => ⟨_, rfl, _, _, rfl, rfl, ⟨t0, by omega, Nat.le_trans bY (by decide)⟩, ?_⟩⟩
  have r5 := s4.trans s5
  refine ⟨_, rfl, b, _, rfl, .inl (SqL.of (r5 _ _ hb)), ?_⟩
  refine ⟨_, rfl, a, _, rfl, .inl (SqL.of (r5 _ _ ha)), _, rfl, _, _, rfl, rfl, _, _, rfl, rfl, _, _, rfl, ?_⟩
  have em : (if (((xs.map V.int).length : Nat) : Int) - (((ys.map V.int).length : Nat) : Int) + 1 > 0 then (((xs.map V.int).length : Nat) : Int) - (((ys.map V.int).length : Nat) : Int) + 1 else 0) = ((cntN xs ys : Nat) : Int) := by
    unfold cntN
    rw [List.length_map, List.length_map]
    split <;> omega
  rw [em]
  have cn : cntN xs ys ≤ 46 := by unfold cntN; omega
  have hyl : (ys.map V.int).length = ys.length := List.length_map _
  rw [show (((ys.map V.int).length : Nat) : Int) = ((n + 1 : Nat) : Int) by rw [hyl, hn]]
  have q' : ∀ (t : Addr) (qs rs : List Int) (us : List V) H', Same H3 H' → Made H' w xs ys t qs rs us → (at' = -1 → Hon H' w xs ys t qs rs us) → (∀ j : Nat, at' = (j : Int) → j < cntN xs ys → ∃ u, us[j]? = some u ∧ ¬ RowT w ((cntN xs ys : Int) - 1 - (j : Int)) (nJ (2 ^ w.toNat) (uW w xs ys) (lW w ys) (cntN xs ys) j) (lW w ys) n H' u) → Q (.ref t) H' := by
    intro t qs rs us H' s' m1 m2 m3
    refine q t qs rs us H' s' m1 m2 ?_
    rw [hn, Nat.add_sub_cancel]
    exact m3
  have honR : ∀ (t : Addr) (qs rs : List Int) (us : List V) H', Made H' w xs ys t qs rs us → nm w qs = nm w xs / nm w ys → nm w rs = nm w xs % nm w ys → (∀ (j : Nat) (u : V), us[j]? = some u → RowT w ((cntN xs ys : Int) - 1 - (j : Int)) (nJ (2 ^ w.toNat) (uW w xs ys) (lW w ys) (cntN xs ys) j) (lW w ys) n H' u) → Hon H' w xs ys t qs rs us := by
    intro t qs rs us H' m1 m2 m3 m4
    refine ⟨m1, m2, m3, fun j u e => ?_⟩
    rw [hn, Nat.add_sub_cancel]
    exact m4 j u e
  have madeR : ∀ (t q1 r1 l1 : Addr) (qs rs : List Int) (us : List V) H', H' t = some (.tup [.ref q1, .ref r1, .ref l1, .int (turnI w ys), .int (lW w ys)]) → H' q1 = some (.lst (qs.map V.int)) → H' r1 = some (.lst (rs.map V.int)) → H' l1 = some (.lst us) → Ln w qs → Ln w rs → qs.length ≤ 98 → rs.length ≤ 98 → us.length = cntN xs ys → (∀ (j : Nat) (u : V), us[j]? = some u → ∃ (p g b d : Int) (zs : List Int), RowIs H' u p g b d zs ∧ Ln w zs ∧ zs.length ≤ 60) → Made H' w xs ys t qs rs us := fun t q1 r1 l1 qs rs us H' e1 e2 e3 e4 e5 e6 e7 e8 e9 e10 => ⟨⟨q1, r1, l1, e1, e2, e3, e4⟩, e5, e6, e7, e8, e9, e10⟩
  have eUL : uW w xs ys / lW w ys = nm w xs / nm w ys := by rw [eU, eL, Int.mul_ediv_mul_of_pos_left _ _ hT]
  have eUM : uW w xs ys % lW w ys / 2 ^ (turnI w ys).toNat = nm w xs % nm w ys := by
    rw [eU, eL, Int.mul_comm, Int.mul_comm (num (2 ^ w.toNat) ys), Int.mul_emod_mul_of_pos _ _ hT, Int.mul_comm]
    exact Int.mul_ediv_cancel _ (by omega)
  generalize hm : cntN xs ys = m at cn ah q' honR madeR ⊢
  have cmw : ∀ x : Int, CMul w x := fun x => .inl ⟨by omega, by omega⟩
  have wm : 0 ≤ w * (m : Int) := Int.mul_nonneg (by omega) (by omega)
  refine ⟨_, rfl, _, rfl, _, rfl, _, _, rfl, rfl, cmw _, _, _, rfl, rfl, wm, ?_⟩
  have B101 : ∀ x : Int, 0 ≤ x → x < (lW w ys) → intBits x ≤ 6400 := fun x x0 x1 => bits_lt h1 h2 x0 (Int.lt_trans x1 bL.2) (by decide)
  have U0 : 0 ≤ (uW w xs ys) := bU.1
  have z0 : (uW w xs ys) / 2 ^ (w * (m : Int)).toNat = rJ (2 ^ w.toNat) (uW w xs ys) (lW w ys) m 0 := by
    rw [pow_at (by omega) m]
    show _ = (uW w xs ys) / _ ^ (m - 0) % (lW w ys)
    rw [Nat.sub_zero]
    exact (Int.emod_eq_of_lt (Int.ediv_nonneg U0 (Int.le_of_lt (Int.pow_pos hB))) ah).symm
  have q0 : (0 : Int) = qJ (2 ^ w.toNat) (uW w xs ys) (lW w ys) m 0 := by
    show _ = (uW w xs ys) / _ ^ (m - 0) / (lW w ys)
    rw [Nat.sub_zero]
    exact (Int.ediv_eq_zero_of_lt (Int.ediv_nonneg U0 (Int.le_of_lt (Int.pow_pos hB))) ah).symm
  have qb : ∀ j, 0 ≤ qJ (2 ^ w.toNat) (uW w xs ys) (lW w ys) m j ∧ intBits (qJ (2 ^ w.toNat) (uW w xs ys) (lW w ys) m j) ≤ 6400 := fun j => by
    have g0 : 0 ≤ (uW w xs ys) / (2 ^ w.toNat) ^ (m - j) := Int.ediv_nonneg U0 (Int.le_of_lt (Int.pow_pos hB))
    have g1 : (uW w xs ys) / (2 ^ w.toNat) ^ (m - j) ≤ (uW w xs ys) := Int.ediv_le_self _ U0
    have g2 : (uW w xs ys) / (2 ^ w.toNat) ^ (m - j) / (lW w ys) ≤ (uW w xs ys) / (2 ^ w.toNat) ^ (m - j) := Int.ediv_le_self _ g0
    have g3 : 0 ≤ (uW w xs ys) / (2 ^ w.toNat) ^ (m - j) / (lW w ys) := Int.ediv_nonneg g0 (by omega)
    exact ⟨g3, bits_lt h1 h2 g3 (Int.lt_of_le_of_lt (Int.le_trans g2 g1) bU.2) (by decide)⟩
  have L8 : 8 ≤ lW w ys := by
    have p1 : (1 : Int) ≤ (2 ^ w.toNat) ^ n := pN
    have : v * 1 ≤ v * (2 ^ w.toNat) ^ n := Int.mul_le_mul_of_nonneg_left p1 (by omega)
    have vv : v * (2 ^ w.toNat) ^ n ≤ lW w ys := v3
    have v8 : 8 ≤ v := by omega
    have : v * 1 = v := Int.mul_one v
    omega
  have Ln1 : lW w ys < (2 ^ w.toNat) ^ (n + 1) := by
    rw [Int.pow_succ, Int.mul_comm]
    exact Int.lt_of_lt_of_le v4 (Int.mul_le_mul_of_nonneg_right (by omega) (by omega))
  have eL1 : (if lW w ys > 1 then lW w ys else 1) = lW w ys := if_pos (by omega)
  have eL2 : (if lW w ys - 1 > 1 then lW w ys - 1 else 1) = lW w ys - 1 := if_pos (by omega)
  refine ⟨(by show 0 ≤ sizeLine; decide), fun rw' hrw => ?_⟩
  have srw := same_new hrw (.lst [])
  have hrw0 : H3 rw' = none := r5.free hrw
  have frw : (upd H5 rw' (.lst [])) rw' = some (.lst []) := upd_same
  have r6 : Same H3 (upd H5 rw' (.lst [])) := r5.trans srw
  refine ⟨_, rfl, _, rfl, by omega, by omega, for_range (fun j σ H7 => ∃ (N Qn : Int) (vs : List V) (y1 y2 y3 y4 y5 : Option V), σ = [some (.int w), some (.ref a), some (.ref b), some (.int at'), some (.int more), some (.int (turnI w ys)), some (.int (uW w xs ys)), some (.int (lW w ys)), some (.int ((n + 1 : Nat) : Int)), some (.int (m : Int)), some (.int N), some (.ref rw'), some (.int Qn), y1, y2, y3, y4, y5] ∧ 0 ≤ N ∧ N < lW w ys ∧ 0 ≤ Qn ∧ Qn < (2 ^ w.toNat) ^ j ∧ H7 rw' = some (.lst vs) ∧ vs.length = j ∧ (∀ (k : Nat) (u : V), vs[k]? = some u → ∃ (p g b d : Int) (zs : List Int), RowIs (hid H7 rw') u p g b d zs ∧ Ln w zs ∧ zs.length ≤ 60 ∧ (at' = (k : Int) → num (2 ^ w.toNat) zs ≠ nJ (2 ^ w.toNat) (uW w xs ys) (lW w ys) m k % lW w ys)) ∧ ((at' = -1 ∨ (j : Int) ≤ at') → N = rJ (2 ^ w.toNat) (uW w xs ys) (lW w ys) m j ∧ Qn = qJ (2 ^ w.toNat) (uW w xs ys) (lW w ys) m j ∧ ∀ (k : Nat) (u : V), vs[k]? = some u → RowT w ((m : Int) - 1 - (k : Int)) (nJ (2 ^ w.toNat) (uW w xs ys) (lW w ys) m k) (lW w ys) n (hid H7 rw') u) ∧ Same H3 H7)
    ⟨_, 0, [], _, _, _, _, _, rfl, ?_, ?_, Int.le_refl 0, (by show (0 : Int) < _ ^ 0; rw [Int.pow_zero]; decide), frw, rfl, (fun k u e => by cases e), (fun _ => ⟨z0, q0, fun k u e => by cases e⟩), r6⟩ ?_ ?_⟩
  · show 0 ≤ uW w xs ys / 2 ^ (w * (m : Int)).toNat
    rw [z0]; exact (rJ_range L0 0).1
  · show uW w xs ys / 2 ^ (w * (m : Int)).toNat < _
    rw [z0]; exact (rJ_range L0 0).2
  · rintro j σ H7 hj ⟨N, Qn, vs, y1, y2, y3, y4, y5, rfl, N0, N1, Q0, Q1, hrw7, hvl, hok, hhon, s7⟩
    have hj2 : j < m := by omega
    have pl : (m : Int) - 1 - (0 + (j : Int)) = ((m - 1 - j : Nat) : Int) := by omega
    have wp : 0 ≤ w * ((m : Int) - 1 - (0 + (j : Int))) := Int.mul_nonneg (by omega) (by omega)
    have wn : 0 ≤ w * (((n + 1 : Nat) : Int) - 1) := Int.mul_nonneg (by omega) (by omega)
    have en1 : ((n + 1 : Nat) : Int) - 1 = ((n : Nat) : Int) := by omega
    refine ⟨_, rfl, _, _, rfl, rfl, _, rfl, _, _, rfl, rfl, ?_⟩
    refine ⟨_, rfl, _, rfl, _, _, rfl, rfl, ⟨by omega, by omega, Nat.le_trans (B101 _ N0 N1) (by decide)⟩, _, rfl, _, rfl, _, rfl, _, _, rfl, rfl, cmw _, _, _, rfl, rfl, wp, _, rfl, _, _, rfl, rfl, cpow1 (by omega) (by omega), _, _, rfl, rfl, _, _, rfl, rfl, _, _, rfl, rfl, ?_⟩
    have u0 : 0 ≤ (uW w xs ys) / (2 ^ w.toNat) ^ (m - 1 - j) := Int.ediv_nonneg U0 (Int.le_of_lt (Int.pow_pos hB))
    have um0 := Int.emod_nonneg ((uW w xs ys) / (2 ^ w.toNat) ^ (m - 1 - j)) (show (2 : Int) ^ w.toNat ≠ 0 by omega)
    have um1 := Int.emod_lt_of_pos ((uW w xs ys) / (2 ^ w.toNat) ^ (m - 1 - j)) hB
    have en : Builtin.bitOr (N * 2 ^ w.toNat) (Builtin.bitAnd ((uW w xs ys) / 2 ^ (w * ((m : Int) - 1 - (0 + (j : Int)))).toNat) (1 * 2 ^ w.toNat - 1)) = N * 2 ^ w.toNat + (uW w xs ys) / (2 ^ w.toNat) ^ (m - 1 - j) % 2 ^ w.toNat := by
      rw [pl, pow_at (by omega), and_mask u0]
      exact or_shift N0 um0 um1
    dsimp only
    rw [en]
    have N2r : 0 ≤ N * 2 ^ w.toNat + (uW w xs ys) / (2 ^ w.toNat) ^ (m - 1 - j) % 2 ^ w.toNat ∧ N * 2 ^ w.toNat + (uW w xs ys) / (2 ^ w.toNat) ^ (m - 1 - j) % 2 ^ w.toNat < 2 ^ w.toNat * lW w ys := by
      refine ⟨Int.add_nonneg (Int.mul_nonneg N0 (by omega)) um0, ?_⟩
      have d : (N + 1) * 2 ^ w.toNat ≤ lW w ys * 2 ^ w.toNat := Int.mul_le_mul_of_nonneg_right (by omega) (by omega)
      rw [Int.add_mul, Int.one_mul, Int.mul_comm (lW w ys)] at d
      omega
    have hN2 : (at' = -1 ∨ (j : Int) ≤ at') → N * 2 ^ w.toNat + (uW w xs ys) / (2 ^ w.toNat) ^ (m - 1 - j) % 2 ^ w.toNat = nJ (2 ^ w.toNat) (uW w xs ys) (lW w ys) m j := fun z => by
      unfold nJ
      rw [← (hhon z).1]
    generalize N * 2 ^ w.toNat + (uW w xs ys) / (2 ^ w.toNat) ^ (m - 1 - j) % 2 ^ w.toNat = N2 at N2r hN2 ⊢
    refine ⟨_, rfl, _, rfl, _, rfl, _, _, rfl, rfl, _, _, rfl, rfl, cmw _, _, _, rfl, rfl, wn, _, _, rfl, ?_⟩
    have ew : (if lW w ys / 2 ^ (w * (((n + 1 : Nat) : Int) - 1)).toNat > 1 then lW w ys / 2 ^ (w * (((n + 1 : Nat) : Int) - 1)).toNat else 1) = v := by
      rw [en1, pow_at (by omega), evL]
      exact if_pos (by omega)
    dsimp only
    rw [ew]
    refine ⟨_, rfl, _, _, rfl, rfl, cpow1 (by omega) (by omega), _, _, rfl, rfl, _, rfl, _, rfl, _, rfl, _, _, rfl, rfl, _, _, rfl, rfl, cmw _, _, _, rfl, rfl, wn, _, rfl, _, _, rfl, rfl, ⟨v0, log_small v0 (by omega)⟩, _, _, rfl, ?_⟩
    have eg : (if N2 / 2 ^ (w * (((n + 1 : Nat) : Int) - 1)).toNat / v < 1 * 2 ^ w.toNat - 1 then N2 / 2 ^ (w * (((n + 1 : Nat) : Int) - 1)).toNat / v else 1 * 2 ^ w.toNat - 1) = gOf (2 ^ w.toNat) (lW w ys) N2 n := by
      unfold gOf
      rw [en1, pow_at (by omega), evL, Int.one_mul, show (if v > 1 then v else 1) = v from if_pos (by omega)]
    dsimp only
    rw [eg]
    refine ⟨_, rfl, _, rfl, _, _, rfl, _, _, rfl, rfl, ⟨by rw [eL1]; exact L0, by rw [eL1]; exact log_lt h1 h2 L0 bL.2 (by decide)⟩, ?_⟩
    dsimp only
    rw [eL1]
    have dr0 : 0 ≤ N2 / lW w ys := Int.ediv_nonneg N2r.1 (by omega)
    have dr1 : N2 / lW w ys < 2 ^ w.toNat := Int.ediv_lt_of_lt_mul L0 N2r.2
    refine ⟨_, rfl, _, rfl, _, rfl, _, _, rfl, rfl, .inl ⟨by omega, by omega⟩, _, _, rfl, rfl, ?_⟩
    have er : N2 - N2 / lW w ys * lW w ys = N2 % lW w ys := by
      have := Int.mul_ediv_add_emod N2 (lW w ys)
      rw [Int.mul_comm] at this
      omega
    dsimp only
    rw [er]
    have R0 := Int.emod_nonneg N2 (show lW w ys ≠ 0 by omega)
    have R1 := Int.emod_lt_of_pos N2 L0
    refine ⟨fun σ2 H8 => ∃ R : Int, σ2 = [some (.int w), some (.ref a), some (.ref b), some (.int at'), some (.int more), some (.int (turnI w ys)), some (.int (uW w xs ys)), some (.int (lW w ys)), some (.int ((n + 1 : Nat) : Int)), some (.int (m : Int)), some (.int R), some (.ref rw'), some (.int Qn), some (.int (0 + (j : Int))), some (.int ((m : Int) - 1 - (0 + (j : Int)))), some (.int v), some (.int (gOf (2 ^ w.toNat) (lW w ys) N2 n)), some (.int (N2 / lW w ys))] ∧ 0 ≤ R ∧ R < lW w ys ∧ ((j : Int) ≠ at' → R = N2 % lW w ys) ∧ ((j : Int) = at' → R ≠ N2 % lW w ys) ∧ H8 = H7, ?_, ?_⟩
    · refine ⟨_, rfl, _, rfl, rfl, _, rfl, ?_⟩
      by_cases ca : (j : Int) = at'
      · refine iteD (congrArg V.int (by omega)) ?_
        refine ⟨_, rfl, _, _, rfl, rfl, _, rfl, _, rfl, _, _, rfl, rfl, _, _, rfl, _, _, rfl, rfl, (by show 0 < (if lW w ys - 1 > 1 then lW w ys - 1 else 1); rw [eL2]; omega), _, _, rfl, rfl, _, rfl, _, _, rfl, _, _, rfl, rfl, (by show 0 < (if lW w ys > 1 then lW w ys else 1); rw [eL1]; exact L0), ?_⟩
        have m0 := Int.emod_nonneg more (show lW w ys - 1 ≠ 0 by omega)
        have m1 := Int.emod_lt_of_pos more (show 0 < lW w ys - 1 by omega)
        have ot := other_rest (c := 1 + more % (lW w ys - 1)) R0 R1 (by omega) (by omega)
        refine ⟨(N2 % lW w ys + (1 + more % (lW w ys - 1))) % lW w ys, ?_, Int.emod_nonneg _ (by omega), Int.emod_lt_of_pos _ L0, fun z => absurd ca z, fun _ => ot, rfl⟩
        dsimp only
        rw [eL1, eL2, Int.add_assoc]
        rfl
      · refine iteDN (fun z => ca (by injection z with z; omega)) ?_
        exact ⟨_, rfl, R0, R1, fun _ => rfl, fun z => absurd z ca, rfl⟩
    rintro σ2 H8 ⟨R, rfl, R20, R21, Rn, Ra, rfl⟩
    have qbits : intBits Qn ≤ 6400 := bits_lt h1 h2 Q0 Q1 (by omega)
    refine ⟨_, rfl, _, rfl, _, _, rfl, rfl, ⟨by omega, by omega, Nat.le_trans qbits (by decide)⟩, _, rfl, _, _, rfl, rfl, ?_⟩
    have eq2 : Builtin.bitOr (Qn * 2 ^ w.toNat) (N2 / lW w ys) = Qn * 2 ^ w.toNat + N2 / lW w ys := or_shift Q0 dr0 dr1
    dsimp only
    rw [eq2]
    obtain ⟨zs, lz, ez, lez⟩ := ex_words h1 h2 R20 (Int.lt_trans R21 Ln1)
    refine ⟨_, rfl, .inl ⟨rfl, _, SqL.of hrw7⟩, _, rfl, _, rfl, _, rfl, _, rfl, _, _, rfl, rfl, _, rfl, _, rfl, _, rfl, R, w, zs, rfl, h1, h2, ez, lz, by omega, fun r9 H9 hr90 hr9 s9 => ?_⟩
    refine ⟨(by show 5 ≤ sizeLine; decide), fun tp htp => ?_⟩
    have s12 := same_new htp (.tup [.int ((m : Int) - 1 - (0 + (j : Int))), .int (gOf (2 ^ w.toNat) (lW w ys) N2 n), .int (gOf (2 ^ w.toNat) (lW w ys) N2 n - N2 / lW w ys), .int (N2 / lW w ys), .ref r9])
    have hrwA := s12 _ _ (s9 _ _ hrw7)
    have hr9A := s12 _ _ hr9
    have htpA : (upd H9 tp (.tup [.int ((m : Int) - 1 - (0 + (j : Int))), .int (gOf (2 ^ w.toNat) (lW w ys) N2 n), .int (gOf (2 ^ w.toNat) (lW w ys) N2 n - N2 / lW w ys), .int (N2 / lW w ys), .ref r9])) tp = some (.tup [.int ((m : Int) - 1 - (0 + (j : Int))), .int (gOf (2 ^ w.toNat) (lW w ys) N2 n), .int (gOf (2 ^ w.toNat) (lW w ys) N2 n - N2 / lW w ys), .int (N2 / lW w ys), .ref r9]) := upd_same
    have s9A := s9.trans s12
    generalize (upd H9 tp (.tup [.int ((m : Int) - 1 - (0 + (j : Int))), .int (gOf (2 ^ w.toNat) (lW w ys) N2 n), .int (gOf (2 ^ w.toNat) (lW w ys) N2 n - N2 / lW w ys), .int (N2 / lW w ys), .ref r9])) = HA at s9A hrwA hr9A htpA ⊢
    have big : (1001 : Nat) ≤ sizeLine := by decide
    refine ⟨rw', _, _, rfl, rfl, hrwA, by omega, ?_⟩
    have k1 : r9 ≠ rw' := fun z => by rw [z, hrw7] at hr90; cases hr90
    have k2 : tp ≠ rw' := fun z => by rw [z, hrwA] at htpA; cases htpA
    have RI : RowIs (hid HA rw') (.ref tp) ((m : Int) - 1 - (j : Int)) (gOf (2 ^ w.toNat) (lW w ys) N2 n) (gOf (2 ^ w.toNat) (lW w ys) N2 n - N2 / lW w ys) (N2 / lW w ys) zs := by
      refine ⟨tp, r9, rfl, ?_, ?_⟩
      · unfold hid
        rw [upd_ne k2, htpA, show (m : Int) - 1 - (0 + (j : Int)) = (m : Int) - 1 - (j : Int) by omega]
      · unfold hid
        rw [upd_ne k1, hr9A]
    have jc : Qn * 2 ^ w.toNat + N2 / lW w ys < (2 ^ w.toNat) ^ (j + 1) := by
      rw [Int.pow_succ]
      have : (Qn + 1) * 2 ^ w.toNat ≤ (2 ^ w.toNat) ^ j * 2 ^ w.toNat := Int.mul_le_mul_of_nonneg_right (by omega) (by omega)
      rw [Int.add_mul, Int.one_mul] at this
      omega
    refine ⟨R, Qn * 2 ^ w.toNat + N2 / lW w ys, vs ++ [.ref tp], _, _, _, _, _, rfl, R20, R21, Int.add_nonneg (Int.mul_nonneg Q0 (by omega)) dr0, jc, upd_same, by rw [List.length_append, hvl]; rfl, ?_, ?_, ?_⟩
    · rw [hid_upd]
      intro k u e
      by_cases ck : k < vs.length
      · rw [List.getElem?_append_left ck] at e
        obtain ⟨p, g, b', d, zs', x, y⟩ := hok k u e
        exact ⟨p, g, b', d, zs', x.same (same_hid s9A), y⟩
      · have hk : k = vs.length := by
          have := (List.getElem?_eq_some_iff.mp e).1
          rw [List.length_append] at this
          have : k < vs.length + 1 := this
          omega
        subst hk
        rw [List.getElem?_append_right (Nat.le_refl _), Nat.sub_self] at e
        cases (Option.some.inj e).symm
        refine ⟨_, _, _, _, zs, RI, lz, by omega, fun z => ?_⟩
        rw [hvl] at z ⊢
        rw [ez, ← hN2 (.inr (by omega))]
        exact Ra z.symm
    · intro z
      rw [hid_upd]
      have z' : at' = -1 ∨ (j : Int) ≤ at' := by
        rcases z with z | z
        · exact .inl z
        · exact .inr (by omega)
      have zn : (j : Int) ≠ at' := by omega
      obtain ⟨e1, e2, e3⟩ := hhon z'
      have st := stepJ (B := 2 ^ w.toNat) (U := uW w xs ys) hB L0 hj2
      have en2 := hN2 z'
      refine ⟨?_, ?_, fun k u e => ?_⟩
      · rw [Rn zn, st.1, ← en2, ← er]
        unfold dJ
        rw [← en2]
      · rw [st.2, ← e2]
        unfold dJ
        rw [← en2]
      · by_cases ck : k < vs.length
        · rw [List.getElem?_append_left ck] at e
          exact (e3 k u e).same (same_hid s9A)
        · have hk : k = vs.length := by
            have := (List.getElem?_eq_some_iff.mp e).1
            rw [List.length_append] at this
            have : k < vs.length + 1 := this
            omega
          subst hk
          rw [List.getElem?_append_right (Nat.le_refl _), Nat.sub_self] at e
          cases (Option.some.inj e).symm
          rw [hvl, ← en2]
          exact ⟨zs, RI, lz, by rw [ez, Rn zn]⟩
    · intro z o h
      rw [upd_ne (ne_of_none h hrw0)]
      exact (s7.trans s9A) _ _ h
  rintro σ H7 ⟨N, Qn, vs, y1, y2, y3, y4, y5, rfl, N0, N1, Q0, Q1, hrw7, hvl, hok, hhon, s7⟩
  have ed : (((m : Int) - 0).toNat) = m := by omega
  have jm : rJ (2 ^ w.toNat) (uW w xs ys) (lW w ys) m m = (uW w xs ys) % (lW w ys) := by unfold rJ; rw [Nat.sub_self, Int.pow_zero, Int.ediv_one]
  have jq : qJ (2 ^ w.toNat) (uW w xs ys) (lW w ys) m m = (uW w xs ys) / (lW w ys) := by unfold qJ; rw [Nat.sub_self, Int.pow_zero, Int.ediv_one]
  have em2 : ((m : Int) - 0).toNat = m := by omega
  replace Q1 : Qn < (2 ^ w.toNat) ^ m := by first | exact Q1 | (rw [Int.toNat_natCast] at Q1; exact Q1)
  replace hvl : vs.length = m := by first | exact hvl | omega
  replace hhon : at' = -1 → N = (uW w xs ys) % (lW w ys) ∧ Qn = (uW w xs ys) / (lW w ys) ∧ ∀ (k : Nat) (u : V), vs[k]? = some u → RowT w ((m : Int) - 1 - (k : Int)) (nJ (2 ^ w.toNat) (uW w xs ys) (lW w ys) m k) (lW w ys) n (hid H7 rw') u := by
    intro z
    have := hhon (.inl z)
    first | (rw [jm, jq] at this; exact this) | (rw [Int.toNat_natCast, jm, jq] at this; exact this)
  obtain ⟨qs, lq, eq, leq⟩ := ex_words h1 h2 Q0 Q1
  have hT1 : (1 : Int) ≤ 2 ^ (turnI w ys).toNat := by omega
  have Nt0 : 0 ≤ N / 2 ^ (turnI w ys).toNat := Int.ediv_nonneg N0 (by omega)
  have Nt1 : N / 2 ^ (turnI w ys).toNat < (2 ^ w.toNat) ^ (n + 1) := Int.lt_of_le_of_lt (Int.ediv_le_self _ N0) (Int.lt_trans N1 Ln1)
  obtain ⟨rs, lr, er, ler⟩ := ex_words h1 h2 Nt0 Nt1
  refine ⟨_, rfl, _, rfl, Qn, w, qs, rfl, h1, h2, eq, lq, by omega, fun qa H8 hqa0 hqa s8 => ?_⟩
  refine ⟨_, rfl, _, rfl, _, _, rfl, rfl, t0, _, rfl, _, w, rs, rfl, h1, h2, er, lr, by omega, fun ra H9 hra0 hra s9 => ?_⟩
  refine ⟨_, rfl, _, rfl, _, rfl, (by show 5 ≤ sizeLine; decide), fun t ht => ?_⟩
  have s10 := same_new ht (.tup [.ref qa, .ref ra, .ref rw', .int (turnI w ys), .int (lW w ys)])
  have ft : (upd H9 t (.tup [.ref qa, .ref ra, .ref rw', .int (turnI w ys), .int (lW w ys)])) t = some (.tup [.ref qa, .ref ra, .ref rw', .int (turnI w ys), .int (lW w ys)]) := upd_same
  have s79 := s8.trans (s9.trans s10)
  have s9' := s9.trans s10
  generalize (upd H9 t (.tup [.ref qa, .ref ra, .ref rw', .int (turnI w ys), .int (lW w ys)])) = HA at s10 ft s79 s9' ⊢
  have MD : Made HA w xs ys t qs rs vs := madeR t qa ra rw' qs rs vs HA ft (s9' _ _ hqa) (s10 _ _ hra) (s79 _ _ hrw7) lq lr (by omega) (by omega) hvl (fun j u e => by
    obtain ⟨p, g, b', d, zs, x, y, z, _⟩ := hok j u e
    exact ⟨p, g, b', d, zs, x.unhid.same s79, y, z⟩)
  refine q' t qs rs vs HA (s7.trans s79) MD (fun z => ?_) (fun j z hj => ?_)
  · obtain ⟨e1, e2, e3⟩ := hhon z
    refine honR t qs rs vs HA MD ?_ ?_ fun j u e => (e3 j u e).unhid.same s79
    · show num (2 ^ w.toNat) qs = _
      rw [eq, e2, eUL]
    · show num (2 ^ w.toNat) rs = _
      rw [er, e1, eUM]
  · have hu : vs[j]? = some (vs[j]'(by omega)) := List.getElem?_eq_getElem (by omega)
    refine ⟨_, hu, fun rt => ?_⟩
    obtain ⟨p, g, b', d, zs, x, y, _, ne⟩ := hok j _ hu
    obtain ⟨rs2, x2, l2, n2⟩ := rt
    have := (RowIs.nums (x.unhid.same s79) x2).2.2.2.2
    rw [← this] at n2
    exact ne z n2
theorem op_catTK {X : Cx} {K : PySem.W.Frag} (h : X.K = K) : OpR X (binaryOp .Add) (rCatT K) := by
  subst h
  exact op_catT
theorem sl_tupK {X : Cx} {K : PySem.W.Frag} (h : X.K = K) : SlR X (rSlT K) := by
  subst h
  exact sl_tup
theorem call_list_ofK {X : Cx} {K : PySem.W.Frag} (hk : X.K = K) : CallR X (.type "list") (fun xs H Q => ∃ p ys, xs = [V.ref p] ∧ (SqL K H p ys ∨ SqT K H p ys) ∧ ∀ (l : Addr), H l = none → Q (V.ref l) (upd H l (HO.lst ys))) := by
  subst hk
  exact call_list_of
theorem ok__law_copy {f : Addr} {fd : FuncData} (F : Fun K "_law_copy" "_law_copy" s__law_copy f fd) (T : Txt K mg)  : FnOk P w K mg base CX0 1 f fd ["_law_rows"] spCopy := by
  refine F.ok sc__law_copy (fun vs H Q E h => ?_) (fun cdv A outer s H vs Q E hr h => ?_)
  · obtain ⟨l, us, w, rfl, _⟩ := h
    rfl
  obtain ⟨l, us, w, rfl, hl, hn, hok, q⟩ := h
  refine ⟨_, (pss_one (ps_ret (pe_comp0 rfl (by first | rfl | with_unfolding_all rfl) (by decide +kernel) rfl (by decide +kernel) rfl (pi_list (pv 0)) (fun C s2 H2 fp => (pe_op (op_catTK (K := K) rfl) (pe_slice (sl_tupK (K := K) rfl) (pv 0) po_none (po_some pe_int)) (pe_tup (pa_cons (pe_callTy (call_list_ofK (K := K) rfl) rfl T.n_list boot_list (pa_cons (pe_ix (ix_tupK (K := K) rfl) (pv 0) pe_int (fun _ _ => rfl)) pa_nil)) pa_nil))))))), ?_⟩
  have big : (1001 : Nat) ≤ sizeLine := by decide
  refine ⟨_, rfl, l, rfl, ⟨_, SqL.of hl⟩, fun D hD => ?_⟩
  refine comp_list (xs := us) (fun k HJ => ∃ us' : List V, HJ D = some (.lst us') ∧ us'.length = k ∧ (∀ (j : Nat) (u u' : V), us[j]? = some u → us'[j]? = some u' → ∀ (p g b d : Int) (zs : List Int), RowIs H u p g b d zs → RowIs (hid HJ D) u' p g b d zs) ∧ Same H HJ) ⟨[], upd_same, rfl, (fun j u u' _ e => by cases e), same_new hD _⟩ ?_ ?_ ?_
  · rintro k HJ _ ⟨us', _, _, _, sJ⟩
    exact SqL.of (sJ _ _ hl)
  · rintro k u HJ hu ⟨us', hy, hyl, hrow, sJ⟩
    have hk : k < us.length := (List.getElem?_eq_some_iff.mp hu).1
    obtain ⟨p, g, b, d, zs, ⟨t, r, rfl, ht, hr'⟩, hzl⟩ := hok k u hu
    refine ⟨_, rfl, _, rfl, t, _, rfl, SqT.of (sJ _ _ ht), (by show ¬ (0 = 0 ∧ min 4 5 = 5); decide), fun p1 hp1 => ?_⟩
    have s1 := same_new hp1 (.tup [.int p, .int g, .int b, .int d])
    have f1 : upd HJ p1 (.tup (cutV [.int p, .int g, .int b, .int d, .ref r] none (some 4))) p1 = some (.tup [.int p, .int g, .int b, .int d]) := upd_same
    replace s1 : Same HJ (upd HJ p1 (.tup (cutV [.int p, .int g, .int b, .int d, .ref r] none (some 4)))) := s1
    generalize upd HJ p1 (.tup (cutV [.int p, .int g, .int b, .int d, .ref r] none (some 4))) = H1 at s1 f1 ⊢
    refine ⟨_, rfl, t, _, _, _, rfl, rfl, SqT.of (s1 _ _ (sJ _ _ ht)), rfl, r, _, rfl, .inl (SqL.of (s1 _ _ (sJ _ _ hr'))), fun r2 hr2 => ?_⟩
    have s2 := same_new hr2 (.lst (zs.map V.int))
    have f2 : upd H1 r2 (.lst (zs.map V.int)) r2 = some (.lst (zs.map V.int)) := upd_same
    generalize upd H1 r2 (.lst (zs.map V.int)) = H2 at s2 f2 ⊢
    refine ⟨(by show 1 ≤ sizeLine; decide), fun t1 ht1 => ?_⟩
    have s3 := same_new ht1 (.tup [.ref r2])
    have f3 : upd H2 t1 (.tup [.ref r2]) t1 = some (.tup [.ref r2]) := upd_same
    generalize upd H2 t1 (.tup [.ref r2]) = H3 at s3 f3 ⊢
    refine ⟨p1, t1, _, _, rfl, rfl, SqT.of (s3 _ _ (s2 _ _ f1)), SqT.of f3, (by simp), (by show 4 + 1 ≤ sizeLine; decide), (fun z => by cases z), fun _ p2 hp2 => ?_⟩
    have s4 := same_new hp2 (.tup ([.int p, .int g, .int b, .int d] ++ [.ref r2]))
    have f4 : upd H3 p2 (.tup ([.int p, .int g, .int b, .int d] ++ [.ref r2])) p2 = some (.tup [.int p, .int g, .int b, .int d, .ref r2]) := upd_same
    generalize upd H3 p2 (.tup ([.int p, .int g, .int b, .int d] ++ [.ref r2])) = H4 at s4 f4 ⊢
    have s14 := ((s1.trans s2).trans s3).trans s4
    have hy4 := s14 _ _ hy
    have g2 := s4 _ _ (s3 _ _ f2)
    have n1 : r2 ≠ D := fun z => by rw [z, s1 _ _ hy] at hr2; cases hr2
    have n2 : p2 ≠ D := fun z => by rw [z, hy4] at f4; cases f4
    refine ⟨us', hy4, by omega, us.length - (k + 1), by omega, rfl, hk, us' ++ [.ref p2], upd_same, by rw [List.length_append, hyl]; rfl, ?_, ?_⟩
    · intro j v v' e1 e2 p' g' b' d' zs' x
      rw [hid_upd]
      by_cases cj : j < us'.length
      · rw [List.getElem?_append_left cj] at e2
        exact (hrow j v v' e1 e2 p' g' b' d' zs' x).same (same_hid s14)
      · have hj : j = us'.length := by
          have := (List.getElem?_eq_some_iff.mp e2).1
          rw [List.length_append] at this
          have : j < us'.length + 1 := this
          omega
        subst hj
        rw [List.getElem?_append_right (Nat.le_refl _), Nat.sub_self] at e2
        cases (Option.some.inj e2).symm
        rw [hyl, hu] at e1
        cases e1
        obtain ⟨a1, a2, a3, a4, a5⟩ := RowIs.nums ⟨t, r, rfl, ht, hr'⟩ x
        subst a1 a2 a3 a4 a5
        refine ⟨p2, r2, rfl, ?_, ?_⟩
        · unfold hid; rw [upd_ne n2]; exact f4
        · unfold hid; rw [upd_ne n1]; exact g2
    · intro z o h
      rw [upd_ne (ne_of_none h hD)]
      exact s14 _ _ (sJ _ _ h)
  · rintro HJ ⟨us', hy, hyl, hrow, sJ⟩
    exact q D us' HJ sJ hy hyl fun j u u' e1 e2 p g b d zs x => (hrow j u u' e1 e2 p g b d zs x).unhid
theorem ok__law_plus {f : Addr} {fd : FuncData} (F : Fun K "_law_plus" "_law_plus" s__law_plus f fd) (T : Txt K mg) (H__law_words : Has P w K mg base 1 "_law_words" ["_law_number_here", "_law_width"] spLW) (H__law_number : Has P w K mg base 1 "_law_number" ["_law_words_here", "_law_width"] spLNum) : FnOk P w K mg base CX0 2 f fd ["_law_words_here", "_law_more", "_law_width"] spPlus := by
  refine F.ok sc__law_plus (fun vs H Q E h => ?_) (fun cdv A outer s H vs Q E hr h => ?_)
  · obtain ⟨a, ws, more, w, rfl, _⟩ := h
    rfl
  obtain ⟨a, ws, more, w, rfl, h1, h2, ha, lw, lwl, hm, q⟩ := h
  refine ⟨_, (pss_one (ps_ret (pe_fn H__law_words (hr.mono (by omega)) rfl (pa_cons (pe_callB (call_max2 rfl) rfl T.n_max boot_max (pa_cons pe_int (pa_cons (pe_op op_add (pe_fn H__law_number (hr.mono (by omega)) rfl (pa_cons (pv 0) (pa_cons (pv 2) pa_nil))) (pv 1)) pa_nil))) (pa_cons (pv 2) pa_nil))))), ?_⟩
  have hB := p_pos w.toNat
  have pb := pw_bounds h1 h2
  have nlt : num (2 ^ w.toNat) ws < (2 ^ w.toNat) ^ 98 := by
    have a := num_lt hB lw.wd
    by_cases c : ws.length = 98
    · rw [c] at a; exact a
    · exact Int.lt_trans a (pow_lt_pow (by omega) (by omega))
  have p98 : (0 : Int) < (2 ^ w.toNat) ^ 98 := Int.pow_pos hB
  have p99 : (2 : Int) * (2 ^ w.toNat) ^ 98 ≤ (2 ^ w.toNat) ^ 99 := by
    rw [Int.pow_succ _ 98, Int.mul_comm]
    exact Int.mul_le_mul_of_nonneg_left (by omega) (by omega)
  obtain ⟨us, lu, eu, leu⟩ := ex_words (n := if 0 < nm w ws + more then nm w ws + more else 0) (k := 99) h1 h2 (by split <;> omega) (by
    have : nm w ws = num (2 ^ w.toNat) ws := rfl
    split <;> omega)
  refine ⟨_, rfl, _, rfl, a, ws, w, rfl, h1, h2, ha, lw.wd, by omega, fun H1 s1 => ⟨_, rfl, _, _, rfl, rfl, _, _, rfl, _, rfl, _, w, us, rfl, h1, h2, eu, lu, by omega, fun p H2 _ hp s2 => q p us H2 (s1.trans s2) hp lu leu eu⟩⟩
theorem ok__law_truth {f : Addr} {fd : FuncData} (F : Fun K "_law_truth" "_law_truth" s__law_truth f fd) (T : Txt K mg)  : FnOk P w K mg base CX0 1 f fd ["_law_words_here"] spTruth := by
  refine F.ok sc__law_truth (fun vs H Q E h => ?_) (fun cdv A outer s H vs Q E hr h => ?_)
  · obtain ⟨a, ws, rfl, _⟩ := h
    rfl
  obtain ⟨a, ws, rfl, ha, hwl, q⟩ := h
  refine ⟨_, (pss_cons (ps_if (pt_cmpR (op_eq0 (Nat.lt_of_succ_lt (hu_of hr))) (pv 0) (pe_lst pa_nil) (nomark _))
      (pss_one (ps_ret pe_non))
      pss_nil)
    (pss_one (ps_ret (pe_op op_addL (pe_lst (pa_cons (pe_cmpR op_eq (pe_ix ix_list (pv 0) pe_int (fun _ _ => rfl)) pe_int (nomark _)) pa_nil)) (pe_slice sl_list (pv 0) (po_some pe_int) po_none))))), ?_⟩
  have big : (1001 : Nat) ≤ sizeLine := by decide
  refine ⟨_, rfl, (by show 0 ≤ sizeLine; decide), fun z hz => ?_⟩
  have s1 := same_new hz (.lst [])
  refine ⟨a, z, _, rfl, rfl, SqL.of (s1 _ _ ha), SqL.of upd_same, _, rfl, ?_⟩
  rw [emp]
  cases ws with
  | nil => exact iteD rfl (q .non none _ s1 .non (fun _ e => by cases e) (fun _ e => by cases e))
  | cons x r =>
    refine iteDN (fun e => by cases e) ?_
    refine ⟨_, rfl, a, _, _, _, rfl, rfl, SqL.of (s1 _ _ ha), (at_nat (xs := x :: r) (j := 0) rfl), rfl, (by show 1 ≤ sizeLine; decide), fun z1 hz1 => ?_⟩
    have s2 := same_new hz1 (.lst [.bl (decide (V.int x = V.int 1))])
    refine ⟨_, rfl, _, rfl, a, _, rfl, SqL.of (s2 _ _ (s1 _ _ ha)), fun z2 hz2 => ?_⟩
    have e2 : cutV ((x :: r).map V.int) (some 1) none = r.map V.int := cut_from (x :: r) 1 (by simp)
    dsimp only
    rw [e2] at *
    have s3 := same_new hz2 (.lst (r.map V.int))
    refine ⟨z1, z2, _, _, rfl, rfl, SqL.of (s3 _ _ upd_same), SqL.of upd_same, (by rw [List.length_map]; show 1 + r.length ≤ _; simp at hwl; omega), fun p hp => ?_⟩
    have s4 := same_new hp (.lst ([.bl (decide (V.int x = V.int 1))] ++ r.map V.int))
    refine q (.ref p) (some (.bl (decide (V.int x = V.int 1)) :: r.map V.int)) _ (s1.trans (s2.trans (s3.trans s4))) (.lst upd_same (fun y hy => ?_) (by simp at hwl ⊢; omega)) (fun xs e => by cases e; simp at hwl ⊢; omega) (fun us e => ?_)
    · rcases List.mem_cons.mp hy with rfl | hy
      · exact .bl _
      · obtain ⟨i, _, rfl⟩ := List.mem_map.mp hy
        exact .int i
    · cases us with
      | nil => cases e
      | cons u us =>
        have := Option.some.inj e
        rw [List.map_cons] at this
        injection this with this
        cases this
theorem RowIs.parts {H : Hp} {t : Addr} {a1 a2 a3 a4 a5 : V} {p g b d : Int} {us : List Int} (h : H t = some (.tup [a1, a2, a3, a4, a5])) (x : RowIs H (.ref t) p g b d us) : a1 = .int p ∧ a2 = .int g ∧ a3 = .int b ∧ a4 = .int d ∧ ∃ r, a5 = .ref r ∧ H r = some (.lst (us.map V.int)) := by
  obtain ⟨t', r, e, h1, h2⟩ := x
  cases e
  rw [h] at h1
  cases h1
  exact ⟨rfl, rfl, rfl, rfl, r, rfl, h2⟩
theorem int_ne {i j : Int} (h : i ≠ j) : V.int i ≠ V.int j := fun z => h (by injection z)
theorem short_ints {zs : List Int} (h : zs.length ≤ 100) : ∀ xs, some (zs.map V.int) = some xs → xs.length ≤ 100 := fun xs e => by cases e; rw [List.length_map]; exact h
theorem LV.snoc0 {H : Hp} {a : Addr} {zs : List Int} (h : H a = some (.lst (zs.map V.int ++ [.int 0]))) (n : zs.length ≤ 98) : LV H (.ref a) (some (zs.map V.int ++ [.int 0])) := .lst h (fun y hy => by
  rcases List.mem_append.mp hy with hy | hy
  · obtain ⟨i, _, rfl⟩ := List.mem_map.mp hy
    exact .int i
  · rw [List.mem_singleton.mp hy]
    exact .int 0) (by rw [List.length_append, List.length_map]; show zs.length + 1 ≤ 1000; omega)
theorem ok__law_row_forged {f : Addr} {fd : FuncData} (F : Fun K "_law_row_forged" "_law_row_forged" s__law_row_forged f fd) (T : Txt K mg) (H__law_truth : Has P w K mg base 1 "_law_truth" ["_law_words_here"] spTruth) : FnOk P w K mg base CX0 2 f fd ["_law_way", "_law_row"] spRowF := by
  refine F.ok sc__law_row_forged (fun vs H Q E h => ?_) (fun cdv A outer s H vs Q E hr h => ?_)
  · obtain ⟨way, v, p, g, b, d, zs, rfl, _⟩ := h
    rfl
  obtain ⟨way, v, p, g, b, d, zs, rfl, w0, w1, ⟨t, r, rfl, ht, hr'⟩, hzl, hlast, q⟩ := h
  refine ⟨_, (pss_cons (ps_asg (pv 1) (pg_tup rfl (pgs_cons (pg_name (i := 2) sc__law_row_forged.nd rfl (Or.inl rfl)) (pgs_cons (pg_name (i := 3) sc__law_row_forged.nd rfl (Or.inl rfl)) (pgs_cons (pg_name (i := 4) sc__law_row_forged.nd rfl (Or.inl rfl)) (pgs_cons (pg_name (i := 5) sc__law_row_forged.nd rfl (Or.inl rfl)) (pgs_cons (pg_name (i := 6) sc__law_row_forged.nd rfl (Or.inl rfl)) pgs_nil)))))))
    (pss_cons (ps_if (pt_cmpR op_lt (pv 0) pe_int (nomark _))
      (pss_one (ps_ret (pe_ix ix_list (pe_lst (pa_cons (pe_tup (pa_cons (pe_op op_add (pv 2) pe_int) (pa_cons (pv 3) (pa_cons (pv 4) (pa_cons (pv 5) (pa_cons (pv 6) pa_nil)))))) (pa_cons (pe_tup (pa_cons (pv 2) (pa_cons (pe_op op_add (pv 3) pe_int) (pa_cons (pe_op op_add (pv 4) pe_int) (pa_cons (pv 5) (pa_cons (pv 6) pa_nil)))))) (pa_cons (pe_tup (pa_cons (pv 2) (pa_cons (pv 3) (pa_cons (pe_op op_add (pv 4) pe_int) (pa_cons (pv 5) (pa_cons (pv 6) pa_nil)))))) (pa_cons (pe_tup (pa_cons (pv 2) (pa_cons (pv 3) (pa_cons (pe_op op_sub (pv 4) pe_int) (pa_cons (pv 5) (pa_cons (pv 6) pa_nil)))))) pa_nil))))) (pv 0) (fun _ _ => rfl))))
      pss_nil)
    (pss_cons (ps_if (pt_cmpR op_lt (pv 0) pe_int (nomark _))
      (pss_one (ps_ret (pe_ix ix_list (pe_lst (pa_cons (pe_tup (pa_cons (pv 2) (pa_cons (pv 3) (pa_cons (pv 4) (pa_cons (pe_op op_add (pv 5) pe_int) (pa_cons (pv 6) pa_nil)))))) (pa_cons (pe_tup (pa_cons (pv 2) (pa_cons (pv 3) (pa_cons (pv 4) (pa_cons (pv 5) (pa_cons (pe_op op_addL (pv 6) (pe_lst (pa_cons pe_int pa_nil))) pa_nil)))))) (pa_cons (pe_tup (pa_cons (pv 2) (pa_cons (pv 3) (pa_cons (pv 4) (pa_cons (pv 5) (pa_cons (pe_callTy call_tuple_of rfl T.n_tuple boot_tuple (pa_cons (pv 6) pa_nil)) pa_nil)))))) (pa_cons (pe_lst (pa_cons (pv 2) (pa_cons (pv 3) (pa_cons (pv 4) (pa_cons (pv 5) (pa_cons (pv 6) pa_nil)))))) pa_nil))))) (pe_op op_sub (pv 0) pe_int) (fun _ _ => rfl))))
      pss_nil)
    (pss_cons (ps_if (pt_cmpR op_lt (pv 0) pe_int (nomark _))
      (pss_one (ps_ret (pe_ix ix_list (pe_lst (pa_cons (pe_tup (pa_cons (pv 2) (pa_cons (pv 3) (pa_cons (pv 4) (pa_cons (pv 5) pa_nil))))) (pa_cons (pe_tup (pa_consN (pv 2) (pa_consN (pv 3) (pa_consN (pv 4) (pa_consN (pv 5) (pa_consN (pv 6) (pa_consN pe_int pa_nil))))))) (pa_cons pe_non (pa_cons (pe_tup (pa_cons (pv 2) (pa_cons (pv 3) (pa_cons (pe_cmpR op_eq (pv 4) pe_int (nomark _)) (pa_cons (pv 5) (pa_cons (pv 6) pa_nil)))))) pa_nil))))) (pe_op op_sub (pv 0) pe_int) (fun _ _ => rfl))))
      pss_nil)
    (pss_cons (ps_if (pt_cmpR op_lt (pv 0) pe_int (nomark _))
      (pss_cons (ps_set (i := 7) sc__law_row_forged.nd rfl (Or.inl rfl) (pe_ifExp (pt_cmpR op_gt (pv 4) pe_int (nomark _)) pe_int (pe_op op_sub pe_int pe_int)))
      (pss_one (ps_ret (pe_ix ix_list (pe_lst (pa_cons (pe_tup (pa_cons (pv 2) (pa_cons (pv 3) (pa_cons (pv 4) (pa_cons (pv 5) (pa_cons pe_non pa_nil)))))) (pa_cons (pe_tup (pa_cons pe_non (pa_cons (pv 3) (pa_cons (pv 4) (pa_cons (pv 5) (pa_cons (pv 6) pa_nil)))))) (pa_cons (pe_tup (pa_cons (pv 2) (pa_cons (pe_op op_sub (pv 3) (pv 7)) (pa_cons (pe_op op_sub (pv 4) (pv 7)) (pa_cons (pv 5) (pa_cons (pv 6) pa_nil)))))) (pa_cons (pe_tup (pa_cons (pv 2) (pa_cons (pe_cmpR op_eq (pv 3) pe_int (nomark _)) (pa_cons (pv 4) (pa_cons (pv 5) (pa_cons (pv 6) pa_nil)))))) pa_nil))))) (pe_op op_sub (pv 0) pe_int) (fun _ _ => rfl)))))
      pss_nil)
    (pss_one (ps_ret (pe_ix ix_list (pe_lst (pa_cons (pe_tup (pa_cons (pv 2) (pa_cons (pv 3) (pa_cons (pv 4) (pa_cons (pe_cmpR op_eq (pv 5) pe_int (nomark _)) (pa_cons (pv 6) pa_nil)))))) (pa_cons (pe_tup (pa_cons (pv 2) (pa_cons (pv 3) (pa_cons (pv 4) (pa_cons (pv 5) (pa_cons (pe_fn H__law_truth (hr.mono (by omega)) rfl (pa_cons (pv 6) pa_nil)) pa_nil)))))) pa_nil))) (pe_op op_sub (pv 0) pe_int) (fun _ _ => rfl))))))))), ?_⟩
  have big : (1001 : Nat) ≤ sizeLine := by decide
  have R := Same.refl H
  refine ⟨_, rfl, t, _, rfl, SqT.of ht, rfl, _, _, rfl, _, _, rfl, _, _, rfl, _, _, rfl, _, _, rfl, rfl, ?_⟩
  have lvr : ∀ {G : Hp}, Same H G → LV G (.ref r) (some (zs.map V.int)) := fun s => LV.ints (s _ _ hr') (by omega)
  have sh : ∀ xs, some (zs.map V.int) = some xs → xs.length ≤ 100 := short_ints (by omega)
  refine ⟨_, rfl, _, _, rfl, rfl, _, rfl, ?_⟩
  by_cases c0 : way < 4
  · refine iteD c0 ?_
    refine ⟨_, rfl, _, _, rfl, rfl, _, rfl, _, rfl, _, rfl, _, rfl, (by show 5 ≤ sizeLine; decide), fun t0_0 ht0_0 => ?_⟩
    have s0_0 := same_new ht0_0 (.tup [.int (p + 1), .int g, .int b, .int d, .ref r])
    have f0_0 : upd H t0_0 (.tup [.int (p + 1), .int g, .int b, .int d, .ref r]) t0_0 = some (.tup [.int (p + 1), .int g, .int b, .int d, .ref r]) := upd_same
    replace s0_0 : Same H (upd H t0_0 (.tup [.int (p + 1), .int g, .int b, .int d, .ref r])) := s0_0
    dsimp only
    generalize upd H t0_0 (.tup [.int (p + 1), .int g, .int b, .int d, .ref r]) = G0_0 at s0_0 f0_0 ⊢
    refine ⟨_, rfl, _, rfl, _, _, rfl, rfl, _, rfl, _, _, rfl, rfl, _, rfl, _, rfl, (by show 5 ≤ sizeLine; decide), fun t0_1 ht0_1 => ?_⟩
    have s0_1 := same_new ht0_1 (.tup [.int p, .int (g + 1), .int (b + 1), .int d, .ref r])
    have f0_1 : upd G0_0 t0_1 (.tup [.int p, .int (g + 1), .int (b + 1), .int d, .ref r]) t0_1 = some (.tup [.int p, .int (g + 1), .int (b + 1), .int d, .ref r]) := upd_same
    replace s0_1 : Same G0_0 (upd G0_0 t0_1 (.tup [.int p, .int (g + 1), .int (b + 1), .int d, .ref r])) := s0_1
    dsimp only
    generalize upd G0_0 t0_1 (.tup [.int p, .int (g + 1), .int (b + 1), .int d, .ref r]) = G0_1 at s0_1 f0_1 ⊢
    refine ⟨_, rfl, _, rfl, _, rfl, _, _, rfl, rfl, _, rfl, _, rfl, (by show 5 ≤ sizeLine; decide), fun t0_2 ht0_2 => ?_⟩
    have s0_2 := same_new ht0_2 (.tup [.int p, .int g, .int (b + 1), .int d, .ref r])
    have f0_2 : upd G0_1 t0_2 (.tup [.int p, .int g, .int (b + 1), .int d, .ref r]) t0_2 = some (.tup [.int p, .int g, .int (b + 1), .int d, .ref r]) := upd_same
    replace s0_2 : Same G0_1 (upd G0_1 t0_2 (.tup [.int p, .int g, .int (b + 1), .int d, .ref r])) := s0_2
    dsimp only
    generalize upd G0_1 t0_2 (.tup [.int p, .int g, .int (b + 1), .int d, .ref r]) = G0_2 at s0_2 f0_2 ⊢
    refine ⟨_, rfl, _, rfl, _, rfl, _, _, rfl, rfl, _, rfl, _, rfl, (by show 5 ≤ sizeLine; decide), fun t0_3 ht0_3 => ?_⟩
    have s0_3 := same_new ht0_3 (.tup [.int p, .int g, .int (b - 1), .int d, .ref r])
    have f0_3 : upd G0_2 t0_3 (.tup [.int p, .int g, .int (b - 1), .int d, .ref r]) t0_3 = some (.tup [.int p, .int g, .int (b - 1), .int d, .ref r]) := upd_same
    replace s0_3 : Same G0_2 (upd G0_2 t0_3 (.tup [.int p, .int g, .int (b - 1), .int d, .ref r])) := s0_3
    dsimp only
    generalize upd G0_2 t0_3 (.tup [.int p, .int g, .int (b - 1), .int d, .ref r]) = G0_3 at s0_3 f0_3 ⊢
    refine ⟨(by show 4 ≤ sizeLine; decide), fun L0 hL0 => ?_⟩
    have sL0 := same_new hL0 (.lst [.ref t0_0, .ref t0_1, .ref t0_2, .ref t0_3])
    have fL0 : upd G0_3 L0 (.lst [.ref t0_0, .ref t0_1, .ref t0_2, .ref t0_3]) L0 = some (.lst [.ref t0_0, .ref t0_1, .ref t0_2, .ref t0_3]) := upd_same
    generalize upd G0_3 L0 (.lst [.ref t0_0, .ref t0_1, .ref t0_2, .ref t0_3]) = GL0 at sL0 fL0 ⊢
    have sA0 := (((((s0_0).trans s0_1).trans s0_2).trans s0_3).trans sL0)
    rcases (by omega : way = 0 ∨ way = 1 ∨ way = 2 ∨ way = 3) with rfl | rfl | rfl | rfl
    · refine ⟨_, rfl, L0, _, _, _, rfl, rfl, SqL.of fL0, rfl, ?_⟩
      have F := ((((s0_1).trans s0_2).trans s0_3).trans sL0) _ _ f0_0
      refine q (.ref t0_0) GL0 sA0 ⟨_, .five F (.int _) (.int _) (.int _) (.int _) (lvr sA0) sh⟩ (fun us hus x => ?_)
      obtain ⟨x1, x2, x3, x4, r5, x5, x6⟩ := RowIs.parts F x
      exact absurd x1 (int_ne (by omega))
    · refine ⟨_, rfl, L0, _, _, _, rfl, rfl, SqL.of fL0, rfl, ?_⟩
      have F := (((s0_2).trans s0_3).trans sL0) _ _ f0_1
      refine q (.ref t0_1) GL0 sA0 ⟨_, .five F (.int _) (.int _) (.int _) (.int _) (lvr sA0) sh⟩ (fun us hus x => ?_)
      obtain ⟨x1, x2, x3, x4, r5, x5, x6⟩ := RowIs.parts F x
      exact absurd x2 (int_ne (by omega))
    · refine ⟨_, rfl, L0, _, _, _, rfl, rfl, SqL.of fL0, rfl, ?_⟩
      have F := ((s0_3).trans sL0) _ _ f0_2
      refine q (.ref t0_2) GL0 sA0 ⟨_, .five F (.int _) (.int _) (.int _) (.int _) (lvr sA0) sh⟩ (fun us hus x => ?_)
      obtain ⟨x1, x2, x3, x4, r5, x5, x6⟩ := RowIs.parts F x
      exact absurd x3 (int_ne (by omega))
    · refine ⟨_, rfl, L0, _, _, _, rfl, rfl, SqL.of fL0, rfl, ?_⟩
      have F := sL0 _ _ f0_3
      refine q (.ref t0_3) GL0 sA0 ⟨_, .five F (.int _) (.int _) (.int _) (.int _) (lvr sA0) sh⟩ (fun us hus x => ?_)
      obtain ⟨x1, x2, x3, x4, r5, x5, x6⟩ := RowIs.parts F x
      exact absurd x3 (int_ne (by omega))
  refine iteDN c0 ?_
  refine ⟨_, rfl, _, _, rfl, rfl, _, rfl, ?_⟩
  by_cases c1 : way < 8
  · refine iteD c1 ?_
    refine ⟨_, rfl, _, rfl, _, rfl, _, rfl, _, _, rfl, rfl, _, rfl, (by show 5 ≤ sizeLine; decide), fun t4_0 ht4_0 => ?_⟩
    have s4_0 := same_new ht4_0 (.tup [.int p, .int g, .int b, .int (d + 1), .ref r])
    have f4_0 : upd H t4_0 (.tup [.int p, .int g, .int b, .int (d + 1), .ref r]) t4_0 = some (.tup [.int p, .int g, .int b, .int (d + 1), .ref r]) := upd_same
    replace s4_0 : Same H (upd H t4_0 (.tup [.int p, .int g, .int b, .int (d + 1), .ref r])) := s4_0
    dsimp only
    generalize upd H t4_0 (.tup [.int p, .int g, .int b, .int (d + 1), .ref r]) = G4_0 at s4_0 f4_0 ⊢
    refine ⟨_, rfl, _, rfl, _, rfl, _, rfl, _, rfl, (by show 1 ≤ sizeLine; decide), fun z41 hz41 => ?_⟩
    have s41a := same_new hz41 (.lst [.int 0])
    have e41a : upd G4_0 z41 (.lst [.int 0]) z41 = some (.lst [.int 0]) := upd_same
    generalize upd G4_0 z41 (.lst [.int 0]) = G41a at s41a e41a ⊢
    refine ⟨r, z41, _, _, rfl, rfl, SqL.of (((s4_0).trans s41a) _ _ hr'), SqL.of e41a, (by rw [List.length_map]; show zs.length + 1 ≤ _; omega), fun y41 hy41 => ?_⟩
    have s41b := same_new hy41 (.lst (zs.map V.int ++ [.int 0]))
    have e41b : upd G41a y41 (.lst (zs.map V.int ++ [.int 0])) y41 = some (.lst (zs.map V.int ++ [.int 0])) := upd_same
    generalize upd G41a y41 (.lst (zs.map V.int ++ [.int 0])) = G41b at s41b e41b ⊢
    refine ⟨(by show 5 ≤ sizeLine; decide), fun t4_1 ht4_1 => ?_⟩
    have s4_1 := same_new ht4_1 (.tup [.int p, .int g, .int b, .int d, .ref y41])
    have f4_1 : upd G41b t4_1 (.tup [.int p, .int g, .int b, .int d, .ref y41]) t4_1 = some (.tup [.int p, .int g, .int b, .int d, .ref y41]) := upd_same
    replace s4_1 : Same G41b (upd G41b t4_1 (.tup [.int p, .int g, .int b, .int d, .ref y41])) := s4_1
    dsimp only
    generalize upd G41b t4_1 (.tup [.int p, .int g, .int b, .int d, .ref y41]) = G4_1 at s4_1 f4_1 ⊢
    refine ⟨_, rfl, _, rfl, _, rfl, _, rfl, _, rfl, r, _, rfl, .inl ⟨SqL.of (((((s4_0).trans s41a).trans s41b).trans s4_1) _ _ hr'), fun z42 hz42 => ?_⟩⟩
    have s42a := same_new hz42 (.tup (zs.map V.int))
    have e42a : upd G4_1 z42 (.tup (zs.map V.int)) z42 = some (.tup (zs.map V.int)) := upd_same
    generalize upd G4_1 z42 (.tup (zs.map V.int)) = G42a at s42a e42a ⊢
    refine ⟨(by show 5 ≤ sizeLine; decide), fun t4_2 ht4_2 => ?_⟩
    have s4_2 := same_new ht4_2 (.tup [.int p, .int g, .int b, .int d, .ref z42])
    have f4_2 : upd G42a t4_2 (.tup [.int p, .int g, .int b, .int d, .ref z42]) t4_2 = some (.tup [.int p, .int g, .int b, .int d, .ref z42]) := upd_same
    replace s4_2 : Same G42a (upd G42a t4_2 (.tup [.int p, .int g, .int b, .int d, .ref z42])) := s4_2
    dsimp only
    generalize upd G42a t4_2 (.tup [.int p, .int g, .int b, .int d, .ref z42]) = G4_2 at s4_2 f4_2 ⊢
    refine ⟨_, rfl, _, rfl, _, rfl, _, rfl, _, rfl, (by show 5 ≤ sizeLine; decide), fun t4_3 ht4_3 => ?_⟩
    have s4_3 := same_new ht4_3 (.lst [.int p, .int g, .int b, .int d, .ref r])
    have f4_3 : upd G4_2 t4_3 (.lst [.int p, .int g, .int b, .int d, .ref r]) t4_3 = some (.lst [.int p, .int g, .int b, .int d, .ref r]) := upd_same
    replace s4_3 : Same G4_2 (upd G4_2 t4_3 (.lst [.int p, .int g, .int b, .int d, .ref r])) := s4_3
    dsimp only
    generalize upd G4_2 t4_3 (.lst [.int p, .int g, .int b, .int d, .ref r]) = G4_3 at s4_3 f4_3 ⊢
    refine ⟨(by show 4 ≤ sizeLine; decide), fun L4 hL4 => ?_⟩
    have sL4 := same_new hL4 (.lst [.ref t4_0, .ref t4_1, .ref t4_2, .ref t4_3])
    have fL4 : upd G4_3 L4 (.lst [.ref t4_0, .ref t4_1, .ref t4_2, .ref t4_3]) L4 = some (.lst [.ref t4_0, .ref t4_1, .ref t4_2, .ref t4_3]) := upd_same
    generalize upd G4_3 L4 (.lst [.ref t4_0, .ref t4_1, .ref t4_2, .ref t4_3]) = GL4 at sL4 fL4 ⊢
    have sA4 := ((((((((s4_0).trans s41a).trans s41b).trans s4_1).trans s42a).trans s4_2).trans s4_3).trans sL4)
    rcases (by omega : way = 4 ∨ way = 5 ∨ way = 6 ∨ way = 7) with rfl | rfl | rfl | rfl
    · refine ⟨_, rfl, _, _, rfl, rfl, L4, _, _, _, rfl, rfl, SqL.of fL4, rfl, ?_⟩
      have F := (((((((s41a).trans s41b).trans s4_1).trans s42a).trans s4_2).trans s4_3).trans sL4) _ _ f4_0
      refine q (.ref t4_0) GL4 sA4 ⟨_, .five F (.int _) (.int _) (.int _) (.int _) (lvr sA4) sh⟩ (fun us hus x => ?_)
      obtain ⟨x1, x2, x3, x4, r5, x5, x6⟩ := RowIs.parts F x
      exact absurd x4 (int_ne (by omega))
    · refine ⟨_, rfl, _, _, rfl, rfl, L4, _, _, _, rfl, rfl, SqL.of fL4, rfl, ?_⟩
      have F := ((((s42a).trans s4_2).trans s4_3).trans sL4) _ _ f4_1
      have F2 := (((((s4_1).trans s42a).trans s4_2).trans s4_3).trans sL4) _ _ e41b
      refine q (.ref t4_1) GL4 sA4 ⟨_, .five F (.int _) (.int _) (.int _) (.int _) (LV.snoc0 F2 (by omega)) (fun xs e => by cases e; rw [List.length_append, List.length_map]; show zs.length + 1 ≤ 100; omega)⟩ (fun us hus x => ?_)
      obtain ⟨x1, x2, x3, x4, r5, x5, x6⟩ := RowIs.parts F x
      cases x5
      rw [F2] at x6
      have e : zs.map V.int ++ [.int 0] = us.map V.int := by injection x6 with x6; injection x6
      intro z
      rw [z] at e
      have := congrArg List.length e
      rw [List.length_append] at this
      simp at this
    · refine ⟨_, rfl, _, _, rfl, rfl, L4, _, _, _, rfl, rfl, SqL.of fL4, rfl, ?_⟩
      have F := ((s4_3).trans sL4) _ _ f4_2
      have F2 := (((s4_2).trans s4_3).trans sL4) _ _ e42a
      refine q (.ref t4_2) GL4 sA4 ⟨_, .five F (.int _) (.int _) (.int _) (.int _) (.tup F2) (fun xs e => by cases e)⟩ (fun us hus x => ?_)
      obtain ⟨x1, x2, x3, x4, r5, x5, x6⟩ := RowIs.parts F x
      cases x5
      rw [F2] at x6
      cases x6
    · refine ⟨_, rfl, _, _, rfl, rfl, L4, _, _, _, rfl, rfl, SqL.of fL4, rfl, ?_⟩
      have F := sL4 _ _ f4_3
      exact q (.ref t4_3) GL4 sA4 ⟨_, .lst F⟩ (fun us _ x => by obtain ⟨_, _, e, e2, _⟩ := x; cases e; rw [F] at e2; cases e2)
  refine iteDN c1 ?_
  refine ⟨_, rfl, _, _, rfl, rfl, _, rfl, ?_⟩
  by_cases c2 : way < 12
  · refine iteD c2 ?_
    refine ⟨_, rfl, _, rfl, _, rfl, _, rfl, (by show 4 ≤ sizeLine; decide), fun t8_0 ht8_0 => ?_⟩
    have s8_0 := same_new ht8_0 (.tup [.int p, .int g, .int b, .int d])
    have f8_0 : upd H t8_0 (.tup [.int p, .int g, .int b, .int d]) t8_0 = some (.tup [.int p, .int g, .int b, .int d]) := upd_same
    replace s8_0 : Same H (upd H t8_0 (.tup [.int p, .int g, .int b, .int d])) := s8_0
    dsimp only
    generalize upd H t8_0 (.tup [.int p, .int g, .int b, .int d]) = G8_0 at s8_0 f8_0 ⊢
    refine ⟨_, rfl, _, rfl, _, rfl, _, rfl, _, rfl, (by show 6 ≤ sizeLine; decide), fun t8_1 ht8_1 => ?_⟩
    have s8_1 := same_new ht8_1 (.tup [.int p, .int g, .int b, .int d, .ref r, .int 0])
    have f8_1 : upd G8_0 t8_1 (.tup [.int p, .int g, .int b, .int d, .ref r, .int 0]) t8_1 = some (.tup [.int p, .int g, .int b, .int d, .ref r, .int 0]) := upd_same
    replace s8_1 : Same G8_0 (upd G8_0 t8_1 (.tup [.int p, .int g, .int b, .int d, .ref r, .int 0])) := s8_1
    dsimp only
    generalize upd G8_0 t8_1 (.tup [.int p, .int g, .int b, .int d, .ref r, .int 0]) = G8_1 at s8_1 f8_1 ⊢
    refine ⟨_, rfl, _, rfl, _, rfl, rfl, _, rfl, _, rfl, (by show 5 ≤ sizeLine; decide), fun t8_3 ht8_3 => ?_⟩
    have s8_3 := same_new ht8_3 (.tup [.int p, .int g, .bl (decide (V.int b = V.int 1)), .int d, .ref r])
    have f8_3 : upd G8_1 t8_3 (.tup [.int p, .int g, .bl (decide (V.int b = V.int 1)), .int d, .ref r]) t8_3 = some (.tup [.int p, .int g, .bl (decide (V.int b = V.int 1)), .int d, .ref r]) := upd_same
    replace s8_3 : Same G8_1 (upd G8_1 t8_3 (.tup [.int p, .int g, .bl (decide (V.int b = V.int 1)), .int d, .ref r])) := s8_3
    dsimp only
    generalize upd G8_1 t8_3 (.tup [.int p, .int g, .bl (decide (V.int b = V.int 1)), .int d, .ref r]) = G8_3 at s8_3 f8_3 ⊢
    refine ⟨(by show 4 ≤ sizeLine; decide), fun L8 hL8 => ?_⟩
    have sL8 := same_new hL8 (.lst [.ref t8_0, .ref t8_1, .non, .ref t8_3])
    have fL8 : upd G8_3 L8 (.lst [.ref t8_0, .ref t8_1, .non, .ref t8_3]) L8 = some (.lst [.ref t8_0, .ref t8_1, .non, .ref t8_3]) := upd_same
    generalize upd G8_3 L8 (.lst [.ref t8_0, .ref t8_1, .non, .ref t8_3]) = GL8 at sL8 fL8 ⊢
    have sA8 := ((((s8_0).trans s8_1).trans s8_3).trans sL8)
    rcases (by omega : way = 8 ∨ way = 9 ∨ way = 10 ∨ way = 11) with rfl | rfl | rfl | rfl
    · refine ⟨_, rfl, _, _, rfl, rfl, L8, _, _, _, rfl, rfl, SqL.of fL8, rfl, ?_⟩
      have F := (((s8_1).trans s8_3).trans sL8) _ _ f8_0
      exact q (.ref t8_0) GL8 sA8 ⟨_, .tup F (by show 4 ≠ 5; decide)⟩ (fun us _ x => by obtain ⟨_, _, e, e2, _⟩ := x; cases e; rw [F] at e2; cases e2)
    · refine ⟨_, rfl, _, _, rfl, rfl, L8, _, _, _, rfl, rfl, SqL.of fL8, rfl, ?_⟩
      have F := ((s8_3).trans sL8) _ _ f8_1
      exact q (.ref t8_1) GL8 sA8 ⟨_, .tup F (by show 6 ≠ 5; decide)⟩ (fun us _ x => by obtain ⟨_, _, e, e2, _⟩ := x; cases e; rw [F] at e2; cases e2)
    · refine ⟨_, rfl, _, _, rfl, rfl, L8, _, _, _, rfl, rfl, SqL.of fL8, rfl, ?_⟩
      exact q .non GL8 sA8 ⟨_, .non⟩ (fun us _ x => by obtain ⟨_, _, e, _⟩ := x; cases e)
    · refine ⟨_, rfl, _, _, rfl, rfl, L8, _, _, _, rfl, rfl, SqL.of fL8, rfl, ?_⟩
      have F := sL8 _ _ f8_3
      refine q (.ref t8_3) GL8 sA8 ⟨_, .five F (.int _) (.int _) (.bl _) (.int _) (lvr sA8) sh⟩ (fun us hus x => ?_)
      obtain ⟨x1, x2, x3, x4, r5, x5, x6⟩ := RowIs.parts F x
      cases x3
  refine iteDN c2 ?_
  refine ⟨_, rfl, _, _, rfl, rfl, _, rfl, ?_⟩
  by_cases c3 : way < 16
  · refine iteD c3 ?_
    refine ⟨_, rfl, _, _, rfl, rfl, _, rfl, ?_⟩
    by_cases cb : 0 < b
    · refine iteD cb ?_
      refine ⟨_, rfl, _, rfl, _, rfl, _, rfl, (by show 5 ≤ sizeLine; decide), fun t12_0 ht12_0 => ?_⟩
      have s12_0 := same_new ht12_0 (.tup [.int p, .int g, .int b, .int d, .non])
      have f12_0 : upd H t12_0 (.tup [.int p, .int g, .int b, .int d, .non]) t12_0 = some (.tup [.int p, .int g, .int b, .int d, .non]) := upd_same
      replace s12_0 : Same H (upd H t12_0 (.tup [.int p, .int g, .int b, .int d, .non])) := s12_0
      dsimp only
      generalize upd H t12_0 (.tup [.int p, .int g, .int b, .int d, .non]) = G12_0 at s12_0 f12_0 ⊢
      refine ⟨_, rfl, _, rfl, _, rfl, _, rfl, (by show 5 ≤ sizeLine; decide), fun t12_1 ht12_1 => ?_⟩
      have s12_1 := same_new ht12_1 (.tup [.non, .int g, .int b, .int d, .ref r])
      have f12_1 : upd G12_0 t12_1 (.tup [.non, .int g, .int b, .int d, .ref r]) t12_1 = some (.tup [.non, .int g, .int b, .int d, .ref r]) := upd_same
      replace s12_1 : Same G12_0 (upd G12_0 t12_1 (.tup [.non, .int g, .int b, .int d, .ref r])) := s12_1
      dsimp only
      generalize upd G12_0 t12_1 (.tup [.non, .int g, .int b, .int d, .ref r]) = G12_1 at s12_1 f12_1 ⊢
      refine ⟨_, rfl, _, rfl, _, rfl, _, _, rfl, rfl, _, rfl, _, rfl, _, _, rfl, rfl, _, rfl, _, rfl, (by show 5 ≤ sizeLine; decide), fun t12_2 ht12_2 => ?_⟩
      have s12_2 := same_new ht12_2 (.tup [.int p, .int (g - 1), .int (b - 1), .int d, .ref r])
      have f12_2 : upd G12_1 t12_2 (.tup [.int p, .int (g - 1), .int (b - 1), .int d, .ref r]) t12_2 = some (.tup [.int p, .int (g - 1), .int (b - 1), .int d, .ref r]) := upd_same
      replace s12_2 : Same G12_1 (upd G12_1 t12_2 (.tup [.int p, .int (g - 1), .int (b - 1), .int d, .ref r])) := s12_2
      dsimp only
      generalize upd G12_1 t12_2 (.tup [.int p, .int (g - 1), .int (b - 1), .int d, .ref r]) = G12_2 at s12_2 f12_2 ⊢
      refine ⟨_, rfl, _, rfl, rfl, _, rfl, _, rfl, _, rfl, (by show 5 ≤ sizeLine; decide), fun t12_3 ht12_3 => ?_⟩
      have s12_3 := same_new ht12_3 (.tup [.int p, .bl (decide (V.int g = V.int 1)), .int b, .int d, .ref r])
      have f12_3 : upd G12_2 t12_3 (.tup [.int p, .bl (decide (V.int g = V.int 1)), .int b, .int d, .ref r]) t12_3 = some (.tup [.int p, .bl (decide (V.int g = V.int 1)), .int b, .int d, .ref r]) := upd_same
      replace s12_3 : Same G12_2 (upd G12_2 t12_3 (.tup [.int p, .bl (decide (V.int g = V.int 1)), .int b, .int d, .ref r])) := s12_3
      dsimp only
      generalize upd G12_2 t12_3 (.tup [.int p, .bl (decide (V.int g = V.int 1)), .int b, .int d, .ref r]) = G12_3 at s12_3 f12_3 ⊢
      refine ⟨(by show 4 ≤ sizeLine; decide), fun L12 hL12 => ?_⟩
      have sL12 := same_new hL12 (.lst [.ref t12_0, .ref t12_1, .ref t12_2, .ref t12_3])
      have fL12 : upd G12_3 L12 (.lst [.ref t12_0, .ref t12_1, .ref t12_2, .ref t12_3]) L12 = some (.lst [.ref t12_0, .ref t12_1, .ref t12_2, .ref t12_3]) := upd_same
      generalize upd G12_3 L12 (.lst [.ref t12_0, .ref t12_1, .ref t12_2, .ref t12_3]) = GL12 at sL12 fL12 ⊢
      have sA12 := (((((s12_0).trans s12_1).trans s12_2).trans s12_3).trans sL12)
      rcases (by omega : way = 12 ∨ way = 13 ∨ way = 14 ∨ way = 15) with rfl | rfl | rfl | rfl
      · refine ⟨_, rfl, _, _, rfl, rfl, L12, _, _, _, rfl, rfl, SqL.of fL12, rfl, ?_⟩
        have F := ((((s12_1).trans s12_2).trans s12_3).trans sL12) _ _ f12_0
        refine q (.ref t12_0) GL12 sA12 ⟨_, .five F (.int _) (.int _) (.int _) (.int _) .non (fun xs e => by cases e)⟩ (fun us hus x => ?_)
        obtain ⟨x1, x2, x3, x4, r5, x5, x6⟩ := RowIs.parts F x
        cases x5
      · refine ⟨_, rfl, _, _, rfl, rfl, L12, _, _, _, rfl, rfl, SqL.of fL12, rfl, ?_⟩
        have F := (((s12_2).trans s12_3).trans sL12) _ _ f12_1
        refine q (.ref t12_1) GL12 sA12 ⟨_, .five F .non (.int _) (.int _) (.int _) (lvr sA12) sh⟩ (fun us hus x => ?_)
        obtain ⟨x1, x2, x3, x4, r5, x5, x6⟩ := RowIs.parts F x
        cases x1
      · refine ⟨_, rfl, _, _, rfl, rfl, L12, _, _, _, rfl, rfl, SqL.of fL12, rfl, ?_⟩
        have F := ((s12_3).trans sL12) _ _ f12_2
        refine q (.ref t12_2) GL12 sA12 ⟨_, .five F (.int _) (.int _) (.int _) (.int _) (lvr sA12) sh⟩ (fun us hus x => ?_)
        obtain ⟨x1, x2, x3, x4, r5, x5, x6⟩ := RowIs.parts F x
        exact absurd x2 (int_ne (by omega))
      · refine ⟨_, rfl, _, _, rfl, rfl, L12, _, _, _, rfl, rfl, SqL.of fL12, rfl, ?_⟩
        have F := sL12 _ _ f12_3
        refine q (.ref t12_3) GL12 sA12 ⟨_, .five F (.int _) (.bl _) (.int _) (.int _) (lvr sA12) sh⟩ (fun us hus x => ?_)
        obtain ⟨x1, x2, x3, x4, r5, x5, x6⟩ := RowIs.parts F x
        cases x2
    · refine iteDN cb ⟨_, _, rfl, rfl, ?_⟩
      refine ⟨_, rfl, _, rfl, _, rfl, _, rfl, (by show 5 ≤ sizeLine; decide), fun t12_0 ht12_0 => ?_⟩
      have s12_0 := same_new ht12_0 (.tup [.int p, .int g, .int b, .int d, .non])
      have f12_0 : upd H t12_0 (.tup [.int p, .int g, .int b, .int d, .non]) t12_0 = some (.tup [.int p, .int g, .int b, .int d, .non]) := upd_same
      replace s12_0 : Same H (upd H t12_0 (.tup [.int p, .int g, .int b, .int d, .non])) := s12_0
      dsimp only
      generalize upd H t12_0 (.tup [.int p, .int g, .int b, .int d, .non]) = G12_0 at s12_0 f12_0 ⊢
      refine ⟨_, rfl, _, rfl, _, rfl, _, rfl, (by show 5 ≤ sizeLine; decide), fun t12_1 ht12_1 => ?_⟩
      have s12_1 := same_new ht12_1 (.tup [.non, .int g, .int b, .int d, .ref r])
      have f12_1 : upd G12_0 t12_1 (.tup [.non, .int g, .int b, .int d, .ref r]) t12_1 = some (.tup [.non, .int g, .int b, .int d, .ref r]) := upd_same
      replace s12_1 : Same G12_0 (upd G12_0 t12_1 (.tup [.non, .int g, .int b, .int d, .ref r])) := s12_1
      dsimp only
      generalize upd G12_0 t12_1 (.tup [.non, .int g, .int b, .int d, .ref r]) = G12_1 at s12_1 f12_1 ⊢
      refine ⟨_, rfl, _, rfl, _, rfl, _, _, rfl, rfl, _, rfl, _, rfl, _, _, rfl, rfl, _, rfl, _, rfl, (by show 5 ≤ sizeLine; decide), fun t12_2 ht12_2 => ?_⟩
      have s12_2 := same_new ht12_2 (.tup [.int p, .int (g - (0 - 2)), .int (b - (0 - 2)), .int d, .ref r])
      have f12_2 : upd G12_1 t12_2 (.tup [.int p, .int (g - (0 - 2)), .int (b - (0 - 2)), .int d, .ref r]) t12_2 = some (.tup [.int p, .int (g - (0 - 2)), .int (b - (0 - 2)), .int d, .ref r]) := upd_same
      replace s12_2 : Same G12_1 (upd G12_1 t12_2 (.tup [.int p, .int (g - (0 - 2)), .int (b - (0 - 2)), .int d, .ref r])) := s12_2
      dsimp only
      generalize upd G12_1 t12_2 (.tup [.int p, .int (g - (0 - 2)), .int (b - (0 - 2)), .int d, .ref r]) = G12_2 at s12_2 f12_2 ⊢
      refine ⟨_, rfl, _, rfl, rfl, _, rfl, _, rfl, _, rfl, (by show 5 ≤ sizeLine; decide), fun t12_3 ht12_3 => ?_⟩
      have s12_3 := same_new ht12_3 (.tup [.int p, .bl (decide (V.int g = V.int 1)), .int b, .int d, .ref r])
      have f12_3 : upd G12_2 t12_3 (.tup [.int p, .bl (decide (V.int g = V.int 1)), .int b, .int d, .ref r]) t12_3 = some (.tup [.int p, .bl (decide (V.int g = V.int 1)), .int b, .int d, .ref r]) := upd_same
      replace s12_3 : Same G12_2 (upd G12_2 t12_3 (.tup [.int p, .bl (decide (V.int g = V.int 1)), .int b, .int d, .ref r])) := s12_3
      dsimp only
      generalize upd G12_2 t12_3 (.tup [.int p, .bl (decide (V.int g = V.int 1)), .int b, .int d, .ref r]) = G12_3 at s12_3 f12_3 ⊢
      refine ⟨(by show 4 ≤ sizeLine; decide), fun L12 hL12 => ?_⟩
      have sL12 := same_new hL12 (.lst [.ref t12_0, .ref t12_1, .ref t12_2, .ref t12_3])
      have fL12 : upd G12_3 L12 (.lst [.ref t12_0, .ref t12_1, .ref t12_2, .ref t12_3]) L12 = some (.lst [.ref t12_0, .ref t12_1, .ref t12_2, .ref t12_3]) := upd_same
      generalize upd G12_3 L12 (.lst [.ref t12_0, .ref t12_1, .ref t12_2, .ref t12_3]) = GL12 at sL12 fL12 ⊢
      have sA12 := (((((s12_0).trans s12_1).trans s12_2).trans s12_3).trans sL12)
      rcases (by omega : way = 12 ∨ way = 13 ∨ way = 14 ∨ way = 15) with rfl | rfl | rfl | rfl
      · refine ⟨_, rfl, _, _, rfl, rfl, L12, _, _, _, rfl, rfl, SqL.of fL12, rfl, ?_⟩
        have F := ((((s12_1).trans s12_2).trans s12_3).trans sL12) _ _ f12_0
        refine q (.ref t12_0) GL12 sA12 ⟨_, .five F (.int _) (.int _) (.int _) (.int _) .non (fun xs e => by cases e)⟩ (fun us hus x => ?_)
        obtain ⟨x1, x2, x3, x4, r5, x5, x6⟩ := RowIs.parts F x
        cases x5
      · refine ⟨_, rfl, _, _, rfl, rfl, L12, _, _, _, rfl, rfl, SqL.of fL12, rfl, ?_⟩
        have F := (((s12_2).trans s12_3).trans sL12) _ _ f12_1
        refine q (.ref t12_1) GL12 sA12 ⟨_, .five F .non (.int _) (.int _) (.int _) (lvr sA12) sh⟩ (fun us hus x => ?_)
        obtain ⟨x1, x2, x3, x4, r5, x5, x6⟩ := RowIs.parts F x
        cases x1
      · refine ⟨_, rfl, _, _, rfl, rfl, L12, _, _, _, rfl, rfl, SqL.of fL12, rfl, ?_⟩
        have F := ((s12_3).trans sL12) _ _ f12_2
        refine q (.ref t12_2) GL12 sA12 ⟨_, .five F (.int _) (.int _) (.int _) (.int _) (lvr sA12) sh⟩ (fun us hus x => ?_)
        obtain ⟨x1, x2, x3, x4, r5, x5, x6⟩ := RowIs.parts F x
        exact absurd x2 (int_ne (by omega))
      · refine ⟨_, rfl, _, _, rfl, rfl, L12, _, _, _, rfl, rfl, SqL.of fL12, rfl, ?_⟩
        have F := sL12 _ _ f12_3
        refine q (.ref t12_3) GL12 sA12 ⟨_, .five F (.int _) (.bl _) (.int _) (.int _) (lvr sA12) sh⟩ (fun us hus x => ?_)
        obtain ⟨x1, x2, x3, x4, r5, x5, x6⟩ := RowIs.parts F x
        cases x2
  refine iteDN c3 ?_
  refine ⟨_, rfl, _, rfl, _, rfl, _, rfl, rfl, _, rfl, (by show 5 ≤ sizeLine; decide), fun t16_0 ht16_0 => ?_⟩
  have s16_0 := same_new ht16_0 (.tup [.int p, .int g, .int b, .bl (decide (V.int d = V.int 1)), .ref r])
  have f16_0 : upd H t16_0 (.tup [.int p, .int g, .int b, .bl (decide (V.int d = V.int 1)), .ref r]) t16_0 = some (.tup [.int p, .int g, .int b, .bl (decide (V.int d = V.int 1)), .ref r]) := upd_same
  replace s16_0 : Same H (upd H t16_0 (.tup [.int p, .int g, .int b, .bl (decide (V.int d = V.int 1)), .ref r])) := s16_0
  dsimp only
  generalize upd H t16_0 (.tup [.int p, .int g, .int b, .bl (decide (V.int d = V.int 1)), .ref r]) = G16_0 at s16_0 f16_0 ⊢
  refine ⟨_, rfl, _, rfl, _, rfl, _, rfl, _, rfl, r, zs, rfl, s16_0 _ _ hr', by omega, fun v161 o161 G161a s161a lv161 sh161 nn161 => ?_⟩
  refine ⟨(by show 5 ≤ sizeLine; decide), fun t16_1 ht16_1 => ?_⟩
  have s16_1 := same_new ht16_1 (.tup [.int p, .int g, .int b, .int d, v161])
  have f16_1 : upd G161a t16_1 (.tup [.int p, .int g, .int b, .int d, v161]) t16_1 = some (.tup [.int p, .int g, .int b, .int d, v161]) := upd_same
  replace s16_1 : Same G161a (upd G161a t16_1 (.tup [.int p, .int g, .int b, .int d, v161])) := s16_1
  dsimp only
  generalize upd G161a t16_1 (.tup [.int p, .int g, .int b, .int d, v161]) = G16_1 at s16_1 f16_1 ⊢
  refine ⟨(by show 2 ≤ sizeLine; decide), fun L16 hL16 => ?_⟩
  have sL16 := same_new hL16 (.lst [.ref t16_0, .ref t16_1])
  have fL16 : upd G16_1 L16 (.lst [.ref t16_0, .ref t16_1]) L16 = some (.lst [.ref t16_0, .ref t16_1]) := upd_same
  generalize upd G16_1 L16 (.lst [.ref t16_0, .ref t16_1]) = GL16 at sL16 fL16 ⊢
  have sA16 := ((((s16_0).trans s161a).trans s16_1).trans sL16)
  rcases (by omega : way = 16 ∨ way = 17) with rfl | rfl
  · refine ⟨_, rfl, _, _, rfl, rfl, L16, _, _, _, rfl, rfl, SqL.of fL16, rfl, ?_⟩
    have F := (((s161a).trans s16_1).trans sL16) _ _ f16_0
    refine q (.ref t16_0) GL16 sA16 ⟨_, .five F (.int _) (.int _) (.int _) (.bl _) (lvr sA16) sh⟩ (fun us hus x => ?_)
    obtain ⟨x1, x2, x3, x4, r5, x5, x6⟩ := RowIs.parts F x
    cases x4
  · refine ⟨_, rfl, _, _, rfl, rfl, L16, _, _, _, rfl, rfl, SqL.of fL16, rfl, ?_⟩
    have F := sL16 _ _ f16_1
    refine q (.ref t16_1) GL16 sA16 ⟨_, .five F (.int _) (.int _) (.int _) (.int _) (lv161.same (((s16_1).trans sL16))) sh161⟩ (fun us hus x => ?_)
    obtain ⟨x1, x2, x3, x4, r5, x5, x6⟩ := RowIs.parts F x
    subst x5
    have lv := lv161.same (((s16_1).trans sL16))
    cases lv with
    | lst h3 _ _ => rw [h3] at x6; injection x6 with x6; injection x6 with x6; exact absurd (congrArg some x6) (nn161 us)
    | tup h3 => rw [h3] at x6; cases x6
    | dct h3 => rw [h3] at x6; cases x6
theorem cut_takeV (xs : List V) (k : Nat) (hk : k ≤ xs.length) : cutV xs none (some (k : Int)) = xs.take k := by
  unfold cutV
  rw [HT.sIx_none, HT.sIx_nat, Nat.min_eq_left hk, List.drop_zero, Nat.sub_zero]
theorem cut_dropV (xs : List V) (k : Nat) (hk : k ≤ xs.length) : cutV xs (some (k : Int)) none = xs.drop k := by
  unfold cutV
  rw [HT.sIx_none, HT.sIx_nat, Nat.min_eq_left hk, List.take_of_length_le (by rw [List.length_drop]; exact Nat.le_refl _)]
theorem cut_initV (xs : List V) (v : V) : cutV (xs ++ [v]) none (some (-1)) = xs := by
  unfold cutV
  have e : HT.sIx (xs ++ [v]).length (xs ++ [v]).length (some (-1)) = xs.length := by
    have : HT.sIx (xs ++ [v]).length (xs ++ [v]).length (some (-1)) = ((-1 : Int) + (((xs ++ [v]).length : Nat) : Int)).toNat := rfl
    rw [this, List.length_append, List.length_singleton]
    omega
  rw [HT.sIx_none, e, List.drop_zero, Nat.sub_zero, List.take_left]
theorem cut_lastV (xs : List V) (v : V) : cutV (xs ++ [v]) (some (-1)) none = [v] := by
  unfold cutV
  have e : HT.sIx (xs ++ [v]).length 0 (some (-1)) = xs.length := by
    have : HT.sIx (xs ++ [v]).length 0 (some (-1)) = ((-1 : Int) + (((xs ++ [v]).length : Nat) : Int)).toNat := rfl
    rw [this, List.length_append, List.length_singleton]
    omega
  rw [HT.sIx_none, e, List.drop_left, List.length_append, Nat.add_sub_cancel_left]
  rfl
abbrev RowAt (w : Int) (xs ys : List Int) (j : Nat) (H : Hp) (u : V) : Prop := RowT w ((cntN xs ys : Int) - 1 - (j : Int)) (nJ (2 ^ w.toNat) (uW w xs ys) (lW w ys) (cntN xs ys) j) (lW w ys) (ys.length - 1) H u
theorem notDiv_row {H : Hp} {w : Int} {xs ys : List Int} {q r : V} {l : Addr} {vs : List V} {j : Nat} {u : V} (hl : H l = some (.lst vs)) (hu : vs[j]? = some u) (hn : ¬ RowAt w xs ys j H u) : ¬ DivT H w xs ys q r (.ref l) := fun d => by
  obtain ⟨l', vs', e1, e2, _, e4⟩ := d.2.2
  cases e1
  rw [hl] at e2
  cases e2
  exact hn (e4 j u hu)
theorem notDiv_len {H : Hp} {w : Int} {xs ys : List Int} {q r : V} {l : Addr} {vs : List V} (hl : H l = some (.lst vs)) (hn : vs.length ≠ cntN xs ys) : ¬ DivT H w xs ys q r (.ref l) := fun d => by
  obtain ⟨l', vs', e1, e2, e3, _⟩ := d.2.2
  cases e1
  rw [hl] at e2
  cases e2
  exact hn e3
theorem notDiv_rows {H : Hp} {w : Int} {xs ys : List Int} {q r rows : V} (hn : ∀ l vs, rows = .ref l → H l ≠ some (.lst vs)) : ¬ DivT H w xs ys q r rows := fun d => by
  obtain ⟨l', vs', e1, e2, _⟩ := d.2.2
  exact hn l' vs' e1 e2
theorem notDiv_q {H : Hp} {w : Int} {xs ys : List Int} {q r rows : V} (hn : ∀ (a : Addr) (ws : List Int), q = .ref a → H a = some (.lst (ws.map V.int)) → Ln w ws → nm w ws ≠ nm w xs / nm w ys) : ¬ DivT H w xs ys q r rows := fun d => by
  obtain ⟨a, ws, e1, e2, e3, e4⟩ := d.1
  exact hn a ws e1 e2 e3 e4
theorem notDiv_r {H : Hp} {w : Int} {xs ys : List Int} {q r rows : V} (hn : ∀ (a : Addr) (ws : List Int), r = .ref a → H a = some (.lst (ws.map V.int)) → Ln w ws → nm w ws ≠ nm w xs % nm w ys) : ¬ DivT H w xs ys q r rows := fun d => by
  obtain ⟨a, ws, e1, e2, e3, e4⟩ := d.2.1
  exact hn a ws e1 e2 e3 e4
theorem RowT.not {H H' : Hp} {w pl D L : Int} {n : Nat} {u v : V} {p g b d : Int} {zs : List Int} (rt : RowT w pl D L n H u) (ri : RowIs H u p g b d zs) (hn : ∀ us : List Int, us.getLast? ≠ some 0 → RowIs H' v p g b d us → us ≠ zs) : ¬ RowT w pl D L n H' v := by
  rintro ⟨rs, x, lr, nr⟩
  obtain ⟨rs0, x0, l0, n0⟩ := rt
  obtain ⟨a1, a2, a3, a4, a5⟩ := RowIs.nums x0 ri
  subst a1 a2 a3 a4 a5
  exact hn rs lr.la x (Ln.eq lr l0 (by rw [nr, n0]))
theorem rl_of {H : Hp} {l : Addr} {vs : List V} (h : H l = some (.lst vs)) (x : ∀ e ∈ vs, ∃ o, RV H e o) : ∃ o, RL H (.ref l) o := ⟨_, .inl ⟨l, vs, rfl, h, rfl, x⟩⟩
theorem lq_of {H : Hp} {a : Addr} {ws : List Int} (h : H a = some (.lst (ws.map V.int))) (n : ws.length ≤ 99) : ∃ o, LV H (.ref a) o ∧ Short o := ⟨_, LV.ints h (by omega), short_ints (by omega)⟩
theorem lW_lt {w : Int} {ys : List Int} (h1 : 4 ≤ w) (h2 : w ≤ 32) (ly : Lg w ys) (yn : ys ≠ []) (hl : ys.length ≤ 45) : lW w ys < (2 ^ w.toNat) ^ 98 := by
  obtain ⟨t0, t1, t2, t3⟩ := lt_turn h1 h2 ly.ln' yn
  have hB := p_pos w.toNat
  have pb := pw_bounds h1 h2
  have hT := p_pos (turnI w ys).toNat
  have tw : (2 : Int) ^ (turnI w ys).toNat ≤ 2 ^ w.toNat := p_mono (by omega)
  have a := num_lt hB ly.wd
  have a0 := num_nonneg hB ly.wd
  have b : ((2 : Int) ^ w.toNat) ^ ys.length ≤ (2 ^ w.toNat) ^ 97 := Int.le_of_lt (pow_lt_pow (by omega) (by omega))
  show num (2 ^ w.toNat) ys * 2 ^ (turnI w ys).toNat < _
  rw [Int.pow_succ _ 97]
  have c : num (2 ^ w.toNat) ys * 2 ^ (turnI w ys).toNat < (2 ^ w.toNat) ^ 97 * 2 ^ (turnI w ys).toNat := Int.mul_lt_mul_of_pos_right (by omega) hT
  have d : ((2 : Int) ^ w.toNat) ^ 97 * 2 ^ (turnI w ys).toNat ≤ (2 ^ w.toNat) ^ 97 * 2 ^ w.toNat := Int.mul_le_mul_of_nonneg_left tw (Int.le_of_lt (Int.pow_pos hB))
  omega
theorem lW_pos {w : Int} {ys : List Int} (ly : Lg w ys) (yn : ys ≠ []) : 0 < lW w ys := Int.mul_pos (num_pos (p_pos _) ly.wd yn ly.la) (p_pos _)
theorem Hon.rv {H : Hp} {w : Int} {xs ys : List Int} {t : Addr} {qs rs : List Int} {us : List V} (m : Made H w xs ys t qs rs us) : ∀ e ∈ us, ∃ o, RV H e o := fun e he => by
  obtain ⟨j, hj, rfl⟩ := List.getElem_of_mem he
  obtain ⟨p, g, b, d, zs, x, _, n⟩ := m.ok j _ (List.getElem?_eq_getElem hj)
  exact x.rv (by omega)
theorem ok__law_last {f : Addr} {fd : FuncData} (F : Fun K "_law_last" "_law_last" s__law_last f fd) (T : Txt K mg) (H__law_plus : Has P w K mg base 2 "_law_plus" ["_law_words_here", "_law_more", "_law_width"] spPlus) : FnOk P w K mg base CX0 3 f fd ["_law_way", "_law_honest", "_law_width"] spLast := by
  refine F.ok sc__law_last (fun vs H Q E h => ?_) (fun cdv A outer s H vs Q E hr h => ?_)
  · obtain ⟨way, w, t, xs, ys, qs, rs, us, rfl, _⟩ := h
    rfl
  obtain ⟨way, w, t, xs, ys, qs, rs, us, rfl, h1, h2, lx, ly, yn, lx45, ly45, w0, w1, HN, q⟩ := h
  refine ⟨_, (pss_cons (ps_asg (pv 1) (pg_tup rfl (pgs_cons (pg_name (i := 3) sc__law_last.nd rfl (Or.inl rfl)) (pgs_cons (pg_name (i := 4) sc__law_last.nd rfl (Or.inl rfl)) (pgs_cons (pg_name (i := 5) sc__law_last.nd rfl (Or.inl rfl)) (pgs_cons (pg_name (i := 6) sc__law_last.nd rfl (Or.inl rfl)) (pgs_cons (pg_name (i := 7) sc__law_last.nd rfl (Or.inl rfl)) pgs_nil)))))))
    (pss_cons (ps_if (pt_cmpR (op_eq0 (Nat.lt_of_succ_lt (hu_of hr))) (pv 5) (pe_lst pa_nil) (nomark _))
      (pss_one (ps_ret (pe_tup (pa_cons (pv 3) (pa_cons (pv 4) (pa_cons (pe_lst (pa_cons (pe_tup (pa_cons pe_int (pa_cons pe_int (pa_cons pe_int (pa_cons pe_int (pa_cons (pe_callTy call_list_of rfl T.n_list boot_list (pa_cons (pv 4) pa_nil)) pa_nil)))))) pa_nil)) pa_nil))))))
      pss_nil)
    (pss_cons (ps_asg (pe_ix ix_list (pv 5) (pe_un un_neg pe_int) (fun _ _ => rfl)) (pg_tup rfl (pgs_cons (pg_name (i := 8) sc__law_last.nd rfl (Or.inl rfl)) (pgs_cons (pg_name (i := 9) sc__law_last.nd rfl (Or.inl rfl)) (pgs_cons (pg_name (i := 10) sc__law_last.nd rfl (Or.inl rfl)) (pgs_cons (pg_name (i := 11) sc__law_last.nd rfl (Or.inl rfl)) (pgs_cons (pg_name (i := 12) sc__law_last.nd rfl (Or.inl rfl)) pgs_nil)))))))
    (pss_join (ps_if (PW.pt (pw_and (pt_cmpR op_eq (pv 0) pe_int (nomark _)) (pw_and (pt_cmpR op_gt (pv 11) pe_int (nomark _)) (pw_and1 (pt_cmpR op_lt (pv 10) pe_int (nomark _))))))
      (pss_cons (ps_set (i := 13) sc__law_last.nd rfl (Or.inl rfl) (pe_tup (pa_cons (pv 8) (pa_cons (pv 9) (pa_cons (pe_op op_add (pv 10) pe_int) (pa_cons (pe_op op_sub (pv 11) pe_int) (pa_cons (pe_fn H__law_plus (hr.mono (by omega)) rfl (pa_cons (pv 12) (pa_cons (pv 7) (pa_cons (pv 2) pa_nil)))) pa_nil)))))))
      (pss_one (ps_ret (pe_tup (pa_cons (pe_fn H__law_plus (hr.mono (by omega)) rfl (pa_cons (pv 3) (pa_cons (pe_op op_sub pe_int pe_int) (pa_cons (pv 2) pa_nil)))) (pa_cons (pe_fn H__law_plus (hr.mono (by omega)) rfl (pa_cons (pv 4) (pa_cons (pe_op op_shr (pv 7) (pv 6)) (pa_cons (pv 2) pa_nil)))) (pa_cons (pe_op op_addL (pe_slice sl_list (pv 5) po_none (po_some (pe_un un_neg pe_int))) (pe_lst (pa_cons (pv 13) pa_nil))) pa_nil)))))))
      pss_nil)
    (pss_join (ps_if (PW.pt (pw_and (pt_cmpR op_eq (pv 0) pe_int (nomark _)) (pw_and1 (pt_cmpR op_gt (pv 6) pe_int (nomark _)))))
      (pss_one (ps_ret (pe_tup (pa_cons (pv 3) (pa_cons (pv 4) (pa_cons (pe_op op_addL (pe_slice sl_list (pv 5) po_none (po_some (pe_un un_neg pe_int))) (pe_lst (pa_cons (pe_tup (pa_cons (pv 8) (pa_cons (pv 9) (pa_cons (pv 10) (pa_cons (pv 11) (pa_cons (pe_fn H__law_plus (hr.mono (by omega)) rfl (pa_cons (pv 12) (pa_cons pe_int (pa_cons (pv 2) pa_nil)))) pa_nil)))))) pa_nil))) pa_nil))))))
      pss_nil)
    (pss_cons (ps_if (pt_cmpR op_eq (pv 0) pe_int (nomark _))
      (pss_one (ps_ret (pe_tup (pa_cons (pv 3) (pa_cons (pv 4) (pa_cons (pe_op op_addL (pe_slice sl_list (pv 5) po_none (po_some (pe_un un_neg pe_int))) (pe_lst (pa_cons (pe_tup (pa_cons pe_bl (pa_cons (pv 9) (pa_cons (pv 10) (pa_cons (pv 11) (pa_cons (pv 12) pa_nil)))))) pa_nil))) pa_nil))))))
      pss_nil)
    (pss_one (ps_ret (pe_tup (pa_cons (pv 3) (pa_cons (pv 4) (pa_cons (pe_op op_addL (pv 5) (pe_slice sl_list (pv 5) (po_some (pe_un un_neg pe_int)) po_none)) pa_nil)))))))))))), ?_⟩
  obtain ⟨⟨⟨qa, ra, la, ht, hq, hr', hl⟩, lq, lr, nq, nr, vl, ok⟩, eq, er, hrw⟩ := id HN
  have rvs := Hon.rv HN.md
  have big : (1001 : Nat) ≤ sizeLine := by decide
  have cn : cntN xs ys ≤ 46 := by unfold cntN; omega
  have hB := p_pos w.toNat
  have pb := pw_bounds h1 h2
  have p98 : (1 : Int) ≤ (2 ^ w.toNat) ^ 98 := Int.pow_pos hB
  have p98b : (2 : Int) ≤ (2 ^ w.toNat) ^ 98 := by
    rw [Int.pow_succ _ 97]
    have : (1 : Int) ≤ (2 ^ w.toNat) ^ 97 := Int.pow_pos hB
    have := Int.mul_le_mul_of_nonneg_right this (show (0 : Int) ≤ 2 ^ w.toNat by omega)
    omega
  have L98 := lW_lt h1 h2 ly yn ly45
  have L0 := lW_pos ly yn
  obtain ⟨t0, t1, t2, t3⟩ := lt_turn h1 h2 ly.ln' yn
  refine ⟨_, rfl, t, _, rfl, SqT.of ht, rfl, _, _, rfl, _, _, rfl, _, _, rfl, _, _, rfl, _, _, rfl, rfl, ?_⟩
  refine ⟨_, rfl, (by show 0 ≤ sizeLine; decide), fun z hz => ?_⟩
  have s1 := same_new hz (.lst [])
  refine ⟨la, z, _, rfl, rfl, SqL.of (s1 _ _ hl), SqL.of upd_same, _, rfl, ?_⟩
  generalize upd H z (.lst []) = H1 at s1 ⊢
  rcases List.eq_nil_or_concat us with rfl | ⟨us', ul, rfl⟩
  · refine iteT ?_
    refine ⟨_, rfl, _, rfl, _, rfl, ra, _, rfl, .inl (SqL.of (s1 _ _ hr')), fun r2 hr2 => ?_⟩
    have s2 := same_new hr2 (.lst (rs.map V.int))
    have f2 : upd H1 r2 (.lst (rs.map V.int)) r2 = some (.lst (rs.map V.int)) := upd_same
    generalize upd H1 r2 (.lst (rs.map V.int)) = H2 at s2 f2 ⊢
    refine ⟨(by show 5 ≤ sizeLine; decide), fun t1 ht1 => ?_⟩
    have s3 := same_new ht1 (.tup [.int 0, .int 0, .int 0, .int 0, .ref r2])
    have f3 : upd H2 t1 (.tup [.int 0, .int 0, .int 0, .int 0, .ref r2]) t1 = some (.tup [.int 0, .int 0, .int 0, .int 0, .ref r2]) := upd_same
    generalize upd H2 t1 (.tup [.int 0, .int 0, .int 0, .int 0, .ref r2]) = H3 at s3 f3 ⊢
    refine ⟨(by show 1 ≤ sizeLine; decide), fun l1 hl1 => ?_⟩
    have s4 := same_new hl1 (.lst [.ref t1])
    have f4 : upd H3 l1 (.lst [.ref t1]) l1 = some (.lst [.ref t1]) := upd_same
    generalize upd H3 l1 (.lst [.ref t1]) = H4 at s4 f4 ⊢
    refine ⟨(by show 3 ≤ sizeLine; decide), fun t5 ht5 => ?_⟩
    have s5 := same_new ht5 (.tup [.ref qa, .ref ra, .ref l1])
    have sA := (((s1.trans s2).trans s3).trans s4).trans s5
    refine q t5 (.ref qa) (.ref ra) (.ref l1) _ sA upd_same ⟨lq_of (sA _ _ hq) (by omega), lq_of (sA _ _ hr') (by omega), rl_of (s5 _ _ f4) fun e he => ?_⟩ (notDiv_len (s5 _ _ f4) (by rw [← vl]; show 1 ≠ 0; decide))
    rw [List.mem_singleton.mp he]
    exact ⟨_, .five ((s4.trans s5) _ _ f3) (.int _) (.int _) (.int _) (.int _) (LV.ints (((s3.trans s4).trans s5) _ _ f2) (by omega)) (short_ints (by omega))⟩
  have e0 : (us' ++ [ul]).isEmpty = false := by simp
  rw [List.concat_eq_append] at *
  rw [e0]
  refine iteF ?_
  have hul : (us' ++ [ul])[us'.length]? = some ul := by rw [List.getElem?_append_right (Nat.le_refl _), Nat.sub_self]; rfl
  have vl' : us'.length + 1 = cntN xs ys := by rw [← vl, List.length_append]; rfl
  obtain ⟨p, g, b, d, zs, RI, lz, lzl⟩ := ok _ _ hul
  have RT := hrw _ _ hul
  have RI0 := RI
  obtain ⟨tl, rb, rfl, htl, hrb⟩ := RI
  have rvs' : ∀ {G : Hp}, Same H G → ∀ e ∈ us', ∃ o, RV G e o := fun s e he => by
    obtain ⟨o, x⟩ := rvs e (List.mem_append_left _ he)
    exact ⟨o, x.same s⟩
  refine ⟨_, rfl, _, rfl, la, _, _, _, rfl, rfl, SqL.of (s1 _ _ hl), atI_last us' (.ref tl), tl, _, rfl, SqT.of (s1 _ _ htl), rfl, _, _, rfl, _, _, rfl, _, _, rfl, _, _, rfl, _, _, rfl, rfl, ?_⟩
  have fin : ∀ {G : Hp} {q' r' : V} {l3 : Addr} {x : V}, Same H G → (∃ o, LV G q' o ∧ Short o) → (∃ o, LV G r' o ∧ Short o) → G l3 = some (.lst (us' ++ [x])) → (∃ o, RV G x o) → (∀ us : List Int, us.getLast? ≠ some 0 → RowIs G x p g b d us → us ≠ zs) → Told G q' r' (.ref l3) ∧ ¬ DivT G w xs ys q' r' (.ref l3) := by
    intro G q' r' l3 x sG lq' lr' h3 rvx nx
    refine ⟨⟨lq', lr', rl_of h3 fun e he => ?_⟩, notDiv_row (j := us'.length) h3 (by rw [List.getElem?_append_right (Nat.le_refl _), Nat.sub_self]; rfl) (RT.not RI0 nx)⟩
    rcases List.mem_append.mp he with he | he
    · exact rvs' sG e he
    · rw [List.mem_singleton.mp he]
      exact rvx
  have L100 : us'.length + 1 ≤ sizeLine := by omega
  refine ⟨fun σ2 G => σ2 = [some (.int way), some (.ref t), some (.int w), some (.ref qa), some (.ref ra), some (.ref la), some (.int (turnI w ys)), some (.int (lW w ys)), some (.int p), some (.int g), some (.int b), some (.int d), some (.ref rb), none] ∧ G = H1, ?_, ?_⟩
  · refine ⟨_, rfl, rfl, _, rfl, ?_⟩
    by_cases c0 : way = 0
    rotate_left
    · exact iteDN (fun z => c0 (by injection z)) ⟨rfl, rfl⟩
    refine iteD (congrArg V.int c0) ?_
    refine ⟨_, rfl, _, _, rfl, rfl, _, rfl, ?_⟩
    by_cases c1 : 0 < d
    rotate_left
    · exact iteDN c1 ⟨rfl, rfl⟩
    refine iteD c1 ?_
    refine ⟨_, rfl, _, _, rfl, rfl, _, rfl, ?_⟩
    by_cases c2 : b < 2
    rotate_left
    · exact iteDN c2 ⟨rfl, rfl⟩
    refine iteD c2 ?_
    refine ⟨_, rfl, _, rfl, _, rfl, _, _, rfl, rfl, _, rfl, _, _, rfl, rfl, _, rfl, _, rfl, _, rfl, rb, zs, lW w ys, w, rfl, h1, h2, s1 _ _ hrb, lz, by omega, L98, fun p1 us1 H2 s2 hp1 lu1 ul1 eu1 => ?_⟩
    refine ⟨(by show 5 ≤ sizeLine; decide), fun tr htr => ?_⟩
    have s3 := same_new htr (.tup [.int p, .int g, .int (b + 1), .int (d - 1), .ref p1])
    have f3 : upd H2 tr (.tup [.int p, .int g, .int (b + 1), .int (d - 1), .ref p1]) tr = some (.tup [.int p, .int g, .int (b + 1), .int (d - 1), .ref p1]) := upd_same
    dsimp only
    generalize upd H2 tr (.tup [.int p, .int g, .int (b + 1), .int (d - 1), .ref p1]) = H3 at s3 f3 ⊢
    have s13 := (s1.trans s2).trans s3
    refine ⟨_, rfl, _, _, rfl, rfl, _, rfl, qa, qs, 0 - 1, w, rfl, h1, h2, s13 _ _ hq, lq, by omega, by omega, fun q4 us4 H4 s4 hq4 lu4 ul4 eu4 => ?_⟩
    have s14 := s13.trans s4
    have lt1 : lW w ys / 2 ^ (turnI w ys).toNat < (2 ^ w.toNat) ^ 98 := Int.lt_of_le_of_lt (Int.ediv_le_self _ (Int.le_of_lt L0)) L98
    refine ⟨_, rfl, _, rfl, _, rfl, _, _, rfl, rfl, t0, _, rfl, ra, rs, _, w, rfl, h1, h2, s14 _ _ hr', lr, by omega, lt1, fun r5 us5 H5 s5 hr5 lu5 ul5 eu5 => ?_⟩
    have s15 := s14.trans s5
    refine ⟨_, rfl, _, rfl, _, rfl, la, _, rfl, SqL.of (s15 _ _ hl), fun l6 hl6 => ?_⟩
    rw [cut_initV]
    have s6 := same_new hl6 (.lst us')
    have f6 : upd H5 l6 (.lst us') l6 = some (.lst us') := upd_same
    generalize upd H5 l6 (.lst us') = H6 at s6 f6 ⊢
    refine ⟨_, rfl, (by show 1 ≤ sizeLine; decide), fun l7 hl7 => ?_⟩
    have s7 := same_new hl7 (.lst [.ref tr])
    have f7 : upd H6 l7 (.lst [.ref tr]) l7 = some (.lst [.ref tr]) := upd_same
    generalize upd H6 l7 (.lst [.ref tr]) = H7 at s7 f7 ⊢
    refine ⟨l6, l7, _, _, rfl, rfl, SqL.of (s7 _ _ f6), SqL.of f7, L100, fun l8 hl8 => ?_⟩
    have s8 := same_new hl8 (.lst (us' ++ [.ref tr]))
    have f8 : upd H7 l8 (.lst (us' ++ [.ref tr])) l8 = some (.lst (us' ++ [.ref tr])) := upd_same
    generalize upd H7 l8 (.lst (us' ++ [.ref tr])) = H8 at s8 f8 ⊢
    refine ⟨(by show 3 ≤ sizeLine; decide), fun t9 ht9 => ?_⟩
    have s9 := same_new ht9 (.tup [.ref q4, .ref r5, .ref l8])
    have s59 := ((s6.trans s7).trans s8).trans s9
    have s49 := s5.trans s59
    have s39 := s4.trans s49
    have F := s39 _ _ f3
    obtain ⟨TD, ND⟩ := fin (s15.trans s59) (lq_of (s49 _ _ hq4) ul4) (lq_of (s59 _ _ hr5) ul5) (s9 _ _ f8) ⟨_, .five F (.int _) (.int _) (.int _) (.int _) (LV.ints (s39 _ _ (s3 _ _ hp1)) (by omega)) (short_ints (by omega))⟩ (fun us hus x => absurd (RowIs.parts F x).2.2.1 (int_ne (by omega)))
    exact q t9 _ _ _ _ (s15.trans s59) upd_same TD ND
  rintro σ2 G ⟨rfl, rfl⟩
  refine ⟨fun σ2 G2 => σ2 = [some (.int way), some (.ref t), some (.int w), some (.ref qa), some (.ref ra), some (.ref la), some (.int (turnI w ys)), some (.int (lW w ys)), some (.int p), some (.int g), some (.int b), some (.int d), some (.ref rb), none] ∧ G2 = G, ?_, ?_⟩
  · refine ⟨_, rfl, rfl, _, rfl, ?_⟩
    by_cases c0 : way = 1
    rotate_left
    · exact iteDN (fun z => c0 (by injection z)) ⟨rfl, rfl⟩
    refine iteD (congrArg V.int c0) ?_
    refine ⟨_, rfl, _, _, rfl, rfl, _, rfl, ?_⟩
    by_cases c1 : 0 < turnI w ys
    rotate_left
    · exact iteDN c1 ⟨rfl, rfl⟩
    refine iteD c1 ?_
    refine ⟨_, rfl, _, rfl, _, rfl, _, rfl, _, rfl, la, _, rfl, SqL.of (s1 _ _ hl), fun l6 hl6 => ?_⟩
    rw [cut_initV]
    have s6 := same_new hl6 (.lst us')
    have f6 : upd G l6 (.lst us') l6 = some (.lst us') := upd_same
    generalize upd G l6 (.lst us') = H6 at s6 f6 ⊢
    have s16 := s1.trans s6
    refine ⟨_, rfl, _, rfl, _, rfl, _, rfl, _, rfl, _, rfl, rb, zs, 1, w, rfl, h1, h2, s16 _ _ hrb, lz, by omega, by omega, fun p1 us1 H2 s2 hp1 lu1 ul1 eu1 => ?_⟩
    have s12 := s16.trans s2
    refine ⟨(by show 5 ≤ sizeLine; decide), fun tr htr => ?_⟩
    have s3 := same_new htr (.tup [.int p, .int g, .int b, .int d, .ref p1])
    have f3 : upd H2 tr (.tup [.int p, .int g, .int b, .int d, .ref p1]) tr = some (.tup [.int p, .int g, .int b, .int d, .ref p1]) := upd_same
    generalize upd H2 tr (.tup [.int p, .int g, .int b, .int d, .ref p1]) = H3 at s3 f3 ⊢
    refine ⟨(by show 1 ≤ sizeLine; decide), fun l7 hl7 => ?_⟩
    have s7 := same_new hl7 (.lst [.ref tr])
    have f7 : upd H3 l7 (.lst [.ref tr]) l7 = some (.lst [.ref tr]) := upd_same
    generalize upd H3 l7 (.lst [.ref tr]) = H7 at s7 f7 ⊢
    refine ⟨l6, l7, _, _, rfl, rfl, SqL.of (s7 _ _ (s3 _ _ (s2 _ _ f6))), SqL.of f7, L100, fun l8 hl8 => ?_⟩
    have s8 := same_new hl8 (.lst (us' ++ [.ref tr]))
    have f8 : upd H7 l8 (.lst (us' ++ [.ref tr])) l8 = some (.lst (us' ++ [.ref tr])) := upd_same
    generalize upd H7 l8 (.lst (us' ++ [.ref tr])) = H8 at s8 f8 ⊢
    refine ⟨(by show 3 ≤ sizeLine; decide), fun t9 ht9 => ?_⟩
    have s9 := same_new ht9 (.tup [.ref qa, .ref ra, .ref l8])
    have s39 := (s7.trans s8).trans s9
    have sA := (s12.trans s3).trans s39
    have F := s39 _ _ f3
    have F1 := s39 _ _ (s3 _ _ hp1)
    obtain ⟨TD, ND⟩ := fin sA (lq_of (sA _ _ hq) (by omega)) (lq_of (sA _ _ hr') (by omega)) (s9 _ _ f8) ⟨_, .five F (.int _) (.int _) (.int _) (.int _) (LV.ints F1 (by omega)) (short_ints (by omega))⟩ (fun us hus x z => by
      obtain ⟨_, _, _, _, r5, x5, x6⟩ := RowIs.parts F x
      cases x5
      rw [F1] at x6
      have : us1 = us := ints_inj (by injection x6 with x6; injection x6)
      rw [this, z] at eu1
      have n0 := num_nonneg hB lz.wd
      have : nm w zs = num (2 ^ w.toNat) zs := rfl
      rw [if_pos (by omega)] at eu1
      omega)
    exact q t9 _ _ _ _ sA upd_same TD ND
  rintro σ2 G2 ⟨rfl, rfl⟩
  refine ⟨_, rfl, rfl, _, rfl, ?_⟩
  by_cases c2 : way = 2
  · refine iteD (congrArg V.int c2) ?_
    refine ⟨_, rfl, _, rfl, _, rfl, _, rfl, _, rfl, la, _, rfl, SqL.of (s1 _ _ hl), fun l6 hl6 => ?_⟩
    rw [cut_initV]
    have s6 := same_new hl6 (.lst us')
    have f6 : upd G2 l6 (.lst us') l6 = some (.lst us') := upd_same
    generalize upd G2 l6 (.lst us') = H6 at s6 f6 ⊢
    have s16 := s1.trans s6
    refine ⟨_, rfl, _, rfl, _, rfl, _, rfl, (by show 5 ≤ sizeLine; decide), fun tr htr => ?_⟩
    have s3 := same_new htr (.tup [.bl false, .int g, .int b, .int d, .ref rb])
    have f3 : upd H6 tr (.tup [.bl false, .int g, .int b, .int d, .ref rb]) tr = some (.tup [.bl false, .int g, .int b, .int d, .ref rb]) := upd_same
    generalize upd H6 tr (.tup [.bl false, .int g, .int b, .int d, .ref rb]) = H3 at s3 f3 ⊢
    refine ⟨(by show 1 ≤ sizeLine; decide), fun l7 hl7 => ?_⟩
    have s7 := same_new hl7 (.lst [.ref tr])
    have f7 : upd H3 l7 (.lst [.ref tr]) l7 = some (.lst [.ref tr]) := upd_same
    generalize upd H3 l7 (.lst [.ref tr]) = H7 at s7 f7 ⊢
    refine ⟨l6, l7, _, _, rfl, rfl, SqL.of (s7 _ _ (s3 _ _ f6)), SqL.of f7, L100, fun l8 hl8 => ?_⟩
    have s8 := same_new hl8 (.lst (us' ++ [.ref tr]))
    have f8 : upd H7 l8 (.lst (us' ++ [.ref tr])) l8 = some (.lst (us' ++ [.ref tr])) := upd_same
    generalize upd H7 l8 (.lst (us' ++ [.ref tr])) = H8 at s8 f8 ⊢
    refine ⟨(by show 3 ≤ sizeLine; decide), fun t9 ht9 => ?_⟩
    have s9 := same_new ht9 (.tup [.ref qa, .ref ra, .ref l8])
    have s39 := (s7.trans s8).trans s9
    have sA := (s16.trans s3).trans s39
    have F := s39 _ _ f3
    obtain ⟨TD, ND⟩ := fin sA (lq_of (sA _ _ hq) (by omega)) (lq_of (sA _ _ hr') (by omega)) (s9 _ _ f8) ⟨_, .five F (.bl _) (.int _) (.int _) (.int _) (LV.ints (sA _ _ hrb) (by omega)) (short_ints (by omega))⟩ (fun us hus x => by cases (RowIs.parts F x).1)
    exact q t9 _ _ _ _ sA upd_same TD ND
  refine iteDN (fun z => c2 (by injection z)) ?_
  refine ⟨_, rfl, _, rfl, _, rfl, _, rfl, _, rfl, _, rfl, la, _, rfl, SqL.of (s1 _ _ hl), fun l6 hl6 => ?_⟩
  rw [cut_lastV]
  have s6 := same_new hl6 (.lst [.ref tl])
  have f6 : upd G2 l6 (.lst [.ref tl]) l6 = some (.lst [.ref tl]) := upd_same
  generalize upd G2 l6 (.lst [.ref tl]) = H6 at s6 f6 ⊢
  have s16 := s1.trans s6
  refine ⟨la, l6, _, _, rfl, rfl, SqL.of (s16 _ _ hl), SqL.of f6, (by rw [List.length_append]; show us'.length + 1 + 1 ≤ _; omega), fun l8 hl8 => ?_⟩
  have s8 := same_new hl8 (.lst ((us' ++ [.ref tl]) ++ [.ref tl]))
  have f8 : upd H6 l8 (.lst ((us' ++ [.ref tl]) ++ [.ref tl])) l8 = some (.lst ((us' ++ [.ref tl]) ++ [.ref tl])) := upd_same
  generalize upd H6 l8 (.lst ((us' ++ [.ref tl]) ++ [.ref tl])) = H8 at s8 f8 ⊢
  refine ⟨(by show 3 ≤ sizeLine; decide), fun t9 ht9 => ?_⟩
  have s9 := same_new ht9 (.tup [.ref qa, .ref ra, .ref l8])
  have sA := (s16.trans s8).trans s9
  refine q t9 (.ref qa) (.ref ra) (.ref l8) _ sA upd_same ⟨lq_of (sA _ _ hq) (by omega), lq_of (sA _ _ hr') (by omega), rl_of (s9 _ _ f8) fun e he => ?_⟩ (notDiv_len (s9 _ _ f8) (by rw [← vl, List.length_append]; show _ + 1 ≠ _; omega))
  have he' : e ∈ us' ++ [.ref tl] := by
    rcases List.mem_append.mp he with he | he
    · exact he
    · exact List.mem_append_right _ he
  obtain ⟨o, x⟩ := rvs e he'
  exact ⟨o, x.same sA⟩
theorem not_snoc {H : Hp} {a y : Addr} {w : Int} {zs ws : List Int} {P : Prop} (F : H y = some (.lst (zs.map V.int ++ [.int 0]))) (z1 : V.ref y = .ref a) (z2 : H a = some (.lst (ws.map V.int))) (z3 : Ln w ws) : P := by
  cases z1
  rw [F] at z2
  have e : zs.map V.int ++ [.int 0] = ws.map V.int := by injection z2 with z2; injection z2
  have e2 : (zs ++ [0]).map V.int = ws.map V.int := by rw [List.map_append]; exact e
  have e3 := ints_inj e2
  exact absurd (by rw [← e3, List.getLast?_concat]) z3.la
theorem not_ints {H : Hp} {v : V} {o : Option (List V)} {a : Addr} {ws : List Int} {P : Prop} (lv : LV H v o) (nn : ∀ us : List Int, o ≠ some (us.map V.int)) (z1 : v = .ref a) (z2 : H a = some (.lst (ws.map V.int))) : P := by
  subst z1
  cases lv with
  | lst h3 _ _ => rw [h3] at z2; injection z2 with z2; injection z2 with z2; exact absurd (congrArg some z2) (nn ws)
  | tup h3 => rw [h3] at z2; cases z2
  | dct h3 => rw [h3] at z2; cases z2
theorem sh0 {zs : List Int} (n : zs.length ≤ 98) : Short (some (zs.map V.int ++ [V.int 0])) := fun xs e => by cases e; rw [List.length_append, List.length_map]; show zs.length + 1 ≤ 100; omega
theorem four_at {H : Hp} {dd : Addr} {at' : Int} (h : H dd = some (.dK [])) : ∃ x, atI [.non, .ref dd, .str "rows", .int 0] (at' % 4) = some x ∧ LV H x none := by
  have a0 := Int.emod_nonneg at' (show (4 : Int) ≠ 0 by decide)
  have a1 := Int.emod_lt_of_pos at' (show (0 : Int) < 4 by decide)
  rcases (by omega : at' % 4 = 0 ∨ at' % 4 = 1 ∨ at' % 4 = 2 ∨ at' % 4 = 3) with e | e | e | e <;> rw [e]
  · exact ⟨_, rfl, .non⟩
  · exact ⟨_, rfl, .dct h⟩
  · exact ⟨_, rfl, .str _⟩
  · exact ⟨_, rfl, .int 0⟩
theorem ok__law_forged {f : Addr} {fd : FuncData} (F : Fun K "_law_forged" "_law_forged" s__law_forged f fd) (T : Txt K mg) (H__law_last : Has P w K mg base 3 "_law_last" ["_law_way", "_law_honest", "_law_width"] spLast) (H__law_plus : Has P w K mg base 2 "_law_plus" ["_law_words_here", "_law_more", "_law_width"] spPlus) (H__law_truth : Has P w K mg base 1 "_law_truth" ["_law_words_here"] spTruth) (H__law_row_forged : Has P w K mg base 2 "_law_row_forged" ["_law_way", "_law_row"] spRowF) : FnOk P w K mg base CX0 4 f fd ["_law_way", "_law_at", "_law_honest", "_law_width"] spForg := by
  refine F.ok sc__law_forged (fun vs H Q E h => ?_) (fun cdv A outer s H vs Q E hr h => ?_)
  · obtain ⟨way, at', w, t, xs, ys, qs, rs, us, rfl, _⟩ := h
    rfl
  obtain ⟨way, at', w, t, xs, ys, qs, rs, us, rfl, h1, h2, lx, ly, yn, lx45, ly45, w0, w1, HN, q⟩ := h
  refine ⟨_, (pss_cons (ps_asg (pv 2) (pg_tup rfl (pgs_cons (pg_name (i := 4) sc__law_forged.nd rfl (Or.inl rfl)) (pgs_cons (pg_name (i := 5) sc__law_forged.nd rfl (Or.inl rfl)) (pgs_cons (pg_name (i := 6) sc__law_forged.nd rfl (Or.inl rfl)) (pgs_cons (pg_name (i := 7) sc__law_forged.nd rfl (Or.inl rfl)) (pgs_cons (pg_name (i := 8) sc__law_forged.nd rfl (Or.inl rfl)) pgs_nil)))))))
    (pss_join (ps_if (PW.pt (pw_and (pt_cmpR op_lt (pv 0) pe_int (nomark _)) (pw_and1 (pt_cmpR (op_ne0 (Nat.lt_of_succ_lt (hu_of hr))) (pv 6) (pe_lst pa_nil) (nomark _)))))
      (pss_cons (ps_set (i := 1) sc__law_forged.nd rfl (Or.inl rfl) (pe_op op_mod (pv 1) (pe_callB call_len_seq rfl T.n_len boot_len (pa_cons (pv 6) pa_nil))))
      (pss_one (ps_ret (pe_tup (pa_cons (pv 4) (pa_cons (pv 5) (pa_cons (pe_op op_addL (pe_op op_addL (pe_slice sl_list (pv 6) po_none (po_some (pv 1))) (pe_lst (pa_cons (pe_fn H__law_row_forged (hr.mono (by omega)) rfl (pa_cons (pv 0) (pa_cons (pe_ix ix_list (pv 6) (pv 1) (fun _ _ => rfl)) pa_nil))) pa_nil))) (pe_slice sl_list (pv 6) (po_some (pe_op op_add (pv 1) pe_int)) po_none)) pa_nil)))))))
      pss_nil)
    (pss_cons (ps_if (pt_cmpR op_lt (pv 0) pe_int (nomark _))
      (pss_one (ps_ret (pe_fn H__law_last (hr.mono (by omega)) rfl (pa_cons (pe_op op_mod (pv 0) pe_int) (pa_cons (pv 2) (pa_cons (pv 3) pa_nil))))))
      pss_nil)
    (pss_cons (ps_if (pt_cmpR op_lt (pv 0) pe_int (nomark _))
      (pss_one (ps_ret (pe_ix ix_list (pe_lst (pa_cons (pe_tup (pa_cons (pe_fn H__law_plus (hr.mono (by omega)) rfl (pa_cons (pv 4) (pa_cons pe_int (pa_cons (pv 3) pa_nil)))) (pa_cons (pv 5) (pa_cons (pv 6) pa_nil)))) (pa_cons (pe_tup (pa_cons (pv 4) (pa_cons (pe_fn H__law_plus (hr.mono (by omega)) rfl (pa_cons (pv 5) (pa_cons pe_int (pa_cons (pv 3) pa_nil)))) (pa_cons (pv 6) pa_nil)))) (pa_cons (pe_tup (pa_cons (pe_op op_addL (pv 4) (pe_lst (pa_cons pe_int pa_nil))) (pa_cons (pv 5) (pa_cons (pv 6) pa_nil)))) (pa_cons (pe_tup (pa_cons (pv 4) (pa_cons (pe_op op_addL (pv 5) (pe_lst (pa_cons pe_int pa_nil))) (pa_cons (pv 6) pa_nil)))) pa_nil))))) (pe_op op_sub (pv 0) pe_int) (fun _ _ => rfl))))
      pss_nil)
    (pss_cons (ps_if (pt_cmpR op_lt (pv 0) pe_int (nomark _))
      (pss_one (ps_ret (pe_ix ix_list (pe_lst (pa_cons (pe_tup (pa_cons (pe_callTy call_tuple_of rfl T.n_tuple boot_tuple (pa_cons (pv 4) pa_nil)) (pa_cons (pv 5) (pa_cons (pv 6) pa_nil)))) (pa_cons (pe_tup (pa_cons (pv 4) (pa_cons (pe_callTy call_tuple_of rfl T.n_tuple boot_tuple (pa_cons (pv 5) pa_nil)) (pa_cons (pv 6) pa_nil)))) (pa_cons (pe_tup (pa_cons (pv 4) (pa_cons (pv 5) (pa_cons (pe_callTy call_tuple_of rfl T.n_tuple boot_tuple (pa_cons (pv 6) pa_nil)) pa_nil)))) (pa_cons (pe_tup (pa_cons pe_non (pa_cons (pv 5) (pa_cons (pv 6) pa_nil)))) pa_nil))))) (pe_op op_sub (pv 0) pe_int) (fun _ _ => rfl))))
      pss_nil)
    (pss_cons (ps_if (pt_cmpR op_lt (pv 0) pe_int (nomark _))
      (pss_one (ps_ret (pe_ix ix_list (pe_lst (pa_cons (pe_tup (pa_cons (pv 4) (pa_cons pe_non (pa_cons (pv 6) pa_nil)))) (pa_cons (pe_tup (pa_cons (pv 4) (pa_cons (pv 5) (pa_cons (pe_ix ix_list (pe_lst (pa_cons pe_non (pa_cons pe_dnewK (pa_cons pe_str (pa_cons pe_int pa_nil))))) (pe_op op_mod (pv 1) pe_int) (fun _ _ => rfl)) pa_nil)))) (pa_cons (pe_tup (pa_cons (pe_fn H__law_truth (hr.mono (by omega)) rfl (pa_cons (pv 4) pa_nil)) (pa_cons (pv 5) (pa_cons (pv 6) pa_nil)))) (pa_cons (pe_tup (pa_cons (pv 4) (pa_cons (pe_fn H__law_truth (hr.mono (by omega)) rfl (pa_cons (pv 5) pa_nil)) (pa_cons (pv 6) pa_nil)))) pa_nil))))) (pe_op op_sub (pv 0) pe_int) (fun _ _ => rfl))))
      pss_nil)
    (pss_cons (ps_if (PW.pt (pw_or (pt_cmpR op_eq (pv 0) pe_int (nomark _)) (pw_or1 (pt_cmpR op_lt (pe_callB call_len_seq rfl T.n_len boot_len (pa_cons (pv 6) pa_nil)) pe_int (nomark _)))))
      (pss_one (ps_ret (pe_tup (pa_cons (pv 4) (pa_cons (pv 5) (pa_cons (pe_ifExp (pt_cmpR (op_ne0 (Nat.lt_of_succ_lt (hu_of hr))) (pv 6) (pe_lst pa_nil) (nomark _)) (pe_slice sl_list (pv 6) (po_some pe_int) po_none) (pe_lst (pa_cons (pe_tup pa_nil) pa_nil))) pa_nil))))))
      pss_nil)
    (pss_one (ps_ret (pe_tup (pa_cons (pv 4) (pa_cons (pv 5) (pa_cons (pe_rev (pv 6)) pa_nil))))))))))))), ?_⟩
  obtain ⟨⟨⟨qa, ra, la, ht, hq, hr', hl⟩, lq, lr, nq, nr, vl, ok⟩, eq, er, hrw⟩ := id HN
  have rvs := Hon.rv HN.md
  have rvA : ∀ {G : Hp}, Same H G → ∀ e ∈ us, ∃ o, RV G e o := fun s e he => by
    obtain ⟨o, x⟩ := rvs e he
    exact ⟨o, x.same s⟩
  have big : (1001 : Nat) ≤ sizeLine := by decide
  have cn : cntN xs ys ≤ 46 := by unfold cntN; omega
  have hB := p_pos w.toNat
  have pb := pw_bounds h1 h2
  have p98b : (2 : Int) ≤ (2 ^ w.toNat) ^ 98 := by
    rw [Int.pow_succ _ 97]
    have : (1 : Int) ≤ (2 ^ w.toNat) ^ 97 := Int.pow_pos hB
    have := Int.mul_le_mul_of_nonneg_right this (show (0 : Int) ≤ 2 ^ w.toNat by omega)
    omega
  refine ⟨_, rfl, t, _, rfl, SqT.of ht, rfl, _, _, rfl, _, _, rfl, _, _, rfl, _, _, rfl, _, _, rfl, rfl, ?_⟩
  refine ⟨fun σ2 G => σ2 = [some (.int way), some (.int at'), some (.ref t), some (.int w), some (.ref qa), some (.ref ra), some (.ref la), some (.int (turnI w ys)), some (.int (lW w ys))] ∧ Same H G, ?_, ?_⟩
  · refine ⟨_, rfl, _, _, rfl, rfl, _, rfl, ?_⟩
    by_cases c0 : way < 18
    rotate_left
    · exact iteDN c0 ⟨rfl, Same.refl H⟩
    refine iteD c0 ?_
    refine ⟨_, rfl, (by show 0 ≤ sizeLine; decide), fun z hz => ?_⟩
    have s1 := same_new hz (.lst [])
    refine ⟨la, z, _, rfl, rfl, SqL.of (s1 _ _ hl), SqL.of upd_same, _, rfl, ?_⟩
    generalize upd H z (.lst []) = H1 at s1 ⊢
    by_cases cu : us = []
    · rw [show us.isEmpty = true by rw [cu]; rfl]
      exact iteF ⟨rfl, s1⟩
    have ul : 0 < us.length := List.length_pos_iff.mpr cu
    rw [show us.isEmpty = false by cases us <;> first | exact absurd rfl cu | rfl]
    refine iteT ?_
    have a0 := Int.emod_nonneg at' (show ((us.length : Nat) : Int) ≠ 0 by omega)
    have a1 := Int.emod_lt_of_pos at' (show 0 < ((us.length : Nat) : Int) by omega)
    refine ⟨_, rfl, _, rfl, la, _, rfl, .inl (SqL.of (s1 _ _ hl)), _, _, rfl, rfl, (show 0 < ((us.length : Nat) : Int) by omega), ?_⟩
    dsimp only
    obtain ⟨k, ek⟩ : ∃ k : Nat, at' % ((us.length : Nat) : Int) = (k : Int) := ⟨(at' % ((us.length : Nat) : Int)).toNat, by omega⟩
    rw [ek] at a0 a1 ⊢
    have hk : k < us.length := by omega
    have hu : us[k]? = some us[k] := List.getElem?_eq_getElem hk
    obtain ⟨p, g, b, d, zs, RI, lz, lzl⟩ := ok _ _ hu
    have RT := hrw _ _ hu
    refine ⟨_, rfl, _, rfl, _, rfl, _, rfl, _, rfl, la, _, rfl, SqL.of (s1 _ _ hl), fun l1 hl1 => ?_⟩
    rw [cut_takeV us k (by omega)]
    have s2 := same_new hl1 (.lst (us.take k))
    have f2 : upd H1 l1 (.lst (us.take k)) l1 = some (.lst (us.take k)) := upd_same
    generalize upd H1 l1 (.lst (us.take k)) = H2 at s2 f2 ⊢
    have s12 := s1.trans s2
    refine ⟨_, rfl, _, rfl, _, rfl, la, _, _, _, rfl, rfl, SqL.of (s12 _ _ hl), atI_nat hu, way, us[k], p, g, b, d, zs, rfl, w0, c0, RI.same s12, lzl, lz.la, fun v' H3 s3 rvx nx => ?_⟩
    have s13 := s12.trans s3
    refine ⟨(by show 1 ≤ sizeLine; decide), fun l4 hl4 => ?_⟩
    have s4 := same_new hl4 (.lst [v'])
    have f4 : upd H3 l4 (.lst [v']) l4 = some (.lst [v']) := upd_same
    generalize upd H3 l4 (.lst [v']) = H4 at s4 f4 ⊢
    refine ⟨l1, l4, _, _, rfl, rfl, SqL.of (s4 _ _ (s3 _ _ f2)), SqL.of f4, (by rw [List.length_take]; show _ + 1 ≤ _; omega), fun l5 hl5 => ?_⟩
    have s5 := same_new hl5 (.lst (us.take k ++ [v']))
    have f5 : upd H4 l5 (.lst (us.take k ++ [v'])) l5 = some (.lst (us.take k ++ [v'])) := upd_same
    generalize upd H4 l5 (.lst (us.take k ++ [v'])) = H5 at s5 f5 ⊢
    have s15 := (s13.trans s4).trans s5
    refine ⟨_, rfl, _, rfl, _, _, rfl, rfl, _, rfl, la, _, rfl, SqL.of (s15 _ _ hl), fun l6 hl6 => ?_⟩
    have ec : cutV us (some ((k : Int) + 1)) none = us.drop (k + 1) := cut_dropV us (k + 1) (by omega)
    dsimp only
    rw [ec]
    have s6 := same_new hl6 (.lst (us.drop (k + 1)))
    have f6 : upd H5 l6 (.lst (us.drop (k + 1))) l6 = some (.lst (us.drop (k + 1))) := upd_same
    generalize upd H5 l6 (.lst (us.drop (k + 1))) = H6 at s6 f6 ⊢
    refine ⟨l5, l6, _, _, rfl, rfl, SqL.of (s6 _ _ f5), SqL.of f6, (by rw [List.length_append, List.length_take, List.length_drop]; show _ + 1 + _ ≤ _; omega), fun l7 hl7 => ?_⟩
    have s7 := same_new hl7 (.lst ((us.take k ++ [v']) ++ us.drop (k + 1)))
    have f7 : upd H6 l7 (.lst ((us.take k ++ [v']) ++ us.drop (k + 1))) l7 = some (.lst ((us.take k ++ [v']) ++ us.drop (k + 1))) := upd_same
    generalize upd H6 l7 (.lst ((us.take k ++ [v']) ++ us.drop (k + 1))) = H7 at s7 f7 ⊢
    refine ⟨(by show 3 ≤ sizeLine; decide), fun t8 ht8 => ?_⟩
    have s8 := same_new ht8 (.tup [.ref qa, .ref ra, .ref l7])
    have s38 := (((s4.trans s5).trans s6).trans s7).trans s8
    have sA := s13.trans s38
    have tl : (us.take k).length = k := by rw [List.length_take]; omega
    refine q t8 (.ref qa) (.ref ra) (.ref l7) _ sA upd_same ⟨lq_of (sA _ _ hq) (by omega), lq_of (sA _ _ hr') (by omega), rl_of (s8 _ _ f7) fun e he => ?_⟩ (notDiv_row (j := k) (u := v') (s8 _ _ f7) ?_ (RT.not RI fun us' hl' x => ?_))
    · rcases List.mem_append.mp he with he | he
      · rcases List.mem_append.mp he with he | he
        · exact rvA sA e (List.mem_of_mem_take he)
        · rw [List.mem_singleton.mp he]
          obtain ⟨o, x⟩ := rvx
          exact ⟨o, x.same s38⟩
      · exact rvA sA e (List.mem_of_mem_drop he)
    · rw [List.getElem?_append_left (by rw [List.length_append, tl]; show k < k + 1; omega), List.getElem?_append_right (by omega), tl, Nat.sub_self]
      rfl
    · exact nx us' hl' (x.of s38 rvx)
  rintro σ2 G ⟨rfl, SS⟩
  have R := Same.refl G
  refine ⟨_, rfl, _, _, rfl, rfl, _, rfl, ?_⟩
  by_cases c1 : way < 22
  · refine iteD c1 ?_
    have b0 := Int.emod_nonneg way (show (4 : Int) ≠ 0 by decide)
    have b1 := Int.emod_lt_of_pos way (show (0 : Int) < 4 by decide)
    refine ⟨_, rfl, _, _, rfl, rfl, (show (0 : Int) < 4 by decide), _, rfl, _, rfl, way % 4, w, t, xs, ys, qs, rs, us, rfl, h1, h2, lx, ly, yn, lx45, ly45, b0, b1, HN.same SS, fun t' q' r' rows' H' s' ht' td nd => q t' q' r' rows' H' (SS.trans s') ht' td nd⟩
  refine iteDN c1 ?_
  refine ⟨_, rfl, _, _, rfl, rfl, _, rfl, ?_⟩
  by_cases c22 : way < 26
  · refine iteD c22 ?_
    refine ⟨_, rfl, _, rfl, qa, qs, 1, w, rfl, h1, h2, (SS _ _ hq), lq, by omega, by omega, fun a0 us0 G_a0 s_a0 ha0 lu0 ul0 eu0 => ?_⟩
    refine ⟨_, rfl, _, rfl, (by show 3 ≤ sizeLine; decide), fun t0 ht0 => ?_⟩
    have s_t0 := same_new ht0 (.tup [.ref a0, .ref ra, .ref la])
    have f_t0 : upd G_a0 t0 (.tup [.ref a0, .ref ra, .ref la]) t0 = some (.tup [.ref a0, .ref ra, .ref la]) := upd_same
    generalize upd G_a0 t0 (.tup [.ref a0, .ref ra, .ref la]) = G_t0 at s_t0 f_t0 ⊢
    refine ⟨_, rfl, _, rfl, _, rfl, ra, rs, 1, w, rfl, h1, h2, ((SS.trans ((s_a0).trans s_t0)) _ _ hr'), lr, by omega, by omega, fun a1 us1 G_a1 s_a1 ha1 lu1 ul1 eu1 => ?_⟩
    refine ⟨_, rfl, (by show 3 ≤ sizeLine; decide), fun t1 ht1 => ?_⟩
    have s_t1 := same_new ht1 (.tup [.ref qa, .ref a1, .ref la])
    have f_t1 : upd G_a1 t1 (.tup [.ref qa, .ref a1, .ref la]) t1 = some (.tup [.ref qa, .ref a1, .ref la]) := upd_same
    generalize upd G_a1 t1 (.tup [.ref qa, .ref a1, .ref la]) = G_t1 at s_t1 f_t1 ⊢
    refine ⟨_, rfl, (by show 1 ≤ sizeLine; decide), fun z2 hz2 => ?_⟩
    have s_z2 := same_new hz2 (.lst [.int 0])
    have f_z2 : upd G_t1 z2 (.lst [.int 0]) z2 = some (.lst [.int 0]) := upd_same
    generalize upd G_t1 z2 (.lst [.int 0]) = G_z2 at s_z2 f_z2 ⊢
    refine ⟨qa, z2, _, _, rfl, rfl, SqL.of ((SS.trans (((((s_a0).trans s_t0).trans s_a1).trans s_t1).trans s_z2)) _ _ hq), SqL.of f_z2, (by rw [List.length_map]; show qs.length + 1 ≤ _; omega), fun y2 hy2 => ?_⟩
    have s_y2 := same_new hy2 (.lst (qs.map V.int ++ [.int 0]))
    have f_y2 : upd G_z2 y2 (.lst (qs.map V.int ++ [.int 0])) y2 = some (.lst (qs.map V.int ++ [.int 0])) := upd_same
    generalize upd G_z2 y2 (.lst (qs.map V.int ++ [.int 0])) = G_y2 at s_y2 f_y2 ⊢
    refine ⟨_, rfl, _, rfl, (by show 3 ≤ sizeLine; decide), fun t2 ht2 => ?_⟩
    have s_t2 := same_new ht2 (.tup [.ref y2, .ref ra, .ref la])
    have f_t2 : upd G_y2 t2 (.tup [.ref y2, .ref ra, .ref la]) t2 = some (.tup [.ref y2, .ref ra, .ref la]) := upd_same
    generalize upd G_y2 t2 (.tup [.ref y2, .ref ra, .ref la]) = G_t2 at s_t2 f_t2 ⊢
    refine ⟨_, rfl, _, rfl, (by show 1 ≤ sizeLine; decide), fun z3 hz3 => ?_⟩
    have s_z3 := same_new hz3 (.lst [.int 0])
    have f_z3 : upd G_t2 z3 (.lst [.int 0]) z3 = some (.lst [.int 0]) := upd_same
    generalize upd G_t2 z3 (.lst [.int 0]) = G_z3 at s_z3 f_z3 ⊢
    refine ⟨ra, z3, _, _, rfl, rfl, SqL.of ((SS.trans ((((((((s_a0).trans s_t0).trans s_a1).trans s_t1).trans s_z2).trans s_y2).trans s_t2).trans s_z3)) _ _ hr'), SqL.of f_z3, (by rw [List.length_map]; show rs.length + 1 ≤ _; omega), fun y3 hy3 => ?_⟩
    have s_y3 := same_new hy3 (.lst (rs.map V.int ++ [.int 0]))
    have f_y3 : upd G_z3 y3 (.lst (rs.map V.int ++ [.int 0])) y3 = some (.lst (rs.map V.int ++ [.int 0])) := upd_same
    generalize upd G_z3 y3 (.lst (rs.map V.int ++ [.int 0])) = G_y3 at s_y3 f_y3 ⊢
    refine ⟨_, rfl, (by show 3 ≤ sizeLine; decide), fun t3 ht3 => ?_⟩
    have s_t3 := same_new ht3 (.tup [.ref qa, .ref y3, .ref la])
    have f_t3 : upd G_y3 t3 (.tup [.ref qa, .ref y3, .ref la]) t3 = some (.tup [.ref qa, .ref y3, .ref la]) := upd_same
    generalize upd G_y3 t3 (.tup [.ref qa, .ref y3, .ref la]) = G_t3 at s_t3 f_t3 ⊢
    refine ⟨(by show 4 ≤ sizeLine; decide), fun LL hLL => ?_⟩
    have s_LL := same_new hLL (.lst [.ref t0, .ref t1, .ref t2, .ref t3])
    have f_LL : upd G_t3 LL (.lst [.ref t0, .ref t1, .ref t2, .ref t3]) LL = some (.lst [.ref t0, .ref t1, .ref t2, .ref t3]) := upd_same
    generalize upd G_t3 LL (.lst [.ref t0, .ref t1, .ref t2, .ref t3]) = G_LL at s_LL f_LL ⊢
    have sA := SS.trans (((((((((((s_a0).trans s_t0).trans s_a1).trans s_t1).trans s_z2).trans s_y2).trans s_t2).trans s_z3).trans s_y3).trans s_t3).trans s_LL)
    have hqA := lq_of (sA _ _ hq) (by omega)
    have hrA := lq_of (sA _ _ hr') (by omega)
    have hlA := rl_of (sA _ _ hl) (rvA sA)
    rcases (by omega : way = 22 ∨ way = 23 ∨ way = 24 ∨ way = 25) with rfl | rfl | rfl | rfl
    · refine ⟨_, rfl, _, _, rfl, rfl, LL, _, _, _, rfl, rfl, SqL.of f_LL, rfl, ?_⟩
      have F := (((((((((((s_t0).trans s_a1).trans s_t1).trans s_z2).trans s_y2).trans s_t2).trans s_z3).trans s_y3).trans s_t3).trans s_LL) _ _ ha0)
      exact q t0 (.ref a0) (.ref ra) (.ref la) _ sA ((((((((((s_a1).trans s_t1).trans s_z2).trans s_y2).trans s_t2).trans s_z3).trans s_y3).trans s_t3).trans s_LL) _ _ f_t0) ⟨lq_of F ul0, hrA, hlA⟩ (notDiv_q fun a ws z1 z2 _ z4 => by cases z1; rw [F] at z2; have z3 : us0 = ws := ints_inj (by injection z2 with z2; injection z2); rw [← z3] at z4; have n0 : 0 ≤ nm w qs := num_nonneg hB lq.wd; rw [if_pos (by omega)] at eu0; have : nm w us0 = num (2 ^ w.toNat) us0 := rfl; omega)
    · refine ⟨_, rfl, _, _, rfl, rfl, LL, _, _, _, rfl, rfl, SqL.of f_LL, rfl, ?_⟩
      have F := (((((((((s_t1).trans s_z2).trans s_y2).trans s_t2).trans s_z3).trans s_y3).trans s_t3).trans s_LL) _ _ ha1)
      exact q t1 (.ref qa) (.ref a1) (.ref la) _ sA ((((((((s_z2).trans s_y2).trans s_t2).trans s_z3).trans s_y3).trans s_t3).trans s_LL) _ _ f_t1) ⟨hqA, lq_of F ul1, hlA⟩ (notDiv_r fun a ws z1 z2 _ z4 => by cases z1; rw [F] at z2; have z3 : us1 = ws := ints_inj (by injection z2 with z2; injection z2); rw [← z3] at z4; have n0 : 0 ≤ nm w rs := num_nonneg hB lr.wd; rw [if_pos (by omega)] at eu1; have : nm w us1 = num (2 ^ w.toNat) us1 := rfl; omega)
    · refine ⟨_, rfl, _, _, rfl, rfl, LL, _, _, _, rfl, rfl, SqL.of f_LL, rfl, ?_⟩
      have F := ((((((s_t2).trans s_z3).trans s_y3).trans s_t3).trans s_LL) _ _ f_y2)
      exact q t2 (.ref y2) (.ref ra) (.ref la) _ sA (((((s_z3).trans s_y3).trans s_t3).trans s_LL) _ _ f_t2) ⟨⟨_, LV.snoc0 F (by omega), sh0 (by omega)⟩, hrA, hlA⟩ (notDiv_q fun a ws z1 z2 z3 _ => not_snoc F z1 z2 z3)
    · refine ⟨_, rfl, _, _, rfl, rfl, LL, _, _, _, rfl, rfl, SqL.of f_LL, rfl, ?_⟩
      have F := (((s_t3).trans s_LL) _ _ f_y3)
      exact q t3 (.ref qa) (.ref y3) (.ref la) _ sA ((s_LL) _ _ f_t3) ⟨hqA, ⟨_, LV.snoc0 F (by omega), sh0 (by omega)⟩, hlA⟩ (notDiv_r fun a ws z1 z2 z3 _ => not_snoc F z1 z2 z3)
  refine iteDN c22 ?_
  refine ⟨_, rfl, _, _, rfl, rfl, _, rfl, ?_⟩
  by_cases c26 : way < 30
  · refine iteD c26 ?_
    refine ⟨_, rfl, qa, _, rfl, .inl ⟨SqL.of (SS _ _ hq), fun z0 hz0 => ?_⟩⟩
    have s_z0 := same_new hz0 (.tup (qs.map V.int))
    have f_z0 : upd G z0 (.tup (qs.map V.int)) z0 = some (.tup (qs.map V.int)) := upd_same
    generalize upd G z0 (.tup (qs.map V.int)) = G_z0 at s_z0 f_z0 ⊢
    refine ⟨_, rfl, _, rfl, (by show 3 ≤ sizeLine; decide), fun t0 ht0 => ?_⟩
    have s_t0 := same_new ht0 (.tup [.ref z0, .ref ra, .ref la])
    have f_t0 : upd G_z0 t0 (.tup [.ref z0, .ref ra, .ref la]) t0 = some (.tup [.ref z0, .ref ra, .ref la]) := upd_same
    generalize upd G_z0 t0 (.tup [.ref z0, .ref ra, .ref la]) = G_t0 at s_t0 f_t0 ⊢
    refine ⟨_, rfl, _, rfl, ra, _, rfl, .inl ⟨SqL.of ((SS.trans ((s_z0).trans s_t0)) _ _ hr'), fun z1 hz1 => ?_⟩⟩
    have s_z1 := same_new hz1 (.tup (rs.map V.int))
    have f_z1 : upd G_t0 z1 (.tup (rs.map V.int)) z1 = some (.tup (rs.map V.int)) := upd_same
    generalize upd G_t0 z1 (.tup (rs.map V.int)) = G_z1 at s_z1 f_z1 ⊢
    refine ⟨_, rfl, (by show 3 ≤ sizeLine; decide), fun t1 ht1 => ?_⟩
    have s_t1 := same_new ht1 (.tup [.ref qa, .ref z1, .ref la])
    have f_t1 : upd G_z1 t1 (.tup [.ref qa, .ref z1, .ref la]) t1 = some (.tup [.ref qa, .ref z1, .ref la]) := upd_same
    generalize upd G_z1 t1 (.tup [.ref qa, .ref z1, .ref la]) = G_t1 at s_t1 f_t1 ⊢
    refine ⟨_, rfl, _, rfl, _, rfl, la, _, rfl, .inl ⟨SqL.of ((SS.trans ((((s_z0).trans s_t0).trans s_z1).trans s_t1)) _ _ hl), fun z2 hz2 => ?_⟩⟩
    have s_z2 := same_new hz2 (.tup us)
    have f_z2 : upd G_t1 z2 (.tup us) z2 = some (.tup us) := upd_same
    generalize upd G_t1 z2 (.tup us) = G_z2 at s_z2 f_z2 ⊢
    refine ⟨(by show 3 ≤ sizeLine; decide), fun t2 ht2 => ?_⟩
    have s_t2 := same_new ht2 (.tup [.ref qa, .ref ra, .ref z2])
    have f_t2 : upd G_z2 t2 (.tup [.ref qa, .ref ra, .ref z2]) t2 = some (.tup [.ref qa, .ref ra, .ref z2]) := upd_same
    generalize upd G_z2 t2 (.tup [.ref qa, .ref ra, .ref z2]) = G_t2 at s_t2 f_t2 ⊢
    refine ⟨_, rfl, _, rfl, (by show 3 ≤ sizeLine; decide), fun t3 ht3 => ?_⟩
    have s_t3 := same_new ht3 (.tup [.non, .ref ra, .ref la])
    have f_t3 : upd G_t2 t3 (.tup [.non, .ref ra, .ref la]) t3 = some (.tup [.non, .ref ra, .ref la]) := upd_same
    generalize upd G_t2 t3 (.tup [.non, .ref ra, .ref la]) = G_t3 at s_t3 f_t3 ⊢
    refine ⟨(by show 4 ≤ sizeLine; decide), fun LL hLL => ?_⟩
    have s_LL := same_new hLL (.lst [.ref t0, .ref t1, .ref t2, .ref t3])
    have f_LL : upd G_t3 LL (.lst [.ref t0, .ref t1, .ref t2, .ref t3]) LL = some (.lst [.ref t0, .ref t1, .ref t2, .ref t3]) := upd_same
    generalize upd G_t3 LL (.lst [.ref t0, .ref t1, .ref t2, .ref t3]) = G_LL at s_LL f_LL ⊢
    have sA := SS.trans ((((((((s_z0).trans s_t0).trans s_z1).trans s_t1).trans s_z2).trans s_t2).trans s_t3).trans s_LL)
    have hqA := lq_of (sA _ _ hq) (by omega)
    have hrA := lq_of (sA _ _ hr') (by omega)
    have hlA := rl_of (sA _ _ hl) (rvA sA)
    rcases (by omega : way = 26 ∨ way = 27 ∨ way = 28 ∨ way = 29) with rfl | rfl | rfl | rfl
    · refine ⟨_, rfl, _, _, rfl, rfl, LL, _, _, _, rfl, rfl, SqL.of f_LL, rfl, ?_⟩
      have F := ((((((((s_t0).trans s_z1).trans s_t1).trans s_z2).trans s_t2).trans s_t3).trans s_LL) _ _ f_z0)
      exact q t0 (.ref z0) (.ref ra) (.ref la) _ sA (((((((s_z1).trans s_t1).trans s_z2).trans s_t2).trans s_t3).trans s_LL) _ _ f_t0) ⟨⟨_, .tup F, fun _ z => by cases z⟩, hrA, hlA⟩ (notDiv_q fun a ws z1 z2 _ _ => by cases z1; rw [F] at z2; cases z2)
    · refine ⟨_, rfl, _, _, rfl, rfl, LL, _, _, _, rfl, rfl, SqL.of f_LL, rfl, ?_⟩
      have F := ((((((s_t1).trans s_z2).trans s_t2).trans s_t3).trans s_LL) _ _ f_z1)
      exact q t1 (.ref qa) (.ref z1) (.ref la) _ sA (((((s_z2).trans s_t2).trans s_t3).trans s_LL) _ _ f_t1) ⟨hqA, ⟨_, .tup F, fun _ z => by cases z⟩, hlA⟩ (notDiv_r fun a ws z1 z2 _ _ => by cases z1; rw [F] at z2; cases z2)
    · refine ⟨_, rfl, _, _, rfl, rfl, LL, _, _, _, rfl, rfl, SqL.of f_LL, rfl, ?_⟩
      have F := ((((s_t2).trans s_t3).trans s_LL) _ _ f_z2)
      exact q t2 (.ref qa) (.ref ra) (.ref z2) _ sA (((s_t3).trans s_LL) _ _ f_t2) ⟨hqA, hrA, ⟨_, .inr ⟨rfl, .tup F⟩⟩⟩ (notDiv_rows fun l vs z1 z2 => by cases z1; rw [F] at z2; cases z2)
    · refine ⟨_, rfl, _, _, rfl, rfl, LL, _, _, _, rfl, rfl, SqL.of f_LL, rfl, ?_⟩
      exact q t3 (.non) (.ref ra) (.ref la) _ sA ((s_LL) _ _ f_t3) ⟨⟨_, .non, fun _ z => by cases z⟩, hrA, hlA⟩ (notDiv_q fun a ws z1 => by cases z1)
  refine iteDN c26 ?_
  refine ⟨_, rfl, _, _, rfl, rfl, _, rfl, ?_⟩
  by_cases c30 : way < 34
  · refine iteD c30 ?_
    refine ⟨_, rfl, _, rfl, (by show 3 ≤ sizeLine; decide), fun t0 ht0 => ?_⟩
    have s_t0 := same_new ht0 (.tup [.ref qa, .non, .ref la])
    have f_t0 : upd G t0 (.tup [.ref qa, .non, .ref la]) t0 = some (.tup [.ref qa, .non, .ref la]) := upd_same
    generalize upd G t0 (.tup [.ref qa, .non, .ref la]) = G_t0 at s_t0 f_t0 ⊢
    refine ⟨_, rfl, _, rfl, fun dd hdd => ?_⟩
    have s_dd := same_new hdd (.dK [])
    have f_dd : upd G_t0 dd (.dK []) dd = some (.dK []) := upd_same
    generalize upd G_t0 dd (.dK []) = G_dd at s_dd f_dd ⊢
    refine ⟨(by show 4 ≤ sizeLine; decide), fun L1 hL1 => ?_⟩
    have s_L1 := same_new hL1 (.lst [.non, .ref dd, .str "rows", .int 0])
    have f_L1 : upd G_dd L1 (.lst [.non, .ref dd, .str "rows", .int 0]) L1 = some (.lst [.non, .ref dd, .str "rows", .int 0]) := upd_same
    generalize upd G_dd L1 (.lst [.non, .ref dd, .str "rows", .int 0]) = G_L1 at s_L1 f_L1 ⊢
    obtain ⟨x1, hx1, hlx⟩ := four_at (H := G_L1) (at' := at') (s_L1 _ _ f_dd)
    refine ⟨_, rfl, _, _, rfl, rfl, (show (0 : Int) < 4 by decide), L1, _, _, _, rfl, rfl, SqL.of f_L1, hx1, ?_⟩
    refine ⟨(by show 3 ≤ sizeLine; decide), fun t1 ht1 => ?_⟩
    have s_t1 := same_new ht1 (.tup [.ref qa, .ref ra, x1])
    have f_t1 : upd G_L1 t1 (.tup [.ref qa, .ref ra, x1]) t1 = some (.tup [.ref qa, .ref ra, x1]) := upd_same
    generalize upd G_L1 t1 (.tup [.ref qa, .ref ra, x1]) = G_t1 at s_t1 f_t1 ⊢
    refine ⟨_, rfl, qa, qs, rfl, ((SS.trans ((((s_t0).trans s_dd).trans s_L1).trans s_t1)) _ _ hq), by omega, fun v2 o2 G_v2 s_v2 lv2 sh2 nn2 => ?_⟩
    refine ⟨_, rfl, _, rfl, (by show 3 ≤ sizeLine; decide), fun t2 ht2 => ?_⟩
    have s_t2 := same_new ht2 (.tup [v2, .ref ra, .ref la])
    have f_t2 : upd G_v2 t2 (.tup [v2, .ref ra, .ref la]) t2 = some (.tup [v2, .ref ra, .ref la]) := upd_same
    generalize upd G_v2 t2 (.tup [v2, .ref ra, .ref la]) = G_t2 at s_t2 f_t2 ⊢
    refine ⟨_, rfl, _, rfl, ra, rs, rfl, ((SS.trans ((((((s_t0).trans s_dd).trans s_L1).trans s_t1).trans s_v2).trans s_t2)) _ _ hr'), by omega, fun v3 o3 G_v3 s_v3 lv3 sh3 nn3 => ?_⟩
    refine ⟨_, rfl, (by show 3 ≤ sizeLine; decide), fun t3 ht3 => ?_⟩
    have s_t3 := same_new ht3 (.tup [.ref qa, v3, .ref la])
    have f_t3 : upd G_v3 t3 (.tup [.ref qa, v3, .ref la]) t3 = some (.tup [.ref qa, v3, .ref la]) := upd_same
    generalize upd G_v3 t3 (.tup [.ref qa, v3, .ref la]) = G_t3 at s_t3 f_t3 ⊢
    refine ⟨(by show 4 ≤ sizeLine; decide), fun LL hLL => ?_⟩
    have s_LL := same_new hLL (.lst [.ref t0, .ref t1, .ref t2, .ref t3])
    have f_LL : upd G_t3 LL (.lst [.ref t0, .ref t1, .ref t2, .ref t3]) LL = some (.lst [.ref t0, .ref t1, .ref t2, .ref t3]) := upd_same
    generalize upd G_t3 LL (.lst [.ref t0, .ref t1, .ref t2, .ref t3]) = G_LL at s_LL f_LL ⊢
    have sA := SS.trans (((((((((s_t0).trans s_dd).trans s_L1).trans s_t1).trans s_v2).trans s_t2).trans s_v3).trans s_t3).trans s_LL)
    have hqA := lq_of (sA _ _ hq) (by omega)
    have hrA := lq_of (sA _ _ hr') (by omega)
    have hlA := rl_of (sA _ _ hl) (rvA sA)
    rcases (by omega : way = 30 ∨ way = 31 ∨ way = 32 ∨ way = 33) with rfl | rfl | rfl | rfl
    · refine ⟨_, rfl, _, _, rfl, rfl, LL, _, _, _, rfl, rfl, SqL.of f_LL, rfl, ?_⟩
      exact q t0 (.ref qa) (.non) (.ref la) _ sA (((((((((s_dd).trans s_L1).trans s_t1).trans s_v2).trans s_t2).trans s_v3).trans s_t3).trans s_LL) _ _ f_t0) ⟨hqA, ⟨_, .non, fun _ z => by cases z⟩, hlA⟩ (notDiv_r fun a ws z1 => by cases z1)
    · refine ⟨_, rfl, _, _, rfl, rfl, LL, _, _, _, rfl, rfl, SqL.of f_LL, rfl, ?_⟩
      have lx := hlx.same ((((((s_t1).trans s_v2).trans s_t2).trans s_v3).trans s_t3).trans s_LL)
      exact q t1 (.ref qa) (.ref ra) (x1) _ sA ((((((s_v2).trans s_t2).trans s_v3).trans s_t3).trans s_LL) _ _ f_t1) ⟨hqA, hrA, ⟨_, .inr ⟨rfl, lx⟩⟩⟩ (notDiv_rows fun l vs z1 z2 => by subst z1; cases lx with | tup h3 => (rw [h3] at z2; cases z2) | dct h3 => (rw [h3] at z2; cases z2))
    · refine ⟨_, rfl, _, _, rfl, rfl, LL, _, _, _, rfl, rfl, SqL.of f_LL, rfl, ?_⟩
      have lv := lv2.same ((((s_t2).trans s_v3).trans s_t3).trans s_LL)
      exact q t2 (v2) (.ref ra) (.ref la) _ sA ((((s_v3).trans s_t3).trans s_LL) _ _ f_t2) ⟨⟨_, lv, sh2⟩, hrA, hlA⟩ (notDiv_q fun a ws z1 z2 _ _ => not_ints lv nn2 z1 z2)
    · refine ⟨_, rfl, _, _, rfl, rfl, LL, _, _, _, rfl, rfl, SqL.of f_LL, rfl, ?_⟩
      have lv := lv3.same ((s_t3).trans s_LL)
      exact q t3 (.ref qa) (v3) (.ref la) _ sA ((s_LL) _ _ f_t3) ⟨hqA, ⟨_, lv, sh3⟩, hlA⟩ (notDiv_r fun a ws z1 z2 _ _ => not_ints lv nn3 z1 z2)
  refine iteDN c30 ?_
  refine ⟨_, rfl, rfl, _, rfl, ?_⟩
  by_cases c34 : way = 34
  · refine iteD (congrArg V.int c34) ?_
    refine ⟨_, rfl, _, rfl, _, rfl, (by show 0 ≤ sizeLine; decide), fun z hz => ?_⟩
    have s1 := same_new hz (.lst [])
    refine ⟨la, z, _, rfl, rfl, SqL.of ((SS.trans s1) _ _ hl), SqL.of upd_same, _, rfl, ?_⟩
    generalize upd G z (.lst []) = H1 at s1 ⊢
    have S1 := SS.trans s1
    by_cases cu : us = []
    · rw [show us.isEmpty = true by rw [cu]; rfl]
      refine iteF ?_
      refine ⟨(by show 0 ≤ sizeLine; decide), fun z2 hz2 => ?_⟩
      have s2 := same_new hz2 (.tup [])
      have f2 : upd H1 z2 (.tup []) z2 = some (.tup []) := upd_same
      generalize upd H1 z2 (.tup []) = H2 at s2 f2 ⊢
      refine ⟨(by show 1 ≤ sizeLine; decide), fun l3 hl3 => ?_⟩
      have s3 := same_new hl3 (.lst [.ref z2])
      have f3 : upd H2 l3 (.lst [.ref z2]) l3 = some (.lst [.ref z2]) := upd_same
      generalize upd H2 l3 (.lst [.ref z2]) = H3 at s3 f3 ⊢
      refine ⟨(by show 3 ≤ sizeLine; decide), fun t8 ht8 => ?_⟩
      have s8 := same_new ht8 (.tup [.ref qa, .ref ra, .ref l3])
      have sA := ((S1.trans s2).trans s3).trans s8
      refine q t8 (.ref qa) (.ref ra) (.ref l3) _ sA upd_same ⟨lq_of (sA _ _ hq) (by omega), lq_of (sA _ _ hr') (by omega), rl_of (s8 _ _ f3) fun e he => ?_⟩ (notDiv_len (s8 _ _ f3) (by rw [← vl, cu]; show 1 ≠ 0; decide))
      rw [List.mem_singleton.mp he]
      exact ⟨_, .tup ((s3.trans s8) _ _ f2) (by show 0 ≠ 5; decide)⟩
    have ul : 0 < us.length := List.length_pos_iff.mpr cu
    rw [show us.isEmpty = false by cases us <;> first | exact absurd rfl cu | rfl]
    refine iteT ?_
    refine ⟨_, rfl, _, rfl, la, _, rfl, SqL.of (S1 _ _ hl), fun l3 hl3 => ?_⟩
    have ec : cutV us (some 1) none = us.drop 1 := cut_dropV us 1 (by omega)
    rw [ec]
    have s3 := same_new hl3 (.lst (us.drop 1))
    have f3 : upd H1 l3 (.lst (us.drop 1)) l3 = some (.lst (us.drop 1)) := upd_same
    generalize upd H1 l3 (.lst (us.drop 1)) = H3 at s3 f3 ⊢
    refine ⟨(by show 3 ≤ sizeLine; decide), fun t8 ht8 => ?_⟩
    have s8 := same_new ht8 (.tup [.ref qa, .ref ra, .ref l3])
    have sA := (S1.trans s3).trans s8
    exact q t8 (.ref qa) (.ref ra) (.ref l3) _ sA upd_same ⟨lq_of (sA _ _ hq) (by omega), lq_of (sA _ _ hr') (by omega), rl_of (s8 _ _ f3) fun e he => rvA sA e (List.mem_of_mem_drop he)⟩ (notDiv_len (s8 _ _ f3) (by rw [← vl, List.length_drop]; omega))
  refine iteDN (fun z => c34 (by injection z)) ?_
  refine ⟨_, rfl, la, _, rfl, .inl (SqL.of (SS _ _ hl)), _, _, rfl, rfl, _, rfl, ?_⟩
  by_cases c35 : ((us.length : Nat) : Int) < 2
  · refine iteD c35 ?_
    refine ⟨_, rfl, _, rfl, _, rfl, (by show 0 ≤ sizeLine; decide), fun z hz => ?_⟩
    have s1 := same_new hz (.lst [])
    refine ⟨la, z, _, rfl, rfl, SqL.of ((SS.trans s1) _ _ hl), SqL.of upd_same, _, rfl, ?_⟩
    generalize upd G z (.lst []) = H1 at s1 ⊢
    have S1 := SS.trans s1
    by_cases cu : us = []
    · rw [show us.isEmpty = true by rw [cu]; rfl]
      refine iteF ?_
      refine ⟨(by show 0 ≤ sizeLine; decide), fun z2 hz2 => ?_⟩
      have s2 := same_new hz2 (.tup [])
      have f2 : upd H1 z2 (.tup []) z2 = some (.tup []) := upd_same
      generalize upd H1 z2 (.tup []) = H2 at s2 f2 ⊢
      refine ⟨(by show 1 ≤ sizeLine; decide), fun l3 hl3 => ?_⟩
      have s3 := same_new hl3 (.lst [.ref z2])
      have f3 : upd H2 l3 (.lst [.ref z2]) l3 = some (.lst [.ref z2]) := upd_same
      generalize upd H2 l3 (.lst [.ref z2]) = H3 at s3 f3 ⊢
      refine ⟨(by show 3 ≤ sizeLine; decide), fun t8 ht8 => ?_⟩
      have s8 := same_new ht8 (.tup [.ref qa, .ref ra, .ref l3])
      have sA := ((S1.trans s2).trans s3).trans s8
      refine q t8 (.ref qa) (.ref ra) (.ref l3) _ sA upd_same ⟨lq_of (sA _ _ hq) (by omega), lq_of (sA _ _ hr') (by omega), rl_of (s8 _ _ f3) fun e he => ?_⟩ (notDiv_len (s8 _ _ f3) (by rw [← vl, cu]; show 1 ≠ 0; decide))
      rw [List.mem_singleton.mp he]
      exact ⟨_, .tup ((s3.trans s8) _ _ f2) (by show 0 ≠ 5; decide)⟩
    have ul : 0 < us.length := List.length_pos_iff.mpr cu
    rw [show us.isEmpty = false by cases us <;> first | exact absurd rfl cu | rfl]
    refine iteT ?_
    refine ⟨_, rfl, _, rfl, la, _, rfl, SqL.of (S1 _ _ hl), fun l3 hl3 => ?_⟩
    have ec : cutV us (some 1) none = us.drop 1 := cut_dropV us 1 (by omega)
    rw [ec]
    have s3 := same_new hl3 (.lst (us.drop 1))
    have f3 : upd H1 l3 (.lst (us.drop 1)) l3 = some (.lst (us.drop 1)) := upd_same
    generalize upd H1 l3 (.lst (us.drop 1)) = H3 at s3 f3 ⊢
    refine ⟨(by show 3 ≤ sizeLine; decide), fun t8 ht8 => ?_⟩
    have s8 := same_new ht8 (.tup [.ref qa, .ref ra, .ref l3])
    have sA := (S1.trans s3).trans s8
    exact q t8 (.ref qa) (.ref ra) (.ref l3) _ sA upd_same ⟨lq_of (sA _ _ hq) (by omega), lq_of (sA _ _ hr') (by omega), rl_of (s8 _ _ f3) fun e he => rvA sA e (List.mem_of_mem_drop he)⟩ (notDiv_len (s8 _ _ f3) (by rw [← vl, List.length_drop]; omega))
  refine iteDN c35 ?_
  refine ⟨_, rfl, _, rfl, _, rfl, la, _, rfl, SqL.of (SS _ _ hl), fun l3 hl3 => ?_⟩
  have s3 := same_new hl3 (.lst us.reverse)
  have f3 : upd G l3 (.lst us.reverse) l3 = some (.lst us.reverse) := upd_same
  generalize upd G l3 (.lst us.reverse) = H3 at s3 f3 ⊢
  refine ⟨(by show 3 ≤ sizeLine; decide), fun t8 ht8 => ?_⟩
  have s8 := same_new ht8 (.tup [.ref qa, .ref ra, .ref l3])
  have sA := (SS.trans s3).trans s8
  have hk : us.length - 1 < us.length := by omega
  have hu : us[us.length - 1]? = some us[us.length - 1] := List.getElem?_eq_getElem hk
  refine q t8 (.ref qa) (.ref ra) (.ref l3) _ sA upd_same ⟨lq_of (sA _ _ hq) (by omega), lq_of (sA _ _ hr') (by omega), rl_of (s8 _ _ f3) fun e he => rvA sA e (List.mem_reverse.mp he)⟩ (notDiv_row (j := 0) (u := us[us.length - 1]) (s8 _ _ f3) ?_ fun rt => ?_)
  · rw [List.getElem?_reverse (by omega), Nat.sub_zero]
    exact hu
  · obtain ⟨r1, x1, _⟩ := hrw _ _ hu
    obtain ⟨r2, x2, _⟩ := rt
    have := (RowIs.nums (x1.same sA) x2).1
    rw [vl] at this
    omega
theorem DivT.same {H H' : Hp} {w : Int} {xs ys : List Int} {q r rows : V} (d : DivT H w xs ys q r rows) (s : Same H H') : DivT H' w xs ys q r rows := ⟨d.1.same s, d.2.1.same s, d.2.2.same s⟩
theorem ok__law_asked {f : Addr} {fd : FuncData} (F : Fun K "_law_asked" "_law_asked" s__law_asked f fd) (T : Txt K mg) (H_is_division : Has P w K mg base 8 "is_division" ["width", "top", "bottom", "quotient", "rest", "rows"] spIsD) (H__law_same : Has P w K mg base 2 "_law_same" ["_law_found", "_law_due"] spSame) : FnOk P w K mg base CX0 9 f fd ["_law_width", "_law_top", "_law_bottom", "_law_told"] spAsk := by
  refine F.ok sc__law_asked (fun vs H Q E h => ?_) (fun cdv A outer s H vs Q E hr h => ?_)
  · obtain ⟨w, a, b, t, xs, ys, qv, rv, rows, rfl, _⟩ := h
    rfl
  obtain ⟨w, a, b, t, xs, ys, qv, rv, rows, rfl, L, l1, l2, yn, ht, TD, q⟩ := h
  refine ⟨_, (pss_cons (ps_set (i := 4) sc__law_asked.nd rfl (Or.inl rfl) (pe_callTy call_list_of rfl T.n_list boot_list (pa_cons (pv 1) pa_nil)))
    (pss_cons (ps_set (i := 5) sc__law_asked.nd rfl (Or.inl rfl) (pe_callTy call_list_of rfl T.n_list boot_list (pa_cons (pv 2) pa_nil)))
    (pss_cons (ps_set (i := 6) sc__law_asked.nd rfl (Or.inl rfl) (pe_fn H_is_division (hr.mono (by omega)) rfl (pa_consN (pv 0) (pa_consN (pv 4) (pa_consN (pv 5) (pa_consN (pe_ix ix_tup (pv 3) pe_int (fun _ _ => rfl)) (pa_consN (pe_ix ix_tup (pv 3) pe_int (fun _ _ => rfl)) (pa_consN (pe_ix ix_tup (pv 3) pe_int (fun _ _ => rfl)) pa_nil))))))))
    (pss_cons (ps_if (PW.pt (pw_or (pt_not (pt_val (pe_fn H__law_same (hr.mono (by omega)) rfl (pa_cons (pv 4) (pa_cons (pv 1) pa_nil))))) (pw_or1 (pt_not (pt_val (pe_fn H__law_same (hr.mono (by omega)) rfl (pa_cons (pv 5) (pa_cons (pv 2) pa_nil))))))))
      (pss_one (ps_ret pe_non))
      pss_nil)
    (pss_one (ps_ret (pv 6))))))), ?_⟩
  obtain ⟨h1, h2, ha, hb, lx, ly⟩ := id L
  refine ⟨_, rfl, a, _, rfl, .inl (SqL.of ha), fun a2 ha2 => ?_⟩
  have s1 := same_new ha2 (.lst (xs.map V.int))
  have f1 : upd H a2 (.lst (xs.map V.int)) a2 = some (.lst (xs.map V.int)) := upd_same
  generalize upd H a2 (.lst (xs.map V.int)) = H1 at s1 f1 ⊢
  refine ⟨_, rfl, b, _, rfl, .inl (SqL.of (s1 _ _ hb)), fun b2 hb2 => ?_⟩
  have s2 := same_new hb2 (.lst (ys.map V.int))
  have f2 : upd H1 b2 (.lst (ys.map V.int)) b2 = some (.lst (ys.map V.int)) := upd_same
  generalize upd H1 b2 (.lst (ys.map V.int)) = H2 at s2 f2 ⊢
  have s12 := s1.trans s2
  have ht2 := SqT.of (K := K) (s12 _ _ ht)
  refine ⟨_, rfl, _, rfl, _, rfl, _, rfl, t, _, _, _, rfl, rfl, ht2, rfl, _, rfl, t, _, _, _, rfl, rfl, ht2, rfl, _, rfl, t, _, _, _, rfl, rfl, ht2, rfl, w, a2, b2, xs, ys, qv, rv, rows, rfl, ⟨h1, h2, s2 _ _ f1, f2, lx, ly⟩, l1, l2, yn, TD.same s12, fun bb H3 s3 hbb => ?_⟩
  have s13 := s12.trans s3
  refine ⟨_, rfl, _, rfl, a2, a, xs, rfl, s3 _ _ (s2 _ _ f1), s13 _ _ ha, by omega, _, rfl, iteF ?_⟩
  refine ⟨_, rfl, _, rfl, b2, b, ys, rfl, s3 _ _ f2, s13 _ _ hb, by omega, _, rfl, iteF ?_⟩
  exact ⟨_, rfl, q bb H3 s13 (hbb.trans ⟨fun d => d.of s12 TD, fun d => d.same s12⟩)⟩
theorem eqd_ints {K : PySem.W.Frag} {H : Hp} {d : Nat} {p q : Addr} {zs : List Int} (hp : H p = some (.lst (zs.map V.int))) (hq : H q = some (.lst (zs.map V.int))) : EqD K H (d + 1) (.ref p) (.ref q) true := by
  by_cases c : p = q
  · rw [c]; exact .same
  have := EqD.lst (K := K) (d := d) (e := fun _ => true) c (SqL.of hp) (SqL.of hq) rfl (fun j hj => by
    obtain ⟨i, hi⟩ : ∃ i : Int, (zs.map V.int).getD j .non = .int i := by
      rw [List.getD_eq_getElem?_getD, List.getElem?_map]
      rw [List.length_map] at hj
      rw [List.getElem?_eq_getElem hj]
      exact ⟨_, rfl⟩
    rw [hi]
    have := EqD.flat (K := K) (H := H) (d := d) (x := .int i) (y := .int i) rfl rfl
    rwa [eqV_int] at this)
  rwa [show (List.range (zs.map V.int).length).all (fun _ => true) = true by simp] at this
theorem eqd_flat {K : PySem.W.Frag} {H : Hp} {d : Nat} (i : Int) : EqD K H d (.int i) (.int i) true := by
  have := EqD.flat (K := K) (H := H) (d := d) (x := .int i) (y := .int i) rfl rfl
  rwa [eqV_int] at this
theorem eqd_row {K : PySem.W.Frag} {H : Hp} {u v : V} {p g b d : Int} {zs : List Int} (x : RowIs H u p g b d zs) (y : RowIs H v p g b d zs) : EqD K H 2 u v true := by
  obtain ⟨t, r, rfl, h1, h2⟩ := x
  obtain ⟨t', r', rfl, h3, h4⟩ := y
  by_cases c : t = t'
  · rw [c]; exact .same
  have := EqD.tup (K := K) (d := 1) (e := fun _ => true) c (SqT.of h1) (SqT.of h3) (fun j hj _ => by
    have hj' : j < 5 := hj
    rcases (by omega : j = 0 ∨ j = 1 ∨ j = 2 ∨ j = 3 ∨ j = 4) with rfl | rfl | rfl | rfl | rfl
    · exact eqd_flat p
    · exact eqd_flat g
    · exact eqd_flat b
    · exact eqd_flat d
    · exact eqd_ints h2 h4)
  exact this
theorem eqd_rows {K : PySem.W.Frag} {H : Hp} {l l' : Addr} {us vs : List V} (h : H l = some (.lst us)) (h' : H l' = some (.lst vs)) (hl : us.length = vs.length) (x : ∀ (j : Nat) (u v : V), us[j]? = some u → vs[j]? = some v → ∃ p g b d zs, RowIs H u p g b d zs ∧ RowIs H v p g b d zs) : EqD K H 3 (.ref l) (.ref l') true := by
  by_cases c : l = l'
  · rw [c]; exact .same
  have := EqD.lst (K := K) (d := 2) (e := fun _ => true) c (SqL.of h) (SqL.of h') hl (fun j hj => by
    obtain ⟨p, g, b, d, zs, a1, a2⟩ := x j us[j] (vs[j]'(by omega)) (List.getElem?_eq_getElem hj) (List.getElem?_eq_getElem (by omega))
    rw [List.getD_eq_getElem?_getD, List.getElem?_eq_getElem hj, List.getD_eq_getElem?_getD, List.getElem?_eq_getElem (by omega : j < vs.length)]
    exact eqd_row a1 a2)
  rwa [show (List.range us.length).all (fun _ => true) = true by simp] at this
theorem Hon.copy {H H' : Hp} {w : Int} {xs ys : List Int} {t t' : Addr} {qs rs : List Int} {us us' : List V} {q r l : Addr} (m : Hon H w xs ys t qs rs us) (ht : H' t' = some (.tup [.ref q, .ref r, .ref l, .int (turnI w ys), .int (lW w ys)])) (hq : H' q = some (.lst (qs.map V.int))) (hr : H' r = some (.lst (rs.map V.int))) (hl : H' l = some (.lst us')) (n : us'.length = us.length)
    (c : ∀ (j : Nat) (u u' : V), us[j]? = some u → us'[j]? = some u' → ∀ (p g b d : Int) (zs : List Int), RowIs H u p g b d zs → RowIs H' u' p g b d zs) : Hon H' w xs ys t' qs rs us' := by
  have old : ∀ (j : Nat) (u' : V), us'[j]? = some u' → ∃ u, us[j]? = some u := fun j u' e => by
    have := (List.getElem?_eq_some_iff.mp e).1
    exact ⟨us[j]'(by omega), List.getElem?_eq_getElem (by omega)⟩
  refine ⟨⟨⟨q, r, l, ht, hq, hr, hl⟩, m.md.lq, m.md.lr, m.md.nq, m.md.nr, n.trans m.md.vl, fun j u' e => ?_⟩, m.eq, m.er, fun j u' e => ?_⟩
  · obtain ⟨u, hu⟩ := old j u' e
    obtain ⟨p, g, b, d, zs, x, y⟩ := m.md.ok j u hu
    exact ⟨p, g, b, d, zs, c j u u' hu e _ _ _ _ _ x, y⟩
  · obtain ⟨u, hu⟩ := old j u' e
    obtain ⟨zs, x, y⟩ := m.rw j u hu
    exact ⟨zs, c j u u' hu e _ _ _ _ _ x, y⟩
theorem three_at {a c : Int} {k : Int} : ∃ x : Int, atI [V.int 0, .int a, .int c] (k % 3) = some (.int x) := by
  have a0 := Int.emod_nonneg k (show (3 : Int) ≠ 0 by decide)
  have a1 := Int.emod_lt_of_pos k (show (0 : Int) < 3 by decide)
  rcases (by omega : k % 3 = 0 ∨ k % 3 = 1 ∨ k % 3 = 2) with e | e | e <;> rw [e] <;> exact ⟨_, rfl⟩
theorem ok__law_held {f : Addr} {fd : FuncData} (F : Fun K "_law_held" "_law_held" s__law_held f fd) (T : Txt K mg) (H__law_made : Has P w K mg base 2 "_law_made" ["_law_width", "_law_top", "_law_bottom", "_law_at", "_law_more"] spMadeR) (H__law_copy : Has P w K mg base 1 "_law_copy" ["_law_rows"] spCopy) (H__law_asked : Has P w K mg base 9 "_law_asked" ["_law_width", "_law_top", "_law_bottom", "_law_told"] spAsk) (H__law_same : Has P w K mg base 2 "_law_same" ["_law_found", "_law_due"] spSame) (H__law_forged : Has P w K mg base 4 "_law_forged" ["_law_way", "_law_at", "_law_honest", "_law_width"] spForg) : FnOk P w K mg base CX0 10 f fd ["_law_width", "_law_top", "_law_bottom", "_law_ways", "_law_at"] spHeld := by
  refine F.ok sc__law_held (fun vs H Q E h => ?_) (fun cdv A outer s H vs Q E hr h => ?_)
  · obtain ⟨w, a, b, wy, xs, ys, wys, at', rfl, _⟩ := h
    rfl
  obtain ⟨w, a, b, wy, xs, ys, wys, at', rfl, L, l1, l2, yn, hwy, hwr, q⟩ := h
  refine ⟨_, (pss_cons (ps_set (i := 5) sc__law_held.nd rfl (Or.inl rfl) (pe_fn H__law_made (hr.mono (by omega)) rfl (pa_cons (pv 0) (pa_cons (pv 1) (pa_cons (pv 2) (pa_cons (pe_op op_sub pe_int pe_int) (pa_cons pe_int pa_nil)))))))
    (pss_cons (ps_set (i := 6) sc__law_held.nd rfl (Or.inl rfl) (pe_tup (pa_cons (pe_callTy call_list_of rfl T.n_list boot_list (pa_cons (pe_ix ix_tup (pv 5) pe_int (fun _ _ => rfl)) pa_nil)) (pa_cons (pe_callTy call_list_of rfl T.n_list boot_list (pa_cons (pe_ix ix_tup (pv 5) pe_int (fun _ _ => rfl)) pa_nil)) (pa_cons (pe_fn H__law_copy (hr.mono (by omega)) rfl (pa_cons (pe_ix ix_tup (pv 5) pe_int (fun _ _ => rfl)) pa_nil)) pa_nil)))))
    (pss_cons (ps_if (pt_cmpR op_notB (pe_fn H__law_asked (hr.mono (by omega)) rfl (pa_cons (pv 0) (pa_cons (pv 1) (pa_cons (pv 2) (pa_cons (pv 6) pa_nil))))) pe_bl (nomark _))
      (pss_one (ps_ret pe_bl))
      pss_nil)
    (pss_cons (ps_for PassesOwn.never rfl (pi_list (pv 3)) (pg_name (i := 7) sc__law_held.nd rfl (Or.inl rfl))
      (pss_cons (ps_set (i := 8) sc__law_held.nd rfl (Or.inl rfl) (pe_tup (pa_cons (pe_callTy call_list_of rfl T.n_list boot_list (pa_cons (pe_ix ix_tup (pv 5) pe_int (fun _ _ => rfl)) pa_nil)) (pa_cons (pe_callTy call_list_of rfl T.n_list boot_list (pa_cons (pe_ix ix_tup (pv 5) pe_int (fun _ _ => rfl)) pa_nil)) (pa_cons (pe_fn H__law_copy (hr.mono (by omega)) rfl (pa_cons (pe_ix ix_tup (pv 5) pe_int (fun _ _ => rfl)) pa_nil)) (pa_cons (pe_ix ix_tup (pv 5) pe_int (fun _ _ => rfl)) (pa_cons (pe_ix ix_tup (pv 5) pe_int (fun _ _ => rfl)) pa_nil)))))))
      (pss_one (ps_if (pt_cmpR op_notB (pe_fn H__law_asked (hr.mono (by omega)) rfl (pa_cons (pv 0) (pa_cons (pv 1) (pa_cons (pv 2) (pa_cons (pe_fn H__law_forged (hr.mono (by omega)) rfl (pa_cons (pv 7) (pa_cons (pv 4) (pa_cons (pv 8) (pa_cons (pv 0) pa_nil))))) pa_nil))))) pe_bl (nomark _))
        (pss_one (ps_ret pe_bl))
        pss_nil))))
    (pss_join (ps_if (pt_cmpR (op_ne0 (Nat.lt_of_succ_lt (hu_of hr))) (pe_ix ix_tup (pv 5) pe_int (fun _ _ => rfl)) (pe_lst pa_nil) (nomark _))
      (pss_cons (ps_set (i := 9) sc__law_held.nd rfl (Or.inl rfl) (pe_fn H__law_made (hr.mono (by omega)) rfl (pa_cons (pv 0) (pa_cons (pv 1) (pa_cons (pv 2) (pa_cons (pe_op op_mod (pv 4) (pe_callB call_len_seq rfl T.n_len boot_len (pa_cons (pe_ix ix_tup (pv 5) pe_int (fun _ _ => rfl)) pa_nil))) (pa_cons (pe_ix ix_list (pe_lst (pa_cons pe_int (pa_cons (pe_op op_fdiv (pv 4) pe_int) (pa_cons (pe_op op_fdiv (pe_ix ix_tup (pv 5) pe_int (fun _ _ => rfl)) pe_int) pa_nil)))) (pe_op op_mod (pe_op op_fdiv (pv 4) pe_int) pe_int) (fun _ _ => rfl)) pa_nil)))))))
      (pss_one (ps_if (pt_cmpR op_notB (pe_fn H__law_asked (hr.mono (by omega)) rfl (pa_cons (pv 0) (pa_cons (pv 1) (pa_cons (pv 2) (pa_cons (pe_slice sl_tup (pv 9) po_none (po_some pe_int)) pa_nil))))) pe_bl (nomark _))
        (pss_one (ps_ret pe_bl))
        pss_nil)))
      pss_nil)
    (pss_cons (ps_if (PW.pt (pw_or (pt_cmpR (op_neTD (d := 3) (by have := hr.units; exact Nat.lt_of_le_of_lt (Nat.add_le_add_left (by decide : 4 ≤ 64) _) this)) (pv 6) (pe_slice sl_tup (pv 5) po_none (po_some pe_int)) (nomark _)) (pw_or1 (pt_not (pt_val (pe_fn H__law_same (hr.mono (by omega)) rfl (pa_cons (pe_ix ix_tup (pv 6) pe_int (fun _ _ => rfl)) (pa_cons (pe_ix ix_tup (pv 5) pe_int (fun _ _ => rfl)) pa_nil))))))))
      (pss_one (ps_ret pe_bl))
      pss_nil)
    (pss_one (ps_ret (pe_cmpR op_isB (pe_fn H__law_asked (hr.mono (by omega)) rfl (pa_cons (pv 0) (pa_cons (pv 1) (pa_cons (pv 2) (pa_cons (pv 6) pa_nil))))) pe_bl (nomark _)))))))))), ?_⟩
  obtain ⟨h1, h2, ha, hb, lx, ly⟩ := id L
  have cn : cntN xs ys ≤ 46 := by unfold cntN; omega
  refine ⟨_, rfl, _, rfl, _, rfl, _, _, rfl, rfl, w, a, b, xs, ys, _, _, rfl, L, l1, l2, yn, fun t qs rs us H1 s1 _ hon _ => ?_⟩
  have HN := hon (by decide)
  obtain ⟨⟨⟨qa, ra, la, ht, hq, hr', hl⟩, lq, lr, nq, nr, vl, ok⟩, eq, er, hrw⟩ := id HN
  have ht1 := SqT.of (K := K) ht
  have okc : ∀ (j : Nat) (u : V), us[j]? = some u → ∃ (p g b d : Int) (zs : List Int), RowIs H1 u p g b d zs ∧ zs.length ≤ 60 := fun j u e => by
    obtain ⟨p, g, b, d, zs, x, _, y⟩ := ok j u e
    exact ⟨p, g, b, d, zs, x, y⟩
  refine ⟨_, rfl, t, _, _, _, rfl, rfl, ht1, rfl, qa, _, rfl, .inl (SqL.of hq), fun q2 hq2 => ?_⟩
  have s2 := same_new hq2 (.lst (qs.map V.int))
  have f2 : upd H1 q2 (.lst (qs.map V.int)) q2 = some (.lst (qs.map V.int)) := upd_same
  generalize upd H1 q2 (.lst (qs.map V.int)) = H2 at s2 f2 ⊢
  refine ⟨_, rfl, t, _, _, _, rfl, rfl, SqT.of (s2 _ _ ht), rfl, ra, _, rfl, .inl (SqL.of (s2 _ _ hr')), fun r3 hr3 => ?_⟩
  have s3 := same_new hr3 (.lst (rs.map V.int))
  have f3 : upd H2 r3 (.lst (rs.map V.int)) r3 = some (.lst (rs.map V.int)) := upd_same
  generalize upd H2 r3 (.lst (rs.map V.int)) = H3 at s3 f3 ⊢
  have s13 := s2.trans s3
  refine ⟨_, rfl, t, _, _, _, rfl, rfl, SqT.of (s13 _ _ ht), rfl, la, us, w, rfl, s13 _ _ hl, by omega, (fun j u e => by
    obtain ⟨p, g, b, d, zs, x, y⟩ := okc j u e
    exact ⟨p, g, b, d, zs, x.same s13, y⟩), fun l4 us4 H4 s4 hl4 n4 c4 => ?_⟩
  have s14 := s13.trans s4
  refine ⟨(by show 3 ≤ sizeLine; decide), fun th hth => ?_⟩
  have s5 := same_new hth (.tup [.ref q2, .ref r3, .ref l4])
  have f5 : upd H4 th (.tup [.ref q2, .ref r3, .ref l4]) th = some (.tup [.ref q2, .ref r3, .ref l4]) := upd_same
  generalize upd H4 th (.tup [.ref q2, .ref r3, .ref l4]) = H5 at s5 f5 ⊢
  have s15 := s14.trans s5
  have S5 := s1.trans s15
  have g2 : H5 q2 = some (.lst (qs.map V.int)) := ((s3.trans s4).trans s5) _ _ f2
  have g3 : H5 r3 = some (.lst (rs.map V.int)) := (s4.trans s5) _ _ f3
  have g4 : H5 l4 = some (.lst us4) := s5 _ _ hl4
  have c5 : ∀ (j : Nat) (u u' : V), us[j]? = some u → us4[j]? = some u' → ∀ (p g b d : Int) (zs : List Int), RowIs H1 u p g b d zs → RowIs H5 u' p g b d zs := fun j u u' e1 e2 p g b d zs x => (c4 j u u' e1 e2 p g b d zs (x.same s13)).same s5
  have D5 : DivT H5 w xs ys (.ref q2) (.ref r3) (.ref l4) := by
    refine ⟨⟨q2, qs, rfl, g2, lq, eq⟩, ⟨r3, rs, rfl, g3, lr, er⟩, l4, us4, rfl, g4, n4.trans vl, fun j u' e => ?_⟩
    have hj := (List.getElem?_eq_some_iff.mp e).1
    have hu : us[j]? = some (us[j]'(by omega)) := List.getElem?_eq_getElem (by omega)
    obtain ⟨zs, x, y⟩ := hrw j _ hu
    exact ⟨zs, c5 j _ u' hu e _ _ _ _ _ x, y⟩
  have T5 : Told H5 (.ref q2) (.ref r3) (.ref l4) := by
    refine ⟨lq_of g2 (by omega), lq_of g3 (by omega), rl_of g4 fun e he => ?_⟩
    obtain ⟨j, hj, rfl⟩ := List.getElem_of_mem he
    have hu : us[j]? = some (us[j]'(by omega)) := List.getElem?_eq_getElem (by omega)
    obtain ⟨p, g, b, d, zs, x, y⟩ := okc j _ hu
    exact (c5 j _ _ hu (List.getElem?_eq_getElem hj) _ _ _ _ _ x).rv (by omega)
  refine ⟨_, rfl, _, rfl, _, rfl, _, rfl, w, a, b, th, xs, ys, .ref q2, .ref r3, .ref l4, rfl, L.same S5, l1, l2, yn, f5, T5, fun bb H6 s6 hbb => ?_⟩
  cases hbb.mpr D5
  refine ⟨_, _, rfl, rfl, _, rfl, iteF ?_⟩
  have s16 := s15.trans s6
  have hwy1 := s1 _ _ hwy
  refine ⟨_, rfl, wy, rfl, ⟨_, SqL.of (s16 _ _ hwy1)⟩, for_list (xs := wys.map V.int) (fun j σ G => ∃ y1 y2 y3 : Option V, σ = [some (.int w), some (.ref a), some (.ref b), some (.ref wy), some (.int at'), some (.ref t), some (.ref th), y1, y2, y3] ∧ Same H6 G) ⟨_, _, _, rfl, Same.refl _⟩ ?_ ?_ ?_⟩
  · rintro j σ G _ ⟨y1, y2, y3, rfl, sG⟩
    exact SqL.of (sG _ _ (s16 _ _ hwy1))
  · rintro j v σ G hv ⟨y1, y2, y3, rfl, sG⟩
    obtain ⟨way, hw, rfl⟩ : ∃ way : Int, way ∈ wys ∧ v = .int way := by
      obtain ⟨x, hx, rfl⟩ := List.mem_map.mp (List.mem_of_getElem? hv)
      exact ⟨x, hx, rfl⟩
    have wr := hwr way hw
    have s1G := s16.trans sG
    have HG := HN.same s1G
    refine ⟨_, rfl, t, _, _, _, rfl, rfl, SqT.of (s1G _ _ ht), rfl, qa, _, rfl, .inl (SqL.of (s1G _ _ hq)), fun q7 hq7 => ?_⟩
    have s7 := same_new hq7 (.lst (qs.map V.int))
    have f7 : upd G q7 (.lst (qs.map V.int)) q7 = some (.lst (qs.map V.int)) := upd_same
    generalize upd G q7 (.lst (qs.map V.int)) = H7 at s7 f7 ⊢
    have s17 := s1G.trans s7
    refine ⟨_, rfl, t, _, _, _, rfl, rfl, SqT.of (s17 _ _ ht), rfl, ra, _, rfl, .inl (SqL.of (s17 _ _ hr')), fun r8 hr8 => ?_⟩
    have s8 := same_new hr8 (.lst (rs.map V.int))
    have f8 : upd H7 r8 (.lst (rs.map V.int)) r8 = some (.lst (rs.map V.int)) := upd_same
    generalize upd H7 r8 (.lst (rs.map V.int)) = H8 at s8 f8 ⊢
    have s18 := s17.trans s8
    refine ⟨_, rfl, t, _, _, _, rfl, rfl, SqT.of (s18 _ _ ht), rfl, la, us, w, rfl, s18 _ _ hl, by omega, (fun j u e => by
      obtain ⟨p, g, b, d, zs, x, y⟩ := okc j u e
      exact ⟨p, g, b, d, zs, x.same s18, y⟩), fun l9 us9 H9 s9 hl9 n9 c9 => ?_⟩
    have s19 := s18.trans s9
    have ht9 := SqT.of (K := K) (s19 _ _ ht)
    refine ⟨_, rfl, t, _, _, _, rfl, rfl, ht9, rfl, _, rfl, t, _, _, _, rfl, rfl, ht9, rfl, (by show 5 ≤ sizeLine; decide), fun tc htc => ?_⟩
    have sc := same_new htc (.tup [.ref q7, .ref r8, .ref l9, .int (turnI w ys), .int (lW w ys)])
    have fc : upd H9 tc (.tup [.ref q7, .ref r8, .ref l9, .int (turnI w ys), .int (lW w ys)]) tc = some (.tup [.ref q7, .ref r8, .ref l9, .int (turnI w ys), .int (lW w ys)]) := upd_same
    generalize upd H9 tc (.tup [.ref q7, .ref r8, .ref l9, .int (turnI w ys), .int (lW w ys)]) = HC at sc fc ⊢
    have s1C := s19.trans sc
    have HC' : Hon HC w xs ys tc qs rs us9 := HN.copy fc (((s8.trans s9).trans sc) _ _ f7) ((s9.trans sc) _ _ f8) (sc _ _ hl9) n9 (fun j u u' e1 e2 p g b d zs x => (c9 j u u' e1 e2 p g b d zs (x.same s18)).same sc)
    refine ⟨_, rfl, _, rfl, _, rfl, _, rfl, _, rfl, _, rfl, _, rfl, way, at', w, tc, xs, ys, qs, rs, us9, rfl, h1, h2, lx, ly, yn, l1, l2, wr.1, wr.2, HC', fun t' q' r' rows' HD sD ht' td nd => ?_⟩
    have s1D := s1C.trans sD
    refine ⟨w, a, b, t', xs, ys, q', r', rows', rfl, L.same (s1.trans s1D), l1, l2, yn, ht', td, fun bb HE sE hbb => ?_⟩
    cases bb with
    | true => exact absurd (hbb.mp rfl) nd
    | false =>
    refine ⟨_, _, rfl, rfl, _, rfl, iteF ?_⟩
    exact ⟨_, _, _, rfl, sG.trans (s7.trans (s8.trans (s9.trans (sc.trans (sD.trans sE)))))⟩
  rintro σ G ⟨y1, y2, y3, rfl, sG⟩
  have s1G := s16.trans sG
  refine ⟨fun σ2 G2 => ∃ z1 z2 z3 : Option V, σ2 = [some (.int w), some (.ref a), some (.ref b), some (.ref wy), some (.int at'), some (.ref t), some (.ref th), z1, z2, z3] ∧ Same G G2, ?_, ?_⟩
  · refine ⟨_, rfl, t, _, _, _, rfl, rfl, SqT.of (s1G _ _ ht), rfl, (by show 0 ≤ sizeLine; decide), fun z hz => ?_⟩
    have sz := same_new hz (.lst [])
    refine ⟨la, z, _, rfl, rfl, SqL.of ((s1G.trans sz) _ _ hl), SqL.of upd_same, _, rfl, ?_⟩
    generalize upd G z (.lst []) = HZ at sz ⊢
    have s1Z := s1G.trans sz
    by_cases cu : us = []
    · rw [show us.isEmpty = true by rw [cu]; rfl]
      exact iteF ⟨_, _, _, rfl, sz⟩
    have ul : 0 < us.length := List.length_pos_iff.mpr cu
    rw [show us.isEmpty = false by cases us <;> first | exact absurd rfl cu | rfl]
    refine iteT ?_
    have a0 := Int.emod_nonneg at' (show ((us.length : Nat) : Int) ≠ 0 by omega)
    have a1 := Int.emod_lt_of_pos at' (show 0 < ((us.length : Nat) : Int) by omega)
    obtain ⟨k, ek⟩ : ∃ k : Nat, at' % ((us.length : Nat) : Int) = (k : Int) := ⟨(at' % ((us.length : Nat) : Int)).toNat, by omega⟩
    obtain ⟨more, hmore⟩ := three_at (a := at' / 64) (c := lW w ys / 2) (k := at' / 7)
    have htz := SqT.of (K := K) (s1Z _ _ ht)
    refine ⟨_, rfl, _, rfl, _, rfl, _, rfl, _, rfl, t, _, _, _, rfl, rfl, htz, rfl, la, _, rfl, .inl (SqL.of (s1Z _ _ hl)), _, _, rfl, rfl, (show 0 < ((us.length : Nat) : Int) by omega), _, rfl, _, _, rfl, rfl, ⟨by decide, by decide⟩, _, rfl, t, _, _, _, rfl, rfl, htz, rfl, _, _, rfl, rfl, ⟨by decide, by decide⟩, (by show 3 ≤ sizeLine; decide), fun LL' hLL => ?_⟩
    have sl := same_new hLL (.lst [.int 0, .int (at' / 64), .int (lW w ys / 2)])
    have fl : upd HZ LL' (.lst [.int 0, .int (at' / 64), .int (lW w ys / 2)]) LL' = some (.lst [.int 0, .int (at' / 64), .int (lW w ys / 2)]) := upd_same
    dsimp only
    generalize upd HZ LL' (.lst [.int 0, .int (at' / 64), .int (lW w ys / 2)]) = HL at sl fl ⊢
    have s1L := s1Z.trans sl
    refine ⟨_, rfl, _, _, rfl, rfl, ⟨by decide, by decide⟩, _, _, rfl, rfl, (show (0 : Int) < 3 by decide), LL', _, _, _, rfl, rfl, SqL.of fl, hmore, w, a, b, xs, ys, _, _, rfl, L.same (s1.trans s1L), l1, l2, yn, fun t2 qs2 rs2 us2 HM sM md2 _ bad => ?_⟩
    obtain ⟨⟨qb, rb, lb, htb, hqb, hrb, hlb⟩, lqb, lrb, nqb, nrb, vlb, okb⟩ := id md2
    have s1M := s1L.trans sM
    refine ⟨_, rfl, _, rfl, _, rfl, _, rfl, _, rfl, t2, _, rfl, SqT.of htb, (by show ¬ (0 = 0 ∧ min 3 5 = 5); decide), fun pp hpp => ?_⟩
    have sp := same_new hpp (.tup [.ref qb, .ref rb, .ref lb])
    have fp : upd HM pp (.tup (cutV [.ref qb, .ref rb, .ref lb, .int (turnI w ys), .int (lW w ys)] none (some 3))) pp = some (.tup [.ref qb, .ref rb, .ref lb]) := upd_same
    replace sp : Same HM (upd HM pp (.tup (cutV [.ref qb, .ref rb, .ref lb, .int (turnI w ys), .int (lW w ys)] none (some 3)))) := sp
    generalize upd HM pp (.tup (cutV [.ref qb, .ref rb, .ref lb, .int (turnI w ys), .int (lW w ys)] none (some 3))) = HP at sp fp ⊢
    have s1P := s1M.trans sp
    have TP : Told HP (.ref qb) (.ref rb) (.ref lb) := ⟨lq_of (sp _ _ hqb) (by omega), lq_of (sp _ _ hrb) (by omega), rl_of (sp _ _ hlb) fun e he => by
      obtain ⟨o, x⟩ := Hon.rv md2 e he
      exact ⟨o, x.same sp⟩⟩
    have NP : ¬ DivT HP w xs ys (.ref qb) (.ref rb) (.ref lb) := by
      obtain ⟨u, hu, nu⟩ := bad k (by rw [ek]) (by rw [← vl]; omega)
      refine notDiv_row (j := k) (sp _ _ hlb) hu fun rt => nu ?_
      obtain ⟨o, x⟩ := Hon.rv md2 u (List.mem_of_getElem? hu)
      exact rt.of sp ⟨o, x⟩
    refine ⟨w, a, b, pp, xs, ys, _, _, _, rfl, L.same (s1.trans s1P), l1, l2, yn, fp, TP, fun bb HE sE hbb => ?_⟩
    cases bb with
    | true => exact absurd (hbb.mp rfl) NP
    | false =>
    refine ⟨_, _, rfl, rfl, _, rfl, iteF ?_⟩
    exact ⟨_, _, _, rfl, sz.trans (sl.trans (sM.trans (sp.trans sE)))⟩
  rintro σ2 G2 ⟨z1, z2, z3, rfl, sG2⟩
  have s1Q := s1G.trans sG2
  have s5Q := s6.trans (sG.trans sG2)
  refine ⟨_, rfl, _, rfl, _, rfl, t, _, rfl, SqT.of (s1Q _ _ ht), (by show ¬ (0 = 0 ∧ min 3 5 = 5); decide), fun pp hpp => ?_⟩
  have sp := same_new hpp (.tup [.ref qa, .ref ra, .ref la])
  have fp : upd G2 pp (.tup (cutV [.ref qa, .ref ra, .ref la, .int (turnI w ys), .int (lW w ys)] none (some 3))) pp = some (.tup [.ref qa, .ref ra, .ref la]) := upd_same
  replace sp : Same G2 (upd G2 pp (.tup (cutV [.ref qa, .ref ra, .ref la, .int (turnI w ys), .int (lW w ys)] none (some 3)))) := sp
  generalize upd G2 pp (.tup (cutV [.ref qa, .ref ra, .ref la, .int (turnI w ys), .int (lW w ys)] none (some 3))) = HP at sp fp ⊢
  have s5P := s5Q.trans sp
  have s1P := s1Q.trans sp
  refine ⟨th, pp, _, _, fun _ => true, rfl, rfl, SqT.of (s5P _ _ f5), SqT.of fp, fun j hj _ => ?_, _, rfl, iteF ?_⟩
  · have hj' : j < 3 := hj
    rcases (by omega : j = 0 ∨ j = 1 ∨ j = 2) with rfl | rfl | rfl
    · exact eqd_ints (s5P _ _ g2) (s1P _ _ hq)
    · exact eqd_ints (s5P _ _ g3) (s1P _ _ hr')
    · refine eqd_rows (s5P _ _ g4) (s1P _ _ hl) n4 fun j u v e1 e2 => ?_
      obtain ⟨p, g, b, d, zs, x, y⟩ := okc j v e2
      exact ⟨p, g, b, d, zs, (c5 j v u e2 e1 _ _ _ _ _ x).same s5P, x.same s1P⟩
  refine ⟨_, rfl, th, _, _, _, rfl, rfl, SqT.of (s5P _ _ f5), rfl, _, rfl, t, _, _, _, rfl, rfl, SqT.of (s1P _ _ ht), rfl, q2, qa, qs, rfl, s5P _ _ g2, s1P _ _ hq, by omega, _, rfl, iteF ?_⟩
  refine ⟨_, rfl, _, rfl, _, rfl, _, rfl, w, a, b, th, xs, ys, .ref q2, .ref r3, .ref l4, rfl, L.same (s1.trans s1P), l1, l2, yn, s5P _ _ f5, T5.same s5P, fun bb HE sE hbb => ?_⟩
  cases hbb.mpr (D5.same s5P)
  exact ⟨_, _, rfl, rfl, q HE (s1.trans (s1P.trans sE))⟩
theorem cut_two (xs : List V) : cutV xs none (some 2) = xs.take 2 := by
  unfold cutV
  show (xs.drop 0).take (min (2 : Int).toNat xs.length - 0) = _
  rw [List.drop_zero, Nat.sub_zero]
  show xs.take (min 2 xs.length) = _
  by_cases h : xs.length ≤ 2
  · rw [Nat.min_eq_right h, List.take_length, List.take_of_length_le h]
  · rw [Nat.min_eq_left (by omega)]
theorem ok_law {f : Addr} {fd : FuncData} (F : Fun K "law" "law" s_law f fd) (T : Txt K mg) (H__law_case : Has P w K mg base 2 "_law_case" ["_law_cell"] spCase) (H__law_far : Has P w K mg base 1 "_law_far" ["_law_words_here", "_law_size"] spFar) (H__law_held : Has P w K mg base 10 "_law_held" ["_law_width", "_law_top", "_law_bottom", "_law_ways", "_law_at"] spHeld) : FnOk P w K mg base CX0 11 f fd ["_law_script"] (spLaw K) := by
  refine F.ok sc_law (fun vs H Q E h => ?_) (fun cdv A outer s H vs Q E hr h => ?_)
  · obtain ⟨a, ns, rfl, _⟩ := h
    rfl
  obtain ⟨a, ns, rfl, hS, hlen, q⟩ := h
  refine ⟨_, (pss_cons (ps_set (i := 1) sc_law.nd rfl (Or.inl rfl) (pe_op op_addL (pe_slice sl_list (pv 0) po_none (po_some pe_int)) (pe_lst (pa_cons (pe_callB call_len_seq rfl T.n_len boot_len (pa_cons (pv 0) pa_nil)) pa_nil))))
    (pss_cons (ps_for PassesOwn.never rfl (pi_range1 rfl T.n_range (pa_cons (pe_callB call_len_seq rfl T.n_len boot_len (pa_cons (pv 1) pa_nil)) pa_nil)) (pg_name (i := 2) sc_law.nd rfl (Or.inl rfl))
      (pss_cons (ps_set (i := 3) sc_law.nd rfl (Or.inl rfl) (pe_ix ix_list (pv 1) (pv 2) (fun _ _ => rfl)))
      (pss_cons (ps_asg (pe_fn H__law_case (hr.mono (by omega)) rfl (pa_cons (pv 3) pa_nil)) (pg_tup rfl (pgs_cons (pg_name (i := 4) sc_law.nd rfl (Or.inl rfl)) (pgs_cons (pg_name (i := 5) sc_law.nd rfl (Or.inl rfl)) (pgs_cons (pg_name (i := 6) sc_law.nd rfl (Or.inl rfl)) pgs_nil)))))
      (pss_join (ps_if (pt_cmpR (op_eq0 (Nat.lt_of_succ_lt (hu_of hr))) (pv 6) (pe_lst pa_nil) (nomark _))
        (pss_one (ps_set (i := 6) sc_law.nd rfl (Or.inl rfl) (pe_lst (pa_cons (pe_op op_add pe_int (pe_op op_mod (pv 3) pe_int)) pa_nil))))
        pss_nil)
      (pss_join (ps_if (PW.pt (pw_and (pt_cmpR op_eq (pv 2) pe_int (nomark _)) (pw_and (pt_cmpR op_eq (pe_op op_mod (pv 3) pe_int) pe_int (nomark _)) (pw_and1 (pt_cmpR (op_ne0 (Nat.lt_of_succ_lt (hu_of hr))) (pv 5) (pe_lst pa_nil) (nomark _))))))
        (pss_cons (ps_set (i := 5) sc_law.nd rfl (Or.inl rfl) (pe_fn H__law_far (hr.mono (by omega)) rfl (pa_cons (pv 5) (pa_cons (pe_op op_add pe_int (pe_op op_mod (pe_op op_fdiv (pv 3) pe_int) pe_int)) pa_nil))))
        (pss_one (ps_set (i := 6) sc_law.nd rfl (Or.inl rfl) (pe_fn H__law_far (hr.mono (by omega)) rfl (pa_cons (pv 6) (pa_cons (pe_op op_add pe_int (pe_op op_mod (pe_op op_fdiv (pv 3) pe_int) pe_int)) pa_nil))))))
        pss_nil)
      (pss_cons (ps_set (i := 7) sc_law.nd rfl (Or.inr rfl) (pe_op op_mod (pe_op op_fdiv (pv 3) pe_int) pe_int))
      (pss_cons (ps_compC (i := 8) sc_law.nd rfl (Or.inl rfl) rfl [7] ["_law_first"] rfl (by first | rfl | with_unfolding_all rfl) (by rfl) (by exact (List.forall_mem_cons.mpr ⟨rfl, (fun _ h => nomatch h)⟩)) (by decide +kernel) rfl (by decide +kernel) rfl (by decide +kernel) (by exact (List.forall_mem_cons.mpr ⟨⟨by first | exact Or.inl rfl | exact Or.inr rfl, rfl⟩, (fun _ h => nomatch h)⟩)) rfl (by rfl) (pi_range1 rfl T.n_range (pa_cons pe_int pa_nil)) (fun C s2 H2 fp => (pe_op op_mod (pe_op op_add (pv 1) (pe_op op_mul pe_int (pv 0))) pe_int)))
      (pss_one (ps_if (pt_not (pt_val (pe_fn H__law_held (hr.mono (by omega)) rfl (pa_cons (pv 4) (pa_cons (pv 5) (pa_cons (pv 6) (pa_cons (pv 8) (pa_cons (pe_op op_fdiv (pv 3) pe_int) pa_nil))))))))
        (pss_one (ps_ret pe_bl))
        pss_nil)))))))))
    (pss_one (ps_ret pe_bl)))), ?_⟩
  have hl : (ns.map V.int).length = ns.length := List.length_map _
  refine ⟨_, rfl, _, rfl, a, _, rfl, hS, fun z1 hz1 => ?_⟩
  have s1 := same_new hz1 (.lst (cutV (ns.map V.int) none (some 2)))
  refine ⟨_, rfl, a, _, rfl, .inl (s1.seq hS), (by show 1 ≤ sizeLine; decide), fun z2 hz2 => ?_⟩
  have s2 := same_new hz2 (.lst [.int (((ns.map V.int).length : Nat) : Int)])
  refine ⟨z1, z2, _, _, rfl, rfl, SqL.of (s2 _ _ upd_same), SqL.of upd_same, ?_, fun z3 hz3 => ?_⟩
  · exact Nat.le_trans (Nat.add_le_add_right (Nat.le_trans (cutV_length _ _ _) (by rw [hl]; exact hlen)) 1) (by decide : 63 + 1 ≤ sizeLine)
  have e3 : cutV (ns.map V.int) none (some 2) ++ [.int (((ns.map V.int).length : Nat) : Int)] = ((ns.take 2) ++ [((ns.length : Nat) : Int)]).map V.int := by
    rw [cut_two, List.map_append, List.map_take, hl]
    rfl
  have hcg : 0 < ((ns.take 2) ++ [((ns.length : Nat) : Int)]).length := by rw [List.length_append]; exact Nat.succ_pos _
  have hcl : ((ns.take 2) ++ [((ns.length : Nat) : Int)]).length ≤ 3 := by
    rw [List.length_append, List.length_take]
    show min 2 ns.length + 1 ≤ 3
    omega
  have h0 : (upd (upd (upd H z1 (.lst (cutV (ns.map V.int) none (some 2)))) z2 (.lst [.int (((ns.map V.int).length : Nat) : Int)])) z3 (.lst (cutV (ns.map V.int) none (some 2) ++ [.int (((ns.map V.int).length : Nat) : Int)]))) z3 = some (.lst (((ns.take 2) ++ [((ns.length : Nat) : Int)]).map V.int)) := by rw [upd_same, e3]
  dsimp only
  generalize (upd (upd (upd H z1 (.lst (cutV (ns.map V.int) none (some 2)))) z2 (.lst [.int (((ns.map V.int).length : Nat) : Int)])) z3 (.lst (cutV (ns.map V.int) none (some 2) ++ [.int (((ns.map V.int).length : Nat) : Int)]))) = H0 at h0 ⊢
  generalize ((ns.take 2) ++ [((ns.length : Nat) : Int)]) = cs at h0 hcl hcg
  have hml : (cs.map V.int).length = cs.length := List.length_map _
  refine ⟨_, rfl, z3, _, rfl, .inl (SqL.of h0), _, rfl, by rw [hml]; omega, by rw [hml]; omega, for_range (fun j σ H2 => ∃ y1 y2 y3 y4 y5 y6 y7 : Option V, σ = [some (.ref a), some (.ref z3), y1, y2, y3, y4, y5, y6, y7] ∧ Same H0 H2) ⟨_, _, _, _, _, _, _, rfl, Same.refl _⟩ ?_ ?_⟩
  · rintro j σ H2 hj ⟨y1, y2, y3, y4, y5, y6, y7, rfl, sx⟩
    have hj2 : j < cs.length := by rw [hml] at hj; omega
    have g := getI cs j hj2
    rw [show ((j : Nat) : Int) = 0 + (j : Int) by omega] at g
    generalize cs[j] = cell at g
    refine ⟨_, rfl, _, rfl, z3, _, _, _, rfl, rfl, SqL.of (sx _ _ h0), g, ?_⟩
    refine ⟨_, rfl, cell, rfl, fun t b1 b2 w xs ys H3 ht0 ht L l1 l2 s3 => ?_⟩
    obtain ⟨h1, h2, hb1, hb2, lx, ly⟩ := id L
    have pb := pw_bounds h1 h2
    refine ⟨t, _, rfl, SqT.of ht, rfl, _, _, rfl, _, _, rfl, _, _, rfl, rfl, ?_⟩
    refine ⟨fun σ2 HZ => ∃ (c2 : Addr) (vs : List Int), σ2 = [some (.ref a), some (.ref z3), some (.int (0 + (j : Int))), some (.int cell), some (.int w), some (.ref b1), some (.ref c2), y6, y7] ∧ LL HZ w b1 c2 xs vs ∧ vs.length ≤ 45 ∧ vs ≠ [] ∧ Same H3 HZ, ?_, ?_⟩
    · refine ⟨_, rfl, (by show 0 ≤ sizeLine; decide), fun z hz => ?_⟩
      have s4 := same_new hz (.lst [])
      refine ⟨b2, z, _, rfl, rfl, SqL.of (s4 _ _ hb2), SqL.of upd_same, _, rfl, ?_⟩
      rw [emp]
      by_cases cv : ys = []
      · refine iteD cv ?_
        have m1 := Int.emod_nonneg cell (show (15 : Int) ≠ 0 by decide)
        have m2 := Int.emod_lt_of_pos cell (show (0 : Int) < 15 by decide)
        refine ⟨_, rfl, _, _, rfl, rfl, (show (0 : Int) < 15 by decide), _, _, rfl, rfl, (by show 1 ≤ sizeLine; decide), fun z5 hz5 => ?_⟩
        have s5 := s4.trans (same_new hz5 (.lst (([1 + cell % 15] : List Int).map V.int)))
        refine ⟨z5, [1 + cell % 15], rfl, ⟨h1, h2, s5 _ _ hb1, upd_same, lx, ⟨⟨fun x hx => ?_⟩, ?_, by show 1 ≤ 100; decide⟩⟩, by show 1 ≤ 45; decide, (fun z => nomatch z), s5⟩
        · simp only [List.mem_cons, List.not_mem_nil, or_false] at hx
          rw [hx]
          exact ⟨by omega, by omega⟩
        · show some (1 + cell % 15) ≠ some 0
          intro zz
          have := Option.some.inj zz
          omega
      · exact iteDN cv ⟨b2, ys, rfl, L.same s4, l2, cv, s4⟩
    · rintro σ2 HZ ⟨c2, vs, rfl, M, lvl, vn, sZ⟩
      obtain ⟨_, _, hc1, hc2, _, lv⟩ := id M
      refine ⟨fun σ2 HY => ∃ (d1 d2 : Addr) (us ws : List Int), σ2 = [some (.ref a), some (.ref z3), some (.int (0 + (j : Int))), some (.int cell), some (.int w), some (.ref d1), some (.ref d2), y6, y7] ∧ LL HY w d1 d2 us ws ∧ us.length ≤ 45 ∧ ws.length ≤ 45 ∧ ws ≠ [] ∧ Same HZ HY, ?_, ?_⟩
      · have stay : ∃ (d1 d2 : Addr) (us ws : List Int), [some (V.ref a), some (V.ref z3), some (.int (0 + (j : Int))), some (.int cell), some (.int w), some (.ref b1), some (.ref c2), y6, y7] = [some (V.ref a), some (V.ref z3), some (.int (0 + (j : Int))), some (.int cell), some (.int w), some (.ref d1), some (.ref d2), y6, y7] ∧ LL HZ w d1 d2 us ws ∧ us.length ≤ 45 ∧ ws.length ≤ 45 ∧ ws ≠ [] ∧ Same HZ HZ := ⟨b1, c2, xs, vs, rfl, M, l1, lvl, vn, Same.refl _⟩
        refine ⟨_, rfl, rfl, _, rfl, ?_⟩
        refine ite2 (fun _ => ?_) (fun _ => iteF stay)
        refine ⟨_, rfl, _, _, rfl, rfl, (show (0 : Int) < 6 by decide), rfl, _, rfl, ?_⟩
        refine ite2 (fun _ => ?_) (fun _ => iteF stay)
        refine ⟨_, rfl, (by show 0 ≤ sizeLine; decide), fun z hz => ?_⟩
        have s4 := same_new hz (.lst [])
        refine ⟨b1, z, _, rfl, rfl, SqL.of (s4 _ _ hc1), SqL.of upd_same, _, rfl, ?_⟩
        refine ite2 (fun hne => ?_) (fun _ => ⟨b1, c2, xs, vs, rfl, M.same s4, l1, lvl, vn, s4⟩)
        have xn : xs ≠ [] := fun zz => by rw [zz] at hne; exact absurd hne (by decide)
        have m1 := Int.emod_nonneg (cell / 6) (show (16 : Int) ≠ 0 by decide)
        have m2 := Int.emod_lt_of_pos (cell / 6) (show (0 : Int) < 16 by decide)
        have m3 := Int.emod_nonneg (cell / 96) (show (8 : Int) ≠ 0 by decide)
        have m4 := Int.emod_lt_of_pos (cell / 96) (show (0 : Int) < 8 by decide)
        refine ⟨_, rfl, _, rfl, _, _, rfl, rfl, ⟨by decide, by decide⟩, _, _, rfl, rfl, (show (0 : Int) < 16 by decide), _, _, rfl, rfl, b1, xs, _, w, rfl, s4 _ _ hc1, lx, xn, h1, h2, by omega, by omega, fun d1 us H5 hd10 hd1 lu un lul s5 => ?_⟩
        refine ⟨_, rfl, _, rfl, _, _, rfl, rfl, ⟨by decide, by decide⟩, _, _, rfl, rfl, (show (0 : Int) < 8 by decide), _, _, rfl, rfl, c2, vs, _, w, rfl, s5 _ _ (s4 _ _ hc2), lv, vn, h1, h2, by omega, by omega, fun d2 ws H6 hd20 hd2 lw wn lwl s6 => ?_⟩
        exact ⟨d1, d2, us, ws, rfl, ⟨h1, h2, s6 _ _ hd1, hd2, lu, lw⟩, lul, lwl, wn, s4.trans (s5.trans s6)⟩
      · rintro σ2 HY ⟨d1, d2, us, ws, rfl, M2, lul, lwl, wn, sY⟩
        refine ⟨_, rfl, _, _, rfl, rfl, ⟨by decide, by decide⟩, _, _, rfl, rfl, (show (0 : Int) < 36 by decide), ?_⟩
        dsimp only
        generalize cell / 7 % 36 = first
        refine ⟨5, rfl, by decide, by decide, fun D hD => ?_⟩
        refine comp_rng (fun k HJ => ∃ wys : List Int, HJ D = some (.lst (wys.map V.int)) ∧ wys.length = k ∧ (∀ x ∈ wys, 0 ≤ x ∧ x < 36) ∧ Same HY HJ) ⟨[], upd_same, rfl, (fun _ h => by cases h), same_new hD _⟩ ?_ ?_
        · rintro k HJ hk ⟨wys, hy, hyl, hyr, sJ⟩
          have k5 : k < 5 := hk
          have n0 := Int.emod_nonneg (first + 7 * (0 + (k : Int))) (show (36 : Int) ≠ 0 by decide)
          have n1 := Int.emod_lt_of_pos (first + 7 * (0 + (k : Int))) (show (0 : Int) < 36 by decide)
          refine ⟨_, rfl, _, rfl, _, _, rfl, rfl, .inl ⟨by decide, by decide⟩, _, _, rfl, rfl, _, _, rfl, rfl, (show (0 : Int) < 36 by decide), _, hy, (by rw [List.length_map, hyl]; exact Nat.lt_of_lt_of_le k5 (by decide)), 5 - (k + 1), (by omega), rfl, (by omega), wys ++ [(first + 7 * (0 + (k : Int))) % 36], ?_, ?_, fun x hx => ?_, ?_⟩
          · rw [upd_same, List.map_append]
            rfl
          · rw [List.length_append, hyl]
            rfl
          · rcases List.mem_append.mp hx with hx | hx
            · exact hyr x hx
            · rw [List.mem_singleton.mp hx]
              exact ⟨n0, n1⟩
          · intro z o h
            rw [upd_ne (ne_of_none h hD)]
            exact sJ _ _ h
        rintro HJ ⟨wys, hy, hyl, hyr, sJ⟩
        refine ⟨_, rfl, _, rfl, _, rfl, _, rfl, _, rfl, _, _, rfl, rfl, ⟨by decide, by decide⟩, w, d1, d2, D, us, ws, wys, _, rfl, M2.same sJ, lul, lwl, wn, hy, hyr, fun H7 s7 => ⟨_, rfl, iteF ?_⟩⟩
        exact ⟨_, _, _, _, _, _, _, rfl, sx.trans (s3.trans (sZ.trans (sY.trans (sJ.trans s7))))⟩
  · rintro σ H2 ⟨y1, y2, y3, y4, y5, y6, y7, rfl, sx⟩
    exact q H2
end
theorem all_mk {l : PySem.W.OpenLaw} {w : World} {K : PySem.W.Frag} {h : Heap} {mg : Str → Option Value} {fa f1 f2 f3 f4 f5 f6 f7 f8 f9 f10 f11 f12 f13 f14 f15 f16 f17 f18 f19 f20 f21 f22 f23 f24 f25 f26 f27 f28 f29 f30 f31 f32 f33 f34 f35 f36 f37 : Addr} (X : K.In h) (G : h.Ns mainGlobals mg) (hfa : mg "law" = some (.ref fa))
    {od1 an1 od2 an2 od3 an3 od4 an4 od5 an5 od6 an6 od7 an7 od8 an8 od9 an9 od10 an10 od11 an11 od12 an12 od13 an13 od14 an14 od15 an15 od16 an16 od17 an17 od18 an18 od19 an19 od20 an20 od21 an21 od22 an22 od23 an23 od24 an24 od25 an25 od26 an26 od27 an27 od28 an28 od29 an29 od30 an30 od31 an31 od32 an32 od33 an33 od34 an34 od35 an35 od36 an36 od37 an37 : Option Addr} {sl1 sl2 sl3 sl4 sl5 sl6 sl7 sl8 sl9 sl10 sl11 sl12 sl13 sl14 sl15 sl16 sl17 sl18 sl19 sl20 sl21 sl22 sl23 sl24 sl25 sl26 sl27 sl28 sl29 sl30 sl31 sl32 sl33 sl34 sl35 sl36 sl37 : Array (Option Value)} {oc1 kV1 dc1 pm1 cd1 ct1 oc2 kV2 dc2 pm2 cd2 ct2 oc3 kV3 dc3 pm3 cd3 ct3 oc4 kV4 dc4 pm4 cd4 ct4 oc5 kV5 dc5 pm5 cd5 ct5 oc6 kV6 dc6 pm6 cd6 ct6 oc7 kV7 dc7 pm7 cd7 ct7 oc8 kV8 dc8 pm8 cd8 ct8 oc9 kV9 dc9 pm9 cd9 ct9 oc10 kV10 dc10 pm10 cd10 ct10 oc11 kV11 dc11 pm11 cd11 ct11 oc12 kV12 dc12 pm12 cd12 ct12 oc13 kV13 dc13 pm13 cd13 ct13 oc14 kV14 dc14 pm14 cd14 ct14 oc15 kV15 dc15 pm15 cd15 ct15 oc16 kV16 dc16 pm16 cd16 ct16 oc17 kV17 dc17 pm17 cd17 ct17 oc18 kV18 dc18 pm18 cd18 ct18 oc19 kV19 dc19 pm19 cd19 ct19 oc20 kV20 dc20 pm20 cd20 ct20 oc21 kV21 dc21 pm21 cd21 ct21 oc22 kV22 dc22 pm22 cd22 ct22 oc23 kV23 dc23 pm23 cd23 ct23 oc24 kV24 dc24 pm24 cd24 ct24 oc25 kV25 dc25 pm25 cd25 ct25 oc26 kV26 dc26 pm26 cd26 ct26 oc27 kV27 dc27 pm27 cd27 ct27 oc28 kV28 dc28 pm28 cd28 ct28 oc29 kV29 dc29 pm29 cd29 ct29 oc30 kV30 dc30 pm30 cd30 ct30 oc31 kV31 dc31 pm31 cd31 ct31 oc32 kV32 dc32 pm32 cd32 ct32 oc33 kV33 dc33 pm33 cd33 ct33 oc34 kV34 dc34 pm34 cd34 ct34 oc35 kV35 dc35 pm35 cd35 ct35 oc36 kV36 dc36 pm36 cd36 ct36 oc37 kV37 dc37 pm37 cd37 ct37 : Value}
    (a1 : PySem.W.nsIn K mainGlobals "is_whole" = some (some (.ref f1)))
    (l1 : K.lookup f1 = some ⟨oc1, od1, .func (PySem.W.fnOf "is_whole" "is_whole" (defArgs s_is_whole) (defBody s_is_whole) (defScope s_is_whole) .none kV1 dc1 pm1 an1 cd1 ct1), sl1⟩) (c1 : PySem.W.codeIn K cd1 "is_whole" = true) (k1 : PySem.W.keepIn K (.ref f1) = true)
    (a2 : PySem.W.nsIn K mainGlobals "is_between" = some (some (.ref f2)))
    (l2 : K.lookup f2 = some ⟨oc2, od2, .func (PySem.W.fnOf "is_between" "is_between" (defArgs s_is_between) (defBody s_is_between) (defScope s_is_between) .none kV2 dc2 pm2 an2 cd2 ct2), sl2⟩) (c2 : PySem.W.codeIn K cd2 "is_between" = true) (k2 : PySem.W.keepIn K (.ref f2) = true)
    (a3 : PySem.W.nsIn K mainGlobals "need_width" = some (some (.ref f3)))
    (l3 : K.lookup f3 = some ⟨oc3, od3, .func (PySem.W.fnOf "need_width" "need_width" (defArgs s_need_width) (defBody s_need_width) (defScope s_need_width) .none kV3 dc3 pm3 an3 cd3 ct3), sl3⟩) (c3 : PySem.W.codeIn K cd3 "need_width" = true) (k3 : PySem.W.keepIn K (.ref f3) = true)
    (a4 : PySem.W.nsIn K mainGlobals "is_word" = some (some (.ref f4)))
    (l4 : K.lookup f4 = some ⟨oc4, od4, .func (PySem.W.fnOf "is_word" "is_word" (defArgs s_is_word) (defBody s_is_word) (defScope s_is_word) .none kV4 dc4 pm4 an4 cd4 ct4), sl4⟩) (c4 : PySem.W.codeIn K cd4 "is_word" = true) (k4 : PySem.W.keepIn K (.ref f4) = true)
    (a5 : PySem.W.nsIn K mainGlobals "has_long" = some (some (.ref f5)))
    (l5 : K.lookup f5 = some ⟨oc5, od5, .func (PySem.W.fnOf "has_long" "has_long" (defArgs s_has_long) (defBody s_has_long) (defScope s_has_long) .none kV5 dc5 pm5 an5 cd5 ct5), sl5⟩) (c5 : PySem.W.codeIn K cd5 "has_long" = true) (k5 : PySem.W.keepIn K (.ref f5) = true)
    (a6 : PySem.W.nsIn K mainGlobals "need_long" = some (some (.ref f6)))
    (l6 : K.lookup f6 = some ⟨oc6, od6, .func (PySem.W.fnOf "need_long" "need_long" (defArgs s_need_long) (defBody s_need_long) (defScope s_need_long) .none kV6 dc6 pm6 an6 cd6 ct6), sl6⟩) (c6 : PySem.W.codeIn K cd6 "need_long" = true) (k6 : PySem.W.keepIn K (.ref f6) = true)
    (a7 : PySem.W.nsIn K mainGlobals "need_longs" = some (some (.ref f7)))
    (l7 : K.lookup f7 = some ⟨oc7, od7, .func (PySem.W.fnOf "need_longs" "need_longs" (defArgs s_need_longs) (defBody s_need_longs) (defScope s_need_longs) .none kV7 dc7 pm7 an7 cd7 ct7), sl7⟩) (c7 : PySem.W.codeIn K cd7 "need_longs" = true) (k7 : PySem.W.keepIn K (.ref f7) = true)
    (a8 : PySem.W.nsIn K mainGlobals "trimmed" = some (some (.ref f8)))
    (l8 : K.lookup f8 = some ⟨oc8, od8, .func (PySem.W.fnOf "trimmed" "trimmed" (defArgs s_trimmed) (defBody s_trimmed) (defScope s_trimmed) .none kV8 dc8 pm8 an8 cd8 ct8), sl8⟩) (c8 : PySem.W.codeIn K cd8 "trimmed" = true) (k8 : PySem.W.keepIn K (.ref f8) = true)
    (a9 : PySem.W.nsIn K mainGlobals "word_at" = some (some (.ref f9)))
    (l9 : K.lookup f9 = some ⟨oc9, od9, .func (PySem.W.fnOf "word_at" "word_at" (defArgs s_word_at) (defBody s_word_at) (defScope s_word_at) .none kV9 dc9 pm9 an9 cd9 ct9), sl9⟩) (c9 : PySem.W.codeIn K cd9 "word_at" = true) (k9 : PySem.W.keepIn K (.ref f9) = true)
    (a10 : PySem.W.nsIn K mainGlobals "add_words" = some (some (.ref f10)))
    (l10 : K.lookup f10 = some ⟨oc10, od10, .func (PySem.W.fnOf "add_words" "add_words" (defArgs s_add_words) (defBody s_add_words) (defScope s_add_words) .none kV10 dc10 pm10 an10 cd10 ct10), sl10⟩) (c10 : PySem.W.codeIn K cd10 "add_words" = true) (k10 : PySem.W.keepIn K (.ref f10) = true)
    (a11 : PySem.W.nsIn K mainGlobals "compared" = some (some (.ref f11)))
    (l11 : K.lookup f11 = some ⟨oc11, od11, .func (PySem.W.fnOf "compared" "compared" (defArgs s_compared) (defBody s_compared) (defScope s_compared) .none kV11 dc11 pm11 an11 cd11 ct11), sl11⟩) (c11 : PySem.W.codeIn K cd11 "compared" = true) (k11 : PySem.W.keepIn K (.ref f11) = true)
    (a12 : PySem.W.nsIn K mainGlobals "product_by_word" = some (some (.ref f12)))
    (l12 : K.lookup f12 = some ⟨oc12, od12, .func (PySem.W.fnOf "product_by_word" "product_by_word" (defArgs s_product_by_word) (defBody s_product_by_word) (defScope s_product_by_word) .none kV12 dc12 pm12 an12 cd12 ct12), sl12⟩) (c12 : PySem.W.codeIn K cd12 "product_by_word" = true) (k12 : PySem.W.keepIn K (.ref f12) = true)
    (a13 : PySem.W.nsIn K mainGlobals "moved_left" = some (some (.ref f13)))
    (l13 : K.lookup f13 = some ⟨oc13, od13, .func (PySem.W.fnOf "moved_left" "moved_left" (defArgs s_moved_left) (defBody s_moved_left) (defScope s_moved_left) .none kV13 dc13 pm13 an13 cd13 ct13), sl13⟩) (c13 : PySem.W.codeIn K cd13 "moved_left" = true) (k13 : PySem.W.keepIn K (.ref f13) = true)
    (a14 : PySem.W.nsIn K mainGlobals "turn_to" = some (some (.ref f14)))
    (l14 : K.lookup f14 = some ⟨oc14, od14, .func (PySem.W.fnOf "turn_to" "turn_to" (defArgs s_turn_to) (defBody s_turn_to) (defScope s_turn_to) .none kV14 dc14 pm14 an14 cd14 ct14), sl14⟩) (c14 : PySem.W.codeIn K cd14 "turn_to" = true) (k14 : PySem.W.keepIn K (.ref f14) = true)
    (a15 : PySem.W.nsIn K mainGlobals "need_division" = some (some (.ref f15)))
    (l15 : K.lookup f15 = some ⟨oc15, od15, .func (PySem.W.fnOf "need_division" "need_division" (defArgs s_need_division) (defBody s_need_division) (defScope s_need_division) .none kV15 dc15 pm15 an15 cd15 ct15), sl15⟩) (c15 : PySem.W.codeIn K cd15 "need_division" = true) (k15 : PySem.W.keepIn K (.ref f15) = true)
    (a16 : PySem.W.nsIn K mainGlobals "count_steps" = some (some (.ref f16)))
    (l16 : K.lookup f16 = some ⟨oc16, od16, .func (PySem.W.fnOf "count_steps" "count_steps" (defArgs s_count_steps) (defBody s_count_steps) (defScope s_count_steps) .none kV16 dc16 pm16 an16 cd16 ct16), sl16⟩) (c16 : PySem.W.codeIn K cd16 "count_steps" = true) (k16 : PySem.W.keepIn K (.ref f16) = true)
    (a17 : PySem.W.nsIn K mainGlobals "is_guess" = some (some (.ref f17)))
    (l17 : K.lookup f17 = some ⟨oc17, od17, .func (PySem.W.fnOf "is_guess" "is_guess" (defArgs s_is_guess) (defBody s_is_guess) (defScope s_is_guess) .none kV17 dc17 pm17 an17 cd17 ct17), sl17⟩) (c17 : PySem.W.codeIn K cd17 "is_guess" = true) (k17 : PySem.W.keepIn K (.ref f17) = true)
    (a18 : PySem.W.nsIn K mainGlobals "is_row" = some (some (.ref f18)))
    (l18 : K.lookup f18 = some ⟨oc18, od18, .func (PySem.W.fnOf "is_row" "is_row" (defArgs s_is_row) (defBody s_is_row) (defScope s_is_row) .none kV18 dc18 pm18 an18 cd18 ct18), sl18⟩) (c18 : PySem.W.codeIn K cd18 "is_row" = true) (k18 : PySem.W.keepIn K (.ref f18) = true)
    (a19 : PySem.W.nsIn K mainGlobals "is_division" = some (some (.ref f19)))
    (l19 : K.lookup f19 = some ⟨oc19, od19, .func (PySem.W.fnOf "is_division" "is_division" (defArgs s_is_division) (defBody s_is_division) (defScope s_is_division) .none kV19 dc19 pm19 an19 cd19 ct19), sl19⟩) (c19 : PySem.W.codeIn K cd19 "is_division" = true) (k19 : PySem.W.keepIn K (.ref f19) = true)
    (a20 : PySem.W.nsIn K mainGlobals "_law_drawn" = some (some (.ref f20)))
    (l20 : K.lookup f20 = some ⟨oc20, od20, .func (PySem.W.fnOf "_law_drawn" "_law_drawn" (defArgs s__law_drawn) (defBody s__law_drawn) (defScope s__law_drawn) .none kV20 dc20 pm20 an20 cd20 ct20), sl20⟩) (c20 : PySem.W.codeIn K cd20 "_law_drawn" = true) (k20 : PySem.W.keepIn K (.ref f20) = true)
    (a21 : PySem.W.nsIn K mainGlobals "_law_long" = some (some (.ref f21)))
    (l21 : K.lookup f21 = some ⟨oc21, od21, .func (PySem.W.fnOf "_law_long" "_law_long" (defArgs s__law_long) (defBody s__law_long) (defScope s__law_long) .none kV21 dc21 pm21 an21 cd21 ct21), sl21⟩) (c21 : PySem.W.codeIn K cd21 "_law_long" = true) (k21 : PySem.W.keepIn K (.ref f21) = true)
    (a22 : PySem.W.nsIn K mainGlobals "_law_number" = some (some (.ref f22)))
    (l22 : K.lookup f22 = some ⟨oc22, od22, .func (PySem.W.fnOf "_law_number" "_law_number" (defArgs s__law_number) (defBody s__law_number) (defScope s__law_number) .none kV22 dc22 pm22 an22 cd22 ct22), sl22⟩) (c22 : PySem.W.codeIn K cd22 "_law_number" = true) (k22 : PySem.W.keepIn K (.ref f22) = true)
    (a23 : PySem.W.nsIn K mainGlobals "_law_words" = some (some (.ref f23)))
    (l23 : K.lookup f23 = some ⟨oc23, od23, .func (PySem.W.fnOf "_law_words" "_law_words" (defArgs s__law_words) (defBody s__law_words) (defScope s__law_words) .none kV23 dc23 pm23 an23 cd23 ct23), sl23⟩) (c23 : PySem.W.codeIn K cd23 "_law_words" = true) (k23 : PySem.W.keepIn K (.ref f23) = true)
    (a24 : PySem.W.nsIn K mainGlobals "_law_whole" = some (some (.ref f24)))
    (l24 : K.lookup f24 = some ⟨oc24, od24, .func (PySem.W.fnOf "_law_whole" "_law_whole" (defArgs s__law_whole) (defBody s__law_whole) (defScope s__law_whole) .none kV24 dc24 pm24 an24 cd24 ct24), sl24⟩) (c24 : PySem.W.codeIn K cd24 "_law_whole" = true) (k24 : PySem.W.keepIn K (.ref f24) = true)
    (a25 : PySem.W.nsIn K mainGlobals "_law_same" = some (some (.ref f25)))
    (l25 : K.lookup f25 = some ⟨oc25, od25, .func (PySem.W.fnOf "_law_same" "_law_same" (defArgs s__law_same) (defBody s__law_same) (defScope s__law_same) .none kV25 dc25 pm25 an25 cd25 ct25), sl25⟩) (c25 : PySem.W.codeIn K cd25 "_law_same" = true) (k25 : PySem.W.keepIn K (.ref f25) = true)
    (a26 : PySem.W.nsIn K mainGlobals "_law_case" = some (some (.ref f26)))
    (l26 : K.lookup f26 = some ⟨oc26, od26, .func (PySem.W.fnOf "_law_case" "_law_case" (defArgs s__law_case) (defBody s__law_case) (defScope s__law_case) .none kV26 dc26 pm26 an26 cd26 ct26), sl26⟩) (c26 : PySem.W.codeIn K cd26 "_law_case" = true) (k26 : PySem.W.keepIn K (.ref f26) = true)
    (a27 : PySem.W.nsIn K mainGlobals "_law_far" = some (some (.ref f27)))
    (l27 : K.lookup f27 = some ⟨oc27, od27, .func (PySem.W.fnOf "_law_far" "_law_far" (defArgs s__law_far) (defBody s__law_far) (defScope s__law_far) .none kV27 dc27 pm27 an27 cd27 ct27), sl27⟩) (c27 : PySem.W.codeIn K cd27 "_law_far" = true) (k27 : PySem.W.keepIn K (.ref f27) = true)
    (a28 : PySem.W.nsIn K mainGlobals "_law_made" = some (some (.ref f28)))
    (l28 : K.lookup f28 = some ⟨oc28, od28, .func (PySem.W.fnOf "_law_made" "_law_made" (defArgs s__law_made) (defBody s__law_made) (defScope s__law_made) .none kV28 dc28 pm28 an28 cd28 ct28), sl28⟩) (c28 : PySem.W.codeIn K cd28 "_law_made" = true) (k28 : PySem.W.keepIn K (.ref f28) = true)
    (a29 : PySem.W.nsIn K mainGlobals "_law_copy" = some (some (.ref f29)))
    (l29 : K.lookup f29 = some ⟨oc29, od29, .func (PySem.W.fnOf "_law_copy" "_law_copy" (defArgs s__law_copy) (defBody s__law_copy) (defScope s__law_copy) .none kV29 dc29 pm29 an29 cd29 ct29), sl29⟩) (c29 : PySem.W.codeIn K cd29 "_law_copy" = true) (k29 : PySem.W.keepIn K (.ref f29) = true)
    (a30 : PySem.W.nsIn K mainGlobals "_law_plus" = some (some (.ref f30)))
    (l30 : K.lookup f30 = some ⟨oc30, od30, .func (PySem.W.fnOf "_law_plus" "_law_plus" (defArgs s__law_plus) (defBody s__law_plus) (defScope s__law_plus) .none kV30 dc30 pm30 an30 cd30 ct30), sl30⟩) (c30 : PySem.W.codeIn K cd30 "_law_plus" = true) (k30 : PySem.W.keepIn K (.ref f30) = true)
    (a31 : PySem.W.nsIn K mainGlobals "_law_truth" = some (some (.ref f31)))
    (l31 : K.lookup f31 = some ⟨oc31, od31, .func (PySem.W.fnOf "_law_truth" "_law_truth" (defArgs s__law_truth) (defBody s__law_truth) (defScope s__law_truth) .none kV31 dc31 pm31 an31 cd31 ct31), sl31⟩) (c31 : PySem.W.codeIn K cd31 "_law_truth" = true) (k31 : PySem.W.keepIn K (.ref f31) = true)
    (a32 : PySem.W.nsIn K mainGlobals "_law_row_forged" = some (some (.ref f32)))
    (l32 : K.lookup f32 = some ⟨oc32, od32, .func (PySem.W.fnOf "_law_row_forged" "_law_row_forged" (defArgs s__law_row_forged) (defBody s__law_row_forged) (defScope s__law_row_forged) .none kV32 dc32 pm32 an32 cd32 ct32), sl32⟩) (c32 : PySem.W.codeIn K cd32 "_law_row_forged" = true) (k32 : PySem.W.keepIn K (.ref f32) = true)
    (a33 : PySem.W.nsIn K mainGlobals "_law_last" = some (some (.ref f33)))
    (l33 : K.lookup f33 = some ⟨oc33, od33, .func (PySem.W.fnOf "_law_last" "_law_last" (defArgs s__law_last) (defBody s__law_last) (defScope s__law_last) .none kV33 dc33 pm33 an33 cd33 ct33), sl33⟩) (c33 : PySem.W.codeIn K cd33 "_law_last" = true) (k33 : PySem.W.keepIn K (.ref f33) = true)
    (a34 : PySem.W.nsIn K mainGlobals "_law_forged" = some (some (.ref f34)))
    (l34 : K.lookup f34 = some ⟨oc34, od34, .func (PySem.W.fnOf "_law_forged" "_law_forged" (defArgs s__law_forged) (defBody s__law_forged) (defScope s__law_forged) .none kV34 dc34 pm34 an34 cd34 ct34), sl34⟩) (c34 : PySem.W.codeIn K cd34 "_law_forged" = true) (k34 : PySem.W.keepIn K (.ref f34) = true)
    (a35 : PySem.W.nsIn K mainGlobals "_law_asked" = some (some (.ref f35)))
    (l35 : K.lookup f35 = some ⟨oc35, od35, .func (PySem.W.fnOf "_law_asked" "_law_asked" (defArgs s__law_asked) (defBody s__law_asked) (defScope s__law_asked) .none kV35 dc35 pm35 an35 cd35 ct35), sl35⟩) (c35 : PySem.W.codeIn K cd35 "_law_asked" = true) (k35 : PySem.W.keepIn K (.ref f35) = true)
    (a36 : PySem.W.nsIn K mainGlobals "_law_held" = some (some (.ref f36)))
    (l36 : K.lookup f36 = some ⟨oc36, od36, .func (PySem.W.fnOf "_law_held" "_law_held" (defArgs s__law_held) (defBody s__law_held) (defScope s__law_held) .none kV36 dc36 pm36 an36 cd36 ct36), sl36⟩) (c36 : PySem.W.codeIn K cd36 "_law_held" = true) (k36 : PySem.W.keepIn K (.ref f36) = true)
    (a37 : PySem.W.nsIn K mainGlobals "law" = some (some (.ref f37)))
    (l37 : K.lookup f37 = some ⟨oc37, od37, .func (PySem.W.fnOf "law" "law" (defArgs s_law) (defBody s_law) (defScope s_law) .none kV37 dc37 pm37 an37 cd37 ct37), sl37⟩) (c37 : PySem.W.codeIn K cd37 "law" = true) (k37 : PySem.W.keepIn K (.ref f37) = true)
    (z_isinstance : PySem.W.nsIn K mainGlobals "isinstance" = some none) (z_int : PySem.W.nsIn K mainGlobals "int" = some none) (z_bool : PySem.W.nsIn K mainGlobals "bool" = some none) (z_list : PySem.W.nsIn K mainGlobals "list" = some none) (z_tuple : PySem.W.nsIn K mainGlobals "tuple" = some none) (z_len : PySem.W.nsIn K mainGlobals "len" = some none) (z_max : PySem.W.nsIn K mainGlobals "max" = some none) (z_min : PySem.W.nsIn K mainGlobals "min" = some none) (z_range : PySem.W.nsIn K mainGlobals "range" = some none) (z_all : PySem.W.nsIn K mainGlobals "all" = some none) (z_reversed : PySem.W.nsIn K mainGlobals "reversed" = some none) :
    ∃ fd : FuncData, (∀ (s : Shared) (v : Value), BindsTo s fd ⟨[v], []⟩ [("_law_script", v)]) ∧ ∀ base : Heap, K.In base → base.Ns mainGlobals mg → FnOk l.prog w K mg base CX0 11 fa fd ["_law_script"] ((spLaw K)) := by
  have e := hfa.symm.trans (PySem.W.mg_of X G a37)
  cases e
  have T : Txt K mg := ⟨PySem.W.mg_none_of X G z_isinstance, PySem.W.mg_none_of X G z_int, PySem.W.mg_none_of X G z_bool, PySem.W.mg_none_of X G z_list, PySem.W.mg_none_of X G z_tuple, PySem.W.mg_none_of X G z_len, PySem.W.mg_none_of X G z_max, PySem.W.mg_none_of X G z_min, PySem.W.mg_none_of X G z_range, PySem.W.mg_none_of X G z_all, PySem.W.mg_none_of X G z_reversed⟩
  have F1 := fun_mk (st := s_is_whole) l1 c1 k1
  have b1 := F1.binds (ps := ["thing"]) fun _ _ _ _ _ _ us hl => match us, hl with | [_], _ => rfl
  have F2 := fun_mk (st := s_is_between) l2 c2 k2
  have b2 := F2.binds (ps := ["thing", "low", "high"]) fun _ _ _ _ _ _ us hl => match us, hl with | [_, _, _], _ => rfl
  have F3 := fun_mk (st := s_need_width) l3 c3 k3
  have b3 := F3.binds (ps := ["width"]) fun _ _ _ _ _ _ us hl => match us, hl with | [_], _ => rfl
  have F4 := fun_mk (st := s_is_word) l4 c4 k4
  have b4 := F4.binds (ps := ["width", "thing"]) fun _ _ _ _ _ _ us hl => match us, hl with | [_, _], _ => rfl
  have F5 := fun_mk (st := s_has_long) l5 c5 k5
  have b5 := F5.binds (ps := ["width", "thing"]) fun _ _ _ _ _ _ us hl => match us, hl with | [_, _], _ => rfl
  have F6 := fun_mk (st := s_need_long) l6 c6 k6
  have b6 := F6.binds (ps := ["width", "one"]) fun _ _ _ _ _ _ us hl => match us, hl with | [_, _], _ => rfl
  have F7 := fun_mk (st := s_need_longs) l7 c7 k7
  have b7 := F7.binds (ps := ["width", "one", "other"]) fun _ _ _ _ _ _ us hl => match us, hl with | [_, _, _], _ => rfl
  have F8 := fun_mk (st := s_trimmed) l8 c8 k8
  have b8 := F8.binds (ps := ["words"]) fun _ _ _ _ _ _ us hl => match us, hl with | [_], _ => rfl
  have F9 := fun_mk (st := s_word_at) l9 c9 k9
  have b9 := F9.binds (ps := ["one", "place"]) fun _ _ _ _ _ _ us hl => match us, hl with | [_, _], _ => rfl
  have F10 := fun_mk (st := s_add_words) l10 c10 k10
  have b10 := F10.binds (ps := ["width", "one", "other"]) fun _ _ _ _ _ _ us hl => match us, hl with | [_, _, _], _ => rfl
  have F11 := fun_mk (st := s_compared) l11 c11 k11
  have b11 := F11.binds (ps := ["one", "other"]) fun _ _ _ _ _ _ us hl => match us, hl with | [_, _], _ => rfl
  have F12 := fun_mk (st := s_product_by_word) l12 c12 k12
  have b12 := F12.binds (ps := ["width", "one", "word"]) fun _ _ _ _ _ _ us hl => match us, hl with | [_, _, _], _ => rfl
  have F13 := fun_mk (st := s_moved_left) l13 c13 k13
  have b13 := F13.binds (ps := ["width", "one", "many"]) fun _ _ _ _ _ _ us hl => match us, hl with | [_, _, _], _ => rfl
  have F14 := fun_mk (st := s_turn_to) l14 c14 k14
  have b14 := F14.binds (ps := ["width", "bottom"]) fun _ _ _ _ _ _ us hl => match us, hl with | [_, _], _ => rfl
  have F15 := fun_mk (st := s_need_division) l15 c15 k15
  have b15 := F15.binds (ps := ["width", "top", "bottom"]) fun _ _ _ _ _ _ us hl => match us, hl with | [_, _, _], _ => rfl
  have F16 := fun_mk (st := s_count_steps) l16 c16 k16
  have b16 := F16.binds (ps := ["top", "bottom"]) fun _ _ _ _ _ _ us hl => match us, hl with | [_, _], _ => rfl
  have F17 := fun_mk (st := s_is_guess) l17 c17 k17
  have b17 := F17.binds (ps := ["width", "divided", "lower", "thing"]) fun _ _ _ _ _ _ us hl => match us, hl with | [_, _, _, _], _ => rfl
  have F18 := fun_mk (st := s_is_row) l18 c18 k18
  have b18 := F18.binds (ps := ["width", "place", "divided", "lower", "thing"]) fun _ _ _ _ _ _ us hl => match us, hl with | [_, _, _, _, _], _ => rfl
  have F19 := fun_mk (st := s_is_division) l19 c19 k19
  have b19 := F19.binds (ps := ["width", "top", "bottom", "quotient", "rest", "rows"]) fun _ _ _ _ _ _ us hl => match us, hl with | [_, _, _, _, _, _], _ => rfl
  have F20 := fun_mk (st := s__law_drawn) l20 c20 k20
  have b20 := F20.binds (ps := ["_law_cell", "_law_sizes"]) fun _ _ _ _ _ _ us hl => match us, hl with | [_, _], _ => rfl
  have F21 := fun_mk (st := s__law_long) l21 c21 k21
  have b21 := F21.binds (ps := ["_law_draws", "_law_at", "_law_many", "_law_width"]) fun _ _ _ _ _ _ us hl => match us, hl with | [_, _, _, _], _ => rfl
  have F22 := fun_mk (st := s__law_number) l22 c22 k22
  have b22 := F22.binds (ps := ["_law_words_here", "_law_width"]) fun _ _ _ _ _ _ us hl => match us, hl with | [_, _], _ => rfl
  have F23 := fun_mk (st := s__law_words) l23 c23 k23
  have b23 := F23.binds (ps := ["_law_number_here", "_law_width"]) fun _ _ _ _ _ _ us hl => match us, hl with | [_, _], _ => rfl
  have F24 := fun_mk (st := s__law_whole) l24 c24 k24
  have b24 := F24.binds (ps := ["_law_found"]) fun _ _ _ _ _ _ us hl => match us, hl with | [_], _ => rfl
  have F25 := fun_mk (st := s__law_same) l25 c25 k25
  have b25 := F25.binds (ps := ["_law_found", "_law_due"]) fun _ _ _ _ _ _ us hl => match us, hl with | [_, _], _ => rfl
  have F26 := fun_mk (st := s__law_case) l26 c26 k26
  have b26 := F26.binds (ps := ["_law_cell"]) fun _ _ _ _ _ _ us hl => match us, hl with | [_], _ => rfl
  have F27 := fun_mk (st := s__law_far) l27 c27 k27
  have b27 := F27.binds (ps := ["_law_words_here", "_law_size"]) fun _ _ _ _ _ _ us hl => match us, hl with | [_, _], _ => rfl
  have F28 := fun_mk (st := s__law_made) l28 c28 k28
  have b28 := F28.binds (ps := ["_law_width", "_law_top", "_law_bottom", "_law_at", "_law_more"]) fun _ _ _ _ _ _ us hl => match us, hl with | [_, _, _, _, _], _ => rfl
  have F29 := fun_mk (st := s__law_copy) l29 c29 k29
  have b29 := F29.binds (ps := ["_law_rows"]) fun _ _ _ _ _ _ us hl => match us, hl with | [_], _ => rfl
  have F30 := fun_mk (st := s__law_plus) l30 c30 k30
  have b30 := F30.binds (ps := ["_law_words_here", "_law_more", "_law_width"]) fun _ _ _ _ _ _ us hl => match us, hl with | [_, _, _], _ => rfl
  have F31 := fun_mk (st := s__law_truth) l31 c31 k31
  have b31 := F31.binds (ps := ["_law_words_here"]) fun _ _ _ _ _ _ us hl => match us, hl with | [_], _ => rfl
  have F32 := fun_mk (st := s__law_row_forged) l32 c32 k32
  have b32 := F32.binds (ps := ["_law_way", "_law_row"]) fun _ _ _ _ _ _ us hl => match us, hl with | [_, _], _ => rfl
  have F33 := fun_mk (st := s__law_last) l33 c33 k33
  have b33 := F33.binds (ps := ["_law_way", "_law_honest", "_law_width"]) fun _ _ _ _ _ _ us hl => match us, hl with | [_, _, _], _ => rfl
  have F34 := fun_mk (st := s__law_forged) l34 c34 k34
  have b34 := F34.binds (ps := ["_law_way", "_law_at", "_law_honest", "_law_width"]) fun _ _ _ _ _ _ us hl => match us, hl with | [_, _, _, _], _ => rfl
  have F35 := fun_mk (st := s__law_asked) l35 c35 k35
  have b35 := F35.binds (ps := ["_law_width", "_law_top", "_law_bottom", "_law_told"]) fun _ _ _ _ _ _ us hl => match us, hl with | [_, _, _, _], _ => rfl
  have F36 := fun_mk (st := s__law_held) l36 c36 k36
  have b36 := F36.binds (ps := ["_law_width", "_law_top", "_law_bottom", "_law_ways", "_law_at"]) fun _ _ _ _ _ _ us hl => match us, hl with | [_, _, _, _, _], _ => rfl
  have F37 := fun_mk (st := s_law) l37 c37 k37
  refine ⟨PySem.W.fnOf "law" "law" (defArgs s_law) (defBody s_law) (defScope s_law) .none kV37 dc37 pm37 an37 cd37 ct37, fun s v => .of_eq rfl, fun base _ _ => ?_⟩
  have H__law_drawn : Has l.prog w K mg base 1 "_law_drawn" ["_law_cell", "_law_sizes"] spDrawn := ⟨_, _, ok__law_drawn F20 T , b20, k20, PySem.W.mg_of X G a20⟩
  have H__law_long : Has l.prog w K mg base 1 "_law_long" ["_law_draws", "_law_at", "_law_many", "_law_width"] spLLong := ⟨_, _, ok__law_long F21 T , b21, k21, PySem.W.mg_of X G a21⟩
  have H__law_words : Has l.prog w K mg base 1 "_law_words" ["_law_number_here", "_law_width"] spLW := ⟨_, _, ok__law_words F23 T , b23, k23, PySem.W.mg_of X G a23⟩
  have H__law_number : Has l.prog w K mg base 1 "_law_number" ["_law_words_here", "_law_width"] spLNum := ⟨_, _, ok__law_number F22 T , b22, k22, PySem.W.mg_of X G a22⟩
  have H__law_case : Has l.prog w K mg base 2 "_law_case" ["_law_cell"] spCase := ⟨_, _, ok__law_case F26 T H__law_drawn H__law_long H__law_words H__law_number, b26, k26, PySem.W.mg_of X G a26⟩
  have H__law_far : Has l.prog w K mg base 1 "_law_far" ["_law_words_here", "_law_size"] spFar := ⟨_, _, ok__law_far F27 T , b27, k27, PySem.W.mg_of X G a27⟩
  have H__law_made : Has l.prog w K mg base 2 "_law_made" ["_law_width", "_law_top", "_law_bottom", "_law_at", "_law_more"] spMadeR := ⟨_, _, ok__law_made F28 T H__law_number H__law_words, b28, k28, PySem.W.mg_of X G a28⟩
  have H__law_copy : Has l.prog w K mg base 1 "_law_copy" ["_law_rows"] spCopy := ⟨_, _, ok__law_copy F29 T , b29, k29, PySem.W.mg_of X G a29⟩
  have H_is_whole : Has l.prog w K mg base 1 "is_whole" ["thing"] spWholeG := ⟨_, _, ok_is_whole F1 T , b1, k1, PySem.W.mg_of X G a1⟩
  have H_is_between : Has l.prog w K mg base 2 "is_between" ["thing", "low", "high"] spBtwG := ⟨_, _, ok_is_between F2 T H_is_whole, b2, k2, PySem.W.mg_of X G a2⟩
  have H_need_width : Has l.prog w K mg base 3 "need_width" ["width"] spNeedW := ⟨_, _, ok_need_width F3 T H_is_between, b3, k3, PySem.W.mg_of X G a3⟩
  have H_is_word : Has l.prog w K mg base 3 "is_word" ["width", "thing"] spWordG := ⟨_, _, ok_is_word F4 T H_is_between, b4, k4, PySem.W.mg_of X G a4⟩
  have H_has_long : Has l.prog w K mg base 4 "has_long" ["width", "thing"] spHasO := ⟨_, _, ok_has_long F5 T H_is_word, b5, k5, PySem.W.mg_of X G a5⟩
  have W_has_long : Has l.prog w K mg base 4 "has_long" ["width", "thing"] spHasL := H_has_long.imp imp_hasL
  have H_need_long : Has l.prog w K mg base 5 "need_long" ["width", "one"] spNeedL := ⟨_, _, ok_need_long F6 T H_need_width W_has_long, b6, k6, PySem.W.mg_of X G a6⟩
  have H_need_longs : Has l.prog w K mg base 6 "need_longs" ["width", "one", "other"] spNeedLs := ⟨_, _, ok_need_longs F7 T H_need_long, b7, k7, PySem.W.mg_of X G a7⟩
  have H_need_division : Has l.prog w K mg base 7 "need_division" ["width", "top", "bottom"] spND := ⟨_, _, ok_need_division F15 T H_need_longs, b15, k15, PySem.W.mg_of X G a15⟩
  have H_count_steps : Has l.prog w K mg base 1 "count_steps" ["top", "bottom"] spCnt := ⟨_, _, ok_count_steps F16 T , b16, k16, PySem.W.mg_of X G a16⟩
  have H_turn_to : Has l.prog w K mg base 1 "turn_to" ["width", "bottom"] spTT := ⟨_, _, ok_turn_to F14 T , b14, k14, PySem.W.mg_of X G a14⟩
  have H_trimmed : Has l.prog w K mg base 1 "trimmed" ["words"] spTrim := ⟨_, _, ok_trimmed F8 T , b8, k8, PySem.W.mg_of X G a8⟩
  have H_product_by_word : Has l.prog w K mg base 2 "product_by_word" ["width", "one", "word"] spPBW := ⟨_, _, ok_product_by_word F12 T H_trimmed, b12, k12, PySem.W.mg_of X G a12⟩
  have H_moved_left : Has l.prog w K mg base 3 "moved_left" ["width", "one", "many"] spML := ⟨_, _, ok_moved_left F13 T H_trimmed H_product_by_word, b13, k13, PySem.W.mg_of X G a13⟩
  have H_word_at : Has l.prog w K mg base 1 "word_at" ["one", "place"] spWAt := ⟨_, _, ok_word_at F9 T , b9, k9, PySem.W.mg_of X G a9⟩
  have H_is_guess : Has l.prog w K mg base 4 "is_guess" ["width", "divided", "lower", "thing"] spIsG := ⟨_, _, ok_is_guess F17 T H_is_word H_word_at, b17, k17, PySem.W.mg_of X G a17⟩
  have H_compared : Has l.prog w K mg base 1 "compared" ["one", "other"] spCmp := ⟨_, _, ok_compared F11 T , b11, k11, PySem.W.mg_of X G a11⟩
  have H_add_words : Has l.prog w K mg base 2 "add_words" ["width", "one", "other"] spAdd := ⟨_, _, ok_add_words F10 T H_word_at, b10, k10, PySem.W.mg_of X G a10⟩
  have H_is_row : Has l.prog w K mg base 5 "is_row" ["width", "place", "divided", "lower", "thing"] spIsR := ⟨_, _, ok_is_row F18 T H_is_guess H_is_between H_is_whole H_is_word H_has_long H_compared H_add_words H_product_by_word, b18, k18, PySem.W.mg_of X G a18⟩
  have H_is_division : Has l.prog w K mg base 8 "is_division" ["width", "top", "bottom", "quotient", "rest", "rows"] spIsD := ⟨_, _, ok_is_division F19 T H_need_division H_count_steps H_turn_to H_moved_left H_has_long H_is_row H_trimmed H_word_at, b19, k19, PySem.W.mg_of X G a19⟩
  have H__law_whole : Has l.prog w K mg base 1 "_law_whole" ["_law_found"] spWhole := ⟨_, _, ok__law_whole F24 T , b24, k24, PySem.W.mg_of X G a24⟩
  have H__law_same : Has l.prog w K mg base 2 "_law_same" ["_law_found", "_law_due"] spSame := ⟨_, _, ok__law_same F25 T H__law_whole, b25, k25, PySem.W.mg_of X G a25⟩
  have H__law_asked : Has l.prog w K mg base 9 "_law_asked" ["_law_width", "_law_top", "_law_bottom", "_law_told"] spAsk := ⟨_, _, ok__law_asked F35 T H_is_division H__law_same, b35, k35, PySem.W.mg_of X G a35⟩
  have H__law_plus : Has l.prog w K mg base 2 "_law_plus" ["_law_words_here", "_law_more", "_law_width"] spPlus := ⟨_, _, ok__law_plus F30 T H__law_words H__law_number, b30, k30, PySem.W.mg_of X G a30⟩
  have H__law_last : Has l.prog w K mg base 3 "_law_last" ["_law_way", "_law_honest", "_law_width"] spLast := ⟨_, _, ok__law_last F33 T H__law_plus, b33, k33, PySem.W.mg_of X G a33⟩
  have H__law_truth : Has l.prog w K mg base 1 "_law_truth" ["_law_words_here"] spTruth := ⟨_, _, ok__law_truth F31 T , b31, k31, PySem.W.mg_of X G a31⟩
  have H__law_row_forged : Has l.prog w K mg base 2 "_law_row_forged" ["_law_way", "_law_row"] spRowF := ⟨_, _, ok__law_row_forged F32 T H__law_truth, b32, k32, PySem.W.mg_of X G a32⟩
  have H__law_forged : Has l.prog w K mg base 4 "_law_forged" ["_law_way", "_law_at", "_law_honest", "_law_width"] spForg := ⟨_, _, ok__law_forged F34 T H__law_last H__law_plus H__law_truth H__law_row_forged, b34, k34, PySem.W.mg_of X G a34⟩
  have H__law_held : Has l.prog w K mg base 10 "_law_held" ["_law_width", "_law_top", "_law_bottom", "_law_ways", "_law_at"] spHeld := ⟨_, _, ok__law_held F36 T H__law_made H__law_copy H__law_asked H__law_same H__law_forged, b36, k36, PySem.W.mg_of X G a36⟩
  exact ok_law F37 T H__law_case H__law_far H__law_held
theorem walk {l : PySem.W.OpenLaw} {q : Program} {loose : List Str} {XP : (Str → Option Value) → Heap → Prop} {YP : World → Heap → Prop} {d : DefRec} {K : Params → PySem.W.Frag} (hn : l.most = some 63) (hdf : d.params.defaults = [])
    (hY : ∀ (w : World) (h : Heap), YP w h → (K w.params).In h)
    (F : ∀ (w : World) (mg : Str → Option Value) (fa : Addr) (h : Heap), (K w.params).In h → h.Ns mainGlobals mg → mg d.name = some (.ref fa) →
      ∃ fd : FuncData, (∀ (s : Shared) (u : Value), BindsTo s fd ⟨[u], []⟩ [("_law_script", u)]) ∧ ∀ base : Heap, (K w.params).In base → base.Ns mainGlobals mg → FnOk l.prog w (K w.params) mg base CX0 11 fa fd ["_law_script"] (spLaw (K w.params))) :
    PySem.W.WalkO q loose XP YP l.row.toRowW d [] (fun f vs => PySem.call f vs) :=
  L2.walk_of (n := 63) (k := 11) (x := "_law_script") (CX := fun _ => CX0) (sp := fun w => spLaw (K w.params)) hn (by decide) hdf ⟨rfl, by decide, by decide, rfl⟩ hY F (fun _ _ a ns hl _ hS => ⟨a, ns, rfl, hS, hl, fun _ => rfl⟩) fun _ _ _ _ _ z => z
end Ow
open PySem PySem.W PyProof.Rows
def PySem.W.Fast.tw1122886267351353488 : Nat := 0
def PySem.W.Fast.tw15635510020141968487 : Nat := 0
def PySem.W.Fast.tw9930167530066063730 : Nat := 0
def PySem.W.Fast.tw7808527735364312092 : Nat := 0
def PySem.W.Fast.tw6248168103208463802 : Nat := 0
def PySem.W.Fast.tw13546688419739645901 : Nat := 0
def PySem.W.Fast.tw3697282921652156828 : Nat := 0
def PySem.W.Fast.tw12963590631935012772 : Nat := 0
def PySem.W.Fast.tw14422525585744462342 : Nat := 0
def PySem.W.Fast.tw5830007399481489309 : Nat := 0
def PySem.W.Fast.tw1001918651723198725 : Nat := 0
def PySem.W.Fast.tw14982723756679676313 : Nat := 0
def PySem.W.Fast.tw13571367023049255352 : Nat := 0
def PySem.W.Fast.tw10393056997373254492 : Nat := 0
def PySem.W.Fast.tw13576045766276953485 : Nat := 0
def PySem.W.Fast.tw10508486308882450401 : Nat := 0
def PySem.W.Fast.tw4049946188649133792 : Nat := 0
def PySem.W.Fast.tw4345370339300906896 : Nat := 0
def PySem.W.Fast.tw2023411743967327502 : Nat := 0
def PySem.W.Fast.tw11944113138449069660 : Nat := 0
set_option maxRecDepth 100000 in
set_option maxHeartbeats 0 in
theorem PySem.Challenge.cw_overwise_k57_forged_rows_holds : PySem.Challenge.rw_overwise_k57_forged_rows.Holds := by
  w_on; o_law; k_head; (case hw => w_witness2)
  k_fill
  refine Ow.walk (l := PySem.Challenge.rw_overwise_k57_forged_rows) rfl rfl (fun w h Y => PySem.W.kIn_of Y) ?F
  case F =>
    intro w mg fa h KX G hmg
    refine' Ow.all_mk KX G hmg ?a1 ?l1 ?c1 ?k1 ?a2 ?l2 ?c2 ?k2 ?a3 ?l3 ?c3 ?k3 ?a4 ?l4 ?c4 ?k4 ?a5 ?l5 ?c5 ?k5 ?a6 ?l6 ?c6 ?k6 ?a7 ?l7 ?c7 ?k7 ?a8 ?l8 ?c8 ?k8 ?a9 ?l9 ?c9 ?k9 ?a10 ?l10 ?c10 ?k10 ?a11 ?l11 ?c11 ?k11 ?a12 ?l12 ?c12 ?k12 ?a13 ?l13 ?c13 ?k13 ?a14 ?l14 ?c14 ?k14 ?a15 ?l15 ?c15 ?k15 ?a16 ?l16 ?c16 ?k16 ?a17 ?l17 ?c17 ?k17 ?a18 ?l18 ?c18 ?k18 ?a19 ?l19 ?c19 ?k19 ?a20 ?l20 ?c20 ?k20 ?a21 ?l21 ?c21 ?k21 ?a22 ?l22 ?c22 ?k22 ?a23 ?l23 ?c23 ?k23 ?a24 ?l24 ?c24 ?k24 ?a25 ?l25 ?c25 ?k25 ?a26 ?l26 ?c26 ?k26 ?a27 ?l27 ?c27 ?k27 ?a28 ?l28 ?c28 ?k28 ?a29 ?l29 ?c29 ?k29 ?a30 ?l30 ?c30 ?k30 ?a31 ?l31 ?c31 ?k31 ?a32 ?l32 ?c32 ?k32 ?a33 ?l33 ?c33 ?k33 ?a34 ?l34 ?c34 ?k34 ?a35 ?l35 ?c35 ?k35 ?a36 ?l36 ?c36 ?k36 ?a37 ?l37 ?c37 ?k37        ?z_isinstance ?z_int ?z_bool ?z_list ?z_tuple ?z_len ?z_max ?z_min ?z_range ?z_all ?z_reversed
    (case a1 => k_is); (case l1 => k_is); (case c1 => k_is); (case k1 => k_is)
    (case a2 => k_is); (case l2 => k_is); (case c2 => k_is); (case k2 => k_is)
    (case a3 => k_is); (case l3 => k_is); (case c3 => k_is); (case k3 => k_is)
    (case a4 => k_is); (case l4 => k_is); (case c4 => k_is); (case k4 => k_is)
    (case a5 => k_is); (case l5 => k_is); (case c5 => k_is); (case k5 => k_is)
    (case a6 => k_is); (case l6 => k_is); (case c6 => k_is); (case k6 => k_is)
    (case a7 => k_is); (case l7 => k_is); (case c7 => k_is); (case k7 => k_is)
    (case a8 => k_is); (case l8 => k_is); (case c8 => k_is); (case k8 => k_is)
    (case a9 => k_is); (case l9 => k_is); (case c9 => k_is); (case k9 => k_is)
    (case a10 => k_is); (case l10 => k_is); (case c10 => k_is); (case k10 => k_is)
    (case a11 => k_is); (case l11 => k_is); (case c11 => k_is); (case k11 => k_is)
    (case a12 => k_is); (case l12 => k_is); (case c12 => k_is); (case k12 => k_is)
    (case a13 => k_is); (case l13 => k_is); (case c13 => k_is); (case k13 => k_is)
    (case a14 => k_is); (case l14 => k_is); (case c14 => k_is); (case k14 => k_is)
    (case a15 => k_is); (case l15 => k_is); (case c15 => k_is); (case k15 => k_is)
    (case a16 => k_is); (case l16 => k_is); (case c16 => k_is); (case k16 => k_is)
    (case a17 => k_is); (case l17 => k_is); (case c17 => k_is); (case k17 => k_is)
    (case a18 => k_is); (case l18 => k_is); (case c18 => k_is); (case k18 => k_is)
    (case a19 => k_is); (case l19 => k_is); (case c19 => k_is); (case k19 => k_is)
    (case a20 => k_is); (case l20 => k_is); (case c20 => k_is); (case k20 => k_is)
    (case a21 => k_is); (case l21 => k_is); (case c21 => k_is); (case k21 => k_is)
    (case a22 => k_is); (case l22 => k_is); (case c22 => k_is); (case k22 => k_is)
    (case a23 => k_is); (case l23 => k_is); (case c23 => k_is); (case k23 => k_is)
    (case a24 => k_is); (case l24 => k_is); (case c24 => k_is); (case k24 => k_is)
    (case a25 => k_is); (case l25 => k_is); (case c25 => k_is); (case k25 => k_is)
    (case a26 => k_is); (case l26 => k_is); (case c26 => k_is); (case k26 => k_is)
    (case a27 => k_is); (case l27 => k_is); (case c27 => k_is); (case k27 => k_is)
    (case a28 => k_is); (case l28 => k_is); (case c28 => k_is); (case k28 => k_is)
    (case a29 => k_is); (case l29 => k_is); (case c29 => k_is); (case k29 => k_is)
    (case a30 => k_is); (case l30 => k_is); (case c30 => k_is); (case k30 => k_is)
    (case a31 => k_is); (case l31 => k_is); (case c31 => k_is); (case k31 => k_is)
    (case a32 => k_is); (case l32 => k_is); (case c32 => k_is); (case k32 => k_is)
    (case a33 => k_is); (case l33 => k_is); (case c33 => k_is); (case k33 => k_is)
    (case a34 => k_is); (case l34 => k_is); (case c34 => k_is); (case k34 => k_is)
    (case a35 => k_is); (case l35 => k_is); (case c35 => k_is); (case k35 => k_is)
    (case a36 => k_is); (case l36 => k_is); (case c36 => k_is); (case k36 => k_is)
    (case a37 => k_is); (case l37 => k_is); (case c37 => k_is); (case k37 => k_is)
    (case z_isinstance => k_is)
    (case z_int => k_is)
    (case z_bool => k_is)
    (case z_list => k_is)
    (case z_tuple => k_is)
    (case z_len => k_is)
    (case z_max => k_is)
    (case z_min => k_is)
    (case z_range => k_is)
    (case z_all => k_is)
    (case z_reversed => k_is)
