import PyProof.Rows.All
import Wide.All
import OpenK.AllK
import Wide.FinOn
import Lean
import PyProof.EqAt
import PyProof.EqKinds
import PyProof.TupleCall
import KE.BitLaws
import KE.IntBitsLaws
import KE.KIntText
import PySem.Challenge.RW_overwise_k43_papers_forged
set_option Elab.async false
set_option linter.all false
set_option maxRecDepth 100000
namespace L2
open PySem PySem.Spec PyProof.Rows
abbrev Key := Sum Int Str
def keyIs : Key → Value → Bool
  | .inl k, v => Value.isInt k v
  | .inr x, v => Value.isStrOf x v
def keyH (w : World) : Key → Int
  | .inl k => hashInt k
  | .inr x => hashStr w x
theorem keyIs_shape : ∀ {k : Key} {v : Value}, keyIs k v = true → (∃ i t, k = Sum.inl i ∧ v = Value.int i t) ∨ (∃ x t, k = Sum.inr x ∧ v = Value.str x t)
  | .inl i, v, h => by
    obtain ⟨t, e⟩ := Value.isInt_shape (k := i) (v := v) h
    exact .inl ⟨i, t, rfl, e⟩
  | .inr x, v, h => by
    obtain ⟨t, e⟩ := Value.isStrOf_shape (x := x) (v := v) h
    exact .inr ⟨x, t, rfl, e⟩
theorem keyIs_int (i : Int) (t : Tok) : keyIs (.inl i) (.int i t) = true := by simp [keyIs, Value.isInt]
theorem key_ll (a b : Int) : decide ((Sum.inl a : Key) = Sum.inl b) = (a == b) := by
  by_cases e : a = b
  · subst e; simp
  · have h : ¬ (Sum.inl a : Key) = Sum.inl b := fun q => e (Sum.inl.inj q)
    rw [decide_eq_false h]
    exact (beq_eq_false_iff_ne.mpr e).symm
theorem key_rr (a b : Str) : decide ((Sum.inr a : Key) = Sum.inr b) = decide (a = b) := by
  by_cases e : a = b
  · subst e; simp
  · have h : ¬ (Sum.inr a : Key) = Sum.inr b := fun q => e (Sum.inr.inj q)
    rw [decide_eq_false h, decide_eq_false e]
theorem key_lr (a : Int) (b : Str) : decide ((Sum.inl a : Key) = Sum.inr b) = false := decide_eq_false (fun q => nomatch q)
theorem key_rl (a : Str) (b : Int) : decide ((Sum.inr a : Key) = Sum.inl b) = false := decide_eq_false (fun q => nomatch q)
def mixKind (prog : Program) (w : World) : PySem.KeyKind prog w Key where
  is := keyIs
  hash := keyH w
  inj := fun v a b ha hb => by
    rcases keyIs_shape ha with ⟨i, t, rfl, rfl⟩ | ⟨x, t, rfl, rfl⟩
    · rcases keyIs_shape hb with ⟨j, u, rfl, e⟩ | ⟨y, u, rfl, e⟩
      · injection e with e1 _; rw [e1]
      · exact nomatch e
    · rcases keyIs_shape hb with ⟨j, u, rfl, e⟩ | ⟨y, u, rfl, e⟩
      · exact nomatch e
      · injection e with e1 _; rw [e1]
  byValue := fun k v h => by
    rcases keyIs_shape h with ⟨i, t, rfl, rfl⟩ | ⟨x, t, rfl, rfl⟩ <;> rfl
  pyHash := fun hv h => by
    rcases keyIs_shape hv with ⟨i, t, rfl, rfl⟩ | ⟨x, t, rfl, rfl⟩
    · exact wpAny_pyHash_int h
    · exact wpAny_pyHash_str h
  eqBool := fun hu hv h => by
    rcases keyIs_shape hu with ⟨i, t, rfl, rfl⟩ | ⟨x, t, rfl, rfl⟩
    · rcases keyIs_shape hv with ⟨j, u, rfl, rfl⟩ | ⟨y, u, rfl, rfl⟩
      · rw [key_ll] at h; exact wpAny_eqBool_int h
      · rw [key_lr] at h; exact SeqAt.EqAt.int_str i t y u _ _ _ _ h
    · rcases keyIs_shape hv with ⟨j, u, rfl, rfl⟩ | ⟨y, u, rfl, rfl⟩
      · rw [key_rl] at h; exact SeqAt.EqAt.str_int x t j u _ _ _ _ h
      · rw [key_rr] at h; exact wpAny_eqBool_str h
  «strs» := fun k x t v h => by
    rcases keyIs_shape h with ⟨i, u, rfl, e⟩ | ⟨y, u, rfl, e⟩
    · exact nomatch e
    · injection e with e1 _
      subst e1
      cases v <;> rfl
theorem mixKind_int (prog : Program) (w : World) (i : Int) (t : Tok) : (mixKind prog w).is (.inl i) (.int i t) = true := keyIs_int i t
end L2
namespace L2
open PySem PySem.Spec PyProof.Rows
inductive V where
  | non | bl (b : Bool) | int (i : Int) | str (x : Str) | byt (b : Array UInt8) | flt (b : UInt64) | ref (a : Addr) | ty (n : String)
  deriving DecidableEq
def RelV : V → Value → Prop
  | .non, u => u = Value.none
  | .bl b, u => u = Value.bool b
  | .int i, u => ∃ t, u = Value.int i t
  | .str x, u => ∃ t, u = Value.str x t
  | .byt b, u => ∃ t, u = Value.bytes b t
  | .flt b, u => ∃ t, u = Value.float b t
  | .ref a, u => u = Value.ref a
  | .ty n, u => u = Value.type n
abbrev Vals : List V → List Value → Prop := Paired RelV
theorem Vals.length {xs : List V} {us : List Value} (r : Vals xs us) : xs.length = us.length := Paired.length r
theorem Vals.get : ∀ {xs : List V} {us : List Value} {i : Nat} {x : V}, Vals xs us → xs[i]? = some x → ∃ u, us[i]? = some u ∧ RelV x u
  | _, _, _, _, .nil, e => by simp at e
  | _, _, 0, _, .cons r _, e => by simp at e; subst e; exact ⟨_, rfl, r⟩
  | _, _, i + 1, x, .cons _ t, e => by
    obtain ⟨u, h1, h2⟩ := Vals.get (i := i) (x := x) t (by simpa using e)
    exact ⟨u, by simpa using h1, h2⟩
theorem Vals.set {x : V} {u : Value} (r : RelV x u) : ∀ {xs : List V} {us : List Value} (i : Nat), Vals xs us → Vals (xs.set i x) (us.set i u)
  | _, _, _, .nil => .nil
  | _, _, 0, .cons _ t => .cons r t
  | _, _, i + 1, .cons q t => .cons q (Vals.set r i t)
theorem Vals.append : ∀ {xs ys : List V} {us ws : List Value}, Vals xs us → Vals ys ws → Vals (xs ++ ys) (us ++ ws)
  | _, _, _, _, .nil, s => s
  | _, _, _, _, .cons r t, s => .cons r (Vals.append t s)
theorem Vals.take : ∀ {xs : List V} {us : List Value} (n : Nat), Vals xs us → Vals (xs.take n) (us.take n)
  | _, _, 0, _ => .nil
  | _, _, _ + 1, .nil => .nil
  | _, _, n + 1, .cons r t => .cons r (Vals.take n t)
theorem Vals.drop : ∀ {xs : List V} {us : List Value} (n : Nat), Vals xs us → Vals (xs.drop n) (us.drop n)
  | _, _, 0, r => r
  | _, _, _ + 1, .nil => .nil
  | _, _, n + 1, .cons _ t => Vals.drop n t
def RelO : Option V → Option Value → Prop
  | some v, some u => RelV v u
  | none, none => True
  | _, _ => False
def KV {κ : Type} : List (κ × V) → List (κ × Value) → Prop := Paired fun (p : κ × V) (q : κ × Value) => p.1 = q.1 ∧ RelV p.2 q.2
def kV : Key → V
  | .inl i => .int i
  | .inr x => .str x
inductive HO where
  /-- a list -/
  | lst (xs : List V)
  /-- a tuple (never changes) -/
  | tup (xs : List V)
  /-- a dict whose keys are ints and texts; one whose keys are tuples of ints and texts (the empty one is both) -/
  | dK (kvs : List (Key × V)) | dT (kvs : List (List Key × V))
  /-- a set of ints: its members, its size -/
  | set (S : Int → Bool) (n : Nat)
  /-- an instance of the class at C, its dict at dx, its attributes -/
  | ins (C dx : Addr) (fs : List (Str × V))
  /-- the dict of the instance at x -/
  | own (x : Addr)
  /-- the dict of an exception -/
  | xd (fs : List (Str × V))
  /-- a bound method, f of x -/
  | met (f x : Addr)
  /-- a range object lo, lo + 1, .. below hi -/
  | rng (lo hi : Int)
  /-- a thing that is known to the object (the script; a dict while a loop walks it): read, never written while it is so -/
  | frz (o : Obj) (u : HO)
  /-- a code object's table -/
  | tbl (ps : Array Value)
  /-- any other thing, by what is true of its one object (a def of one's own: SetO a S n := HO.ext fun h => ..) -/
  | ext (φ : Heap → Prop)
abbrev Hp := Addr → Option HO
def upd (H : Hp) (a : Addr) (o : HO) : Hp := fun b => if b = a then some o else H b
theorem upd_same {H : Hp} {a : Addr} {o : HO} : upd H a o a = some o := by unfold upd; rw [if_pos rfl]
theorem upd_ne {H : Hp} {a b : Addr} {o : HO} (h : b ≠ a) : upd H a o b = H b := by unfold upd; rw [if_neg h]
theorem ne_of_none {H : Hp} {a b : Addr} {o : HO} (h : H a = some o) (h' : H b = none) : a ≠ b := by
  intro e; subst e; rw [h] at h'; cases h'
section
variable (P : Program) (w : World)
def ObjOk (H : Hp) (h : Heap) (a : Addr) : HO → Prop
  | .lst xs => xs.length ≤ sizeLine ∧ ∃ (its : List Value) (n : Nat), Vals xs its ∧ h.get? a = some { cls := .type "list", data := .seq its.toArray n }
  | .tup xs => xs.length ≤ sizeLine ∧ ∃ its : List Value, Vals xs its ∧ IsTup h a its.toArray
  | .dK kvs => kvs.length ≤ sizeLine ∧ (a == sysModules) = false ∧ ∃ vs, KV kvs vs ∧ h.DictOf (mixKind P w) a vs
  | .dT kvs => kvs.length ≤ sizeLine ∧ (a == sysModules) = false ∧ ∃ xs : List (List Key × Addr × Value),
      Paired (fun (p : List Key × V) (q : List Key × Addr × Value) => p.1 = q.1 ∧ H q.2.1 = some (.tup (p.1.map kV)) ∧ RelV p.2 q.2.2) kvs xs ∧
      ∃ o es ep, h.get? a = some o ∧ o.ExactDict ∧ o.data = .dict es ep ∧ es.toList = xs.map (entryOfKey (tupleKind (mixKind P w))) ∧ (xs.map (·.1)).Nodup
  | .set S n => h.SetOf (intKind P w) a S n
  | .ins C dx fs => H dx = some (.own a) ∧ fs.length ≤ 1000 ∧ dx ≠ a ∧ h.get? a = some (PySem.W.instObj C dx) ∧
      ∃ mA, h.Ns1 dx mA ∧ (∀ f, RelO (fs.lookup f) (mA f)) ∧ PySem.Within mA (fs.map (·.1))
  | .own _ => ∃ o, h.get? a = some o
  | .xd fs => ∃ mA, h.Ns1 a mA ∧ ∀ f, RelO (fs.lookup f) (mA f)
  | .rng lo hi => ∃ t u v, h.get? a = some { cls := .type "range", data := .fields #[.int lo t, .int hi u, .int 1 v] }
  | .frz o u => h.get? a = some o ∧ ObjOk H h a u
  | .tbl ps => h.get? a = some { cls := .none, data := .fields ps }
  | .met f x => h.get? a = some (PySem.W.methodObj (.ref f) (.ref x))
  | .ext φ => φ h ∧ (∃ o, h.get? a = some o) ∧ ∀ h1 h2 : Heap, φ h1 → (∀ o, h1.get? a = some o → h2.get? a = some o) → φ h2
def HOk (H : Hp) (h : Heap) : Prop := ∀ a o, H a = some o → ObjOk P w H h a o
end
section
variable {P : Program} {w : World} {H H' : Hp} {h h' : Heap} {a : Addr} {o : HO}
theorem ObjOk.lt (x : ObjOk P w H h a o) : a < h.objs.size := by
  cases o with
  | lst xs => obtain ⟨_, _, _, _, e⟩ := x; exact Heap.lt_size e
  | tup xs => obtain ⟨_, _, _, p⟩ := x; exact p.lt
  | dK kvs => obtain ⟨_, _, _, _, o, _, _, e, _⟩ := x; exact Heap.lt_size e
  | dT kvs => obtain ⟨_, _, _, _, o, _, _, e, _⟩ := x; exact Heap.lt_size e
  | set S n => obtain ⟨o, _, _, _, e, _⟩ := x; exact Heap.lt_size e
  | ins C dx fs => obtain ⟨_, _, _, e, _⟩ := x; exact Heap.lt_size e
  | own y => obtain ⟨_, e⟩ := x; exact Heap.lt_size e
  | xd fs => obtain ⟨_, ⟨_, _, _, e, _⟩, _⟩ := x; exact Heap.lt_size e
  | rng lo hi => obtain ⟨_, _, _, e⟩ := x; exact Heap.lt_size e
  | frz ob u => obtain ⟨e, _⟩ := x; exact Heap.lt_size e
  | tbl ps => exact Heap.lt_size (show h.get? a = some _ from x)
  | met f y => exact Heap.lt_size (show h.get? a = some _ from x)
  | ext φ => obtain ⟨_, ⟨_, e⟩, _⟩ := x; exact Heap.lt_size e
theorem Paired.mapP {α β : Type} {F G : α → β → Prop} : ∀ {l₁ : List α} {l₂ : List β}, Paired F l₁ l₂ → (∀ a b, F a b → G a b) → Paired G l₁ l₂
  | _, _, .nil, _ => .nil
  | _, _, .cons r t, f => .cons (f _ _ r) (Paired.mapP t f)
theorem ObjOk.stay (x : ObjOk P w H h a o) (k : ∀ b u, (b = a ∨ H b = some (.own a)) → h.get? b = some u → h'.get? b = some u)
    (ho : ∀ b, H b = some (.own a) → H' b = some (.own a)) (ht : ∀ b xs, H b = some (.tup xs) → H' b = some (.tup xs)) : ObjOk P w H' h' a o := by
  induction o with
  | lst xs => obtain ⟨z, its, n, r, e⟩ := x; exact ⟨z, its, n, r, k _ _ (.inl rfl) e⟩
  | tup xs => obtain ⟨z, its, r, ob, e, c⟩ := x; exact ⟨z, its, r, ob, k _ _ (.inl rfl) e, c⟩
  | dK kvs => obtain ⟨z, y, vs, r, ob, es, ep, e, c⟩ := x; exact ⟨z, y, vs, r, ob, es, ep, k _ _ (.inl rfl) e, c⟩
  | dT kvs =>
    obtain ⟨z, y, xs, r, ob, es, ep, e, c⟩ := x
    exact ⟨z, y, xs, Paired.mapP r fun p q z => ⟨z.1, ht _ _ z.2.1, z.2.2⟩, ob, es, ep, k _ _ (.inl rfl) e, c⟩
  | set S n => obtain ⟨ob, es, ep, t, e, c⟩ := x; exact ⟨ob, es, ep, t, k _ _ (.inl rfl) e, c⟩
  | ins C dx fs =>
    obtain ⟨d, z, ne, e, mA, ⟨od, es, ep, e2, c⟩, r⟩ := x
    exact ⟨ho _ d, z, ne, k _ _ (.inl rfl) e, mA, ⟨od, es, ep, k _ _ (.inr d) e2, c⟩, r⟩
  | own y => obtain ⟨ob, e⟩ := x; exact ⟨ob, k _ _ (.inl rfl) e⟩
  | xd fs => obtain ⟨mA, ⟨od, es, ep, e, c⟩, r⟩ := x; exact ⟨mA, ⟨od, es, ep, k _ _ (.inl rfl) e, c⟩, r⟩
  | rng lo hi => obtain ⟨t, u, v, e⟩ := x; exact ⟨t, u, v, k _ _ (.inl rfl) e⟩
  | frz ob u ih => obtain ⟨e, q⟩ := x; exact ⟨k _ _ (.inl rfl) e, ih q⟩
  | tbl ps =>
    have e : h.get? a = some { cls := .none, data := .fields ps } := x
    show h'.get? a = some { cls := .none, data := .fields ps }
    exact k a _ (.inl rfl) e
  | met f y =>
    have e : h.get? a = some (PySem.W.methodObj (.ref f) (.ref y)) := x
    show h'.get? a = some (PySem.W.methodObj (.ref f) (.ref y))
    exact k a _ (.inl rfl) e
  | ext φ => obtain ⟨p, ⟨o, e⟩, st⟩ := x; exact ⟨st _ _ p fun o q => k _ _ (.inl rfl) q, ⟨o, k _ _ (.inl rfl) e⟩, st⟩
theorem HOk.lt (x : HOk P w H h) (e : H a = some o) : a < h.objs.size := (x a o e).lt
theorem HOk.fresh (x : HOk P w H h) (e : h.objs.size ≤ a) : H a = none := by
  cases q : H a with
  | none => rfl
  | some u => exact absurd (Nat.lt_of_lt_of_le (x.lt q) e) (Nat.lt_irrefl _)
theorem HOk.kept (x : HOk P w H h) (k : ∀ b u, h.get? b = some u → h'.get? b = some u) : HOk P w H h' := fun a o e =>
  (x a o e).stay (fun b u _ q => k b u q) (fun _ q => q) fun _ _ q => q
theorem HOk.laid (x : HOk P w H h) (k : ∀ b u, h.get? b = some u → h'.get? b = some u) (hp : h.objs.size ≤ a) (new : ObjOk P w (upd H a o) h' a o) : HOk P w (upd H a o) h' := fun b u e => by
  have hn := x.fresh hp
  by_cases hb : b = a
  · subst hb; rw [upd_same] at e; cases e; exact new
  · rw [upd_ne hb] at e
    exact (x b u e).stay (fun c v _ q => k c v q) (fun c q => by rw [upd_ne (ne_of_none q hn)]; exact q) fun c xs q => by rw [upd_ne (ne_of_none q hn)]; exact q
end
def Rd (H : Hp) (a : Addr) (u : HO) : Prop := H a = some u ∨ ∃ o, H a = some (.frz o u)
theorem Rd.ok {P : Program} {w : World} {H : Hp} {h : Heap} {a : Addr} {u : HO} (r : Rd H a u) (x : HOk P w H h) : ObjOk P w H h a u := by
  rcases r with r | ⟨o, r⟩
  · exact x a u r
  · obtain ⟨_, q⟩ := x a _ r
    exact q
def Mut : Option HO → Prop
  | some (.lst _) => True
  | some (.dK _) => True
  | some (.dT _) => True
  | some (.set _ _) => True
  | some (.ins _ _ _) => True
  | some (.ext _) => True
  | _ => False
section
variable {P : Program} {w : World} {H : Hp} {h h' : Heap} {x e : Addr} {o' : HO}
theorem HOk.write (ok : HOk P w H h) (mu : Mut (H x)) (he : e = x ∨ H e = some (.own x)) (k : ∀ b u, b ≠ e → h.get? b = some u → h'.get? b = some u) (heo : ∃ u, h'.get? e = some u)
    (new : ObjOk P w (upd H x o') h' x o') : HOk P w (upd H x o') h' := fun b u q => by
  have nown : ∀ c y, H c = some (.own y) → c ≠ x := fun c y r z => by subst z; rw [r] at mu; exact mu
  have ntup : ∀ c xs, H c = some (.tup xs) → c ≠ x := fun c xs r z => by subst z; rw [r] at mu; exact mu
  by_cases hb : b = x
  · subst hb; rw [upd_same] at q; cases q; exact new
  · rw [upd_ne hb] at q
    by_cases hbe : b = e
    · have q' : H b = some (.own x) := by
        rcases he with z | z
        · exact absurd (hbe.trans z) hb
        · rw [hbe]; exact z
      rw [q] at q'; cases q'
      obtain ⟨v, hv⟩ := heo
      exact ⟨v, by rw [hbe]; exact hv⟩
    · refine (ok b u q).stay (fun c v hc r => k c v ?_ r) (fun c r => by rw [upd_ne (nown c b r)]; exact r) fun c xs r => by rw [upd_ne (ntup c xs r)]; exact r
      rcases hc with rfl | hc
      · exact hbe
      · rintro rfl
        rcases he with z | z
        · exact nown c b hc z
        · rw [hc] at z; cases z; exact hb rfl
end
structure Un (fs ex : List Addr) (H H' : Hp) (h h' : Heap) : Prop where
  keep : ∀ b o, h.get? b = some o → H b = none → b ∉ fs → b ∉ ex → h'.get? b = some o
  slot : ∀ b o, h.get? b = some o → H b = none → b ∈ fs → b ∉ ex → ∃ sl, h'.get? b = some { o with slots := sl }
  free : ∀ b o, h.get? b = some o → H b = none → b ∉ ex → H' b = none
  there : ∀ b o, h.get? b = some o → b ∉ ex → ∃ o', h'.get? b = some o'
  tups : ∀ b xs, H b = some (.tup xs) → H' b = some (.tup xs)
  frzs : ∀ b o u, H b = some (.frz o u) → H' b = some (.frz o u)
  tbls : ∀ b ps, H b = some (.tbl ps) → ∃ more, H' b = some (.tbl (ps ++ more))
section
variable {fs fs' ex ex' : List Addr} {H H1 H2 : Hp} {h h1 h2 h' : Heap} {a x e : Addr} {o : HO}
theorem Un.any (u : Un fs ex H H1 h h1) {b : Addr} {ob : Obj} (q : h.get? b = some ob) (n : H b = none) (hx : b ∉ ex) : ∃ sl, h1.get? b = some { ob with slots := sl } := by
  by_cases hb : b ∈ fs
  · exact u.slot b ob q n hb hx
  · exact ⟨ob.slots, u.keep b ob q n hb hx⟩
theorem Un.kept (k : ∀ b u, h.get? b = some u → h'.get? b = some u) : Un fs ex H H h h' :=
  ⟨fun b ob q _ _ _ => k b ob q, fun b ob q _ _ _ => ⟨ob.slots, k b ob q⟩, fun _ _ _ n _ => n, fun b ob q _ => ⟨ob, k b ob q⟩, fun _ _ q => q, fun _ _ _ q => q, fun _ ps q => ⟨#[], by rw [q]; simp⟩⟩
theorem Un.refl : Un fs ex H H h h := Un.kept fun _ _ q => q
theorem Un.laid (k : ∀ b u, h.get? b = some u → h'.get? b = some u) (hp : h.objs.size ≤ a) (hn : H a = none) : Un fs ex H (upd H a o) h h' where
  keep := fun b u q _ _ _ => k b u q
  slot := fun b u q _ _ _ => ⟨u.slots, k b u q⟩
  free := fun b u q n _ => by rw [upd_ne (Nat.ne_of_lt (Nat.lt_of_lt_of_le (Heap.lt_size q) hp))]; exact n
  there := fun b u q _ => ⟨u, k b u q⟩
  tups := fun b xs q => by rw [upd_ne (ne_of_none q hn)]; exact q
  frzs := fun b u xs q => by rw [upd_ne (ne_of_none q hn)]; exact q
  tbls := fun b ps q => ⟨#[], by rw [upd_ne (ne_of_none q hn), q]; simp⟩
theorem Un.write (mu : Mut (H x)) (he : e = x ∨ H e = some (.own x)) (k : ∀ b u, b ≠ e → h.get? b = some u → h'.get? b = some u) (heo : ∃ u, h'.get? e = some u) : Un fs ex H (upd H x o) h h' := by
  have hx : ∀ b, H b = none → b ≠ x := fun b n z => by subst z; rw [n] at mu; exact mu
  have hb : ∀ b, H b = none → b ≠ e := fun b n z => by
    subst z
    rcases he with r | r
    · exact hx b n r
    · rw [n] at r; cases r
  have hm : ∀ b u, H b = some u → ¬ Mut (some u) → b ≠ x := fun b u q nm z => by subst z; rw [q] at mu; exact nm mu
  refine ⟨fun b u q n _ _ => k b u (hb b n) q, fun b u q n _ _ => ⟨u.slots, k b u (hb b n) q⟩, fun b u q n _ => by rw [upd_ne (hx b n)]; exact n, fun b u q _ => ?_,
    fun b xs q => by rw [upd_ne (hm b _ q fun z => z)]; exact q, fun b u xs q => by rw [upd_ne (hm b _ q fun z => z)]; exact q, fun b ps q => ⟨#[], by rw [upd_ne (hm b _ q fun z => z), q]; simp⟩⟩
  by_cases hbe : b = e
  · subst hbe; exact heo
  · exact ⟨u, k b u hbe q⟩
end
def trk (h : Heap) (H : Hp) : List Addr := (List.range h.objs.size).filter fun a => (H a).isSome
def hidT (h : Heap) (H : Hp) : Heap := PySem.W.hideAll h (trk h H)
theorem hidT_size (h : Heap) (H : Hp) : (hidT h H).objs.size = h.objs.size := PySem.W.hideAll_size _ _
theorem hidT_get {h : Heap} {H : Hp} {b : Addr} {o : Obj} (e : h.get? b = some o) (n : H b = none) : (hidT h H).get? b = some o :=
  PySem.W.hideAll_get _ e fun hm => by
    have q : (H b).isSome = true := (List.mem_filter.mp hm).2
    rw [n] at q; simp at q
theorem of_hidT {h : Heap} {H : Hp} {b : Addr} {o : Obj} (e : (hidT h H).get? b = some o) : h.get? b = some o ∧ H b = none := by
  have e' : h.get? b = some o := PySem.W.of_hideAll (trk h H) e
  refine ⟨e', ?_⟩
  cases q : H b with
  | none => rfl
  | some x =>
    have hm : b ∈ trk h H := List.mem_filter.mpr ⟨List.mem_range.mpr (Heap.lt_size e'), by simp [q]⟩
    have z : (hidT h H).get? b = none := PySem.W.hideAll_none (trk h H) hm
    rw [z] at e; cases e
end L2
namespace L2
open PySem PySem.Spec PyProof.Rows
structure Mod (K : PySem.W.Frag) (mg : Str → Option Value) (base : Heap) : Prop where
  kin : K.In base
  glob : base.Ns mainGlobals mg
  blt : ∃ mb, base.Ns builtinsNs mb ∧ ∀ x : Str, x ≠ "__name__" → mb x = bootBuiltins x
  nolimit : base.NoLimit
structure Cx where
  prog : Program
  w : World
  K : PySem.W.Frag
  mg : Str → Option Value
  base : Heap
  A : Around
  N : List Str
  s₀ : Shared
  H₀ : Hp
  env : Env
  outer : List Env
  stack : List Env
  ex : List Addr
  fn : Str → Bool
  calm : Bool
  pn : List (Addr × Obj)
  xe : Value → Shared → Prop
def frs (l : List Env) : List Addr := l.filterMap (·.frame)
abbrev Cx.fs (X : Cx) : List Addr := frs X.outer
def Vis (sc : Scope) (x : Str) : Prop := sc.names.lookup x = some .local ∨ sc.names.lookup x = some .cell ∨ sc.names.lookup x = some .free
def Loc (sc : Scope) (x : Str) : Prop := sc.names.lookup x = some .local ∨ sc.names.lookup x = some .cell
def Look (env : Env) (h : Heap) (m : Str → Option Value) (x : Str) (u : Value) : Prop :=
  (env.kindOf x = some .local ∧ m x = some u) ∨ ((env.kindOf x = some .cell ∨ env.kindOf x = some .free) ∧ ∃ c, env.cells.lookup x = some c ∧ h.IsCell c (some u))
structure Cx.Ok (X : Cx) : Prop where
  mod : Mod X.K X.mg X.base
  kind : X.env.scope.kind = .function
  glob : X.env.globals = mainGlobals
  blt : X.env.builtins = builtinsNs
  above : X.s₀.heap.objs.size ≤ X.env.locals
  inj : ∀ x y c, X.env.cells.lookup x = some c → X.env.cells.lookup y = some c → x = y
  has : ∀ x, (X.env.kindOf x = some .cell ∨ X.env.kindOf x = some .free) → ∃ c, X.env.cells.lookup x = some c
  cab : ∀ x c, X.fn x = true → X.env.cells.lookup x = some c → X.s₀.heap.objs.size ≤ c
  hd : X.calm = true → X.A.handled = none
  frames : X.A.frames = some X.stack
  stk : X.stack = X.outer ∨ (X.stack = X.env :: X.outer ∧ X.env.frame = some X.env.locals)
  exf : ∀ b ∈ X.ex, b ≠ X.env.locals ∧ ∀ x c, X.env.cells.lookup x = some c → c ≠ b
  bs : ∀ b o, X.base.get? b = some o → X.s₀.heap.get? b = some o ∧ X.H₀ b = none
  bsz : X.base.objs.size ≤ X.s₀.heap.objs.size
  noex : ∀ b o, X.base.get? b = some o → b ∉ X.ex
  exfs : ∀ b ∈ X.ex, b ∉ X.fs
  funs : X.s₀.heap.FunFrames X.base X.outer
  frf : ∀ b ∈ X.fs, X.H₀ b = none
structure Inv (X : Cx) (pins : List (Addr × Obj)) (σ : List (Option V)) (H : Hp) (s : Shared) : Prop where
  ok : X.Ok
  os : s.os = X.s₀.os
  bare : AllBare s.gens
  base : Un X.fs X.ex X.H₀ H X.s₀.heap s.heap
  loc : ∃ m, s.heap.Ns X.env.locals m ∧ ∀ (i : Nat) (x : Str) (v : V), X.N[i]? = some x → σ[i]? = some (some v) → Vis X.env.scope x → ∃ u, RelV v u ∧ Look X.env s.heap m x u
  cell : ∀ x c, X.env.cells.lookup x = some c → ∃ v, s.heap.IsCell c v
  free : H X.env.locals = none
  freeC : ∀ x c, X.env.cells.lookup x = some c → H c = none
  pin : ∀ p ∈ X.pn ++ pins, s.heap.get? p.1 = some p.2 ∧ H p.1 = none ∧ p.1 ≠ X.env.locals ∧ p.1 ∉ X.fs ∧ ∀ v, p.2.data ≠ .cell v
  hok : HOk X.prog X.w H s.heap
  len : σ.length = X.N.length
section
variable {X : Cx} {pins : List (Addr × Obj)} {σ : List (Option V)} {H H' : Hp} {s : Shared} {h' : Heap}
theorem Cx.Ok.nofr (ok : X.Ok) {b : Addr} {o : Obj} (e : X.base.get? b = some o) : b ∉ X.fs := fun hb => by
  have := (ok.funs.mem hb).1
  rw [e] at this; cases this
theorem Inv.bs (I : Inv X pins σ H s) : ∀ b o, X.base.get? b = some o → s.heap.get? b = some o ∧ H b = none := fun b o e =>
  ⟨I.base.keep b o (I.ok.bs b o e).1 (I.ok.bs b o e).2 (I.ok.nofr e) (I.ok.noex b o e), I.base.free b o (I.ok.bs b o e).1 (I.ok.bs b o e).2 (I.ok.noex b o e)⟩
theorem Inv.bk (I : Inv X pins σ H s) : ∀ b o, X.base.get? b = some o → s.heap.get? b = some o := fun b o e => (I.bs b o e).1
theorem Inv.mod (I : Inv X pins σ H s) : Mod X.K X.mg X.base := I.ok.mod
theorem Inv.kIn (I : Inv X pins σ H s) : X.K.In s.heap := I.ok.mod.kin.keeps I.bk
theorem Inv.lt (I : Inv X pins σ H s) : X.env.locals < s.heap.objs.size := let ⟨_, hn, _⟩ := I.loc; hn.lt
theorem Inv.sz (I : Inv X pins σ H s) : X.s₀.heap.objs.size ≤ s.heap.objs.size := Nat.le_trans I.ok.above (Nat.le_of_lt I.lt)
theorem Inv.nofs (I : Inv X pins σ H s) {a : Addr} (h : s.heap.objs.size ≤ a) : a ∉ X.fs := fun hb => by
  obtain ⟨_, o, ho, _⟩ := I.ok.funs.mem hb
  exact absurd (Nat.lt_of_lt_of_le (Heap.lt_size ho) (Nat.le_trans I.sz h)) (Nat.lt_irrefl _)
theorem Inv.cne (I : Inv X pins σ H s) : ∀ x c, X.env.cells.lookup x = some c → c ≠ X.env.locals := fun x c e z => by
  obtain ⟨v, o, ho, hd⟩ := I.cell x c e
  obtain ⟨m, ⟨o', es, ep, ho', hd', _⟩, _⟩ := I.loc
  rw [z, ho'] at ho; cases ho; rw [hd'] at hd; cases hd
theorem Inv.funs (I : Inv X pins σ H s) : s.heap.FunFrames X.base X.outer := by
  have all : ∀ (l : List Env), (∀ b ∈ frs l, b ∈ X.fs) → X.s₀.heap.FunFrames X.base l → s.heap.FunFrames X.base l := by
    intro l
    induction l with
    | nil => intro _ _; trivial
    | cons env r ih =>
      intro hs hl
      obtain ⟨hk, ⟨L, o, hf, hn, ho, hd⟩, hr⟩ := hl
      have hL : L ∈ X.fs := hs L (by unfold frs; rw [List.filterMap_cons, hf]; exact List.mem_cons_self)
      obtain ⟨sl, e⟩ := I.base.slot L o ho (I.ok.frf L hL) hL fun z => I.ok.exfs L z hL
      exact ⟨hk, ⟨L, _, hf, hn, e, hd⟩, ih (fun b hb => hs b (by unfold frs; rw [List.filterMap_cons, hf]; exact List.mem_cons_of_mem _ hb)) hr⟩
  exact all X.outer (fun _ hb => hb) I.ok.funs
theorem Inv.stack (I : Inv X pins σ H s) : s.heap.FunFrames X.base X.stack := by
  rcases I.ok.stk with e | ⟨e, hf⟩
  · rw [e]; exact I.funs
  · rw [e]
    obtain ⟨m, hn, _⟩ := I.loc
    refine .cons (by rw [I.ok.kind]; decide) hf hn ?_ I.funs
    exact Heap.get?_none_of_le (Nat.le_trans I.ok.bsz I.ok.above)
theorem Inv.stkSub (I : Inv X pins σ H s) : ∀ b ∈ frs X.stack, b ∈ X.env.locals :: X.fs := fun b hb => by
  rcases I.ok.stk with e | ⟨e, hf⟩
  · rw [e] at hb; exact List.mem_cons_of_mem _ hb
  · rw [e] at hb
    unfold frs at hb
    rw [List.filterMap_cons, hf] at hb
    exact hb
theorem Inv.stkFree (I : Inv X pins σ H s) : ∀ b ∈ frs X.stack, H b = none := fun b hb => by
  rcases List.mem_cons.mp (I.stkSub b hb) with e | hb
  · rw [e]; exact I.free
  · obtain ⟨_, o, ho, _⟩ := I.ok.funs.mem hb
    exact I.base.free b o ho (I.ok.frf b hb) fun z => I.ok.exfs b z hb
theorem Inv.step {g' : Array GenState} {t' : Nat} {d' : Drawn} {ch : List Addr} (I : Inv X pins σ H s)
    (hch : ∀ b ∈ ch, (b ∈ X.ex ∨ X.s₀.heap.objs.size ≤ b) ∧ b ≠ X.env.locals ∧ (∀ x c, X.env.cells.lookup x = some c → c ≠ b) ∧ ∀ p ∈ X.pn ++ pins, p.1 ≠ b)
    (keep : ∀ b o, b ≠ X.env.locals → b ∉ X.fs → b ∉ ch → s.heap.get? b = some o → H b = none → h'.get? b = some o)
    (slot : ∀ b o, b ≠ X.env.locals → b ∈ X.fs → b ∉ ch → s.heap.get? b = some o → H b = none → ∃ sl, h'.get? b = some { o with slots := sl }) (free : ∀ b o, b ∉ ch → s.heap.get? b = some o → H b = none → H' b = none)
    (there : ∀ b o, b ∉ ch → s.heap.get? b = some o → ∃ o', h'.get? b = some o')
    (tups : ∀ b xs, H b = some (.tup xs) → H' b = some (.tup xs)) (frzs : ∀ b o u, H b = some (.frz o u) → H' b = some (.frz o u)) (tbls : ∀ b ps, H b = some (.tbl ps) → ∃ more, H' b = some (.tbl (ps ++ more)))
    (ns : ∀ m, s.heap.Ns X.env.locals m → h'.Ns X.env.locals m) (hok : HOk X.prog X.w H' h') (hg : AllBare g') :
    Inv X pins σ H' { s with heap := h', gens := g', drawn := d', toks := t' } := by
  have neL : ∀ b o, X.s₀.heap.get? b = some o → b ≠ X.env.locals := fun b o e => Nat.ne_of_lt (Nat.lt_of_lt_of_le (Heap.lt_size e) I.ok.above)
  have neC : ∀ b o, X.s₀.heap.get? b = some o → b ∉ X.ex → b ∉ ch := fun b o e hx hb => by
    rcases (hch b hb).1 with z | z
    · exact hx z
    · exact absurd (Nat.lt_of_lt_of_le (Heap.lt_size e) z) (Nat.lt_irrefl _)
  have cellK : ∀ x c, X.env.cells.lookup x = some c → ∀ v, s.heap.IsCell c v → h'.IsCell c v := fun x c e v ⟨o, ho, hd⟩ => by
    have nch : c ∉ ch := fun z => (hch c z).2.2.1 x c e rfl
    by_cases hc : c ∈ X.fs
    · obtain ⟨sl, q⟩ := slot c o (I.cne x c e) hc nch ho (I.freeC x c e)
      exact ⟨_, q, hd⟩
    · exact ⟨o, keep c o (I.cne x c e) hc nch ho (I.freeC x c e), hd⟩
  refine ⟨I.ok, I.os, hg, ⟨fun b o e n hb hx => ?_, fun b o e n hb hx => ?_, fun b o e n hx => ?_, fun b o e hx => ?_, fun b xs e => tups b xs (I.base.tups b xs e), fun b o xs e => frzs b o xs (I.base.frzs b o xs e), fun b ps e => ?_⟩, ?_, fun x c e => ?_, ?_, fun x c e => ?_, fun p hp => ?_, hok, I.len⟩
  · exact keep b o (neL b o e) hb (neC b o e hx) (I.base.keep b o e n hb hx) (I.base.free b o e n hx)
  · obtain ⟨sl, e1⟩ := I.base.slot b o e n hb hx
    obtain ⟨sl', e2⟩ := slot b _ (neL b o e) hb (neC b o e hx) e1 (I.base.free b o e n hx)
    exact ⟨sl', e2⟩
  · obtain ⟨o', e1⟩ := I.base.there b o e hx
    exact free b o' (neC b o e hx) e1 (I.base.free b o e n hx)
  · obtain ⟨o', e1⟩ := I.base.there b o e hx
    exact there b o' (neC b o e hx) e1
  · obtain ⟨m1, e1⟩ := I.base.tbls b ps e
    obtain ⟨m2, e2⟩ := tbls b _ e1
    exact ⟨m1 ++ m2, by rw [e2, Array.append_assoc]⟩
  · obtain ⟨m, hn, hl⟩ := I.loc
    refine ⟨m, ns m hn, fun i x v e1 e2 e3 => ?_⟩
    obtain ⟨u, r, l⟩ := hl i x v e1 e2 e3
    refine ⟨u, r, ?_⟩
    rcases l with l | ⟨k, c, e, z⟩
    · exact .inl l
    · exact .inr ⟨k, c, e, cellK x c e _ z⟩
  · obtain ⟨v, z⟩ := I.cell x c e
    exact ⟨v, cellK x c e v z⟩
  · obtain ⟨m, ⟨o, _, _, ho, _⟩, _⟩ := I.loc
    exact free _ o (fun z => (hch _ z).2.1 rfl) ho I.free
  · obtain ⟨v, o, ho, hd⟩ := I.cell x c e
    exact free c o (fun z => (hch c z).2.2.1 x c e rfl) ho (I.freeC x c e)
  · obtain ⟨e, n, ne, nf, d⟩ := I.pin p hp
    have nch : p.1 ∉ ch := fun z => (hch p.1 z).2.2.2 p hp rfl
    exact ⟨keep p.1 p.2 ne nf nch e n, free p.1 p.2 nch e n, ne, nf, d⟩
theorem Inv.un {t' : Nat} (I : Inv X pins σ H s) (u : Un X.fs [] H H' s.heap h') (hok : HOk X.prog X.w H' h') : Inv X pins σ H' { s with heap := h', toks := t' } := by
  obtain ⟨m, ⟨o, es, ep, ho, r⟩, _⟩ := id I.loc
  obtain ⟨sl, hL⟩ := u.any ho I.free (by simp)
  exact I.step (g' := s.gens) (d' := s.drawn) (ch := []) (fun _ z => nomatch z) (fun b o _ hb _ e n => u.keep b o e n hb (by simp)) (fun b o _ hb _ e n => u.slot b o e n hb (by simp)) (fun b o _ e n => u.free b o e n (by simp)) (fun b o _ e => u.there b o e (by simp)) u.tups u.frzs u.tbls (fun m' hm => by
    obtain ⟨o', es', ep', ho', r'⟩ := hm
    rw [ho] at ho'; cases ho'
    exact ⟨_, es', ep', hL, r'⟩) hok I.bare
theorem Inv.call {g' : Array GenState} {t' : Nat} {d' : Drawn} {ch : List Addr} (I : Inv X pins σ H s) (u : Un (frs X.stack) ch H H' s.heap h') (hok : HOk X.prog X.w H' h') (hg : AllBare g')
    (hch : ∀ b ∈ ch, (b ∈ X.ex ∨ X.s₀.heap.objs.size ≤ b) ∧ b ≠ X.env.locals ∧ (∀ x c, X.env.cells.lookup x = some c → c ≠ b) ∧ ∀ p ∈ X.pn ++ pins, p.1 ≠ b) :
    Inv X pins σ H' { s with heap := h', gens := g', drawn := d', toks := t' } := by
  obtain ⟨m, ⟨o, es, ep, ho, r⟩, _⟩ := id I.loc
  obtain ⟨sl, hL⟩ := u.any ho I.free fun z => (hch _ z).2.1 rfl
  exact I.step (ch := ch) hch (fun b o hL hb hc e n => u.keep b o e n (fun z => (List.mem_cons.mp (I.stkSub b z)).elim hL hb) hc) (fun b o _ _ hc e n => u.any e n hc) (fun b o hc e n => u.free b o e n hc) (fun b o hc e => u.there b o e hc) u.tups u.frzs u.tbls (fun m' hm => by
    obtain ⟨o', es', ep', ho', r'⟩ := hm
    rw [ho] at ho'; cases ho'
    exact ⟨_, es', ep', hL, r'⟩) hok hg
theorem Inv.turned {t' : Nat} {it : Addr} (I : Inv X pins σ H s) (k : ∀ b o, b ≠ it → s.heap.get? b = some o → h'.get? b = some o) (hn : H it = none) (hL : it ≠ X.env.locals)
    (h1 : it ∈ X.ex ∨ X.s₀.heap.objs.size ≤ it) (h2 : ∀ x c, X.env.cells.lookup x = some c → c ≠ it) (h3 : ∀ p ∈ X.pn ++ pins, p.1 ≠ it) : Inv X pins σ H { s with heap := h', toks := t' } := by
  have nit : ∀ b u, H b = some u → b ≠ it := fun b u e z => by rw [z, hn] at e; cases e
  refine I.step (g' := s.gens) (d' := s.drawn) (ch := [it]) (fun b hb => ?_) (fun b o _ _ hc e _ => k b o (fun z => hc (by simp [z])) e) (fun b o _ _ hc e _ => ⟨o.slots, k b o (fun z => hc (by simp [z])) e⟩) (fun _ _ _ _ n => n)
    (fun b o hc e => ⟨o, k b o (fun z => hc (by simp [z])) e⟩) (fun _ _ e => e) (fun _ _ _ e => e) (fun b ps e => ⟨#[], by rw [e]; simp⟩) (fun m hm => ?_) (fun b u e => ?_) I.bare
  · have e : b = it := by simpa using hb
    subst e
    exact ⟨h1, hL, h2, h3⟩
  · obtain ⟨o, es, ep, ho, r⟩ := hm
    exact ⟨o, es, ep, k _ o (Ne.symm hL) ho, r⟩
  · refine (I.hok b u e).stay (fun c v hc q => k c v ?_ q) (fun _ q => q) fun _ _ q => q
    rcases hc with z | z
    · rw [z]; exact nit b u e
    · exact nit c _ z
theorem Inv.tok (I : Inv X pins σ H s) (t : Nat) : Inv X pins σ H { s with toks := t } := I.un (h' := s.heap) (t' := t) Un.refl I.hok
theorem Inv.kept {t' : Nat} (I : Inv X pins σ H s) (k : ∀ b u, s.heap.get? b = some u → h'.get? b = some u) : Inv X pins σ H { s with heap := h', toks := t' } := I.un (Un.kept k) (I.hok.kept k)
theorem Inv.laid {a : Addr} {o : HO} {t' : Nat} (I : Inv X pins σ H s) (k : ∀ b u, s.heap.get? b = some u → h'.get? b = some u) (hp : s.heap.objs.size ≤ a) (new : ObjOk X.prog X.w (upd H a o) h' a o) :
    Inv X pins σ (upd H a o) { s with heap := h', toks := t' } := I.un (Un.laid k hp (I.hok.fresh hp)) (I.hok.laid k hp new)
theorem Inv.write {x e : Addr} {o : HO} {t' : Nat} (I : Inv X pins σ H s) (mu : Mut (H x)) (he : e = x ∨ H e = some (.own x)) (k : ∀ b u, b ≠ e → s.heap.get? b = some u → h'.get? b = some u) (heo : ∃ u, h'.get? e = some u)
    (new : ObjOk X.prog X.w (upd H x o) h' x o) : Inv X pins σ (upd H x o) { s with heap := h', toks := t' } := I.un (Un.write mu he k heo) (I.hok.write mu he k heo new)
theorem Inv.pins_of {pins' : List (Addr × Obj)} (I : Inv X pins σ H s) (h : ∀ p ∈ pins', s.heap.get? p.1 = some p.2 ∧ H p.1 = none ∧ p.1 ≠ X.env.locals ∧ p.1 ∉ X.fs ∧ ∀ v, p.2.data ≠ .cell v) : Inv X pins' σ H s :=
  ⟨I.ok, I.os, I.bare, I.base, I.loc, I.cell, I.free, I.freeC, fun p hp => (List.mem_append.mp hp).elim (fun z => I.pin p (List.mem_append_left _ z)) (h p), I.hok, I.len⟩
theorem nodup_ix {N : List Str} (hN : N.Nodup) {i j : Nat} {x : Str} (a : N[i]? = some x) (b : N[j]? = some x) : i = j := by
  obtain ⟨h1, e1⟩ := List.getElem?_eq_some_iff.mp a
  obtain ⟨h2, e2⟩ := List.getElem?_eq_some_iff.mp b
  exact (List.getElem_inj hN).mp (e1.trans e2.symm)
theorem store_ok2 {M : Model} {A : Around} {E : Value → Shared → Prop} {i : Nat} {x : Str} {v : V} {u : Value} {Q : Unit → Shared → Prop} (I : Inv X pins σ H s) (hN : X.N.Nodup) (hi : X.N[i]? = some x) (hx : Loc X.env.scope x) (r : RelV v u)
    (h : ∀ s', Inv X pins (σ.set i (some v)) H s' → (∃ a, Heap.SameBut a s.heap s'.heap ∧ (a = X.env.locals ∨ X.env.cells.lookup x = some a)) → Q () s') (hf : X.fn x = true ∨ X.env.scope.names.lookup x = some .local := by first | exact .inl rfl | exact .inr rfl | assumption) : wpAny M A (storeName X.env x u) Q E s := by
  obtain ⟨m, hn, hl⟩ := id I.loc
  have hcls : (X.env.scope.kind == .class || (X.env.scope.kind == .module && X.env.locals != X.env.globals)) = false := by rw [I.ok.kind]; rfl
  have hiσ : i < σ.length := by rw [I.len]; exact (List.getElem?_eq_some_iff.mp hi).1
  have cne := I.cne
  have tracked : ∀ {a : Addr} {h' : Heap}, (∃ o, s.heap.get? a = some o ∧ H a = none) → Heap.SameBut a s.heap h' → HOk X.prog X.w H h' := fun {a h'} ha hs b ob e => by
    obtain ⟨_, _, hfree⟩ := ha
    refine (I.hok b ob e).stay (fun c w' hc q => (hs.2 c ?_).trans q) (fun _ q => q) fun _ _ q => q
    rintro rfl
    rcases hc with rfl | hc
    · rw [hfree] at e; cases e
    · rw [hfree] at hc; cases hc
  rcases hx with hk | hk
  · refine wpAny_storeName_local hk hn (fun h' hn' hs => ?_) hcls
    obtain ⟨oL, _, _, hoL, _⟩ := id hn
    refine h _ ⟨I.ok, I.os, I.bare, ⟨fun b o e n hb hx => ?_, fun b o e n hb hx => ?_, I.base.free, fun b o e hx => ?_, I.base.tups, I.base.frzs, I.base.tbls⟩, ⟨_, hn', fun j y v' e1 e2 e3 => ?_⟩, fun y c e => ?_, I.free, I.freeC, fun p hp => ?_, tracked ⟨oL, hoL, I.free⟩ hs, by simpa using I.len⟩ ⟨_, hs, .inl rfl⟩
    · exact (hs.2 b (Nat.ne_of_lt (Nat.lt_of_lt_of_le (Heap.lt_size e) I.ok.above))).trans (I.base.keep b o e n hb hx)
    · obtain ⟨sl, e1⟩ := I.base.slot b o e n hb hx
      exact ⟨sl, (hs.2 b (Nat.ne_of_lt (Nat.lt_of_lt_of_le (Heap.lt_size e) I.ok.above))).trans e1⟩
    · obtain ⟨o', e1⟩ := I.base.there b o e hx
      exact ⟨o', (hs.2 b (Nat.ne_of_lt (Nat.lt_of_lt_of_le (Heap.lt_size e) I.ok.above))).trans e1⟩
    · by_cases hj : j = i
      · subst hj
        rw [hi] at e1; cases e1
        rw [List.getElem?_set_self hiσ] at e2
        cases e2
        exact ⟨u, r, .inl ⟨hk, by simp⟩⟩
      · rw [List.getElem?_set_ne (Ne.symm hj)] at e2
        obtain ⟨u', r', q⟩ := hl j y v' e1 e2 e3
        refine ⟨u', r', ?_⟩
        rcases q with ⟨k, e⟩ | ⟨k, c, e, z⟩
        · refine .inl ⟨k, ?_⟩
          have : y ≠ x := fun e => hj (nodup_ix hN e1 (e ▸ hi))
          simp [this, e]
        · exact .inr ⟨k, c, e, z.sameBut hs (cne y c e)⟩
    · obtain ⟨w', z⟩ := I.cell y c e
      exact ⟨w', z.sameBut hs (cne y c e)⟩
    · obtain ⟨e, n, ne, nf, d⟩ := I.pin p hp
      exact ⟨(hs.2 p.1 ne).trans e, n, ne, nf, d⟩
  · have hfn : X.fn x = true := by
      rcases hf with z | z
      · exact z
      · rw [z] at hk; cases hk
    obtain ⟨c, hc⟩ := I.ok.has x (.inl hk)
    obtain ⟨w', z⟩ := I.cell x c hc
    refine wpAny_storeName_cell I.ok.kind hk hc z (fun h' hc' hs => ?_)
    obtain ⟨oc, hoc, hocd⟩ := id z
    refine h { s with heap := h' } ⟨I.ok, I.os, I.bare, ⟨fun b o e n hb hx => ?_, fun b o e n hb hx => ?_, I.base.free, fun b o e hx => ?_, I.base.tups, I.base.frzs, I.base.tbls⟩, ⟨m, hn.sameBut hs (Ne.symm (cne x c hc)), fun j y v' e1 e2 e3 => ?_⟩, fun y c' e => ?_, I.free, I.freeC, fun p hp => ?_, tracked ⟨oc, hoc, I.freeC x c hc⟩ hs, by simpa using I.len⟩ ⟨c, hs, .inr hc⟩
    · exact (hs.2 b (Nat.ne_of_lt (Nat.lt_of_lt_of_le (Heap.lt_size e) (I.ok.cab x c hfn hc)))).trans (I.base.keep b o e n hb hx)
    · obtain ⟨sl, e1⟩ := I.base.slot b o e n hb hx
      exact ⟨sl, (hs.2 b (Nat.ne_of_lt (Nat.lt_of_lt_of_le (Heap.lt_size e) (I.ok.cab x c hfn hc)))).trans e1⟩
    · obtain ⟨o', e1⟩ := I.base.there b o e hx
      exact ⟨o', (hs.2 b (Nat.ne_of_lt (Nat.lt_of_lt_of_le (Heap.lt_size e) (I.ok.cab x c hfn hc)))).trans e1⟩
    · by_cases hj : j = i
      · subst hj
        rw [hi] at e1; cases e1
        rw [List.getElem?_set_self hiσ] at e2
        cases e2
        exact ⟨u, r, .inr ⟨.inl hk, c, hc, hc'⟩⟩
      · rw [List.getElem?_set_ne (Ne.symm hj)] at e2
        obtain ⟨u', r', q⟩ := hl j y v' e1 e2 e3
        refine ⟨u', r', ?_⟩
        rcases q with q | ⟨k, c', e, z'⟩
        · exact .inl q
        · refine .inr ⟨k, c', e, z'.sameBut hs ?_⟩
          rintro rfl
          exact hj (nodup_ix hN e1 (I.ok.inj _ _ _ e hc ▸ hi))
    · by_cases hcc : c' = c
      · subst hcc; exact ⟨_, hc'⟩
      · obtain ⟨w2, z2⟩ := I.cell y c' e
        exact ⟨w2, z2.sameBut hs hcc⟩
    · obtain ⟨e, n, ne, nf, d⟩ := I.pin p hp
      refine ⟨(hs.2 p.1 ?_).trans e, n, ne, nf, d⟩
      intro q
      rw [q, hoc] at e
      have q' : oc = p.2 := Option.some.inj e
      exact d w' (by rw [← q']; exact hocd)
theorem store_ok {M : Model} {A : Around} {E : Value → Shared → Prop} {i : Nat} {x : Str} {v : V} {u : Value} {Q : Unit → Shared → Prop} (I : Inv X pins σ H s) (hN : X.N.Nodup) (hi : X.N[i]? = some x) (hx : Loc X.env.scope x) (r : RelV v u)
    (h : ∀ s', Inv X pins (σ.set i (some v)) H s' → Q () s') (hf : X.fn x = true ∨ X.env.scope.names.lookup x = some .local := by first | exact .inl rfl | exact .inr rfl | assumption) : wpAny M A (storeName X.env x u) Q E s :=
  store_ok2 I hN hi hx r (fun s' I' _ => h s' I') hf
theorem Inv.call' {s' : Shared} {ch : List Addr} (I : Inv X pins σ H s) (ho : s'.os = s.os) (u : Un (frs X.stack) ch H H' s.heap s'.heap) (hok : HOk X.prog X.w H' s'.heap) (hg : AllBare s'.gens)
    (hch : ∀ b ∈ ch, (b ∈ X.ex ∨ X.s₀.heap.objs.size ≤ b) ∧ b ≠ X.env.locals ∧ (∀ x c, X.env.cells.lookup x = some c → c ≠ b) ∧ ∀ p ∈ X.pn ++ pins, p.1 ≠ b) : Inv X pins σ H' s' := by
  obtain ⟨h', g', d', t', o'⟩ := s'
  have e : o' = s.os := ho
  subst e
  exact I.call (g' := g') (t' := t') (d' := d') u hok hg hch
end
abbrev XK := Value → Option Addr → Hp → Prop
abbrev St := List (Option V)
abbrev VK := V → Hp → Prop
abbrev TE := St → Hp → VK → Prop
abbrev TT := St → Hp → (Bool → Hp → Prop) → Prop
abbrev TA := St → Hp → (List V → Hp → Prop) → Prop
structure Ends where
  nx : St → Hp → Prop
  rt : VK
  bk : St → Hp → Prop := fun _ _ => False
  ct : St → Hp → Prop := fun _ _ => False
abbrev TS := Ends → St → Hp → Prop
def EP (X : Cx) (pins : List (Addr × Obj)) (σ : St) (Q : VK) (u : Value) (s' : Shared) : Prop := ∃ v H', Inv X pins σ H' s' ∧ RelV v u ∧ Q v H'
def TP (X : Cx) (pins : List (Addr × Obj)) (σ : St) (Q : Bool → Hp → Prop) (b : Bool) (s' : Shared) : Prop := ∃ H', Inv X pins σ H' s' ∧ Q b H'
def AP (X : Cx) (pins : List (Addr × Obj)) (σ : St) (Q : List V → Hp → Prop) (us : List Value) (s' : Shared) : Prop := ∃ vs H', Inv X pins σ H' s' ∧ Vals vs us ∧ Q vs H'
def SP (X : Cx) (pins : List (Addr × Obj)) (D : Ends) (f : Flow) (s' : Shared) : Prop :=
  match f with
  | .next => ∃ σ' H', Inv X pins σ' H' s' ∧ D.nx σ' H'
  | .brk => ∃ σ' H', Inv X pins σ' H' s' ∧ D.bk σ' H'
  | .cont => ∃ σ' H', Inv X pins σ' H' s' ∧ D.ct σ' H'
  | .ret u => ∃ v σ' H', Inv X pins σ' H' s' ∧ RelV v u ∧ D.rt v H'
def PE (X : Cx) (e : Expr) (t : TE) : Prop :=
  ∀ (pins : List (Addr × Obj)) (s : Shared) (σ : St) (H : Hp) (Q : VK), Inv X pins σ H s → t σ H Q → wpAny (model X.prog X.w) X.A (eval e X.env) (EP X pins σ Q) X.xe s
def PT (X : Cx) (e : Expr) (t : TT) : Prop :=
  ∀ (pins : List (Addr × Obj)) (s : Shared) (σ : St) (H : Hp) (Q : Bool → Hp → Prop), Inv X pins σ H s → t σ H Q → wpAny (model X.prog X.w) X.A (isTrue e X.env (eval e X.env)) (TP X pins σ Q) X.xe s
def PW (X : Cx) (e : Expr) (t : TT) : Prop :=
  ∀ (whole : Sem Value) (pins : List (Addr × Obj)) (s : Shared) (σ : St) (H : Hp) (Q : Bool → Hp → Prop), Inv X pins σ H s → t σ H Q → wpAny (model X.prog X.w) X.A (isTrue e X.env whole) (TP X pins σ Q) X.xe s
theorem PW.pt {X : Cx} {e : Expr} {t : TT} (h : PW X e t) : PT X e t := h _
def PA (X : Cx) (es : List Expr) (t : TA) : Prop :=
  ∀ (pos : Pos) (pins : List (Addr × Obj)) (s : Shared) (σ : St) (H : Hp) (Q : List V → Hp → Prop), Inv X pins σ H s → t σ H Q → wpAny (model X.prog X.w) X.A (spliced (backTo pos (starEach es X.env))) (AP X pins σ Q) X.xe s
def PS (X : Cx) (st : Stmt) (t : TS) : Prop :=
  ∀ (pins : List (Addr × Obj)) (s : Shared) (σ : St) (H : Hp) (D : Ends), Inv X pins σ H s → t D σ H → wpAny (model X.prog X.w) X.A (exec st X.env) (SP X pins D) X.xe s
def PSs (X : Cx) (st : List Stmt) (t : TS) : Prop :=
  ∀ (pins : List (Addr × Obj)) (s : Shared) (σ : St) (H : Hp) (D : Ends), Inv X pins σ H s → t D σ H → wpAny (model X.prog X.w) X.A (execs st X.env) (SP X pins D) X.xe s
theorem thn {α : Type} {t : Sem α} {Q Q' : α → Shared → Prop} {M : Model} {A : Around} {E : Value → Shared → Prop} {s : Shared} (h : wpAny M A t Q E s) (hQ : ∀ a s, Q a s → Q' a s) : wpAny M A t Q' E s := wpAny_mono h hQ fun _ _ x => x
end L2
namespace L2
open PySem PySem.Spec PyProof.Rows
section
variable {X : Cx}
def tVar (i : Nat) : TE := fun σ H Q => ∃ v, σ[i]? = some (some v) ∧ Q v H
def tC (v : V) : TE := fun _ H Q => Q v H
theorem pe_var {i : Nat} {x : Str} {pos : Pos} (hN : X.N[i]? = some x) (hv : Vis X.env.scope x) (hd : (x == ("__debug__" : Str)) = false := by decide) (hcd : (x == ("__classdict__" : Str)) = false := by decide) : PE X (.Name x pos) (tVar i) := by
  intro pins s σ H Q I h
  obtain ⟨v, e, h⟩ := h
  obtain ⟨m, hn, hl⟩ := I.loc
  obtain ⟨u, r, l⟩ := hl i x v hN e hv
  have fin : EP X pins σ Q u s := ⟨v, H, I, r, h⟩
  rcases l with ⟨hk, hm⟩ | ⟨hk, c, hc, hcell⟩
  · exact wpAny_Name (wpAny_loadName_local I.ok.kind hk hn hm fin) hd
  · rcases hk with hk | hk
    · exact wpAny_Name (wpAny_loadName_cell I.ok.kind hk hc hcell fin) hd
    · exact wpAny_Name (wpAny_loadName_free I.ok.kind hk hc hcell fin hcd) hd
theorem pe_int {i j pos} : PE X (.Constant (.int i) j pos) (tC (.int i)) := fun _ _ _ H _ I h => wpAny_Constant_int ⟨.int i, H, I.tok _, ⟨_, rfl⟩, h⟩
theorem pe_bl {b j pos} : PE X (.Constant (.bool b) j pos) (tC (.bl b)) := fun _ _ _ H _ I h => Constant_bool ⟨.bl b, H, I, rfl, h⟩
theorem pe_non {j pos} : PE X (.Constant .none j pos) (tC .non) := fun _ _ _ H _ I h => Constant_none ⟨.non, H, I, rfl, h⟩
theorem pe_str {x j pos} : PE X (.Constant (.str x) j pos) (tC (.str x)) := fun _ _ _ H _ I h => Calls.Constant_str ⟨.str x, H, I.tok _, ⟨_, rfl⟩, h⟩
def Gl (X : Cx) (x : Str) : Prop := X.env.kindOf x = some .globalImplicit
theorem ld_glob {E : Value → Shared → Prop} {pins : List (Addr × Obj)} {s : Shared} {σ : St} {H : Hp} {x : Str} {u : Value} {pos : Pos} {Q : Value → Shared → Prop} (I : Inv X pins σ H s) (hg : Gl X x) (hm : X.mg x = some u) (h : Q u s)
    (hd : (x == ("__debug__" : Str)) = false := by decide) : wpAny (model X.prog X.w) X.A (eval (.Name x pos) X.env) Q E s :=
  Calls.Name_function_global I.ok.kind hg (Calls.loadGlobal_global (by rw [I.ok.glob]; exact I.mod.glob.keeps I.bk) hm h) hd
theorem ld_blt {E : Value → Shared → Prop} {pins : List (Addr × Obj)} {s : Shared} {σ : St} {H : Hp} {x : Str} {u : Value} {pos : Pos} {Q : Value → Shared → Prop} (I : Inv X pins σ H s) (hg : Gl X x) (hm : X.mg x = none) (hv : bootBuiltins x = some u) (h : Q u s)
    (hn : x ≠ "__name__" := by decide) (hd : (x == ("__debug__" : Str)) = false := by decide) : wpAny (model X.prog X.w) X.A (eval (.Name x pos) X.env) Q E s := by
  obtain ⟨mb, h1, h2⟩ := I.mod.blt
  exact Calls.Name_function_global I.ok.kind hg (Calls.loadGlobal_builtin (by rw [I.ok.glob]; exact I.mod.glob.keeps I.bk) hm (by rw [I.ok.blt]; exact h1.keeps I.bk) ((h2 x hn).trans hv) h) hd
theorem pe_bltn {x : Str} {v : V} {u : Value} {pos : Pos} (hg : Gl X x) (hm : X.mg x = none) (hv : bootBuiltins x = some u) (r : RelV v u) (hn : x ≠ "__name__" := by decide) (hd : (x == ("__debug__" : Str)) = false := by decide) : PE X (.Name x pos) (tC v) :=
  fun _ _ _ H _ I h => ld_blt I hg hm hv ⟨v, H, I, r, h⟩ hn hd
variable {a b : Expr} {ta tb : TE} {pos : Pos}
def tB (t : TE) : TT := fun σ H Q => t σ H fun x H1 => ∃ c, x = .bl c ∧ Q c H1
theorem pt_val {e : Expr} {t : TE} (h : PE X e t) (he : ∀ whole, isTrue e X.env whole = (do let v ← whole; standAt e.pos; holding [v] (truthy v)) := by intro _; rfl) : PT X e (tB t) := by
  intro pins s σ H Q I hw
  refine isTrue_plain (thn (h pins s σ H _ I hw) fun v s1 ⟨x, H1, I1, r1, q1⟩ => ?_) (he _)
  obtain ⟨d, rfl, q⟩ := q1
  cases r1
  exact wpAny_truthy_bool ⟨H1, I1, q⟩
variable {tA tB' : TT} {rest : List Expr}
def tAnd (t u : TT) : TT := fun σ H Q => t σ H fun c H1 => if c = true then u σ H1 Q else Q false H1
def tOr (t u : TT) : TT := fun σ H Q => t σ H fun c H1 => if c = true then Q true H1 else u σ H1 Q
def tNot (t : TT) : TT := fun σ H Q => t σ H fun c H1 => Q (!c) H1
theorem pw_and1 (ha : PT X a tA) : PW X (.BoolOp .And [a] pos) tA := by
  intro wh pins s σ H Q I h
  refine isTrue_and (thn (ha pins s σ H Q I h) fun c s1 e => ?_)
  cases c with
  | true => exact isTrue_and_nil e
  | false => exact e
theorem pw_or1 (ha : PT X a tA) : PW X (.BoolOp .Or [a] pos) tA := by
  intro wh pins s σ H Q I h
  refine isTrue_or (thn (ha pins s σ H Q I h) fun c s1 e => ?_)
  cases c with
  | false => exact isTrue_or_nil e
  | true => exact e
theorem pw_and (ha : PT X a tA) (hb : PW X (.BoolOp .And (b :: rest) pos) tB') : PW X (.BoolOp .And (a :: b :: rest) pos) (tAnd tA tB') := by
  intro wh pins s σ H Q I h
  refine isTrue_and (thn (ha pins s σ H _ I h) fun c s1 ⟨H1, I1, q1⟩ => ?_)
  cases c with
  | true => exact hb wh pins s1 σ H1 Q I1 q1
  | false => exact ⟨H1, I1, q1⟩
theorem pw_or (ha : PT X a tA) (hb : PW X (.BoolOp .Or (b :: rest) pos) tB') : PW X (.BoolOp .Or (a :: b :: rest) pos) (tOr tA tB') := by
  intro wh pins s σ H Q I h
  refine isTrue_or (thn (ha pins s σ H _ I h) fun c s1 ⟨H1, I1, q1⟩ => ?_)
  cases c with
  | true => exact ⟨H1, I1, q1⟩
  | false => exact hb wh pins s1 σ H1 Q I1 q1
theorem pt_not (ha : PT X a tA) : PT X (.UnaryOp .Not a pos) (tNot tA) := by
  intro pins s σ H Q I h
  exact isTrue_not (ha pins s σ H (fun c H1 => Q (!c) H1) I h)
def tAndV (ta tb : TE) : TE := fun σ H Q => ta σ H fun x H1 => ∃ c, x = .bl c ∧ if c = true then tb σ H1 Q else Q (.bl false) H1
def tNotV (ta : TE) : TE := fun σ H Q => ta σ H fun x H1 => ∃ c, x = .bl c ∧ Q (.bl (!c)) H1
theorem pe_one {op} {t : TE} (h : PE X a t) : PE X (.BoolOp op [a] pos) t := fun pins s σ H Q I hw => BoolOp_one (h pins s σ H Q I hw)
theorem pe_and (ha : PE X a ta) (hb : PE X (.BoolOp .And (b :: rest) pos) tb) : PE X (.BoolOp .And (a :: b :: rest) pos) (tAndV ta tb) := by
  intro pins s σ H Q I h
  refine BoolOp_and (thn (ha pins s σ H _ I h) fun v s1 ⟨x, H1, I1, r1, q1⟩ => ?_)
  obtain ⟨c, rfl, q1⟩ := q1
  cases r1
  refine wpAny_truthy_bool ?_
  cases c with
  | true => exact hb pins s1 σ H1 Q I1 q1
  | false => exact ⟨.bl false, H1, I1, rfl, q1⟩
theorem pe_not (ha : PE X a ta) : PE X (.UnaryOp .Not a pos) (tNotV ta) := by
  intro pins s σ H Q I h
  refine UnaryOp_ (thn (ha pins s σ H _ I h) fun v s1 ⟨x, H1, I1, r1, q1⟩ => ?_)
  obtain ⟨c, rfl, q1⟩ := q1
  cases r1
  exact not_of (wpAny_truthy_bool ⟨.bl (!c), H1, I1, rfl, q1⟩)
end
end L2
namespace L2
open PySem PySem.Spec PyProof.Rows
def SqL (K : PySem.W.Frag) (H : Hp) (a : Addr) (xs : List V) : Prop :=
  Rd H a (.lst xs) ∨
    ∃ (o : Obj) (its : Array Value) (n : Nat), K.lookup a = some o ∧ o.cls = .type "list" ∧ o.dict = none ∧ o.data = .seq its n ∧ its.size ≤ sizeLine ∧ Vals xs its.toList
def SqT (K : PySem.W.Frag) (H : Hp) (a : Addr) (xs : List V) : Prop :=
  Rd H a (.tup xs) ∨
    ∃ (o : Obj) (its : Array Value) (n : Nat), K.lookup a = some o ∧ o.cls = .type "tuple" ∧ o.data = .seq its n ∧ its.size ≤ sizeLine ∧ Vals xs its.toList
def absV : Value → Option V
  | .none => some .non
  | .bool b => some (.bl b)
  | .int i _ => some (.int i)
  | .str x _ => some (.str x)
  | .bytes b _ => some (.byt b)
  | .float b _ => some (.flt b)
  | .ref a => some (.ref a)
  | .type n => some (.ty n)
  | _ => none
theorem RelV.abs {x : V} {u : Value} (r : RelV x u) : absV u = some x := by
  cases x with
  | non => cases r; rfl
  | bl _ => cases r; rfl
  | int _ => obtain ⟨t, rfl⟩ := r; rfl
  | str _ => obtain ⟨t, rfl⟩ := r; rfl
  | byt _ => obtain ⟨t, rfl⟩ := r; rfl
  | flt _ => obtain ⟨t, rfl⟩ := r; rfl
  | ref _ => cases r; rfl
  | ty _ => cases r; rfl
theorem RelV.inj {x y : V} {u : Value} (r : RelV x u) (q : RelV y u) : x = y := Option.some.inj (r.abs.symm.trans q.abs)
theorem Vals.inj : ∀ {xs ys : List V} {us : List Value}, Vals xs us → Vals ys us → xs = ys
  | _, _, _, .nil, .nil => rfl
  | _, _, _, .cons r t, .cons r' t' => by rw [r.inj r', Vals.inj t t']
section
variable {X : Cx} {pins : List (Addr × Obj)} {σ : St} {H : Hp} {s : Shared} {a : Addr} {xs ys : List V}
theorem SqL.of {K : PySem.W.Frag} (h : H a = some (.lst xs)) : SqL K H a xs := .inl (.inl h)
theorem SqT.of {K : PySem.W.Frag} (h : H a = some (.tup xs)) : SqT K H a xs := .inl (.inl h)
theorem Inv.list (I : Inv X pins σ H s) (h : SqL X.K H a xs) : ∃ its : List Value, Vals xs its ∧ PlainL s.heap a its.toArray ∧ xs.length ≤ sizeLine := by
  rcases h with h | ⟨o, its, n, hk, hc, hd, hs, hz, r⟩
  · obtain ⟨z, its, n, r, e⟩ := h.ok I.hok
    exact ⟨its, r, ⟨_, n, e, rfl, rfl, rfl⟩, z⟩
  · refine ⟨its.toList, r, ⟨o, n, I.kIn a o hk, hc, hd, by simpa using hs⟩, ?_⟩
    have e := r.length
    simp only [Array.length_toList] at e
    lia
theorem Inv.tuple (I : Inv X pins σ H s) (h : SqT X.K H a xs) : ∃ its : List Value, Vals xs its ∧ IsTup s.heap a its.toArray ∧ xs.length ≤ sizeLine := by
  rcases h with h | ⟨o, its, n, hk, hc, hs, hz, r⟩
  · obtain ⟨z, its, r, p⟩ := h.ok I.hok
    exact ⟨its, r, p, z⟩
  · refine ⟨its.toList, r, ⟨o, I.kIn a o hk, hc, n, by simpa using hs⟩, ?_⟩
    have e := r.length
    simp only [Array.length_toList] at e
    lia
theorem Inv.list_inj (I : Inv X pins σ H s) (h : SqL X.K H a xs) (h' : SqL X.K H a ys) : xs = ys := by
  obtain ⟨its, r, ⟨o, n, e, _, _, d⟩, _⟩ := I.list h
  obtain ⟨its', r', ⟨o', n', e', _, _, d'⟩, _⟩ := I.list h'
  rw [e] at e'; cases e'
  rw [d] at d'
  injection d' with d1 _
  have : its = its' := by simpa using congrArg Array.toList d1
  subst this
  exact r.inj r'
theorem Inv.tuple_inj (I : Inv X pins σ H s) (h : SqT X.K H a xs) (h' : SqT X.K H a ys) : xs = ys := by
  obtain ⟨its, r, ⟨o, e, _, n, d⟩, _⟩ := I.tuple h
  obtain ⟨its', r', ⟨o', e', _, n', d'⟩, _⟩ := I.tuple h'
  rw [e] at e'; cases e'
  rw [d] at d'
  injection d' with d1 _
  have : its = its' := by simpa using congrArg Array.toList d1
  subst this
  exact r.inj r'
end
abbrev Cx.wish (X : Cx) (E : Value → Shared → Prop) : Cx := { X with xe := E }
abbrev Cx.nox (X : Cx) : Cx := X.wish fun _ _ => False
theorem Cx.Ok.wish {X : Cx} (ok : X.Ok) (E : Value → Shared → Prop) : (X.wish E).Ok :=
  ⟨ok.mod, ok.kind, ok.glob, ok.blt, ok.above, ok.inj, ok.has, ok.cab, ok.hd, ok.frames, ok.stk, ok.exf, ok.bs, ok.bsz, ok.noex, ok.exfs, ok.funs, ok.frf⟩
theorem Cx.Ok.unwish {X : Cx} {E : Value → Shared → Prop} (ok : (X.wish E).Ok) : X.Ok :=
  ⟨ok.mod, ok.kind, ok.glob, ok.blt, ok.above, ok.inj, ok.has, ok.cab, ok.hd, ok.frames, ok.stk, ok.exf, ok.bs, ok.bsz, ok.noex, ok.exfs, ok.funs, ok.frf⟩
section
variable {X : Cx} {pins : List (Addr × Obj)} {σ : St} {H : Hp} {s : Shared} {E : Value → Shared → Prop}
theorem Inv.wish (I : Inv X pins σ H s) (E : Value → Shared → Prop) : Inv (X.wish E) pins σ H s := ⟨I.ok.wish E, I.os, I.bare, I.base, I.loc, I.cell, I.free, I.freeC, I.pin, I.hok, I.len⟩
theorem Inv.unwish (I : Inv (X.wish E) pins σ H s) : Inv X pins σ H s := ⟨I.ok.unwish, I.os, I.bare, I.base, I.loc, I.cell, I.free, I.freeC, I.pin, I.hok, I.len⟩
theorem SP.unwish {D : Ends} {f : Flow} {s' : Shared} (h : SP (X.wish E) pins D f s') : SP X pins D f s' := by
  cases f with
  | next => obtain ⟨σ', H', I, q⟩ := h; exact ⟨σ', H', I.unwish, q⟩
  | brk => obtain ⟨σ', H', I, q⟩ := h; exact ⟨σ', H', I.unwish, q⟩
  | cont => obtain ⟨σ', H', I, q⟩ := h; exact ⟨σ', H', I.unwish, q⟩
  | ret u => obtain ⟨v, σ', H', I, r, q⟩ := h; exact ⟨v, σ', H', I.unwish, r, q⟩
theorem PSs.nox {st : List Stmt} {t : TS} (h : PSs X.nox st t) : PSs X st t := fun pins s σ H D I hw =>
  wpAny_mono (h pins s σ H D (I.wish _) hw) (fun _ _ q => q.unwish) fun _ _ z => False.elim z
end
section
variable {X : Cx} {st : Stmt} {rest : List Stmt} {t u : TS} {e : Expr} {te : TE} {pos : Pos}
def tNext : TS := fun D σ H => D.nx σ H
def tSeq (t u : TS) : TS := fun D σ H => t { D with nx := u D } σ H
theorem pss_nil : PSs X [] tNext := fun _ _ σ H _ I h => wpAny_execs_nil ⟨σ, H, I, h⟩
theorem pss_cons (h1 : PS X st t) (h2 : PSs X rest u) : PSs X (st :: rest) (tSeq t u) := by
  intro pins s σ H D I h
  refine wpAny_execs_cons (thn (h1 pins s σ H { D with nx := u D } I h) fun f s1 q => ?_)
  cases f with
  | next =>
    obtain ⟨σ', H', I', q⟩ := q
    exact h2 pins s1 σ' H' D I' q
  | ret v => exact q
  | brk => exact q
  | cont => exact q
theorem pss_one (h1 : PS X st t) : PSs X [st] t := by
  intro pins s σ H D I h
  refine wpAny_execs_cons (thn (h1 pins s σ H D I h) fun f s1 q => ?_)
  cases f with
  | next => exact wpAny_execs_nil q
  | ret v => exact q
  | brk => exact q
  | cont => exact q
theorem Inv.quiet {pins : List (Addr × Obj)} {σ : St} {H : Hp} {s : Shared} (I : Inv X pins σ H s) : interactive X.env = false := by simp [interactive, I.ok.kind]
def tDrop (te : TE) : TS := fun D σ H => te σ H fun _ H1 => D.nx σ H1
theorem ps_expr (he : PE X e te) (hs : swapsWith e none pos.line X.env = pure false := by rfl) : PS X (.Expr e pos) (tDrop te) := by
  intro pins s σ H D I h
  exact wpAny_Expr_any (thn (he pins s σ H _ I h) fun v s1 ⟨x, H1, I1, r1, q1⟩ => ⟨σ, H1, I1, q1⟩) I.quiet hs
def tRet (te : TE) : TS := fun D σ H => te σ H D.rt
theorem ps_ret (he : PE X e te) : PS X (.Return (some e) pos) (tRet te) := by
  intro pins s σ H D I h
  exact wpAny_Return_some (thn (he pins s σ H _ I h) fun v s1 ⟨x, H1, I1, r1, q1⟩ => ⟨x, σ, H1, I1, r1, q1⟩)
def tIfS (c : TT) (t u : TS) : TS := fun D σ H => c σ H fun b H1 => if b = true then t D σ H1 else u D σ H1
theorem ps_if {c : Expr} {a b : List Stmt} {tc : TT} (hc : PT X c tc) (ha : PSs X a t) (hb : PSs X b u) : PS X (.If c a b pos) (tIfS tc t u) := by
  intro pins s σ H D I h
  refine wpAny_If (thn (hc pins s σ H _ I h) fun d s1 ⟨H1, I1, q1⟩ => ?_)
  cases d with
  | true => exact ha pins s1 σ H1 D I1 q1
  | false => exact hb pins s1 σ H1 D I1 q1
def tNever : TS := fun _ _ _ => False
theorem ps_never : PS X st tNever := fun _ _ _ _ _ _ h => h.elim
end
abbrev TG := V → St → Hp → (St → Hp → Prop) → Prop
abbrev TGs := List V → St → Hp → (St → Hp → Prop) → Prop
def PG (X : Cx) (target : Expr) (t : TG) : Prop :=
  ∀ (pins : List (Addr × Obj)) (s : Shared) (σ : St) (H : Hp) (v : V) (u : Value) (Q : St → Hp → Prop), Inv X pins σ H s → RelV v u → t v σ H Q →
    wpAny (model X.prog X.w) X.A (assign target X.env u) (fun _ s' => ∃ σ' H', Inv X pins σ' H' s' ∧ Q σ' H') X.xe s
def PGs (X : Cx) (ts : List Expr) (t : TGs) : Prop :=
  ∀ (pins : List (Addr × Obj)) (s : Shared) (σ : St) (H : Hp) (vs : List V) (us : List Value) (Q : St → Hp → Prop), Inv X pins σ H s → Vals vs us → t vs σ H Q →
    wpAny (model X.prog X.w) X.A (assignInOrder ((assignEach ts X.env).map (·.2)) us) (fun _ s' => ∃ σ' H', Inv X pins σ' H' s' ∧ Q σ' H') X.xe s
abbrev TSet := V → V → V → Hp → (Hp → Prop) → Prop
def PSet (X : Cx) (t : TSet) : Prop :=
  ∀ (pins : List (Addr × Obj)) (s : Shared) (σ : St) (H : Hp) (o i v : V) (ov iv u : Value) (Q : Hp → Prop), Inv X pins σ H s → RelV o ov → RelV i iv → RelV v u → t o i v H Q →
    wpAny (model X.prog X.w) X.A (setItem ov iv u) (fun _ s' => ∃ H', Inv X pins σ H' s' ∧ Q H') X.xe s
section
variable {X : Cx} {pos : Pos}
def gName (i : Nat) : TG := fun v σ H Q => Q (σ.set i (some v)) H
theorem pg_name {i : Nat} {x : Str} (hN : X.N.Nodup) (hi : X.N[i]? = some x) (hx : Loc X.env.scope x) (hf : X.fn x = true ∨ X.env.scope.names.lookup x = some .local := by first | exact .inl rfl | exact .inr rfl | assumption) : PG X (.Name x pos) (gName i) := by
  intro pins s σ H v u Q I r h
  exact wpAny_assign_Name (store_ok I hN hi hx r (fun s' I' => ⟨_, H, I', h⟩) hf)
def gNil : TGs := fun vs σ H Q => vs = [] ∧ Q σ H
def gCons (t : TG) (u : TGs) : TGs := fun vs σ H Q => ∃ v r, vs = v :: r ∧ t v σ H fun σ' H' => u r σ' H' Q
theorem pgs_nil : PGs X [] gNil := by
  intro pins s σ H vs us Q I r h
  obtain ⟨e, h⟩ := h
  subst e
  cases r
  exact assignInOrder_nil ⟨σ, H, I, h⟩
theorem pgs_cons {e : Expr} {es : List Expr} {t : TG} {u : TGs} (h1 : PG X e t) (h2 : PGs X es u)
    (hs : (assignEach (e :: es) X.env).map (·.2) = assign e X.env :: (assignEach es X.env).map (·.2) := by rfl) : PGs X (e :: es) (gCons t u) := by
  intro pins s σ H vs us Q I r h
  obtain ⟨v, vr, e1, h⟩ := h
  subst e1
  cases r with
  | cons r rr =>
    rw [hs]
    refine assignInOrder_cons (thn (h1 pins s σ H _ _ _ I r h) fun _ s1 ⟨σ1, H1, I1, q1⟩ => ?_)
    exact h2 pins s1 σ1 H1 _ _ Q I1 rr q1
def gTup (K : PySem.W.Frag) (n : Nat) (t : TGs) : TG := fun v σ H Q => ∃ a xs, v = .ref a ∧ SqT K H a xs ∧ xs.length = n ∧ t xs σ H Q
theorem pg_tup {es : List Expr} {k : Nat} {t : TGs} {n : Nat} (hc : X.calm = true) (h : PGs X es t)
    (hn : (assignEach es X.env).length = n := by rfl) (hst : (assignEach es X.env).findIdx? (·.1) = none := by rfl) : PG X (.Tuple es k pos) (gTup X.K n t) := by
  intro pins s σ H v u Q I r hw
  obtain ⟨a, xs, e1, hq, hl, hw⟩ := hw
  subst e1
  cases r
  obtain ⟨its, rv, ht, hz⟩ := I.tuple hq
  refine assign_Tuple_tuple (I.ok.hd hc) ht (by simp [hn, ← hl, rv.length]) hst fun h' hx => ?_
  have I1 : Inv X pins σ H { s with heap := h' } := I.kept (t' := s.toks) fun b o e => hx b o (Nat.ne_of_lt (Heap.lt_size e)) e
  exact h pins _ σ H xs _ Q I1 (by simpa using rv) hw
def gSub (to ti : TE) (t : TSet) : TG := fun v σ H Q => to σ H fun o H1 => ti σ H1 fun i H2 => t o i v H2 fun H3 => Q σ H3
theorem pg_sub {o i : Expr} {to ti : TE} {t : TSet} (ho : PE X o to) (hi : PE X i ti) (hs : PSet X t)
    (ha : ∀ v, assign (.Subscript o i pos) X.env v = (do
      let ov ← holding [v] (eval o X.env)
      let iv ← holding [v, ov] (eval i X.env)
      standAt pos
      holding [v, ov, iv] (setItem ov iv v)
      release [v, ov, iv] []) := by intro _; rfl) : PG X (.Subscript o i pos) (gSub to ti t) := by
  intro pins s σ H v u Q I r h
  rw [ha]
  refine wpAny_bind (wpAny_holding (thn (ho pins s σ H _ I h) fun ov s1 ⟨x, H1, I1, r1, q1⟩ => ?_))
  refine wpAny_bind (wpAny_holding (thn (hi pins s1 σ H1 _ I1 q1) fun iv s2 ⟨y, H2, I2, r2, q2⟩ => ?_))
  refine wpAny_bind (wpAny_standAt (wpAny_bind (wpAny_holding (thn (hs pins s2 σ H2 x y v ov iv u _ I2 r1 r2 r q2) fun _ s3 ⟨H3, I3, q3⟩ => ?_))))
  exact wpAny_release ⟨σ, H3, I3, q3⟩
def tAsg (te : TE) (g : TG) : TS := fun D σ H => te σ H fun x H1 => g x σ H1 D.nx
theorem ps_asg {tg e : Expr} {te : TE} {g : TG} (he : PE X e te) (hg : PG X tg g) (hs : swapsWithSole [tg] e pos.line X.env = pure false := by rfl) (hw : swappedStores [tg] e X.env = pure none := by rfl)
    (h1 : (assignEach [tg] X.env).map (·.2) = [assign tg X.env] := by rfl) : PS X (.Assign [tg] e pos) (tAsg te g) := by
  intro pins s σ H D I h
  refine wpAny_Assign_stores (thn (he pins s σ H _ I h) fun v s1 ⟨x, H1, I1, r1, q1⟩ => ?_) hs hw
  rw [h1]
  exact thn (hg pins s1 σ H1 x v _ I1 r1 q1) fun _ s2 q => q
theorem ps_set {i : Nat} {x : Str} {e : Expr} {te : TE} {pos' : Pos} (hN : X.N.Nodup) (hi : X.N[i]? = some x) (hx : Loc X.env.scope x) (he : PE X e te) (hs : swapsWith e (some (.Name x pos')) pos.line X.env = pure false := by rfl) (hf : X.fn x = true ∨ X.env.scope.names.lookup x = some .local := by first | exact .inl rfl | exact .inr rfl | assumption) :
    PS X (.Assign [.Name x pos'] e pos) (tAsg te (gName i)) := by
  intro pins s σ H D I h
  refine wpAny_Assign_Name (thn (he pins s σ H _ I h) fun v s1 ⟨y, H1, I1, r1, q1⟩ => ?_) hs
  exact store_ok I1 hN hi hx r1 (fun s2 I2 => ⟨_, H1, I2, q1⟩) hf
def tPar (i j : Nat) (ta : TA) : TS := fun D σ H => ta σ H fun vs H1 => ∃ v w, vs = [v, w] ∧ D.nx ((σ.set i (some v)).set j (some w)) H1
theorem ps_par {i j : Nat} {x y : Str} {a b : Expr} {ta : TA} {px py pt : Pos} {kt k2 pt2} (hc : X.calm = true) (hN : X.N.Nodup) (hi : X.N[i]? = some x) (hj : X.N[j]? = some y) (hij : i ≠ j)
    (hx : X.env.scope.names.lookup x = some .local) (hy : X.env.scope.names.lookup y = some .local) (ha : PA X [a, b] ta)
    (hw : swappedStores [.Tuple [.Name x px, .Name y py] kt pt] (.Tuple [a, b] k2 pt2) X.env = pure (some [x, y]))
    (hs : swapsWithSole [.Tuple [.Name x px, .Name y py] kt pt] (.Tuple [a, b] k2 pt2) pos.line X.env = pure false := by rfl) :
    PS X (.Assign [.Tuple [.Name x px, .Name y py] kt pt] (.Tuple [a, b] k2 pt2) pos) (tPar i j ta) := by
  intro pins s σ H D I h
  rw [exec_Assign_arm]
  refine wpAny_bind (wpAny_standAt ?_)
  rw [hs]
  refine wpAny_bind (wpAny_pure ?_)
  rw [if_neg (by decide)]
  refine wpAny_bind (Tuple_ (thn (ha _ pins s σ H _ I h) fun us s1 ⟨vs, H1, I1, r1, q1⟩ => ?_))
  obtain ⟨v, w, e1, q1⟩ := q1
  subst e1
  obtain ⟨u1, u2, rfl, rv, rw'⟩ : ∃ u1 u2, us = [u1, u2] ∧ RelV v u1 ∧ RelV w u2 := by
    cases r1 with
    | cons p q =>
      cases q with
      | cons p' q' =>
        cases q'
        exact ⟨_, _, rfl, p, p'⟩
  refine wpAny_newObj_type ?_ (by show 2 ≤ sizeLine; decide)
  have I2 : Inv X pins σ H1 { s1 with heap := s1.heap.push { cls := .type "tuple", data := .seq [u1, u2].toArray } } := I1.kept (t' := s1.toks) fun b o e => Heap.get?_push_of_some _ e
  rw [hw]
  refine wpAny_bind (wpAny_pure ?_)
  show wpAny (model X.prog X.w) X.A (do rule "assign.swapped-stores"; let items ← unpackItems (.ref s1.heap.objs.size) 2 none; assignInOrder [fun v => bindName X.env y v, fun v => bindName X.env x v] items.reverse; pure Flow.next) _ _ _
  refine wpAny_bind (wpAny_rule (wpAny_bind (unpackItems_tuple (items := #[u1, u2]) (I.ok.hd hc) (IsTup.new s1.heap _) fun h' hx' => ?_)))
  have I3 := I2.kept (h' := h') (t' := s1.toks) fun b o e => hx' b o (Nat.ne_of_lt (Heap.lt_size e)) e
  show wpAny _ _ (assignInOrder [fun v => bindName X.env y v, fun v => bindName X.env x v] [u2, u1] >>= fun _ => pure Flow.next) _ _ _
  refine wpAny_bind (assignInOrder_cons (wpAny_bindName (store_ok I3 hN hj (.inl hy) rw' (fun s2 I4 => ?_) (.inr hy))))
  refine assignInOrder_cons (wpAny_bindName (store_ok I4 hN hi (.inl hx) rv (fun s3 I5 => assignInOrder_nil (wpAny_pure ?_)) (.inr hx)))
  rw [List.set_comm _ _ (Ne.symm hij)] at I5
  exact ⟨_, H1, I5, q1⟩
end
section
variable {X : Cx} {pos : Pos}
def tWhile (c : TT) (tb : TS) : TS := fun D σ H => ∃ W : Nat → St → Hp → Prop, (∃ m, W m σ H) ∧ ∀ m σ H, W m σ H →
  c σ H fun b H1 => if b = true then ∃ N : St → Hp → Prop, (∀ σ' H', N σ' H' → ∃ m', m' < m ∧ W m' σ' H') ∧ tb { D with nx := N, ct := N, bk := D.nx } σ H1 else D.nx σ H1
theorem ps_while {c : Expr} {body : List Stmt} {tc : TT} {tb : TS} (hp : PassesOwn (model X.prog X.w) X.A X.env X.xe) (hc : PT X c tc) (hb : PSs X body tb) : PS X (.While c body [] pos) (tWhile tc tb) := by
  intro pins s σ H D I h
  obtain ⟨W, ⟨m0, w0⟩, turn⟩ := h
  refine wpAny_While (codeAny_whileLoop (fun n s' => ∃ σ' H', Inv X pins σ' H' s' ∧ W n σ' H') ?_ m0 ⟨σ, H, I, w0⟩)
  rintro n s1 ⟨σ1, H1, I1, w1⟩
  refine wpAny_passesOwn hp (thn (hc pins s1 σ1 H1 _ I1 (turn n σ1 H1 w1)) fun b s2 ⟨H2, I2, q2⟩ => ?_)
  cases b with
  | true =>
    obtain ⟨N, hN, q2⟩ := q2
    rw [if_pos rfl]
    refine wpAny_passesOwn hp (thn (hb pins s2 σ1 H2 _ I2 q2) fun f s3 q3 => ?_)
    cases f with
    | next =>
      obtain ⟨σ3, H3, I3, n3⟩ := q3
      obtain ⟨m', hm, w3⟩ := hN σ3 H3 n3
      exact ⟨m', hm, σ3, H3, I3, w3⟩
    | cont =>
      obtain ⟨σ3, H3, I3, n3⟩ := q3
      obtain ⟨m', hm, w3⟩ := hN σ3 H3 n3
      exact ⟨m', hm, σ3, H3, I3, w3⟩
    | brk => exact q3
    | ret v => exact q3
  | false =>
    rw [if_neg Bool.false_ne_true]
    exact wpAny_execs_nil ⟨σ1, H2, I2, q2⟩
end
structure It where
  go : Nat → Hp → Prop
  yld : Nat → Hp → V → Hp → Prop
  stop : Nat → Hp → Prop
def FpOk (X : Cx) (pins : List (Addr × Obj)) (H : Hp) (b : Addr) : Prop :=
  H b = none ∧ b ≠ X.env.locals ∧ b ∉ X.fs ∧ (b ∈ X.ex ∨ X.s₀.heap.objs.size ≤ b) ∧ (∀ x c, X.env.cells.lookup x = some c → c ≠ b) ∧ ∀ p ∈ X.pn ++ pins, p.1 ≠ b
theorem Inv.fpOk {X : Cx} {pins : List (Addr × Obj)} {σ : St} {H H' : Hp} {s : Shared} {b : Addr} (I : Inv X pins σ H s) (hb : s.heap.objs.size ≤ b) (hn : H' b = none) : FpOk X pins H' b := by
  refine ⟨hn, Nat.ne_of_gt (Nat.lt_of_lt_of_le I.lt hb), I.nofs hb, .inr (Nat.le_trans I.sz hb), fun x c e z => ?_, fun p hp z => ?_⟩
  · obtain ⟨v, q⟩ := I.cell x c e
    exact absurd (Nat.lt_of_lt_of_le q.lt (by rw [z]; exact hb)) (Nat.lt_irrefl _)
  · exact absurd (Nat.lt_of_lt_of_le (Heap.lt_size (I.pin p hp).1) (by rw [z]; exact hb)) (Nat.lt_irrefl _)
structure Turn (P : Program) (w : World) (K : PySem.W.Frag) (tg : Expr) (J : It) (fp : List Addr) (it : Addr) (tn : Nat → Heap → Prop) : Prop where
  mem : it ∈ fp
  obj : ∀ i h, tn i h → ∀ b ∈ fp, ∃ o, h.get? b = some o ∧ ∀ v, o.data ≠ .cell v
  keep : ∀ i h h', tn i h → (∀ b ∈ fp, ∀ o, h.get? b = some o → h'.get? b = some o) → tn i h'
  item : ∀ (X : Cx), X.prog = P → X.w = w → X.K = K → X.calm = true → ∀ (i : Nat) (pins : List (Addr × Obj)) (s : Shared) (σ : St) (H : Hp) (E : Value → Shared → Prop), Inv X pins σ H s → (∀ b ∈ fp, FpOk X pins H b) → tn i s.heap → J.go i H →
    wpAny (model P w) X.A (pyNext (.ref it)) (fun r s1 => ∃ u, r = some u ∧
      wpAny (model P w) X.A (letOwnedTupleGo tg (.ref it) u) (fun _ s2 => ∃ x H', Inv X pins σ H' s2 ∧ RelV x u ∧ J.yld i H x H' ∧ tn (i + 1) s2.heap ∧ ∀ b ∈ fp, H' b = none) E s1) E s
  done : ∀ (X : Cx), X.prog = P → X.w = w → X.K = K → X.calm = true → ∀ (i : Nat) (pins : List (Addr × Obj)) (s : Shared) (σ : St) (H : Hp) (E : Value → Shared → Prop), Inv X pins σ H s → (∀ b ∈ fp, FpOk X pins H b) → tn i s.heap → J.stop i H →
    wpAny (model P w) X.A (pyNext (.ref it)) (fun r s1 => r = none ∧ Inv X pins σ H s1) E s
  self : ∀ (A : Around) (i : Nat) (s : Shared) (Q : Value → Shared → Prop) (E : Value → Shared → Prop), tn i s.heap → Q (.ref it) s → wpAny (model P w) A (pyIter (.ref it)) Q E s
abbrev TI := St → Hp → (It → Hp → Prop) → Prop
def PIE (X : Cx) (pins : List (Addr × Obj)) (σ : St) (tg : Expr) (R : It → Hp → Prop) (itv : Value) (s2 : Shared) : Prop :=
  ∃ (it : Addr) (fp : List Addr) (tn : Nat → Heap → Prop) (J : It) (H' : Hp), itv = .ref it ∧ Inv X pins σ H' s2 ∧ Turn X.prog X.w X.K tg J fp it tn ∧ tn 0 s2.heap ∧ (∀ b ∈ fp, FpOk X pins H' b) ∧ R J H'
def PI (X : Cx) (tg iter : Expr) (wi : TI) : Prop :=
  ∀ (pins : List (Addr × Obj)) (s : Shared) (σ : St) (H : Hp) (R : It → Hp → Prop), Inv X pins σ H s → wi σ H R →
    wpAny (model X.prog X.w) X.A (eval iter X.env) (fun v s1 => wpAny (model X.prog X.w) X.A (pyIter v) (PIE X pins σ tg R) X.xe s1) X.xe s
theorem go_of {M : Model} {A : Around} {E : Value → Shared → Prop} {s : Shared} {tg : Expr} {it : Addr} {u : Value} {o : Obj} {n : String} {vs : Array Value} {Q : Unit → Shared → Prop} (ho : s.heap.get? it = some o) (hc : o.cls = .type n) (hd : o.data = .fields vs)
    (hn : ["enumerate", "zip", "dict_itemiterator", "dict_reverseitemiterator", "odict_iterator", "itertools.zip_longest", "itertools.pairwise"].contains n = false) (hQ : Q () s) : wpAny M A (letOwnedTupleGo tg (.ref it) u) Q E s := by
  unfold letOwnedTupleGo
  cases tg <;> first
    | exact wpAny_pure hQ
    | (cases u <;> first
        | exact wpAny_pure hQ
        | (refine wpAny_bind (wpAny_load ho ?_)
           rw [hc, hd]
           show wpAny M A (if (["enumerate", "zip", "dict_itemiterator", "dict_reverseitemiterator", "odict_iterator", "itertools.zip_longest", "itertools.pairwise"].contains n && vs[0]? == some (rawInt _)) = true then _ else _) Q E s
           rw [if_neg (by intro h; rw [hn, Bool.false_and] at h; cases h)]
           exact wpAny_pure hQ))
def Itl (K : PySem.W.Frag) (a : Addr) : It :=
  ⟨fun i H => ∃ xs x, SqL K H a xs ∧ xs[i]? = some x, fun i H x H' => H' = H ∧ ∀ xs, SqL K H a xs → xs[i]? = some x, fun i H => ∃ xs, SqL K H a xs ∧ xs.length ≤ i⟩
def Itt (K : PySem.W.Frag) (a : Addr) : It :=
  ⟨fun i H => ∃ xs x, SqT K H a xs ∧ xs[i]? = some x, fun i H x H' => H' = H ∧ ∀ xs, SqT K H a xs → xs[i]? = some x, fun i H => ∃ xs, SqT K H a xs ∧ xs.length ≤ i⟩
def Itr (lo : Int) (n : Nat) : It := ⟨fun i _ => i < n, fun i H x H' => H' = H ∧ x = .int (lo + i), fun i _ => n ≤ i⟩
theorem turn_list {P : Program} {w : World} {K : PySem.W.Frag} {tg : Expr} (a it : Addr) : Turn P w K tg (Itl K a) [it] it (fun i h => h.IsListIter it a i) where
  mem := by simp
  obj := fun i h st b hb => by
    have e : b = it := by simpa using hb
    subst e
    obtain ⟨o, e, c, d⟩ := st
    exact ⟨o, e, fun v z => by rw [d] at z; cases z⟩
  keep := fun i h h' st k => st.at fun o e => k it (by simp) o e
  item := by
    intro X hP hw hK hc i pins s σ H E I hf st hg
    subst hP hw hK
    obtain ⟨xs, x, hq, hx⟩ := hg
    obtain ⟨its, rv, p, hz⟩ := I.list hq
    obtain ⟨u, hu, ru⟩ := rv.get hx
    obtain ⟨f0, f1, f2, f3, f4, f5⟩ := hf it (by simp)
    refine wpAny_pyNext_list_item st p.isList (x := u) (by simpa using hu) fun h' st' sb => ?_
    have I1 : Inv X pins σ H { s with heap := h' } := I.turned (t' := s.toks) (fun b o hb e => (sb.2 b hb).trans e) f0 f1 f3 f4 f5
    obtain ⟨o, e, c, d⟩ := id st'
    exact ⟨u, rfl, go_of (s := { s with heap := h' }) e c d (by decide) ⟨x, H, I1, ru, ⟨rfl, fun ys hy => by rw [I.list_inj hy hq]; exact hx⟩, st', fun b hb => (hf b hb).1⟩⟩
  done := by
    intro X hP hw hK hc i pins s σ H E I hf st hg
    subst hP hw hK
    obtain ⟨xs, hq, hx⟩ := hg
    obtain ⟨its, rv, p, hz⟩ := I.list hq
    obtain ⟨f0, f1, f2, f3, f4, f5⟩ := hf it (by simp)
    have hl := rv.length
    exact wpAny_pyNext_list_end (I.ok.hd hc) st p.isList (by simp; lia) fun h' eb => ⟨rfl, I.turned (t' := s.toks) (fun b o hb e => eb b o hb e) f0 f1 f3 f4 f5⟩
  self := fun _ _ _ _ _ st h => wpAny_pyIter_listiter st h
theorem turn_tuple {P : Program} {w : World} {K : PySem.W.Frag} {tg : Expr} (a it : Addr) : Turn P w K tg (Itt K a) [it] it (fun i h => h.IsTupleIter it a i) where
  mem := by simp
  obj := fun i h st b hb => by
    have e : b = it := by simpa using hb
    subst e
    obtain ⟨o, e, c, d⟩ := st
    exact ⟨o, e, fun v z => by rw [d] at z; cases z⟩
  keep := fun i h h' st k => st.at fun o e => k it (by simp) o e
  item := by
    intro X hP hw hK hc i pins s σ H E I hf st hg
    subst hP hw hK
    obtain ⟨xs, x, hq, hx⟩ := hg
    obtain ⟨its, rv, p, hz⟩ := I.tuple hq
    obtain ⟨u, hu, ru⟩ := rv.get hx
    obtain ⟨f0, f1, f2, f3, f4, f5⟩ := hf it (by simp)
    refine wpAny_pyNext_tuple_item st (show s.heap.IsTuple a its.toArray from p) (x := u) (by simpa using hu) fun h' st' sb => ?_
    have I1 : Inv X pins σ H { s with heap := h' } := I.turned (t' := s.toks) (fun b o hb e => (sb.2 b hb).trans e) f0 f1 f3 f4 f5
    obtain ⟨o, e, c, d⟩ := id st'
    exact ⟨u, rfl, go_of (s := { s with heap := h' }) e c d (by decide) ⟨x, H, I1, ru, ⟨rfl, fun ys hy => by rw [I.tuple_inj hy hq]; exact hx⟩, st', fun b hb => (hf b hb).1⟩⟩
  done := by
    intro X hP hw hK hc i pins s σ H E I hf st hg
    subst hP hw hK
    obtain ⟨xs, hq, hx⟩ := hg
    obtain ⟨its, rv, p, hz⟩ := I.tuple hq
    obtain ⟨f0, f1, f2, f3, f4, f5⟩ := hf it (by simp)
    have hl := rv.length
    exact wpAny_pyNext_tuple_end (I.ok.hd hc) st (show s.heap.IsTuple a its.toArray from p) (by simp; lia) fun h' eb => ⟨rfl, I.turned (t' := s.toks) (fun b o hb e => eb b o hb e) f0 f1 f3 f4 f5⟩
  self := fun _ _ _ _ _ st h => wpAny_pyIter_tupleiter st h
theorem turn_range {P : Program} {w : World} {K : PySem.W.Frag} {tg : Expr} (it : Addr) (lo : Int) (n : Nat) : Turn P w K tg (Itr lo n) [it] it (fun i h => IsRangeIter h it (lo + (i : Nat) * 1) ((n : Int) - (i : Nat)) 1) where
  mem := by simp
  obj := fun i h st b hb => by
    have e : b = it := by simpa using hb
    subst e
    exact ⟨_, st, fun v z => by
      have z' : Data.fields _ = Data.cell v := z
      cases z'⟩
  keep := fun i h h' st k => k it (by simp) _ st
  item := by
    intro X hP hw hK hc i pins s σ H E I hf st hg
    subst hP hw hK
    obtain ⟨f0, f1, f2, f3, f4, f5⟩ := hf it (by simp)
    have W := Walks.range (prog := X.prog) (w := X.w) (I.ok.hd hc) it lo 1 n
    refine W.item i s _ _ hg st fun v h' tk hv st' kk => ?_
    obtain ⟨t, rfl⟩ := hv
    have I1 : Inv X pins σ H { s with heap := h', toks := tk } := I.turned (fun b o hb e => kk b o (by simpa using hb) e) f0 f1 f3 f4 f5
    refine ⟨_, rfl, go_of (s := { s with heap := h', toks := tk }) (n := "range_iterator") st' rfl rfl (by decide) ⟨.int (lo + i), H, I1, ⟨t, ?_⟩, ⟨rfl, rfl⟩, st', fun b hb => (hf b hb).1⟩⟩
    rw [Int.mul_one]
  done := by
    intro X hP hw hK hc i pins s σ H E I hf st hg
    subst hP hw hK
    obtain ⟨f0, f1, f2, f3, f4, f5⟩ := hf it (by simp)
    exact wpAny_pyNext_range_end (I.ok.hd hc) st (by have : n ≤ i := hg; lia) fun h' eb => ⟨rfl, I.turned (t' := s.toks) (fun b o hb e => eb b o hb e) f0 f1 f3 f4 f5⟩
  self := fun _ _ _ _ _ st h => wpAny_pyIter_rangeiter st h
end L2
namespace L2
open PySem PySem.Spec PyProof.Rows
section
variable {X : Cx} {tg : Expr}
def iList (K : PySem.W.Frag) (tl : TE) : TI := fun σ H R => tl σ H fun x H1 => ∃ a, x = .ref a ∧ (∃ xs, SqL K H1 a xs) ∧ R (Itl K a) H1
def iTup (K : PySem.W.Frag) (tl : TE) : TI := fun σ H R => tl σ H fun x H1 => ∃ a, x = .ref a ∧ (∃ xs, SqT K H1 a xs) ∧ R (Itt K a) H1
theorem pi_list {l : Expr} {tl : TE} (hl : PE X l tl) : PI X tg l (iList X.K tl) := by
  intro pins s σ H R I h
  refine thn (hl pins s σ H _ I h) fun v s1 ⟨x, H1, I1, r1, q1⟩ => ?_
  obtain ⟨a, e, ⟨xs, hq⟩, q⟩ := q1
  subst e
  cases r1
  obtain ⟨its, rv, p, hz⟩ := I1.list hq
  refine wpAny_pyIter_list p.isList ?_
  refine ⟨s1.heap.objs.size, [s1.heap.objs.size], _, _, H1, rfl, I1.kept (t' := s1.toks) fun b o e => Heap.get?_push_of_some _ e, turn_list a _, ⟨_, Heap.get?_push_size _ rfl, rfl, rfl⟩, fun b hb => ?_, q⟩
  have e : b = s1.heap.objs.size := by simpa using hb
  subst e
  exact I1.fpOk (Nat.le_refl _) (I1.hok.fresh (Nat.le_refl _))
theorem pi_tup {l : Expr} {tl : TE} (hl : PE X l tl) : PI X tg l (iTup X.K tl) := by
  intro pins s σ H R I h
  refine thn (hl pins s σ H _ I h) fun v s1 ⟨x, H1, I1, r1, q1⟩ => ?_
  obtain ⟨a, e, ⟨xs, hq⟩, q⟩ := q1
  subst e
  cases r1
  obtain ⟨its, rv, p, hz⟩ := I1.tuple hq
  refine wpAny_pyIter_tuple (show s1.heap.IsTuple a its.toArray from p) ?_
  refine ⟨s1.heap.objs.size, [s1.heap.objs.size], _, _, H1, rfl, I1.kept (t' := s1.toks) fun b o e => Heap.get?_push_of_some _ e, turn_tuple a _, ⟨_, Heap.get?_push_size _ rfl, rfl, rfl⟩, fun b hb => ?_, q⟩
  have e : b = s1.heap.objs.size := by simpa using hb
  subst e
  exact I1.fpOk (Nat.le_refl _) (I1.hok.fresh (Nat.le_refl _))
theorem range_it {pins : List (Addr × Obj)} {σ : St} {H : Hp} {s : Shared} {R : It → Hp → Prop} {E : Value → Shared → Prop} {lo hi : Int} {t u v : Tok} {tk : Nat} (I : Inv X pins σ H s) (h1 : -(2 ^ 62) ≤ lo) (h2 : lo < 2 ^ 62) (h3 : -(2 ^ 62) ≤ hi) (h4 : hi < 2 ^ 62)
    (q : R (Itr lo (hi - lo).toNat) H) : wpAny (model X.prog X.w) X.A (pyIter (.ref s.heap.objs.size)) (PIE X pins σ tg R) E { s with heap := s.heap.push { cls := .type "range", data := .fields #[.int lo t, .int hi u, .int 1 v] }, toks := tk } := by
  refine wpAny_pyIter_range (IsRange.new ..) (small_one h1 h2 h3 h4) ?_
  have I1 : Inv X pins σ H { s with heap := s.heap.push { cls := .type "range", data := .fields #[.int lo t, .int hi u, .int 1 v] }, toks := tk } := I.kept fun b o e => Heap.get?_push_of_some _ e
  refine ⟨(s.heap.push { cls := .type "range", data := .fields #[.int lo t, .int hi u, .int 1 v] }).objs.size, [(s.heap.push { cls := .type "range", data := .fields #[.int lo t, .int hi u, .int 1 v] }).objs.size], _, _, H, rfl,
    I1.kept (t' := tk) fun b o e => Heap.get?_push_of_some _ e, turn_range _ lo (hi - lo).toNat, ?_, fun b hb => ?_, q⟩
  · have e1 : lo + ((0 : Nat) : Int) * 1 = lo := by simp
    have e2 : (((hi - lo).toNat : Nat) : Int) - ((0 : Nat) : Int) = Builtin.Range.rangeSize lo hi 1 := by rw [rangeSize_one]; split <;> lia
    show IsRangeIter _ _ (lo + ((0 : Nat) : Int) * 1) ((((hi - lo).toNat : Nat) : Int) - ((0 : Nat) : Int)) 1
    rw [e1, e2]
    exact Heap.get?_push_size _ rfl
  · have e : b = (s.heap.push { cls := .type "range", data := .fields #[.int lo t, .int hi u, .int 1 v] }).objs.size := by simpa using hb
    subst e
    exact I1.fpOk (Nat.le_refl _) (I1.hok.fresh (Nat.le_refl _))
def iRng1 (ta : TA) : TI := fun σ H R => ta σ H fun vs H1 => ∃ j : Int, vs = [.int j] ∧ -(2 ^ 62) ≤ j ∧ j < 2 ^ 62 ∧ R (Itr 0 j.toNat) H1
theorem pi_range1 {a : Expr} {ta : TA} {p pos : Pos} (hg : Gl X "range") (hm : X.mg "range" = none) (ha : PA X [a] ta) (hs : starEach [a] X.env = [(false, eval a X.env)] := by rfl) : PI X tg (.Call (.Name "range" p) [a] [] pos) (iRng1 ta) := by
  intro pins s σ H R I h
  refine Call_ (ld_blt I hg hm boot_range (PyProof.Rows.callWith_type1 (thn (ha pos pins s σ H _ I h) fun us s1 ⟨vs, H1, I1, r1, q1⟩ => ?_) hs rfl))
  obtain ⟨j, e, q1, q2, q⟩ := q1
  subst e
  cases r1 with
  | cons r rr =>
    cases rr
    obtain ⟨t, rfl⟩ := r
    exact call_range_1 (range_it I1 (by lia) (by lia) q1 q2 (by simpa using q))
def tFor (wi : TI) (g : TG) (tb : TS) : TS := fun D σ H => wi σ H fun J H1 => ∃ W : Nat → Nat → St → Hp → Prop, (∃ m, W 0 m σ H1) ∧ ∀ i m σ H, W i m σ H →
  (J.stop i H ∧ D.nx σ H) ∨ (J.go i H ∧ ∃ N : St → Hp → Prop, (∀ σ' H', N σ' H' → ∃ m', m' < m ∧ W (i + 1) m' σ' H') ∧ ∀ x H', J.yld i H x H' → g x σ H' fun σ2 H2 => tb { D with nx := N, ct := N, bk := D.nx } σ2 H2)
def pinsAt (fp : List Addr) (h : Heap) : List (Addr × Obj) := fp.filterMap fun b => (h.get? b).map fun o => (b, o)
theorem mem_pinsAt {fp : List Addr} {h : Heap} {b : Addr} {o : Obj} (hb : b ∈ fp) (e : h.get? b = some o) : (b, o) ∈ pinsAt fp h := List.mem_filterMap.mpr ⟨b, hb, by rw [e]; rfl⟩
theorem of_pinsAt {fp : List Addr} {h : Heap} {p : Addr × Obj} (hp : p ∈ pinsAt fp h) : p.1 ∈ fp ∧ h.get? p.1 = some p.2 := by
  obtain ⟨b, hb, e⟩ := List.mem_filterMap.mp hp
  cases q : h.get? b with
  | none => rw [q] at e; cases e
  | some o =>
    rw [q] at e
    have e' : (b, o) = p := Option.some.inj e
    subst e'
    exact ⟨hb, q⟩
theorem Inv.pinned {pins : List (Addr × Obj)} {σ : St} {H : Hp} {s : Shared} {fp : List Addr} (I : Inv X pins σ H s) (hf : ∀ b ∈ fp, FpOk X pins H b) (ho : ∀ b ∈ fp, ∃ o, s.heap.get? b = some o ∧ ∀ v, o.data ≠ .cell v) : Inv X (pins ++ pinsAt fp s.heap) σ H s :=
  I.pins_of fun p hp => (List.mem_append.mp hp).elim (fun z => I.pin p (List.mem_append_right _ z)) fun z => by
    obtain ⟨hb, e⟩ := of_pinsAt z
    obtain ⟨f0, f1, f2, _⟩ := hf p.1 hb
    obtain ⟨o, e', d⟩ := ho p.1 hb
    rw [e] at e'; cases e'
    exact ⟨e, f0, f1, f2, d⟩
theorem Inv.unpinned {pins pl : List (Addr × Obj)} {σ : St} {H : Hp} {s : Shared} (I : Inv X (pins ++ pl) σ H s) : Inv X pins σ H s := I.pins_of fun p hp => I.pin p (List.mem_append_right _ (List.mem_append_left _ hp))
theorem ps_for {iter : Expr} {body : List Stmt} {wi : TI} {g : TG} {tb : TS} {pos : Pos} (hp : PassesOwn (model X.prog X.w) X.A X.env X.xe) (hc : X.calm = true) (hi : PI X tg iter wi) (hg : PG X tg g) (hb : PSs X body tb)
    (hs : ∀ x, foldedSetIterable iter X.env x = pure x := by intro _; rfl) : PS X (.For tg iter body [] pos) (tFor wi g tb) := by
  intro pins s σ H D I h
  refine wpAny_For (thn (hi pins s σ H _ I h) fun v s1 h1 => thn h1 fun itv s2 h2 => ?_) hs
  obtain ⟨it, fp, tn, J, H2, e, I2, T, st2, f2, W, ⟨m0, w0⟩, turn⟩ := h2
  subst e
  have stat : ∀ {H' : Hp}, (∀ b ∈ fp, H' b = none) → ∀ b ∈ fp, FpOk X pins H' b := fun hn b hb => ⟨hn b hb, (f2 b hb).2⟩
  refine codeAny_forLoop_any (fun n s' => ∃ i σ' H', Inv X pins σ' H' s' ∧ tn i s'.heap ∧ (∀ b ∈ fp, H' b = none) ∧ W i n σ' H') ?_ m0 ⟨0, σ, H2, I2, st2, fun b hb => (f2 b hb).1, w0⟩
  rintro n s3 ⟨i, σ3, H3, I3, st3, fr3, w3⟩
  rcases turn i n σ3 H3 w3 with ⟨stop, qn⟩ | ⟨go, N, hN, step⟩
  · refine wpAny_passesOwn hp (thn (T.done X rfl rfl rfl hc i pins s3 σ3 H3 X.xe I3 (stat fr3) st3 stop) fun r s4 ⟨hr, I4⟩ => ?_)
    subst hr
    exact wpAny_execs_nil ⟨σ3, H3, I4, qn⟩
  · refine wpAny_passesOwn hp (thn (T.item X rfl rfl rfl hc i pins s3 σ3 H3 X.xe I3 (stat fr3) st3 go) fun r s4 ⟨u, hr, h4⟩ => ?_)
    subst hr
    refine wpAny_passesOwn hp (thn h4 fun _ s5 ⟨x, H5, I5, r5, y5, st5, fr5⟩ => ?_)
    have I5' := I5.pinned (stat fr5) (T.obj _ _ st5)
    refine wpAny_passesOwn hp (thn (hg _ s5 σ3 H5 x u _ I5' r5 (step x H5 y5)) fun _ s6 ⟨σ6, H6, I6, q6⟩ => ?_)
    refine wpAny_passesOwn hp (thn (hb _ s6 σ6 H6 _ I6 q6) fun f s7 q7 => ?_)
    have again : ∀ {σ7 : St} {H7 : Hp}, Inv X (pins ++ pinsAt fp s5.heap) σ7 H7 s7 → N σ7 H7 → ∃ m, m < n ∧ ∃ i σ' H', Inv X pins σ' H' s7 ∧ tn i s7.heap ∧ (∀ b ∈ fp, H' b = none) ∧ W i m σ' H' := fun {σ7 H7} I7 n7 => by
      obtain ⟨m', hm, w7⟩ := hN σ7 H7 n7
      refine ⟨m', hm, i + 1, σ7, H7, I7.unpinned, T.keep _ _ _ st5 fun b hb o e => (I7.pin (b, o) (List.mem_append_right _ (List.mem_append_right _ (mem_pinsAt hb e)))).1, fun b hb => ?_, w7⟩
      obtain ⟨o, e, d⟩ := T.obj _ _ st5 b hb
      exact (I7.pin (b, o) (List.mem_append_right _ (List.mem_append_right _ (mem_pinsAt hb e)))).2.1
    cases f with
    | next => obtain ⟨σ7, H7, I7, n7⟩ := q7; exact again I7 n7
    | cont => obtain ⟨σ7, H7, I7, n7⟩ := q7; exact again I7 n7
    | brk => obtain ⟨σ7, H7, I7, q7⟩ := q7; exact ⟨σ7, H7, I7.unpinned, q7⟩
    | ret v => obtain ⟨x7, σ7, H7, I7, r7, q7⟩ := q7; exact ⟨x7, σ7, H7, I7.unpinned, r7, q7⟩
end
theorem for_list {K : PySem.W.Frag} {a : Addr} {xs : List V} {g : TG} {tb : TS} {D : Ends} {σ : St} {H : Hp} (Pv : Nat → St → Hp → Prop) (h0 : Pv 0 σ H) (hl : ∀ i σ H, i ≤ xs.length → Pv i σ H → SqL K H a xs)
    (hs : ∀ i x σ H, xs[i]? = some x → Pv i σ H → g x σ H fun σ2 H2 => tb { D with nx := Pv (i + 1), ct := Pv (i + 1), bk := D.nx } σ2 H2) (hd : ∀ σ H, Pv xs.length σ H → D.nx σ H) :
    ∃ W : Nat → Nat → St → Hp → Prop, (∃ m, W 0 m σ H) ∧ ∀ i m σ H, W i m σ H →
      ((Itl K a).stop i H ∧ D.nx σ H) ∨ ((Itl K a).go i H ∧ ∃ N : St → Hp → Prop, (∀ σ' H', N σ' H' → ∃ m', m' < m ∧ W (i + 1) m' σ' H') ∧ ∀ x H', (Itl K a).yld i H x H' → g x σ H' fun σ2 H2 => tb { D with nx := N, ct := N, bk := D.nx } σ2 H2) := by
  refine ⟨fun i m σ H => m = xs.length - i ∧ i ≤ xs.length ∧ Pv i σ H, ⟨xs.length, by simp, Nat.zero_le _, h0⟩, ?_⟩
  rintro i m σ H ⟨rfl, hi, p⟩
  have q := hl i σ H hi p
  by_cases hlt : i < xs.length
  · refine .inr ⟨⟨xs, xs[i], q, by simp [hlt]⟩, Pv (i + 1), fun σ' H' p' => ⟨xs.length - (i + 1), by lia, rfl, hlt, p'⟩, fun x H' y => ?_⟩
    obtain ⟨e, y⟩ := y
    subst e
    exact hs i x σ _ (y xs q) p
  · have e : i = xs.length := by lia
    subst e
    exact .inl ⟨⟨xs, q, Nat.le_refl _⟩, hd σ H p⟩
theorem for_tup {K : PySem.W.Frag} {a : Addr} {xs : List V} {g : TG} {tb : TS} {D : Ends} {σ : St} {H : Hp} (Pv : Nat → St → Hp → Prop) (h0 : Pv 0 σ H) (hl : ∀ i σ H, i ≤ xs.length → Pv i σ H → SqT K H a xs)
    (hs : ∀ i x σ H, xs[i]? = some x → Pv i σ H → g x σ H fun σ2 H2 => tb { D with nx := Pv (i + 1), ct := Pv (i + 1), bk := D.nx } σ2 H2) (hd : ∀ σ H, Pv xs.length σ H → D.nx σ H) :
    ∃ W : Nat → Nat → St → Hp → Prop, (∃ m, W 0 m σ H) ∧ ∀ i m σ H, W i m σ H →
      ((Itt K a).stop i H ∧ D.nx σ H) ∨ ((Itt K a).go i H ∧ ∃ N : St → Hp → Prop, (∀ σ' H', N σ' H' → ∃ m', m' < m ∧ W (i + 1) m' σ' H') ∧ ∀ x H', (Itt K a).yld i H x H' → g x σ H' fun σ2 H2 => tb { D with nx := N, ct := N, bk := D.nx } σ2 H2) := by
  refine ⟨fun i m σ H => m = xs.length - i ∧ i ≤ xs.length ∧ Pv i σ H, ⟨xs.length, by simp, Nat.zero_le _, h0⟩, ?_⟩
  rintro i m σ H ⟨rfl, hi, p⟩
  have q := hl i σ H hi p
  by_cases hlt : i < xs.length
  · refine .inr ⟨⟨xs, xs[i], q, by simp [hlt]⟩, Pv (i + 1), fun σ' H' p' => ⟨xs.length - (i + 1), by lia, rfl, hlt, p'⟩, fun x H' y => ?_⟩
    obtain ⟨e, y⟩ := y
    subst e
    exact hs i x σ _ (y xs q) p
  · have e : i = xs.length := by lia
    subst e
    exact .inl ⟨⟨xs, q, Nat.le_refl _⟩, hd σ H p⟩
theorem for_range {lo : Int} {n : Nat} {g : TG} {tb : TS} {D : Ends} {σ : St} {H : Hp} (Pv : Nat → St → Hp → Prop) (h0 : Pv 0 σ H)
    (hs : ∀ i σ H, i < n → Pv i σ H → g (.int (lo + i)) σ H fun σ2 H2 => tb { D with nx := Pv (i + 1), ct := Pv (i + 1), bk := D.nx } σ2 H2) (hd : ∀ σ H, Pv n σ H → D.nx σ H) :
    ∃ W : Nat → Nat → St → Hp → Prop, (∃ m, W 0 m σ H) ∧ ∀ i m σ H, W i m σ H →
      ((Itr lo n).stop i H ∧ D.nx σ H) ∨ ((Itr lo n).go i H ∧ ∃ N : St → Hp → Prop, (∀ σ' H', N σ' H' → ∃ m', m' < m ∧ W (i + 1) m' σ' H') ∧ ∀ x H', (Itr lo n).yld i H x H' → g x σ H' fun σ2 H2 => tb { D with nx := N, ct := N, bk := D.nx } σ2 H2) := by
  refine ⟨fun i m σ H => m = n - i ∧ i ≤ n ∧ Pv i σ H, ⟨n, by simp, Nat.zero_le _, h0⟩, ?_⟩
  rintro i m σ H ⟨rfl, hi, p⟩
  by_cases hlt : i < n
  · refine .inr ⟨hlt, Pv (i + 1), fun σ' H' p' => ⟨n - (i + 1), by lia, rfl, hlt, p'⟩, fun x H' y => ?_⟩
    obtain ⟨e, y⟩ := y
    subst e y
    exact hs i σ _ hlt p
  · have e : i = n := by lia
    subst e
    exact .inl ⟨Nat.le_refl _, hd σ H p⟩
theorem while_by {c : TT} {tb : TS} {D : Ends} {σ : St} {H : Hp} (Pv : St → Hp → Prop) (μ : St → Hp → Nat) (h0 : Pv σ H)
    (hs : ∀ σ H, Pv σ H → c σ H fun b H1 => if b = true then tb { D with nx := fun σ' H' => Pv σ' H' ∧ μ σ' H' < μ σ H, ct := fun σ' H' => Pv σ' H' ∧ μ σ' H' < μ σ H, bk := D.nx } σ H1 else D.nx σ H1)
    (mono : ∀ σ H Q Q', (∀ b H1, Q b H1 → Q' b H1) → c σ H Q → c σ H Q') : tWhile c tb D σ H := by
  refine ⟨fun m σ H => m = μ σ H ∧ Pv σ H, ⟨_, rfl, h0⟩, ?_⟩
  rintro m σ H ⟨rfl, p⟩
  refine mono σ H _ _ (fun b H1 q => ?_) (hs σ H p)
  cases b with
  | true => exact ⟨_, fun σ' H' ⟨p', l⟩ => ⟨_, l, rfl, p'⟩, q⟩
  | false => exact q
end L2
namespace L2
open PySem PySem.Spec PyProof.Rows
abbrev R2 := V → V → Hp → VK → Prop
def OpR (X : Cx) (f : Value → Value → Sem Value) (r : R2) : Prop :=
  ∀ (pins : List (Addr × Obj)) (s : Shared) (σ : St) (H : Hp) (x y : V) (v u : Value) (Q : VK), Inv X pins σ H s → RelV x v → RelV y u → r x y H Q →
    wpAny (model X.prog X.w) X.A (f v u) (EP X pins σ Q) X.xe s
def UnR (X : Cx) (f : Value → Sem Value) (r : V → Hp → VK → Prop) : Prop :=
  ∀ (pins : List (Addr × Obj)) (s : Shared) (σ : St) (H : Hp) (x : V) (v : Value) (Q : VK), Inv X pins σ H s → RelV x v → r x H Q →
    wpAny (model X.prog X.w) X.A (f v) (EP X pins σ Q) X.xe s
def CallR (X : Cx) (f : Value) (r : List V → Hp → VK → Prop) : Prop :=
  ∀ (pins : List (Addr × Obj)) (s : Shared) (σ : St) (H : Hp) (xs : List V) (us : List Value) (Q : VK), Inv X pins σ H s → Vals xs us → r xs H Q →
    wpAny (model X.prog X.w) X.A (call f us) (EP X pins σ Q) X.xe s
def tOp (r : R2) (ta tb : TE) : TE := fun σ H Q => ta σ H fun x H1 => tb σ H1 fun y H2 => r x y H2 Q
def tUn (r : V → Hp → VK → Prop) (ta : TE) : TE := fun σ H Q => ta σ H fun x H1 => r x H1 Q
def rI (C : Int → Int → Prop) (g : Int → Int → V) : R2 := fun x y H Q => ∃ i j, x = .int i ∧ y = .int j ∧ C i j ∧ Q (g i j) H
def rI0 (g : Int → Int → V) : R2 := fun x y H Q => ∃ i j, x = .int i ∧ y = .int j ∧ Q (g i j) H
def rU (g : Int → V) : V → Hp → VK → Prop := fun x H Q => ∃ i, x = .int i ∧ Q (g i) H
section
variable {X : Cx} {a b c : Expr} {ta tb tc : TE} {pos : Pos}
theorem binT (ha : PE X a ta) (hb : PE X b tb) {pins : List (Addr × Obj)} {s : Shared} {σ : St} {H : Hp} {R : V → V → Hp → Prop} (I : Inv X pins σ H s)
    (h : ta σ H fun x H1 => tb σ H1 fun y H2 => R x y H2) {Q : Value → Shared → Prop} {f : Value → Value → Sem Value}
    (hf : ∀ v u s2 x y H2, Inv X pins σ H2 s2 → RelV x v → RelV y u → R x y H2 → wpAny (model X.prog X.w) X.A (f v u) Q X.xe s2) :
    wpAny (model X.prog X.w) X.A (eval a X.env) (fun v s₁ => wpAny (model X.prog X.w) X.A (eval b X.env) (fun u s₂ => wpAny (model X.prog X.w) X.A (f v u) Q X.xe s₂) X.xe s₁) X.xe s := by
  refine thn (ha pins s σ H _ I h) fun v s1 ⟨x, H1, I1, r1, q1⟩ => ?_
  refine thn (hb pins s1 σ H1 _ I1 q1) fun u s2 ⟨y, H2, I2, r2, q2⟩ => ?_
  exact hf v u s2 x y H2 I2 r1 r2 q2
theorem pe_op {op : Operator} {r : R2} (ho : OpR X (binaryOp op) r) (ha : PE X a ta) (hb : PE X b tb) : PE X (.BinOp a op b pos) (tOp r ta tb) := by
  intro pins s σ H Q I h
  exact wpAny_BinOp (binT ha hb I h fun v u s2 x y H2 I2 rx ry q => ho pins s2 σ H2 x y v u Q I2 rx ry q)
theorem pe_un {op : UnaryOp} {r : V → Hp → VK → Prop} (ho : UnR X (unaryOp op) r) (ha : PE X a ta) : PE X (.UnaryOp op a pos) (tUn r ta) := by
  intro pins s σ H Q I h
  exact UnaryOp_ (thn (ha pins s σ H _ I h) fun v s1 ⟨x, H1, I1, r1, q1⟩ => ho pins s1 σ H1 x v Q I1 r1 q1)
theorem opI {f : Value → Value → Sem Value} {C : Int → Int → Prop} {g : Int → Int → Int}
    (rule : ∀ (i j : Int) (t u : Tok) (s : Shared) (Q : Value → Shared → Prop) (E : Value → Shared → Prop), C i j → Q (.int (g i j) s.toks) { s with toks := s.toks + 1 } → wpAny (model X.prog X.w) X.A (f (.int i t) (.int j u)) Q E s) :
    OpR X f (rI C fun i j => .int (g i j)) := by
  intro pins s σ H x y v u Q I rx ry h
  obtain ⟨i, j, rfl, rfl, hc, q⟩ := h
  obtain ⟨t, rfl⟩ := rx
  obtain ⟨t', rfl⟩ := ry
  exact rule i j t t' s _ _ hc ⟨.int (g i j), H, I.tok _, ⟨_, rfl⟩, q⟩
theorem opI0 {f : Value → Value → Sem Value} {g : Int → Int → Int}
    (rule : ∀ (i j : Int) (t u : Tok) (s : Shared) (Q : Value → Shared → Prop) (E : Value → Shared → Prop), Q (.int (g i j) s.toks) { s with toks := s.toks + 1 } → wpAny (model X.prog X.w) X.A (f (.int i t) (.int j u)) Q E s) :
    OpR X f (rI0 fun i j => .int (g i j)) := by
  intro pins s σ H x y v u Q I rx ry h
  obtain ⟨i, j, rfl, rfl, q⟩ := h
  obtain ⟨t, rfl⟩ := rx
  obtain ⟨t', rfl⟩ := ry
  exact rule i j t t' s _ _ ⟨.int (g i j), H, I.tok _, ⟨_, rfl⟩, q⟩
theorem opB0 {f : Value → Value → Sem Value} {g : Int → Int → Bool}
    (rule : ∀ (i j : Int) (t u : Tok) (s : Shared) (Q : Value → Shared → Prop) (E : Value → Shared → Prop), Q (.bool (g i j)) s → wpAny (model X.prog X.w) X.A (f (.int i t) (.int j u)) Q E s) :
    OpR X f (rI0 fun i j => .bl (g i j)) := by
  intro pins s σ H x y v u Q I rx ry h
  obtain ⟨i, j, rfl, rfl, q⟩ := h
  obtain ⟨t, rfl⟩ := rx
  obtain ⟨t', rfl⟩ := ry
  exact rule i j t t' s _ _ ⟨.bl (g i j), H, I, rfl, q⟩
def CDiv (i j : Int) : Prop := 0 < j ∧ j < 1073741824
def CPow (i j : Int) : Prop := 0 ≤ j ∧ j ≤ 1000000 ∧ i.natAbs < 2 ^ 64
def CMul (i j : Int) : Prop := (-(2 ^ 64) < i ∧ i < 2 ^ 64) ∨ (-(2 ^ 64) < j ∧ j < 2 ^ 64)
theorem CMul.ok {i j : Int} (h : CMul i j) : IntMulOk i j := by
  rcases h with ⟨h1, h2⟩ | ⟨h1, h2⟩
  · exact .of_left (intBits_le_64 h1 h2)
  · exact .of_right (intBits_le_64 h1 h2)
theorem op_add : OpR X (binaryOp .Add) (rI0 fun i j => .int (i + j)) := opI0 fun _ _ _ _ _ _ _ q => add_int q
theorem op_sub : OpR X (binaryOp .Sub) (rI0 fun i j => .int (i - j)) := opI0 fun _ _ _ _ _ _ _ q => sub_int q
theorem op_mul : OpR X (binaryOp .Mult) (rI CMul fun i j => .int (i * j)) := opI fun _ _ _ _ _ _ _ hc q => mul_int q hc.ok
theorem op_fdiv : OpR X (binaryOp .FloorDiv) (rI CDiv fun i j => .int (i / j)) := opI fun i j _ _ _ _ _ hc q => by
  have h1 : (0 : Int) < j := hc.1
  have h2 : j < 1073741824 := hc.2
  exact floordiv_int (by lia) (by rw [Int.fdiv_eq_ediv_of_nonneg i (by lia)]; exact q) (.inl (PyProof.noPylong_small (by lia)))
theorem op_mod : OpR X (binaryOp .Mod) (rI (fun _ j => 0 < j) fun i j => .int (i % j)) := opI fun i j _ _ _ _ _ hc q => by
  have h1 : (0 : Int) < j := hc
  exact mod_int' (by lia) (by rw [Int.fmod_eq_emod_of_nonneg i (by lia)]; exact q)
theorem op_pow : OpR X (binaryOp .Pow) (rI CPow fun i j => .int (i ^ j.toNat)) := opI fun _ _ _ _ _ _ _ hc q => pow_int_small hc.1 hc.2.1 hc.2.2 q
theorem op_shl : OpR X (binaryOp .LShift) (rI CPow fun i j => .int (i * 2 ^ j.toNat)) := opI fun _ _ _ _ _ _ _ hc q => lshift_int_small hc.1 hc.2.1 hc.2.2 q
theorem unI {f : Value → Sem Value} {g : Int → Int}
    (rule : ∀ (i : Int) (t : Tok) (s : Shared) (Q : Value → Shared → Prop) (E : Value → Shared → Prop), Q (.int (g i) s.toks) { s with toks := s.toks + 1 } → wpAny (model X.prog X.w) X.A (f (.int i t)) Q E s) :
    UnR X f (rU fun i => .int (g i)) := by
  intro pins s σ H x v Q I rx h
  obtain ⟨i, rfl, q⟩ := h
  obtain ⟨t, rfl⟩ := rx
  exact rule i t s _ _ ⟨.int (g i), H, I.tok _, ⟨_, rfl⟩, q⟩
theorem un_neg : UnR X (unaryOp .USub) (rU fun i => .int (-i)) := unI fun _ _ _ _ _ q => neg_int q
end
def scal : V → V → Bool
  | .non, .non => true | .non, .int _ => true | .int _, .non => true | .non, .bl _ => true | .bl _, .non => true | .non, .str _ => true | .str _, .non => true
  | .int _, .int _ => true | .bl _, .bl _ => true | .str _, .str _ => true | .byt _, .byt _ => true
  | .int _, .str _ => true | .str _, .int _ => true | .bl _, .str _ => true | .str _, .bl _ => true
  | _, _ => false
def rEq : R2 := fun x y H Q => scal x y = true ∧ Q (.bl (decide (x = y))) H
def rNe : R2 := fun x y H Q => scal x y = true ∧ Q (.bl (!decide (x = y))) H
theorem dec_int {i j : Int} : decide (V.int i = V.int j) = (i == j) := by
  rw [Bool.eq_iff_iff]
  simp
theorem dec_bl {i j : Bool} : decide (V.bl i = V.bl j) = (i == j) := by
  rw [Bool.eq_iff_iff]
  simp
theorem dec_str {i j : Str} : decide (V.str i = V.str j) = (i == j) := by
  rw [Bool.eq_iff_iff]
  simp
theorem dec_byt {i j : Array UInt8} : decide (V.byt i = V.byt j) = (i.toList == j.toList) := by
  rw [Bool.eq_iff_iff]
  cases i
  cases j
  simp
section
variable {X : Cx} {a b c : Expr} {ta tb tc : TE} {pos : Pos}
theorem fin_bl {pins : List (Addr × Obj)} {σ : St} {H : Hp} {s : Shared} {Q : VK} {k k' : Bool} (I : Inv X pins σ H s) (q : Q (.bl k) H) (e : k = k') : EP X pins σ Q (.bool k') s := by
  subst e
  exact ⟨.bl k, H, I, rfl, q⟩
theorem op_eq : OpR X (compareOp .Eq) rEq := by
  intro pins s σ H x y v u Q I rx ry h
  obtain ⟨hs, q⟩ := h
  cases x with
  | non =>
    cases rx
    cases y with
    | non => cases ry; exact PySem.EqNone.eq_none_none (fin_bl I q (by simp))
    | bl j => cases ry; exact PySem.EqNone.eq_none_bool (fin_bl I q (by simp))
    | int j => obtain ⟨t', rfl⟩ := ry; exact PySem.EqNone.eq_none_int (fin_bl I q (by simp))
    | str j => obtain ⟨t', rfl⟩ := ry; exact PySem.EqNone.eq_none_str (fin_bl I q (by simp))
    | _ => exact absurd (show false = true from hs) Bool.false_ne_true
  | bl i =>
    cases rx
    cases y with
    | non => cases ry; exact PySem.EqNone.eq_bool_none (fin_bl I q (by simp))
    | bl j => cases ry; exact eq_bool (fin_bl I q dec_bl)
    | str j => obtain ⟨t', rfl⟩ := ry; exact PySem.EqMixed.eq_bool_str (fin_bl I q (by simp))
    | _ => exact absurd (show false = true from hs) Bool.false_ne_true
  | int i =>
    obtain ⟨t, rfl⟩ := rx
    cases y with
    | non => cases ry; exact PySem.EqNone.eq_int_none (fin_bl I q (by simp))
    | int j => obtain ⟨t', rfl⟩ := ry; exact eq_int (fin_bl I q dec_int)
    | str j => obtain ⟨t', rfl⟩ := ry; exact PySem.EqMixed.eq_int_str (fin_bl I q (by simp))
    | _ => exact absurd (show false = true from hs) Bool.false_ne_true
  | str i =>
    obtain ⟨t, rfl⟩ := rx
    cases y with
    | non => cases ry; exact PySem.EqNone.eq_str_none (fin_bl I q (by simp))
    | bl j => cases ry; exact PySem.EqMixed.eq_str_bool (fin_bl I q (by simp))
    | int j => obtain ⟨t', rfl⟩ := ry; exact PySem.EqMixed.eq_str_int (fin_bl I q (by simp))
    | str j => obtain ⟨t', rfl⟩ := ry; exact eq_str (fin_bl I q dec_str)
    | _ => exact absurd (show false = true from hs) Bool.false_ne_true
  | byt i =>
    obtain ⟨t, rfl⟩ := rx
    cases y with
    | byt j => obtain ⟨t', rfl⟩ := ry; exact PySem.W.eq_bytes (fin_bl I q dec_byt)
    | _ => exact absurd (show false = true from hs) Bool.false_ne_true
  | _ => cases y <;> exact absurd (show false = true from hs) Bool.false_ne_true
theorem op_ne : OpR X (compareOp .NotEq) rNe := by
  intro pins s σ H x y v u Q I rx ry h
  obtain ⟨hs, q⟩ := h
  cases x with
  | non =>
    cases rx
    cases y with
    | non => cases ry; exact PySem.EqNone.ne_none_none (fin_bl I q (by simp))
    | bl j => cases ry; exact PySem.EqNone.ne_none_bool (fin_bl I q (by simp))
    | int j => obtain ⟨t', rfl⟩ := ry; exact PySem.EqNone.ne_none_int (fin_bl I q (by simp))
    | str j => obtain ⟨t', rfl⟩ := ry; exact PySem.EqNone.ne_none_str (fin_bl I q (by simp))
    | _ => exact absurd (show false = true from hs) Bool.false_ne_true
  | bl i =>
    cases rx
    cases y with
    | non => cases ry; exact PySem.EqNone.ne_bool_none (fin_bl I q (by simp))
    | bl j => cases ry; exact ne_bool (fin_bl I q (congrArg not dec_bl))
    | str j => obtain ⟨t', rfl⟩ := ry; exact PySem.EqMixed.ne_bool_str (fin_bl I q (by simp))
    | _ => exact absurd (show false = true from hs) Bool.false_ne_true
  | int i =>
    obtain ⟨t, rfl⟩ := rx
    cases y with
    | non => cases ry; exact PySem.EqNone.ne_int_none (fin_bl I q (by simp))
    | int j => obtain ⟨t', rfl⟩ := ry; exact ne_int (fin_bl I q (congrArg not dec_int))
    | str j => obtain ⟨t', rfl⟩ := ry; exact PySem.EqMixed.ne_int_str (fin_bl I q (by simp))
    | _ => exact absurd (show false = true from hs) Bool.false_ne_true
  | str i =>
    obtain ⟨t, rfl⟩ := rx
    cases y with
    | non => cases ry; exact PySem.EqNone.ne_str_none (fin_bl I q (by simp))
    | bl j => cases ry; exact PySem.EqMixed.ne_str_bool (fin_bl I q (by simp))
    | int j => obtain ⟨t', rfl⟩ := ry; exact PySem.EqMixed.ne_str_int (fin_bl I q (by simp))
    | str j => obtain ⟨t', rfl⟩ := ry; exact ne_str (fin_bl I q (congrArg not dec_str))
    | _ => exact absurd (show false = true from hs) Bool.false_ne_true
  | byt i =>
    obtain ⟨t, rfl⟩ := rx
    cases y with
    | byt j => obtain ⟨t', rfl⟩ := ry; exact PySem.W.ne_bytes (fin_bl I q (congrArg not dec_byt))
    | _ => exact absurd (show false = true from hs) Bool.false_ne_true
  | _ => cases y <;> exact absurd (show false = true from hs) Bool.false_ne_true
theorem op_lt : OpR X (compareOp .Lt) (rI0 fun i j => .bl (decide (i < j))) := opB0 fun _ _ _ _ _ _ _ q => lt_int q
theorem op_le : OpR X (compareOp .LtE) (rI0 fun i j => .bl (decide (i ≤ j))) := opB0 fun _ _ _ _ _ _ _ q => le_int q
theorem op_gt : OpR X (compareOp .Gt) (rI0 fun i j => .bl (decide (j < i))) := opB0 fun _ _ _ _ _ _ _ q => gt_int q
theorem op_ge : OpR X (compareOp .GtE) (rI0 fun i j => .bl (decide (j ≤ i))) := opB0 fun _ _ _ _ _ _ _ q => ge_int q
theorem nomark (b : Expr) {op : CmpOp} (h : op ≠ .In := by decide) (h2 : op ≠ .NotIn := by decide) : behindInMarks op b = false := by
  have e1 : (op == CmpOp.In) = false := by cases op <;> first | rfl | exact absurd rfl h
  have e2 : (op == CmpOp.NotIn) = false := by cases op <;> first | rfl | exact absurd rfl h2
  cases b <;> simp [behindInMarks, e1, e2]
theorem pe_cmpR {op : CmpOp} {r : R2} (ho : OpR X (compareOp op) r) (ha : PE X a ta) (hb : PE X b tb) (hm : behindInMarks op b = false) : PE X (.Compare a [op] [b] pos) (tOp r ta tb) := by
  intro pins s σ H Q I h
  exact wpAny_Compare1 (binT ha hb I h fun v u s2 x y H2 I2 rx ry q => ho pins s2 σ H2 x y v u Q I2 rx ry q) hm
def tTest (t : TE) : TT := fun σ H Q => t σ H fun x H' => ∃ k, x = .bl k ∧ Q k H'
theorem pt_cmpR {op : CmpOp} {r : R2} (ho : OpR X (compareOp op) r) (ha : PE X a ta) (hb : PE X b tb) (hm : behindInMarks op b = false) : PT X (.Compare a [op] [b] pos) (tTest (tOp r ta tb)) := by
  intro pins s σ H Q I h
  refine wpAny_isTrue_Compare1 (thn (ha pins s σ H _ I h) fun v s1 ⟨x, H1, I1, r1, q1⟩ => thn (hb pins s1 σ H1 _ I1 q1) fun u s2 ⟨y, H2, I2, r2, q2⟩ =>
    thn (ho pins s2 σ H2 x y v u _ I2 r1 r2 q2) fun c s3 ⟨z, H3, I3, r3, k, e, q3⟩ => ?_) hm
  subst e
  cases r3
  exact wpAny_truthy_bool ⟨H3, I3, q3⟩
def tChain (r r' : R2) (ta tb tc : TE) : TE := fun σ H Q => ta σ H fun x H1 => tb σ H1 fun y H2 => r x y H2 fun z H3 => ∃ k, z = .bl k ∧
  (if k = true then tc σ H3 fun w' H4 => r' y w' H4 Q else Q (.bl false) H3)
theorem pe_chain {op op' : CmpOp} {r r' : R2} (ho : OpR X (compareOp op) r) (ho' : OpR X (compareOp op') r') (ha : PE X a ta) (hb : PE X b tb) (hc : PE X c tc)
    (hm : lastMarks [op, op'] [b, c] = false := by with_unfolding_all rfl) : PE X (.Compare a [op, op'] [b, c] pos) (tChain r r' ta tb tc) := by
  intro pins s σ H Q I h
  refine Compare_chain (thn (ha pins s σ H _ I h) fun v s1 ⟨x, H1, I1, r1, q1⟩ => chain_link (thn (hb pins s1 σ H1 _ I1 q1) fun u s2 ⟨y, H2, I2, r2, q2⟩ =>
    thn (ho pins s2 σ H2 x y v u _ I2 r1 r2 q2) fun d s3 ⟨z, H3, I3, r3, k, e, q3⟩ => ?_)) hm
  subst e
  cases r3
  refine wpAny_truthy_bool ?_
  cases k with
  | false => exact ite_ff ⟨.bl false, H3, I3, rfl, q3⟩
  | true => exact ite_tt (chain_last (thn (hc pins s3 σ H3 _ I3 q3) fun w' s4 ⟨z', H4, I4, r4, q4⟩ => ho' pins s4 σ H4 y z' u w' Q I4 r2 r4 q4))
theorem pt_chain {op op' : CmpOp} {r r' : R2} (ho : OpR X (compareOp op) r) (ho' : OpR X (compareOp op') r') (ha : PE X a ta) (hb : PE X b tb) (hc : PE X c tc)
    (hm : lastMarks [op, op'] [b, c] = false := by with_unfolding_all rfl) : PT X (.Compare a [op, op'] [b, c] pos) (tTest (tChain r r' ta tb tc)) := by
  intro pins s σ H Q I h
  refine isTrue_chain (thn (ha pins s σ H _ I h) fun v s1 ⟨x, H1, I1, r1, q1⟩ => test_link (thn (hb pins s1 σ H1 _ I1 q1) fun u s2 ⟨y, H2, I2, r2, q2⟩ =>
    thn (ho pins s2 σ H2 x y v u _ I2 r1 r2 q2) fun d s3 ⟨z, H3, I3, r3, k, e, q3⟩ => ?_)) hm
  subst e
  cases r3
  refine wpAny_truthy_bool ?_
  cases k with
  | false =>
    obtain ⟨k', e', q'⟩ := q3
    cases e'
    exact ite_ff ⟨H3, I3, q'⟩
  | true =>
    refine ite_tt (test_last (thn (hc pins s3 σ H3 _ I3 q3) fun w' s4 ⟨z', H4, I4, r4, q4⟩ => thn (ho' pins s4 σ H4 y z' u w' _ I4 r2 r4 q4) fun d' s5 ⟨z2, H5, I5, r5, k2, e2, q5⟩ => ?_))
    subst e2
    cases r5
    exact wpAny_truthy_bool ⟨H5, I5, q5⟩
theorem line63 : (sizeLine : Nat) < 2 ^ 63 := by rw [sizeLine_eq]; decide
theorem vals1 {x : V} {us : List Value} (r : Vals [x] us) : ∃ u, us = [u] ∧ RelV x u := by
  cases r with
  | cons r1 r2 => cases r2; exact ⟨_, rfl, r1⟩
theorem vals2 {x y : V} {us : List Value} (r : Vals [x, y] us) : ∃ u w', us = [u, w'] ∧ RelV x u ∧ RelV y w' := by
  cases r with
  | cons r1 r2 =>
    cases r2 with
    | cons r3 r4 => cases r4; exact ⟨_, _, rfl, r1, r3⟩
theorem call_abs : CallR X (.builtin "abs") (fun xs H Q => ∃ i, xs = [.int i] ∧ Q (.int (if i < 0 then -i else i)) H) := by
  intro pins s σ H xs us Q I r h
  obtain ⟨i, rfl, q⟩ := h
  obtain ⟨u, rfl, t, rfl⟩ := vals1 r
  exact call_abs_int fun u tk => ⟨.int (if i < 0 then -i else i), H, I.tok _, ⟨_, rfl⟩, q⟩
theorem call_min2 (hc : X.calm = true) : CallR X (.builtin "min") (fun xs H Q => ∃ i j, xs = [.int i, .int j] ∧ Q (.int (if j < i then j else i)) H) := by
  intro pins s σ H xs us Q I r h
  obtain ⟨i, j, rfl, q⟩ := h
  obtain ⟨u, w', rfl, ⟨t, rfl⟩, ⟨t', rfl⟩⟩ := vals2 r
  refine min_two_ints (I.ok.hd hc) fun h' tk k => ⟨_, H, I.kept k, ?_, q⟩
  by_cases hj : j < i
  · rw [if_pos hj, if_pos hj]; exact ⟨_, rfl⟩
  · rw [if_neg hj, if_neg hj]; exact ⟨_, rfl⟩
theorem call_str_int : CallR X (.type "str") (fun xs H Q => ∃ i, xs = [.int i] ∧ i.natAbs.log2 < 1920 ∧ Q (.str (toString i)) H) := by
  intro pins s σ H xs us Q I r h
  obtain ⟨i, rfl, hz, q⟩ := h
  obtain ⟨u, rfl, t, rfl⟩ := vals1 r
  exact PySem.P.str_of_int hz ⟨.str _, H, I.tok _, ⟨_, rfl⟩, q⟩
end
end L2
namespace L2
open PySem PySem.Spec PyProof.Rows
structure ObjM (h : Heap) (x dx C : Addr) (mA : Str → Option Value) : Prop where
  obj : h.get? x = some (PySem.W.instObj C dx)
  ns : h.Ns1 dx mA
  ne : dx ≠ x
theorem lookIn_ns {h : Heap} {dx : Addr} {mA : Str → Option Value} (n : h.Ns1 dx mA) : ∃ od, h.get? dx = some od ∧ ∀ name, PySem.W.lookIn name od = some (mA name) := by
  obtain ⟨o, es, ep, ho, hd, hk, _, hm⟩ := n
  refine ⟨o, ho, fun name => ?_⟩
  have e := hm name
  unfold nsFind findBy at e
  rw [← Array.find?_toList] at e
  unfold PySem.W.lookIn
  rw [hd]
  dsimp only
  split
  · rename_i y q
    rw [q] at e
    exact congrArg some e
  · rename_i q
    rw [q] at e
    have a : es.toList.any (·.refKey) = false := by
      rw [List.any_eq_false]
      intro y hy
      obtain ⟨z, t, hkey⟩ := hk y (Array.mem_toList_iff.mp hy)
      simp [DictEntry.refKey, hkey]
    have a' : ¬ es.toList.any (·.refKey) = true := by rw [a]; exact Bool.false_ne_true
    rw [if_neg a']
    exact congrArg some e
theorem ObjM.look {h : Heap} {x dx C : Addr} {mA : Str → Option Value} (I : ObjM h x dx C mA) : ∃ od, PySem.W.InstAt h x (PySem.W.instObj C dx) C (some od) ∧ ∀ name, PySem.W.lookIn name od = some (mA name) :=
  let ⟨od, ho, hl⟩ := lookIn_ns I.ns
  ⟨od, ⟨I.obj, rfl, rfl, ho⟩, hl⟩
section
variable {prog : Program} {w : World} {A : Around} {E : Value → Shared → Prop} {s : Shared} {K : PySem.W.Frag} {x dx C f : Addr} {mA : Str → Option Value} {name : Str} {v : Value}
end
section
variable {P : Program} {w : World} {H H' : Hp} {h h' : Heap} {a C dx : Addr} {fs fs' : List (Str × V)}
theorem ins_get (hok : HOk P w H h) (e : H a = some (.ins C dx fs)) : ∃ mA, ObjM h a dx C mA ∧ (∀ f, RelO (fs.lookup f) (mA f)) ∧ PySem.Within mA (fs.map (·.1)) ∧ fs.length ≤ 1000 ∧ H dx = some (.own a) := by
  obtain ⟨d, z, ne, ob, mA, n, r, q⟩ := (show ObjOk P w H h a (.ins C dx fs) from hok a _ e)
  exact ⟨mA, ⟨ob, n, ne⟩, r, q, z, d⟩
end
structure Cls (K : PySem.W.Frag) (C : Addr) : Prop where
  pg : PySem.W.plainGet K C Str.empty = true
  hd : PySem.W.hasDictIn K C = true
  po : PySem.W.plainOver K C = true
  sa : PySem.W.findIn K (.ref C) "__setattr__" = some (some (.builtin "object.__setattr__"))
theorem Cls.get {K : PySem.W.Frag} {C : Addr} (c : Cls K C) (f : Str) : PySem.W.plainGet K C f = true := c.pg
section
variable {X : Cx} {pins : List (Addr × Obj)} {σ : St} {H : Hp} {s : Shared} {a C dx : Addr} {fs : List (Str × V)} {f : Str} {v : V} {A : Around} {E : Value → Shared → Prop}
end
section
variable {X : Cx} {o e value : Expr} {f : Str} {pos pos' tpos : Pos} {ta tv : TE}
end
section
variable {X : Cx} {pins : List (Addr × Obj)} {σ : St} {H : Hp} {s : Shared} {A : Around} {E : Value → Shared → Prop} {Q : Value → Shared → Prop} {c : Value} {b : Bool}
inductive TyOf (K : PySem.W.Frag) (H : Hp) : V → Value → Prop where
  | non : TyOf K H .non (.type "NoneType")
  | bl (x : Bool) : TyOf K H (.bl x) (.type "bool")
  | int (i : Int) : TyOf K H (.int i) (.type "int")
  | str (x : Str) : TyOf K H (.str x) (.type "str")
  | flt (x : UInt64) : TyOf K H (.flt x) (.type "float")
  | lst {a : Addr} {xs : List V} (e : H a = some (.lst xs)) : TyOf K H (.ref a) (.type "list")
  | frz {a : Addr} {o : Obj} {xs : List V} (e : H a = some (.frz o (.lst xs))) : TyOf K H (.ref a) (.type "list")
  | tup {a : Addr} {xs : List V} (e : H a = some (.tup xs)) : TyOf K H (.ref a) (.type "tuple")
  | dK {a : Addr} {kvs : List (Key × V)} (e : H a = some (.dK kvs)) : TyOf K H (.ref a) (.type "dict")
  | dT {a : Addr} {kvs : List (List Key × V)} (e : H a = some (.dT kvs)) : TyOf K H (.ref a) (.type "dict")
  | ins {a C dx : Addr} {fs : List (Str × V)} (e : H a = some (.ins C dx fs)) (cl : Cls K C) (ha : PySem.W.findIn K (.ref C) "__class__" = some (some (.builtin "object.__class__")))
      (hn : PySem.W.specialIn K (.builtin "object.__class__") "__get__" = some (some (.builtin "getset_descriptor.__get__"))) (htk : PySem.W.takesIn K (.builtin "object.__class__") = some true)
      (hm : PySem.W.mroIn K C (.type "object") = some true) : TyOf K H (.ref a) (.ref C)
theorem isinst_ok {x : V} {u t : Value} (I : Inv X pins σ H s) (rx : RelV x u) (ty : TyOf X.K H x t) (e : PySem.W.kitOne X.K t c = some b) (h : ∀ tk, Q (.bool b) { s with toks := tk }) :
    wpAny (model X.prog X.w) A (call (.builtin "isinstance") [u, c]) Q E s := by
  cases ty with
  | non => cases (show u = Value.none from rx); exact PySem.W.kia_one PySem.W.kitx_none I.kIn True.intro e (fun z => nomatch z) h
  | bl y => cases (show u = Value.bool y from rx); exact PySem.W.kia_one PySem.W.kitx_bool I.kIn True.intro e (fun z => nomatch z) h
  | int i => obtain ⟨t, q⟩ := (show ∃ t, u = Value.int i t from rx); cases q; exact PySem.W.kia_one PySem.W.kitx_int I.kIn True.intro e (fun z => nomatch z) h
  | str y => obtain ⟨t, q⟩ := (show ∃ t, u = Value.str y t from rx); cases q; exact PySem.W.kia_one PySem.W.kitx_str I.kIn True.intro e (fun z => nomatch z) h
  | flt y => obtain ⟨t, q⟩ := (show ∃ t, u = Value.float y t from rx); cases q; exact PySem.W.kia_one PySem.W.kitx_float I.kIn True.intro e (fun z => nomatch z) h
  | @lst a xs ea =>
    cases (show u = Value.ref a from rx)
    obtain ⟨_, _, n, _, h1⟩ := (show ObjOk X.prog X.w H s.heap a (.lst xs) from I.hok a _ ea)
    exact PySem.W.kia_one PySem.W.kitx_list I.kIn ⟨_, h1, rfl⟩ e (fun z => nomatch z) h
  | @frz a ob xs ea =>
    cases (show u = Value.ref a from rx)
    obtain ⟨_, _, _, n, _, h1⟩ := (show ObjOk X.prog X.w H s.heap a (.frz ob (.lst xs)) from I.hok a _ ea)
    exact PySem.W.kia_one PySem.W.kitx_list I.kIn ⟨_, h1, rfl⟩ e (fun z => nomatch z) h
  | @tup a xs ea =>
    cases (show u = Value.ref a from rx)
    obtain ⟨_, _, _, p⟩ := (show ObjOk X.prog X.w H s.heap a (.tup xs) from I.hok a _ ea)
    obtain ⟨o, h1, h2, _⟩ := p
    exact PySem.W.kia_one PySem.W.kitx_tuple I.kIn ⟨o, h1, h2⟩ e (fun z => nomatch z) h
  | @dK a kvs ea =>
    cases (show u = Value.ref a from rx)
    obtain ⟨_, _, vs, _, p⟩ := (show ObjOk X.prog X.w H s.heap a (.dK kvs) from I.hok a _ ea)
    obtain ⟨o, es, ep, h1, h2, _⟩ := p
    exact PySem.W.kia_one PySem.W.kitx_dict I.kIn ⟨o, h1, h2.1⟩ e (fun z => nomatch z) h
  | @dT a kvs ea =>
    cases (show u = Value.ref a from rx)
    obtain ⟨_, _, xs, _, o, es, ep, h1, h2, _⟩ := (show ObjOk X.prog X.w H s.heap a (.dT kvs) from I.hok a _ ea)
    exact PySem.W.kia_one PySem.W.kitx_dict I.kIn ⟨o, h1, h2.1⟩ e (fun z => nomatch z) h
  | @ins a C dx fs ea cl ha hn htk hm =>
    cases (show u = Value.ref a from rx)
    obtain ⟨mA, O, _⟩ := ins_get I.hok ea
    obtain ⟨od, J, _⟩ := O.look
    exact PySem.W.kia_one (PySem.W.kitx_own (cl.get _) cl.hd ha hn htk hm) I.kIn J e (fun z => nomatch z) h
end
end L2
namespace L2
open PySem PySem.Spec PyProof.Rows
structure Room (k : Nat) (A : Around) : Prop where
  hd : A.handled = none
  dp : A.depth + 3 * k + 5 < recursionLimit
  un : A.units + 16 * k + 200 < cLine
  gd : A.guards = some []
theorem Room.mono {j k : Nat} {A : Around} (r : Room k A) (h : j ≤ k) : Room j A := ⟨r.hd, by have := r.dp; lia, by have := r.un; lia, r.gd⟩
theorem Room.deeper {k : Nat} {A : Around} (r : Room (k + 1) A) (env : Env) : Room k (A.deeper env) :=
  ⟨r.hd, by have := r.dp; show A.depth + 1 + 3 * k + 5 < _; lia, by have := r.un; show A.units + 3 + 16 * k + 200 < _; lia, r.gd⟩
theorem Room.depth {k : Nat} {A : Around} (r : Room k A) : A.depth < recursionLimit := by have := r.dp; lia
theorem Room.units {k : Nat} {A : Around} (r : Room k A) : A.units + 64 < cLine := by have := r.un; lia
def tNil : TA := fun _ H Q => Q [] H
def tCons (ta : TE) (tr : TA) : TA := fun σ H Q => ta σ H fun x H1 => tr σ H1 fun xs H2 => Q (x :: xs) H2
section
variable {X : Cx} {e : Expr} {es : List Expr} {te : TE} {t : TA} {pos : Pos}
theorem pa_nil : PA X [] tNil := fun _ _ _ _ H Q I h => Calls.spliced_nil ⟨[], H, I, .nil, h⟩
theorem pa_cons (ha : PE X e te) (hr : PA X es t) (hs : starEach (e :: es) X.env = (false, eval e X.env) :: starEach es X.env := by rfl) : PA X (e :: es) (tCons te t) := by
  intro pos pins s σ H Q I h
  rw [hs]
  show wpAny _ _ (spliced ((false, eval e X.env) :: backTo pos (starEach es X.env))) _ _ s
  refine Calls.spliced_cons (thn (ha pins s σ H _ I h) fun u s1 ⟨x, H1, I1, r1, q1⟩ => ?_)
  exact thn (hr pos pins s1 σ H1 _ I1 q1) fun us s2 ⟨xs, H2, I2, r2, q2⟩ => ⟨x :: xs, H2, I2, .cons r1 r2, q2⟩
def tTup (t : TA) : TE := fun σ H Q => t σ H fun xs H1 => xs.length ≤ sizeLine ∧ ∀ p, H1 p = none → Q (.ref p) (upd H1 p (.tup xs))
def tLst (t : TA) : TE := fun σ H Q => t σ H fun xs H1 => xs.length ≤ sizeLine ∧ ∀ p, H1 p = none → Q (.ref p) (upd H1 p (.lst xs))
theorem pe_tup {x1} (h : PA X es t) : PE X (.Tuple es x1 pos) (tTup t) := by
  intro pins s σ H Q I hq
  refine wpAny_Tuple_spliced (thn (h pos pins s σ H _ I hq) fun us s1 ⟨xs, H1, I1, r, z, q⟩ => ⟨by rw [← r.length]; exact z, ?_⟩)
  have hf : H1 s1.heap.objs.size = none := I1.hok.fresh (Nat.le_refl _)
  refine ⟨.ref s1.heap.objs.size, upd H1 s1.heap.objs.size (.tup xs), I1.laid (t' := s1.toks) (fun b u e => Heap.get?_push_of_some _ e) (Nat.le_refl _) ?_, rfl, q _ hf⟩
  exact ⟨z, us, r, ⟨_, Heap.get?_push_size _ rfl, rfl, _, rfl⟩⟩
theorem pe_lst (h : PA X es t) : PE X (.List es pos) (tLst t) := by
  intro pins s σ H Q I hq
  refine wpAny_List_spliced (thn (h pos pins s σ H _ I hq) fun us s1 ⟨xs, H1, I1, r, z, q⟩ => ⟨by rw [← r.length]; exact z, ?_⟩)
  have hf : H1 s1.heap.objs.size = none := I1.hok.fresh (Nat.le_refl _)
  refine ⟨.ref s1.heap.objs.size, upd H1 s1.heap.objs.size (.lst xs), I1.laid (t' := s1.toks) (fun b u e => Heap.get?_push_of_some _ e) (Nat.le_refl _) ?_, rfl, q _ hf⟩
  exact ⟨z, us, 0, r, Heap.get?_push_size _ rfl⟩
end
abbrev Sp := List V → Hp → VK → XK → Prop
abbrev CXT := List Env → Hp → Shared → XK → Value → Shared → Prop
structure Env0 (P : Program) (w : World) (K : PySem.W.Frag) (mg : Str → Option Value) (base : Heap) (A : Around) (outer : List Env) (s : Shared) (H : Hp) : Prop where
  frames : A.frames = some outer
  mod : Mod K mg base
  bs : ∀ b o, base.get? b = some o → s.heap.get? b = some o ∧ H b = none
  bsz : base.objs.size ≤ s.heap.objs.size
  funs : s.heap.FunFrames base outer
  frf : ∀ b ∈ frs outer, H b = none
  hok : HOk P w H s.heap
  bare : AllBare s.gens
def CE (outer : List Env) (P : Program) (w : World) (H : Hp) (s : Shared) (Q : VK) (u : Value) (s' : Shared) : Prop :=
  ∃ v H', s'.os = s.os ∧ AllBare s'.gens ∧ Un (frs outer) [] H H' s.heap s'.heap ∧ HOk P w H' s'.heap ∧ RelV v u ∧ Q v H'
def CR (CX : CXT) (outer : List Env) (P : Program) (w : World) (H : Hp) (s : Shared) (Q : VK) (E : XK) (r : Result) (s' : Shared) : Prop :=
  match r with
  | .ok (.ret u) => CE outer P w H s Q u s'
  | .ok _ => False
  | .error e => CX outer H s E e s'
structure FnOk (P : Program) (w : World) (K : PySem.W.Frag) (mg : Str → Option Value) (base : Heap) (CX : CXT) (k : Nat) (f : Addr) (fd : FuncData) (ps : List Str) (sp : Sp) : Prop where
  len : ∀ vs H Q E, sp vs H Q E → vs.length = ps.length
  run : ∀ (A : Around) (outer : List Env) (s : Shared) (H : Hp) (args : Args) (us : List Value) (vs : List V) (Q : VK) (E : XK), Room k A → Env0 P w K mg base A outer s H → BindsTo s fd args (ps.zip us) → Vals vs us → sp vs H Q E →
    codeAny (model P w) A (.call (.ref f) args) (CR CX outer P w H s Q E) s
theorem FnOk.imp {P : Program} {w : World} {K : PySem.W.Frag} {mg : Str → Option Value} {base : Heap} {CX : CXT} {k : Nat} {f : Addr} {fd : FuncData} {ps : List Str} {sp sp' : Sp} (F : FnOk P w K mg base CX k f fd ps sp)
    (h : ∀ vs H Q E, sp' vs H Q E → sp vs H Q E) : FnOk P w K mg base CX k f fd ps sp' :=
  ⟨fun vs H Q E q => F.len vs H Q E (h _ _ _ _ q), fun A outer s H args us vs Q E hr he hb hv hs => F.run A outer s H args us vs Q E hr he hb hv (h _ _ _ _ hs)⟩
section
variable {X : Cx} {pins : List (Addr × Obj)} {σ : St} {H : Hp} {s s' : Shared}
theorem Inv.env0 (I : Inv X pins σ H s) : Env0 X.prog X.w X.K X.mg X.base X.A X.stack s H :=
  ⟨I.ok.frames, I.ok.mod, I.bs, Nat.le_trans I.ok.bsz I.sz, I.stack, I.stkFree, I.hok, I.bare⟩
theorem Inv.after {Q : VK} {u : Value} (I : Inv X pins σ H s) (h : CE X.stack X.prog X.w H s Q u s') : EP X pins σ Q u s' := by
  obtain ⟨v, H', os, bare, un, hok, r, q⟩ := h
  obtain ⟨hh, g, d, t, os'⟩ := s'
  obtain rfl : os' = s.os := os
  exact ⟨v, H', I.call (h' := hh) (g' := g) (d' := d) (t' := t) (ch := []) un hok bare (fun b z => absurd z (by simp)), r, q⟩
end
def tCall (sp : Sp) (dvs : List V) (E : XK) (t : TA) : TE := fun σ H Q => t σ H fun vs H1 => sp (vs ++ dvs) H1 Q E
def Binds (K : PySem.W.Frag) (fd : FuncData) (ps : List Str) (ds : List Value) : Prop :=
  ∀ (s : Shared) (us : List Value), K.In s.heap → (us ++ ds).length = ps.length → BindsTo s fd ⟨us, []⟩ (ps.zip (us ++ ds))
theorem Binds.all {K : PySem.W.Frag} {fd : FuncData} {ps : List Str} (h : ∀ us : List Value, us.length = ps.length → bindArgs fd ⟨us, []⟩ = pure (ps.zip us)) : Binds K fd ps [] := fun s us _ hl => by
  rw [List.append_nil] at hl ⊢
  exact .of_eq (h us hl)
def Passes (CX : CXT) (X : Cx) (E : XK) : Prop := ∀ (pins : List (Addr × Obj)) (σ : St) (H : Hp) (s : Shared) (e : Value) (s' : Shared), Inv X pins σ H s → CX X.stack H s E e s' → X.xe e s'
section
variable {X : Cx} {CX : CXT} {k : Nat} {f C : Addr} {fd : FuncData} {ps : List Str} {sp : Sp} {dvs : List V} {ds : List Value} {E : XK} {x m : Str} {p pos apos : Pos} {e o : Expr} {es : List Expr} {ta : TE} {t : TA}
theorem run_fn {pins : List (Addr × Obj)} {σ : St} {H : Hp} {s : Shared} {Q : VK} {us : List Value} {vs : List V} (F : FnOk X.prog X.w X.K X.mg X.base CX k f fd ps sp) (hr : Room k X.A) (hb : Binds X.K fd ps ds) (hd : Vals dvs ds) (hx : Passes CX X E)
    (I : Inv X pins σ H s) (r : Vals vs us) (h : sp (vs ++ dvs) H Q E) : wpAny (model X.prog X.w) X.A (call (.ref f) us) (EP X pins σ Q) X.xe s := by
  have r2 : Vals (vs ++ dvs) (us ++ ds) := r.append hd
  have hl : (us ++ ds).length = ps.length := by rw [← r2.length]; exact F.len _ _ _ _ h
  refine wpAny_call (codeAny_mono (F.run X.A X.stack s H ⟨us, []⟩ (us ++ ds) (vs ++ dvs) Q E hr I.env0 (hb s us I.kIn hl) r2 h) fun r s' hq => ?_)
  cases r with
  | error e => exact hx pins σ H s e s' I hq
  | ok fl =>
    cases fl with
    | ret u => exact I.after hq
    | next => exact False.elim hq
    | brk => exact False.elim hq
    | cont => exact False.elim hq
theorem pe_call (F : FnOk X.prog X.w X.K X.mg X.base CX k f fd ps sp) (hr : Room k X.A) (hg : Gl X x) (hm : X.mg x = some (.ref f)) (hk : PySem.W.keepIn X.K (.ref f) = true) (hb : Binds X.K fd ps ds) (hd : Vals dvs ds) (hx : Passes CX X E)
    (ha : PA X (e :: es) t) (hdb : (x == ("__debug__" : Str)) = false := by decide) (he : starEach (e :: es) X.env = (false, eval e X.env) :: starEach es X.env := by rfl) (hpl : (backTo pos (starEach es X.env)).any (·.1) = false := by rfl) :
    PE X (.Call (.Name x p) (e :: es) [] pos) (tCall sp dvs E t) := by
  intro pins s σ H Q I h
  refine wpAny_Call_Name_kw (ld_glob I hg hm ?_ hdb)
  refine PySem.W.callWith_K (h₀ := X.base) I.ok.mod.kin hk (thn (ha pos pins s σ H _ I h) fun us s1 ⟨vs, H1, I1, r, q⟩ => ⟨I1.kIn, ?_⟩) he hpl
  exact run_fn F hr hb hd hx I1 r q
end
section
variable {X : Cx} {CX : CXT} {k : Nat} {f C : Addr} {fd : FuncData} {ps ks : List Str} {sp : Sp} {E : XK} {x m : Str} {p pos apos kpos : Pos} {e o : Expr} {es : List Expr} {kws : List Keyword} {te ta : TE} {t tk : TA} {nm : Option Str}
variable {g : List Value → List Value → List Value} {gV : List V → List V → List V}
end
structure FnScope (N P : List Str) (sc : Scope) : Prop where
  kind : sc.kind = .function
  co : sc.isCoroutine = false
  gen : sc.isGenerator = false
  nd : N.Nodup
  pre : N.take P.length = P
  par : ∀ x ∈ P, sc.names.lookup x = some .local ∨ sc.names.lookup x = some .cell
  nofree : ∀ y ∈ sc.names, y.2 ≠ .free
theorem bindL_out {kindOf : Str → Option NameKind} {x : Str} : ∀ {binds : List (Str × Value)} {m : Str → Option Value}, (∀ v, (x, v) ∉ binds) → bindL kindOf binds m x = m x
  | [], _, _ => rfl
  | (n, v) :: r, m, h => by
    unfold bindL
    rw [bindL_out fun w hw => h w (List.mem_cons_of_mem _ hw)]
    split
    · have : x ≠ n := by rintro rfl; exact h v List.mem_cons_self
      simp [this]
    · rfl
theorem bindC_out {kindOf : Str → Option NameKind} {x : Str} : ∀ {binds : List (Str × Value)} {m : Str → Option Value}, (∀ v, (x, v) ∉ binds) → bindC kindOf binds m x = m x
  | [], _, _ => rfl
  | (n, v) :: r, m, h => by
    unfold bindC
    rw [bindC_out fun w hw => h w (List.mem_cons_of_mem _ hw)]
    split
    · rfl
    · have : x ≠ n := by rintro rfl; exact h v List.mem_cons_self
      simp [this]
theorem bindL_get {kindOf : Str → Option NameKind} {x : Str} {v : Value} : ∀ {P : List Str} {vs : List Value} {i : Nat} {m : Str → Option Value}, P.Nodup → P[i]? = some x → vs[i]? = some v → kindOf x = some .local →
    bindL kindOf (P.zip vs) m x = some v
  | [], _, _, _, _, h, _, _ => by simp at h
  | _ :: _, [], _, _, _, _, h, _ => by simp at h
  | p :: P, w :: vs, 0, m, nd, h1, h2, hk => by
    simp at h1 h2; subst h1; subst h2
    show bindL kindOf ((p, w) :: P.zip vs) m p = _
    unfold bindL
    rw [bindL_out fun v hv => (List.nodup_cons.mp nd).1 (List.of_mem_zip hv).1, if_pos hk]
    simp
  | p :: P, w :: vs, i + 1, m, nd, h1, h2, hk => by
    show bindL kindOf ((p, w) :: P.zip vs) m x = _
    unfold bindL
    exact bindL_get (i := i) (List.nodup_cons.mp nd).2 (by simpa using h1) (by simpa using h2) hk
theorem bindC_get {kindOf : Str → Option NameKind} {x : Str} {v : Value} : ∀ {P : List Str} {vs : List Value} {i : Nat} {m : Str → Option Value}, P.Nodup → P[i]? = some x → vs[i]? = some v → kindOf x ≠ some .local →
    bindC kindOf (P.zip vs) m x = some v
  | [], _, _, _, _, h, _, _ => by simp at h
  | _ :: _, [], _, _, _, _, h, _ => by simp at h
  | p :: P, w :: vs, 0, m, nd, h1, h2, hk => by
    simp at h1 h2; subst h1; subst h2
    show bindC kindOf ((p, w) :: P.zip vs) m p = _
    unfold bindC
    rw [bindC_out fun v hv => (List.nodup_cons.mp nd).1 (List.of_mem_zip hv).1, if_neg hk]
    simp
  | p :: P, w :: vs, i + 1, m, nd, h1, h2, hk => by
    show bindC kindOf ((p, w) :: P.zip vs) m x = _
    unfold bindC
    exact bindC_get (i := i) (List.nodup_cons.mp nd).2 (by simpa using h1) (by simpa using h2) hk
def start (N : List Str) (vs : List V) : St := vs.map some ++ List.replicate (N.length - vs.length) none
def cxOf (CX : CXT) (P : Program) (w : World) (K : PySem.W.Frag) (mg : Str → Option Value) (base : Heap) (N : List Str) (qual : Str) (scope : Scope) (f : Addr) (cd : Value) (A : Around) (outer : List Env) (s : Shared) (H : Hp) (E : XK) : Cx where
  prog := P
  w := w
  K := K
  mg := mg
  base := base
  A := A.deeper (envOfC qual scope s.heap.objs.size f cd)
  N := N
  s₀ := s
  H₀ := H
  env := envOfC qual scope s.heap.objs.size f cd
  outer := outer
  stack := envOfC qual scope s.heap.objs.size f cd :: outer
  ex := []
  calm := true
  fn := fun _ => true
  pn := []
  xe := fun e s' => wpAny (model P w) (A.deeper (envOfC qual scope s.heap.objs.size f cd)) (leaving (envOfC qual scope s.heap.objs.size f cd) e) (fun _ s'' => CX outer H s E e s'') (fun e' s'' => CX outer H s E e' s'') s'
theorem cell_has {sc : Scope} {n : Nat} {x : Str} (h : sc.names.lookup x = some .cell) : ∃ c, (cellsFrom n sc.names []).lookup x = some c := by
  have q := PySem.W.cellsFrom_some sc.names n [] (.inl h)
  exact Option.isSome_iff_exists.mp q
theorem inv_start {CX : CXT} {P : Program} {w : World} {K : PySem.W.Frag} {mg : Str → Option Value} {base : Heap} {N ps : List Str} {qual : Str} {scope : Scope} {f : Addr} {cd : Value} {A : Around} {outer : List Env} {s s1 : Shared} {H : Hp} {E : XK} {us : List Value} {vs : List V}
    (S : FnScope N ps scope) (hd : A.handled = none) (e0 : Env0 P w K mg base A outer s H) (hl : vs.length = ps.length) (r : Vals vs us)
    (x : InCallC s s.heap.objs.size (bindL (envOfC qual scope s.heap.objs.size f cd).kindOf (ps.zip us) fun _ => none) (cellsFrom (s.heap.objs.size + 1) scope.names []) (bindC (envOfC qual scope s.heap.objs.size f cd).kindOf (ps.zip us) fun _ => none) s1) :
    Inv (cxOf CX P w K mg base N qual scope f cd A outer s H E) [] (start N vs) H s1 := by
  have hpl : ps.length ≤ N.length := by have := congrArg List.length S.pre; rw [List.length_take] at this; lia
  obtain ⟨h1, tk, rfl, hk⟩ := x.done
  have noA : ∀ b : Addr, b ∉ (cxOf CX P w K mg base N qual scope f cd A outer s H E).ex := fun b z => absurd (show b ∈ ([] : List Addr) from z) (by simp)
  refine ⟨⟨e0.mod, S.kind, rfl, rfl, Nat.le_refl _, fun y z c h1 h2 => ?_, fun y hy => ?_, fun y c _ h => ?_, fun _ => hd, Around.frames_deeper e0.frames, .inr ⟨rfl, rfl⟩, fun b z => absurd z (noA b), e0.bs, e0.bsz, fun b _ _ => noA b, fun b z => absurd z (noA b), e0.funs, e0.frf⟩,
    rfl, e0.bare, Un.kept hk, ⟨_, x.toInCall.ns, fun i y v h1 h2 h3 => ?_⟩, fun y c h => ⟨_, x.cell y c h⟩, e0.hok.fresh (Nat.le_refl _), fun y c h => ?_, fun p hp => absurd (show p ∈ ([] : List (Addr × Obj)) from hp) (by simp), e0.hok.kept hk, ?_⟩
  · exact name_of_addr x.apart (PySem.mem_of_lookup h1) (PySem.mem_of_lookup h2)
  · have hy : scope.names.lookup y = some .cell ∨ scope.names.lookup y = some .free := hy
    rcases hy with hy | hy
    · exact cell_has hy
    · exact absurd rfl (S.nofree _ (PySem.mem_of_lookup hy))
  · exact Nat.le_of_lt (x.above y c (PySem.mem_of_lookup h))
  · have hi : i < vs.length := by
      unfold start at h2
      by_cases hi : i < vs.length
      · exact hi
      · rw [List.getElem?_append_right (by simpa using hi)] at h2
        rw [List.getElem?_replicate] at h2
        split at h2 <;> cases h2
    have ha : vs[i]? = some v := by
      unfold start at h2
      rw [List.getElem?_append_left (by simpa using hi), List.getElem?_map] at h2
      cases e : vs[i]? with
      | none => rw [e] at h2; cases h2
      | some a => rw [e] at h2; cases h2; rfl
    obtain ⟨u, hu, rv⟩ := r.get ha
    have hp : ps[i]? = some y := by
      rw [← S.pre, List.getElem?_take_of_lt (by lia)]; exact h1
    have ndP : ps.Nodup := by rw [← S.pre]; exact S.nd.sublist (List.take_sublist _ _)
    refine ⟨u, rv, ?_⟩
    rcases S.par y (List.mem_of_getElem? hp) with k | k
    · exact .inl ⟨k, bindL_get ndP hp hu k⟩
    · obtain ⟨c, e⟩ := cell_has (n := s.heap.objs.size + 1) k
      refine .inr ⟨.inl k, c, e, ?_⟩
      have q := x.cell y c e
      rw [bindC_get ndP hp hu (by show scope.names.lookup y ≠ _; rw [k]; decide)] at q
      exact q
  · exact e0.hok.fresh (Nat.le_of_lt (x.above y c (PySem.mem_of_lookup h)))
  · unfold start
    show _ = N.length
    rw [List.length_append, List.length_map, List.length_replicate]
    lia
theorem fn_of {CX : CXT} {P : Program} {w : World} {K : PySem.W.Frag} {mg : Str → Option Value} {base : Heap} {k : Nat} {f : Addr} {name qual : Str} {params : Arguments} {body : List Stmt} {scope : Scope} {dV kV doc pm cdv ct oc : Value} {an od : Option Addr}
    {osl : Array (Option Value)} {N ps : List Str} {sp : Sp} (lk : K.lookup f = some ⟨oc, od, .func (PySem.W.fnOf name qual params body scope dV kV doc pm an cdv ct), osl⟩) (hcd : PySem.W.codeIn K cdv qual = true) (S : FnScope N ps scope)
    (len : ∀ vs H Q E, sp vs H Q E → vs.length = ps.length)
    (hbody : ∀ (A : Around) (outer : List Env) (s : Shared) (H : Hp) (vs : List V) (Q : VK) (E : XK), Room k (A.deeper (envOfC qual scope s.heap.objs.size f cdv)) → sp vs H Q E →
      ∃ t, PSs (cxOf CX P w K mg base N qual scope f cdv A outer s H E) body t ∧ t { nx := fun _ H' => Q .non H', rt := Q } (start N vs) H) :
    FnOk P w K mg base CX (k + 1) f (PySem.W.fnOf name qual params body scope dV kV doc pm an cdv ct) ps sp := by
  refine ⟨len, fun A outer s H args us vs Q E hr e0 hb r hsp => ?_⟩
  have hl := len _ _ _ _ hsp
  have KX : K.In s.heap := e0.mod.kin.keeps fun b o e => (e0.bs b o e).1
  have lim : s.heap.NoLimit := e0.mod.nolimit.keeps fun b o e => (e0.bs b o e).1
  have hkind : ∀ y ∈ ps.zip us, scope.names.lookup y.1 = some .local ∨ (scope.names.lookup y.1 = some .cell ∧ ((cellsFrom (s.heap.objs.size + 1) scope.names []).lookup y.1).isSome = true) := fun ⟨n, v⟩ hy => by
    rcases S.par n (List.of_mem_zip hy).1 with q | q
    · exact .inl q
    · exact .inr ⟨q, PySem.W.cellsFrom_some _ _ _ (.inl q)⟩
  refine codeAny_call_function hr.depth (KX _ _ lk) rfl S.co S.gen rfl (PySem.W.codeRec_of KX hcd) (hb _ _ _ _ ?_)
  refine wpAny_newFunctionEnv_cells S.kind hkind fun env he s1 x => ?_
  subst he
  refine ⟨lim.keeps x.toInCall.keep, codeAny_func ?_⟩
  obtain ⟨t, ht, hq⟩ := hbody A outer s H vs Q E (hr.deeper _) hsp
  have I : Inv (cxOf CX P w K mg base N qual scope f cdv A outer s H E) [] (start N vs) H s1 := inv_start S hr.hd e0 hl r x
  refine wpAny_mono (ht [] s1 (start N vs) H _ I hq) (fun fl s' hs => ?_) fun e s' hs => hs
  have fin : ∀ {σ' : St} {H' : Hp} {v : V} {u : Value}, Inv (cxOf CX P w K mg base N qual scope f cdv A outer s H E) [] σ' H' s' → RelV v u → Q v H' → CE outer P w H s Q u s' :=
    fun {σ' H' v u} J rv q => ⟨v, H', J.os, J.bare, J.base, J.hok, rv, q⟩
  cases fl with
  | ret u =>
    obtain ⟨v, σ', H', J, rv, q⟩ := hs
    exact fin J rv q
  | next =>
    obtain ⟨σ', H', J, q⟩ := hs
    exact fin (v := V.non) (u := Value.none) J rfl q
  | brk =>
    obtain ⟨_, _, _, q⟩ := hs
    exact False.elim q
  | cont =>
    obtain ⟨_, _, _, q⟩ := hs
    exact False.elim q
end L2
namespace L2
open PySem PySem.Spec PyProof.Rows
section
variable {X : Cx} {x : Str} {p pos : Pos} {e : Expr} {es : List Expr} {t : TA} {id T : String} {r : List V → Hp → VK → Prop}
def tCB (r : List V → Hp → VK → Prop) (t : TA) : TE := fun σ H Q => t σ H fun vs H1 => r vs H1 Q
theorem pe_callB (hc : CallR X (.builtin id) r) (hg : Gl X x) (hm : X.mg x = none) (hv : bootBuiltins x = some (.builtin id)) (ha : PA X (e :: es) t) (hn : x ≠ "__name__" := by decide) (hdb : (x == ("__debug__" : Str)) = false := by decide)
    (he : starEach (e :: es) X.env = (false, eval e X.env) :: starEach es X.env := by rfl) (hpl : (backTo pos (starEach es X.env)).any (·.1) = false := by rfl) : PE X (.Call (.Name x p) (e :: es) [] pos) (tCB r t) := by
  intro pins s σ H Q I h
  refine wpAny_Call_Name_kw (ld_blt I hg hm hv ?_ hn hdb)
  exact PyProof.Rows.callWith_builtin1 (thn (ha pos pins s σ H _ I h) fun us s1 ⟨vs, H1, I1, r1, q1⟩ => hc pins s1 σ H1 vs us Q I1 r1 q1) he hpl
theorem pe_callTy (hc : CallR X (.type T) r) (hg : Gl X x) (hm : X.mg x = none) (hv : bootBuiltins x = some (.type T)) (ha : PA X (e :: es) t) (hn : x ≠ "__name__" := by decide) (hdb : (x == ("__debug__" : Str)) = false := by decide)
    (he : starEach (e :: es) X.env = (false, eval e X.env) :: starEach es X.env := by rfl) (hpl : (backTo pos (starEach es X.env)).any (·.1) = false := by rfl) : PE X (.Call (.Name x p) (e :: es) [] pos) (tCB r t) := by
  intro pins s σ H Q I h
  refine wpAny_Call_Name_kw (ld_blt I hg hm hv ?_ hn hdb)
  exact PyProof.Rows.callWith_type1 (thn (ha pos pins s σ H _ I h) fun us s1 ⟨vs, H1, I1, r1, q1⟩ => hc pins s1 σ H1 vs us Q I1 r1 q1) he hpl
end
end L2
namespace HT
open PySem PyProof.Rows
section
open PySem.SeqAt
open PySem.AutoSeq1 (wpAny_loadPart')
open PySem.MeetsSeq PySem.MeetsSeq2 PySem.MeetsSeq3
end
section
variable {prog : Program} {w : World} {A : Around} {E : Value → Shared → Prop} {s : Shared}
theorem cat_tup {t b : Addr} {vs ws : List Value} {Q : Value → Shared → Prop} (ht : IsTup s.heap t vs.toArray) (hb : IsTup s.heap b ws.toArray) (hv : vs ≠ [])
    (h1 : ws = [] → Q (.ref t) s) (h2 : ws ≠ [] → Q (.ref s.heap.objs.size) { s with heap := s.heap.push { cls := .type "tuple", data := .seq (vs ++ ws).toArray } })
    (hsz : vs.length + ws.length ≤ sizeLine) : wpAny (model prog w) A (binaryOp .Add (.ref t) (.ref b)) Q E s := by
  obtain ⟨⟨cls, dd, data, sl⟩, ho, hc, n, hd⟩ := id ht
  obtain ⟨⟨cls2, dd2, data2, sl2⟩, ho2, hc2, n2, hd2⟩ := id hb
  simp only at hc hd hc2 hd2
  subst hc hd hc2 hd2
  have e : vs.toArray ++ ws.toArray = (vs ++ ws).toArray := by simp
  by_cases hw : ws = []
  · exact concat_meets ⟨_, ho, rfl⟩ ⟨_, ho2, rfl⟩ noFill_tuple_add seq_tuple_add PySem.F.slot_tuple_add PySem.F.entry_tuple_add (PySem.F.args_tuple_add_2 _ _)
      (tuple_addW1 t b vs.toArray ws.toArray n n2 dd dd2 sl sl2 (by simpa using hv) (by simp [hw])) ⟨ho, ho2, h1 hw⟩
  · refine concat_meets ⟨_, ho, rfl⟩ ⟨_, ho2, rfl⟩ noFill_tuple_add seq_tuple_add PySem.F.slot_tuple_add PySem.F.entry_tuple_add (PySem.F.args_tuple_add_2 _ _)
      (tuple_addW2 t b vs.toArray ws.toArray n n2 dd dd2 sl sl2 (by simpa using hv) (by simpa using hw) (by rw [List.size_toArray, List.size_toArray]; exact hsz)) ⟨ho, ho2, ?_⟩
    rw [e]
    exact h2 hw
def sIx (n d : Nat) : Option Int → Nat
  | none => d
  | some v => if v < 0 then (v + (n : Int)).toNat else min v.toNat n
theorem sIx_none (n d : Nat) : sIx n d none = d := rfl
theorem sIx_nat (n d k : Nat) : sIx n d (some (k : Int)) = min k n := by
  show (if (k : Int) < 0 then ((k : Int) + (n : Int)).toNat else min (k : Int).toNat n) = min k n
  rw [if_neg (by lia), Int.toNat_natCast]
theorem sIx_le (n d : Nat) (hd : d ≤ n) (o : Option Int) : sIx n d o ≤ n := by
  cases o with
  | none => exact hd
  | some v =>
    show (if v < 0 then (v + (n : Int)).toNat else min v.toNat n) ≤ n
    by_cases hv : v < 0
    · rw [if_pos hv]; lia
    · rw [if_neg hv]; exact Nat.min_le_right _ _
theorem clip_eq (v : Int) (n d : Nat) : (if v < 0 then max (v + (n : Int)) 0 else min v (n : Int)) = ((sIx n d (some v) : Nat) : Int) := by
  show (if v < 0 then max (v + (n : Int)) 0 else min v (n : Int)) = (((if v < 0 then (v + (n : Int)).toNat else min v.toNat n) : Nat) : Int)
  by_cases hv : v < 0
  · simp only [if_pos hv]; lia
  · simp only [if_neg hv]; lia
theorem adjust_gen (lo hi : Option Int) (n : Nat) : Builtin.Slice.sliceAdjust lo hi 1 (n : Int) = (((sIx n 0 lo : Nat) : Int), ((sIx n n hi : Nat) : Int)) := by
  have h1 : ¬ ((1 : Int) < 0) := by lia
  unfold Builtin.Slice.sliceAdjust
  simp only [h1, if_false]
  refine Prod.ext ?_ ?_
  · cases lo with
    | none => rfl
    | some v => exact clip_eq v n 0
  · cases hi with
    | none => rfl
    | some v => exact clip_eq v n n
theorem places_gen (i j : Nat) : Builtin.Slice.slicePlaces (i : Int) (j : Int) 1 = j - i := by
  unfold Builtin.Slice.slicePlaces
  have h1 : (1 : Int) > 0 := by lia
  simp only [h1, if_true, Int.ediv_one]
  split <;> lia
theorem slicePart_ {v : Value} {o : Option Int} {Q : Option Int → Shared → Prop} (p : IsPart v o) (h : Q o s) : wpAny (model prog w) A (Builtin.Slice.slicePartIndex v) Q E s := by
  cases p with
  | none => exact slicePart_none h
  | int i t => exact slicePart_int h
theorem sliceApplied_gen {sl : Addr} {vl vu : Value} {lo hi : Option Int} {n : Nat} {Q : Int × Int × Nat → Shared → Prop} (hs : s.heap.IsSliceOf sl vl vu .none) (pl : IsPart vl lo) (pu : IsPart vu hi)
    (h : Q (((sIx n 0 lo : Nat) : Int), 1, sIx n n hi - sIx n 0 lo) s) : wpAny (model prog w) A (Builtin.Slice.sliceApplied (.ref sl) (pure (n : Int))) Q E s := by
  obtain ⟨os, hos, hcs, hds⟩ := id hs
  unfold Builtin.Slice.sliceApplied Builtin.Slice.sliceFields
  refine wpAny_bind (wpAny_bind (wpAny_field hos hds (x := vl) rfl (wpAny_bind (wpAny_field hos hds (x := vu) rfl (wpAny_bind (wpAny_field hos hds (x := .none) rfl (wpAny_pure ?_)))))))
  refine wpAny_bind (slicePart_none ?_)
  show wpAny _ _ (if ((1 : Int) == 0) = true then _ else _) _ _ s
  rw [if_neg (by decide)]
  refine wpAny_bind (slicePart_ pl (wpAny_bind (slicePart_ pu (wpAny_bind (wpAny_pure ?_)))))
  show wpAny _ _ (match Builtin.Slice.sliceAdjust lo hi 1 (n : Int) with | (lo, hi) => pure (lo, (1 : Int), Builtin.Slice.slicePlaces lo hi 1)) _ _ s
  rw [adjust_gen lo hi n]
  show wpAny _ _ (pure (((sIx n 0 lo : Nat) : Int), (1 : Int), Builtin.Slice.slicePlaces ((sIx n 0 lo : Nat) : Int) ((sIx n n hi : Nat) : Int) 1)) _ _ s
  rw [places_gen]
  exact wpAny_pure h
theorem pick_gen (xs : Array Value) (i k : Nat) : ((List.range k).filterMap fun (m : Nat) => xs[((i : Int) + (m : Int) * 1).toNat]?).toArray = ((xs.toList.drop i).take k).toArray := by
  have e : (fun (m : Nat) => xs[((i : Int) + (m : Int) * 1).toNat]?) = fun m => xs[i + m]? := by
    funext m
    have : ((i : Int) + (m : Int) * 1).toNat = i + m := by lia
    rw [this]
  rw [e]
  have := pick_run xs i k
  rw [List.filterMap_map] at this
  have e2 : ((fun x => xs[x]?) ∘ fun x => i + x) = fun m => xs[i + m]? := rfl
  rw [e2] at this
  rw [this]
theorem getItem_tuple_cut {t sl : Addr} {items : Array Value} {vl vu : Value} {lo hi : Option Int} {Q : Value → Shared → Prop} (ht : IsTup s.heap t items) (hs : s.heap.IsSliceOf sl vl vu .none) (pl : IsPart vl lo) (pu : IsPart vu hi)
    (hw : ¬ (sIx items.size 0 lo = 0 ∧ sIx items.size items.size hi = items.size))
    (h : Q (.ref s.heap.objs.size) { s with heap := s.heap.push { cls := .type "tuple", data := .seq ((items.toList.drop (sIx items.size 0 lo)).take (sIx items.size items.size hi - sIx items.size 0 lo)).toArray } })
    (hsz : items.size ≤ sizeLine) : wpAny (model prog w) A (getItem (.ref t) (.ref sl)) Q E s := by
  have htake : sizeOk (.seq ((items.toList.drop (sIx items.size 0 lo)).take (sIx items.size items.size hi - sIx items.size 0 lo)).toArray) := by
    show ((items.toList.drop (sIx items.size 0 lo)).take (sIx items.size items.size hi - sIx items.size 0 lo)).toArray.size ≤ sizeLine
    rw [List.size_toArray, List.length_take, List.length_drop, Array.length_toList]
    lia
  have hj : sIx items.size items.size hi ≤ items.size := sIx_le _ _ (Nat.le_refl _) hi
  obtain ⟨os, hos, hcs, hds⟩ := id hs
  have hTs : s.TypeIs (.ref sl) "slice" := ⟨os, hos, hcs⟩
  unfold getItem
  try with_reducible refine wpAny_holding ?_
  first | refine wpAny_bind (wpAny_pure ?_) | skip
  refine wpAny_bind (wpAny_sequenceKey ht.typeIs (by decide) ?_)
  refine wpAny_bind (wpAny_callSpecial?_slot (name := Str.ofString "__getitem__") ht.typeIs PyProof.Rows.slot_tuple_getitem
    (wpAny_call_entry PyProof.Rows.slot_tuple_getitem ht.typeIs entry_tuple_getitem ?_ (args_tuple_getitem _ _)))
  show wpAny _ _ (Builtin.Tuple.tupleItemsOf (.ref t) >>= _) _ _ s
  refine wpAny_bind (tupleItemsOf_ ht ?_)
  refine wpAny_bind (wpAny_typeOf hTs ?_)
  rw [if_pos (by decide)]
  refine wpAny_bind (sliceApplied_gen hs pl pu ?_)
  have hno : ¬ ((((sIx items.size 0 lo : Nat) : Int) == 0 && (1 : Int) == 1 && (sIx items.size items.size hi - sIx items.size 0 lo) == items.size) = true) := by
    intro q
    rw [Bool.and_eq_true, Bool.and_eq_true] at q
    have q1 : ((sIx items.size 0 lo : Nat) : Int) = 0 := eq_of_beq q.1.1
    have q2 : sIx items.size items.size hi - sIx items.size 0 lo = items.size := eq_of_beq q.2
    exact hw ⟨by lia, by lia⟩
  show wpAny _ _ (if (((sIx items.size 0 lo : Nat) : Int) == 0 && (1 : Int) == 1 && (sIx items.size items.size hi - sIx items.size 0 lo) == items.size) = true then _ else _) _ _ s
  rw [if_neg hno, pick_gen]
  first
    | exact wpAny_bind (m := Builtin.Tuple.tupleExact _) (wpAny_newObj_type (wpAny_pure ⟨_, rfl, wpAny_pure h⟩) htake)
    | exact wpAny_bind (m := Builtin.Tuple.tupleExact _) (wpAny_newObj_type (wpAny_bind (wpAny_pure (wpAny_pure ⟨_, rfl, wpAny_pure h⟩))) htake)
    | exact wpAny_bind (wpAny_bind (m := Builtin.Tuple.tupleExact _) (wpAny_newObj_type (wpAny_pure (wpAny_pure ⟨_, rfl, wpAny_pure h⟩)) htake))
    | exact wpAny_bind (wpAny_bind (m := Builtin.Tuple.tupleExact _) (wpAny_newObj_type (wpAny_pure ⟨_, rfl, wpAny_pure h⟩) htake))
end
end HT
namespace L2
open PySem PySem.Spec PyProof.Rows
abbrev TO := St → Hp → (Option Int → Hp → Prop) → Prop
def PO (X : Cx) (e : Option Expr) (t : TO) : Prop :=
  ∀ (pins : List (Addr × Obj)) (s : Shared) (σ : St) (H : Hp) (Q : Option Int → Hp → Prop), Inv X pins σ H s → t σ H Q →
    wpAny (model X.prog X.w) X.A (evalPart e X.env) (fun u s' => ∃ o H', Inv X pins σ H' s' ∧ IsPart u o ∧ Q o H') X.xe s
def tNoPart : TO := fun _ H Q => Q none H
def tPart (t : TE) : TO := fun σ H Q => t σ H fun x H1 => ∃ i, x = .int i ∧ Q (some i) H1
section
variable {X : Cx} {e : Expr} {te : TE} {lo hi : Option Expr} {tl th : TO} {pos p2 : Pos}
theorem po_none : PO X none tNoPart := by
  intro pins s σ H Q I h
  rw [evalPart_none]
  exact wpAny_pure ⟨none, H, I, .none, h⟩
theorem po_some (h : PE X e te) : PO X (some e) (tPart te) := by
  intro pins s σ H Q I hw
  rw [evalPart_some]
  refine thn (h pins s σ H _ I hw) fun u s1 ⟨x, H1, I1, r1, q1⟩ => ?_
  obtain ⟨i, rfl, q⟩ := q1
  obtain ⟨t, rfl⟩ := r1
  exact ⟨some i, H1, I1, .int i t, q⟩
def SlR (X : Cx) (r : V → Option Int → Option Int → Hp → VK → Prop) : Prop :=
  ∀ (pins : List (Addr × Obj)) (s : Shared) (σ : St) (H : Hp) (x : V) (v vl vu : Value) (lo hi : Option Int) (sl : Addr) (Q : VK), Inv X pins σ H s → RelV x v → s.heap.IsSliceOf sl vl vu .none → IsPart vl lo → IsPart vu hi → r x lo hi H Q →
    ∃ T id, typeLookup (.type T) "__getitem__" = pure (some (.builtin id)) ∧ s.TypeIs v T ∧ wpAny (model X.prog X.w) X.A (getItem v (.ref sl)) (EP X pins σ Q) X.xe s
def tSl (r : V → Option Int → Option Int → Hp → VK → Prop) (te : TE) (tl th : TO) : TE := fun σ H Q => te σ H fun x H1 => tl σ H1 fun l H2 => th σ H2 fun u H3 => r x l u H3 Q
theorem pe_slice {r : V → Option Int → Option Int → Hp → VK → Prop} (hr : SlR X r) (he : PE X e te) (hl : PO X lo tl) (hu : PO X hi th) : PE X (.Subscript e (.Slice lo hi none p2) pos) (tSl r te tl th) := by
  intro pins s σ H Q I h
  refine Subscript_ (thn (he pins s σ H _ I h) fun v s1 ⟨x, H1, I1, r1, q1⟩ => ?_)
  refine wpAny_Slice (thn (hl pins s1 σ H1 _ I1 q1) fun vl s2 ⟨l, H2, I2, pl, q2⟩ => thn (hu pins s2 σ H2 _ I2 q2) fun vu s3 ⟨u, H3, I3, pu, q3⟩ => ?_)
  rw [evalPart_none]
  refine wpAny_pure ?_
  have I4 : Inv X pins σ H3 { s3 with heap := s3.heap.push { cls := .type "slice", data := .fields #[vl, vu, .none] } } := I3.kept (t' := s3.toks) fun b ob q => Heap.get?_push_of_some _ q
  obtain ⟨T, id, hT, ht, hg⟩ := hr pins { s3 with heap := s3.heap.push { cls := .type "slice", data := .fields #[vl, vu, .none] } } σ H3 x v vl vu l u s3.heap.objs.size Q I4 r1 (Heap.IsSliceOf.new ..) pl pu q3
  show wpAny (model X.prog X.w) X.A (subscriptTail e (.Slice lo hi none p2) v (.ref s3.heap.objs.size)) (EP X pins σ Q) X.xe { s3 with heap := s3.heap.push { cls := .type "slice", data := .fields #[vl, vu, .none] } }
  exact tail_any (ops := [.ref s3.heap.objs.size, v]) ht hT hg (by with_unfolding_all rfl)
def cutV (xs : List V) (lo hi : Option Int) : List V := (xs.drop (HT.sIx xs.length 0 lo)).take (HT.sIx xs.length xs.length hi - HT.sIx xs.length 0 lo)
theorem cutV_length (xs : List V) (lo hi : Option Int) : (cutV xs lo hi).length ≤ xs.length := by
  unfold cutV
  rw [List.length_take, List.length_drop]
  lia
def rSlT (K : PySem.W.Frag) : V → Option Int → Option Int → Hp → VK → Prop := fun x lo hi H Q => ∃ a xs, x = .ref a ∧ SqT K H a xs ∧
  ¬ (HT.sIx xs.length 0 lo = 0 ∧ HT.sIx xs.length xs.length hi = xs.length) ∧ ∀ p, H p = none → Q (.ref p) (upd H p (.tup (cutV xs lo hi)))
theorem sl_tup : SlR X (rSlT X.K) := by
  intro pins s σ H x v vl vu lo hi sl Q I rx hs pl pu h
  obtain ⟨a, xs, rfl, hx, hw, q⟩ := h
  cases rx
  obtain ⟨its, r, ht, hz⟩ := I.tuple hx
  have hlen : its.toArray.size = xs.length := by rw [List.size_toArray]; exact r.length.symm
  refine ⟨"tuple", _, PyProof.Rows.slot_tuple_getitem.lookup, ht.typeIs, ?_⟩
  refine HT.getItem_tuple_cut ht hs pl pu (by rw [hlen]; exact hw) ?_ (by rw [hlen]; exact hz)
  rw [hlen]
  refine ⟨.ref s.heap.objs.size, _, I.laid (t' := s.toks) (o := .tup (cutV xs lo hi)) (fun b ob q => Heap.get?_push_of_some _ q) (Nat.le_refl _) ?_, rfl, q _ (I.hok.fresh (Nat.le_refl _))⟩
  exact ⟨Nat.le_trans (cutV_length xs lo hi) hz, _, (r.drop (HT.sIx xs.length 0 lo)).take (HT.sIx xs.length xs.length hi - HT.sIx xs.length 0 lo), IsTup.new _ _⟩
def rCatT (K : PySem.W.Frag) : R2 := fun x y H Q => ∃ a b xs ys, x = .ref a ∧ y = .ref b ∧ SqT K H a xs ∧ SqT K H b ys ∧ xs ≠ [] ∧ xs.length + ys.length ≤ sizeLine ∧
  (ys = [] → Q (.ref a) H) ∧ (ys ≠ [] → ∀ p, H p = none → Q (.ref p) (upd H p (.tup (xs ++ ys))))
theorem Vals.nil_iff {xs : List V} {us : List Value} (r : Vals xs us) : us = [] ↔ xs = [] := by
  cases r with
  | nil => simp
  | cons _ _ => simp
theorem op_catT : OpR X (binaryOp .Add) (rCatT X.K) := by
  intro pins s σ H x y v u Q I rx ry h
  obtain ⟨a, b, xs, ys, rfl, rfl, ha, hb, hx, hz, q1, q2⟩ := h
  cases rx
  cases ry
  obtain ⟨its, r1, p1, _⟩ := I.tuple ha
  obtain ⟨its2, r2, p2, _⟩ := I.tuple hb
  refine HT.cat_tup p1 p2 (fun z => hx (r1.nil_iff.mp z)) (fun z => ⟨.ref a, H, I, rfl, q1 (r2.nil_iff.mp z)⟩) (fun z => ?_) (by rw [← r1.length, ← r2.length]; exact hz)
  refine ⟨.ref s.heap.objs.size, _, I.laid (t' := s.toks) (o := .tup (xs ++ ys)) (fun b ob q => Heap.get?_push_of_some _ q) (Nat.le_refl _) ?_, rfl, q2 (fun w => z (r2.nil_iff.mpr w)) _ (I.hok.fresh (Nat.le_refl _))⟩
  exact ⟨by rw [List.length_append]; exact hz, _, r1.append r2, IsTup.new _ _⟩
end
end L2
namespace L2
open PySem PySem.Spec PyProof.Rows
def ixN (n : Nat) (i : Int) : Option Nat := if 0 ≤ i then (if i < n then some i.toNat else none) else if -(n : Int) ≤ i then some (i + n).toNat else none
def atI {α : Type} (xs : List α) (i : Int) : Option α := (ixN xs.length i).bind fun j => xs[j]?
theorem ixN_seq {n : Nat} {i : Int} {j : Nat} (h : ixN n i = some j) : seqIndex? i n = some j ∧ j < n ∧ -(n : Int) ≤ i ∧ i < n := by
  unfold ixN at h
  by_cases h0 : 0 ≤ i
  · rw [if_pos h0] at h
    by_cases h1 : i < n
    · rw [if_pos h1] at h
      have e : i.toNat = j := Option.some.inj h
      exact ⟨by rw [seqIndex_of h0 h1, e], by lia, by lia, h1⟩
    · rw [if_neg h1] at h; cases h
  · rw [if_neg h0] at h
    by_cases h1 : -(n : Int) ≤ i
    · rw [if_pos h1] at h
      have e : (i + n).toNat = j := Option.some.inj h
      exact ⟨by rw [seqIndex_neg (by lia) h1, e], by lia, h1, by lia⟩
    · rw [if_neg h1] at h; cases h
theorem atI_get {α : Type} {xs : List α} {i : Int} {v : α} (h : atI xs i = some v) : ∃ j, seqIndex? i xs.length = some j ∧ xs[j]? = some v ∧ j < xs.length ∧ -(xs.length : Int) ≤ i ∧ i < xs.length := by
  unfold atI at h
  cases e : ixN xs.length i with
  | none => rw [e] at h; cases h
  | some j =>
    rw [e] at h
    obtain ⟨h1, h2, h3, h4⟩ := ixN_seq e
    exact ⟨j, h1, h, h2, h3, h4⟩
theorem atI_nat {α : Type} {xs : List α} {j : Nat} {v : α} (h : xs[j]? = some v) : atI xs (j : Int) = some v := by
  have hj : j < xs.length := (List.getElem?_eq_some_iff.mp h).1
  have e : ixN xs.length (j : Int) = some j := by
    unfold ixN
    rw [if_pos (by lia), if_pos (by lia)]; simp
  unfold atI; rw [e]; exact h
def PlainIx (b : Expr) : Prop := ∀ o i, subscripted b false o i = operate [o, i] (getItem o i)
def IxR (X : Cx) (r : R2) : Prop :=
  ∀ (value slice : Expr) (pins : List (Addr × Obj)) (s : Shared) (σ : St) (H : Hp) (x y : V) (v u : Value) (Q : VK), Inv X pins σ H s → RelV x v → RelV y u → r x y H Q →
    subscripted slice false v u = operate [v, u] (getItem v u) → wpAny (model X.prog X.w) X.A (subscriptTail value slice v u) (EP X pins σ Q) X.xe s
def MtR (X : Cx) (id : String) (r : V → List V → Hp → VK → Prop) : Prop :=
  ∀ (pins : List (Addr × Obj)) (s : Shared) (σ : St) (H : Hp) (x : V) (xs : List V) (v : Value) (us : List Value) (Q : VK), Inv X pins σ H s → RelV x v → Vals xs us → r x xs H Q →
    wpAny (model X.prog X.w) X.A (call (.builtin id) (v :: us)) (EP X pins σ Q) X.xe s
section
variable {X : Cx} {a b : Expr} {ta tb : TE} {pos : Pos}
theorem pe_ix {r : R2} (hr : IxR X r) (ha : PE X a ta) (hb : PE X b tb) (hs : PlainIx b) : PE X (.Subscript a b pos) (tOp r ta tb) := by
  intro pins s σ H Q I h
  exact Subscript_ (binT ha hb I h fun v u s2 x y H2 I2 rx ry q => hr a b pins s2 σ H2 x y v u Q I2 rx ry q (hs _ _))
def rIxL (K : PySem.W.Frag) : R2 := fun x y H Q => ∃ p xs i v, x = .ref p ∧ y = .int i ∧ SqL K H p xs ∧ atI xs i = some v ∧ Q v H
def rIxT (K : PySem.W.Frag) : R2 := fun x y H Q => ∃ p xs i v, x = .ref p ∧ y = .int i ∧ SqT K H p xs ∧ atI xs i = some v ∧ Q v H
theorem ix_list : IxR X (rIxL X.K) := by
  intro value slice pins s σ H x y v u Q I rx ry h hs
  obtain ⟨p, xs, i, z, rfl, rfl, hq, he, q⟩ := h
  cases rx
  obtain ⟨t, rfl⟩ := ry
  obtain ⟨its, r, pl, hz⟩ := I.list hq
  obtain ⟨j, h1, h2, h3, h4, h5⟩ := atI_get he
  obtain ⟨w, ew, rw'⟩ := r.get h2
  have hl := r.length
  have hn := line63
  have fin : EP X pins σ Q w s := ⟨z, H, I, rw', q⟩
  by_cases h0 : 0 ≤ i
  · have hj : i.toNat = j := by
      rw [seqIndex_of h0 h5] at h1
      exact Option.some.inj h1
    exact item_listR pl.isList h0 (by lia) (by rw [hj]; simpa using ew) fin hs
  · have hj : (i + (its.toArray.size : Int)).toNat = j := by
      rw [seqIndex_neg (by lia) h4] at h1
      rw [List.size_toArray, ← hl]
      exact Option.some.inj h1
    exact subscriptTail_builtinR (x := w) pl.isList.typeIs slot_list_getitem.lookup
      (wpAny_getItem_list_neg (Q := fun r s' => r = w ∧ EP X pins σ Q r s') pl.isList (by lia) (by rw [List.size_toArray] <;> lia) (by lia) (by rw [hj]; simpa using ew) ⟨rfl, fin⟩) hs
theorem ix_tup : IxR X (rIxT X.K) := by
  intro value slice pins s σ H x y v u Q I rx ry h hs
  obtain ⟨p, xs, i, z, rfl, rfl, hq, he, q⟩ := h
  cases rx
  obtain ⟨t, rfl⟩ := ry
  obtain ⟨its, r, pl, hz⟩ := I.tuple hq
  obtain ⟨j, h1, h2, h3, h4, h5⟩ := atI_get he
  obtain ⟨w, ew, rw'⟩ := r.get h2
  have hl := r.length
  have hn := line63
  have fin : EP X pins σ Q w s := ⟨z, H, I, rw', q⟩
  exact subscriptTail_builtinR (x := w) pl.typeIs slot_tuple_getitem.lookup
    (getItem_tuple (j := j) (Q := fun r s' => r = w ∧ EP X pins σ Q r s') pl (by lia) (by lia) (by rw [List.size_toArray, ← hl]; exact h1) (by simpa using ew) ⟨rfl, fin⟩) hs
theorem mapSeq_set (its : List Value) (n j : Nat) (u : Value) : Obj.mapSeq (·.setIfInBounds j u) { cls := .type "list", data := .seq its.toArray n } = { cls := .type "list", data := .seq (its.set j u).toArray n } := by
  simp [Obj.mapSeq]
theorem Inv.lst {pins : List (Addr × Obj)} {σ : St} {H : Hp} {s : Shared} {p : Addr} {xs : List V} (I : Inv X pins σ H s) (h : H p = some (.lst xs)) :
    ∃ (its : List Value) (n : Nat), Vals xs its ∧ s.heap.get? p = some { cls := .type "list", data := .seq its.toArray n } ∧ xs.length ≤ sizeLine := by
  obtain ⟨z, its, n, r, e⟩ := I.hok p _ h
  exact ⟨its, n, r, e, z⟩
theorem Inv.lstUpd {pins : List (Addr × Obj)} {σ : St} {H : Hp} {s : Shared} {p : Addr} {xs ys : List V} {its its' : List Value} {n n' : Nat} {f : Obj → Obj} (I : Inv X pins σ H s) (h : H p = some (.lst xs))
    (ho : s.heap.get? p = some { cls := .type "list", data := .seq its.toArray n }) (hf : f { cls := .type "list", data := .seq its.toArray n } = { cls := .type "list", data := .seq its'.toArray n' }) (r : Vals ys its') (hz : ys.length ≤ sizeLine) (t : Nat) :
    Inv X pins σ (upd H p (.lst ys)) { s with heap := s.heap.update p f, toks := t } := by
  have e : (s.heap.update p f).get? p = some { cls := .type "list", data := .seq its'.toArray n' } := by
    rw [Heap.get?_update_self f ho (by rw [hf] <;> rfl), hf]
  refine I.write (x := p) (e := p) (by rw [h]; trivial) (.inl rfl) (fun b u hb q => (Heap.get?_update_other _ _ (Ne.symm hb)).trans q) ⟨_, e⟩ ?_
  exact ⟨hz, its', n', r, e⟩
def rSetL : V → V → V → Hp → (Hp → Prop) → Prop := fun o i v H Q => ∃ p xs k j, o = .ref p ∧ i = .int k ∧ H p = some (.lst xs) ∧ ixN xs.length k = some j ∧ Q (upd H p (.lst (xs.set j v)))
theorem set_list : PSet X rSetL := by
  intro pins s σ H o i v ov iv u Q I ro ri rv h
  obtain ⟨p, xs, k, j, rfl, rfl, hp, hj, q⟩ := h
  cases ro
  obtain ⟨t, rfl⟩ := ri
  obtain ⟨its, n, r, ho, hz⟩ := I.lst hp
  obtain ⟨h1, h2, h3, h4⟩ := ixN_seq hj
  have hl := r.length
  have hn := line63
  have I' : Inv X pins σ (upd H p (.lst (xs.set j v))) { s with heap := s.heap.update p (Obj.mapSeq (·.setIfInBounds j u)) } :=
    I.lstUpd hp ho (mapSeq_set its n j u) (r.set rv j) (by rw [List.length_set]; exact hz) s.toks
  by_cases h0 : 0 ≤ k
  · have hk : k.toNat = j := by
      rw [seqIndex_of h0 h4] at h1
      exact Option.some.inj h1
    exact PySem.W.ki_setAt ho h0 (by lia) (by rw [List.size_toArray, ← hl]; exact h4) (by rw [hk]; exact ⟨_, I', q⟩)
  · have hk : (k + (its.toArray.size : Int)).toNat = j := by
      rw [seqIndex_neg (by lia) h3] at h1
      rw [List.size_toArray, ← hl]
      exact Option.some.inj h1
    exact PySem.W.ki_setBack ho (by lia) (by rw [List.size_toArray, ← hl]; exact h3) (by lia) (by rw [hk]; exact ⟨_, I', q⟩)
theorem slice_bounds (lo hi : Option Int) (n : Nat) : (sliceBounds lo hi none n).1 = ((HT.sIx n 0 lo : Nat) : Int) ∧ (sliceBounds lo hi none n).2.1 = ((HT.sIx n n hi : Nat) : Int) ∧ (sliceBounds lo hi none n).2.2 = 1 := by
  refine ⟨?_, ?_, rfl⟩
  · cases lo with
    | none => simp [sliceBounds, HT.sIx]
    | some i =>
      simp only [sliceBounds, HT.sIx, Option.getD_none, show (1 : Int) > 0 by decide, if_true]
      by_cases h : i < 0
      · simp only [h, if_true] <;> lia
      · simp only [h, if_false] <;> lia
  · cases hi with
    | none => simp [sliceBounds, HT.sIx]
    | some i =>
      simp only [sliceBounds, HT.sIx, Option.getD_none, show (1 : Int) > 0 by decide, if_true]
      by_cases h : i < 0
      · simp only [h, if_true] <;> lia
      · simp only [h, if_false] <;> lia
theorem slicePick_cut (its : List Value) (lo hi : Option Int) : slicePick its.toArray lo hi none = ((its.drop (HT.sIx its.length 0 lo)).take (HT.sIx its.length its.length hi - HT.sIx its.length 0 lo)).toArray := by
  obtain ⟨h1, h2, h3⟩ := slice_bounds lo hi its.toArray.size
  unfold slicePick
  rw [h1, h2, h3]
  simp only [sliceRange_one, pick_run, List.size_toArray] <;> rfl
def rSlL (K : PySem.W.Frag) : V → Option Int → Option Int → Hp → VK → Prop := fun x lo hi H Q => ∃ a xs, x = .ref a ∧ SqL K H a xs ∧ ∀ p, H p = none → Q (.ref p) (upd H p (.lst (cutV xs lo hi)))
theorem sl_list : SlR X (rSlL X.K) := by
  intro pins s σ H x v vl vu lo hi sl Q I rx hs pl pu h
  obtain ⟨a, xs, rfl, hx, q⟩ := h
  cases rx
  obtain ⟨its, r, ht, hz⟩ := I.list hx
  have hlen := r.length
  refine ⟨"list", _, slot_list_getitem.lookup, ht.isList.typeIs, ?_⟩
  refine wpAny_getItem_list_slice ht.isList hs pl pu .none (by simp) ?_ (by rw [List.size_toArray] <;> lia)
  rw [slicePick_cut, ← hlen]
  refine ⟨.ref s.heap.objs.size, _, I.laid (t' := s.toks) (o := .lst (cutV xs lo hi)) (fun b ob q => Heap.get?_push_of_some _ q) (Nat.le_refl _) ?_, rfl, q _ (I.hok.fresh (Nat.le_refl _))⟩
  exact ⟨Nat.le_trans (cutV_length xs lo hi) hz, _, 0, (r.drop (HT.sIx xs.length 0 lo)).take (HT.sIx xs.length xs.length hi - HT.sIx xs.length 0 lo), Heap.get?_push_size _ rfl⟩
def flatV : V → Bool
  | .non => true
  | .bl _ => true
  | .int _ => true
  | .str _ => true
  | _ => false
def eqV : V → V → Bool
  | .non, .non => true
  | .bl a, .bl b => a == b
  | .bl a, .int b => (if a then 1 else 0) == b
  | .int a, .bl b => a == (if b then 1 else 0)
  | .int a, .int b => a == b
  | .str a, .str b => a == b
  | _, _ => false
theorem eqAt_V {A : Around} {s : Shared} {y x : V} {u v : Value} (ry : RelV y u) (rx : RelV x v) (fy : flatV y = true) (fx : flatV x = true) : SeqAt.EqAt A s u v (eqV y x) := by
  cases y with
  | non =>
    cases ry
    cases x with
    | non => cases rx; exact SeqAt.EqAt.same _
    | bl b => cases rx; exact SeqAt.EqAt.none_bool b
    | int b => obtain ⟨t, rfl⟩ := rx; exact SeqAt.EqAt.none_int b t
    | str b => obtain ⟨t, rfl⟩ := rx; exact SeqAt.EqAt.none_str b t
    | _ => exact absurd (show false = true from fx) Bool.false_ne_true
  | bl a =>
    cases ry
    cases x with
    | non => cases rx; exact SeqAt.EqAt.bool_none a
    | bl b => cases rx; exact SeqAt.EqAt.bool_bool a b
    | int b => obtain ⟨t, rfl⟩ := rx; exact SeqAt.EqAt.bool_int a b t
    | str b => obtain ⟨t, rfl⟩ := rx; exact SeqAt.EqAt.bool_str a b t
    | _ => exact absurd (show false = true from fx) Bool.false_ne_true
  | int a =>
    obtain ⟨t', rfl⟩ := ry
    cases x with
    | non => cases rx; exact SeqAt.EqAt.int_none a t'
    | bl b => cases rx; exact SeqAt.EqAt.int_bool a t' b
    | int b => obtain ⟨t, rfl⟩ := rx; exact SeqAt.EqAt.int_int a t' b t
    | str b => obtain ⟨t, rfl⟩ := rx; exact SeqAt.EqAt.int_str a t' b t
    | _ => exact absurd (show false = true from fx) Bool.false_ne_true
  | str a =>
    obtain ⟨t', rfl⟩ := ry
    cases x with
    | non => cases rx; exact SeqAt.EqAt.str_none a t'
    | bl b => cases rx; exact SeqAt.EqAt.str_bool a t' b
    | int b => obtain ⟨t, rfl⟩ := rx; exact SeqAt.EqAt.str_int a t' b t
    | str b => obtain ⟨t, rfl⟩ := rx; exact SeqAt.EqAt.str_str a t' b t
    | _ => exact absurd (show false = true from fx) Bool.false_ne_true
  | _ => exact absurd (show false = true from fy) Bool.false_ne_true
def eqU (x : V) (u : Value) : Bool := match u with
  | .none => eqV .non x
  | .bool b => eqV (.bl b) x
  | .int i _ => eqV (.int i) x
  | .str z _ => eqV (.str z) x
  | _ => false
theorem eqU_of {x y : V} {u : Value} (r : RelV y u) (f : flatV y = true) : eqU x u = eqV y x := by
  cases y with
  | non => cases r; rfl
  | bl b => cases r; rfl
  | int i => obtain ⟨t, rfl⟩ := r; rfl
  | str z => obtain ⟨t, rfl⟩ := r; rfl
  | _ => exact absurd (show false = true from f) Bool.false_ne_true
theorem any_eqU {x : V} : ∀ {xs : List V} {us : List Value}, Vals xs us → xs.all flatV = true → us.any (eqU x) = xs.any fun y => eqV y x
  | _, _, .nil, _ => rfl
  | y :: xs, u :: us, .cons r t, f => by
    rw [List.all_cons, Bool.and_eq_true] at f
    rw [List.any_cons, List.any_cons, eqU_of r f.1, any_eqU t f.2]
theorem mem_eqAt {A : Around} {s : Shared} {x : V} {v : Value} (rx : RelV x v) (fx : flatV x = true) : ∀ {xs : List V} {us : List Value}, Vals xs us → xs.all flatV = true → ∀ u ∈ us, SeqAt.EqAt A s u v (eqU x u)
  | _, _, .nil, _ => fun u hu => by cases hu
  | y :: xs, u :: us, .cons r t, f => fun u' hu => by
    rw [List.all_cons, Bool.and_eq_true] at f
    rcases List.mem_cons.mp hu with rfl | hu
    · rw [eqU_of r f.1]; exact eqAt_V r rx f.1 fx
    · exact mem_eqAt rx fx t f.2 u' hu
def inV (x : V) (xs : List V) : Bool := xs.any fun y => eqV y x
def rIn (K : PySem.W.Frag) (neg : Bool) : R2 := fun x y H Q => ∃ p xs, y = .ref p ∧ (SqL K H p xs ∨ SqT K H p xs) ∧ flatV x = true ∧ xs.all flatV = true ∧ Q (.bl (if neg then !inV x xs else inV x xs)) H
theorem op_in_seq : OpR X (compareOp .In) (rIn X.K false) := by
  intro pins s σ H x y v u Q I rx ry h
  obtain ⟨p, xs, rfl, hq, fx, fs, q⟩ := h
  cases ry
  rcases hq with hq | hq
  · obtain ⟨its, r, pl, hz⟩ := I.list hq
    refine SeqAt.in_listAt (eqU x) pl.isList (fun w hw => mem_eqAt rx fx r fs w (by simpa using hw)) ⟨.bl _, H, I, rfl, ?_⟩
    rw [show its.toArray.any (eqU x) = its.any (eqU x) by simp, any_eqU r fs]
    exact q
  · obtain ⟨its, r, pl, hz⟩ := I.tuple hq
    refine SeqAt.in_tupleAt (eqU x) pl (fun w hw => mem_eqAt rx fx r fs w (by simpa using hw)) ⟨.bl _, H, I, rfl, ?_⟩
    rw [show its.toArray.any (eqU x) = its.any (eqU x) by simp, any_eqU r fs]
    exact q
theorem call_len_seq : CallR X (.builtin "len") (fun xs H Q => ∃ p ys, xs = [.ref p] ∧ (SqL X.K H p ys ∨ SqT X.K H p ys) ∧ Q (.int ys.length) H) := by
  intro pins s σ H xs us Q I r h
  obtain ⟨p, ys, rfl, hq, q⟩ := h
  obtain ⟨u, rfl, rx⟩ := vals1 r
  cases rx
  have hn := line63
  rcases hq with hq | hq
  · obtain ⟨its, r', pl, hz⟩ := I.list hq
    have hlen := r'.length
    exact Calls.call_len_list pl.isList (by simp only [List.size_toArray] <;> lia) ⟨.int ys.length, H, I.tok _, ⟨s.toks + 1, by rw [List.size_toArray, hlen]⟩, q⟩
  · obtain ⟨its, r', pl, hz⟩ := I.tuple hq
    have hlen := r'.length
    exact len_tuple pl (by simp only [List.size_toArray] <;> lia) ⟨.int ys.length, H, I.tok _, ⟨s.toks + 1, by rw [List.size_toArray, hlen]⟩, q⟩
theorem call_list_of : CallR X (.type "list") (fun xs H Q => ∃ p ys, xs = [.ref p] ∧ (SqL X.K H p ys ∨ SqT X.K H p ys) ∧ ∀ l, H l = none → Q (.ref l) (upd H l (.lst ys))) := by
  intro pins s σ H xs us Q I r h
  obtain ⟨p, ys, rfl, hq, q⟩ := h
  obtain ⟨u, rfl, rx⟩ := vals1 r
  cases rx
  have fin : ∀ (its : List Value), Vals ys its → ys.length ≤ sizeLine → ∀ (h' : Heap) (c' : Nat), (∀ b o', s.heap.get? b = some o' → h'.get? b = some o') →
      h'.get? s.heap.objs.size = some { cls := .type "list", dict := none, data := .seq its.toArray c', slots := #[] } → EP X pins σ Q (.ref s.heap.objs.size) { s with heap := h' } := fun its r' hz h' c' kp e =>
    ⟨.ref s.heap.objs.size, _, I.laid (t' := s.toks) kp (Nat.le_refl _) (show ObjOk X.prog X.w _ h' _ (.lst ys) from ⟨hz, its, c', r', e⟩), rfl, q _ (I.hok.fresh (Nat.le_refl _))⟩
  rcases hq with hq | hq
  · obtain ⟨its, r', pl, hz⟩ := I.list hq
    have hlen := r'.length
    obtain ⟨o, ho, hc, n, hd⟩ := pl.isList
    exact call_list_seq p (.inl rfl) ho hc hd (fun h' c' kp e => fin its r' hz h' c' kp e) (by simp only [List.size_toArray] <;> lia)
  · obtain ⟨its, r', pl, hz⟩ := I.tuple hq
    have hlen := r'.length
    obtain ⟨o, ho, hc, n, hd⟩ := pl
    exact call_list_seq p (.inr rfl) ho hc hd (fun h' c' kp e => fin its r' hz h' c' kp e) (by simp only [List.size_toArray] <;> lia)
theorem call_tuple_of : CallR X (.type "tuple") (fun xs H Q => ∃ p ys, xs = [.ref p] ∧ ((SqL X.K H p ys ∧ ∀ l, H l = none → Q (.ref l) (upd H l (.tup ys))) ∨ (SqT X.K H p ys ∧ Q (.ref p) H))) := by
  intro pins s σ H xs us Q I r h
  obtain ⟨p, ys, rfl, h⟩ := h
  obtain ⟨u, rfl, rx⟩ := vals1 r
  cases rx
  rcases h with ⟨hq, q⟩ | ⟨hq, q⟩
  · obtain ⟨its, r', pl, hz⟩ := I.list hq
    have hlen := r'.length
    refine call_tuple_list pl.isList (fun h' kp => ?_) (by simp only [List.size_toArray] <;> lia)
    have I1 : Inv X pins σ H { s with heap := h' } := I.kept (t' := s.toks) kp
    have I2 : Inv X pins σ (upd H h'.objs.size (.tup ys)) { s with heap := h'.push { cls := .type "tuple", data := .seq its.toArray } } :=
      I1.laid (t' := s.toks) (fun b o e => Heap.get?_push_of_some _ e) (Nat.le_refl _) (show ObjOk X.prog X.w _ _ _ (.tup ys) from ⟨hz, its, r', IsTup.new _ _⟩)
    exact ⟨.ref h'.objs.size, _, I2, rfl, q _ (I1.hok.fresh (Nat.le_refl _))⟩
  · obtain ⟨its, r', pl, hz⟩ := I.tuple hq
    exact call_tuple_same pl ⟨.ref p, H, I, rfl, q⟩
def tyV (K : PySem.W.Frag) (T : String) (x : V) (H : Hp) : Prop := match x with
  | .str _ => T = "str"
  | .int _ => T = "int"
  | .ref p => (T = "list" ∧ ∃ xs, SqL K H p xs) ∨ (T = "tuple" ∧ ∃ o, K.lookup p = some o ∧ o.cls = .type "tuple" ∧ o.dict = none) ∨
      (T = "dict" ∧ ((∃ kvs, H p = some (.dK kvs)) ∨ ∃ kvs, H p = some (.dT kvs))) ∨ (T = "set" ∧ ∃ S n, H p = some (.set S n))
  | _ => False
theorem tyV_is {pins : List (Addr × Obj)} {σ : St} {H : Hp} {s : Shared} {T : String} {x : V} {v : Value} (I : Inv X pins σ H s) (r : RelV x v) (ty : tyV X.K T x H) :
    s.TypeIs v T ∧ ∀ a, v = .ref a → ∃ ob, s.heap.get? a = some ob ∧ ob.dict = none := by
  cases x with
  | str z =>
    obtain ⟨t, rfl⟩ := r
    cases (show T = "str" from ty)
    exact ⟨typeIs_str s z t, fun _ e => nomatch e⟩
  | int i =>
    obtain ⟨t, rfl⟩ := r
    cases (show T = "int" from ty)
    exact ⟨typeIs_int s i t, fun _ e => nomatch e⟩
  | ref p =>
    cases r
    rcases ty with ⟨rfl, xs, hq⟩ | ⟨rfl, o, hk, hc, hd⟩ | ⟨rfl, hk⟩ | ⟨rfl, S, n, hk⟩
    · obtain ⟨its, _, pl, _⟩ := I.list hq
      refine ⟨pl.isList.typeIs, fun a e => ?_⟩
      cases e
      obtain ⟨o, n, e, c, hd, _⟩ := pl
      exact ⟨o, e, hd⟩
    · refine ⟨⟨o, I.kIn p o hk, hc⟩, fun a e => ?_⟩
      cases e
      exact ⟨o, I.kIn _ o hk, hd⟩
    · have z : ∃ o, s.heap.get? p = some o ∧ o.ExactDict := by
        rcases hk with ⟨kvs, hk⟩ | ⟨kvs, hk⟩
        · obtain ⟨_, _, _, _, o, _, _, e, ex, _⟩ := I.hok p _ hk
          exact ⟨o, e, ex⟩
        · obtain ⟨_, _, _, _, o, _, _, e, ex, _⟩ := I.hok p _ hk
          exact ⟨o, e, ex⟩
      obtain ⟨o, e, ex⟩ := z
      refine ⟨⟨o, e, ex.1⟩, fun a e2 => ?_⟩
      cases e2
      exact ⟨o, e, ex.2.1⟩
    · obtain ⟨o, _, _, _, e, ex, _⟩ := I.hok p _ hk
      refine ⟨⟨o, e, ex.1⟩, fun a e2 => ?_⟩
      cases e2
      exact ⟨o, e, ex.2.1⟩
  | _ => exact False.elim ty
def tBM0 (K : PySem.W.Frag) (T : String) (r : V → List V → Hp → VK → Prop) (to : TE) : TE := fun σ H Q => to σ H fun x H1 => tyV K T x H1 ∧ r x [] H1 Q
def tBM (K : PySem.W.Frag) (T : String) (r : V → List V → Hp → VK → Prop) (to : TE) (t : TA) : TE := fun σ H Q => to σ H fun x H1 => tyV K T x H1 ∧ t σ H1 fun xs H2 => r x xs H2 Q
variable {o e : Expr} {es : List Expr} {to : TE} {t : TA} {name : Str} {apos cpos : Pos} {T id : String} {r : V → List V → Hp → VK → Prop}
theorem pe_bm0 (pa : PlainAttrs T) (slot : Slot T name id) (hty : typeOf (.builtin id) = pure (.type "method_descriptor")) (hm : MtR X id r) (ho : PE X o to)
    (hbase : attributeBase o name X.env (eval o X.env) = eval o X.env := by rfl) (hline : (apos.endLine == cpos.line) = true := by rfl) : PE X (.Call (.Attribute o name apos) [] [] cpos) (tBM0 X.K T r to) := by
  intro pins s σ H Q I h
  refine wpAny_Call_method0_late hbase hline (thn (ho pins s σ H _ I h) fun v s1 ⟨x, H1, I1, r1, ty, q1⟩ => ?_)
  obtain ⟨h1, h2⟩ := tyV_is I1 r1 ty
  exact ⟨T, id, pa, slot, hty, h1, h2, Calls.callWith_builtin rfl (PySem.evalArgs_none (hm pins s1 σ H1 x [] v [] Q I1 r1 .nil q1))⟩
theorem pe_bm (pa : PlainAttrs T) (slot : Slot T name id) (hty : typeOf (.builtin id) = pure (.type "method_descriptor")) (hm : MtR X id r) (ho : PE X o to) (ha : PA X (e :: es) t)
    (hbase : attributeBase o name X.env (eval o X.env) = eval o X.env := by rfl)
    (hfew : ((backTo cpos (starEach (e :: es) X.env)).all (fun x => !x.1) && (backToKw cpos (keywordEach [] X.env)).all (fun x => x.1.isSome)
      && decide ((e :: es).length + ([] : List Keyword).length + (if ([] : List Keyword).isEmpty then 0 else 1) < 30)) = true := by rfl)
    (hline : (apos.endLine == cpos.line) = true := by rfl) (hs : starEach (e :: es) X.env = (false, eval e X.env) :: starEach es X.env := by rfl) (hplain : (backTo cpos (starEach es X.env)).any (·.1) = false := by rfl) :
    PE X (.Call (.Attribute o name apos) (e :: es) [] cpos) (tBM X.K T r to t) := by
  intro pins s σ H Q I h
  refine wpAny_Call_method_late hbase hfew hline rfl (thn (ho pins s σ H _ I h) fun v s1 ⟨x, H1, I1, r1, ty, q1⟩ => ?_)
  obtain ⟨h1, h2⟩ := tyV_is I1 r1 ty
  refine ⟨T, id, pa, slot, hty, h1, h2, ?_⟩
  have hA := ha cpos pins s1 σ H1 _ I1 q1
  rw [hs] at hA ⊢
  refine Calls.callWith_builtin (by show (false || (backTo cpos (starEach es X.env)).any (·.1)) = false; rw [hplain] <;> rfl) (Calls.evalArgs_plain ?_)
  exact thn hA fun us s2 ⟨vs, H2, I2, r2, q2⟩ => hm pins s2 σ H2 x vs v us Q I2 r1 r2 q2
/- xs.append(e), list.index on a module's tuple .. are MtR facts of 06m -/
end
end L2
namespace L2
open PySem PySem.Spec PyProof.Rows
def MtM (X : Cx) (id : String) (r : V → List V → Hp → VK → Prop) : Prop :=
  ∀ (pins : List (Addr × Obj)) (s : Shared) (σ : St) (H : Hp) (x : V) (xs : List V) (v : Value) (us : List Value) (Q : VK), Inv X pins σ H s → RelV x v → Vals xs us → r x xs H Q →
    wpAny (model X.prog X.w) X.A (call (.builtin id) (v :: us)) (EP X pins σ Q) X.xe s
theorem Vals.one : ∀ {x : V} {us : List Value}, Vals [x] us → ∃ u, us = [u] ∧ RelV x u
  | _, _, .cons r .nil => ⟨_, rfl, r⟩
theorem Vals.zero : ∀ {us : List Value}, Vals [] us → us = []
  | _, .nil => rfl
theorem Vals.dropLast {xs : List V} {us : List Value} (h : Vals xs us) : Vals xs.dropLast us.dropLast := by
  induction h with
  | nil => exact .nil
  | cons r t ih =>
    cases t with
    | nil => exact .nil
    | cons q t' => exact .cons r ih
theorem Vals.reverse {xs : List V} {us : List Value} (h : Vals xs us) : Vals xs.reverse us.reverse := by
  induction h with
  | nil => exact .nil
  | cons r t ih => rw [List.reverse_cons, List.reverse_cons]; exact Vals.append ih (.cons r .nil)
theorem erase_last {α : Type} (l : List α) : l.eraseIdx (l.length - 1) = l.dropLast := by
  induction l with
  | nil => rfl
  | cons a r ih =>
    cases r with
    | nil => rfl
    | cons b r =>
      have e : (a :: b :: r).length - 1 = ((b :: r).length - 1) + 1 := by
        have h1 : (a :: b :: r).length = r.length + 2 := rfl
        have h2 : (b :: r).length = r.length + 1 := rfl
        lia
      rw [e, List.eraseIdx_cons_succ, ih]
      all_goals rfl
section
variable {X : Cx} {pins : List (Addr × Obj)} {σ : St} {H : Hp} {s : Shared} {l b : Addr} {xs ys zs : List V}
theorem Inv.lset {its its' : List Value} {n : Nat} {f : Array Value → Array Value} {t' : Nat} (I : Inv X pins σ H s) (hH : H l = some (.lst xs))
    (e : s.heap.get? l = some { cls := .type "list", data := .seq its.toArray n }) (hf : f its.toArray = its'.toArray) (hv : Vals ys its') (hz : ys.length ≤ sizeLine) :
    Inv X pins σ (upd H l (.lst ys)) { s with heap := s.heap.update l (Obj.mapSeq f), toks := t' } := by
  have q := PySem.IsL.update e f
  rw [hf] at q
  refine I.write (x := l) (e := l) (by rw [hH]; exact trivial) (.inl rfl) (fun b' u hb hu => (Heap.get?_update_other s.heap (Obj.mapSeq f) (Ne.symm hb)).trans hu) ⟨_, q⟩ ?_
  exact ⟨hz, its', _, hv, q⟩
theorem Inv.lnew {its : List Value} {t' : Nat} (I : Inv X pins σ H s) (hv : Vals ys its) (hz : ys.length ≤ sizeLine) :
    Inv X pins σ (upd H s.heap.objs.size (.lst ys)) { s with heap := s.heap.push { cls := .type "list", data := .seq its.toArray }, toks := t' } :=
  I.laid (fun _ _ q => Heap.get?_push_of_some _ q) (Nat.le_refl _) ⟨hz, its, 0, hv, Heap.get?_push_size _ rfl⟩
theorem Inv.fresh (I : Inv X pins σ H s) : H s.heap.objs.size = none := I.hok.fresh (Nat.le_refl _)
theorem Inv.lstM (I : Inv X pins σ H s) (hH : H l = some (.lst xs)) : xs.length ≤ sizeLine ∧ ∃ (its : List Value) (n : Nat), Vals xs its ∧ xs.length = its.length ∧ s.heap.get? l = some { cls := .type "list", data := .seq its.toArray n } := by
  obtain ⟨z, its, n, r, e⟩ := I.hok l _ hH
  exact ⟨z, its, n, r, r.length, e⟩
end
section
variable {X : Cx}
def rAppend : V → List V → Hp → VK → Prop := fun x vs H Q => ∃ l xs y, x = .ref l ∧ vs = [y] ∧ H l = some (.lst xs) ∧ xs.length < sizeLine ∧ Q .non (upd H l (.lst (xs ++ [y])))
theorem mt_append : MtM X "list.append" rAppend := by
  intro pins s σ H x vs v us Q I rx rv h
  obtain ⟨l, xs, y, rfl, rfl, hH, hz, q⟩ := h
  cases rx
  obtain ⟨u, rfl, ru⟩ := rv.one
  obtain ⟨z, its, n, r, hl, e⟩ := I.lstM hH
  refine call_meets F.slot_list_append ⟨_, e, rfl⟩ F.entry_list_append (F.args_list_append_2 _ _) (PySem.list_append l its.toArray n u (by rw [List.size_toArray]; lia)) ⟨e, ?_⟩
  refine ⟨.non, _, I.lset (its' := its ++ [u]) hH e (by simp) (r.append (.cons ru .nil)) ?_, rfl, q⟩
  rw [List.length_append, List.length_singleton]
  lia
def rPop : V → List V → Hp → VK → Prop := fun x vs H Q => ∃ l xs y, x = .ref l ∧ vs = [] ∧ H l = some (.lst xs) ∧ xs[xs.length - 1]? = some y ∧ Q y (upd H l (.lst xs.dropLast))
theorem mt_pop : MtM X "list.pop" rPop := by
  intro pins s σ H x vs v us Q I rx rv h
  obtain ⟨l, xs, y, rfl, rfl, hH, hy, q⟩ := h
  cases rx
  have hus := rv.zero
  subst hus
  obtain ⟨z, its, n, r, hl, e⟩ := I.lstM hH
  obtain ⟨u, hu, ru⟩ := r.get hy
  have hy' : its.toArray[its.toArray.size - 1]? = some u := by
    show its.toArray[its.length - 1]? = some u
    rw [← Array.getElem?_toList, ← hl]
    exact hu
  refine call_meets F.slot_list_pop ⟨_, e, rfl⟩ F.entry_list_pop (F.args_list_pop_1 _) (MeetsSeq.list_pop_last l its.toArray n u hy' (by rw [List.size_toArray]; lia)) ⟨e, ?_⟩
  refine ⟨y, _, I.lset (its' := its.dropLast) hH e ?_ r.dropLast ?_, ru, q⟩
  · show its.toArray.eraseIdxIfInBounds (its.toArray.size - 1) = its.dropLast.toArray
    rw [List.size_toArray, List.eraseIdxIfInBounds_toArray, erase_last]
  · rw [List.length_dropLast]
    lia
end
section
variable {prog : Program} {w : World} {A : Around} {E : Value → Shared → Prop} {s : Shared}
set_option maxRecDepth 100000 in
end
section
variable {X : Cx}
end
end L2
namespace Att
open PySem PySem.W PySem.Calls PyProof.Rows
theorem ints_of_wellAll {P : Params} {h : Heap} : ∀ (ns : List Int) (vs : List Value), WellAll P h vs (ns.map WData.int) → IntsAre vs ns := by
  intro ns
  induction ns with
  | nil =>
    intro vs w
    rw [List.map_nil] at w
    cases w
    exact .nil
  | cons n ns ih =>
    intro vs w
    rw [List.map_cons] at w
    cases w with
    | cons a b =>
      cases a
      exact .cons _ _ (ih _ b)
theorem script_of {l : OpenLaw} {n : Nat} (hn : l.most = some n) {P : Params} {h : Heap} {args : List WData} {vals : List Value}
    (hpre : l.row.toRowW.claim.pre args = true) (hwl : WellAll P h vals args) :
    ∃ a vs ns, vals = [Value.ref a] ∧ args = [WData.list (ns.map WData.int)] ∧ h.get? a = some { cls := .type "list", data := .seq vs.toArray } ∧ IntsAre vs ns ∧ ns.length ≤ n := by
  have hsh : WShape.hasAll [] args [.list .int] = true := (pre_splitW hpre).1
  have hc : l.pre.holds [] { args := args } = true := (pre_splitW hpre).2
  obtain ⟨d, r, rfl, h1, h2⟩ := hasAllW_cons hsh
  obtain rfl := hasAllW_nil h2
  obtain ⟨xs, rfl, h3⟩ := hasW_list h1
  obtain ⟨ns, rfl⟩ := items_int h3
  have hlen : ns.length ≤ n := by
    unfold OpenLaw.pre at hc
    have h4 : (WTm.not (.lt (.lit (.int (n : Int))) (.len (.arg 0)))).holds [] { args := [.list (ns.map .int)] } = true := by
      have h4 := (holds_andW hc).1
      rw [hn] at h4
      exact h4
    have h5 := condW_of h4 (w_not (w_lt w_lit (w_len_list (w_arg rfl))))
    rw [List.length_map] at h5
    refine Nat.le_of_not_lt fun q => ?_
    have q' : (n : Int) < ((ns.length : Nat) : Int) := by lia
    first
      | (rw [decide_eq_true q'] at h5; exact absurd h5 (by decide))
      | (simp at h5; lia)
  cases hwl with
  | cons w1 w2 =>
    cases w2
    cases w1 with
    | list ho hall => exact ⟨_, _, ns, rfl, rfl, ho, ints_of_wellAll ns _ hall, hlen⟩
theorem post_true (l : OpenLaw) (args : List WData) : l.row.toRowW.claim.post args (.bool true) args = true :=
  postW_of (r := l.row.toRowW) (X := (true == true))
    (show WShape.has [] (.bool true) .bool = true by first | rfl | decide | simp [WShape.has, WShape.arms, WShape.armsAll])
    (show (WTm.eq .res (.lit (.bool true))).value [] { args := args, res := some (.bool true), after := args } = some (.bool (true == true)) from w_eq_bool (w_res rfl) w_lit) rfl
theorem attach_call {l : OpenLaw} {n : Nat} {q : Program} {loose : List Str} {XP : (Str → Option Value) → Heap → Prop} {YP : World → Heap → Prop} {d : DefRec}
    (hn : l.most = some n) (hdf : d.params.defaults = [])
    (call : ∀ (w : World) (s₀ s₁ : Shared) (mg mb : Str → Option Value) (fa : Addr) (o : Obj) (pm cd doc : Value) (a : Addr) (vs : List Value) (ns : List Int),
      Ground q loose [] XP w s₀ mg mb s₁.heap → YP w s₁.heap →
      s₁.heap.get? fa = some o → o.data = .func (docDef d.name d.params d.body d.scope pm cd doc) → s₁.heap.CodeRec cd d.name → mg d.name = some (.ref fa) →
      s₁.heap.get? a = some { cls := .type "list", data := .seq vs.toArray } → IntsAre vs ns → ns.length ≤ n → s₁.gens = #[] →
      codeAny (model l.prog w) callerA (.call (.ref fa) ⟨[.ref a], []⟩) (fun r s' => r = .ok (.ret (.bool true)) ∧ OldK s₁.heap s'.heap ∧ s'.os = s₁.os ∧ AllBare s'.gens) s₁) :
    WalkO q loose XP YP l.row.toRowW d [] (fun f vs => PySem.call f vs) := by
  intro w s₀ s₁ mg mb G Y fa o pm cd doc dV kV ho hd hcd hD hmg hg args vals as hpre hlay hrd hwl hlo
  obtain rfl : dV = .none := Dflts.none hD hdf
  obtain rfl : kV = .none := Dflts.noKw hD
  obtain ⟨a, vs, ns, rfl, rfl, hobj, hints, hlen⟩ := script_of hn hpre hwl
  refine enter_call (codeAny_mono (call w s₀ s₁ mg mb fa o pm cd doc a vs ns G Y ho (fd_plain hd) hcd hmg hobj hints hlen hg) fun r s' hq => ?_)
  obtain ⟨rfl, h2, h3, h4⟩ := hq
  exact ⟨.inl ⟨.bool true, .bool true, [], rfl, fun _ => rfl, .bool true, post_true l _, fun _ => ⟨List.Pairwise.nil, fun _ hm => (nomatch hm)⟩⟩, h2, h3, h4⟩
section
variable {prog : Program} {w : World} {A : Around} {E : Value → Shared → Prop} {s : Shared} {K : Frag}
end
end Att
namespace L2
open PySem PySem.Spec PyProof.Rows
theorem vals_ints : ∀ {vs : List Value} {ns : List Int}, IntsAre vs ns → Vals (ns.map V.int) vs
  | _, _, .nil => .nil
  | _, _, .cons n t h => .cons ⟨t, rfl⟩ (vals_ints h)
def Only (H : Hp) : Prop := ∀ b, H b = none ∨ ∃ o xs, H b = some (.frz o (.lst xs))
theorem law_call {P : Program} {w : World} {K : PySem.W.Frag} {mg mb : Str → Option Value} {CX : CXT} {k : Nat} {fa a : Addr} {fd : FuncData} {x : Str} {sp : Sp} {s₁ : Shared} {vs : List Value} {ns : List Int}
    (KX : K.In s₁.heap) (hns : s₁.heap.Ns mainGlobals mg) (hb : s₁.heap.Ns builtinsNs mb) (hbb : ∀ x : Str, x ≠ "__name__" → mb x = bootBuiltins x) (hlim : s₁.heap.NoLimit) (hg : s₁.gens = #[])
    (ha : s₁.heap.get? a = some { cls := .type "list", data := .seq vs.toArray }) (hi : IntsAre vs ns) (hl : ns.length ≤ sizeLine) (hr : Room k callerA)
    (F : ∀ base : Heap, K.In base → base.Ns mainGlobals mg → FnOk P w K mg base CX k fa fd [x] sp) (hbind : ∀ (s : Shared) (u : Value), BindsTo s fd ⟨[u], []⟩ [(x, u)])
    (hsp : ∀ H : Hp, Only H → SqL K H a (ns.map V.int) → sp [.ref a] H (fun v _ => v = .bl true) fun _ _ _ => False)
    (hCX : ∀ H e s', CX [] H s₁ (fun _ _ _ => False) e s' → False) :
    codeAny (model P w) callerA (.call (.ref fa) ⟨[.ref a], []⟩) (fun r s' => r = .ok (.ret (.bool true)) ∧ OldK s₁.heap s'.heap ∧ s'.os = s₁.os ∧ AllBare s'.gens) s₁ := by
  have rv := vals_ints hi
  have lenV := hi.length
  have core : ∀ H : Hp, Only H → SqL K H a (ns.map V.int) → HOk P w H s₁.heap → (∀ b, H b ≠ none → b = a) → (H a ≠ none → K.lookup a = none) →
      codeAny (model P w) callerA (.call (.ref fa) ⟨[.ref a], []⟩) (fun r s' => r = .ok (.ret (.bool true)) ∧ OldK s₁.heap s'.heap ∧ s'.os = s₁.os ∧ AllBare s'.gens) s₁ := by
    intro H hO hS hok hA hK
    have base_of : ∀ {b : Addr} {o : Obj}, s₁.heap.get? b = some o → H b = none → (hidT s₁.heap H).get? b = some o := fun e n => hidT_get e n
    have noA : ∀ {b : Addr} {o : Obj} {es : Array DictEntry} {ep : Nat}, s₁.heap.get? b = some o → o.data = .dict es ep → H b = none := fun {b o es ep} e d => by
      cases q : H b with
      | none => rfl
      | some u =>
        have e' : b = a := hA b (by rw [q]; simp)
        subst e'
        rw [ha] at e; cases e
        have d' : Data.seq vs.toArray _ = Data.dict es ep := d
        cases d'
    have nsK : ∀ {b : Addr} {m : Str → Option Value}, s₁.heap.Ns b m → (hidT s₁.heap H).Ns b m := fun {b m} ⟨o, es, ep, e, d, r⟩ => ⟨o, es, ep, base_of e (noA e d), d, r⟩
    have hKb : K.In (hidT s₁.heap H) := fun b o e => base_of (KX b o e) (by
      cases q : H b with
      | none => rfl
      | some u =>
        have e' : b = a := hA b (by rw [q]; simp)
        subst e'
        rw [hK (by rw [q]; simp)] at e; cases e)
    have hM : Mod K mg (hidT s₁.heap H) := ⟨hKb, nsK hns, ⟨mb, nsK hb, hbb⟩, let ⟨mc, h1, h2⟩ := hlim; ⟨mc, nsK h1, h2⟩⟩
    have e0 : Env0 P w K mg (hidT s₁.heap H) callerA [] s₁ H := ⟨rfl, hM, fun b o e => of_hidT e, Nat.le_of_eq (hidT_size _ _), trivial, fun b hb => absurd (show b ∈ ([] : List Addr) from hb) (by simp), hok, .of_eq hg⟩
    refine codeAny_mono ((F _ hKb (nsK hns)).run callerA [] s₁ H ⟨[.ref a], []⟩ [.ref a] [.ref a] _ _ hr e0 (hbind s₁ (.ref a)) (.cons rfl .nil) (hsp H hO hS)) fun r s' h => ?_
    cases r with
    | error e => exact (hCX H e s' h).elim
    | ok fl =>
      cases fl with
      | next => exact False.elim h
      | brk => exact False.elim h
      | cont => exact False.elim h
      | ret u =>
        obtain ⟨v, H', os, bare, un, hok', r', q⟩ := h
        have q' : v = .bl true := q
        subst q'
        obtain rfl : u = Value.bool true := r'
        refine ⟨rfl, OldK.of_keep fun b o e => ?_, os, bare⟩
        cases q : H b with
        | none => exact un.keep b o e q (by intro z; exact absurd (show b ∈ ([] : List Addr) from z) (by simp)) (by simp)
        | some u =>
          rcases hO b with z | ⟨ob, xs, z⟩
          · rw [q] at z; cases z
          · have z2 := un.frzs b ob _ z
            obtain ⟨e1, _⟩ := hok b _ z
            obtain ⟨e2, _⟩ := hok' b _ z2
            rw [e] at e1; cases e1
            exact e2
  cases hk : K.lookup a with
  | some o =>
    have e := KX a o hk
    rw [ha] at e
    cases e
    refine core (fun _ => none) (fun _ => .inl rfl) (.inr ⟨_, vs.toArray, _, hk, rfl, rfl, rfl, by rw [List.size_toArray, lenV]; exact hl, by simpa using rv⟩) (fun b u z => by have z' : (none : Option HO) = some u := z; cases z') (fun b z => absurd rfl z) fun z => absurd rfl z
  | none =>
    refine core (fun b => if b = a then some (.frz { cls := .type "list", data := .seq vs.toArray } (.lst (ns.map V.int))) else none) (fun b => ?_) (.inl (.inr ⟨{ cls := .type "list", data := .seq vs.toArray }, if_pos rfl⟩)) (fun b u z => ?_) (fun b z => ?_) fun _ => hk
    · by_cases hb : b = a
      · exact .inr ⟨_, _, if_pos hb⟩
      · exact .inl (if_neg hb)
    · by_cases hb : b = a
      · have z' := (if_pos hb).symm.trans z
        cases z'
        subst hb
        exact ⟨ha, by rw [List.length_map]; exact hl, vs, _, rv, ha⟩
      · have z' := (if_neg hb).symm.trans z
        cases z'
    · by_cases hb : b = a
      · exact hb
      · exact absurd (if_neg hb) z
end L2
namespace L2
open PySem PySem.Spec PyProof.Rows
theorem walk_of {l : PySem.W.OpenLaw} {n k : Nat} {q : Program} {loose : List Str} {XP : (Str → Option Value) → Heap → Prop} {YP : World → Heap → Prop} {d : DefRec} {K : Params → PySem.W.Frag} {CX : World → CXT} {sp : World → Sp} {x : Str}
    (hn : l.most = some n) (hn2 : n ≤ sizeLine) (hdf : d.params.defaults = []) (hr : Room k callerA)
    (hY : ∀ (w : World) (h : Heap), YP w h → (K w.params).In h)
    (F : ∀ (w : World) (mg : Str → Option Value) (fa : Addr) (h : Heap), (K w.params).In h → h.Ns mainGlobals mg → mg d.name = some (.ref fa) →
      ∃ fd : FuncData, (∀ (s : Shared) (u : Value), BindsTo s fd ⟨[u], []⟩ [(x, u)]) ∧
        ∀ base : Heap, (K w.params).In base → base.Ns mainGlobals mg → FnOk l.prog w (K w.params) mg base (CX w) k fa fd [x] (sp w))
    (hsp : ∀ (w : World) (H : Hp) (a : Addr) (ns : List Int), ns.length ≤ n → Only H → SqL (K w.params) H a (ns.map V.int) → sp w [.ref a] H (fun v _ => v = .bl true) fun _ _ _ => False)
    (hCX : ∀ (w : World) (H : Hp) (s : Shared) (e : Value) (s' : Shared), CX w [] H s (fun _ _ _ => False) e s' → False) :
    PySem.W.WalkO q loose XP YP l.row.toRowW d [] (fun f vs => PySem.call f vs) := by
  refine Att.attach_call hn hdf fun w s₀ s₁ mg mb fa o pm cd doc a vs ns G Y ho hd hcd hmg hobj hints hlen hg => ?_
  have KX := hY w _ Y
  obtain ⟨fd, hb, hF⟩ := F w mg fa _ KX G.T.g hmg
  exact law_call KX G.T.g G.T.b G.T.builtins G.T.nolimit hg hobj hints (Nat.le_trans hlen hn2) hr hF hb (fun H hO hS => hsp w H a ns hlen hO hS) fun H e s' => hCX w H s₁ e s'
end L2
namespace L2
open PySem PySem.Spec PyProof.Rows
def defArgs (s : Stmt) : Arguments := match s with
  | .FunctionDef _ a _ _ _ _ _ _ _ _ => a
  | _ => { posonlyargs := [], args := [], vararg := none, kwonlyargs := [], kw_defaults := [], kwarg := none, defaults := [] }
def defBody (s : Stmt) : List Stmt := match s with
  | .FunctionDef _ _ b _ _ _ _ _ _ _ => b
  | _ => []
def defScope (s : Stmt) : Scope := match s with
  | .FunctionDef _ _ _ _ _ _ sc _ _ _ => sc
  | _ => { kind := .function, names := [], isGenerator := false, isCoroutine := false }
abbrev CX0 : CXT := fun _ _ _ _ _ _ => False
abbrev E0 : XK := fun _ _ _ => False
theorem pass0 {X : Cx} : Passes CX0 X E0 := fun _ _ _ _ _ _ _ h => h.elim
structure Fun (K : PySem.W.Frag) (x qual : Str) (st : Stmt) (f : Addr) (fd : FuncData) : Prop where
  ex : ∃ (oc : Value) (od : Option Addr) (kV doc pm : Value) (an : Option Addr) (cdv ct : Value) (osl : Array (Option Value)),
    fd = PySem.W.fnOf x qual (defArgs st) (defBody st) (defScope st) .none kV doc pm an cdv ct ∧ K.lookup f = some ⟨oc, od, .func fd, osl⟩ ∧ PySem.W.codeIn K cdv qual = true
  kp : PySem.W.keepIn K (.ref f) = true
section
variable {P : Program} {w : World} {K : PySem.W.Frag} {mg : Str → Option Value} {base : Heap}
theorem Fun.ok {x qual : Str} {st : Stmt} {f : Addr} {fd : FuncData} {N ps : List Str} {k : Nat} {sp : Sp} (F : Fun K x qual st f fd) (S : FnScope N ps (defScope st)) (len : ∀ vs H Q E, sp vs H Q E → vs.length = ps.length)
    (hbody : ∀ (cdv : Value) (A : Around) (outer : List Env) (s : Shared) (H : Hp) (vs : List V) (Q : VK) (E : XK), Room k (A.deeper (envOfC qual (defScope st) s.heap.objs.size f cdv)) → sp vs H Q E →
      ∃ t, PSs (cxOf CX0 P w K mg base N qual (defScope st) f cdv A outer s H E).nox (defBody st) t ∧ t { nx := fun _ H' => Q .non H', rt := Q } (start N vs) H) : FnOk P w K mg base CX0 (k + 1) f fd ps sp := by
  obtain ⟨oc, od, kV, doc, pm, an, cdv, ct, osl, rfl, lk, hcd⟩ := F.ex
  refine fn_of lk hcd S len fun A outer s H vs Q E hr hsp => ?_
  obtain ⟨t, h, q⟩ := hbody cdv A outer s H vs Q E hr hsp
  exact ⟨t, h.nox, q⟩
theorem Fun.binds {x qual : Str} {st : Stmt} {f : Addr} {fd : FuncData} {ps : List Str} (F : Fun K x qual st f fd)
    (h : ∀ (kV doc pm : Value) (an : Option Addr) (cdv ct : Value) (us : List Value), us.length = ps.length → bindArgs (PySem.W.fnOf x qual (defArgs st) (defBody st) (defScope st) .none kV doc pm an cdv ct) ⟨us, []⟩ = pure (ps.zip us)) : Binds K fd ps [] := by
  obtain ⟨oc, od, kV, doc, pm, an, cdv, ct, osl, rfl, lk, hcd⟩ := F.ex
  exact .all (h kV doc pm an cdv ct)
theorem fun_mk {x qual : Str} {st : Stmt} {f : Addr} {oc : Value} {od an : Option Addr} {osl : Array (Option Value)} {kV doc pm cdv ct : Value} (l : K.lookup f = some ⟨oc, od, .func (PySem.W.fnOf x qual (defArgs st) (defBody st) (defScope st) .none kV doc pm an cdv ct), osl⟩)
    (c : PySem.W.codeIn K cdv qual = true) (k : PySem.W.keepIn K (.ref f) = true) : Fun K x qual st f (PySem.W.fnOf x qual (defArgs st) (defBody st) (defScope st) .none kV doc pm an cdv ct) := ⟨⟨oc, od, kV, doc, pm, an, cdv, ct, osl, rfl, l, c⟩, k⟩
end
theorem hu_of {A : Around} {k : Nat} (hr : Room k A) : A.units + 1 < cLine := Nat.lt_of_le_of_lt (Nat.add_le_add_left (by decide : 1 ≤ 64) _) hr.units
section
variable {X : Cx}
theorem pv (i : Nat) {x : Str} {pos : Pos} (hN : X.N[i]? = some x := by rfl) (hv : Vis X.env.scope x := by first | exact Or.inl rfl | exact Or.inr (Or.inl rfl) | exact Or.inr (Or.inr rfl)) (hd : (x == ("__debug__" : Str)) = false := by decide)
    (hcd : (x == ("__classdict__" : Str)) = false := by decide) : PE X (.Name x pos) (tVar i) := pe_var hN hv hd hcd
end
theorem iteF {A B : Prop} (h : B) : if false = true then A else B := by
  rw [if_neg Bool.false_ne_true]
  exact h
theorem iteT {A B : Prop} (h : A) : if true = true then A else B := by
  rw [if_pos rfl]
  exact h
theorem iteNS {c A B : Prop} [Decidable c] (hc : c) (h : B) : if (!decide c) = true then A else B := by
  rw [decide_eq_true hc]
  exact iteF h
def Same (H H' : Hp) : Prop := ∀ b o, H b = some o → H' b = some o
theorem Same.refl (H : Hp) : Same H H := fun _ _ h => h
theorem Same.trans {H H1 H2 : Hp} (a : Same H H1) (b : Same H1 H2) : Same H H2 := fun c o h => b c o (a c o h)
theorem Same.free {H H' : Hp} (e : Same H H') {l : Addr} (h : H' l = Option.none) : H l = Option.none := by
  cases q : H l with
  | none => rfl
  | some o =>
    rw [e l o q] at h
    cases h
theorem Same.seq {K : PySem.W.Frag} {H H' : Hp} {a : Addr} {xs : List V} (e : Same H H') (h : SqL K H a xs) : SqL K H' a xs := by
  rcases h with (h | ⟨o, h⟩) | h
  · exact .inl (.inl (e _ _ h))
  · exact .inl (.inr ⟨o, e _ _ h⟩)
  · exact .inr h
end L2
set_option maxHeartbeats 4000000
namespace Ow
open PySem PySem.Spec PyProof.Rows L2
structure Has (P : Program) (w : World) (K : PySem.W.Frag) (mg : Str → Option Value) (base : Heap) (k : Nat) (x : Str) (ps : List Str) (sp : Sp) : Prop where
  ex : ∃ (f : Addr) (fd : FuncData), FnOk P w K mg base CX0 k f fd ps sp ∧ Binds K fd ps [] ∧ PySem.W.keepIn K (.ref f) = true ∧ mg x = some (.ref f)
section
variable {X : Cx} {k : Nat} {x : Str} {ps : List Str} {sp : Sp} {p pos : Pos} {e : Expr} {es : List Expr} {t : TA}
theorem pe_fn (h : Has X.prog X.w X.K X.mg X.base k x ps sp) (hr : Room k X.A) (hg : Gl X x) (ha : PA X (e :: es) t) (hdb : (x == ("__debug__" : Str)) = false := by decide)
    (he : starEach (e :: es) X.env = (false, eval e X.env) :: starEach es X.env := by rfl) (hpl : (backTo pos (starEach es X.env)).any (·.1) = false := by rfl) :
    PE X (.Call (.Name x p) (e :: es) [] pos) (tCall sp [] E0 t) := by
  obtain ⟨f, fd, F, b, kp, m⟩ := h.ex
  exact pe_call F hr hg m kp b .nil pass0 ha hdb he hpl
theorem pe_ty {T : String} (hg : Gl X x) (hm : X.mg x = none) (hv : bootBuiltins x = some (.type T)) (hn : x ≠ "__name__" := by decide) (hd : (x == ("__debug__" : Str)) = false := by decide) : PE X (.Name x pos) (tC (.ty T)) := pe_bltn (v := .ty T) hg hm hv rfl hn hd
def clsV : V → Option Value
  | .ty n => some (.type n)
  | .ref C => some (.ref C)
  | _ => none
theorem clsV_rel {c : V} {u cv : Value} (r : RelV c u) (h : clsV c = some cv) : u = cv := by
  cases c with
  | ty n => cases h; exact r
  | ref C => cases h; exact r
  | _ => cases h
theorem call_isinst : CallR X (.builtin "isinstance") (fun xs H Q => ∃ x c t cv b, xs = [x, c] ∧ clsV c = some cv ∧ TyOf X.K H x t ∧ PySem.W.kitOne X.K t cv = some b ∧ Q (.bl b) H) := by
  intro pins s σ H xs us Q I r h
  obtain ⟨x, c, t, cv, b, rfl, hc, ty, e, q⟩ := h
  obtain ⟨u, u', rfl, rx, rc⟩ := vals2 r
  cases clsV_rel rc hc
  exact isinst_ok I rx ty e fun tk => ⟨.bl b, H, I.tok _, rfl, q⟩
theorem op_fdivB : OpR X (binaryOp .FloorDiv) (rI (fun _ j => 0 < j ∧ j.natAbs.log2 < 9000) fun i j => .int (i / j)) := opI fun i j _ _ _ _ _ hc q => by
  have h1 : (0 : Int) < j := hc.1
  exact floordiv_int (by lia) (by rw [Int.fdiv_eq_ediv_of_nonneg i (by lia)]; exact q) (.inl (PyProof.noPylong_of_log2 hc.2))
theorem op_mulB : OpR X (binaryOp .Mult) (rI (fun i j => Builtin.Int.intBits i ≤ 100000 ∧ Builtin.Int.intBits j ≤ 100000) fun i j => .int (i * j)) := opI fun _ _ _ _ _ _ _ hc q =>
  mul_int q (IntMulOk.of_bits (Nat.le_trans hc.1 (by decide)) (Nat.le_trans hc.2 (by decide)))
end
theorem kit_int_int (K : PySem.W.Frag) : PySem.W.kitOne K (.type "int") (.type "int") = some true := rfl
theorem kit_int_bool (K : PySem.W.Frag) : PySem.W.kitOne K (.type "int") (.type "bool") = some false := by with_unfolding_all rfl
theorem kit_bl_int (K : PySem.W.Frag) : PySem.W.kitOne K (.type "bool") (.type "int") = some true := by with_unfolding_all rfl
theorem kit_bl_bl (K : PySem.W.Frag) : PySem.W.kitOne K (.type "bool") (.type "bool") = some true := rfl
theorem iteD {c A B : Prop} [Decidable c] (hc : c) (h : A) : if decide c = true then A else B := by
  rw [if_pos (decide_eq_true hc)]
  exact h
theorem iteDN {c A B : Prop} [Decidable c] (hc : ¬ c) (h : B) : if decide c = true then A else B := by
  rw [if_neg (by rw [decide_eq_false hc]; decide)]
  exact h
theorem ret_true {Q : VK} {H : Hp} {c : Prop} [Decidable c] (hc : c) (q : Q (.bl true) H) : Q (.bl (decide c)) H := by
  rw [decide_eq_true hc]
  exact q
theorem ret_false {Q : VK} {H : Hp} {c : Prop} [Decidable c] (hc : ¬ c) (q : Q (.bl false) H) : Q (.bl (decide c)) H := by
  rw [decide_eq_false hc]
  exact q
theorem iteN {c A B : Prop} [Decidable c] (hc : ¬ c) (h : A) : if (!decide c) = true then A else B := by
  rw [decide_eq_false hc]
  exact iteT h
theorem p_pos (n : Nat) : (0 : Int) < 2 ^ n := Int.pow_pos (by decide)
theorem p_mono {m n : Nat} (h : m ≤ n) : (2 : Int) ^ m ≤ 2 ^ n := by
  have e : n = m + (n - m) := by lia
  rw [e, Int.pow_add]
  have h1 := p_pos m
  have h2 : (1 : Int) ≤ 2 ^ (n - m) := p_pos (n - m)
  have h3 := Int.mul_le_mul_of_nonneg_left h2 (Int.le_of_lt h1)
  rw [Int.mul_one] at h3
  exact h3
def SameX (p : Addr) (H H' : Hp) : Prop := ∀ b o, b ≠ p → H b = some o → H' b = some o
theorem same_new {H : Hp} {p : Addr} (h : H p = none) (o : HO) : Same H (L2.upd H p o) := fun b u q => by rw [upd_ne (ne_of_none q h)]; exact q
theorem getI (ns : List Int) (k : Nat) (h : k < ns.length) : atI (ns.map V.int) (k : Int) = some (.int ns[k]) := atI_nat (by rw [List.getElem?_map, List.getElem?_eq_getElem h] <;> rfl)
end Ow
namespace Ow
open PySem PySem.Spec PyProof.Rows L2
section
variable {X : Cx} {k : Nat} {x m : Str} {C : Addr} {p pos apos : Pos} {o e : Expr} {es : List Expr} {ta : TE} {t : TA}
end
end Ow
namespace Ow
open PySem PySem.Spec PyProof.Rows L2
def cxComp (X : Cx) (N : List Str) (scope : Scope) (cl : List (Str × Addr)) (C : Addr) (s2 : Shared) (H2 : Hp) (fp : List Addr) : Cx where
  prog := X.prog
  w := X.w
  K := X.K
  mg := X.mg
  base := X.base
  A := X.A
  N := N
  s₀ := s2
  H₀ := H2
  env := compEnvC scope cl C X.env
  outer := X.stack
  stack := X.stack
  ex := fp
  calm := true
  fn := fun _ => false
  pn := []
  xe := fun _ _ => False
def tComp (wi : TI) (te : TE) (cap : L2.St → L2.St) : TE := fun σ H Q => wi σ H fun J H1 => ∀ D, H1 D = none → ∃ W : Nat → Nat → Hp → Prop, (∃ m, W 0 m (upd H1 D (.lst []))) ∧ ∀ i m H, W i m H →
  (J.stop i H ∧ Q (.ref D) H) ∨ (J.go i H ∧ ∀ x H', J.yld i H x H' → te (some x :: cap σ) H' fun y H2 => ∃ ys, H2 D = some (.lst ys) ∧ ys.length < sizeLine ∧ ∃ m', m' < m ∧ W (i + 1) m' (upd H2 D (.lst (ys ++ [y]))))
section
variable {X : Cx} {elt iter : Expr} {x : Str} {px pos : Pos} {scope : Scope} {wi : TI} {te : TE} {N : List Str} {cl : List (Str × Addr)} {cap : L2.St → L2.St}
theorem pe_comp (hc : X.calm = true) (hclos : closureFor scope X.env = pure cl) (hsub : ∀ n c, cl.lookup n = some c → X.env.cells.lookup n = some c)
    (hcell : ∀ y ∈ scope.names, y.2 ≠ .cell) (hkind : scope.kind = .function) (hnames : ∀ y ∈ scope.names, y.2 = .local → scope.names.lookup y.1 = some .local) (hx : scope.names.lookup x = some .local)
    (hhas : ∀ y, (Env.kindOf (compEnvC scope cl 0 X.env) y = some .cell ∨ Env.kindOf (compEnvC scope cl 0 X.env) y = some .free) → ∃ c, cl.lookup y = some c)
    (hN : (x :: N).Nodup) (hcapl : ∀ σ, (cap σ).length = N.length)
    (hcap : ∀ (σ : L2.St) (i : Nat) (y : Str) (v : V), σ.length = X.N.length → N[i]? = some y → (cap σ)[i]? = some (some v) → (Env.kindOf (compEnvC scope cl 0 X.env) y = some .cell ∨ Env.kindOf (compEnvC scope cl 0 X.env) y = some .free) ∧ X.env.kindOf y = some .cell ∧ ∃ j : Nat, X.N[j]? = some y ∧ σ[j]? = some (some v))
    (hi : PI X (.Name x px) iter wi) (he : ∀ C s2 H2 fp, PE (cxComp X (x :: N) scope cl C s2 H2 fp) elt te)
    (hs : ∀ z, foldedSetIterable iter X.env z = pure z := by intro _; rfl) :
    PE X (.ListComp elt [⟨.Name x px, iter, [], 0⟩] scope pos) (tComp wi te cap) := by
  intro pins s σ H Q I h
  rw [eval_ListComp]
  refine wpAny_comprehension_free (use := none) rfl hs hclos hkind hnames (thn (hi pins s σ H _ I h) fun xv s1 h1 => thn h1 fun itv s2 h2 => ?_)
  obtain ⟨it, fp, tn, J, H2, e, I2, T, st2, f2, hW⟩ := h2
  subst e
  have hD : H2 s2.heap.objs.size = none := I2.hok.fresh (Nat.le_refl _)
  obtain ⟨W, ⟨m0, w0⟩, turn⟩ := hW s2.heap.objs.size hD
  refine wpAny_newObj_type (wpAny_newFunctionEnv hcell (by intro y hy; simp at hy) (fun h4 hns4 hsb4 => ?_) hkind) (by show 0 ≤ sizeLine; decide)
  dsimp only at hns4 hsb4 ⊢
  generalize hH3 : s2.heap.push { cls := .type "list", dict := none, data := .seq ([] : List Value).toArray } = H3 at hns4 hsb4 ⊢
  have hCz : H3.objs.size = s2.heap.objs.size + 1 := by rw [← hH3, Heap.size_push]
  have old3 : ∀ b o, s2.heap.get? b = some o → H3.get? b = some o := fun b o e => hH3 ▸ Heap.get?_push_of_some _ e
  have eD3 : H3.get? s2.heap.objs.size = some { cls := .type "list", dict := none, data := .seq ([] : List Value).toArray } := hH3 ▸ Heap.get?_push_size _ rfl
  have old4 : ∀ b o, H3.get? b = some o → h4.get? b = some o := fun b o e => hsb4.extBut b o (Nat.ne_of_lt (Heap.lt_size e)) (Heap.get?_push_of_some _ e)
  have old : ∀ b o, s2.heap.get? b = some o → h4.get? b = some o := fun b o e => old4 b o (old3 b o e)
  have szC : s2.heap.objs.size < H3.objs.size := by rw [hCz]; exact Nat.lt_succ_self _
  have fpC : ∀ b ∈ fp, b ≠ H3.objs.size := fun b hb => by
    obtain ⟨o, ho, _⟩ := T.obj 0 _ st2 b hb
    exact Nat.ne_of_lt (Nat.lt_trans (Heap.lt_size ho) szC)
  have ok' : (cxComp X (x :: N) scope cl H3.objs.size s2 H2 fp).Ok := by
    refine ⟨I2.ok.mod, hkind, I2.ok.glob, I2.ok.blt, (Nat.le_of_lt szC), fun a b c e1 e2 => I2.ok.inj a b c (hsub a c e1) (hsub b c e2), fun y hy => hhas y hy, fun y c z _ => absurd (show false = true from z) (by decide),
      fun _ => I2.ok.hd hc, I2.ok.frames, .inl rfl, fun b hb => ⟨fpC b hb, fun y c e => (f2 b hb).2.2.2.2.1 y c (hsub y c e)⟩, I2.bs, Nat.le_trans I2.ok.bsz I2.sz, fun b o e hb => ?_, fun b hb z => ?_, I2.stack, I2.stkFree⟩
    · rcases (f2 b hb).2.2.2.1 with q | q
      · exact I2.ok.noex b o e q
      · exact absurd (Nat.lt_of_lt_of_le (Heap.lt_size e) (Nat.le_trans I2.ok.bsz q)) (Nat.lt_irrefl _)
    · rcases List.mem_cons.mp (I2.stkSub b z) with q | q
      · exact (f2 b hb).2.1 q
      · exact (f2 b hb).2.2.1 q
  have okD : ObjOk X.prog X.w (upd H2 s2.heap.objs.size (.lst [])) h4 s2.heap.objs.size (.lst []) := ⟨Nat.zero_le _, [], 0, .nil, old4 _ _ eD3⟩
  have I4 : Inv (cxComp X (x :: N) scope cl H3.objs.size s2 H2 fp) [] (none :: cap σ) (upd H2 s2.heap.objs.size (.lst [])) { s2 with heap := h4, toks := s2.toks + ([] : List (Str × Value)).length } := by
    refine ⟨ok', rfl, I2.bare, Un.laid old (Nat.le_refl _) hD, ⟨_, hns4, fun i y v e1 e2 _ => ?_⟩, fun y c e => ?_, ?_, fun y c e => ?_, fun p hp => absurd hp (by show p ∉ ([] ++ [] : List (Addr × Obj)); simp), I2.hok.laid old (Nat.le_refl _) okD, ?_⟩
    · cases i with
      | zero => simp at e2
      | succ i =>
        obtain ⟨k1, k2, j, e3, e4⟩ := hcap σ i y v I2.len (show N[i]? = some y from e1) (show (cap σ)[i]? = some (some v) from e2)
        obtain ⟨m, _, hl⟩ := I2.loc
        obtain ⟨u, ru, lk⟩ := hl j y v e3 e4 (.inr (.inl k2))
        refine ⟨u, ru, .inr ⟨k1, ?_⟩⟩
        rcases lk with ⟨z, _⟩ | ⟨_, c, e5, hcl⟩
        · rw [k2] at z; cases z
        · obtain ⟨c', e6⟩ := hhas y k1
          have : c' = c := by
            have := hsub y c' e6
            rw [e5] at this
            exact (Option.some.inj this).symm
          subst this
          obtain ⟨oc, ho, hd⟩ := hcl
          exact ⟨c', e6, oc, old _ _ ho, hd⟩
    · obtain ⟨v, oc, ho, hd⟩ := I2.cell y c (hsub y c e)
      exact ⟨v, oc, old _ _ ho, hd⟩
    · show upd H2 s2.heap.objs.size (.lst []) H3.objs.size = none
      rw [upd_ne (Nat.ne_of_gt szC)]
      exact I2.hok.fresh (Nat.le_of_lt szC)
    · have h1 := I2.freeC y c (hsub y c e)
      obtain ⟨v, oc, ho, _⟩ := I2.cell y c (hsub y c e)
      rw [upd_ne (Nat.ne_of_lt (Heap.lt_size ho))]
      exact h1
    · show (none :: cap σ).length = (x :: N).length
      simp [hcapl]
  have stat : ∀ {H' : Hp}, (∀ b ∈ fp, H' b = none) → ∀ b ∈ fp, FpOk (cxComp X (x :: N) scope cl H3.objs.size s2 H2 fp) [] H' b := fun {H'} hn b hb =>
    ⟨hn b hb, (ok'.exf b hb).1, ok'.exfs b hb, .inl hb, (ok'.exf b hb).2, fun p hp => absurd hp (by show p ∉ ([] ++ [] : List (Addr × Obj)); simp)⟩
  have loop : codeAny (model X.prog X.w) X.A (.compLoop (.ListComp elt [⟨.Name x px, iter, [], 0⟩] scope pos) 0 (.ref it) (.ref s2.heap.objs.size) (compEnvC scope cl H3.objs.size X.env))
      (compPost (model X.prog X.w) X.A X.xe none (EP X pins σ Q) (.ref s2.heap.objs.size) H3.objs.size) { s2 with heap := h4, toks := s2.toks + ([] : List (Str × Value)).length } := by
    refine codeAny_compLoop_list (fun n s' => ∃ (i : Nat) (z0 : Option V) (H' : Hp), Inv (cxComp X (x :: N) scope cl H3.objs.size s2 H2 fp) [] (z0 :: cap σ) H' s' ∧ tn i s'.heap ∧ (∀ b ∈ fp, H' b = none) ∧ W i n H') ?_ m0
      ⟨0, none, _, I4, T.keep 0 _ _ st2 (fun b _ o e => old b o e), fun b hb => ?_, w0⟩
    · rintro n s5 ⟨i, z0, H5, I5, st5, fr5, w5⟩
      rcases turn i n H5 w5 with ⟨stop, qn⟩ | ⟨go, step⟩
      · refine wpAny_mono (T.done (cxComp X (x :: N) scope cl H3.objs.size s2 H2 fp) rfl rfl rfl rfl i [] s5 _ H5 _ I5 (stat fr5) st5 stop) (fun r s6 ⟨hr, I6⟩ => ?_) fun _ _ z => z
        subst hr
        obtain ⟨m, hn6, _⟩ := id I6.loc
        refine ⟨m, hn6, fun h' sb => ⟨.ref s2.heap.objs.size, H5, ?_, rfl, qn⟩⟩
        have kp : ∀ b o, b ≠ H3.objs.size → s6.heap.get? b = some o → h'.get? b = some o := fun b o hb e => sb.extBut b o hb e
        have nC : ∀ b o, s2.heap.get? b = some o → b ≠ H3.objs.size := fun b o e => Nat.ne_of_lt (Nat.lt_trans (Heap.lt_size e) szC)
        have fC : H5 H3.objs.size = none := I6.free
        refine I2.call' (ch := fp) (s' := { s6 with heap := h' }) I6.os ?_ ?_ I6.bare fun b hb => ⟨(f2 b hb).2.2.2.1, (f2 b hb).2.1, (f2 b hb).2.2.2.2.1, (f2 b hb).2.2.2.2.2⟩
        · have U : Un (frs X.stack) fp H2 H5 s2.heap s6.heap := I6.base
          exact ⟨fun b o e n1 n2 n3 => kp b o (nC b o e) (U.keep b o e n1 n2 n3), fun b o e n1 n2 n3 => by
              obtain ⟨sl, q⟩ := U.slot b o e n1 n2 n3
              exact ⟨sl, kp b _ (nC b o e) q⟩, U.free, fun b o e n3 => by
              obtain ⟨o', q⟩ := U.there b o e n3
              exact ⟨o', kp b _ (nC b o e) q⟩, U.tups, U.frzs, U.tbls⟩
        · intro b u e
          refine (I6.hok b u e).stay (fun c v hc q => kp c v (fun z => ?_) q) (fun _ q => q) fun _ _ q => q
          rcases hc with y | y
          · rw [← y, z, fC] at e
            cases e
          · rw [z, fC] at y
            cases y
      · refine wpAny_mono (T.item (cxComp X (x :: N) scope cl H3.objs.size s2 H2 fp) rfl rfl rfl rfl i [] s5 _ H5 _ I5 (stat fr5) st5 go) (fun r s6 ⟨u, hr, h6⟩ => ?_) fun _ _ z => z
        subst hr
        have key : (letOwnedTupleGo (.Name x px) (.ref it) u >>= fun _ => assign (.Name x px) (compEnvC scope cl H3.objs.size X.env) u) = assign (.Name x px) (compEnvC scope cl H3.objs.size X.env) u := by first | rfl | exact pure_bind _ _
        dsimp only
        rw [← key]
        refine wpAny_bind (wpAny_mono h6 (fun _ s7 ⟨v, H7, I7, r7, y7, st7, fr7⟩ => ?_) fun _ _ z => z)
        have I7' := I7.pinned (stat fr7) (T.obj _ _ st7)
        refine wpAny_assign_Name (store_ok (i := 0) I7' hN rfl (.inl (lookup_relabel_local hx)) r7 (fun s8 I8 => ?_) (.inr (lookup_relabel_local hx)))
        refine wpAny_mono (he H3.objs.size s2 H2 fp _ s8 (some v :: cap σ) H7 _ I8 (step v H7 y7)) (fun w9 s9 ⟨y, H9, I9, r9, ys, hys, hlt, m', hm, w9'⟩ => ?_) fun _ _ z => z.elim
        refine wpAny_mono (mt_append (X := cxComp X (x :: N) scope cl H3.objs.size s2 H2 fp) _ s9 _ H9 (.ref s2.heap.objs.size) [y] _ [w9] (fun _ Hn => Hn = upd H9 s2.heap.objs.size (.lst (ys ++ [y]))) I9 rfl (.cons r9 .nil) ⟨_, ys, y, rfl, rfl, hys, hlt, rfl⟩) (fun _ s10 ⟨_, H10, I10, _, e10⟩ => ?_) fun _ _ z => z.elim
        subst e10
        refine ⟨m', hm, i + 1, some v, _, I10.unpinned, T.keep _ _ _ st7 fun b hb o e => (I10.pin (b, o) (List.mem_append_right _ (List.mem_append_right _ (mem_pinsAt hb e)))).1, fun b hb => ?_, w9'⟩
        obtain ⟨o, e, d⟩ := T.obj _ _ st7 b hb
        exact (I10.pin (b, o) (List.mem_append_right _ (List.mem_append_right _ (mem_pinsAt hb e)))).2.1
    · obtain ⟨o, ho, _⟩ := T.obj 0 _ st2 b hb
      rw [upd_ne (Nat.ne_of_lt (Heap.lt_size ho))]
      exact (f2 b hb).1
  exact codeAny_compStart_list loop (T.self X.A 0 _ _ _ (T.keep 0 _ _ st2 (fun b _ o e => old b o e)) loop)
theorem pe_comp0 (hc : X.calm = true) (hclos : closureFor scope X.env = pure []) (hno : ∀ p ∈ scope.names, p.2 ≠ .cell ∧ p.2 ≠ .free) (hkind : scope.kind = .function)
    (hnames : ∀ y ∈ scope.names, y.2 = .local → scope.names.lookup y.1 = some .local) (hx : scope.names.lookup x = some .local)
    (hi : PI X (.Name x px) iter wi) (he : ∀ C s2 H2 fp, PE (cxComp X [x] scope [] C s2 H2 fp) elt te)
    (hs : ∀ z, foldedSetIterable iter X.env z = pure z := by intro _; rfl) :
    PE X (.ListComp elt [⟨.Name x px, iter, [], 0⟩] scope pos) (tComp wi te fun _ => []) := by
  refine pe_comp (N := []) (cl := []) hc hclos (fun _ _ e => nomatch e) (fun y hy => (hno y hy).1) hkind hnames hx (fun y hy => ?_) (by simp) (fun _ => rfl) (fun _ i y v _ e _ => by simp at e) hi he hs
  exfalso
  have sub : ∀ (l : List (Str × NameKind)), (∀ p ∈ l, p.2 ≠ .cell ∧ p.2 ≠ .free) → ∀ p ∈ (l.map fun (n, k) => if (k == NameKind.free && X.env.scope.kind == ScopeKind.function && X.env.kindOf n == some NameKind.cell) then (n, NameKind.cell) else (n, k)), p.2 ≠ .cell ∧ p.2 ≠ .free := by
    intro l hl p hp
    obtain ⟨q, hq, e⟩ := List.mem_map.mp hp
    have h1 := hl q hq
    obtain ⟨n, k⟩ := q
    have hf : (k == NameKind.free) = false := by
      cases k <;> first | rfl | exact absurd rfl h1.2
    rw [← e]
    dsimp only
    rw [hf, Bool.false_and, Bool.false_and, if_neg (by decide)]
    exact h1
  have mem : ∀ k, Env.kindOf (compEnvC scope [] 0 X.env) y = some k → k ≠ .cell ∧ k ≠ .free := fun k e => sub scope.names hno (y, k) (PySem.mem_of_lookup e)
  rcases hy with z | z
  · exact (mem _ z).1 rfl
  · exact (mem _ z).2 rfl
theorem ps_comp {i : Nat} {y : Str} {py spos : Pos} (hNX : X.N.Nodup) (hiy : X.N[i]? = some y) (hly : Loc X.env.scope y) (hsw : swapsWith (.ListComp elt [⟨.Name x px, iter, [], 0⟩] scope pos) (some (.Name y py)) spos.line X.env = pure true) (hc : X.calm = true) (hclos : closureFor scope X.env = pure cl) (hsub : ∀ n c, cl.lookup n = some c → X.env.cells.lookup n = some c)
    (hcell : ∀ y ∈ scope.names, y.2 ≠ .cell) (hkind : scope.kind = .function) (hnames : ∀ y ∈ scope.names, y.2 = .local → scope.names.lookup y.1 = some .local) (hx : scope.names.lookup x = some .local)
    (hhas : ∀ y, (Env.kindOf (compEnvC scope cl 0 X.env) y = some .cell ∨ Env.kindOf (compEnvC scope cl 0 X.env) y = some .free) → ∃ c, cl.lookup y = some c)
    (hN : (x :: N).Nodup) (hcapl : ∀ σ, (cap σ).length = N.length)
    (hcap : ∀ (σ : L2.St) (i : Nat) (y : Str) (v : V), σ.length = X.N.length → N[i]? = some y → (cap σ)[i]? = some (some v) → (Env.kindOf (compEnvC scope cl 0 X.env) y = some .cell ∨ Env.kindOf (compEnvC scope cl 0 X.env) y = some .free) ∧ X.env.kindOf y = some .cell ∧ ∃ j : Nat, X.N[j]? = some y ∧ σ[j]? = some (some v))
    (hi : PI X (.Name x px) iter wi) (he : ∀ C s2 H2 fp, PE (cxComp X (x :: N) scope cl C s2 H2 fp) elt te)
    (hs : ∀ z, foldedSetIterable iter X.env z = pure z := by intro _; rfl) (hf : X.fn y = true ∨ X.env.scope.names.lookup y = some .local := by first | exact .inl rfl | exact .inr rfl | assumption) :
    PS X (.Assign [.Name y py] (.ListComp elt [⟨.Name x px, iter, [], 0⟩] scope pos) spos) (tAsg (tComp wi te cap) (gName i)) := by
  intro pins s σ H DD I h
  rw [exec_Assign_Name_used _ _ _ _ hsw]
  refine wpAny_bind (wpAny_standAt (wpAny_bind ?_))
  show wpAny _ X.A (do let _ ← comprehension (.ListComp elt [⟨.Name x px, iter, [], 0⟩] scope pos) scope X.env _ (newList []) false (eval iter X.env) (some (assign (.Name y py) X.env))) _ _ s
  refine wpAny_bind (wpAny_mono (wpAny_comprehension_free (use := some (assign (.Name y py) X.env)) (Q := fun _ s' => SP X pins DD .next s') rfl hs hclos hkind hnames (thn (hi pins s σ H _ I h) fun xv s1 h1 => thn h1 fun itv s2 h2 => ?_)) (fun _ s' hq => wpAny_pure (wpAny_pure hq)) fun _ _ e => e)
  obtain ⟨it, fp, tn, J, H2, e, I2, T, st2, f2, hW⟩ := h2
  subst e
  have hD : H2 s2.heap.objs.size = none := I2.hok.fresh (Nat.le_refl _)
  obtain ⟨W, ⟨m0, w0⟩, turn⟩ := hW s2.heap.objs.size hD
  refine wpAny_newObj_type (wpAny_newFunctionEnv hcell (by intro y hy; simp at hy) (fun h4 hns4 hsb4 => ?_) hkind) (by show 0 ≤ sizeLine; decide)
  dsimp only at hns4 hsb4 ⊢
  generalize hH3 : s2.heap.push { cls := .type "list", dict := none, data := .seq ([] : List Value).toArray } = H3 at hns4 hsb4 ⊢
  have hCz : H3.objs.size = s2.heap.objs.size + 1 := by rw [← hH3, Heap.size_push]
  have old3 : ∀ b o, s2.heap.get? b = some o → H3.get? b = some o := fun b o e => hH3 ▸ Heap.get?_push_of_some _ e
  have eD3 : H3.get? s2.heap.objs.size = some { cls := .type "list", dict := none, data := .seq ([] : List Value).toArray } := hH3 ▸ Heap.get?_push_size _ rfl
  have old4 : ∀ b o, H3.get? b = some o → h4.get? b = some o := fun b o e => hsb4.extBut b o (Nat.ne_of_lt (Heap.lt_size e)) (Heap.get?_push_of_some _ e)
  have old : ∀ b o, s2.heap.get? b = some o → h4.get? b = some o := fun b o e => old4 b o (old3 b o e)
  have szC : s2.heap.objs.size < H3.objs.size := by rw [hCz]; exact Nat.lt_succ_self _
  have fpC : ∀ b ∈ fp, b ≠ H3.objs.size := fun b hb => by
    obtain ⟨o, ho, _⟩ := T.obj 0 _ st2 b hb
    exact Nat.ne_of_lt (Nat.lt_trans (Heap.lt_size ho) szC)
  have ok' : (cxComp X (x :: N) scope cl H3.objs.size s2 H2 fp).Ok := by
    refine ⟨I2.ok.mod, hkind, I2.ok.glob, I2.ok.blt, (Nat.le_of_lt szC), fun a b c e1 e2 => I2.ok.inj a b c (hsub a c e1) (hsub b c e2), fun y hy => hhas y hy, fun y c z _ => absurd (show false = true from z) (by decide),
      fun _ => I2.ok.hd hc, I2.ok.frames, .inl rfl, fun b hb => ⟨fpC b hb, fun y c e => (f2 b hb).2.2.2.2.1 y c (hsub y c e)⟩, I2.bs, Nat.le_trans I2.ok.bsz I2.sz, fun b o e hb => ?_, fun b hb z => ?_, I2.stack, I2.stkFree⟩
    · rcases (f2 b hb).2.2.2.1 with q | q
      · exact I2.ok.noex b o e q
      · exact absurd (Nat.lt_of_lt_of_le (Heap.lt_size e) (Nat.le_trans I2.ok.bsz q)) (Nat.lt_irrefl _)
    · rcases List.mem_cons.mp (I2.stkSub b z) with q | q
      · exact (f2 b hb).2.1 q
      · exact (f2 b hb).2.2.1 q
  have okD : ObjOk X.prog X.w (upd H2 s2.heap.objs.size (.lst [])) h4 s2.heap.objs.size (.lst []) := ⟨Nat.zero_le _, [], 0, .nil, old4 _ _ eD3⟩
  have I4 : Inv (cxComp X (x :: N) scope cl H3.objs.size s2 H2 fp) [] (none :: cap σ) (upd H2 s2.heap.objs.size (.lst [])) { s2 with heap := h4, toks := s2.toks + ([] : List (Str × Value)).length } := by
    refine ⟨ok', rfl, I2.bare, Un.laid old (Nat.le_refl _) hD, ⟨_, hns4, fun i y v e1 e2 _ => ?_⟩, fun y c e => ?_, ?_, fun y c e => ?_, fun p hp => absurd hp (by show p ∉ ([] ++ [] : List (Addr × Obj)); simp), I2.hok.laid old (Nat.le_refl _) okD, ?_⟩
    · cases i with
      | zero => simp at e2
      | succ i =>
        obtain ⟨k1, k2, j, e3, e4⟩ := hcap σ i y v I2.len (show N[i]? = some y from e1) (show (cap σ)[i]? = some (some v) from e2)
        obtain ⟨m, _, hl⟩ := I2.loc
        obtain ⟨u, ru, lk⟩ := hl j y v e3 e4 (.inr (.inl k2))
        refine ⟨u, ru, .inr ⟨k1, ?_⟩⟩
        rcases lk with ⟨z, _⟩ | ⟨_, c, e5, hcl⟩
        · rw [k2] at z; cases z
        · obtain ⟨c', e6⟩ := hhas y k1
          have : c' = c := by
            have := hsub y c' e6
            rw [e5] at this
            exact (Option.some.inj this).symm
          subst this
          obtain ⟨oc, ho, hd⟩ := hcl
          exact ⟨c', e6, oc, old _ _ ho, hd⟩
    · obtain ⟨v, oc, ho, hd⟩ := I2.cell y c (hsub y c e)
      exact ⟨v, oc, old _ _ ho, hd⟩
    · show upd H2 s2.heap.objs.size (.lst []) H3.objs.size = none
      rw [upd_ne (Nat.ne_of_gt szC)]
      exact I2.hok.fresh (Nat.le_of_lt szC)
    · have h1 := I2.freeC y c (hsub y c e)
      obtain ⟨v, oc, ho, _⟩ := I2.cell y c (hsub y c e)
      rw [upd_ne (Nat.ne_of_lt (Heap.lt_size ho))]
      exact h1
    · show (none :: cap σ).length = (x :: N).length
      simp [hcapl]
  have stat : ∀ {H' : Hp}, (∀ b ∈ fp, H' b = none) → ∀ b ∈ fp, FpOk (cxComp X (x :: N) scope cl H3.objs.size s2 H2 fp) [] H' b := fun {H'} hn b hb =>
    ⟨hn b hb, (ok'.exf b hb).1, ok'.exfs b hb, .inl hb, (ok'.exf b hb).2, fun p hp => absurd hp (by show p ∉ ([] ++ [] : List (Addr × Obj)); simp)⟩
  have loop : codeAny (model X.prog X.w) X.A (.compLoop (.ListComp elt [⟨.Name x px, iter, [], 0⟩] scope pos) 0 (.ref it) (.ref s2.heap.objs.size) (compEnvC scope cl H3.objs.size X.env))
      (compPost (model X.prog X.w) X.A X.xe (some (assign (.Name y py) X.env)) (fun _ s' => SP X pins DD .next s') (.ref s2.heap.objs.size) H3.objs.size) { s2 with heap := h4, toks := s2.toks + ([] : List (Str × Value)).length } := by
    refine codeAny_compLoop_list (fun n s' => ∃ (i : Nat) (z0 : Option V) (H' : Hp), Inv (cxComp X (x :: N) scope cl H3.objs.size s2 H2 fp) [] (z0 :: cap σ) H' s' ∧ tn i s'.heap ∧ (∀ b ∈ fp, H' b = none) ∧ W i n H') ?_ m0
      ⟨0, none, _, I4, T.keep 0 _ _ st2 (fun b _ o e => old b o e), fun b hb => ?_, w0⟩
    · rintro n s5 ⟨i, z0, H5, I5, st5, fr5, w5⟩
      rcases turn i n H5 w5 with ⟨stop, qn⟩ | ⟨go, step⟩
      · refine wpAny_mono (T.done (cxComp X (x :: N) scope cl H3.objs.size s2 H2 fp) rfl rfl rfl rfl i [] s5 _ H5 _ I5 (stat fr5) st5 stop) (fun r s6 ⟨hr, I6⟩ => ?_) fun _ _ z => z
        subst hr
        obtain ⟨m, hn6, _⟩ := id I6.loc
        have I6X : Inv X pins σ H5 s6 := I2.call' (ch := fp) (s' := s6) I6.os I6.base I6.hok I6.bare fun b hb => ⟨(f2 b hb).2.2.2.1, (f2 b hb).2.1, (f2 b hb).2.2.2.2.1, (f2 b hb).2.2.2.2.2⟩
        have fC : H5 H3.objs.size = none := I6.free
        have nL : H3.objs.size ≠ X.env.locals := Ne.symm (Nat.ne_of_lt (Nat.lt_trans I2.lt szC))
        have nCl : ∀ z c, X.env.cells.lookup z = some c → c ≠ H3.objs.size := fun z c e => by
          obtain ⟨v, oc, ho, _⟩ := I2.cell z c e
          exact Nat.ne_of_lt (Nat.lt_trans (Heap.lt_size ho) szC)
        refine wpAny_assign_Name (store_ok2 I6X hNX hiy hly (v := .ref s2.heap.objs.size) rfl (fun s7 I7 ⟨ad, sb7, had⟩ => ?_) hf)
        have nA : H3.objs.size ≠ ad := by
          rcases had with e | e
          · rw [e]; exact nL
          · exact Ne.symm (nCl _ _ e)
        refine ⟨m, hn6.sameBut sb7 nA, fun h' sb => ⟨_, H5, ?_, qn⟩⟩
        refine I7.turned (it := H3.objs.size) (t' := s7.toks) (fun b o hb e => sb.extBut b o hb e) fC nL (.inr (Nat.le_trans I2.sz (Nat.le_of_lt szC))) nCl fun p hp => ?_
        exact Nat.ne_of_lt (Nat.lt_trans (Heap.lt_size (I2.pin p hp).1) szC)
      · refine wpAny_mono (T.item (cxComp X (x :: N) scope cl H3.objs.size s2 H2 fp) rfl rfl rfl rfl i [] s5 _ H5 _ I5 (stat fr5) st5 go) (fun r s6 ⟨u, hr, h6⟩ => ?_) fun _ _ z => z
        subst hr
        have key : (letOwnedTupleGo (.Name x px) (.ref it) u >>= fun _ => assign (.Name x px) (compEnvC scope cl H3.objs.size X.env) u) = assign (.Name x px) (compEnvC scope cl H3.objs.size X.env) u := by first | rfl | exact pure_bind _ _
        dsimp only
        rw [← key]
        refine wpAny_bind (wpAny_mono h6 (fun _ s7 ⟨v, H7, I7, r7, y7, st7, fr7⟩ => ?_) fun _ _ z => z)
        have I7' := I7.pinned (stat fr7) (T.obj _ _ st7)
        refine wpAny_assign_Name (store_ok (i := 0) I7' hN rfl (.inl (lookup_relabel_local hx)) r7 (fun s8 I8 => ?_) (.inr (lookup_relabel_local hx)))
        refine wpAny_mono (he H3.objs.size s2 H2 fp _ s8 (some v :: cap σ) H7 _ I8 (step v H7 y7)) (fun w9 s9 ⟨yv, H9, I9, r9, ys, hys, hlt, m', hm, w9'⟩ => ?_) fun _ _ z => z.elim
        refine wpAny_mono (mt_append (X := cxComp X (x :: N) scope cl H3.objs.size s2 H2 fp) _ s9 _ H9 (.ref s2.heap.objs.size) [yv] _ [w9] (fun _ Hn => Hn = upd H9 s2.heap.objs.size (.lst (ys ++ [yv]))) I9 rfl (.cons r9 .nil) ⟨_, ys, yv, rfl, rfl, hys, hlt, rfl⟩) (fun _ s10 ⟨_, H10, I10, _, e10⟩ => ?_) fun _ _ z => z.elim
        subst e10
        refine ⟨m', hm, i + 1, some v, _, I10.unpinned, T.keep _ _ _ st7 fun b hb o e => (I10.pin (b, o) (List.mem_append_right _ (List.mem_append_right _ (mem_pinsAt hb e)))).1, fun b hb => ?_, w9'⟩
        obtain ⟨o, e, d⟩ := T.obj _ _ st7 b hb
        exact (I10.pin (b, o) (List.mem_append_right _ (List.mem_append_right _ (mem_pinsAt hb e)))).2.1
    · obtain ⟨o, ho, _⟩ := T.obj 0 _ st2 b hb
      rw [upd_ne (Nat.ne_of_lt (Heap.lt_size ho))]
      exact (f2 b hb).1
  exact codeAny_compStart_list loop (T.self X.A 0 _ _ _ (T.keep 0 _ _ st2 (fun b _ o e => old b o e)) loop)
theorem comp_list {K : PySem.W.Frag} {a D : Addr} {xs : List V} {te' : TE} {tl : L2.St} {G : Hp → Prop} {H1 : Hp} (Pv : Nat → Hp → Prop) (h0 : Pv 0 (upd H1 D (.lst []))) (hl : ∀ i H, i ≤ xs.length → Pv i H → SqL K H a xs)
    (hs : ∀ i x H, xs[i]? = some x → Pv i H → te' (some x :: tl) H fun y H2 => ∃ ys, H2 D = some (.lst ys) ∧ ys.length < sizeLine ∧ ∃ m', m' < xs.length - i ∧ (m' = xs.length - (i + 1) ∧ i + 1 ≤ xs.length ∧ Pv (i + 1) (upd H2 D (.lst (ys ++ [y])))))
    (hd : ∀ H, Pv xs.length H → G H) :
    ∃ W : Nat → Nat → Hp → Prop, (∃ m, W 0 m (upd H1 D (.lst []))) ∧ ∀ i m H, W i m H →
      ((Itl K a).stop i H ∧ G H) ∨ ((Itl K a).go i H ∧ ∀ x H', (Itl K a).yld i H x H' → te' (some x :: tl) H' fun y H2 => ∃ ys, H2 D = some (.lst ys) ∧ ys.length < sizeLine ∧ ∃ m', m' < m ∧ W (i + 1) m' (upd H2 D (.lst (ys ++ [y])))) := by
  refine ⟨fun i m H => m = xs.length - i ∧ i ≤ xs.length ∧ Pv i H, ⟨xs.length, by simp, Nat.zero_le _, h0⟩, ?_⟩
  rintro i m H ⟨rfl, hi, p⟩
  have q := hl i H hi p
  by_cases hlt : i < xs.length
  · refine .inr ⟨⟨xs, xs[i], q, by simp [hlt]⟩, fun x H' y => ?_⟩
    obtain ⟨e, y⟩ := y
    subst e
    exact hs i x _ (y xs q) p
  · have e : i = xs.length := by lia
    subst e
    exact .inl ⟨⟨xs, q, Nat.le_refl _⟩, hd H p⟩
end
def tJoin (t u : TS) : TS := fun D σ H => ∃ J : L2.St → Hp → Prop, t { D with nx := J } σ H ∧ ∀ σ' H', J σ' H' → u D σ' H'
theorem pss_join {X : Cx} {st : Stmt} {rest : List Stmt} {t u : TS} (h1 : PS X st t) (h2 : PSs X rest u) : PSs X (st :: rest) (tJoin t u) := by
  intro pins s σ H D I h
  obtain ⟨J, h, hJ⟩ := h
  refine wpAny_execs_cons (thn (h1 pins s σ H { D with nx := J } I h) fun f s1 q => ?_)
  cases f with
  | next =>
    obtain ⟨σ', H', I', q⟩ := q
    exact h2 pins s1 σ' H' D I' (hJ _ _ q)
  | ret v => exact q
  | brk => exact q
  | cont => exact q
end Ow
namespace Ow
open PySem PySem.Spec PyProof.Rows L2
def eqVs (xs ys : List V) : Bool := (List.range (min xs.length ys.length)).all (fun j => eqV (xs.getD j .non) (ys.getD j .non)) && xs.length == ys.length
section
variable {X : Cx}
theorem flat_at {xs : List V} (h : xs.all flatV = true) {j : Nat} (hj : j < xs.length) : flatV (xs.getD j .non) = true := by
  rw [List.getD_eq_getElem?_getD, List.getElem?_eq_getElem hj]
  exact List.all_eq_true.mp h _ (List.getElem_mem hj)
theorem vals_at {xs : List V} {us : List Value} (r : Vals xs us) {j : Nat} (h1 : j < us.length) : RelV (xs.getD j .non) us[j] := by
  have hl := r.length
  have hj : j < xs.length := by lia
  obtain ⟨u, hu, ru⟩ := r.get (i := j) (x := xs[j]) (List.getElem?_eq_getElem hj)
  rw [List.getElem?_eq_getElem h1] at hu
  rw [List.getD_eq_getElem?_getD, List.getElem?_eq_getElem hj]
  cases hu
  exact ru
def rEqT (K : PySem.W.Frag) : R2 := fun x y H Q => ∃ p q xs ys, x = .ref p ∧ y = .ref q ∧ SqT K H p xs ∧ SqT K H q ys ∧ xs.all flatV = true ∧ ys.all flatV = true ∧ Q (.bl (eqVs xs ys)) H
theorem op_eqT (hu : X.A.units < cLine) : OpR X (compareOp .Eq) (rEqT X.K) := by
  intro pins s σ H x y v u Q I rx ry h
  obtain ⟨p, q, xs, ys, rfl, rfl, hp, hq, fx, fy, k⟩ := h
  cases rx
  cases ry
  obtain ⟨its, r, pl, hz⟩ := I.tuple hp
  obtain ⟨its2, r2, pl2, hz2⟩ := I.tuple hq
  refine SeqAt.eq_tupleAt (e := fun j => eqV (xs.getD j .non) (ys.getD j .non)) pl pl2 hu (fun j h1 h2 => ?_) ⟨.bl _, H, I, rfl, ?_⟩
  · have h1' : j < its.length := by simpa using h1
    have h2' : j < its2.length := by simpa using h2
    have a := vals_at r h1'
    have b := vals_at r2 h2'
    have hl := r.length
    have hl2 := r2.length
    have := eqAt_V (A := X.A.in1) (s := s) a b (flat_at fx (by lia)) (flat_at fy (by lia))
    simpa using this
  · have hl := r.length
    have hl2 := r2.length
    have e : ((List.range (min its.toArray.size its2.toArray.size)).all (fun j => eqV (xs.getD j .non) (ys.getD j .non)) && its.toArray.size == its2.toArray.size) = eqVs xs ys := by
      simp only [List.size_toArray, eqVs, hl, hl2]
    rw [e]
    exact k
def rNeT (K : PySem.W.Frag) : R2 := fun x y H Q => ∃ p q xs ys, x = .ref p ∧ y = .ref q ∧ SqT K H p xs ∧ SqT K H q ys ∧ xs.all flatV = true ∧ ys.all flatV = true ∧ Q (.bl (!eqVs xs ys)) H
theorem op_neT (hu : X.A.units < cLine) : OpR X (compareOp .NotEq) (rNeT X.K) := by
  intro pins s σ H x y v u Q I rx ry h
  obtain ⟨p, q, xs, ys, rfl, rfl, hp, hq, fx, fy, k⟩ := h
  cases rx
  cases ry
  obtain ⟨its, r, pl, hz⟩ := I.tuple hp
  obtain ⟨its2, r2, pl2, hz2⟩ := I.tuple hq
  refine SeqAt.RcNeAt.tuples (e := fun j => eqV (xs.getD j .non) (ys.getD j .non)) pl pl2 hu (fun j h1 h2 => ?_) X.prog X.w X.xe _ ⟨.bl _, H, I, rfl, ?_⟩
  · have h1' : j < its.length := by simpa using h1
    have h2' : j < its2.length := by simpa using h2
    have a := vals_at r h1'
    have b := vals_at r2 h2'
    have hl := r.length
    have hl2 := r2.length
    have := eqAt_V (A := X.A.in1) (s := s) a b (flat_at fx (by lia)) (flat_at fy (by lia))
    simpa using this
  · have hl := r.length
    have hl2 := r2.length
    have e : ((List.range (min its.toArray.size its2.toArray.size)).all (fun j => eqV (xs.getD j .non) (ys.getD j .non)) && its.toArray.size == its2.toArray.size) = eqVs xs ys := by
      simp only [List.size_toArray, eqVs, hl, hl2]
    rw [e]
    exact k
def rEq0 (K : PySem.W.Frag) (neg : Bool) : R2 := fun x y H Q => ∃ p q xs, x = .ref p ∧ y = .ref q ∧ SqL K H p xs ∧ SqL K H q [] ∧ Q (.bl (if neg then !xs.isEmpty else xs.isEmpty)) H
theorem op_eq0 (hu : X.A.units < cLine) : OpR X (compareOp .Eq) (rEq0 X.K false) := by
  intro pins s σ H x y v u Q I rx ry h
  obtain ⟨p, q, xs, rfl, rfl, hp, hq, k⟩ := h
  cases rx
  cases ry
  obtain ⟨its, r, pl, hz⟩ := I.list hp
  obtain ⟨its2, r2, pl2, hz2⟩ := I.list hq
  cases r2
  have hl := r.length
  cases xs with
  | nil =>
    cases r
    exact SeqAt.eq_listAt (e := fun _ => true) pl.isList pl2.isList rfl hu (fun j h1 _ => absurd h1 (by simp)) ⟨.bl _, H, I, rfl, k⟩
  | cons z zs =>
    refine SeqAt.eq_list_lengthsAt pl.isList pl2.isList ?_ hu ⟨.bl _, H, I, rfl, k⟩
    rw [List.length_cons] at hl
    simp only [List.size_toArray, ← hl]
    rfl
def tRev (K : PySem.W.Frag) (te : TE) : TE := fun σ H Q => te σ H fun x H1 => ∃ a xs, x = .ref a ∧ SqL K H1 a xs ∧ ∀ p, H1 p = none → Q (.ref p) (upd H1 p (.lst xs.reverse))
theorem pe_rev {e : Expr} {te : TE} {j : Nat} {p1 p2 p3 pos : Pos} (he : PE X e te) : PE X (.Subscript e (.Slice none none (some (.UnaryOp .USub (.Constant (.int 1) j p1) p3)) p2) pos) (tRev X.K te) := by
  intro pins s σ H Q I h
  refine Subscript_ (thn (he pins s σ H _ I h) fun v s1 ⟨x, H1, I1, r1, a, xs, ex, hx, q⟩ => ?_)
  subst ex
  cases r1
  refine wpAny_Slice ?_
  rw [evalPart_none]
  refine wpAny_pure (wpAny_pure ?_)
  rw [evalPart_some]
  refine thn ((pe_un un_neg pe_int : PE X (.UnaryOp .USub (.Constant (.int 1) j p1) p3) _) pins s1 σ H1 (fun z Hz => z = .int (-1) ∧ Hz = H1) I1 ⟨_, rfl, rfl, rfl⟩) fun vk s2 ⟨z, H2, I2, rz, ez, eH⟩ => ?_
  subst ez eH
  obtain ⟨tk, rfl⟩ := rz
  obtain ⟨its, r, ht, hz⟩ := I2.list hx
  have hlen := r.length
  have I4 : Inv X pins σ H2 { s2 with heap := s2.heap.push { cls := .type "slice", data := .fields #[.none, .none, .int (-1) tk] } } := I2.kept (t' := s2.toks) fun b ob q => Heap.get?_push_of_some _ q
  obtain ⟨its', r', ht', hz'⟩ := I4.list hx
  show wpAny (model X.prog X.w) X.A (subscriptTail e (.Slice none none (some (.UnaryOp .USub (.Constant (.int 1) j p1) p3)) p2) (.ref a) (.ref s2.heap.objs.size)) (EP X pins σ Q) X.xe { s2 with heap := s2.heap.push { cls := .type "slice", data := .fields #[.none, .none, .int (-1) tk] } }
  have hlen' := r'.length
  refine tail_any (ops := [.ref a, .ref s2.heap.objs.size]) ht'.isList.typeIs slot_list_getitem.lookup (wpAny_getItem_list_slice ht'.isList (Heap.IsSliceOf.new ..) .none .none (.int (-1) tk) (by decide) ?_ (by rw [List.size_toArray] <;> lia)) (by with_unfolding_all rfl)
  rw [PySem.W.krv_pick]
  refine ⟨.ref (s2.heap.push { cls := .type "slice", data := .fields #[.none, .none, .int (-1) tk] }).objs.size, _, I4.laid (t' := s2.toks) (o := .lst xs.reverse) (fun b ob q => Heap.get?_push_of_some _ q) (Nat.le_refl _) ?_, rfl, q _ (I4.hok.fresh (Nat.le_refl _))⟩
  refine ⟨by rw [List.length_reverse]; exact hz, its'.reverse, 0, L2.Vals.reverse r', ?_⟩
  exact Heap.get?_push_size _ rfl
end
end Ow
namespace Ow
open PySem PySem.Spec PyProof.Rows L2
section
variable {X : Cx}
def rAddL (K : PySem.W.Frag) : R2 := fun x y H Q => ∃ a b xs ys, x = .ref a ∧ y = .ref b ∧ SqL K H a xs ∧ SqL K H b ys ∧ xs.length + ys.length ≤ sizeLine ∧ ∀ p, H p = none → Q (.ref p) (upd H p (.lst (xs ++ ys)))
theorem op_addL : OpR X (binaryOp .Add) (rAddL X.K) := by
  intro pins s σ H x y v u Q I rx ry h
  obtain ⟨a, b, xs, ys, rfl, rfl, ha, hb, hz, q⟩ := h
  cases rx
  cases ry
  obtain ⟨its, r, pl, _⟩ := I.list ha
  obtain ⟨its2, r2, pl2, _⟩ := I.list hb
  have hl := r.length
  have hl2 := r2.length
  obtain ⟨⟨cls, dd, data, sl⟩, ho, hc, n, hd⟩ := id pl.isList
  obtain ⟨⟨cls2, dd2, data2, sl2⟩, ho2, hc2, n2, hd2⟩ := id pl2.isList
  simp only at hc hd hc2 hd2
  subst hc hd hc2 hd2
  have e : its.toArray ++ its2.toArray = (its ++ its2).toArray := by simp
  refine concat_meets ⟨_, ho, rfl⟩ ⟨_, ho2, rfl⟩ noFill_list_add seq_list_add PySem.F.slot_list_add PySem.F.entry_list_add (PySem.F.args_list_add_2 _ _) (list_addW a b its.toArray its2.toArray n n2 dd dd2 sl sl2 (by simp; lia)) ⟨ho, ho2, ?_⟩
  rw [e]
  exact ⟨.ref s.heap.objs.size, _, I.lnew (t' := s.toks) (r.append r2) (by rw [List.length_append]; exact hz), rfl, q _ I.fresh⟩
variable {tg : Expr}
inductive EqD (K : PySem.W.Frag) (H : Hp) : Nat → V → V → Bool → Prop where
  | flat {d : Nat} {x y : V} (fx : flatV x = true) (fy : flatV y = true) : EqD K H d x y (eqV x y)
  | tup {d : Nat} {p q : Addr} {xs ys : List V} {e : Nat → Bool} (hn : p ≠ q) (hx : SqT K H p xs) (hy : SqT K H q ys) (he : ∀ j, j < xs.length → j < ys.length → EqD K H d (xs.getD j .non) (ys.getD j .non) (e j)) :
      EqD K H (d + 1) (.ref p) (.ref q) ((List.range (min xs.length ys.length)).all e && xs.length == ys.length)
  | lst {d : Nat} {p q : Addr} {xs ys : List V} {e : Nat → Bool} (hn : p ≠ q) (hx : SqL K H p xs) (hy : SqL K H q ys) (hl : xs.length = ys.length) (he : ∀ j, j < xs.length → EqD K H d (xs.getD j .non) (ys.getD j .non) (e j)) :
      EqD K H (d + 1) (.ref p) (.ref q) ((List.range xs.length).all e)
  | same {d : Nat} {p : Addr} : EqD K H d (.ref p) (.ref p) true
theorem EqD.at {pins : List (Addr × Obj)} {σ : L2.St} {H : Hp} {s : Shared} (I : Inv X pins σ H s) : ∀ {d : Nat} {x y : V} {b : Bool} {u v : Value} {A : Around}, EqD X.K H d x y b → RelV x u → RelV y v → A.units + d < cLine → SeqAt.EqAt A s u v b := by
  intro d x y b u v A h
  induction h generalizing u v A with
  | flat fx fy => intro rx ry _; exact eqAt_V rx ry fx fy
  | same => intro rx ry _; cases rx; cases ry; exact SeqAt.EqAt.same _
  | @tup d p q xs ys e hn hx hy he ih =>
    intro rx ry hu
    cases rx
    cases ry
    obtain ⟨its, r, pl, _⟩ := I.tuple hx
    obtain ⟨its2, r2, pl2, _⟩ := I.tuple hy
    have hl := r.length
    have hl2 := r2.length
    have := SeqAt.EqAt.of_refs hn (SeqAt.RcAt.tuples (A := A) (e := e) pl pl2 (by lia) (fun j h1 h2 => by
      have h1' : j < its.length := by simpa using h1
      have h2' : j < its2.length := by simpa using h2
      have z := ih j (by lia) (by lia) (vals_at r h1') (vals_at r2 h2') (A := A.in1) (by show A.units + 1 + d < _; lia)
      simpa using z))
    simp only [List.size_toArray, ← hl, ← hl2] at this
    exact this
  | @lst d p q xs ys e hn hx hy hle he ih =>
    intro rx ry hu
    cases rx
    cases ry
    obtain ⟨its, r, pl, _⟩ := I.list hx
    obtain ⟨its2, r2, pl2, _⟩ := I.list hy
    have hl := r.length
    have hl2 := r2.length
    have := SeqAt.EqAt.of_refs hn (SeqAt.RcAt.lists (A := A) (e := e) pl.isList pl2.isList (by simp only [List.size_toArray]; lia) (by lia) (fun j h1 h2 => by
      have h1' : j < its.length := by simpa using h1
      have h2' : j < its2.length := by simpa using h2
      have z := ih j (by lia) (vals_at r h1') (vals_at r2 h2') (A := A.in1) (by show A.units + 1 + d < _; lia)
      simpa using z))
    simp only [List.size_toArray, ← hl] at this
    exact this
def rEqLD (K : PySem.W.Frag) (d : Nat) (neg : Bool) : R2 := fun x y H Q => ∃ p q xs ys e, x = .ref p ∧ y = .ref q ∧ SqL K H p xs ∧ SqL K H q ys ∧ xs.length = ys.length ∧ (∀ j, j < xs.length → EqD K H d (xs.getD j .non) (ys.getD j .non) (e j)) ∧ Q (.bl (if neg = true then !(List.range xs.length).all e else (List.range xs.length).all e)) H
theorem op_neLD {d : Nat} (hu : X.A.units + d + 1 < cLine) : OpR X (compareOp .NotEq) (rEqLD X.K d true) := by
  intro pins s σ H x y v u Q I rx ry h
  obtain ⟨p, q, xs, ys, e, rfl, rfl, hp, hq, hle, he, k⟩ := h
  cases rx
  cases ry
  obtain ⟨its, r, pl, _⟩ := I.list hp
  obtain ⟨its2, r2, pl2, _⟩ := I.list hq
  have hl := r.length
  have hl2 := r2.length
  refine SeqAt.RcNeAt.lists (e := e) pl.isList pl2.isList (by simp only [List.size_toArray]; lia) (by lia) (fun j h1 h2 => ?_) X.prog X.w X.xe _ ⟨.bl _, H, I, rfl, ?_⟩
  · have h1' : j < its.length := by simpa using h1
    have h2' : j < its2.length := by simpa using h2
    have z := (he j (by lia)).at I (vals_at r h1') (vals_at r2 h2') (A := X.A.in1) (by show X.A.units + 1 + d < _; lia)
    simpa using z
  · simp only [List.size_toArray, ← hl]
    exact k
end
end Ow
namespace Ow
open PySem PySem.Spec PyProof.Rows L2
section
variable {X : Cx} {tg : Expr}
theorem call_all_bl (hc : X.calm = true) : CallR X (.builtin "all") (fun xs H Q => ∃ (a : Addr) (bs : List Bool), xs = [.ref a] ∧ SqL X.K H a (bs.map V.bl) ∧ Q (.bl (bs.all id)) H) := by
  intro pins s σ H xs us Q I r h
  obtain ⟨a, bs, rfl, hq, q⟩ := h
  obtain ⟨u, rfl, rx⟩ := vals1 r
  cases rx
  obtain ⟨its, rv, pl, hz⟩ := I.list hq
  have hl := rv.length
  rw [List.length_map] at hl
  refine call_all_walk (wpAny_pyIter_list pl.isList ?_)
  have hne : a ≠ s.heap.objs.size := by
    obtain ⟨o, ho, _⟩ := pl.isList
    exact Nat.ne_of_lt (Heap.lt_size ho)
  refine ⟨s.heap.objs.size, _, _, _, _, _, fun j => bs.getD j false, rfl, Walks.list (A := X.A.in1) (I.ok.hd hc) s.heap.objs.size a hne its.toArray, ⟨⟨_, Heap.get?_push_size _ rfl, rfl, rfl⟩, Heap.IsList.push pl.isList _⟩, ?_, ?_⟩
  · intro i v s' Q' E' hP hQ'
    have hP' : its[i]? = some v := by simpa using hP
    have hi : i < its.length := (List.getElem?_eq_some_iff.mp hP').1
    have hb : (bs.map V.bl)[i]? = some (V.bl (bs.getD i false)) := by
      rw [List.getElem?_map, List.getD_eq_getElem?_getD, List.getElem?_eq_getElem (by lia)]
      rfl
    obtain ⟨u', hu', ru'⟩ := rv.get hb
    rw [hP'] at hu'
    cases hu'
    cases ru'
    exact wpAny_truthy_bool hQ'
  · intro h' tk hk
    refine ⟨.bl _, H, I.kept (t' := tk) fun b o e => hk b o (fun z => ?_) (Heap.get?_push_of_some _ e), ?_, q⟩
    · have z' : b = s.heap.objs.size := by simpa using z
      exact absurd (Heap.lt_size e) (by rw [z']; exact Nat.lt_irrefl _)
    · have e1 : (List.range its.toArray.size).all (fun j => bs.getD j false) = bs.all id := by
        rw [List.size_toArray, ← hl]
        rw [Bool.eq_iff_iff, List.all_eq_true, List.all_eq_true]
        constructor
        · intro h x hx
          obtain ⟨j, hj, e⟩ := List.getElem_of_mem hx
          have := h j (List.mem_range.mpr hj)
          rw [List.getD_eq_getElem?_getD, List.getElem?_eq_getElem hj] at this
          show x = true
          rw [← e]
          exact this
        · intro h j hj
          have hj' := List.mem_range.mp hj
          rw [List.getD_eq_getElem?_getD, List.getElem?_eq_getElem hj']
          exact h _ (List.getElem_mem hj')
      rw [e1]
      rfl
variable {elt iter : Expr} {x : Str} {px pos : Pos} {scope : Scope} {wi : TI} {te : TE} {cl : List (Str × Addr)}
theorem pe_compC (js : List Nat) (ns : List Str) (hc : X.calm = true) (hclos : closureFor scope X.env = pure cl) (hcls : cl.map (·.1) = ns) (hsub : ∀ p ∈ cl, X.env.cells.lookup p.1 = some p.2)
    (hno : ∀ p ∈ scope.names, p.2 ≠ .cell ∧ (p.2 = .free → p.1 ∈ ns)) (hkind : scope.kind = .function) (hnames : ∀ y ∈ scope.names, y.2 = .local → scope.names.lookup y.1 = some .local) (hx : scope.names.lookup x = some .local)
    (hN : (x :: ns).Nodup) (hkd : ∀ y ∈ ns, (Env.kindOf (compEnvC scope cl 0 X.env) y = some .cell ∨ Env.kindOf (compEnvC scope cl 0 X.env) y = some .free) ∧ X.env.kindOf y = some .cell)
    (hjl : js.length = ns.length) (hj : js.map (fun j => X.N[j]?) = ns.map some)
    (hi : PI X (.Name x px) iter wi) (he : ∀ C s2 H2 fp, PE (cxComp X (x :: ns) scope cl C s2 H2 fp) elt te)
    (hs : ∀ z, foldedSetIterable iter X.env z = pure z := by intro _; rfl) :
    PE X (.ListComp elt [⟨.Name x px, iter, [], 0⟩] scope pos) (tComp wi te fun σ => js.map fun j => (σ[j]?).getD none) := by
  refine pe_comp (N := ns) (cl := cl) hc hclos (fun n c e => hsub (n, c) (PySem.mem_of_lookup e)) (fun y hy => (hno y hy).1) hkind hnames hx (fun y hy => ?_) hN (fun σ => by rw [List.length_map]; exact hjl) (fun σ i y v _ e1 e2 => ?_) hi he hs
  · have sub : ∀ (l : List (Str × NameKind)), (∀ p ∈ l, p.2 ≠ .cell ∧ (p.2 = .free → p.1 ∈ ns)) → ∀ p ∈ (l.map fun (n, k) => if (k == NameKind.free && X.env.scope.kind == ScopeKind.function && X.env.kindOf n == some NameKind.cell) then (n, NameKind.cell) else (n, k)), (p.2 = .cell ∨ p.2 = .free) → p.1 ∈ ns := by
      intro l hl p hp hk
      obtain ⟨q, hq, e⟩ := List.mem_map.mp hp
      have h1 := hl q hq
      obtain ⟨n, k⟩ := q
      dsimp only at e
      by_cases hf : k = .free
      · have h2 := h1.2 hf
        split at e
        · rw [← e]; exact h2
        · rw [← e]; exact h2
      · have hf' : (k == NameKind.free) = false := by
          cases k <;> first | rfl | exact absurd rfl hf
        rw [hf', Bool.false_and, Bool.false_and, if_neg (by decide)] at e
        rw [← e] at hk
        rcases hk with z | z
        · exact absurd z h1.1
        · exact absurd z hf
    have hy' : y ∈ ns := by
      rcases hy with z | z
      · exact sub scope.names hno (y, .cell) (PySem.mem_of_lookup z) (.inl rfl)
      · exact sub scope.names hno (y, .free) (PySem.mem_of_lookup z) (.inr rfl)
    rw [← hcls] at hy'
    have key : ∀ l : List (Str × Addr), y ∈ l.map (·.1) → ∃ c, l.lookup y = some c := by
      intro l
      induction l with
      | nil => intro h; simp at h
      | cons p r ih =>
        intro h
        by_cases e : y = p.1
        · exact ⟨p.2, by obtain ⟨p1, p2⟩ := p; dsimp only at e; subst e; simp [List.lookup]⟩
        · have h' : y ∈ r.map (·.1) := by
            rw [List.map_cons] at h
            exact (List.mem_cons.mp h).resolve_left e
          obtain ⟨c, hc'⟩ := ih h'
          refine ⟨c, ?_⟩
          obtain ⟨p1, p2⟩ := p
          have : (y == p1) = false := by simpa using e
          rw [List.lookup_cons, this]
          exact hc'
    exact key cl hy'
  · have hm : y ∈ ns := List.mem_of_getElem? e1
    refine ⟨(hkd y hm).1, (hkd y hm).2, ?_⟩
    rw [List.getElem?_map] at e2
    cases hji : js[i]? with
    | none => rw [hji] at e2; cases e2
    | some j =>
      rw [hji] at e2
      have e3 : (σ[j]?).getD none = some v := by
        have := Option.some.inj e2
        exact this
      have e4 := congrArg (fun l => l[i]?) hj
      rw [List.getElem?_map, List.getElem?_map, hji, e1] at e4
      have e5 : X.N[j]? = some y := by
        have := Option.some.inj e4
        exact this
      refine ⟨j, e5, ?_⟩
      cases hσ : σ[j]? with
      | none => rw [hσ] at e3; cases e3
      | some o =>
        rw [hσ] at e3
        have e6 : o = some v := e3
        rw [e6]
end
end Ow
namespace Ow
open PySem PySem.Spec PyProof.Rows L2
section
variable {X : Cx}
theorem ix_listK {K : PySem.W.Frag} (h : X.K = K) : IxR X (rIxL K) := by
  subst h
  exact ix_list
theorem ix_tupK {K : PySem.W.Frag} (h : X.K = K) : IxR X (rIxT K) := by
  subst h
  exact ix_tup
theorem op_notB : OpR X (compareOp .IsNot) (fun x y H Q => ∃ a b : Bool, x = .bl a ∧ y = .bl b ∧ Q (.bl (!(a == b))) H) := by
  intro pins s σ H x y v u Q I rx ry h
  obtain ⟨a, b, rfl, rfl, q⟩ := h
  cases rx
  cases ry
  refine wpAny_isNot_plain rfl ⟨.bl (!(a == b)), H, I, ?_, q⟩
  cases a <;> cases b <;> rfl
variable {elt iter : Expr} {x : Str} {px pos : Pos} {scope : Scope} {wi : TI} {te : TE} {cl : List (Str × Addr)}
theorem ps_compC {i : Nat} {y : Str} {py spos : Pos} (hNX : X.N.Nodup) (hiy : X.N[i]? = some y) (hly : Loc X.env.scope y) (hsw : swapsWith (.ListComp elt [⟨.Name x px, iter, [], 0⟩] scope pos) (some (.Name y py)) spos.line X.env = pure true) (js : List Nat) (ns : List Str) (hc : X.calm = true) (hclos : closureFor scope X.env = pure cl) (hcls : cl.map (·.1) = ns) (hsub : ∀ p ∈ cl, X.env.cells.lookup p.1 = some p.2)
    (hno : ∀ p ∈ scope.names, p.2 ≠ .cell ∧ (p.2 = .free → p.1 ∈ ns)) (hkind : scope.kind = .function) (hnames : ∀ y ∈ scope.names, y.2 = .local → scope.names.lookup y.1 = some .local) (hx : scope.names.lookup x = some .local)
    (hN : (x :: ns).Nodup) (hkd : ∀ y ∈ ns, (Env.kindOf (compEnvC scope cl 0 X.env) y = some .cell ∨ Env.kindOf (compEnvC scope cl 0 X.env) y = some .free) ∧ X.env.kindOf y = some .cell)
    (hjl : js.length = ns.length) (hj : js.map (fun j => X.N[j]?) = ns.map some)
    (hi : PI X (.Name x px) iter wi) (he : ∀ C s2 H2 fp, PE (cxComp X (x :: ns) scope cl C s2 H2 fp) elt te)
    (hs : ∀ z, foldedSetIterable iter X.env z = pure z := by intro _; rfl) (hf : X.fn y = true ∨ X.env.scope.names.lookup y = some .local := by first | exact .inl rfl | exact .inr rfl | assumption) :
    PS X (.Assign [.Name y py] (.ListComp elt [⟨.Name x px, iter, [], 0⟩] scope pos) spos) (tAsg (tComp wi te fun σ => js.map fun j => (σ[j]?).getD none) (gName i)) := by
  refine ps_comp hNX hiy hly hsw (N := ns) (cl := cl) hc hclos (fun n c e => hsub (n, c) (PySem.mem_of_lookup e)) (fun y hy => (hno y hy).1) hkind hnames hx (fun y hy => ?_) hN (fun σ => by rw [List.length_map]; exact hjl) (fun σ i y v _ e1 e2 => ?_) hi he hs hf
  · have sub : ∀ (l : List (Str × NameKind)), (∀ p ∈ l, p.2 ≠ .cell ∧ (p.2 = .free → p.1 ∈ ns)) → ∀ p ∈ (l.map fun (n, k) => if (k == NameKind.free && X.env.scope.kind == ScopeKind.function && X.env.kindOf n == some NameKind.cell) then (n, NameKind.cell) else (n, k)), (p.2 = .cell ∨ p.2 = .free) → p.1 ∈ ns := by
      intro l hl p hp hk
      obtain ⟨q, hq, e⟩ := List.mem_map.mp hp
      have h1 := hl q hq
      obtain ⟨n, k⟩ := q
      dsimp only at e
      by_cases hf : k = .free
      · have h2 := h1.2 hf
        split at e
        · rw [← e]; exact h2
        · rw [← e]; exact h2
      · have hf' : (k == NameKind.free) = false := by
          cases k <;> first | rfl | exact absurd rfl hf
        rw [hf', Bool.false_and, Bool.false_and, if_neg (by decide)] at e
        rw [← e] at hk
        rcases hk with z | z
        · exact absurd z h1.1
        · exact absurd z hf
    have hy' : y ∈ ns := by
      rcases hy with z | z
      · exact sub scope.names hno (y, .cell) (PySem.mem_of_lookup z) (.inl rfl)
      · exact sub scope.names hno (y, .free) (PySem.mem_of_lookup z) (.inr rfl)
    rw [← hcls] at hy'
    have key : ∀ l : List (Str × Addr), y ∈ l.map (·.1) → ∃ c, l.lookup y = some c := by
      intro l
      induction l with
      | nil => intro h; simp at h
      | cons p r ih =>
        intro h
        by_cases e : y = p.1
        · exact ⟨p.2, by obtain ⟨p1, p2⟩ := p; dsimp only at e; subst e; simp [List.lookup]⟩
        · have h' : y ∈ r.map (·.1) := by
            rw [List.map_cons] at h
            exact (List.mem_cons.mp h).resolve_left e
          obtain ⟨c, hc'⟩ := ih h'
          refine ⟨c, ?_⟩
          obtain ⟨p1, p2⟩ := p
          have : (y == p1) = false := by simpa using e
          rw [List.lookup_cons, this]
          exact hc'
    exact key cl hy'
  · have hm : y ∈ ns := List.mem_of_getElem? e1
    refine ⟨(hkd y hm).1, (hkd y hm).2, ?_⟩
    rw [List.getElem?_map] at e2
    cases hji : js[i]? with
    | none => rw [hji] at e2; cases e2
    | some j =>
      rw [hji] at e2
      have e3 : (σ[j]?).getD none = some v := by
        have := Option.some.inj e2
        exact this
      have e4 := congrArg (fun l => l[i]?) hj
      rw [List.getElem?_map, List.getElem?_map, hji, e1] at e4
      have e5 : X.N[j]? = some y := by
        have := Option.some.inj e4
        exact this
      refine ⟨j, e5, ?_⟩
      cases hσ : σ[j]? with
      | none => rw [hσ] at e3; cases e3
      | some o =>
        rw [hσ] at e3
        have e6 : o = some v := e3
        rw [e6]
end
end Ow
namespace Ow
open PySem PySem.Spec PyProof.Rows L2
section
variable {P : Program} {w : World} {base h h1 h2 B : Heap} {fs : List Addr} {H H' : Hp} {l : List Env}
end
section
variable {P : Program} {w : World} {K : PySem.W.Frag} {mg : Str → Option Value} {base : Heap} {N : List Str} {qual : Str} {scope : Scope} {f : Addr} {cdv : Value} {A : Around} {outer : List Env} {s₀ : Shared} {H₀ : Hp} {E : XK}
end
section
variable {X : Cx} {pins : List (Addr × Obj)} {σ : L2.St} {H : Hp} {s : Shared} {a : Addr} {oe : Obj}
end
section
variable {X : Cx} {k i j : Nat} {f y n c : Str} {ps : List Str} {sp : Sp} {e : Expr} {es : List Expr} {ta : TA} {C₁ : Addr} {b₀ : Stmt} {suite : List Stmt} {tb : Addr → Obj → TS} {py p pos apos np hpos tpos : Pos}
end
section
variable {prog : Program} {w : World} {A : Around} {E : Value → Shared → Prop} {h : Heap} {g : Array GenState} {d : Drawn} {t : Nat} {os : OsState} {K : PySem.W.Frag} {a C : Addr} {o : Obj}
end
end Ow
namespace Ow
open PySem PySem.Spec PyProof.Rows L2
section
variable {P : Program} {w : World} {K : PySem.W.Frag} {mg : Str → Option Value} {base : Heap} {N : List Str} {qual : Str} {scope : Scope} {f : Addr} {cdv : Value} {A : Around} {outer : List Env} {s₀ : Shared} {H₀ : Hp} {E : XK}
end
section
variable {X : Cx} {pins pins' : List (Addr × Obj)} {σ : L2.St} {H : Hp} {s : Shared} {E : L2.St → XK}
end
end Ow
namespace Ow
open PySem PySem.Spec PyProof.Rows L2
section
variable {X : Cx} {pins : List (Addr × Obj)} {σ : L2.St} {H : Hp} {s : Shared} {a : Addr} {oe : Obj} {j : Nat} {n : Str}
end
section
variable {X : Cx} {j : Nat} {n c : Str} {C₁ : Addr} {b₀ : Stmt} {suite : List Stmt} {tb : Addr → Obj → TS} {np hpos : Pos}
end
end Ow
namespace Ow
open PySem PySem.Spec PyProof.Rows L2
section
variable {M : Model} {A : Around} {E : Value → Shared → Prop} {s : Shared} {bs : Heap} {en : Env} {out : List Env} {L e : Addr} {c : Bool}
end
end Ow
namespace Ow
open PySem PySem.Spec PyProof.Rows L2
section
variable {prog : Program} {w : World} {A : Around} {E : Value → Shared → Prop} {s : Shared} {K : PySem.W.Frag} {x C N : Addr} {fs : Array Value} {sl : Array (Option Value)} {name : Str} {v : Value}
variable {nm qn : Str} {bs bm : List Value} {sn : List Str} {sub : List Value} {ab : Bool} {col : Option Bool} {dd : Option Addr} {k0 k1 k2 k3 k5 : Option Value} {nid : String}
end
end Ow
namespace Ow
open PySem PySem.Spec PyProof.Rows L2
section
variable {prog : Program} {w : World} {A : Around} {E : Value → Shared → Prop} {h : Heap} {g : Array GenState} {d : Drawn} {t : Nat} {os : OsState} {C N fI : Addr} {v : Value} {oI : Obj} {mN : Str → Option Value}
variable {nm qn : Str} {bs bm : List Value} {hdc : Bool} {sn : List Str} {sub : List Value} {ab : Bool} {col : Option Bool} {dd : Option Addr} {k0 k1 k2 k3 k5 : Option Value}
end
end Ow
namespace Ow
open PySem PySem.Spec PyProof.Rows L2
section
variable {P : Program} {w : World} {K : PySem.W.Frag} {mg : Str → Option Value} {base : Heap} {N : List Str} {qual : Str} {scope : Scope} {f : Addr} {cdv : Value} {A : Around} {outer : List Env} {s₀ : Shared} {H₀ : Hp} {E : XK}
end
end Ow
namespace Ow
open PySem PySem.Spec PyProof.Rows L2
section
variable {X : Cx} {f : Str} {o value : Expr} {ta tv : TE} {pos pos' : Pos}
end
end Ow
namespace Ow
open PySem PySem.Spec PyProof.Rows L2
section
variable {P : Program} {w : World} {K : PySem.W.Frag} {mg : Str → Option Value} {base : Heap} {N : List Str} {qual : Str} {scope : Scope} {fa : Addr} {cdv : Value} {A : Around} {outer : List Env} {s₀ : Shared} {H₀ : Hp} {E : XK}
end
end Ow
namespace Ow
open PySem PySem.Spec PyProof.Rows L2
section
variable {P : Program} {w : World} {K : PySem.W.Frag} {mg : Str → Option Value} {base : Heap} {N : List Str} {qual : Str} {scope : Scope} {f : Addr} {cdv : Value} {A : Around} {outer : List Env} {s₀ : Shared} {H₀ : Hp} {E : XK}
end
section
variable {P : Program} {w : World} {K : PySem.W.Frag} {mg : Str → Option Value} {base : Heap} {N : List Str} {qual : Str} {scope : Scope} {f : Addr} {cdv : Value} {A : Around} {outer : List Env} {s₀ : Shared} {H₀ : Hp} {E : XK}
end
section
variable {X : Cx} {j : Nat} {n c : Str} {C₁ : Addr} {b₀ : Stmt} {suite : List Stmt} {tb : Addr → Obj → TS} {np hpos : Pos}
end
end Ow
namespace Ow
open PySem PySem.Spec PyProof.Rows L2
section
variable {prog : Program} {w : World} {A : Around} {E : Value → Shared → Prop} {h : Heap} {g : Array GenState} {d : Drawn} {t : Nat} {os : OsState} {K : PySem.W.Frag} {a C D : Addr} {o od : Obj} {name : Str} {v : Value}
end
end Ow
namespace Ow
open PySem PySem.Spec PyProof.Rows L2
def Rise (xs : Array Nat) : Prop := ∀ i j, i < j → j < xs.size → xs.getD i 0 < xs.getD j 0
theorem getD_any {xs : Array Nat} {i a b : Nat} (h : i < xs.size) : xs.getD i a = xs.getD i b := by
  rw [Array.getD_eq_getD_getElem?, Array.getD_eq_getD_getElem?, Array.getElem?_eq_getElem h]
  rfl
theorem below_go {xs : Array Nat} {j : Nat} (R : Rise xs) : ∀ (n lo hi : Nat), hi - lo ≤ n → lo ≤ hi → hi ≤ xs.size → (∀ k, k < lo → xs.getD k 0 < j) → (∀ k, hi ≤ k → k < xs.size → j ≤ xs.getD k 0) →
    let i := SetTable.below.go xs j n lo hi; i ≤ xs.size ∧ (∀ k, k < i → xs.getD k 0 < j) ∧ ∀ k, i ≤ k → k < xs.size → j ≤ xs.getD k 0
  | 0, lo, hi, h1, h2, h3, h4, h5 => by
    have e : lo = hi := by lia
    subst e
    exact ⟨h3, h4, h5⟩
  | n + 1, lo, hi, h1, h2, h3, h4, h5 => by
    unfold SetTable.below.go
    by_cases c : lo < hi
    · rw [if_pos c]
      dsimp only
      have m1 : (lo + hi) / 2 < hi := by lia
      have m0 : lo ≤ (lo + hi) / 2 := by lia
      have ms : (lo + hi) / 2 < xs.size := by lia
      rw [getD_any (b := 0) ms]
      by_cases q : xs.getD ((lo + hi) / 2) 0 < j
      · rw [if_pos q]
        refine below_go R n _ hi (by lia) (by lia) h3 (fun k hk => ?_) h5
        by_cases hm : k = (lo + hi) / 2
        · rw [hm]; exact q
        · exact Nat.lt_trans (R k _ (by lia) ms) q
      · rw [if_neg q]
        refine below_go R n lo _ (by lia) (by lia) (by lia) h4 fun k hk hs => ?_
        by_cases hm : k = (lo + hi) / 2
        · rw [hm]; lia
        · have := R ((lo + hi) / 2) k (by lia) hs
          lia
    · rw [if_neg c]
      have e : lo = hi := by lia
      subst e
      exact ⟨h3, h4, h5⟩
theorem below_ok {xs : Array Nat} (R : Rise xs) (j : Nat) : SetTable.below xs j ≤ xs.size ∧ (∀ k, k < SetTable.below xs j → xs.getD k 0 < j) ∧ ∀ k, SetTable.below xs j ≤ k → k < xs.size → j ≤ xs.getD k 0 :=
  below_go R xs.size 0 xs.size (by lia) (Nat.zero_le _) (Nat.le_refl _) (fun k h => absurd h (Nat.not_lt_zero k)) fun k h1 h2 => by lia
theorem below_at {xs : Array Nat} (R : Rise xs) {j i : Nat} (hi : i ≤ xs.size) (h1 : ∀ k, k < i → xs.getD k 0 < j) (h2 : ∀ k, i ≤ k → k < xs.size → j ≤ xs.getD k 0) : SetTable.below xs j = i := by
  obtain ⟨a, b, c⟩ := below_ok R j
  by_cases q : SetTable.below xs j < i
  · have := c _ (Nat.le_refl _) (by lia)
    have := h1 _ q
    lia
  by_cases q2 : i < SetTable.below xs j
  · have := b i q2
    have := h2 i (Nat.le_refl _) (by lia)
    lia
  lia
theorem rise_insert {xs : Array Nat} (R : Rise xs) {j : Nat} (hn : xs[SetTable.below xs j]? ≠ some j) : Rise (SetTable.insertAt xs (SetTable.below xs j) j) := by
  obtain ⟨a, b, c⟩ := below_ok R j
  generalize SetTable.below xs j = p at *
  have sz : (SetTable.insertAt xs p j).size = xs.size + 1 := by
    unfold SetTable.insertAt
    simp only [Array.size_append, Array.size_push, Array.size_extract]
    lia
  have g : ∀ i, i < xs.size + 1 → (SetTable.insertAt xs p j).getD i 0 = if i < p then xs.getD i 0 else if i = p then j else xs.getD (i - 1) 0 := fun i hi => by
    unfold SetTable.insertAt
    rw [Array.getD_eq_getD_getElem?, Array.getElem?_append, Array.size_push, Array.size_extract]
    have e1 : min p xs.size - 0 = p := by lia
    rw [e1]
    by_cases q : i < p + 1
    · rw [if_pos q, Array.getElem?_push, Array.size_extract, e1]
      by_cases q2 : i = p
      · rw [if_pos q2, if_neg (by lia), if_pos q2]
        rfl
      · rw [if_neg q2, if_pos (by lia), Array.getElem?_extract, if_pos (by lia), Array.getD_eq_getD_getElem?, Nat.zero_add]
    · rw [if_neg q, if_neg (by lia), if_neg (by lia), Array.getElem?_extract, if_pos (by lia), Array.getD_eq_getD_getElem?]
      congr 2
      lia
  have d : ∀ k, p ≤ k → k < xs.size → j < xs.getD k 0 := fun k h1 h2 => by
    have h3 := c k h1 h2
    by_cases e : k = p
    · subst e
      refine Nat.lt_of_le_of_ne h3 fun z => hn ?_
      rw [Array.getElem?_eq_getElem h2]
      rw [Array.getD_eq_getD_getElem?, Array.getElem?_eq_getElem h2] at z
      exact congrArg some z.symm
    · exact Nat.lt_of_le_of_lt (c p (Nat.le_refl _) (by lia)) (R p k (by lia) h2)
  intro i k hik hk
  rw [sz] at hk
  rw [g i (by lia), g k hk]
  by_cases i1 : i < p
  · rw [if_pos i1]
    by_cases k1 : k < p
    · rw [if_pos k1]; exact R i k hik (by lia)
    · rw [if_neg k1]
      by_cases k2 : k = p
      · rw [if_pos k2]; exact b i i1
      · rw [if_neg k2]; exact R i (k - 1) (by lia) (by lia)
  · rw [if_neg i1, if_neg (show ¬ k < p by lia), if_neg (show ¬ k = p by lia)]
    by_cases i2 : i = p
    · rw [if_pos i2]; exact d (k - 1) (by lia) (by lia)
    · rw [if_neg i2]; exact R (i - 1) (k - 1) (by lia) (by lia)
def Good (t : SetTable) : Prop := t.plain = true → Rise t.place
theorem slot_free {t : SetTable} {j : Nat} (h : ∀ i, t.slot j ≠ .live i) : t.place[SetTable.below t.place j]? ≠ some j := fun z => by
  unfold SetTable.slot at h
  dsimp only at h
  rw [z] at h
  exact h _ (by rw [beq_self_eq_true]; rfl)
theorem probe_free {t : SetTable} {f : Nat → Int} {h : Int} : ∀ (n : Nat) (p : SetTable.Probe) {j : Nat} {d : Option Nat}, (∀ x, p.dummy = some x → t.slot x = .dummy) → SetTable.probe.go t f h n p = some (.empty j d) → t.slot j = .empty ∧ ∀ x, d = some x → t.slot x = .dummy
  | 0, p, j, d, hp, e => by cases e
  | n + 1, p, j, d, hp, e => by
    unfold SetTable.probe.go at e
    split at e
    · next q =>
      cases e
      exact ⟨q, hp⟩
    · next q =>
      refine probe_free n _ (fun x hx => ?_) e
      have : ({ p with dummy := some p.j } : SetTable.Probe).dummy = some x := by
        unfold SetTable.advance at hx
        split at hx <;> exact hx
      cases this
      exact q
    · next i q =>
      split at e
      · cases e
      · refine probe_free n _ (fun x hx => hp x ?_) e
        unfold SetTable.advance at hx
        split at hx <;> exact hx
theorem freeSlot_ok {t : SetTable} {h : Int} {s : Nat} {b : Bool} (e : t.freeSlot h = some (s, b)) : ∀ i, t.slot s ≠ .live i := by
  unfold SetTable.freeSlot at e
  split at e
  · next j d q =>
    cases e
    obtain ⟨h1, h2⟩ := probe_free _ _ (fun x hx => by cases hx) q
    intro i z
    cases d with
    | none => rw [show (none : Option Nat).getD j = j from rfl, h1] at z; cases z
    | some x => rw [show (some x).getD j = x from rfl, h2 x rfl] at z; cases z
  · cases e
theorem orStandIn_keeps (t : SetTable) (n : Nat) (g : Good t) : (t.orStandIn n).led = t.led ∧ Good (t.orStandIn n) := by
  unfold SetTable.orStandIn
  split
  · exact ⟨rfl, g⟩
  · exact ⟨rfl, fun hp => by cases hp⟩
theorem layNew_keeps (t : SetTable) (es : Array (Int × Value)) (h : Int) (x : Value) (g : Good t) : (layNew t es h x).2.1.led = t.led ∧ Good (layNew t es h x).2.1 := by
  unfold layNew
  split
  · next s b e =>
    have z := orStandIn_keeps (t.put s).1 (SetTable.insertAt es (t.put s).2 (h, x)).size (fun hp => rise_insert (g hp) (slot_free (freeSlot_ok e)))
    exact ⟨z.1, z.2⟩
  · exact ⟨rfl, fun hp => by cases hp⟩
theorem rise_range {α : Type} (f : Nat → Option α) : ∀ (l : List Nat), l.Pairwise (· < ·) → ((l.filterMap fun j => (f j).map (j, ·)).map (·.1)).Pairwise (· < ·) := by
  intro l h
  refine List.pairwise_map.mpr (List.Pairwise.filterMap _ (fun a b hab x hx y hy => ?_) h)
  obtain ⟨_, _, rfl⟩ := Option.map_eq_some_iff.mp hx
  obtain ⟨_, _, rfl⟩ := Option.map_eq_some_iff.mp hy
  exact hab
theorem rise_of {l : List Nat} (h : l.Pairwise (· < ·)) : Rise l.toArray := by
  intro i j hij hj
  have hj' : j < l.length := by simpa using hj
  rw [Array.getD_eq_getD_getElem?, Array.getD_eq_getD_getElem?, List.getElem?_toArray, List.getElem?_toArray, List.getElem?_eq_getElem (show i < l.length by lia), List.getElem?_eq_getElem hj']
  exact List.pairwise_iff_getElem.mp h i j _ _ hij
theorem laid_keeps {m f mo : Nat} {led pl : Bool} {hs : Array Int} {t : SetTable} {o : Array Nat} (e : SetTable.laid m f mo led pl hs = some (t, o)) : t.led = led ∧ Good t := by
  unfold SetTable.laid at e
  obtain ⟨ow, _, e⟩ := Option.bind_eq_some_iff.mp e
  cases e
  exact ⟨rfl, fun _ => rise_of (rise_range _ _ List.pairwise_lt_range)⟩
theorem relayAll_keeps (t : SetTable) (es : Array (Int × Value)) (n : Nat) : (relayAll t es n).2.1.led = t.led ∧ Good (relayAll t es n).2.1 := by
  unfold relayAll
  split
  · next t' o e =>
    dsimp only
    split
    · exact laid_keeps e
    · exact ⟨rfl, fun hp => by cases hp⟩
  · exact ⟨rfl, fun hp => by cases hp⟩
end Ow
namespace Ow
open PySem PySem.Spec PyProof.Rows L2
def keyI (e : Int × Value) : Int := match e.2 with | .int k _ => k | _ => 0
def AllI (l : List (Int × Value)) : Prop := ∀ e ∈ l, ∃ k tk, e = (hashInt k, Value.int k tk)
def SetI (w : World) (o : Obj) (ks : List Int) : Prop := ∃ es ep t, o = ⟨.type "set", none, .set es ep t, #[]⟩ ∧ AllI es.toList ∧ es.toList.map keyI = ks ∧ ks.Nodup ∧ es.size < scanBound ∧ t.fits es.size = true ∧ (w.params.followText "set-order" = false → t.led = true) ∧ Good t
theorem AllI.elems {prog : Program} {w : World} {l : List (Int × Value)} (h : AllI l) : ElemsOf (intKind prog w) l := fun e he => by
  obtain ⟨k, tk, rfl⟩ := h e he
  exact ⟨⟨k, intKind_is _ _ _ _, rfl⟩, rfl⟩
theorem AllI.push {l l' : List (Int × Value)} {k : Int} {tk : Tok} (h : AllI l) (p : List.Perm l' (l ++ [(hashInt k, Value.int k tk)])) : AllI l' := fun e he => by
  rcases List.mem_append.mp (p.mem_iff.mp he) with z | z
  · exact h e z
  · rw [List.mem_singleton] at z
    exact ⟨k, tk, z⟩
theorem isInt_key {l : List (Int × Value)} (h : AllI l) {e : Int × Value} (he : e ∈ l) (k : Int) : Value.isInt k e.2 = true ↔ keyI e = k := by
  obtain ⟨k', tk, rfl⟩ := h e he
  show (Value.isInt k (Value.int k' tk) = true) ↔ k' = k
  unfold Value.isInt
  rw [beq_iff_eq]
section
variable {prog : Program} {w : World} {A : Around} {E : Value → Shared → Prop} {s : Shared} {a : Addr} {o : Obj} {ks : List Int} {k : Int} {tk : Tok}
theorem addI {Q : Bool → Shared → Prop} (ho : s.heap.get? a = some o) (S : SetI w o ks) (hr : ks.length + 1 < scanBound)
    (hq : ∀ h' o' ks' b, Heap.SameBut a s.heap h' → h'.get? a = some o' → SetI w o' ks' → (∀ x, x ∈ ks' ↔ x ∈ ks ∨ x = k) → ks'.length ≤ ks.length + 1 → Q b { s with heap := h' }) :
    wpAny (model prog w) A (setAddHashed a (.int k tk) (hashInt k)) Q E s := by
  obtain ⟨es, ep, t, rfl, al, rfl, nd, hb, hf, led, gd⟩ := S
  have hsz : es.size + 1 < scanBound := by rw [List.length_map, Array.length_toList] at hr; exact hr
  unfold setAddHashed setAddHashedIn
  refine wpAny_holding (wpAny_bind (wpAny_setState_of ho rfl hf ?_))
  dsimp only
  rw [byScan_of (knd := intKind prog w) rfl hb al.elems]
  simp only [↓reduceIte]
  unfold setAddByScan
  refine wpAny_bind (wpAny_bind (wpAny_rule (wpAny_bind (wpAny_setScan_of (knd := intKind prog w) (k := k) (intKind_is _ _ _ _) ho rfl hf al.elems ?_))))
  cases hr2 : List.findIdx? (fun e => (intKind prog w).is k e.2) es.toList with
  | some j =>
    dsimp only
    obtain ⟨hj, pj, _⟩ := List.findIdx?_eq_some_iff_getElem.mp hr2
    have hk : k ∈ es.toList.map keyI := List.mem_map.mpr ⟨es.toList[j], List.getElem_mem hj, (isInt_key al (List.getElem_mem hj) k).mp pj⟩
    refine wpAny_pure (wpAny_pure ?_)
    have z := hq s.heap _ _ false (Heap.SameBut.refl a s.heap) ho ⟨es, ep, t, rfl, al, rfl, nd, hb, hf, led, gd⟩ (fun x => ⟨.inl, fun q => q.elim id fun q => q ▸ hk⟩) (Nat.le_succ _)
    exact z
  | none =>
    dsimp only
    have nk : k ∉ es.toList.map keyI := fun q => by
      obtain ⟨e, he, hk⟩ := List.mem_map.mp q
      have z := List.findIdx?_eq_none_iff.mp hr2 e he
      rw [show (intKind prog w).is k e.2 = true from (isInt_key al he k).mpr hk] at z
      cases z
    have pm := layNew_perm t es (hashInt k) (.int k tk)
    have fi := layNew_fits t es (hashInt k) (.int k tk)
    have kp := layNew_keeps t es (hashInt k) (.int k tk) gd
    generalize hL : layNew t es (hashInt k) (.int k tk) = L at pm fi kp ⊢
    obtain ⟨es1, t1, wd, gave⟩ := L
    dsimp only at pm fi kp ⊢
    rw [Array.toList_push] at pm
    have al1 := al.push pm
    have len1 : es1.size = es.size + 1 := by rw [← Array.length_toList, pm.length_eq, List.length_append, Array.length_toList]; rfl
    have kperm : List.Perm (es1.toList.map keyI) (es.toList.map keyI ++ [k]) := by
      have z := pm.map keyI
      rwa [List.map_append] at z
    have nd1 : (es1.toList.map keyI).Nodup := by
      refine kperm.nodup_iff.mpr ?_
      rw [List.nodup_append]
      exact ⟨nd, List.nodup_cons.mpr ⟨List.not_mem_nil, List.nodup_nil⟩, fun x hx y hy z => by rw [List.mem_singleton] at hy; subst hy; subst z; exact nk hx⟩
    have mem1 : ∀ x, x ∈ es1.toList.map keyI ↔ x ∈ es.toList.map keyI ∨ x = k := fun x => by rw [kperm.mem_iff, List.mem_append, List.mem_singleton]
    have gw : ∀ (b : Bool) {s1 : Shared} {Q' : Unit → Shared → Prop}, Q' () s1 → wpAny (model prog w) A (match b with | true => rule "set.scan.the-table-gave-way" | false => pure ()) Q' E s1 := fun b s1 Q' q => by
      cases b <;> first | exact wpAny_pure q | exact wpAny_rule q
    have tail : ∀ t2 : SetTable, t2.fits es1.size = true → (w.params.followText "set-order" = false → t2.led = true) → Good t2 → wpAny (model prog w) A (do
        storeSet a es1 t2
        if (!wd && t2.tooFull) = true then do
            (match (relayAll t2 es1 (SetTable.grown es1.size)).2.2 with | true => rule "set.scan.the-table-gave-way" | false => pure ())
            storeSet a (relayAll t2 es1 (SetTable.grown es1.size)).1 (relayAll t2 es1 (SetTable.grown es1.size)).2.1
            pure (some true)
          else pure (some true)) (fun r s' => wpAny (model prog w) A (match r with | some added => pure added | none => setAddHashedIn a (.int k tk) (hashInt k) 99999) Q E s') E s := fun t2 f2 l2 g2 => by
      have sz1 : es1.size ≤ sizeLine := fits_of_scanBound (by rw [len1]; exact hsz)
      refine wpAny_bind (wpAny_storeSet_of ho rfl ?_ sz1)
      have g1 : (s.heap.update a (Obj.putSet es1 t2)).get? a = some ⟨.type "set", none, .set es1 (ep + 1) t2, #[]⟩ := Heap.get?_update_self _ ho rfl
      split
      · have p2 := relayAll_perm t2 es1 (SetTable.grown es1.size)
        have f3 := relayAll_fits t2 es1 (SetTable.grown es1.size)
        have k3 := relayAll_keeps t2 es1 (SetTable.grown es1.size)
        generalize relayAll t2 es1 (SetTable.grown es1.size) = R at p2 f3 k3 ⊢
        obtain ⟨es2, t3, gv⟩ := R
        dsimp only at p2 f3 k3 ⊢
        have len2 : es2.size = es1.size := by rw [← Array.length_toList, p2.length_eq, Array.length_toList]
        refine wpAny_bind (gw _ (wpAny_bind (wpAny_storeSet_of (s := { s with heap := s.heap.update a (Obj.putSet es1 t2) }) g1 rfl ?_ (by rw [len2]; exact sz1))))
        have g3 : ((s.heap.update a (Obj.putSet es1 t2)).update a (Obj.putSet es2 t3)).get? a = some ⟨.type "set", none, .set es2 (ep + 1 + 1) t3, #[]⟩ := Heap.get?_update_self _ g1 rfl
        refine wpAny_pure (wpAny_pure (hq _ _ (es2.toList.map keyI) true ((Heap.SameBut.update _ a _).trans (Heap.SameBut.update _ a _)) g3 ⟨es2, _, t3, rfl, fun e he => al1 e (p2.mem_iff.mp he), rfl, (p2.map keyI).nodup_iff.mpr nd1, by rw [len2, len1]; exact hsz, f3, fun q => by rw [k3.1]; exact l2 q, k3.2⟩ (fun x => by rw [(p2.map keyI).mem_iff]; exact mem1 x) ?_))
        rw [List.length_map, List.length_map, Array.length_toList, Array.length_toList, len2, len1]
        exact Nat.le_refl _
      · refine wpAny_pure (wpAny_pure (hq _ _ (es1.toList.map keyI) true (Heap.SameBut.update _ a _) g1 ⟨es1, _, t2, rfl, al1, rfl, nd1, by rw [len1]; exact hsz, f2, l2, g2⟩ mem1 ?_))
        rw [List.length_map, List.length_map, Array.length_toList, Array.length_toList, len1]
        exact Nat.le_refl _
    refine wpAny_bind (gw _ ?_)
    split
    · refine wpAny_bind ?_
      rw [hashByValue_scannable 8 rfl]
      refine wpAny_pure ?_
      exact tail t1 fi (fun q => by rw [kp.1]; exact led q) kp.2
    · refine wpAny_bind (wpAny_pure ?_)
      simp only [↓reduceIte]
      exact tail t1 fi (fun q => by rw [kp.1]; exact led q) kp.2
end
end Ow
namespace Ow
open PySem PySem.Spec PyProof.Rows L2
def Upto (w : World) (val : Nat → Int) (i : Nat) (S : Addr) (h : Heap) : Prop := ∃ o ks, h.get? S = some o ∧ SetI w o ks ∧ ks.length ≤ i ∧ ∀ x, x ∈ ks ↔ ∃ j, j < i ∧ val j = x
section
variable {prog : Program} {w : World} {A : Around} {R : Result → Shared → Prop} {I : Addr} {fp wr : List Addr} {G : Array GenState → Array GenState → Prop} {n : Nat} {P : Nat → Value → Prop} {St : Nat → Shared → Prop}
theorem setloopI (W : WalksS prog w A.in1 I fp wr G n P St) (S : Addr) (nS : S ∉ fp) (val : Nat → Int) (hv : ∀ i v, P i v → ∃ t, v = .int (val i) t) (hb : n + 1 < scanBound) :
    ∀ (k i : Nat) (s : Shared), n - i = k → i ≤ n → St i s → Upto w val i S s.heap → (∀ s', Moved (S :: wr) G s s' → Upto w val n S s'.heap → R (.ok (.ret .none)) s') →
      codeAny (model prog w) A (.builtin "set.update.loop" ⟨[.ref S, .ref I], []⟩) R s := by
  have nw : S ∉ wr := fun z => nS (W.sub _ z)
  have sb : ∀ b ∈ wr, b ∈ S :: wr := fun b z => List.mem_cons_of_mem _ z
  have mv : ∀ {i : Nat} {s s' : Shared}, Moved wr G s s' → Upto w val i S s.heap → Upto w val i S s'.heap := fun m ⟨o, ks, g, r⟩ => ⟨o, ks, m.heap S _ nw g, r⟩
  intro k
  induction k with
  | zero =>
    intro i s e1 e2 st U hR
    have e3 : i = n := by lia
    subst e3
    refine codeAny_builtin F.entry_set_update_loop ?_
    rw [Around.under_plainId F.plain_set_update_loop _]
    show wpAny _ A.in1 (pyNext (.ref I) >>= _) _ _ s
    refine wpAny_bind (W.done s _ _ st fun s1 m => ?_)
    show wpAny _ A.in1 (ret Value.none) _ _ s1
    exact wpAny_pure (hR s1 (m.mono sb) (mv m U))
  | succ k ih =>
    intro i s e1 e2 st U hR
    have e3 : i < n := by lia
    refine codeAny_builtin F.entry_set_update_loop ?_
    rw [Around.under_plainId F.plain_set_update_loop _]
    show wpAny _ A.in1 (pyNext (.ref I) >>= _) _ _ s
    refine wpAny_bind (W.item i s _ _ e3 st fun v s1 hP st1 m => ?_)
    obtain ⟨t, rfl⟩ := hv i v hP
    obtain ⟨o, ks, g, SI, le, mem⟩ := mv m U
    show wpAny _ A.in1 (holding [Value.int (val i) t] (setAdd S (.int (val i) t)) >>= _) _ _ s1
    refine wpAny_bind (wpAny_holding ?_)
    unfold setAdd
    refine wpAny_holding (wpAny_bind ((intKind prog w).pyHash (k := val i) (intKind_is _ _ _ _) ?_))
    refine addI (s := { s1 with toks := s1.toks + 1 }) g SI (by lia) fun h' o' ks' b same g' SI' mem' le' => ?_
    have U' : Upto w val (i + 1) S h' := ⟨o', ks', g', SI', by lia, fun x => by
      rw [mem' x, mem x]
      constructor
      · rintro (⟨j, hj, e⟩ | rfl)
        · exact ⟨j, by lia, e⟩
        · exact ⟨i, by lia, rfl⟩
      · rintro ⟨j, hj, e⟩
        by_cases hji : j = i
        · subst hji; exact .inr e.symm
        · exact .inl ⟨j, by lia, e⟩⟩
    have oth : ∀ b' o2, b' ≠ S → s1.heap.get? b' = some o2 → h'.get? b' = some o2 := fun b' o2 hne q => (same.2 b' hne).trans q
    refine wpAny_pure ⟨plainId_quiet F.plain_set_update_loop _, ih (i + 1) { s1 with heap := h', toks := s1.toks + 1 } (by lia) e3 (W.frame _ s1 h' (s1.toks + 1) st1 (Nat.le_succ _) fun b' hb' o2 q => oth b' o2 (fun z => nS (z ▸ hb')) q) U' fun s2 m2 U2 => ?_⟩
    exact hR s2 (Moved.trans W.gtrans ((m.mono sb).then_heap (Nat.le_succ _) fun b' o2 hb' q => oth b' o2 (fun z => hb' (z ▸ List.mem_cons_self ..)) q) m2) U2
end
section
variable {prog : Program} {w : World} {A : Around} {E : Value → Shared → Prop} {s : Shared}
theorem newset_code (a : Value) {Q : Value → Shared → Prop}
    (h : Q (.ref s.heap.objs.size) { s with heap := s.heap.push { cls := .type "set", dict := none, data := .set #[] 0 (.fresh 0 0 (!(w.params.followText "set-order"))) } }) :
    codeAny (model prog w) A (.call (.builtin "set.__new__") ⟨[.type "set", a], []⟩) (wants Q E) s := by
  refine codeAny_of_tree ?_
  show wpAny _ A.in1 (do checkBuiltinCall "set.__new__" ⟨[.type "set", a], []⟩; again (.builtin "set.__new__" ⟨[.type "set", a], []⟩)) _ _ s
  refine wpAny_bind (wpAny_of_eq (F.newCall_set_1 a) (wpAny_pure ⟨plainId_quiet F.plain_set_new _, codeAny_builtin F.entry_set_new ?_⟩))
  rw [Around.under_plainId F.plain_set_new _]
  unfold Builtin.«set.__new__» Builtin.Frozenset.newClass
  have su := sub_set_self
  obtain ⟨hp, g, d, tk, os⟩ := s
  dsimp only
  wp_walk
  refine wpAny_askSetting (wpAny_pure ?_)
  dsimp only
  simp only [newObj]
  exact wpAny_bind (wpAny_alloc (wpAny_pure (wpAny_pure h)))
theorem call_setI {l : Addr} {its : Array Value} {ns : List Int} {Q : Value → Shared → Prop} (hh : A.handled = none) (hl : s.heap.IsList l its) (hi : IntsAre its.toList ns) (hb : its.size + 1 < scanBound)
    (k : ∀ (h' : Heap) (tk : Nat), Upto w (fun i => ns.getD i 0) its.size s.heap.objs.size h' → (∀ b o, b < s.heap.objs.size → s.heap.get? b = some o → h'.get? b = some o) → Q (.ref s.heap.objs.size) { s with heap := h', toks := tk }) :
    wpAny (model prog w) A (call (.type "set") [.ref l]) Q E s := by
  obtain ⟨c, tl, hmro⟩ := F.called_set.mro
  have q1 := F.called_set.made
  have q2 := F.called_set.sub
  have q3 := F.called_set.notType
  have q4 := F.called_set.canCreate
  have q5 := F.typeCall_set_1 (.ref l)
  generalize hled : (!(w.params.followText "set-order")) = led
  refine wpAny_call (codeAny_of_tree ?_)
  show wpAny _ _ (callAny (.type "set") _) _ _ _
  refine wpAny_pure ⟨Code.quiet_builtin _ (by decide +kernel), codeAny_builtin F.entry_type_call ?_⟩
  rw [Around.under_plain (weight_type_call_type "set" [.ref l] []) rfl]
  repeat (any_goals (first | assumption | wp_step))
  refine codeAny_mono (newset_code (.ref l) (E := E) (Q := fun ob s1 => ob = .ref s.heap.objs.size ∧ s1 = { s with heap := s.heap.push { cls := .type "set", dict := none, data := .set #[] 0 (.fresh 0 0 led) } }) ⟨rfl, by rw [hled]⟩) fun r s1 hr => ?_
  cases r with
  | error e => exact hr
  | ok fl =>
    cases fl with
    | ret ob =>
      obtain ⟨rfl, rfl⟩ := hr
      have gS : (s.heap.push { cls := .type "set", dict := none, data := .set #[] 0 (.fresh 0 0 led) }).get? s.heap.objs.size = some { cls := .type "set", dict := none, data := .set #[] 0 (.fresh 0 0 led) } := Heap.get?_push_size _ rfl
      have tS : Shared.TypeIs { s with heap := s.heap.push { cls := .type "set", dict := none, data := .set #[] 0 (.fresh 0 0 led) } } (.ref s.heap.objs.size) "set" := ⟨_, gS, rfl⟩
      have q6 := F.called_set.init.lookup
      have q7 := F.called_set.init.bind (.ref s.heap.objs.size)
      repeat (any_goals (first | assumption | wp_step))
      refine codeAny_mono (codeAny_call_builtin (R := wants (fun r s2 => r = .none ∧ ∃ h' tk, s2 = { s with heap := h', toks := tk } ∧ Upto w (fun i => ns.getD i 0) its.size s.heap.objs.size h' ∧ ∀ b o, b < s.heap.objs.size → s.heap.get? b = some o → h'.get? b = some o) E)
        F.called_set.init.plain F.entry_set_init (check_set_init_1 tS ?_)) fun r2 s2 hr2 => ?_
      · obtain ⟨ol, go, hcl, nl, hdl⟩ := hl
        obtain ⟨o1, o2, o3, o4⟩ := ol
        simp only at hcl hdl
        subst hcl hdl
        have gl : (s.heap.push { cls := .type "set", dict := none, data := .set #[] 0 (.fresh 0 0 led) }).get? l = some { cls := .type "list", dict := o2, data := .seq its nl, slots := o4 } := Heap.get?_push_of_some _ go
        have p1 := F.sub_list_set
        have p2 := F.sub_list_frozenset
        have p3 : (Value.type "list" == Value.type "dict") = false := by decide
        have il : (s.heap.push { cls := .type "set", dict := none, data := .set #[] 0 (.fresh 0 0 led) }).IsList l its := ⟨_, gl, rfl, nl, rfl⟩
        unfold Builtin.«set.__init__» noKeywords Builtin.Frozenset.updateFrom
        generalize eP : pyIter = PI
        wp_walk
        subst eP
        refine wpAny_pyIter_list il (wpAny_bind (wpAny_runValue ?_))
        have lS : l < s.heap.objs.size := Heap.lt_size go
        have hh3 : A.in1.in1.in1.handled = none := by simp [hh]
        have lI : l ≠ (s.heap.push { cls := .type "set", dict := none, data := .set #[] 0 (.fresh 0 0 led) }).objs.size := by
          rw [Heap.size_push]
          exact Nat.ne_of_lt (Nat.lt_succ_of_lt lS)
        have nS : s.heap.objs.size ∉ [(s.heap.push { cls := .type "set", dict := none, data := .set #[] 0 (.fresh 0 0 led) }).objs.size, l] := fun z => by
          rw [Heap.size_push] at z
          rcases List.mem_cons.mp z with z | z
          · lia
          · rw [List.mem_singleton] at z
            exact absurd z.symm (Nat.ne_of_lt lS)
        refine setloopI ((Walks.list hh3 _ l lI its).toS) s.heap.objs.size nS (fun i => ns.getD i 0) (fun i v hv => IntsAre.int_at hi i v (by rw [Array.getElem?_toList]; exact hv)) hb (its.size - 0) 0 _ (by lia) (Nat.zero_le _)
          ⟨⟨_, Heap.get?_push_size _ rfl, rfl, rfl⟩, il.push _⟩ ?U0 ?hR
        case U0 =>
          refine ⟨_, [], Heap.get?_push_of_some _ gS, ⟨#[], 0, .fresh 0 0 led, rfl, (fun e he => by simp at he), rfl, List.nodup_nil, by unfold scanBound; decide, rfl, fun z => ?_, fun _ i j hij hj => ?_⟩, Nat.le_refl _, fun x => ⟨fun z => (List.not_mem_nil z).elim, fun ⟨j, hj, _⟩ => by lia⟩⟩
          · show led = true
            rw [← hled, z]
            rfl
          · exact absurd hj (Nat.not_lt_zero _)
        case hR =>
          intro s' m U
          obtain ⟨h', g', d', tk', os'⟩ := s'
          obtain rfl : g' = s.gens := m.gens
          obtain rfl : d' = s.drawn := m.drawn
          obtain rfl : os' = s.os := m.os
          show wpAny _ _ _ _ _ _
          refine wpAny_pure ?_
          show wpAny _ _ (ret Value.none) _ _ _
          refine wpAny_pure ⟨rfl, h', tk', rfl, U, fun b o hb' e => m.heap b o (fun z => ?_) (Heap.get?_push_of_some _ (Heap.get?_push_of_some _ e))⟩
          rcases List.mem_cons.mp z with z | z
          · exact absurd z (Nat.ne_of_lt hb')
          · rw [List.mem_singleton, Heap.size_push] at z
            exact absurd z (Nat.ne_of_lt (Nat.lt_succ_of_lt hb'))
      · cases r2 with
        | error e => exact hr2
        | ok fl2 =>
          cases fl2 with
          | ret r =>
            obtain ⟨rfl, h', tk, rfl, U, kp⟩ := hr2
            repeat (any_goals (first | assumption | wp_step))
            exact k _ _ U kp
          | _ => exact hr2.elim
    | _ => exact hr.elim
end
end Ow
namespace Ow
open PySem PySem.Spec PyProof.Rows L2
theorem slot_setit : Slot "set_iterator" "__next__" "set_iterator.__next__" :=
  .of (owner := "set_iterator") (n := "__next__") (by rw [typeLookup_type, builtinLookup_eq_fast]; kernel_rfl) (by decide +kernel) (by decide +kernel) (by decide +kernel) (by first | exact .inl (by decide +kernel) | exact .inr (by decide +kernel)) (by rw [isSubtype_type]; kernel_rfl)
theorem entry_setit : entryFor table "set_iterator.__next__" = some Builtin.«set_iterator.__next__» := entryFor_of_fast (by kernel_rfl)
theorem args_setit (a : Value) : argsOk "set_iterator.__next__" ⟨[a], []⟩ := by unfold argsOk; kernel_rfl
theorem setNext_is (a : Addr) (slot given ep : Nat) : setNext a slot given ep = (do
    let (es, epoch, t) ← setState a
    if ← setsByText then
      if epoch != ep then unsupported "set_iterator.__next__:elements-changed"
      return ((← setWalk a)[given]?).map fun e => (e.2, slot)
    if !t.plain && es.size > 1 then unsupported "set_iterator.__next__:the-table-is-plain-no-more"
    (if !t.led && !es.isEmpty then unsupported "set:maker-not-led" else pure () : Sem Unit)
    let i := SetTable.below t.place slot
    return match es[i]?, t.place[i]? with
      | some (_, x), some j => some (x, j + 1)
      | _, _ => none) := rfl
theorem setWalk_is (a : Addr) : setWalk a = (do
    let (es, epoch, t) ← setState a
    if ← setsByText then return pickOrder ((← ask).params.setOrder a epoch) es
    if !t.plain && es.size > 1 then return (← drawOrder es.size es.toList).toArray
    (if !t.led && es.size > 1 then unsupported "set:maker-not-led" else pure () : Sem Unit)
    return es) := rfl
def itO (first : Value) (i : Nat) (S : Addr) (n ep : Nat) : Obj := ⟨.type "set_iterator", none, .fields #[first, .int i 0, .ref S, .int n 0, .int ep 0], #[]⟩
section
variable {prog : Program} {w : World} {A : Around} {E : Value → Shared → Prop} {s : Shared} {S I : Addr} {es : Array (Int × Value)} {ep : Nat} {t : SetTable}
theorem byText_at {Q : Bool → Shared → Prop} (h : Q (w.params.followText "set-order") s) : wpAny (model prog w) A setsByText Q E s := by
  unfold setsByText
  exact wpAny_bind (wpAny_askSetting (wpAny_pure h))
theorem nextC {slot given : Nat} {e : Int × Value} {j : Nat} {Q : Option (Value × Nat) → Shared → Prop} (hS : s.heap.get? S = some ⟨.type "set", none, .set es ep t, #[]⟩) (hf : t.fits es.size = true) (hb : w.params.followText "set-order" = false) (hd : (!t.plain && decide (es.size > 1)) = false) (hl : t.led = true)
    (h : Q (match es[SetTable.below t.place slot]?, t.place[SetTable.below t.place slot]? with | some (_, x), some j => some (x, j + 1) | _, _ => none) s) :
    wpAny (model prog w) A (setNext S slot given ep) Q E s := by
  rw [setNext_is]
  refine wpAny_bind (wpAny_setState_of hS rfl hf (wpAny_bind (byText_at ?_)))
  rw [hb]
  simp only [Bool.false_eq_true, ↓reduceIte]
  rw [hd, hl]
  simp only [Bool.false_eq_true, ↓reduceIte, Bool.not_true, Bool.false_and]
  exact wpAny_pure h
theorem nextA {slot given : Nat} {Q : Option (Value × Nat) → Shared → Prop} (hS : s.heap.get? S = some ⟨.type "set", none, .set es ep t, #[]⟩) (hf : t.fits es.size = true) (hb : w.params.followText "set-order" = true)
    (h : Q (((pickOrder (w.params.setOrder S ep) es)[given]?).map fun e => (e.2, slot)) s) :
    wpAny (model prog w) A (setNext S slot given ep) Q E s := by
  rw [setNext_is]
  refine wpAny_bind (wpAny_setState_of hS rfl hf (wpAny_bind (byText_at ?_)))
  rw [hb]
  simp only [bne_self_eq_false, Bool.false_eq_true, ↓reduceIte]
  rw [setWalk_is]
  refine wpAny_bind (wpAny_bind (wpAny_setState_of hS rfl hf (wpAny_bind (byText_at ?_))))
  rw [hb]
  simp only [↓reduceIte]
  exact wpAny_bind (wpAny_askSetting (wpAny_pure (wpAny_pure h)))
theorem next_item {slot i n : Nat} {x : Value} {slot' : Nat} {Q : Option Value → Shared → Prop} (hI : s.heap.get? I = some (itO (.int slot 0) i S n ep)) (hS : s.heap.get? S = some ⟨.type "set", none, .set es ep t, #[]⟩) (hf : t.fits es.size = true) (hn : n = es.size)
    (hnx : ∀ (A : Around) (E : Value → Shared → Prop) (Q : Option (Value × Nat) → Shared → Prop), Q (some (x, slot')) s → wpAny (model prog w) A (setNext S slot i ep) Q E s)
    (h : ∀ h', h'.get? I = some (itO (.int slot' 0) (i + 1) S n ep) → Heap.SameBut I s.heap h' → Q (some x) { s with heap := h' }) : wpAny (model prog w) A (pyNext (.ref I)) Q E s := by
  unfold pyNext
  have ty : s.TypeIs (.ref I) "set_iterator" := ⟨_, hI, rfl⟩
  refine wpAny_bind (wpAny_attempt (wpAny_callSpecial?_slot (name := Str.ofString "__next__") ty slot_setit (wpAny_call_entry slot_setit ty entry_setit ?_ (args_setit _))))
  unfold Builtin.«set_iterator.__next__»
  refine wpAny_bind (wpAny_pure ?_)
  dsimp only
  refine wpAny_bind (wpAny_fieldsOf hI rfl ?_)
  dsimp only
  refine wpAny_bind (wpAny_setEntries_of hS rfl hf ?_)
  subst hn
  simp only [bne_self_eq_false, Bool.false_eq_true, ↓reduceIte]
  simp only [Int.toNat_natCast]
  refine wpAny_bind (hnx _ _ _ ?_)
  dsimp only
  refine wpAny_bind (wpAny_setField hI rfl (by show 0 < 5; decide) ?_)
  have g1 := Heap.get?_update_self (Obj.mapFields (·.setIfInBounds 0 (rawInt slot'))) hI rfl
  refine wpAny_bind (wpAny_setField g1 rfl (by show 1 < 5; decide) ?_)
  have g2 := Heap.get?_update_self (Obj.mapFields (·.setIfInBounds 1 (rawInt ((i : Int) + 1)))) g1 rfl
  exact wpAny_pure ⟨x, rfl, wpAny_pure (h _ g2 ((Heap.SameBut.update ..).trans (Heap.SameBut.update ..)))⟩
theorem stop_it {Q : Option Value → Shared → Prop} {o : Obj} {vs : Array Value} (hh : A.handled = none) (hI : s.heap.get? I = some o) (hd : o.data = .fields vs) (hz : 2 < vs.size) (h : ∀ h', Heap.ExtBut I s.heap h' → Q none { s with heap := h' }) :
    wpAny (model prog w) A.in1 (do
        setField (Value.ref I) 2 Value.none
        let e ← newExc (Value.type "StopIteration") []
        raiseNew e)
      (fun fin s' => ∃ v, fin = Fin.done (Flow.ret v) ∧ wpAny (model prog w) A (pure (some v)) Q E s')
      (fun e s' => wpAny (model prog w) A (do if ← isInstance e (Value.type "StopIteration") then pure none else throw e) Q E s') s := by
  refine wpAny_bind (wpAny_setField hI hd hz (wpAny_bind ?_))
  simp only [newExc, newTuple]
  refine wpAny_bind (wpAny_newObj_type ?_ (by size_fits))
  refine wpAny_bind (m := firstArgMember _ _) (wpAny_of_eq (a := Value.none) (by first | rfl | (simp only [firstArgMember]; rfl)) ?_)
  refine wpAny_newObj_type ?_ (by size_fits)
  simp only [raiseNew]
  refine wpAny_bind (wpAny_handled ?_)
  rw [show A.in1.handled = none from hh]
  refine wpAny_bind (wpAny_pure (wpAny_throw ?_))
  refine wpAny_bind (wpAny_isInstance (T := "StopIteration") (b := true) ⟨_, Heap.get?_push_size _ rfl, rfl⟩ isSubtype_stop ?_)
  simp only [↓reduceIte]
  refine wpAny_pure (h _ fun b ob hb q => ?_)
  exact Heap.get?_push_of_some _ (Heap.get?_push_of_some _ ((Heap.get?_update_other _ _ (Ne.symm hb)).trans q))
theorem next_end {slot i n : Nat} {Q : Option Value → Shared → Prop} (hh : A.handled = none) (hI : s.heap.get? I = some (itO (.int slot 0) i S n ep)) (hS : s.heap.get? S = some ⟨.type "set", none, .set es ep t, #[]⟩) (hf : t.fits es.size = true) (hn : n = es.size)
    (hnx : ∀ (A : Around) (E : Value → Shared → Prop) (Q : Option (Value × Nat) → Shared → Prop), Q none s → wpAny (model prog w) A (setNext S slot i ep) Q E s)
    (h : ∀ h', Heap.ExtBut I s.heap h' → Q none { s with heap := h' }) : wpAny (model prog w) A (pyNext (.ref I)) Q E s := by
  unfold pyNext
  have ty : s.TypeIs (.ref I) "set_iterator" := ⟨_, hI, rfl⟩
  refine wpAny_bind (wpAny_attempt (wpAny_callSpecial?_slot (name := Str.ofString "__next__") ty slot_setit (wpAny_call_entry slot_setit ty entry_setit ?_ (args_setit _))))
  unfold Builtin.«set_iterator.__next__»
  refine wpAny_bind (wpAny_pure ?_)
  dsimp only
  refine wpAny_bind (wpAny_fieldsOf hI rfl ?_)
  dsimp only
  refine wpAny_bind (wpAny_setEntries_of hS rfl hf ?_)
  subst hn
  simp only [bne_self_eq_false, Bool.false_eq_true, ↓reduceIte]
  simp only [Int.toNat_natCast]
  refine wpAny_bind (hnx _ _ _ ?_)
  exact stop_it hh hI rfl (by show 2 < 5; decide) h
theorem draw_item {T : Addr} {ot : Obj} {ps : Array Value} {i n p : Nat} {tk : Tok} {e : Int × Value} {Q : Option Value → Shared → Prop} (hI : s.heap.get? I = some (itO (.ref T) i S n ep)) (hS : s.heap.get? S = some ⟨.type "set", none, .set es ep t, #[]⟩) (hf : t.fits es.size = true) (hn : n = es.size)
    (hT : s.heap.get? T = some ot) (hd : ∃ m, ot.data = .seq ps m) (hp : ps[i]? = some (.int p tk)) (he : es[p]? = some e)
    (h : ∀ h', h'.get? I = some (itO (.ref T) (i + 1) S n ep) → Heap.SameBut I s.heap h' → Q (some e.2) { s with heap := h' }) : wpAny (model prog w) A (pyNext (.ref I)) Q E s := by
  unfold pyNext
  have ty : s.TypeIs (.ref I) "set_iterator" := ⟨_, hI, rfl⟩
  refine wpAny_bind (wpAny_attempt (wpAny_callSpecial?_slot (name := Str.ofString "__next__") ty slot_setit (wpAny_call_entry slot_setit ty entry_setit ?_ (args_setit _))))
  unfold Builtin.«set_iterator.__next__»
  refine wpAny_bind (wpAny_pure ?_)
  dsimp only
  refine wpAny_bind (wpAny_fieldsOf hI rfl ?_)
  dsimp only
  refine wpAny_bind (wpAny_setEntries_of hS rfl hf ?_)
  subst hn
  simp only [bne_self_eq_false, Bool.false_eq_true, ↓reduceIte]
  simp only [Int.toNat_natCast]
  obtain ⟨m, hd⟩ := hd
  refine wpAny_bind (wpAny_seqItems hT hd ?_)
  dsimp only
  rw [hp]
  dsimp only
  unfold setNextDrawn
  refine wpAny_bind (wpAny_bind (wpAny_setState_of hS rfl hf ?_))
  simp only [bne_self_eq_false, Bool.false_eq_true, ↓reduceIte, Int.toNat_natCast, he]
  refine wpAny_pure (wpAny_bind (wpAny_setField hI rfl (by show 1 < 5; decide) ?_))
  have g2 := Heap.get?_update_self (Obj.mapFields (·.setIfInBounds 1 (rawInt ((i : Int) + 1)))) hI rfl
  exact wpAny_pure ⟨_, rfl, wpAny_pure (h _ g2 (Heap.SameBut.update ..))⟩
theorem draw_end {T : Addr} {ot : Obj} {ps : Array Value} {i n : Nat} {Q : Option Value → Shared → Prop} (hh : A.handled = none) (hI : s.heap.get? I = some (itO (.ref T) i S n ep)) (hS : s.heap.get? S = some ⟨.type "set", none, .set es ep t, #[]⟩) (hf : t.fits es.size = true) (hn : n = es.size)
    (hT : s.heap.get? T = some ot) (hd : ∃ m, ot.data = .seq ps m) (hp : ps[i]? = none)
    (h : ∀ h', Heap.ExtBut I s.heap h' → Q none { s with heap := h' }) : wpAny (model prog w) A (pyNext (.ref I)) Q E s := by
  unfold pyNext
  have ty : s.TypeIs (.ref I) "set_iterator" := ⟨_, hI, rfl⟩
  refine wpAny_bind (wpAny_attempt (wpAny_callSpecial?_slot (name := Str.ofString "__next__") ty slot_setit (wpAny_call_entry slot_setit ty entry_setit ?_ (args_setit _))))
  unfold Builtin.«set_iterator.__next__»
  refine wpAny_bind (wpAny_pure ?_)
  dsimp only
  refine wpAny_bind (wpAny_fieldsOf hI rfl ?_)
  dsimp only
  refine wpAny_bind (wpAny_setEntries_of hS rfl hf ?_)
  subst hn
  simp only [bne_self_eq_false, Bool.false_eq_true, ↓reduceIte]
  simp only [Int.toNat_natCast]
  obtain ⟨m, hd⟩ := hd
  refine wpAny_bind (wpAny_seqItems hT hd ?_)
  dsimp only
  rw [hp]
  dsimp only
  refine wpAny_bind (wpAny_setField hI rfl (by show 0 < 5; decide) ?_)
  have g1 := Heap.get?_update_self (Obj.mapFields (·.setIfInBounds 0 (rawInt 0))) hI rfl
  refine stop_it (s := { s with heap := s.heap.update I (Obj.mapFields (·.setIfInBounds 0 (rawInt 0))) }) hh g1 rfl (by show 2 < 5; decide) fun h' x => h h' fun b o hb q => x b o hb ((Heap.get?_update_other _ _ (Ne.symm hb)).trans q)
end
end Ow
namespace Ow
open PySem PySem.Spec PyProof.Rows L2
theorem slot_setit_iter : Slot "set_iterator" "__iter__" "set_iterator.__iter__" :=
  .of (owner := "set_iterator") (n := "__iter__") (by rw [typeLookup_type, builtinLookup_eq_fast]; kernel_rfl) (by decide +kernel) (by decide +kernel) (by decide +kernel) (by first | exact .inl (by decide +kernel) | exact .inr (by decide +kernel)) (by rw [isSubtype_type]; kernel_rfl)
theorem args_setit_iter (a : Value) : argsOk "set_iterator.__iter__" ⟨[a], []⟩ := by unfold argsOk; kernel_rfl
theorem entry_setit_iter : entryFor table "set_iterator.__iter__" = some Builtin.«dict_keyiterator.__iter__» :=
  entryFor_alias (id' := "dict_keyiterator.__iter__") (by kernel_rfl) rfl (by decide +kernel) (by kernel_rfl)
theorem erase_perm {α : Type} : ∀ (l : List α) (i : Nat) (h : i < l.length), List.Perm ([l[i]] ++ l.eraseIdx i) l
  | x :: l, 0, h => .refl _
  | x :: l, i + 1, h => (List.Perm.swap x _ _).trans (.cons x (erase_perm l i (Nat.lt_of_succ_lt_succ h)))
theorem pick_perm {α : Type} (f : Nat → Nat) : ∀ (n k : Nat) (l : List α) (out : Array α), l.length = n → List.Perm (pickOrder.go f n k l out).toList (out.toList ++ l)
  | 0, k, l, out, h => by
    obtain rfl : l = [] := List.length_eq_zero_iff.mp h
    show List.Perm out.toList _
    rw [List.append_nil]
  | n + 1, k, l, out, h => by
    have hlt : f k % l.length < l.length := Nat.mod_lt _ (by lia)
    unfold pickOrder.go
    rw [List.getElem?_eq_getElem hlt]
    dsimp only
    refine (pick_perm f n (k + 1) (l.eraseIdx (f k % l.length)) (out.push l[f k % l.length]) (by rw [List.length_eraseIdx_of_lt hlt]; lia)).trans ?_
    rw [Array.toList_push, List.append_assoc]
    exact List.Perm.append_left _ (erase_perm l _ hlt)
theorem pickOrder_perm {α : Type} (f : Nat → Nat) (xs : Array α) : List.Perm (pickOrder f xs).toList xs.toList := by
  have z := pick_perm f xs.size 0 xs.toList #[] (Array.length_toList)
  exact z
section
variable {prog : Program} {w : World} {A : Around} {E : Value → Shared → Prop} {s : Shared} {S I : Addr} {es : Array (Int × Value)} {ep : Nat} {t : SetTable}
theorem iter_setit {first : Value} {i n : Nat} {Q : Value → Shared → Prop} (hI : s.heap.get? I = some (itO first i S n ep)) (h : Q (.ref I) s) : wpAny (model prog w) A (pyIter (.ref I)) Q E s := by
  have ty : s.TypeIs (.ref I) "set_iterator" := ⟨_, hI, rfl⟩
  refine wpAny_pyIter_slot ty slot_setit_iter (wpAny_call_entry slot_setit_iter ty entry_setit_iter ?_ (args_setit_iter _))
  show wpAny _ _ (ret (.ref I)) _ _ s
  exact wpAny_pure ⟨_, rfl, "set_iterator", _, ty, slot_setit.lookup, h⟩
abbrev stO (es : Array (Int × Value)) (ep : Nat) (t : SetTable) : Obj := ⟨.type "set", none, .set es ep t, #[]⟩
theorem walkC (hh : A.handled = none) (hne : S ≠ I) (hf : t.fits es.size = true) (hb : w.params.followText "set-order" = false) (hd : (!t.plain && decide (es.size > 1)) = false) (hl : t.led = true) (R : Rise t.place) :
    Walks prog w A I [I, S] [I] es.size (fun i v => (es.toList.map (·.2))[i]? = some v) (fun i h => h.get? S = some (stO es ep t) ∧ ∃ slot : Nat, h.get? I = some (itO (.int slot 0) i S es.size ep) ∧ (∀ k, k < i → t.place.getD k 0 < slot) ∧ ∀ k, i ≤ k → k < t.place.size → slot ≤ t.place.getD k 0) := by
  have hsz : t.place.size = es.size := by
    simp only [SetTable.fits, Bool.and_eq_true, beq_iff_eq] at hf
    exact hf.1
  refine ⟨fun b hb => by simp at hb; simp [hb], fun i h h' ⟨g1, slot, g2, r⟩ k => ⟨k S (by simp) _ g1, slot, k I (by simp) _ g2, r⟩, fun i s Q E hi ⟨g1, slot, g2, r1, r2⟩ hQ => ?_, fun s Q E ⟨g1, slot, g2, r1, r2⟩ hQ => ?_, fun i s Q E ⟨g1, slot, g2, _⟩ hQ => iter_setit g2 hQ⟩
  · have bl : SetTable.below t.place slot = i := below_at R (by lia) r1 r2
    have hj : t.place[i]? = some (t.place.getD i 0) := by
      rw [Array.getD_eq_getD_getElem?, Array.getElem?_eq_getElem (show i < t.place.size by lia)]
      rfl
    have he : es[i]? = some es[i] := Array.getElem?_eq_getElem hi
    refine next_item (x := es[i].2) (slot' := t.place.getD i 0 + 1) g2 g1 hf rfl (fun A E Q q => nextC (e := es[i]) (j := 0) g1 hf hb hd hl (by rw [bl, he, hj]; exact q)) fun h' g3 sb => hQ _ h' s.toks ?_ ⟨(sb.2 S hne).trans g1, _, g3, fun k hk => ?_, fun k h1 h2 => ?_⟩ fun b o hb q => (sb.2 b fun z => hb (by simp [z])).trans q
    · rw [List.getElem?_map, Array.getElem?_toList, he]
      rfl
    · by_cases e : k = i
      · rw [e]; exact Nat.lt_succ_self _
      · have := R k i (by lia) (by lia)
        lia
    · exact R i k (by lia) h2
  · have bl : SetTable.below t.place slot = es.size := below_at R (by lia) r1 r2
    refine next_end hh g2 g1 hf rfl (fun A E Q q => nextC (e := (0, .none)) (j := 0) g1 hf hb hd hl (by rw [bl, Array.getElem?_eq_none (Nat.le_refl _)]; exact q)) fun h' ex => hQ h' s.toks fun b o hb q => ex b o (fun z => hb (by simp [z])) q
theorem walkA (hh : A.handled = none) (hne : S ≠ I) (hf : t.fits es.size = true) (hb : w.params.followText "set-order" = true) :
    Walks prog w A I [I, S] [I] es.size (fun i v => ((pickOrder (w.params.setOrder S ep) es).toList.map (·.2))[i]? = some v) (fun i h => h.get? S = some (stO es ep t) ∧ ∃ slot : Nat, h.get? I = some (itO (.int slot 0) i S es.size ep)) := by
  have hsz : (pickOrder (w.params.setOrder S ep) es).size = es.size := by
    rw [← Array.length_toList, (pickOrder_perm _ es).length_eq, Array.length_toList]
  refine ⟨fun b hb => by simp at hb; simp [hb], fun i h h' ⟨g1, slot, g2⟩ k => ⟨k S (by simp) _ g1, slot, k I (by simp) _ g2⟩, fun i s Q E hi ⟨g1, slot, g2⟩ hQ => ?_, fun s Q E ⟨g1, slot, g2⟩ hQ => ?_, fun i s Q E ⟨g1, slot, g2⟩ hQ => iter_setit g2 hQ⟩
  · have he : (pickOrder (w.params.setOrder S ep) es)[i]? = some (pickOrder (w.params.setOrder S ep) es)[i] := Array.getElem?_eq_getElem (by lia)
    refine next_item (x := (pickOrder (w.params.setOrder S ep) es)[i].2) (slot' := slot) g2 g1 hf rfl (fun A E Q q => nextA g1 hf hb (by rw [he]; exact q)) fun h' g3 sb => hQ _ h' s.toks ?_ ⟨(sb.2 S hne).trans g1, slot, g3⟩ fun b o hb q => (sb.2 b fun z => hb (by simp [z])).trans q
    rw [List.getElem?_map, Array.getElem?_toList, he]
    rfl
  · refine next_end hh g2 g1 hf rfl (fun A E Q q => nextA g1 hf hb (by rw [Array.getElem?_eq_none (by lia)]; exact q)) fun h' ex => hQ h' s.toks fun b o hb q => ex b o (fun z => hb (by simp [z])) q
theorem walkB {T : Addr} {ps : List Nat} {ot : Obj} (hh : A.handled = none) (hne : S ≠ I) (hnT : T ≠ I) (hf : t.fits es.size = true) (hd : ∃ m, ot.data = .seq (ps.map fun i : Nat => rawInt i).toArray m) (hp : List.Perm ps (List.range es.size)) :
    Walks prog w A I [I, S, T] [I] es.size (fun i v => (ps.map fun p => (es.getD p (0, .none)).2)[i]? = some v) (fun i h => h.get? S = some (stO es ep t) ∧ h.get? T = some ot ∧ h.get? I = some (itO (.ref T) i S es.size ep)) := by
  have hlen : ps.length = es.size := by rw [hp.length_eq, List.length_range]
  refine ⟨fun b hb => by simp at hb; simp [hb], fun i h h' ⟨g1, g2, g3⟩ k => ⟨k S (by simp) _ g1, k T (by simp) _ g2, k I (by simp) _ g3⟩, fun i s Q E hi ⟨g1, g2, g3⟩ hQ => ?_, fun s Q E ⟨g1, g2, g3⟩ hQ => ?_, fun i s Q E ⟨g1, g2, g3⟩ hQ => iter_setit g3 hQ⟩
  · have hi' : i < ps.length := by lia
    have hpi : ps[i] < es.size := List.mem_range.mp (hp.mem_iff.mp (List.getElem_mem hi'))
    have he : es[ps[i]]? = some es[ps[i]] := Array.getElem?_eq_getElem hpi
    refine draw_item (p := ps[i]) (tk := 0) (e := es[ps[i]]) g3 g1 hf rfl g2 hd (by rw [List.getElem?_toArray, List.getElem?_map, List.getElem?_eq_getElem hi']; rfl) he fun h' g4 sb => hQ _ h' s.toks ?_ ⟨(sb.2 S hne).trans g1, (sb.2 T hnT).trans g2, g4⟩ fun b o hb q => (sb.2 b fun z => hb (by simp [z])).trans q
    rw [List.getElem?_map, List.getElem?_eq_getElem hi']
    show some (es.getD ps[i] (0, .none)).2 = some es[ps[i]].2
    rw [Array.getD_eq_getD_getElem?, he]
    rfl
  · refine draw_end hh g3 g1 hf rfl g2 hd (by rw [List.getElem?_toArray, List.getElem?_eq_none (by rw [List.length_map]; lia)]) fun h' ex => hQ h' s.toks fun b o hb q => ex b o (fun z => hb (by simp [z])) q
theorem range_vals (es : Array (Int × Value)) : (List.range es.size).map (fun p => (es.getD p (0, .none)).2) = es.toList.map (·.2) := by
  refine List.ext_getElem (by simp) fun i h1 h2 => ?_
  have hi : i < es.size := by simpa using h1
  simp [Array.getD_eq_getD_getElem?, Array.getElem?_eq_getElem hi]
theorem drawOrder_perm {α : Type} {Q : List α → Shared → Prop} : ∀ (n : Nat) (xs : List α) (s : Shared), xs.length = n → (∀ ys d, List.Perm ys xs → Q ys { s with drawn := d }) → wpAny (model prog w) A (drawOrder n xs) Q E s
  | 0, xs, s, h, k => by
    obtain rfl : xs = [] := List.length_eq_zero_iff.mp h
    exact wpAny_pure (k [] s.drawn (.refl _))
  | n + 1, [], s, h, k => by cases h
  | n + 1, x :: xs, s, h, k => by
    unfold drawOrder
    refine wpAny_bind fun Γ p hΓ => ?_
    show Sem.wp _ _ (Sem.choose .order (x :: xs).length Sem.pure) _ _ _ _
    rw [Sem.wp_choose]
    refine ⟨by rw [List.length_cons]; lia, ?_⟩
    generalize hc : (model prog w).w.draws .order (s.drawn.get .order) % (x :: xs).length = c
    have hlt : c < (x :: xs).length := by rw [← hc]; exact Nat.mod_lt _ (by rw [List.length_cons]; lia)
    have k2 : wpAny (model prog w) A (do
        match (x :: xs)[c]? with
        | some x1 => return x1 :: (← drawOrder n ((x :: xs).eraseIdx c))
        | none => unsupported "internal:drawOrder") Q E { s with drawn := s.drawn.bump .order } := by
      rw [List.getElem?_eq_getElem hlt]
      refine wpAny_bind (drawOrder_perm n _ _ (by rw [List.length_eraseIdx_of_lt hlt]; lia) fun ys d pm => wpAny_pure (k _ d ?_))
      exact (List.Perm.cons _ pm).trans (erase_perm (x :: xs) c hlt)
    rw [Sem.wp_pure]
    exact k2
end
end Ow
namespace Ow
open PySem PySem.Spec PyProof.Rows L2
theorem slot_set_iter' : Slot "set" "__iter__" "set.__iter__" :=
  .of (owner := "set") (n := "__iter__") (by rw [typeLookup_type, builtinLookup_eq_fast]; kernel_rfl) (by decide +kernel) (by decide +kernel) (by decide +kernel) (by first | exact .inl (by decide +kernel) | exact .inr (by decide +kernel)) (by rw [isSubtype_type]; kernel_rfl)
theorem args_set_iter' (a : Value) : argsOk "set.__iter__" ⟨[a], []⟩ := by unfold argsOk; kernel_rfl
theorem entry_set_iter' : entryFor table "set.__iter__" = some Builtin.«frozenset.__iter__» := entryFor_alias (id' := "frozenset.__iter__") (by kernel_rfl) rfl (by decide +kernel) (by kernel_rfl)
theorem setDrawn_is (a : Addr) : setDrawn a = (do
    let (es, _, t) ← setState a
    let byText ← setsByText
    return !byText && (!t.plain && es.size > 1)) := rfl
theorem setEpoch_is (a : Addr) : setEpoch a = (do return (← setState a).2.1) := rfl
def Yields (es : Array (Int × Value)) (vs : List Value) : Prop := List.Perm vs (es.toList.map (·.2))
section
variable {prog : Program} {w : World} {A : Around} {E : Value → Shared → Prop} {s : Shared} {S : Addr} {es : Array (Int × Value)} {ep : Nat} {t : SetTable}
theorem iter_set {A' : Around} {Q : Value → Shared → Prop} (hh : A'.handled = none) (hS : s.heap.get? S = some (stO es ep t)) (hf : t.fits es.size = true) (hzz : es.size < scanBound) (hled : w.params.followText "set-order" = false → t.led = true) (hg : Good t)
    (k : ∀ (I : Addr) (s' : Shared) (vs : List Value) (fp : List Addr) (St : Nat → Heap → Prop), s'.gens = s.gens → s'.os = s.os → s'.toks = s.toks → (∀ b o, s.heap.get? b = some o → s'.heap.get? b = some o) → s.heap.objs.size ≤ I → (∀ b ∈ fp, b < s'.heap.objs.size ∧ (b = S ∨ s.heap.objs.size ≤ b)) → I ∈ fp →
      Yields es vs → Walks prog w A' I fp [I] es.size (fun i v => vs[i]? = some v) St → St 0 s'.heap → Q (.ref I) s') :
    wpAny (model prog w) A (pyIter (.ref S)) Q E s := by
  have ty : s.TypeIs (.ref S) "set" := ⟨_, hS, rfl⟩
  have lS : S < s.heap.objs.size := Heap.lt_size hS
  refine wpAny_pyIter_slot ty slot_set_iter' (wpAny_call_entry slot_set_iter' ty entry_set_iter' ?_ (args_set_iter' _))
  unfold Builtin.«frozenset.__iter__» Builtin.Frozenset.slot0 Builtin.Frozenset.sizeOf
  refine wpAny_bind (wpAny_pure (wpAny_bind (wpAny_bind (wpAny_setEntries_of hS rfl hf (wpAny_pure ?_)))))
  rw [setDrawn_is]
  refine wpAny_bind (wpAny_bind (wpAny_setState_of hS rfl hf (wpAny_bind (byText_at (wpAny_pure ?_)))))
  by_cases hdr : (!w.params.followText "set-order" && (!t.plain && decide (es.size > 1))) = true
  · rw [if_pos hdr]
    refine wpAny_bind (drawOrder_perm es.size (List.range es.size) s (List.length_range ..) fun ps d pm => ?_)
    have hbt : w.params.followText "set-order" = false := by
      cases z : w.params.followText "set-order" with
      | false => rfl
      | true => rw [z] at hdr; cases hdr
    refine wpAny_bind (wpAny_newTuple ?_ (by rw [List.length_map, pm.length_eq, List.length_range]; exact fits_of_scanBound hzz))
    dsimp only
    generalize hot : ({ cls := .type "tuple", data := .seq (ps.map fun i : Nat => rawInt i).toArray } : Obj) = ot
    have gT : (s.heap.push ot).get? s.heap.objs.size = some ot := Heap.get?_push_size _ (by rw [← hot]; rfl)
    have gS1 : (s.heap.push ot).get? S = some (stO es ep t) := Heap.get?_push_of_some _ hS
    rw [setEpoch_is]
    refine wpAny_bind (wpAny_bind (wpAny_setState_of gS1 rfl hf (wpAny_pure ?_)))
    refine wpAny_bind (wpAny_newObj_type (wpAny_pure ?_))
    have gI : ((s.heap.push ot).push (itO (.ref s.heap.objs.size) 0 S es.size ep)).get? (s.heap.push ot).objs.size = some (itO (.ref s.heap.objs.size) 0 S es.size ep) := Heap.get?_push_size _ rfl
    refine ⟨_, rfl, "set_iterator", _, ⟨_, gI, rfl⟩, slot_setit.lookup, ?_⟩
    have lI : (s.heap.push ot).objs.size = s.heap.objs.size + 1 := Heap.size_push _ _
    refine k _ _ (ps.map fun p => (es.getD p (0, .none)).2) [(s.heap.push ot).objs.size, S, s.heap.objs.size] _ rfl rfl rfl (fun b o q => Heap.get?_push_of_some _ (Heap.get?_push_of_some _ q)) (by rw [lI]; exact Nat.le_succ _) (fun b hb => ?_) (List.mem_cons_self ..) ?_
      (walkB hh (by rw [lI]; exact Nat.ne_of_lt (Nat.lt_succ_of_lt lS)) (by rw [lI]; exact Nat.ne_of_lt (Nat.lt_succ_self _)) hf (ot := ot) (by rw [← hot]; exact ⟨_, rfl⟩) pm) ⟨Heap.get?_push_of_some _ gS1, Heap.get?_push_of_some _ gT, gI⟩
    · show b < ((s.heap.push ot).push _).objs.size ∧ _
      rw [Heap.size_push, lI]
      rcases List.mem_cons.mp hb with z | hb
      · rw [z, lI]; exact ⟨Nat.lt_succ_self _, .inr (Nat.le_succ _)⟩
      rcases List.mem_cons.mp hb with z | hb
      · rw [z]; exact ⟨Nat.lt_succ_of_lt (Nat.lt_succ_of_lt lS), .inl rfl⟩
      · rw [List.mem_singleton] at hb
        rw [hb]; exact ⟨Nat.lt_succ_of_lt (Nat.lt_succ_self _), .inr (Nat.le_refl _)⟩
    · show List.Perm _ _
      rw [← range_vals]
      exact pm.map _
  · rw [if_neg hdr]
    refine wpAny_bind (wpAny_pure ?_)
    rw [setEpoch_is]
    refine wpAny_bind (wpAny_bind (wpAny_setState_of hS rfl hf (wpAny_pure ?_)))
    refine wpAny_bind (wpAny_newObj_type (wpAny_pure ?_))
    have gI : (s.heap.push (itO (.int 0 0) 0 S es.size ep)).get? s.heap.objs.size = some (itO (.int 0 0) 0 S es.size ep) := Heap.get?_push_size _ rfl
    refine ⟨_, rfl, "set_iterator", _, ⟨_, gI, rfl⟩, slot_setit.lookup, ?_⟩
    have nI : S ≠ s.heap.objs.size := Nat.ne_of_lt lS
    have fpO : ∀ b ∈ [s.heap.objs.size, S], b < (s.heap.push (itO (.int 0 0) 0 S es.size ep)).objs.size ∧ (b = S ∨ s.heap.objs.size ≤ b) := fun b hb => by
      rw [Heap.size_push]
      rcases List.mem_cons.mp hb with z | hb
      · rw [z]; exact ⟨Nat.lt_succ_self _, .inr (Nat.le_refl _)⟩
      · rw [List.mem_singleton] at hb
        rw [hb]; exact ⟨Nat.lt_succ_of_lt lS, .inl rfl⟩
    cases hbt : w.params.followText "set-order" with
    | true =>
      exact k _ _ ((pickOrder (w.params.setOrder S ep) es).toList.map (fun e : Int × Value => e.2)) [s.heap.objs.size, S] _ rfl rfl rfl (fun b o q => Heap.get?_push_of_some _ q) (Nat.le_refl _) fpO (List.mem_cons_self ..) ((pickOrder_perm _ es).map _) (walkA hh nI hf hbt) ⟨Heap.get?_push_of_some _ hS, 0, gI⟩
    | false =>
      rw [hbt] at hdr
      have hd : (!t.plain && decide (es.size > 1)) = false := by
        cases z : (!t.plain && decide (es.size > 1)) with
        | false => rfl
        | true => rw [z] at hdr; exact absurd rfl hdr
      have R : Rise t.place := by
        cases hp : t.plain with
        | true => exact hg hp
        | false =>
          rw [hp] at hd
          have h1 : ¬ es.size > 1 := by simpa using hd
          have hsz : t.place.size = es.size := by
            simp only [SetTable.fits, Bool.and_eq_true, beq_iff_eq] at hf
            exact hf.1
          intro i j hij hj
          lia
      exact k _ _ (es.toList.map (fun e : Int × Value => e.2)) [s.heap.objs.size, S] _ rfl rfl rfl (fun b o q => Heap.get?_push_of_some _ q) (Nat.le_refl _) fpO (List.mem_cons_self ..) (List.Perm.refl _) (walkC hh nI hf hbt hd (hled hbt) R) ⟨Heap.get?_push_of_some _ hS, 0, gI, (fun k hk => absurd hk (Nat.not_lt_zero _)), fun k _ _ => Nat.zero_le _⟩
end
end Ow
namespace Ow
open PySem PySem.Spec PyProof.Rows L2
abbrev eL : Obj := { cls := .type "list", data := .seq ([] : List Value).toArray }
section
variable {prog : Program} {w : World} {A : Around} {E : Value → Shared → Prop} {s : Shared} {S : Addr} {es : Array (Int × Value)} {ep : Nat} {t : SetTable}
theorem hint_set {Q : Bool → Shared → Prop} (hS : s.heap.get? S = some (stO es ep t)) (h : Q false s) : wpAny (model prog w) A (Builtin.List.listLengthHint (.ref S)) Q E s := by
  have ty : s.TypeIs (.ref S) "set" := ⟨_, hS, rfl⟩
  unfold Builtin.List.listLengthHint
  refine wpAny_bind (wpAny_specialOf ty PySem.F.slot_set_len.lookup ?_)
  (generalize hid : ("set.__len__" : String) = id0; (fail_if_success (clear hid id0)); wp_delta; rw [show splitId id0 = some ("set", "__len__") from by subst hid; decide +kernel]; subst hid)
  refine wpAny_bind (wpAny_isInstance (b := true) ty (by rw [isSubtype_type]; kernel_rfl) ?_)
  simp only [Bool.not_true, Bool.false_eq_true, if_false]
  rw [if_pos (by decide +kernel)]
  exact wpAny_bind (wpAny_typeOf ty (wpAny_pure h))
theorem collect_set {Q : List Value → Shared → Prop} (hh : A.handled = none) (hS : s.heap.get? S = some (stO es ep t)) (hf : t.fits es.size = true) (hz : es.size < scanBound) (hled : w.params.followText "set-order" = false → t.led = true) (hg : Good t)
    (k : ∀ (s' : Shared) (acc : List Value), s'.gens = s.gens → s'.os = s.os → s.toks ≤ s'.toks → s.heap.objs.size < s'.heap.objs.size → (∀ b o, s.heap.get? b = some o → s'.heap.get? b = some o) → Yields es acc → Q acc s') : wpAny (model prog w) A (collect (.ref S)) Q E s := by
  have lS : S < s.heap.objs.size := Heap.lt_size hS
  unfold collect
  refine wpAny_bind (wpAny_runValue (codeAny_builtin F.entry_proto_collect ?_))
  rw [Around.under_plainId F.plain_proto_collect _]
  show wpAny _ A.in1 (newList [] >>= fun l => again (.builtin "list.__iadd__" ⟨[l, .ref S], []⟩)) _ _ s
  refine wpAny_bind (wpAny_newObj_type (wpAny_pure ⟨plainId_quiet F.plain_list_iadd _, codeAny_builtin F.entry_list_iadd ?_⟩))
  rw [Around.under_plainId F.plain_list_iadd _]
  have gL : (s.heap.push eL).get? s.heap.objs.size = some eL := Heap.get?_push_size _ rfl
  have gS : (s.heap.push eL).get? S = some (stO es ep t) := Heap.get?_push_of_some _ hS
  have n1 : Builtin.List.listSameRef (.ref s.heap.objs.size) (.ref S) = false := by
    unfold Builtin.List.listSameRef
    exact beq_eq_false_iff_ne.mpr (Nat.ne_of_gt lS)
  show wpAny _ A.in1 (Builtin.List.listExtendWith (.ref s.heap.objs.size) (.ref S) (.ref s.heap.objs.size)) _ _ _
  unfold Builtin.List.listExtendWith
  refine wpAny_bind (wpAny_typeOf (T := "set") ⟨_, gS, rfl⟩ ?_)
  rw [if_neg (by rw [n1]; decide)]
  refine wpAny_bind (iter_set (A' := A.in1) hh gS hf hz hled hg fun I s1 vs fp St e1 e2 e3 kp le fpO If Y W st => ?_)
  have gS1 : s1.heap.get? S = some (stO es ep t) := kp _ _ gS
  have gL1 : s1.heap.get? s.heap.objs.size = some eL := kp _ _ gL
  refine wpAny_bind (wpAny_holding (hint_set gS1 ?_))
  dsimp only
  rw [if_pos (by decide +kernel)]
  have lL : s.heap.objs.size ∉ fp := fun z => by
    rcases (fpO _ z).2 with q | q
    · exact absurd q.symm (Nat.ne_of_lt lS)
    · dsimp only at q
      rw [Heap.size_push] at q
      exact absurd q (Nat.not_succ_le_self _)
  refine wpAny_bind (wpAny_rule (wpAny_bind ?_))
  show wpAny _ A.in1 (updateSeq s.heap.objs.size (·.push .none) >>= fun _ => updateSeq s.heap.objs.size (·.pop)) _ _ _
  refine wpAny_bind (wpAny_updateSeq gL1 rfl ?_)
  have g2 := Heap.get?_update_self (Obj.mapSeq (·.push Value.none)) gL1 rfl
  refine wpAny_updateSeq g2 rfl ?_
  have g3 := Heap.get?_update_self (Obj.mapSeq (·.pop)) g2 rfl
  have oth : ∀ b o, b ≠ s.heap.objs.size → s1.heap.get? b = some o → ((s1.heap.update s.heap.objs.size (Obj.mapSeq (·.push Value.none))).update s.heap.objs.size (Obj.mapSeq (·.pop))).get? b = some o :=
    fun b o hb q => (Heap.get?_update_other _ _ (Ne.symm hb)).trans ((Heap.get?_update_other _ _ (Ne.symm hb)).trans q)
  have W' := W.toS
  refine wpAny_pure ⟨plainId_quiet F.plain_extend_loop _, codeAny_extend_loopS W' (fits_of_scanBound hz) _ lL _ es.size 0 _ _ _ rfl (Nat.zero_le _)
    (W.frame 0 s1.heap _ st fun b hb o q => oth b o (fun z => lL (z ▸ hb)) q) g3 (ItemsOf.nil _) fun s' acc c' m gA it => ?_⟩
  show wpAny _ A (load s.heap.objs.size >>= _) _ _ s'
  refine wpAny_bind (wpAny_load gA (wpAny_pure (k s' acc.toList (m.gens.trans e1) (m.os.trans e2) (by have := m.toks; have e3' : s1.toks = s.toks := e3; rw [← e3']; exact this) (Heap.lt_size gA) (fun b o q => ?_) ?_)))
  · have lb := Heap.lt_size q
    refine m.heap b o (fun z => ?_) (oth b o (Nat.ne_of_lt lb) (kp b o (Heap.get?_push_of_some _ q)))
    rcases List.mem_cons.mp z with z | z
    · exact absurd z (Nat.ne_of_lt lb)
    · rw [List.mem_singleton] at z
      have le' : s.heap.objs.size + 1 ≤ I := by
        have q2 := le
        dsimp only at q2
        rw [Heap.size_push] at q2
        exact q2
      rw [z] at lb
      exact absurd (Nat.lt_of_lt_of_le lb (Nat.le_of_succ_le le')) (Nat.lt_irrefl _)
  · have e4 : acc.toList = vs := by
      have lv : vs.length = es.size := by rw [Y.length_eq, List.length_map, Array.length_toList]
      refine List.ext_getElem (by rw [Array.length_toList, it.1, lv]) fun i h1 h2 => ?_
      have z : vs[i]? = some acc.toList[i] := it.2 i acc.toList[i] (by rw [← Array.getElem?_toList]; exact List.getElem?_eq_getElem h1)
      rw [List.getElem?_eq_getElem h2] at z
      exact (Option.some.inj z).symm
    rw [e4]
    exact Y
end
end Ow
namespace Ow
open PySem PySem.Spec PyProof.Rows L2
def intOf : Value → Int | .int k _ => k | _ => 0
theorem ints_of : ∀ {l : List Value}, (∀ v ∈ l, ∃ k tk, v = Value.int k tk) → IntsAre l (l.map intOf)
  | [], _ => .nil
  | v :: r, h => by
    obtain ⟨k, tk, rfl⟩ := h v (List.mem_cons_self ..)
    exact .cons k tk (ints_of fun v hv => h v (List.mem_cons_of_mem _ hv))
section
variable {prog : Program} {w : World} {A : Around} {E : Value → Shared → Prop} {s : Shared} {S : Addr} {o : Obj} {ks : List Int}
theorem sorted_setI {Q : Value → Shared → Prop} (hh : A.handled = none) (hS : s.heap.get? S = some o) (SI : SetI w o ks) (h64 : ks.length < 64)
    (k : ∀ (p : Addr) (s' : Shared) (out : List Value) (ns : List Int) (n : Nat), s'.gens = s.gens → s'.os = s.os → (∀ b u, s.heap.get? b = some u → s'.heap.get? b = some u) → s.heap.objs.size ≤ p → s'.heap.get? p = some (seqObj "list" out.toArray n) → IntsAre out ns → ns.Perm ks → ns.Pairwise (· ≤ ·) → Q (.ref p) s') :
    wpAny (model prog w) A (call (.builtin "sorted") [.ref S]) Q E s := by
  obtain ⟨es, ep, t, rfl, al, rfl, nd, hz, hf, led, gd⟩ := SI
  refine Calls.call_function_entry kind_sorted plain_sorted entry_sorted (args_sorted1 _) ?_
  unfold Builtin.«sorted»
  refine wpAny_bind (m := checkCount "sorted" 1 1 _) (wpAny_pure (wpAny_bind (collect_set (A := A.in1) hh hS hf hz led gd fun s1 acc e1 e2 e3 lt kp Y => ?_)))
  have ai : ∀ v ∈ acc, ∃ k tk, v = Value.int k tk := fun v hv => by
    obtain ⟨e, he, rfl⟩ := List.mem_map.mp (Y.mem_iff.mp hv)
    obtain ⟨k, tk, rfl⟩ := al e he
    exact ⟨k, tk, rfl⟩
  have la : acc.length = es.size := by rw [Y.length_eq, List.length_map, Array.length_toList]
  have l64 : acc.length < 64 := by rw [la]; rw [List.length_map, Array.length_toList] at h64; exact h64
  refine wpAny_bind (wpAny_newList ?_ (by rw [sizeLine_eq]; lia))
  have gL : (s1.heap.push (seqObj "list" acc.toArray 0)).get? s1.heap.objs.size = some (seqObj "list" acc.toArray 0) := Heap.get?_push_size _ rfl
  refine wpAny_bind (wpAny_holding (wpAny_call_entry slot_list_sort ⟨_, gL, rfl⟩ entry_list_sort (list_sort_tree gL (ints_of ai) l64 fun out ns a1 a2 a3 => ⟨_, rfl, ?_⟩) (args_list_sort _)))
  obtain ⟨m, gO⟩ : ∃ m, (sortedHeap (s1.heap.push (seqObj "list" acc.toArray 0)) s1.heap.objs.size acc out).get? s1.heap.objs.size = some (seqObj "list" out m) := sortedHeap_at gL
  have lt1 : s.heap.objs.size ≤ s1.heap.objs.size := Nat.le_of_lt lt
  refine wpAny_pure ⟨_, rfl, k _ _ out.toList ns m e1 e2 (fun b u q => ?_) lt1 ?_ a1 (a2.trans ?_) a3⟩
  · have q1 := kp b u q
    exact (sortedHeap_old (Nat.ne_of_lt (Heap.lt_size q1)) (by rw [size_push']; exact Nat.lt_succ_of_lt (Heap.lt_size q1))).trans (Heap.get?_push_of_some _ q1)
  · exact gO
  · have z := Y.map intOf
    rw [List.map_map] at z
    refine z.trans (List.Perm.of_eq (List.map_congr_left fun e he => ?_))
    obtain ⟨k, tk, rfl⟩ := al e he
    rfl
end
def sI (w : World) (p : Addr) (ns : List Int) : HO := .ext fun h => ∃ o ks, h.get? p = some o ∧ SetI w o ks ∧ (∀ x, x ∈ ks ↔ x ∈ ns) ∧ ks.length ≤ ns.length
theorem vals_ints : ∀ {ns : List Int} {us : List Value}, Vals (ns.map V.int) us → IntsAre us ns
  | [], us, r => by cases r; exact .nil
  | n :: ns, us, r => by
    cases r with
    | cons h r =>
      obtain ⟨t, rfl⟩ := h
      exact .cons n t (vals_ints r)
theorem ints_vals {us : List Value} {ns : List Int} (h : IntsAre us ns) : Vals (ns.map V.int) us := by
  induction h with
  | nil => exact .nil
  | cons n t _ ih => exact .cons ⟨t, rfl⟩ ih
theorem mem_getD {ns : List Int} {x : Int} : (∃ j, j < ns.length ∧ ns.getD j 0 = x) ↔ x ∈ ns := by
  constructor
  · rintro ⟨j, hj, rfl⟩
    rw [List.getD_eq_getElem?_getD, List.getElem?_eq_getElem hj]
    exact List.getElem_mem hj
  · intro h
    obtain ⟨j, hj, rfl⟩ := List.mem_iff_getElem.mp h
    exact ⟨j, hj, by rw [List.getD_eq_getElem?_getD, List.getElem?_eq_getElem hj]; rfl⟩
theorem call_set {X : Cx} (hh : X.A.handled = none) : CallR X (.type "set") (fun xs H Q => ∃ (l : Addr) (ns : List Int), xs = [.ref l] ∧ SqL X.K H l (ns.map V.int) ∧ ns.length < 1000 ∧ ∀ p, H p = none → Q (.ref p) (upd H p (sI X.w p ns))) := by
  intro pins s σ H xs us Q I r h
  obtain ⟨l, ns, rfl, hl, hn, k⟩ := h
  obtain ⟨u, rfl, ru⟩ := r.one
  cases (show u = Value.ref l from ru)
  obtain ⟨its, rv, pl, _⟩ := I.list hl
  have hi := vals_ints rv
  have le : its.length = ns.length := by have := rv.length; rw [List.length_map] at this; exact this.symm
  refine call_setI hh pl.isList (by simpa using hi) (by rw [List.size_toArray, le]; unfold scanBound; lia) fun h' tk U kp => ?_
  obtain ⟨o, ks, go, SI, lk, mem⟩ := U
  rw [List.size_toArray, le] at lk
  have ok : ObjOk X.prog X.w (upd H s.heap.objs.size (sI X.w s.heap.objs.size ns)) h' s.heap.objs.size (sI X.w s.heap.objs.size ns) :=
    ⟨⟨o, ks, go, SI, fun x => by rw [mem x, List.size_toArray, le]; exact mem_getD, lk⟩, ⟨o, go⟩, fun h1 h2 ⟨o1, k1, g1, r1⟩ q => ⟨o1, k1, q _ g1, r1⟩⟩
  exact ⟨.ref s.heap.objs.size, _, I.laid (fun b u q => kp b u (Heap.lt_size q) q) (Nat.le_refl _) ok, rfl, k _ (I.hok.fresh (Nat.le_refl _))⟩
theorem strict {ns : List Int} (h : ns.Pairwise (· ≤ ·)) (nd : ns.Nodup) : ns.Pairwise (· < ·) := by
  refine (h.and nd).imp fun {a b} ⟨h1, h2⟩ => ?_
  exact Int.lt_iff_le_and_ne.mpr ⟨h1, h2⟩
theorem call_sorted_set {X : Cx} (hh : X.A.handled = none) : CallR X (.builtin "sorted") (fun xs H Q => ∃ (p : Addr) (ns : List Int), xs = [.ref p] ∧ H p = some (sI X.w p ns) ∧ ns.length < 64 ∧ ∀ (q : Addr) (zs : List Int), H q = none → zs.Pairwise (· < ·) → (∀ x, x ∈ zs ↔ x ∈ ns) → Q (.ref q) (upd H q (.lst (zs.map V.int)))) := by
  intro pins s σ H xs us Q I r h
  obtain ⟨p, ns, rfl, hp, hn, k⟩ := h
  obtain ⟨u, rfl, ru⟩ := r.one
  cases (show u = Value.ref p from ru)
  obtain ⟨⟨o, ks, go, SI, mem, lk⟩, _⟩ := I.hok p _ hp
  have nd : ks.Nodup := by
    obtain ⟨_, _, _, _, _, _, nd, _⟩ := SI
    exact nd
  refine sorted_setI hh go SI (by lia) fun q s' out zs n e1 e2 kp le gq iz pm pw => ?_
  have fr : H q = none := I.hok.fresh le
  have hb : AllBare s'.gens := by rw [e1]; exact I.bare
  have lz : zs.length = ks.length := pm.length_eq
  have I2 := I.call' (H' := upd H q (.lst (zs.map V.int))) (s' := s') (ch := []) e2 (Un.laid kp le fr) (I.hok.laid kp le ⟨by rw [List.length_map, sizeLine_eq]; lia, out, n, ints_vals iz, gq⟩) hb fun b z => nomatch z
  exact ⟨.ref q, _, I2, rfl, k q zs fr (strict pw (pm.nodup_iff.mpr nd)) fun x => by rw [pm.mem_iff, mem x]⟩
end Ow
namespace Ow
open PySem PySem.Spec PyProof.Rows L2
theorem Has.imp {P : Program} {w : World} {K : PySem.W.Frag} {mg : Str → Option Value} {base : Heap} {k : Nat} {x : Str} {ps : List Str} {sp sp' : Sp} (h : Has P w K mg base k x ps sp) (i : ∀ vs H Q E, sp' vs H Q E → sp vs H Q E) : Has P w K mg base k x ps sp' := by
  obtain ⟨f, fd, F, b, kp, m⟩ := h.ex
  exact ⟨f, fd, F.imp i, b, kp, m⟩
theorem dk_none {P : Program} {w : World} {H : Hp} (h : Heap) (hb : sysModules < h.objs.size) : ObjOk P w H (h.push { cls := .type "dict", data := .dict #[] }) h.objs.size (.dK []) :=
  ⟨Nat.zero_le _, beq_eq_false_iff_ne.mpr (Ne.symm (Nat.ne_of_lt hb)), [], .nil, Heap.DictOf.new h⟩
theorem inv_big {X : Cx} {pins : List (Addr × Obj)} {σ : L2.St} {H : Hp} {s : Shared} (I : Inv X pins σ H s) : sysModules < s.heap.objs.size := by
  have h1 := I.ok.mod.glob.lt
  have h2 := Nat.le_trans I.ok.bsz I.sz
  exact Nat.lt_of_lt_of_le (Nat.lt_of_le_of_lt (by decide) h1) h2
def tDNew : TE := fun _ H Q => ∀ p, H p = none → Q (.ref p) (upd H p (.dK []))
theorem pe_dnewK {X : Cx} {pos : Pos} : PE X (.Dict [] [] pos) tDNew := fun pins s σ H Q I h =>
  wpAny_Dict_empty ⟨.ref s.heap.objs.size, _, I.laid (a := s.heap.objs.size) (o := .dK []) (t' := s.toks) (fun _ _ q => Heap.get?_push_of_some _ q) (Nat.le_refl _) (dk_none s.heap (inv_big I)), rfl, h _ (I.hok.fresh (Nat.le_refl _))⟩
inductive Th (H : Hp) : V → Prop where
  | int (i : Int) : Th H (.int i)
  | bl (b : Bool) : Th H (.bl b)
  | str (x : Str) : Th H (.str x)
  | non : Th H .non
  | lst {a : Addr} {xs : List V} (h : H a = some (.lst xs)) : Th H (.ref a)
  | tup {a : Addr} {xs : List V} (h : H a = some (.tup xs)) : Th H (.ref a)
  | dct {a : Addr} {kvs : List (Key × V)} (h : H a = some (.dK kvs)) : Th H (.ref a)
theorem Th.same {H H' : Hp} {x : V} (t : Th H x) (s : Same H H') : Th H' x := by
  cases t with
  | int i => exact .int i
  | bl b => exact .bl b
  | str x => exact .str x
  | non => exact .non
  | lst h => exact .lst (s _ _ h)
  | tup h => exact .tup (s _ _ h)
  | dct h => exact .dct (s _ _ h)
def isI : V → Bool
  | .int _ => true
  | _ => false
theorem kit_str_int (K : PySem.W.Frag) : PySem.W.kitOne K (.type "str") (.type "int") = some false := by with_unfolding_all rfl
theorem kit_non_int (K : PySem.W.Frag) : PySem.W.kitOne K (.type "NoneType") (.type "int") = some false := by with_unfolding_all rfl
theorem kit_lst_int (K : PySem.W.Frag) : PySem.W.kitOne K (.type "list") (.type "int") = some false := by with_unfolding_all rfl
theorem kit_tup_int (K : PySem.W.Frag) : PySem.W.kitOne K (.type "tuple") (.type "int") = some false := by with_unfolding_all rfl
theorem kit_dct_int (K : PySem.W.Frag) : PySem.W.kitOne K (.type "dict") (.type "int") = some false := by with_unfolding_all rfl
def spWholeG : Sp := fun vs H Q _ => ∃ x : V, vs = [x] ∧ Th H x ∧ Q (.bl (isI x)) H
end Ow
namespace Ow
open PySem PySem.Spec PyProof.Rows L2
section
variable {X : Cx} {elt iter cc : Expr} {x : Str} {px pos : Pos} {scope : Scope} {wi : TI} {tc : TT} {te : TE} {N : List Str} {cl : List (Str × Addr)} {cap : L2.St → L2.St}
end
end Ow
namespace Ow
open PySem PySem.Spec PyProof.Rows L2
section
variable {X : Cx}
end
end Ow
namespace Ow
open PySem PySem.Spec PyProof.Rows L2
end Ow
namespace Ow
open PySem PySem.Spec PyProof.Rows L2
theorem vals_pick {xs : List V} {us : List Value} (h : Vals xs us) : ∀ js : List Nat, Vals (js.filterMap (xs[·]?)) (js.filterMap (us[·]?))
  | [] => .nil
  | j :: js => by
    have ih := vals_pick h js
    have hl := h.length
    cases e : xs[j]? with
    | none =>
      have e2 : us[j]? = none := by
        rw [List.getElem?_eq_none_iff] at e ⊢
        lia
      rw [List.filterMap_cons_none e, List.filterMap_cons_none e2]
      exact ih
    | some x =>
      obtain ⟨u, hu, r⟩ := h.get e
      rw [List.filterMap_cons_some e, List.filterMap_cons_some hu]
      exact .cons r ih
def stepIx (i k : Int) (n : Nat) : List Nat := sliceRange (sliceBounds (some i) none (some k) n).1 (sliceBounds (some i) none (some k) n).2.1 (sliceBounds (some i) none (some k) n).2.2
def stepV (xs : List V) (i k : Int) : List V := (stepIx i k xs.length).filterMap (xs[·]?)
theorem stepV_mem {xs : List V} {i k : Int} {x : V} (h : x ∈ stepV xs i k) : x ∈ xs := by
  obtain ⟨j, _, e⟩ := List.mem_filterMap.mp h
  exact List.mem_of_getElem? e
theorem stepIx_len {i k : Int} {n : Nat} (i0 : 0 ≤ i) (k0 : 1 ≤ k) : (stepIx i k n).length ≤ n := by
  unfold stepIx
  refine sliceRange_length_le _ _ _ _ (fun _ => ?_) (fun z => absurd (show k > 0 by lia) z)
  simp only [sliceBounds, Option.getD_some, show ¬ i < 0 by lia, if_false, show k > 0 by lia, if_true]
  lia
theorem stepV_len {xs : List V} {i k : Int} (i0 : 0 ≤ i) (k0 : 1 ≤ k) : (stepV xs i k).length ≤ xs.length :=
  Nat.le_trans (List.length_filterMap_le _ _) (stepIx_len i0 k0)
theorem stepV_ne {xs : List V} {i k : Int} (i0 : 0 ≤ i) (k0 : 1 ≤ k) (h : i < xs.length) : stepV xs i k ≠ [] := by
  have hj : i.toNat ∈ stepIx i k xs.length := by
    unfold stepIx sliceRange
    simp only [sliceBounds, Option.getD_some, show ¬ i < 0 by lia, if_false, show k > 0 by lia, if_true]
    have e : max 0 (min i (xs.length : Int)) = i := by lia
    rw [e, if_pos h]
    refine List.mem_map.mpr ⟨0, List.mem_range.mpr ?_, by simp⟩
    have : 1 ≤ ((xs.length : Int) - i + k - 1) / k := Int.le_ediv_of_mul_le (by lia) (by lia)
    lia
  intro z
  have : (xs[i.toNat]'(by lia)) ∈ stepV xs i k := List.mem_filterMap.mpr ⟨i.toNat, hj, List.getElem?_eq_getElem (by lia)⟩
  rw [z] at this
  cases this
def tStep (K : PySem.W.Frag) (te tl tk : TE) : TE := fun σ H Q => te σ H fun x H1 => tl σ H1 fun y H2 => tk σ H2 fun z H3 => ∃ a xs i k, x = .ref a ∧ y = .int i ∧ z = .int k ∧ 0 ≤ i ∧ 1 ≤ k ∧ SqL K H3 a xs ∧ ∀ p, H3 p = none → Q (.ref p) (upd H3 p (.lst (stepV xs i k)))
theorem pe_stepK {X : Cx} {K : PySem.W.Frag} {e l k : Expr} {te tl tk : TE} {p2 pos : Pos} (hK : X.K = K) (he : PE X e te) (hl : PE X l tl) (hk : PE X k tk) : PE X (.Subscript e (.Slice (some l) none (some k) p2) pos) (tStep K te tl tk) := by
  subst hK
  intro pins s σ H Q I h
  refine Subscript_ (thn (he pins s σ H _ I h) fun v s1 ⟨x, H1, I1, r1, q1⟩ => ?_)
  refine wpAny_Slice ?_
  rw [evalPart_some]
  refine thn (hl pins s1 σ H1 _ I1 q1) fun vl s2 ⟨y, H2, I2, r2, q2⟩ => ?_
  rw [evalPart_none]
  refine wpAny_pure ?_
  rw [evalPart_some]
  refine thn (hk pins s2 σ H2 _ I2 q2) fun vk s3 ⟨z, H3, I3, r3, a, xs, i, n, ex, ey, ez, i0, n0, hx, q⟩ => ?_
  subst ex ey ez
  cases r1
  obtain ⟨tl', rfl⟩ := r2
  obtain ⟨tk', rfl⟩ := r3
  have I4 : Inv X pins σ H3 { s3 with heap := s3.heap.push { cls := .type "slice", data := .fields #[.int i tl', .none, .int n tk'] } } := I3.kept (t' := s3.toks) fun b ob q => Heap.get?_push_of_some _ q
  obtain ⟨its', r', ht', hz'⟩ := I4.list hx
  show wpAny (model X.prog X.w) X.A (subscriptTail e (.Slice (some l) none (some k) p2) (.ref a) (.ref s3.heap.objs.size)) (EP X pins σ Q) X.xe { s3 with heap := s3.heap.push { cls := .type "slice", data := .fields #[.int i tl', .none, .int n tk'] } }
  have hlen' := r'.length
  refine tail_any (ops := [.ref a, .ref s3.heap.objs.size]) ht'.isList.typeIs slot_list_getitem.lookup (wpAny_getItem_list_slice ht'.isList (Heap.IsSliceOf.new ..) (.int i tl') .none (.int n tk') (by intro z; injection z with z; lia) ?_ (by rw [List.size_toArray] <;> lia)) (by with_unfolding_all rfl)
  have hp : slicePick its'.toArray (some i) none (some n) = ((stepIx i n xs.length).filterMap (its'[·]?)).toArray := by
    unfold slicePick stepIx
    rw [List.size_toArray, ← hlen']
    simp
  rw [hp]
  refine ⟨.ref (s3.heap.push { cls := .type "slice", data := .fields #[.int i tl', .none, .int n tk'] }).objs.size, _, I4.laid (t' := s3.toks) (o := .lst (stepV xs i n)) (fun b ob q => Heap.get?_push_of_some _ q) (Nat.le_refl _) ?_, rfl, q _ (I4.hok.fresh (Nat.le_refl _))⟩
  refine ⟨Nat.le_trans (stepV_len i0 n0) hz', (stepIx i n xs.length).filterMap (its'[·]?), 0, vals_pick r' _, ?_⟩
  exact Heap.get?_push_size _ rfl
theorem comp_rng {lo : Int} {n : Nat} {D : Addr} {te' : TE} {tl : L2.St} {G : Hp → Prop} {H1 : Hp} (Pv : Nat → Hp → Prop) (h0 : Pv 0 (upd H1 D (.lst [])))
    (hs : ∀ (i : Nat) H, i < n → Pv i H → te' (some (.int (lo + i)) :: tl) H fun y H2 => ∃ ys, H2 D = some (.lst ys) ∧ ys.length < sizeLine ∧ ∃ m', m' < n - i ∧ (m' = n - (i + 1) ∧ i + 1 ≤ n ∧ Pv (i + 1) (upd H2 D (.lst (ys ++ [y])))))
    (hd : ∀ H, Pv n H → G H) :
    ∃ W : Nat → Nat → Hp → Prop, (∃ m, W 0 m (upd H1 D (.lst []))) ∧ ∀ i m H, W i m H →
      ((Itr lo n).stop i H ∧ G H) ∨ ((Itr lo n).go i H ∧ ∀ x H', (Itr lo n).yld i H x H' → te' (some x :: tl) H' fun y H2 => ∃ ys, H2 D = some (.lst ys) ∧ ys.length < sizeLine ∧ ∃ m', m' < m ∧ W (i + 1) m' (upd H2 D (.lst (ys ++ [y])))) := by
  refine ⟨fun i m H => m = n - i ∧ i ≤ n ∧ Pv i H, ⟨n, by simp, Nat.zero_le _, h0⟩, ?_⟩
  rintro i m H ⟨rfl, hi, p⟩
  by_cases hlt : i < n
  · refine .inr ⟨hlt, fun x H' y => ?_⟩
    obtain ⟨e, y⟩ := y
    subst e y
    exact hs i _ hlt p
  · have e : i = n := by lia
    subst e
    exact .inl ⟨Nat.le_refl _, hd H p⟩
end Ow
namespace Ow
open PySem PySem.Spec PyProof.Rows L2
section
variable {X : Cx}
end
end Ow
namespace Ow
open PySem PySem.Spec PyProof.Rows L2
end Ow
namespace Ow
open PySem PySem.Spec PyProof.Rows L2
section
variable {prog : Program} {w : World} {K : Type} [DecidableEq K] {knd : KeyKind prog w K} {A : Around} {E : Value → Shared → Prop} {s : Shared}
end
section
variable {prog : Program} {w : World} {A : Around} {E : Value → Shared → Prop} {s : Shared}
end
section
variable {X : Cx}
theorem dk_at {pins : List (Addr × Obj)} {σ : L2.St} {H : Hp} {s : Shared} (I : Inv X pins σ H s) {a : Addr} {kvs : List (Key × V)} (e : H a = some (.dK kvs)) : kvs.length ≤ sizeLine ∧ (a == sysModules) = false ∧ ∃ vs, KV kvs vs ∧ s.heap.DictOf (mixKind X.prog X.w) a vs := I.hok a _ e
end
def noStar : Expr → Bool
  | .Starred _ _ => false
  | _ => true
theorem star_cons {e : Expr} (h : noStar e = true) (rest : List Expr) (env : Env) : starEach (e :: rest) env = (false, eval e env) :: starEach rest env := by
  cases e <;> first | rfl | cases h
theorem pa_consN {X : Cx} {e : Expr} {es : List Expr} {te : TE} {t : TA} (ha : PE X e te) (hr : PA X es t) (hn : noStar e = true := by rfl) : PA X (e :: es) (tCons te t) := pa_cons ha hr (star_cons hn es X.env)
structure Sl (p : Prop) : Prop where
  out : p
section
variable {X : Cx}
theorem ps_setS {i : Nat} {x : Str} {e : Expr} {te : TE} {pos pos' : Pos} (hN : X.N.Nodup) (hi : X.N[i]? = some x) (hx : Loc X.env.scope x) (he : Sl (PE X e te)) (hs : swapsWith e (some (.Name x pos')) pos.line X.env = pure false := by rfl) (hf : X.fn x = true ∨ X.env.scope.names.lookup x = some .local := by first | exact .inl rfl | exact .inr rfl | assumption) :
    Sl (PS X (.Assign [.Name x pos'] e pos) (tAsg te (gName i))) := ⟨ps_set hN hi hx he.out hs hf⟩
theorem pe_lstS {es : List Expr} {t : TA} {pos : Pos} (h : Sl (PA X es t)) : Sl (PE X (.List es pos) (tLst t)) := ⟨pe_lst h.out⟩
theorem pa_consS {e : Expr} {es : List Expr} {te : TE} {t : TA} (ha : PE X e te) (hr : Sl (PA X es t)) (hn : noStar e = true := by rfl) : Sl (PA X (e :: es) (tCons te t)) := ⟨pa_consN ha hr.out hn⟩
theorem pa_nilS : Sl (PA X [] tNil) := ⟨pa_nil⟩
end
end Ow
namespace L2
open PySem PySem.Spec PyProof.Rows
section
variable {κ : Type} [DecidableEq κ]
end
section
variable {P : Program} {w : World} {H : Hp} {h : Heap} {a : Addr}
end
section
variable {X : Cx} {pins : List (Addr × Obj)} {σ : St} {H : Hp} {s : Shared} {a : Addr} {y v : V} {u r : Value} {o : Option V} {A : Around} {E : Value → Shared → Prop}
end
section
variable {X : Cx} {pins : List (Addr × Obj)} {σ : St} {H : Hp} {s : Shared} {a : Addr} {kvs : List (Key × V)} {k : Key} {u : Value} {A : Around} {E : Value → Shared → Prop}
end
section
variable {X : Cx} {o i e value : Expr} {pos pos' tpos : Pos} {td ty tv : TE}
end
section
variable {X : Cx} {pos : Pos}
end
section
variable {X : Cx} {pins : List (Addr × Obj)} {σ : St} {H : Hp} {s : Shared} {a : Addr} {y d : V} {u r : Value} {o : Option V} {A : Around} {E : Value → Shared → Prop}
end
section
variable {X : Cx} {o e f : Expr} {apos cpos : Pos} {td ty tx : TE}
end
section
variable {X : Cx} {pins : List (Addr × Obj)} {σ : St} {H : Hp} {s : Shared} {a : Addr} {kvs : List (Key × V)} {A : Around} {E : Value → Shared → Prop}
end
section
variable {X : Cx} {pins : List (Addr × Obj)} {σ : St} {H : Hp} {s : Shared} {a : Addr} {y : V} {u : Value} {A : Around} {E : Value → Shared → Prop}
end
end L2
namespace L2
open PySem PySem.Spec PyProof.Rows
section
variable {κ : Type} [DecidableEq κ]
end
end L2
namespace Ow
open PySem PySem.Spec PyProof.Rows L2
section
variable {X : Cx} {pins : List (Addr × Obj)} {σ : L2.St} {H : Hp} {s : Shared}
end
section
variable {X : Cx} {tg : Expr}
end
section
variable {X : Cx}
end
theorem slO {p : Prop} (h : Sl p) : p := h.out
end Ow
namespace Ow
open PySem PySem.Spec PyProof.Rows L2
end Ow
namespace Ow
open PySem PySem.Spec PyProof.Rows L2
section
variable {P : Program} {w : World} {K : PySem.W.Frag} {mg : Str → Option Value} {base : Heap}
end
section
variable {X : Cx} {CX : Bool → CXT} {r : Bool} {k : Nat} {f C : Addr} {fd : FuncData} {ps : List Str} {sp : Sp} {E : L2.St → XK} {x m : Str} {p pos apos : Pos} {e o : Expr} {es : List Expr} {ta : TE} {t : TA}
end
end Ow
namespace Ow
open PySem PySem.Spec PyProof.Rows L2
section
variable {P : Program} {w : World} {K : PySem.W.Frag} {mg : Str → Option Value} {base : Heap} {N : List Str} {qual : Str} {scope : Scope} {f : Addr} {cdv : Value} {A : Around} {outer : List Env} {s₀ : Shared} {H₀ : Hp} {E : XK}
end
end Ow
namespace Ow
open PySem PySem.Spec PyProof.Rows L2
section
variable {X : Cx}
end
end Ow
namespace Ow
open PySem PySem.Spec PyProof.Rows L2
end Ow
namespace Ow
open PySem PySem.Spec PyProof.Rows L2
section
variable {X : Cx}
theorem pss_consT {rest : List Stmt} {st : Stmt} {t u : TS} (h1 : PS X st t) (h2 : Sl (PSs X rest u)) : PSs X (st :: rest) (tSeq t u) := pss_cons h1 h2.out
end
end Ow
namespace Ow
open PySem PySem.Spec PyProof.Rows L2
section
variable {prog : Program} {w : World} {A : Around} {R : Result → Shared → Prop} {s : Shared}
end
section
variable {X : Cx} {elt iter : Expr} {x y : Str} {px py pos tp : Pos} {kk : Nat} {scope : Scope} {wi : TI} {te : TE} {N : List Str} {cl : List (Str × Addr)} {cap : L2.St → L2.St}
end
section
variable {X : Cx} {elt iter : Expr} {x y0 : Str} {px py pos tp : Pos} {kk : Nat} {scope : Scope} {wi : TI} {te : TE} {cl : List (Str × Addr)}
end
end Ow
namespace L2
open PySem PySem.Spec PyProof.Rows
section
variable {X : Cx}
end
end L2
namespace L2
open PySem PySem.Spec PyProof.Rows
section
variable {X : Cx} {pos : Pos}
end
end L2
namespace Ow
open PySem PySem.Spec PyProof.Rows L2
open Builtin.Int (intBits)
def top (i : Nat) : Stmt := PySem.Challenge.pw_overwise_k43_papers_forged.main.body.getD i (.Pass ⟨0, 0, 0, 0⟩)
abbrev s_is_whole : Stmt := top 4
theorem sc_is_whole : FnScope ["thing"] ["thing"] (defScope s_is_whole) := ⟨rfl, rfl, rfl, by decide +kernel, rfl, by decide +kernel, by decide +kernel⟩
abbrev s_is_between : Stmt := top 5
theorem sc_is_between : FnScope ["thing", "low", "high"] ["thing", "low", "high"] (defScope s_is_between) := ⟨rfl, rfl, rfl, by decide +kernel, rfl, by decide +kernel, by decide +kernel⟩
abbrev s_common_divisor : Stmt := top 7
theorem sc_common_divisor : FnScope ["a", "b", "rest"] ["a", "b"] (defScope s_common_divisor) := ⟨rfl, rfl, rfl, by decide +kernel, rfl, by decide +kernel, by decide +kernel⟩
abbrev s_is_short : Stmt := top 9
theorem sc_is_short : FnScope ["thing"] ["thing"] (defScope s_is_short) := ⟨rfl, rfl, rfl, by decide +kernel, rfl, by decide +kernel, by decide +kernel⟩
abbrev s_need_line : Stmt := top 10
theorem sc_need_line : FnScope ["n", "m", "a", "b"] ["n", "m", "a", "b"] (defScope s_need_line) := ⟨rfl, rfl, rfl, by decide +kernel, rfl, by decide +kernel, by decide +kernel⟩
abbrev s_fall_rows : Stmt := top 11
theorem sc_fall_rows : FnScope ["n", "m", "a", "b", "rows", "x", "rest", "step", "drop", "far", "lack", "many", "times"] ["n", "m", "a", "b"] (defScope s_fall_rows) := ⟨rfl, rfl, rfl, by decide +kernel, rfl, by decide +kernel, by decide +kernel⟩
abbrev s_places_reached : Stmt := top 12
theorem sc_places_reached : FnScope ["n", "m", "a", "b", "places", "row"] ["n", "m", "a", "b"] (defScope s_places_reached) := ⟨rfl, rfl, rfl, by decide +kernel, rfl, by decide +kernel, by decide +kernel⟩
abbrev s_corner_points : Stmt := top 13
theorem sc_corner_points : FnScope ["n", "m", "a", "b", "from_left", "from_right"] ["n", "m", "a", "b"] (defScope s_corner_points) := ⟨rfl, rfl, rfl, by decide +kernel, rfl, by decide +kernel, by decide +kernel⟩
abbrev s_inverse_by : Stmt := top 14
theorem sc_inverse_by : FnScope ["number", "bottom", "rest", "later_rest", "worth", "later_worth", "many", "next_rest", "next_worth"] ["number", "bottom"] (defScope s_inverse_by) := ⟨rfl, rfl, rfl, by decide +kernel, rfl, by decide +kernel, by decide +kernel⟩
abbrev s_side_between : Stmt := top 15
theorem sc_side_between : FnScope ["one", "other", "across", "up", "g", "ux", "uy", "tx"] ["one", "other"] (defScope s_side_between) := ⟨rfl, rfl, rfl, by decide +kernel, rfl, by decide +kernel, by decide +kernel⟩
abbrev s_paper : Stmt := top 16
theorem sc_paper : FnScope ["n", "m", "a", "b", "points"] ["n", "m", "a", "b"] (defScope s_paper) := ⟨rfl, rfl, rfl, by decide +kernel, rfl, by decide +kernel, by decide +kernel⟩
abbrev s_is_seven : Stmt := top 17
theorem sc_is_seven : FnScope ["thing"] ["thing"] (defScope s_is_seven) := ⟨rfl, rfl, rfl, by decide +kernel, rfl, by decide +kernel, by decide +kernel⟩
abbrev s_end_of : Stmt := top 18
theorem sc_end_of : FnScope ["side"] ["side"] (defScope s_end_of) := ⟨rfl, rfl, rfl, by decide +kernel, rfl, by decide +kernel, by decide +kernel⟩
abbrev s_is_above : Stmt := top 19
theorem sc_is_above : FnScope ["m", "a", "b", "x", "y"] ["m", "a", "b", "x", "y"] (defScope s_is_above) := ⟨rfl, rfl, rfl, by decide +kernel, rfl, by decide +kernel, by decide +kernel⟩
abbrev s_is_side : Stmt := top 20
theorem sc_is_side : FnScope ["m", "a", "b", "side", "x", "y", "g", "ux", "uy", "tx", "ty", "end"] ["m", "a", "b", "side"] (defScope s_is_side) := ⟨rfl, rfl, rfl, by decide +kernel, rfl, by decide +kernel, by decide +kernel⟩
abbrev s_goes_on : Stmt := top 21
theorem sc_goes_on : FnScope ["one", "other"] ["one", "other"] (defScope s_goes_on) := ⟨rfl, rfl, rfl, by decide +kernel, rfl, by decide +kernel, by decide +kernel⟩
abbrev s_is_paper : Stmt := top 22
theorem sc_is_paper : FnScope ["n", "m", "a", "b", "thing"] ["n", "m", "a", "b", "thing"] (defScope s_is_paper) := ⟨rfl, rfl, rfl, by decide +kernel, rfl, by decide +kernel, by decide +kernel⟩
abbrev s__law_mixed : Stmt := top 24
theorem sc__law_mixed : FnScope ["_law_cell", "_law_k", "_law_first", "_law_second"] ["_law_cell", "_law_k"] (defScope s__law_mixed) := ⟨rfl, rfl, rfl, by decide +kernel, rfl, by decide +kernel, by decide +kernel⟩
abbrev s__law_take : Stmt := top 25
theorem sc__law_take : FnScope ["_law_pool", "_law_most", "_law_cells", "_law_at", "_law_cell", "_law_number", "_law_room"] ["_law_pool", "_law_most"] (defScope s__law_take) := ⟨rfl, rfl, rfl, by decide +kernel, rfl, by decide +kernel, by decide +kernel⟩
abbrev s__law_pools : Stmt := top 26
theorem sc__law_pools : FnScope ["_law_script", "_law_many", "_law_pools_here"] ["_law_script", "_law_many"] (defScope s__law_pools) := ⟨rfl, rfl, rfl, by decide +kernel, rfl, by decide +kernel, by decide +kernel⟩
abbrev s__law_whole : Stmt := top 27
theorem sc__law_whole : FnScope ["_law_found"] ["_law_found"] (defScope s__law_whole) := ⟨rfl, rfl, rfl, by decide +kernel, rfl, by decide +kernel, by decide +kernel⟩
abbrev s__law_rows : Stmt := top 28
theorem sc__law_rows : FnScope ["_law_found", "_law_many", "_law_row", "_law_part"] ["_law_found", "_law_many"] (defScope s__law_rows) := ⟨rfl, rfl, rfl, by decide +kernel, rfl, by decide +kernel, by decide +kernel⟩
abbrev s__law_bends : Stmt := top 29
theorem sc__law_bends : FnScope ["_law_one", "_law_middle", "_law_other", "_law_wide"] ["_law_one", "_law_middle", "_law_other"] (defScope s__law_bends) := ⟨rfl, rfl, rfl, by decide +kernel, rfl, by decide +kernel, by decide +kernel⟩
abbrev s__law_hull : Stmt := top 30
theorem sc__law_hull : FnScope ["_law_points", "_law_kept", "_law_point"] ["_law_points"] (defScope s__law_hull) := ⟨rfl, rfl, rfl, by decide +kernel, rfl, by decide +kernel, by decide +kernel⟩
abbrev s__law_line : Stmt := top 31
theorem sc__law_line : FnScope ["_law_pool", "_law_n", "_law_b", "_law_m"] ["_law_pool"] (defScope s__law_line) := ⟨rfl, rfl, rfl, by decide +kernel, rfl, by decide +kernel, by decide +kernel⟩
abbrev s__law_divisor : Stmt := top 32
theorem sc__law_divisor : FnScope ["_law_one", "_law_other"] ["_law_one", "_law_other"] (defScope s__law_divisor) := ⟨rfl, rfl, rfl, by decide +kernel, rfl, by decide +kernel, by decide +kernel⟩
abbrev s__law_above : Stmt := top 33
theorem sc__law_above : FnScope ["_law_line_here", "_law_x", "_law_y"] ["_law_line_here", "_law_x", "_law_y"] (defScope s__law_above) := ⟨rfl, rfl, rfl, by decide +kernel, rfl, by decide +kernel, by decide +kernel⟩
abbrev s__law_height : Stmt := top 34
theorem sc__law_height : FnScope ["_law_line_here", "_law_x", "_law_y"] ["_law_line_here", "_law_x", "_law_y"] (defScope s__law_height) := ⟨rfl, rfl, rfl, by decide +kernel, rfl, by decide +kernel, by decide +kernel⟩
abbrev s__law_side : Stmt := top 35
theorem sc__law_side : FnScope ["_law_line_here", "_law_row", "_law_x", "_law_y", "_law_many", "_law_east", "_law_north", "_law_aside", "_law_up"] ["_law_line_here", "_law_row"] (defScope s__law_side) := ⟨rfl, rfl, rfl, by decide +kernel, rfl, by decide +kernel, by decide +kernel⟩
abbrev s__law_paper : Stmt := top 36
theorem sc__law_paper : FnScope ["_law_line_here", "_law_thing", "_law_at", "_law_row", "_law_k"] ["_law_line_here", "_law_thing"] (defScope s__law_paper) := ⟨rfl, rfl, rfl, by decide +kernel, rfl, by decide +kernel, by decide +kernel⟩
abbrev s__law_beside : Stmt := top 37
theorem sc__law_beside : FnScope ["_law_one", "_law_other", "_law_east", "_law_north", "_law_many", "_law_aside", "_law_up"] ["_law_one", "_law_other"] (defScope s__law_beside) := ⟨rfl, rfl, rfl, by decide +kernel, rfl, by decide +kernel, by decide +kernel⟩
abbrev s__law_own : Stmt := top 38
theorem sc__law_own : FnScope ["_law_line_here", "_law_n", "_law_m", "_law_a", "_law_b", "_law_points"] ["_law_line_here"] (defScope s__law_own) := ⟨rfl, rfl, rfl, by decide +kernel, rfl, by decide +kernel, by decide +kernel⟩
abbrev s__law_put : Stmt := top 39
theorem sc__law_put : FnScope ["_law_rows_here", "_law_at", "_law_row"] ["_law_rows_here", "_law_at", "_law_row"] (defScope s__law_put) := ⟨rfl, rfl, rfl, by decide +kernel, rfl, by decide +kernel, by decide +kernel⟩
abbrev s__law_parted : Stmt := top 40
theorem sc__law_parted : FnScope ["_law_row", "_law_step"] ["_law_row"] (defScope s__law_parted) := ⟨rfl, rfl, rfl, by decide +kernel, rfl, by decide +kernel, by decide +kernel⟩
abbrev s__law_joined : Stmt := top 41
theorem sc__law_joined : FnScope ["_law_rows_here", "_law_first", "_law_last", "_law_end"] ["_law_rows_here", "_law_first", "_law_last"] (defScope s__law_joined) := ⟨rfl, rfl, rfl, by decide +kernel, rfl, by decide +kernel, by decide +kernel⟩
abbrev s__law_forged : Stmt := top 42
theorem sc__law_forged : FnScope ["_law_rows_here", "_law_at", "_law_row", "_law_east", "_law_north", "_law_aside", "_law_up", "_law_some", "_law_last"] ["_law_rows_here", "_law_at"] (defScope s__law_forged) := ⟨rfl, rfl, rfl, by decide +kernel, rfl, by decide +kernel, by decide +kernel⟩
abbrev s__law_odd : Stmt := top 43
theorem sc__law_odd : FnScope ["_law_rows_here", "_law_at", "_law_row", "_law_some", "_law_k"] ["_law_rows_here", "_law_at"] (defScope s__law_odd) := ⟨rfl, rfl, rfl, by decide +kernel, rfl, by decide +kernel, by decide +kernel⟩
abbrev s__law_longer : Stmt := top 44
theorem sc__law_longer : FnScope ["_law_line_here", "_law_rows_here", "_law_last", "_law_more"] ["_law_line_here", "_law_rows_here"] (defScope s__law_longer) := ⟨rfl, rfl, rfl, by decide +kernel, rfl, by decide +kernel, by decide +kernel⟩
abbrev s__law_asked : Stmt := top 45
theorem sc__law_asked : FnScope ["_law_line_here", "_law_thing", "_law_found"] ["_law_line_here", "_law_thing"] (defScope s__law_asked) := ⟨rfl, rfl, rfl, by decide +kernel, rfl, by decide +kernel, by decide +kernel⟩
abbrev s_law : Stmt := top 46
theorem sc_law : FnScope ["_law_script", "_law_pool", "_law_line_here", "_law_n", "_law_m", "_law_a", "_law_b", "_law_rows_here", "_law_some", "_law_at", "_law_other", "_law_longer_here", "_law_thing"] ["_law_script"] (defScope s_law) := ⟨rfl, rfl, rfl, by decide +kernel, rfl, by decide +kernel, by decide +kernel⟩
structure Txt (K : PySem.W.Frag) (mg : Str → Option Value) : Prop where
  n_isinstance : mg "isinstance" = none
  n_int : mg "int" = none
  n_bool : mg "bool" = none
  n_list : mg "list" = none
  n_tuple : mg "tuple" = none
  n_len : mg "len" = none
  n_max : mg "max" = none
  n_min : mg "min" = none
  n_range : mg "range" = none
  n_sorted : mg "sorted" = none
  n_set : mg "set" = none
  n_abs : mg "abs" = none
  n_all : mg "all" = none
  n_enumerate : mg "enumerate" = none
  n_str : mg "str" = none
theorem log_small {m : Int} (h0 : 0 < m) (h : m < 2 ^ 80) : m.natAbs.log2 < 9000 := by
  have h1 : m.natAbs ≠ 0 := by lia
  have h2 : m.natAbs < 2 ^ 80 := by lia
  have := (Nat.log2_lt h1).mpr h2
  lia
theorem cpow1 {w : Int} (h1 : 0 ≤ w) (h2 : w ≤ 100000) : CPow 1 w := ⟨h1, by lia, by decide⟩
def spWhole : Sp := fun vs H Q _ => ∃ i : Int, vs = [.int i] ∧ Q (.bl true) H
def spBetween : Sp := fun vs H Q _ => ∃ i lo hi : Int, vs = [.int i, .int lo, .int hi] ∧ lo ≤ i ∧ i ≤ hi ∧ Q (.bl true) H
def spLaw (K : PySem.W.Frag) : Sp := fun vs H Q _ => ∃ (a : Addr) (ns : List Int), vs = [.ref a] ∧ SqL K H a (ns.map V.int) ∧ ns.length ≤ 63 ∧ ∀ H', Q (.bl true) H'
theorem at_last {xs : List Int} {s : Int} (h : xs[xs.length - 1]? = some s) : atI (xs.map V.int) (-1) = some (.int s) := by
  have hl := (List.getElem?_eq_some_iff.mp h).1
  have e : ixN (xs.map V.int).length (-1) = some (xs.length - 1) := by
    unfold ixN
    rw [if_neg (by decide), List.length_map, if_pos (by lia)]
    congr 1
    lia
  unfold atI
  rw [e]
  show (xs.map V.int)[xs.length - 1]? = _
  rw [List.getElem?_map, h]
  rfl
theorem b200 {x : Int} (h1 : -(2 ^ 200) < x) (h2 : x < 2 ^ 200) : intBits x ≤ 100000 := Nat.le_trans (intBits_le_iff.mpr (show x.natAbs < 2 ^ 200 by lia)) (by decide)
theorem iteC {c A B : Prop} [Decidable c] (h1 : c → A) (h2 : ¬ c → B) : if decide c = true then A else B := by
  by_cases h : c
  · exact iteD h (h1 h)
  · exact iteDN h (h2 h)
theorem iteCN {c A B : Prop} [Decidable c] (h1 : ¬ c → A) (h2 : c → B) : if (!decide c) = true then A else B := by
  by_cases h : c
  · exact iteNS h (h2 h)
  · exact iteN h (h1 h)
theorem iteI {a b : Int} {A B : Prop} (h1 : a = b → A) (h2 : a ≠ b → B) : if decide (V.int a = V.int b) = true then A else B := iteC (fun z => h1 (by injection z)) (fun z => h2 (fun e => z (congrArg V.int e)))
theorem iteIN {a b : Int} {A B : Prop} (h1 : a ≠ b → A) (h2 : a = b → B) : if (!decide (V.int a = V.int b)) = true then A else B := iteCN (fun z => h1 (fun e => z (congrArg V.int e))) (fun z => h2 (by injection z))
local macro_rules | `(tactic| walk_at "s") => `(tactic| first
  | lia | assumption | exact ty_int | exact rfl | (dsimp only; lia) | exact cpow1 (by lia) (by lia) | exact ⟨by decide, by decide⟩ | exact ⟨by lia, log_small (by lia) (by lia)⟩
  | exact .inr ⟨by decide, by decide⟩ | exact .inl ⟨by decide, by decide⟩ | exact .inl ⟨by lia, by lia⟩ | exact .inr ⟨by lia, by lia⟩ | exact ⟨b200 (by lia) (by lia), b200 (by lia) (by lia)⟩
  | exact ⟨by decide, by decide, by decide⟩ | exact Nat.le_of_ble_eq_true rfl)
local macro_rules | `(tactic| walk_at "q") => `(tactic| first | exact SqT.of (by first | assumption | exact upd_same) | exact SqL.of (by first | assumption | exact upd_same) | assumption)
local macro_rules | `(tactic| walk_at "o") => `(tactic| repeat (first
  | refine ⟨_, rfl, ?_⟩ | refine ⟨_, _, rfl, rfl, ?_⟩ | with_reducible refine iteF ?_ | with_reducible refine iteT ?_
  | refine ⟨_, _, _, _, rfl, rfl, (by walk_at "q"), rfl, ?_⟩
  | refine And.intro (by walk_at "s") ?_
  | refine ⟨_, _, rfl, ?_⟩ | refine ⟨_, _, _, rfl, ?_⟩
  | refine ⟨_, _, _, _, _, rfl, rfl, TyOf.int _, kit_int_int _, ?_⟩ | refine ⟨_, _, _, _, _, rfl, rfl, TyOf.int _, kit_int_bool _, ?_⟩
  | refine ⟨_, _, _, _, _, rfl, rfl, TyOf.bl _, rfl, ?_⟩
  | refine ⟨_, _, _, _, _, rfl, rfl, TyOf.tup (by assumption), rfl, ?_⟩
  | refine ⟨_, _, rfl, .inr (SqT.of (by assumption)), ?_⟩ | refine ⟨_, _, rfl, .inl (SqL.of (by assumption)), ?_⟩
  | with_reducible refine iteD (by lia) ?_ | with_reducible refine iteDN (by lia) ?_ | with_reducible refine iteN (by lia) ?_ | with_reducible refine iteNS (by lia) ?_
  | with_reducible refine iteNS rfl ?_))
local macro_rules | `(tactic| walk_at "c") => `(tactic| first | with_reducible refine iteI ?_ ?_ | with_reducible refine iteIN ?_ ?_ | with_reducible refine iteC ?_ ?_ | with_reducible refine iteCN ?_ ?_ | refine ite2 ?_ ?_)
local macro_rules | `(tactic| walk_at "n") => `(tactic| (intro z; injection z with z; revert z; decide +kernel))
def OnG (g : Int → Int) (u x v : Int) : Prop := (g v - g u) * (x - u) ≤ (g x - g u) * (v - u)
def Bnd (g : Int → Int) (u w p : Int) : Prop := (g w - g u) * (p - u) < (w - u) * (g p - g u)
structure Ch (g : Int → Int) (K : List Int) : Prop where
  inc : ∀ i u v, K[i]? = some u → K[i + 1]? = some v → u < v ∧ ∀ x, u < x → x < v → OnG g u x v
  bnd : ∀ i u v w, K[i]? = some u → K[i + 1]? = some v → K[i + 2]? = some w → Bnd g u v w
theorem Ch.tail {g : Int → Int} {u : Int} {K : List Int} (h : Ch g (u :: K)) : Ch g K :=
  ⟨fun i a b e1 e2 => h.inc (i + 1) a b (by simpa using e1) (by simpa using e2), fun i a b c e1 e2 e3 => h.bnd (i + 1) a b c (by simpa using e1) (by simpa using e2) (by simpa using e3)⟩
theorem Ch.lt_last {g : Int → Int} {n : Int} : ∀ (K : List Int) (u : Int), Ch g (u :: K) → (u :: K).getLast? = some n → u ≤ n ∧ (K ≠ [] → u < n)
  | [], u, _, e => by simp at e; subst e; exact ⟨Int.le_refl _, fun z => absurd rfl z⟩
  | v :: K, u, h, e => by
    have a := (h.inc 0 u v rfl rfl).1
    have b := Ch.lt_last K v h.tail (by rw [List.getLast?_cons_cons] at e; exact e)
    exact ⟨by lia, fun _ => by lia⟩
theorem above_step {gu gv gw gx u v w x : Int} (h1 : u < v) (h2 : v < w) (h3 : v < x) (b : (gv - gu) * (w - u) < (v - u) * (gw - gu)) (a : (gw - gv) * (x - v) ≤ (gx - gv) * (w - v)) : (gv - gu) * (x - u) < (gx - gu) * (v - u) := by
  have b' : (gv - gu) * (w - v) < (v - u) * (gw - gv) := by grind
  have p : (gv - gu) * (w - v) * (x - v) < (v - u) * (gw - gv) * (x - v) := Int.mul_lt_mul_of_pos_right b' (by lia)
  have q : (gw - gv) * (x - v) * (v - u) ≤ (gx - gv) * (w - v) * (v - u) := Int.mul_le_mul_of_nonneg_right a (by lia)
  have r : (gv - gu) * (x - v) * (w - v) < (gx - gv) * (v - u) * (w - v) := by grind
  have s := Int.lt_of_mul_lt_mul_right r (by lia)
  grind
theorem Ch.above {g : Int → Int} {n : Int} : ∀ (K : List Int) (u v x : Int), Ch g (u :: v :: K) → (u :: v :: K).getLast? = some n → v < x → x ≤ n → (g v - g u) * (x - u) < (g x - g u) * (v - u)
  | [], u, v, x, _, e, h1, h2 => by simp at e; lia
  | w :: K, u, v, x, h, e, h1, h2 => by
    have i1 := (h.inc 0 u v rfl rfl).1
    have i2 := h.inc 1 v w rfl rfl
    have b := h.bnd 0 u v w rfl rfl rfl
    have e' : (v :: w :: K).getLast? = some n := by rw [List.getLast?_cons_cons] at e; exact e
    refine above_step i1 i2.1 h1 b ?_
    by_cases c : x < w
    · exact i2.2 x h1 c
    · by_cases c2 : x = w
      · subst c2; exact Int.le_refl _
      · exact Int.le_of_lt (Ch.above K v w x h.tail e' (by lia) h2)
theorem Ch.unique {g : Int → Int} {n : Int} : ∀ (K L : List Int) (u : Int), Ch g (u :: K) → Ch g (u :: L) → (u :: K).getLast? = some n → (u :: L).getLast? = some n → K = L
  | [], [], _, _, _, _, _ => rfl
  | [], l :: L, u, _, hl, e1, e2 => by
    have := (Ch.lt_last (l :: L) u hl e2).2 (by simp)
    simp at e1
    lia
  | k :: K, [], u, hk, _, e1, e2 => by
    have := (Ch.lt_last (k :: K) u hk e1).2 (by simp)
    simp at e2
    lia
  | k :: K, l :: L, u, hk, hl, e1, e2 => by
    have e1' : (k :: K).getLast? = some n := by rw [List.getLast?_cons_cons] at e1; exact e1
    have e2' : (l :: L).getLast? = some n := by rw [List.getLast?_cons_cons] at e2; exact e2
    have k1 := hk.inc 0 u k rfl rfl
    have l1 := hl.inc 0 u l rfl rfl
    have kn := (Ch.lt_last K k hk.tail e1').1
    have ln := (Ch.lt_last L l hl.tail e2').1
    have : k = l := by
      refine Classical.byContradiction fun z => ?_
      by_cases c : k < l
      · have a := l1.2 k k1.1 c
        have b := Ch.above K u k l hk e1 c ln
        unfold OnG at a
        lia
      · have a := k1.2 l l1.1 (by lia)
        have b := Ch.above L u l k hl e2 (by lia) kn
        unfold OnG at a
        lia
    subst this
    rw [Ch.unique K L k hk.tail hl.tail e1' e2']
theorem on_left {gu gx gw gp u x w p : Int} (h1 : u < x) (h2 : x < w) (h3 : w < p) (a : (gp - gu) * (w - u) ≤ (gw - gu) * (p - u)) (b : (gw - gu) * (x - u) ≤ (gx - gu) * (w - u)) : (gp - gu) * (x - u) ≤ (gx - gu) * (p - u) := by
  have k : ((gp - gu) * (x - u)) * (w - u) ≤ ((gx - gu) * (p - u)) * (w - u) := by
    have e1 : ((gw - gu) * (x - u)) * (p - u) ≤ ((gx - gu) * (w - u)) * (p - u) := Int.mul_le_mul_of_nonneg_right b (by lia)
    have e2 : ((gp - gu) * (w - u)) * (x - u) ≤ ((gw - gu) * (p - u)) * (x - u) := Int.mul_le_mul_of_nonneg_right a (by lia)
    grind
  exact Int.le_of_mul_le_mul_right k (by lia)
theorem on_right {gu gx gw gp u x w p : Int} (h1 : u < w) (h2 : w < x) (h3 : x < p) (a : (gp - gu) * (w - u) ≤ (gw - gu) * (p - u)) (b : (gp - gw) * (x - w) ≤ (gx - gw) * (p - w)) : (gp - gu) * (x - u) ≤ (gx - gu) * (p - u) := by
  have k : ((gp - gu) * (x - u)) * (p - w) ≤ ((gx - gu) * (p - u)) * (p - w) := by
    have e1 : ((gp - gw) * (x - w)) * (p - u) ≤ ((gx - gw) * (p - w)) * (p - u) := Int.mul_le_mul_of_nonneg_right b (by lia)
    have e2 : ((gp - gu) * (w - u)) * (p - x) ≤ ((gw - gu) * (p - u)) * (p - x) := Int.mul_le_mul_of_nonneg_right a (by lia)
    grind
  exact Int.le_of_mul_le_mul_right k (by lia)
theorem Ch.pop {g : Int → Int} {A : List Int} {u w p : Int} (c : Ch g (A ++ [u, w])) (hp : w < p) (on : ∀ x, w < x → x < p → OnG g w x p) (nb : ¬ Bnd g u w p) : Ch g (A ++ [u]) ∧ ∀ x, u < x → x < p → OnG g u x p := by
  have lu : (A ++ [u, w])[A.length]? = some u := by rw [List.getElem?_append_right (Nat.le_refl _), Nat.sub_self]; rfl
  have lw : (A ++ [u, w])[A.length + 1]? = some w := by rw [List.getElem?_append_right (by lia), show A.length + 1 - A.length = 1 by lia]; rfl
  obtain ⟨huw, on1⟩ := c.inc A.length u w lu lw
  have up : ∀ i v, (A ++ [u])[i]? = some v → (A ++ [u, w])[i]? = some v := fun i v e => by
    by_cases hi : i < A.length
    · rw [List.getElem?_append_left hi] at e ⊢; exact e
    · rw [List.getElem?_append_right (by lia)] at e ⊢
      cases h : i - A.length with
      | zero => rw [h] at e; exact e
      | succ k => rw [h] at e; simp at e
  refine ⟨⟨fun i a b e1 e2 => c.inc i a b (up _ _ e1) (up _ _ e2), fun i a b d e1 e2 e3 => c.bnd i a b d (up _ _ e1) (up _ _ e2) (up _ _ e3)⟩, fun x h1 h2 => ?_⟩
  have nb' : (g p - g u) * (w - u) ≤ (g w - g u) * (p - u) := by unfold Bnd at nb; rw [Int.mul_comm (g p - g u)]; lia
  by_cases c1 : x < w
  · exact on_left h1 c1 hp nb' (on1 x h1 c1)
  · by_cases c2 : x = w
    · subst c2; exact nb'
    · exact on_right huw (by lia) h2 nb' (on x (by lia) h2)
theorem Ch.snoc {g : Int → Int} {A : List Int} {w p : Int} (c : Ch g (A ++ [w])) (hp : w < p) (on : ∀ x, w < x → x < p → OnG g w x p) (hb : ∀ B u, A = B ++ [u] → Bnd g u w p) : Ch g (A ++ [w] ++ [p]) := by
  have L : (A ++ [w]).length = A.length + 1 := by simp
  have low : ∀ i v, i < A.length + 1 → (A ++ [w] ++ [p])[i]? = some v → (A ++ [w])[i]? = some v := fun i v hi e => by rwa [List.getElem?_append_left (by lia)] at e
  have top : ∀ i v, i = A.length + 1 → (A ++ [w] ++ [p])[i]? = some v → v = p := fun i v hi e => by
    rw [List.getElem?_append_right (by lia), L, hi, Nat.sub_self] at e
    simp at e; exact e.symm
  have wat : ∀ v, (A ++ [w])[A.length]? = some v → v = w := fun v e => by
    rw [List.getElem?_append_right (Nat.le_refl _), Nat.sub_self] at e
    simp at e; exact e.symm
  have bnd : ∀ (i : Nat) (v : Int), (A ++ [w] ++ [p])[i]? = some v → i < A.length + 2 := fun i v e => by
    have := (List.getElem?_eq_some_iff.mp e).1
    simp at this; lia
  refine ⟨fun i a b e1 e2 => ?_, fun i a b d e1 e2 e3 => ?_⟩
  · have := bnd _ _ e2
    by_cases h : i + 1 = A.length + 1
    · have hb' := top _ _ h e2
      have ha := low _ _ (by lia) e1
      rw [show i = A.length by lia] at ha
      have := wat _ ha
      subst this hb'
      exact ⟨hp, on⟩
    · exact c.inc i a b (low _ _ (by lia) e1) (low _ _ (by lia) e2)
  · have := bnd _ _ e3
    by_cases h : i + 2 = A.length + 1
    · have hd := top _ _ h e3
      have hb' := low _ _ (by lia) e2
      rw [show i + 1 = A.length by lia] at hb'
      have := wat _ hb'
      have ha := low _ _ (by lia) e1
      rw [List.getElem?_append_left (by lia)] at ha
      subst this hd
      refine hb (A.take i) a ?_
      have : A = A.take i ++ A.drop i := (List.take_append_drop i A).symm
      rw [List.drop_eq_getElem_cons (by lia : i < A.length), List.drop_eq_nil_of_le (by lia : A.length ≤ i + 1)] at this
      rw [List.getElem?_eq_getElem (by lia)] at ha
      cases ha
      exact this
    · exact c.bnd i a b d (low _ _ (by lia) e1) (low _ _ (by lia) e2) (low _ _ (by lia) e3)
structure Eu (m b step drop far lack rest : Int) : Prop where
  s1 : 1 ≤ step
  f0 : 0 ≤ far
  d0 : 0 ≤ drop
  db : drop < b
  l1 : 1 ≤ lack
  es : b ∣ m * step + drop
  ef : b ∣ m * far - lack
  det : step * lack + far * drop = b
  mn : ∀ s v, 0 < s → s < step → 1 ≤ v → v ≤ rest → ¬ b ∣ m * s + v
theorem Eu.less {m b step drop far lack rest rest' : Int} (h : Eu m b step drop far lack rest) (hr : rest' ≤ rest) : Eu m b step drop far lack rest' :=
  ⟨h.s1, h.f0, h.d0, h.db, h.l1, h.es, h.ef, h.det, fun s v a b c d => h.mn s v a b c (by lia)⟩
theorem Eu.start (m b rest : Int) (b0 : 1 ≤ b) : Eu m b 1 (-m % b) 0 b rest := by
  refine ⟨by lia, by lia, Int.emod_nonneg _ (by lia), Int.emod_lt_of_pos _ (by lia), b0, ?_, ?_, ?_, fun s v a b => by lia⟩
  · refine Int.dvd_of_emod_eq_zero ?_
    rw [Int.mul_one, Int.add_emod_emod, Int.add_right_neg, Int.zero_emod]
  · rw [Int.mul_zero, Int.zero_sub]; exact (Int.dvd_neg).mpr (Int.dvd_refl b)
  · rw [Int.one_mul, Int.zero_mul, Int.add_zero]
theorem Eu.ratio {m b step drop far lack rest s v : Int} (h : Eu m b step drop far lack rest) (rb : rest < b) (hs : 0 < s) (v1 : 1 ≤ v) (v2 : v ≤ rest) (hd : b ∣ m * s + v) : v * step ≤ drop * s ∧ step ≤ s := by
  refine ⟨Classical.byContradiction fun z => ?_, Classical.byContradiction fun z => h.mn s v hs (by lia) v1 v2 hd⟩
  have s1 := h.s1
  have t0 := Int.emod_nonneg s (show step ≠ 0 by lia)
  have t1 := Int.emod_lt_of_pos s (show 0 < step by lia)
  have e := Int.mul_ediv_add_emod s step
  have q0 : 0 ≤ s / step := Int.ediv_nonneg (by lia) (by lia)
  generalize s % step = t at t0 t1 e
  generalize s / step = q at q0 e
  have k1 : drop * t < (v - q * drop) * step := by
    have : drop * s = drop * (step * q + t) := by rw [e]
    grind
  have k0 : 0 ≤ drop * t := Int.mul_nonneg h.d0 t0
  have k2 : 1 ≤ v - q * drop := Classical.byContradiction fun y => by
    have := Int.mul_nonpos_of_nonpos_of_nonneg (show v - q * drop ≤ 0 by lia) (show 0 ≤ step by lia)
    lia
  have k3 : 0 ≤ q * drop := Int.mul_nonneg q0 h.d0
  have k4 : b ∣ m * t + (v - q * drop) := by
    have : m * t + (v - q * drop) = (m * s + v) - (m * step + drop) * q := by rw [← e]; grind
    rw [this]
    exact Int.dvd_sub hd (Int.dvd_mul_of_dvd_left h.es)
  by_cases c : t = 0
  · rw [c, Int.mul_zero, Int.zero_add] at k4
    have := Int.le_of_dvd (by lia) k4
    lia
  · exact h.mn t _ (by lia) t1 k2 (by lia) k4
theorem Eu.none {m b step drop far lack rest s v : Int} (h : Eu m b step drop far lack rest) (hr : rest < drop) (hl : lack % drop = 0) (v1 : 1 ≤ v) (v2 : v ≤ rest) : ¬ b ∣ m * s + v := fun hd => by
  have d0 : 0 < drop := by lia
  have e := Int.mul_ediv_add_emod lack drop
  rw [hl, Int.add_zero] at e
  generalize lack / drop = q at e
  have k : b = (far + q * step) * drop := by have := h.det; rw [← e] at this; grind
  have k2 : b ∣ m * (far + q * step) := by
    have : m * (far + q * step) = (m * far - lack) + (m * step + drop) * q := by rw [← e]; grind
    rw [this]
    exact Int.dvd_add h.ef (Int.dvd_mul_of_dvd_left h.es)
  have k3 : b ∣ (far + q * step) * v := by
    have : (far + q * step) * v = (m * s + v) * (far + q * step) - m * (far + q * step) * s := by grind
    rw [this]
    exact Int.dvd_sub (Int.dvd_mul_of_dvd_left hd) (Int.dvd_mul_of_dvd_left k2)
  have F0 : far + q * step ≠ 0 := fun z => by rw [z, Int.zero_mul] at k; have := h.db; lia
  rw [k] at k3
  have k4 := Int.dvd_of_mul_dvd_mul_left F0 k3
  have := Int.le_of_dvd (by lia) k4
  lia
theorem Eu.next {m b step drop far lack rest : Int} (h : Eu m b step drop far lack rest) (hr : rest < drop) (r0 : 0 ≤ rest) (hl : lack % drop ≠ 0) {many : Int} (hm : many = min (-((rest - drop) / (lack % drop))) ((drop - 1) / (lack % drop))) :
    1 ≤ many ∧ Eu m b (step + many * (far + lack / drop * step)) (drop - many * (lack % drop)) (far + lack / drop * step) (lack % drop) rest ∧ 1 ≤ drop - many * (lack % drop) ∧ drop - many * (lack % drop) < drop := by
  have d0 : 0 < drop := by lia
  have e := Int.mul_ediv_add_emod lack drop
  have t0 := Int.emod_nonneg lack (show drop ≠ 0 by lia)
  have t1 := Int.emod_lt_of_pos lack d0
  have q0 : 0 ≤ lack / drop := Int.ediv_nonneg (by have := h.l1; lia) (by lia)
  generalize lack % drop = L at *
  generalize lack / drop = q at *
  have s1 := h.s1
  have f0 := h.f0
  have F0 : 0 ≤ far + q * step := Int.add_nonneg h.f0 (Int.mul_nonneg q0 (by lia))
  have det : step * L + (far + q * step) * drop = b := by have := h.det; rw [← e] at this; grind
  have eF : b ∣ m * (far + q * step) - L := by
    have : m * (far + q * step) - L = (m * far - lack) + (m * step + drop) * q := by rw [← e]; grind
    rw [this]
    exact Int.dvd_add h.ef (Int.dvd_mul_of_dvd_left h.es)
  generalize far + q * step = F at *
  have L0 : 0 < L := by lia
  have a1 := Int.ediv_mul_le (rest - drop) (show L ≠ 0 by lia)
  have a2 := Int.lt_ediv_add_one_mul_self (rest - drop) L0
  have b1 := Int.ediv_mul_le (drop - 1) (show L ≠ 0 by lia)
  have c1 : 1 ≤ (drop - 1) / L := Int.le_ediv_of_mul_le L0 (by lia)
  have c2 : (rest - drop) / L < 0 := Int.ediv_neg_of_neg_of_pos (by lia) L0
  generalize (rest - drop) / L = A at *
  generalize (drop - 1) / L = B at *
  have m1 : 1 ≤ many := by lia
  have mB : many ≤ B := by lia
  have mA : many ≤ -A := by lia
  have n1 : many * L ≤ B * L := Int.mul_le_mul_of_nonneg_right mB (by lia)
  have n2 : L ≤ many * L := by have := Int.mul_le_mul_of_nonneg_right m1 (show 0 ≤ L by lia); lia
  have n3 : 0 ≤ many * F := Int.mul_nonneg (by lia) F0
  refine ⟨m1, ⟨by lia, F0, by lia, by have := h.db; lia, by lia, ?_, eF, by grind, fun s v hs hs' v1 v2 hd => ?_⟩, by lia, by lia⟩
  · have : m * (step + many * F) + (drop - many * L) = (m * step + drop) + (m * F - L) * many := by grind
    rw [this]
    exact Int.dvd_add h.es (Int.dvd_mul_of_dvd_left eF)
  · -- the two numbers of (s, v) by the two steps
    have x1 : b ∣ s * L + v * F := by
      have : s * L + v * F = (m * s + v) * F - (m * F - L) * s := by grind
      rw [this]
      exact Int.dvd_sub (Int.dvd_mul_of_dvd_left hd) (Int.dvd_mul_of_dvd_left eF)
    have x2 : b ∣ s * drop - v * step := by
      have : s * drop - v * step = (m * step + drop) * s - (m * s + v) * step := by grind
      rw [this]
      exact Int.dvd_sub (Int.dvd_mul_of_dvd_left h.es) (Int.dvd_mul_of_dvd_left hd)
    obtain ⟨α, hα⟩ := x1
    obtain ⟨β, hβ⟩ := x2
    have b0 : 0 < b := by have := h.db; lia
    have eα : s = α * step + β * F := by
      have : s * b = (α * step + β * F) * b := by
        have : s * b = s * (step * L + F * drop) := by rw [det]
        grind
      exact Int.eq_of_mul_eq_mul_right (by lia) this
    have eβ : v = α * drop - β * L := by
      have : v * b = (α * drop - β * L) * b := by
        have : v * b = v * (step * L + F * drop) := by rw [det]
        grind
      exact Int.eq_of_mul_eq_mul_right (by lia) this
    have p1 : 0 < s * L := Int.mul_pos hs L0
    have p2 : 0 ≤ v * F := Int.mul_nonneg (by lia) F0
    have α1 : 1 ≤ α := Classical.byContradiction fun z => by
      have := Int.mul_nonpos_of_nonneg_of_nonpos (show 0 ≤ b by lia) (show α ≤ 0 by lia)
      lia
    have p3 : drop ≤ α * drop := by have := Int.mul_le_mul_of_nonneg_right α1 (show 0 ≤ drop by lia); lia
    have β1 : many ≤ β := by
      refine Int.le_trans mA (Classical.byContradiction fun z => ?_)
      have := Int.mul_le_mul_of_nonneg_right (show β ≤ -A - 1 by lia) (show 0 ≤ L by lia)
      have e1 : (-A - 1) * L = -((A + 1) * L) := by grind
      lia
    have p4 : step ≤ α * step := by have := Int.mul_le_mul_of_nonneg_right α1 (show 0 ≤ step by lia); lia
    have p5 : many * F ≤ β * F := Int.mul_le_mul_of_nonneg_right β1 F0
    lia
def Rs (m a b x : Int) : Int := (m * x + a) % b
theorem Rs_drop {m a b x s v : Int} (b0 : 0 < b) (hd : b ∣ m * s + v) (v0 : 0 ≤ v) (v1 : v ≤ Rs m a b x) : Rs m a b (x + s) = Rs m a b x - v := by
  unfold Rs at *
  obtain ⟨k, hk⟩ := hd
  have e := Int.mul_ediv_add_emod (m * x + a) b
  have h := Int.emod_lt_of_pos (m * x + a) b0
  generalize (m * x + a) % b = r at *
  generalize (m * x + a) / b = q at *
  rw [show m * (x + s) + a = (r - v) + b * (q + k) by grind, Int.add_mul_emod_self_left, Int.emod_eq_of_lt (by lia) (by lia)]
theorem Rs_less {m a b x s : Int} (b0 : 0 < b) (h : Rs m a b (x + s) < Rs m a b x) : 1 ≤ Rs m a b x - Rs m a b (x + s) ∧ Rs m a b x - Rs m a b (x + s) ≤ Rs m a b x ∧ b ∣ m * s + (Rs m a b x - Rs m a b (x + s)) := by
  unfold Rs at *
  have e1 := Int.mul_ediv_add_emod (m * x + a) b
  have e2 := Int.mul_ediv_add_emod (m * (x + s) + a) b
  have n2 := Int.emod_nonneg (m * (x + s) + a) (show b ≠ 0 by lia)
  generalize (m * x + a) % b = r at *
  generalize (m * (x + s) + a) % b = r' at *
  generalize (m * x + a) / b = q at *
  generalize (m * (x + s) + a) / b = q' at *
  exact ⟨by lia, by lia, ⟨q' - q, by grind⟩⟩
theorem Rs_rg {m a b x : Int} (b0 : 0 < b) : 0 ≤ Rs m a b x ∧ Rs m a b x < b := ⟨Int.emod_nonneg _ (by lia), Int.emod_lt_of_pos _ b0⟩
abbrev Row3 := Int × Int × Int
def plcs (rs : List Row3) : List Int := rs.foldl (fun P r => P ++ [P.getLast?.getD 0 + r.1 * r.2.2]) [0]
theorem plcs_snoc (rs : List Row3) (r : Row3) : plcs (rs ++ [r]) = plcs rs ++ [(plcs rs).getLast?.getD 0 + r.1 * r.2.2] := by
  unfold plcs; rw [List.foldl_append]; rfl
theorem plcs_len (rs : List Row3) : (plcs rs).length = rs.length + 1 := by
  have : ∀ (rs : List Row3) (P : List Int), (rs.foldl (fun P r => P ++ [P.getLast?.getD 0 + r.1 * r.2.2]) P).length = rs.length + P.length := by
    intro rs
    induction rs with
    | nil => intro P; simp
    | cons r rs ih => intro P; rw [List.foldl_cons, ih]; simp; lia
  exact this rs [0]
structure RowOk (m a b n : Int) (P : List Int) (i : Nat) (r : Row3) (u : Int) : Prop where
  s1 : 1 ≤ r.1
  d1 : 1 ≤ r.2.1
  d2 : r.2.1 ≤ Rs m a b u
  dv : b ∣ m * r.1 + r.2.1
  t1 : 1 ≤ r.2.2
  tm : r.2.2 = min (Rs m a b u / r.2.1) ((n - u) / r.1)
  nx : P[i + 1]? = some (u + r.1 * r.2.2)
  mn : ∀ s v, 0 < s → s < r.1 → 1 ≤ v → v ≤ Rs m a b u → ¬ b ∣ m * s + v
structure FI (m a b n : Int) (rs : List Row3) (x rest step drop far lack : Int) : Prop where
  eu : Eu m b step drop far lack rest
  x0 : 0 ≤ x
  xn : x ≤ n
  re : rest = Rs m a b x
  ch : Ch (Rs m a b) (plcs rs)
  hd : (plcs rs)[0]? = some 0
  la : (plcs rs).getLast? = some x
  rc : ∀ z, 0 ≤ z → z < x → Rs m a b x < Rs m a b z
  dn : ∀ i u v, (plcs rs)[i]? = some u → (plcs rs)[i + 1]? = some v → Rs m a b v < Rs m a b u
  ed : ∀ B u, plcs rs = B ++ [u] ++ [x] → ∃ st dr ti, 1 ≤ st ∧ 1 ≤ dr ∧ 1 ≤ ti ∧ x = u + ti * st ∧ Rs m a b u = Rs m a b x + ti * dr ∧ st ≤ step ∧ (rest < dr ∨ n - x < st)
  rw : ∀ i r u, rs[i]? = some r → (plcs rs)[i]? = some u → RowOk m a b n (plcs rs) i r u
  pw : (2 : Int) ^ rs.length * rest < b ∨ n - x < step
  ln : ∀ k, rs.length = k + 1 → (2 : Int) ^ k < b
theorem FI.start {m a b n : Int} (b0 : 1 ≤ b) (n0 : 0 ≤ n) : FI m a b n [] 0 (a % b) 1 (-m % b) 0 b := by
  have e : plcs [] = [0] := rfl
  refine ⟨Eu.start m b _ b0, by lia, n0, by unfold Rs; rw [Int.mul_zero, Int.zero_add], ⟨fun i u v e1 e2 => ?_, fun i u v w e1 e2 => ?_⟩, rfl, rfl, fun z a b => by lia, fun i u v e1 e2 => ?_, fun B u h => ?_, fun i r u h => by simp at h, .inl ?_, fun k hk => by simp at hk⟩
  · rw [e] at e2; simp at e2
  · rw [e] at e2; simp at e2
  · rw [e] at e2; simp at e2
  · rw [e] at h
    have := congrArg List.length h
    simp at this
  · show (2 : Int) ^ 0 * (a % b) < b
    rw [Int.pow_zero, Int.one_mul]
    exact Int.emod_lt_of_pos _ (by lia)
theorem FI.next {m a b n : Int} {rs : List Row3} {x rest step drop far lack : Int} (h : FI m a b n rs x rest step drop far lack) (b0 : 0 < b) (hr : rest < drop) (hl : lack % drop ≠ 0) {many : Int} (hm : many = min (-((rest - drop) / (lack % drop))) ((drop - 1) / (lack % drop))) :
    FI m a b n rs x rest (step + many * (far + lack / drop * step)) (drop - many * (lack % drop)) (far + lack / drop * step) (lack % drop) := by
  have r0 : 0 ≤ rest := by rw [h.re]; exact (Rs_rg b0).1
  obtain ⟨m1, eu, _, _⟩ := h.eu.next hr r0 hl hm
  have mf : 0 ≤ many * (far + lack / drop * step) := Int.mul_nonneg (by lia) eu.f0
  refine ⟨eu, h.x0, h.xn, h.re, h.ch, h.hd, h.la, h.rc, h.dn, fun B u e => ?_, h.rw, h.pw.imp id fun z => by lia, h.ln⟩
  obtain ⟨st, dr, ti, a1, a2, a3, a4, a5, a6, a7⟩ := h.ed B u e
  have : 0 ≤ many * (far + lack / drop * step) := Int.mul_nonneg (by lia) eu.f0
  exact ⟨st, dr, ti, a1, a2, a3, a4, a5, by lia, a7⟩
theorem last_split {P : List Int} {x : Int} (h : P.getLast? = some x) : ∃ A, P = A ++ [x] := by
  cases e : P with
  | nil => rw [e] at h; cases h
  | cons a t =>
    rw [e] at h
    refine ⟨(a :: t).dropLast, ?_⟩
    have h2 : (a :: t).getLast (by simp) = x := by
      rw [List.getLast?_eq_some_getLast (by simp)] at h
      exact Option.some.inj h
    rw [← h2, List.dropLast_concat_getLast]
theorem FI.row {m a b n : Int} {rs : List Row3} {x rest step drop far lack : Int} (h : FI m a b n rs x rest step drop far lack) (b0 : 0 < b) (d1 : 0 < drop) (hr : drop ≤ rest) {times : Int} (ht : times = min (rest / drop) ((n - x) / step)) (t0 : times ≠ 0) :
    FI m a b n (rs ++ [(step, drop, times)]) (x + times * step) (rest - times * drop) step drop far lack ∧ 1 ≤ times ∧ rest - times * drop < rest ∧ 0 ≤ rest - times * drop := by
  have s1 := h.eu.s1
  have rg := Rs_rg (m := m) (a := a) (b := b) (x := x) b0
  have re := h.re
  have xn := h.xn
  have q1 := Int.ediv_mul_le rest (show drop ≠ 0 by lia)
  have q0 : 0 ≤ rest / drop := Int.ediv_nonneg (by lia) (by lia)
  have q2 := Int.ediv_mul_le (n - x) (show step ≠ 0 by lia)
  have q3 : 0 ≤ (n - x) / step := Int.ediv_nonneg (by lia) (by lia)
  have q4 := Int.lt_ediv_add_one_mul_self rest d1
  have q5 := Int.lt_ediv_add_one_mul_self (n - x) (show 0 < step by lia)
  have t1 : 1 ≤ times := by lia
  have u1 : times * drop ≤ rest / drop * drop := Int.mul_le_mul_of_nonneg_right (by lia) (by lia)
  have u2 : times * step ≤ (n - x) / step * step := Int.mul_le_mul_of_nonneg_right (by lia) (by lia)
  have u3 : drop ≤ times * drop := by have := Int.mul_le_mul_of_nonneg_right t1 (show 0 ≤ drop by lia); lia
  have u4 : step ≤ times * step := by have := Int.mul_le_mul_of_nonneg_right t1 (show 0 ≤ step by lia); lia
  have dvt : b ∣ m * (times * step) + times * drop := by
    have : m * (times * step) + times * drop = (m * step + drop) * times := by grind
    rw [this]; exact Int.dvd_mul_of_dvd_left h.eu.es
  have Rx : Rs m a b (x + times * step) = rest - times * drop := by
    rw [Rs_drop b0 dvt (by lia) (by lia), ← re]
  have side : ∀ s, 0 < s → -(drop * s) ≤ (Rs m a b (x + s) - rest) * step := fun s hs => by
    by_cases c : Rs m a b (x + s) < rest
    · obtain ⟨v1, v2, v3⟩ := Rs_less b0 (by rw [← re]; exact c)
      have := (h.eu.ratio (by lia) hs v1 (by lia) v3).1
      rw [← re] at this
      grind
    · have a1 : 0 ≤ (Rs m a b (x + s) - rest) * step := Int.mul_nonneg (by lia) (by lia)
      have a2 : 0 ≤ drop * s := Int.mul_nonneg (by lia) (by lia)
      lia
  have la : (plcs (rs ++ [(step, drop, times)])) = plcs rs ++ [x + times * step] := by
    rw [plcs_snoc, h.la, Int.mul_comm times]; rfl
  obtain ⟨A, hA⟩ := last_split h.la
  have on : ∀ z, x < z → z < x + times * step → OnG (Rs m a b) x z (x + times * step) := fun z h1 h2 => by
    have := side (z - x) (by lia)
    rw [show x + (z - x) = z by lia] at this
    unfold OnG
    rw [Rx, ← re]
    have k := Int.mul_le_mul_of_nonneg_right this (show 0 ≤ times by lia)
    grind
  have bd : ∀ B u, A = B ++ [u] → Bnd (Rs m a b) u x (x + times * step) := fun B u e => by
    obtain ⟨st, dr, ti, a1, a2, a3, a4, a5, a6, a7⟩ := h.ed B u (by rw [hA, e])
    have dr2 : drop < dr := by
      rcases a7 with a7 | a7
      · lia
      · lia
    unfold Bnd
    rw [Rx, a5, ← re]
    have k : st * drop < step * dr := by
      have i1 : st * drop ≤ step * drop := Int.mul_le_mul_of_nonneg_right a6 (by lia)
      have i2 : step * drop < step * dr := Int.mul_lt_mul_of_pos_left dr2 (by lia)
      lia
    have k2 := Int.mul_lt_mul_of_pos_right k (Int.mul_pos (show 0 < ti by lia) (show 0 < times by lia))
    rw [a4] at *
    grind
  have x0 := h.x0
  refine ⟨⟨h.eu.less (by lia), by lia, by lia, Rx.symm, ?_, ?_, ?_, fun z z0 z1 => ?_, ?_, fun B u e => ?_, fun i r u e1 e2 => ?_, ?_, fun k hk => ?_⟩, t1, by lia, by lia⟩
  · rw [la, hA]
    have hc := h.ch
    rw [hA] at hc
    exact hc.snoc (by lia) on bd
  · rw [la, List.getElem?_append_left (by rw [plcs_len]; lia)]; exact h.hd
  · rw [la]; simp
  · rw [Rx]
    by_cases c : z < x
    · have := h.rc z z0 c; lia
    · by_cases c2 : z = x
      · rw [c2, ← re]; lia
      · have := side (z - x) (by lia)
        rw [show x + (z - x) = z by lia] at this
        have k : drop * (z - x) < drop * (times * step) := Int.mul_lt_mul_of_pos_left (by lia) d1
        have : -(times * drop) * step < (Rs m a b z - rest) * step := by grind
        have := Int.lt_of_mul_lt_mul_right this (by lia)
        lia
  · intro i u v e1 e2
    rw [la] at e1 e2
    have L := plcs_len rs
    by_cases c : i + 1 < (plcs rs).length
    · rw [List.getElem?_append_left (by lia)] at e1
      rw [List.getElem?_append_left c] at e2
      exact h.dn i u v e1 e2
    · have l2 := (List.getElem?_eq_some_iff.mp e2).1
      rw [List.length_append, List.length_singleton] at l2
      have hi : i + 1 = (plcs rs).length := by lia
      rw [List.getElem?_append_right (by lia), hi, Nat.sub_self] at e2
      rw [List.getElem?_append_left (by lia)] at e1
      have : (plcs rs)[i]? = some x := by
        have z := h.la
        rw [List.getLast?_eq_getElem?] at z
        rw [show i = (plcs rs).length - 1 by lia]; exact z
      rw [this] at e1
      simp at e1 e2
      subst e1 e2
      rw [Rx, ← re]; lia
  · rw [la, hA] at e
    have e2 := List.append_inj_left' e rfl
    have e3 := List.append_inj_right' e2 rfl
    simp at e3
    subst e3
    refine ⟨step, drop, times, s1, by lia, t1, rfl, by rw [Rx, ← re]; lia, Int.le_refl _, ?_⟩
    by_cases c : rest / drop ≤ (n - x) / step
    · left
      have : times = rest / drop := by lia
      rw [Int.add_mul, Int.one_mul, ← this] at q4
      lia
    · right
      have : times = (n - x) / step := by lia
      rw [Int.add_mul, Int.one_mul, ← this] at q5
      lia
  · have L := plcs_len rs
    rw [la] at e2
    by_cases c : i < rs.length
    · rw [List.getElem?_append_left c] at e1
      rw [List.getElem?_append_left (by lia)] at e2
      obtain ⟨o1, o2, o3, o4, o5, o6, o7, o8⟩ := h.rw i r u e1 e2
      exact ⟨o1, o2, o3, o4, o5, o6, by rw [la, List.getElem?_append_left (by lia)]; exact o7, o8⟩
    · have l2 := (List.getElem?_eq_some_iff.mp e1).1
      rw [List.length_append, List.length_singleton] at l2
      have hi : i = rs.length := by lia
      subst hi
      rw [List.getElem?_append_right (Nat.le_refl _), Nat.sub_self] at e1
      rw [List.getElem?_append_left (by lia)] at e2
      have : (plcs rs)[rs.length]? = some x := by
        have z := h.la
        rw [List.getLast?_eq_getElem?] at z
        rw [show rs.length = (plcs rs).length - 1 by lia]; exact z
      rw [this] at e2
      simp at e1 e2
      subst e1 e2
      refine ⟨s1, (by show 1 ≤ drop; lia), (by show drop ≤ _; lia), h.eu.es, t1, by rw [← re]; exact ht, ?_, fun s v y1 y2 y3 y4 => h.eu.mn s v y1 y2 y3 (by lia)⟩
      rw [la, List.getElem?_append_right (by lia), L, Nat.sub_self]
      simp
      exact Int.mul_comm _ _
  · have p0 : (0 : Int) < 2 ^ rs.length := Int.pow_pos (by decide)
    rw [List.length_append, List.length_singleton]
    rcases h.pw with z | z
    · by_cases c : rest / drop ≤ (n - x) / step
      · left
        have : times = rest / drop := by lia
        rw [Int.add_mul, Int.one_mul, ← this] at q4
        have k : (2 : Int) ^ rs.length * (2 * (rest - times * drop)) ≤ 2 ^ rs.length * rest := Int.mul_le_mul_of_nonneg_left (by lia) (by lia)
        rw [Int.pow_succ, Int.mul_assoc]
        lia
      · right
        have : times = (n - x) / step := by lia
        rw [Int.add_mul, Int.one_mul, ← this] at q5
        lia
    · lia
  · have p0 : (0 : Int) < 2 ^ rs.length := Int.pow_pos (by decide)
    rw [List.length_append, List.length_singleton] at hk
    rw [show k = rs.length by lia]
    rcases h.pw with z | z
    · have k : (2 : Int) ^ rs.length * 1 ≤ 2 ^ rs.length * rest := Int.mul_le_mul_of_nonneg_left (by lia) (by lia)
      lia
    · lia
structure FF (m a b n : Int) (rs : List Row3) (x : Int) : Prop where
  x0 : 0 ≤ x
  xn : x ≤ n
  ch : Ch (Rs m a b) (plcs rs)
  hd : (plcs rs)[0]? = some 0
  la : (plcs rs).getLast? = some x
  rc : ∀ z, 0 ≤ z → z < x → Rs m a b x < Rs m a b z
  dn : ∀ i u v, (plcs rs)[i]? = some u → (plcs rs)[i + 1]? = some v → Rs m a b v < Rs m a b u
  rw : ∀ i r u, rs[i]? = some r → (plcs rs)[i]? = some u → RowOk m a b n (plcs rs) i r u
  no : ∀ s v, 0 < s → s ≤ n - x → 1 ≤ v → v ≤ Rs m a b x → ¬ b ∣ m * s + v
  ln : ∀ k, rs.length = k + 1 → (2 : Int) ^ k < b
theorem FF.low {m a b n : Int} {rs : List Row3} {x : Int} (h : FF m a b n rs x) (b0 : 0 < b) : ∀ z, 0 ≤ z → z ≤ n → Rs m a b x ≤ Rs m a b z := fun z z0 z1 => by
  by_cases c : z < x
  · exact Int.le_of_lt (h.rc z z0 c)
  · by_cases c2 : z = x
    · rw [c2]; exact Int.le_refl _
    · refine Classical.byContradiction fun y => ?_
      obtain ⟨v1, v2, v3⟩ := Rs_less (m := m) (a := a) (x := x) (s := z - x) b0 (by rw [show x + (z - x) = z by lia]; lia)
      exact h.no (z - x) _ (by lia) (by lia) v1 v2 v3
theorem FI.fin {m a b n : Int} {rs : List Row3} {x rest step drop far lack : Int} (h : FI m a b n rs x rest step drop far lack) (no : ∀ s v, 0 < s → s ≤ n - x → 1 ≤ v → v ≤ rest → ¬ b ∣ m * s + v) : FF m a b n rs x :=
  ⟨h.x0, h.xn, h.ch, h.hd, h.la, h.rc, h.dn, h.rw, by rw [← h.re]; exact no, h.ln⟩
theorem FI.end_lack {m a b n : Int} {rs : List Row3} {x rest step drop far lack : Int} (h : FI m a b n rs x rest step drop far lack) (hr : rest < drop) (hl : lack % drop = 0) : FF m a b n rs x := h.fin fun _ _ _ _ v1 v2 => h.eu.none hr hl v1 v2
theorem FI.end_times {m a b n : Int} {rs : List Row3} {x rest step drop far lack : Int} (h : FI m a b n rs x rest step drop far lack) (d1 : 0 < drop) (hr : drop ≤ rest) (t0 : min (rest / drop) ((n - x) / step) = 0) : FF m a b n rs x := by
  have q1 : 1 ≤ rest / drop := Int.le_ediv_of_mul_le d1 (by lia)
  have s1 := h.eu.s1
  have q5 := Int.lt_ediv_add_one_mul_self (n - x) (show 0 < step by lia)
  rw [show (n - x) / step = 0 by lia] at q5
  exact h.fin fun s v a b c d => h.eu.mn s v a (by lia) c d
theorem FI.end_loop {m a b n : Int} {rs : List Row3} {x rest step drop far lack : Int} (h : FI m a b n rs x rest step drop far lack) (b0 : 0 < b) (hc : ¬ (0 < drop ∧ 0 < rest)) : FF m a b n rs x := by
  refine h.fin fun s v s0 s1 v1 v2 hd => ?_
  have rg := Rs_rg (m := m) (a := a) (b := b) (x := x) b0
  have re := h.re
  have d0 := h.eu.d0
  have dz : drop = 0 := by lia
  have := (h.eu.ratio (by lia) s0 v1 v2 hd).1
  rw [dz, Int.zero_mul] at this
  have : 1 * 1 ≤ v * step := Int.mul_le_mul v1 h.eu.s1 (by lia) (by lia)
  lia
theorem Ch.mirror {g : Int → Int} {n : Int} {Q : List Int} (h : Ch (fun z => g (n - z)) Q) : Ch g ((Q.map fun z => n - z).reverse) := by
  have L : (Q.map fun z => n - z).length = Q.length := List.length_map _
  have get : ∀ (i : Nat) (u : Int), ((Q.map fun z => n - z).reverse)[i]? = some u → i < Q.length ∧ Q[Q.length - 1 - i]? = some (n - u) := fun i u e => by
    have hi := (List.getElem?_eq_some_iff.mp e).1
    rw [List.length_reverse, L] at hi
    rw [List.getElem?_reverse (by lia), L, List.getElem?_map] at e
    cases c : Q[Q.length - 1 - i]? with
    | none => rw [c] at e; cases e
    | some v =>
      rw [c] at e
      have : n - v = u := Option.some.inj e
      exact ⟨hi, by rw [← this]; congr 1; lia⟩
  refine ⟨fun i u v e1 e2 => ?_, fun i u v w e1 e2 e3 => ?_⟩
  · obtain ⟨h1, a1⟩ := get _ _ e1
    obtain ⟨h2, a2⟩ := get _ _ e2
    have k := h.inc (Q.length - 1 - (i + 1)) (n - v) (n - u) a2 (by rw [show Q.length - 1 - (i + 1) + 1 = Q.length - 1 - i by lia]; exact a1)
    refine ⟨by lia, fun x x1 x2 => ?_⟩
    have := k.2 (n - x) (by lia) (by lia)
    unfold OnG at this ⊢
    simp only [show ∀ y : Int, n - (n - y) = y from fun y => by lia] at this
    grind
  · obtain ⟨h1, a1⟩ := get _ _ e1
    obtain ⟨h2, a2⟩ := get _ _ e2
    obtain ⟨h3, a3⟩ := get _ _ e3
    have := h.bnd (Q.length - 1 - (i + 2)) (n - w) (n - v) (n - u) a3 (by rw [show Q.length - 1 - (i + 2) + 1 = Q.length - 1 - (i + 1) by lia]; exact a2) (by rw [show Q.length - 1 - (i + 2) + 2 = Q.length - 1 - i by lia]; exact a1)
    unfold Bnd at this ⊢
    simp only [show ∀ y : Int, n - (n - y) = y from fun y => by lia] at this
    grind
theorem Ch.join {g : Int → Int} : ∀ (B A : List Int) (u v : Int), Ch g (A ++ [u, v]) → Ch g (v :: B) → (∀ w B', B = w :: B' → Bnd g u v w) → Ch g (A ++ [u] ++ (v :: B))
  | [], A, u, v, h, _, _ => by simpa using h
  | w :: B, A, u, v, h, c, hb => by
    have i := c.inc 0 v w rfl rfl
    have h' : Ch g ((A ++ [u]) ++ [v]) := by simpa using h
    have s := h'.snoc i.1 i.2 (fun B' t e => by
      have := List.append_inj_right' e rfl
      simp at this
      subst this
      exact hb w B rfl)
    have := Ch.join B (A ++ [u]) v w (by simpa using s) c.tail (fun x B' e => by subst e; exact c.bnd 0 v w x rfl rfl rfl)
    simpa using this
theorem Rs_mir (m a b n z : Int) : Rs (-m) (m * n + a) b z = Rs m a b (n - z) := by
  unfold Rs
  congr 1
  grind
def crn (n : Int) (rs qs : List Row3) : List Int := if (plcs rs).getLast? = ((plcs qs).map fun z => n - z).getLast? then plcs rs ++ ((plcs qs).map fun z => n - z).reverse.tail else plcs rs ++ ((plcs qs).map fun z => n - z).reverse
theorem crn_ch {m a b n : Int} {rs qs : List Row3} {xl xr : Int} (b0 : 0 < b) (hl : FF m a b n rs xl) (hr : FF (-m) (m * n + a) b n qs xr) :
    Ch (Rs m a b) (crn n rs qs) ∧ (crn n rs qs)[0]? = some 0 ∧ (crn n rs qs).getLast? = some n ∧ ∀ z, z ∈ crn n rs qs ↔ z ∈ plcs rs ∨ z ∈ (plcs qs).map fun z => n - z := by
  have fe : Rs (-m) (m * n + a) b = fun z => Rs m a b (n - z) := funext fun z => Rs_mir m a b n z
  have c1 := hl.ch
  have c2 : Ch (Rs m a b) (((plcs qs).map fun z => n - z).reverse) := Ch.mirror (by have := hr.ch; rw [fe] at this; exact this)
  obtain ⟨A, hA⟩ := last_split hl.la
  obtain ⟨A2, hA2⟩ := last_split hr.la
  have eR : ((plcs qs).map fun z => n - z).reverse = (n - xr) :: (A2.map fun z => n - z).reverse := by rw [hA2]; simp
  have eG : ((plcs qs).map fun z => n - z).getLast? = some (n - xr) := by rw [hA2]; simp
  have m1 := hl.low b0
  have m2 : ∀ z, 0 ≤ z → z ≤ n → Rs m a b (n - xr) ≤ Rs m a b z := fun z z0 z1 => by
    have := hr.low b0 (n - z) (by lia) (by lia)
    rw [Rs_mir, Rs_mir, show n - (n - z) = z by lia] at this
    exact this
  have x1 := hl.x0
  have x2 := hl.xn
  have x3 := hr.x0
  have x4 := hr.xn
  have eq : Rs m a b xl = Rs m a b (n - xr) := Int.le_antisymm (m1 _ (by lia) (by lia)) (m2 _ x1 x2)
  have le : xl ≤ n - xr := Classical.byContradiction fun z => by
    have := hl.rc (n - xr) (by lia) (by lia)
    lia
  have lst : (((plcs qs).map fun z => n - z).reverse).getLast? = some n := by
    rw [List.getLast?_reverse, List.head?_map, List.head?_eq_getElem?, hr.hd]
    simp
  rw [eR] at lst c2
  generalize hB : (A2.map fun z => n - z).reverse = B at eR lst c2
  have up : ∀ w B', B = w :: B' → n - xr < w ∧ Rs m a b (n - xr) < Rs m a b w := fun w B' e => by
    rw [e] at hB eR
    have g : (((plcs qs).map fun z => n - z).reverse)[1]? = some w := by rw [eR]; rfl
    have gl := (List.getElem?_eq_some_iff.mp g).1
    rw [List.length_reverse, List.length_map] at gl
    rw [List.getElem?_reverse (by rw [List.length_map]; exact gl), List.length_map, List.getElem?_map] at g
    have la := hr.la
    rw [List.getLast?_eq_getElem?] at la
    cases c : (plcs qs)[(plcs qs).length - 1 - 1]? with
    | none => rw [c] at g; cases g
    | some v =>
      rw [c] at g
      have g : n - v = w := Option.some.inj g
      have d := hr.dn ((plcs qs).length - 1 - 1) v xr c (by rw [show (plcs qs).length - 1 - 1 + 1 = (plcs qs).length - 1 by lia]; exact la)
      have i := (hr.ch.inc ((plcs qs).length - 1 - 1) v xr c (by rw [show (plcs qs).length - 1 - 1 + 1 = (plcs qs).length - 1 by lia]; exact la)).1
      rw [Rs_mir, Rs_mir, g] at d
      exact ⟨by lia, d⟩
  have dn : ∀ A' t, A = A' ++ [t] → t < xl ∧ Rs m a b xl < Rs m a b t := fun A' t e => by
    have g1 : (plcs rs)[A'.length]? = some t := by rw [hA, e]; simp
    have g2 : (plcs rs)[A'.length + 1]? = some xl := by rw [hA, e]; simp
    exact ⟨(hl.ch.inc _ _ _ g1 g2).1, hl.dn _ _ _ g1 g2⟩
  have mem : ∀ z, z ∈ ((plcs qs).map fun z => n - z) ↔ z = n - xr ∨ z ∈ B := fun z => by rw [← List.mem_reverse, eR, List.mem_cons]
  by_cases c : xl = n - xr
  · have e : crn n rs qs = A ++ [xl] ++ B := by
      unfold crn
      rw [hl.la, eG, if_pos (by rw [c]), eR, List.tail_cons, hA]
    rw [← c] at c2 lst
    refine ⟨?_, ?_, ?_, fun z => ?_⟩
    · rw [e]
      rw [hA] at c1
      cases hAA : A.getLast? with
      | none =>
        have : A = [] := by simpa using hAA
        subst this
        exact c2
      | some t =>
        obtain ⟨A', e'⟩ := last_split hAA
        obtain ⟨d1, d2⟩ := dn A' t e'
        rw [e'] at c1 ⊢
        have := Ch.join B A' t xl (by simpa using c1) c2 (fun w B' ee => by
          obtain ⟨u1, u2⟩ := up w B' ee
          unfold Bnd
          have k1 : (Rs m a b t - Rs m a b xl) * (w - xl) > 0 := Int.mul_pos (by lia) (by lia)
          have k2 : (xl - t) * (Rs m a b w - Rs m a b xl) > 0 := Int.mul_pos (by lia) (by lia)
          grind)
        simpa using this
    · rw [e, ← hA, List.getElem?_append_left (by rw [plcs_len]; lia)]; exact hl.hd
    · rw [e, List.append_assoc, List.singleton_append, List.getLast?_append, lst]; rfl
    · rw [mem, e, hA, List.mem_append, ← c]
      constructor
      · rintro (h | h)
        · exact .inl h
        · exact .inr (.inr h)
      · rintro (h | h | h)
        · exact .inl h
        · exact .inl (by rw [h]; simp)
        · exact .inr h
  · have e : crn n rs qs = A ++ [xl] ++ ((n - xr) :: B) := by
      unfold crn
      rw [hl.la, eG, if_neg (fun z => c (Option.some.inj z)), eR, hA]
    refine ⟨?_, ?_, ?_, fun z => ?_⟩
    · rw [e]
      rw [hA] at c1
      have s := c1.snoc (p := n - xr) (by lia) (fun x h1 h2 => by
        unfold OnG
        rw [← eq, Int.sub_self, Int.zero_mul]
        exact Int.mul_nonneg (by have := m1 x (by lia) (by lia); lia) (by lia)) (fun A' t e' => by
          obtain ⟨d1, d2⟩ := dn A' t e'
          unfold Bnd
          rw [← eq]
          have k : (Rs m a b t - Rs m a b xl) * (n - xr - xl) > 0 := Int.mul_pos (by lia) (by lia)
          grind)
      exact Ch.join B A xl (n - xr) (by simpa using s) c2 (fun w B' ee => by
          obtain ⟨u1, u2⟩ := up w B' ee
          unfold Bnd
          rw [← eq, Int.sub_self, Int.zero_mul]
          exact Int.mul_pos (by lia) (by lia))
    · rw [e, ← hA, List.getElem?_append_left (by rw [plcs_len]; lia)]; exact hl.hd
    · rw [e, List.getLast?_append, lst]; rfl
    · rw [mem, e, hA, List.mem_append, List.mem_cons]
theorem sorted_unique : ∀ (K L : List Int), K.Pairwise (· < ·) → L.Pairwise (· < ·) → (∀ x, x ∈ K ↔ x ∈ L) → K = L
  | [], [], _, _, _ => rfl
  | [], l :: L, _, _, h => absurd ((h l).mpr (List.mem_cons_self ..)) (by simp)
  | k :: K, [], _, _, h => absurd ((h k).mp (List.mem_cons_self ..)) (by simp)
  | k :: K, l :: L, hk, hl, h => by
    obtain ⟨k1, k2⟩ := List.pairwise_cons.mp hk
    obtain ⟨l1, l2⟩ := List.pairwise_cons.mp hl
    have e : k = l := by
      have a := (h k).mp (List.mem_cons_self ..)
      have b := (h l).mpr (List.mem_cons_self ..)
      rcases List.mem_cons.mp a with a | a
      · exact a
      · rcases List.mem_cons.mp b with b | b
        · exact b.symm
        · have := k1 l b
          have := l1 k a
          lia
    subst e
    rw [sorted_unique K L k2 l2 fun x => ⟨fun hx => ?_, fun hx => ?_⟩]
    · rcases List.mem_cons.mp ((h x).mp (List.mem_cons_of_mem _ hx)) with z | z
      · have := k1 x hx; lia
      · exact z
    · rcases List.mem_cons.mp ((h x).mpr (List.mem_cons_of_mem _ hx)) with z | z
      · have := l1 x hx; lia
      · exact z
theorem Ch.rising {g : Int → Int} : ∀ (K : List Int), Ch g K → K.Pairwise (· < ·)
  | [], _ => List.Pairwise.nil
  | [u], _ => by simp
  | u :: v :: K, h => by
    have r := Ch.rising (v :: K) h.tail
    refine List.pairwise_cons.mpr ⟨fun x hx => ?_, r⟩
    have uv := (h.inc 0 u v rfl rfl).1
    rcases List.mem_cons.mp hx with z | z
    · lia
    · have := (List.pairwise_cons.mp r).1 x z; lia
def PLg {α : Type} (R : Hp → Addr → α → Prop) (H : Hp) (ps : List Addr) (xs : List α) : Prop := ps.length = xs.length ∧ ∀ (i : Nat) p x, ps[i]? = some p → xs[i]? = some x → R H p x
def TRg {α : Type} (f : α → List V) (H : Hp) (p : Addr) (x : α) : Prop := H p = some (.tup (f x))
theorem PLg.mono {α : Type} {R : Hp → Addr → α → Prop} {H H' : Hp} {ps : List Addr} {xs : List α} (h : PLg R H ps xs) (f : ∀ p x, R H p x → R H' p x) : PLg R H' ps xs := ⟨h.1, fun i p x a b => f _ _ (h.2 i p x a b)⟩
theorem PLg.nil {α : Type} {R : Hp → Addr → α → Prop} {H : Hp} : PLg R H [] [] := ⟨rfl, fun i p x a b => by simp at a⟩
theorem PLg.snoc {α : Type} {R : Hp → Addr → α → Prop} {H : Hp} {ps : List Addr} {xs : List α} {p : Addr} {x : α} (h : PLg R H ps xs) (g : R H p x) : PLg R H (ps ++ [p]) (xs ++ [x]) := by
  refine ⟨by rw [List.length_append, List.length_append, h.1]; rfl, fun i q y a b => ?_⟩
  by_cases hi : i < ps.length
  · rw [List.getElem?_append_left hi] at a
    rw [List.getElem?_append_left (by rw [← h.1]; exact hi)] at b
    exact h.2 i q y a b
  · have l := (List.getElem?_eq_some_iff.mp a).1
    rw [List.length_append, List.length_singleton] at l
    have e : i = ps.length := by lia
    subst e
    rw [List.getElem?_append_right (Nat.le_refl _), Nat.sub_self] at a
    rw [List.getElem?_append_right (by rw [h.1]; exact Nat.le_refl _), h.1, Nat.sub_self] at b
    cases a
    cases b
    exact g
theorem PLg.get {α : Type} {R : Hp → Addr → α → Prop} {H : Hp} {ps : List Addr} {xs : List α} (h : PLg R H ps xs) {i : Nat} {x : α} (e : xs[i]? = some x) : ∃ p, ps[i]? = some p ∧ R H p x := by
  have l := (List.getElem?_eq_some_iff.mp e).1
  have q : ps[i]? = some (ps[i]'(by rw [h.1]; exact l)) := List.getElem?_eq_getElem _
  exact ⟨_, q, h.2 i _ x q e⟩
theorem PLg.get' {α : Type} {R : Hp → Addr → α → Prop} {H : Hp} {ps : List Addr} {xs : List α} (h : PLg R H ps xs) {i : Nat} {p : Addr} (e : ps[i]? = some p) : ∃ x, xs[i]? = some x ∧ R H p x := by
  have l := (List.getElem?_eq_some_iff.mp e).1
  have q : xs[i]? = some (xs[i]'(by rw [← h.1]; exact l)) := List.getElem?_eq_getElem _
  exact ⟨_, q, h.2 i p _ e q⟩
theorem PLg.same {α : Type} {f : α → List V} {H H' : Hp} {ps : List Addr} {xs : List α} (h : PLg (TRg f) H ps xs) (s : Same H H') : PLg (TRg f) H' ps xs := h.mono fun _ _ q => s _ _ q
theorem PLg.updT {α : Type} {f : α → List V} {H : Hp} {l : Addr} {zs ys : List V} {ps : List Addr} {xs : List α} (h : PLg (TRg f) H ps xs) (e : H l = some (.lst zs)) : PLg (TRg f) (upd H l (.lst ys)) ps xs :=
  h.mono fun p x q => by
    show upd H l _ p = _
    rw [upd_ne (fun z => by unfold TRg at q; rw [z, e] at q; cases q)]
    exact q
def ALg {α : Type} (f : α → List V) (H : Hp) (a : Addr) (xs : List α) : Prop := ∃ ps : List Addr, H a = some (.lst (ps.map V.ref)) ∧ PLg (TRg f) H ps xs
theorem ALg.same {α : Type} {f : α → List V} {H H' : Hp} {a : Addr} {xs : List α} (h : ALg f H a xs) (s : Same H H') : ALg f H' a xs := let ⟨ps, e, q⟩ := h; ⟨ps, s _ _ e, q.same s⟩
theorem Same.updL {H H' : Hp} {l : Addr} {o : HO} (s : Same H H') (hl : H l = none) : Same H (upd H' l o) := fun b u e => by rw [upd_ne (ne_of_none e hl)]; exact s b u e
theorem Same.none {H H' : Hp} (s : Same H H') {l : Addr} (h : H' l = none) : H l = none := by
  cases e : H l with
  | none => rfl
  | some o => rw [s _ _ e] at h; cases h
theorem ALg.app {α : Type} {f : α → List V} {H2 : Hp} {l r : Addr} {ps : List Addr} {xs : List α} (h : PLg (TRg f) H2 ps xs) (hp : H2 l = some (.lst (ps.map V.ref))) (hr : H2 r = none) (x : α) : ALg f (upd (upd H2 r (.tup (f x))) l (.lst (ps.map V.ref ++ [.ref r]))) l (xs ++ [x]) := by
  have sM := same_new hr (.tup (f x))
  refine ⟨ps ++ [r], by rw [upd_same, List.map_append]; rfl, ?_⟩
  have fx : TRg f (upd H2 r (.tup (f x))) r x := upd_same
  exact ((h.same sM).snoc fx).updT (sM _ _ hp)
def i3 (r : Row3) : List V := [.int r.1, .int r.2.1, .int r.2.2]
def i2 (r : Int × Int) : List V := [.int r.1, .int r.2]
structure LnOk (n m a b : Int) : Prop where
  n0 : 0 ≤ n
  n1 : n ≤ 1099511627776
  m0 : -99999999999999999999 ≤ m
  m1 : m ≤ 99999999999999999999
  a0 : -99999999999999999999 ≤ a
  a1 : a ≤ 99999999999999999999
  b0 : 1 ≤ b
  b1 : b ≤ 99999999999999999999
def hgt (m a b x : Int) : Int := (m * x + a) / b
def spShort : Sp := fun vs H Q _ => ∃ i : Int, vs = [.int i] ∧ -99999999999999999999 ≤ i ∧ i ≤ 99999999999999999999 ∧ Q (.bl true) H
def spNeedL : Sp := fun vs H Q _ => ∃ n m a b : Int, vs = [.int n, .int m, .int a, .int b] ∧ LnOk n m a b ∧ Q .non H
structure LnB (n m a b : Int) : Prop where
  n0 : 0 ≤ n
  n1 : n ≤ 1099511627776
  m0 : -2 ^ 150 ≤ m
  m1 : m ≤ 2 ^ 150
  a0 : -2 ^ 150 ≤ a
  a1 : a ≤ 2 ^ 150
  b0 : 1 ≤ b
  b1 : b ≤ 99999999999999999999
def spFall : Sp := fun vs H Q _ => ∃ n m a b : Int, vs = [.int n, .int m, .int a, .int b] ∧ LnB n m a b ∧ ∀ l rs xl H', H l = none → ALg i3 H' l rs → FF m a b n rs xl → Same H H' → Q (.ref l) H'
def spPlc : Sp := fun vs H Q _ => ∃ n m a b : Int, vs = [.int n, .int m, .int a, .int b] ∧ LnB n m a b ∧ ∀ l rs xl H', H l = none → H' l = some (.lst ((plcs rs).map V.int)) → FF m a b n rs xl → Same H H' → Q (.ref l) H'
def Crn (m a b n : Int) (zs : List Int) : Prop := Ch (Rs m a b) zs ∧ zs[0]? = some 0 ∧ zs.getLast? = some n ∧ zs.length ≤ 140
structure LnC (n m a b : Int) : Prop where
  n0 : 0 ≤ n
  n1 : n ≤ 1099511627776
  m0 : -2 ^ 100 ≤ m
  m1 : m ≤ 2 ^ 100
  a0 : -2 ^ 140 ≤ a
  a1 : a ≤ 2 ^ 140
  b0 : 1 ≤ b
  b1 : b ≤ 1048576
def spCrn : Sp := fun vs H Q _ => ∃ n m a b : Int, vs = [.int n, .int m, .int a, .int b] ∧ LnC n m a b ∧ ∀ l zs H', H l = none → ALg i2 H' l (zs.map fun x => (x, hgt m a b x)) → Crn m a b n zs → Same H H' → Q (.ref l) H'
theorem mbd {m n B C : Int} (h1 : -B ≤ m) (h2 : m ≤ B) (n0 : 0 ≤ n) (n1 : n ≤ C) : -(B * C) ≤ m * n ∧ m * n ≤ B * C := by
  have b0 : 0 ≤ B := by lia
  have k1 : B * n ≤ B * C := Int.mul_le_mul_of_nonneg_left n1 b0
  have k2 : m * n ≤ B * n := Int.mul_le_mul_of_nonneg_right h2 n0
  have k3 : (-B) * n ≤ m * n := Int.mul_le_mul_of_nonneg_right h1 n0
  rw [Int.neg_mul] at k3
  lia
theorem FF.pos {m a b n : Int} {rs : List Row3} {x : Int} (h : FF m a b n rs x) : ∀ u ∈ plcs rs, 0 ≤ u ∧ u ≤ n := fun u hu => by
  have r := Ch.rising _ h.ch
  obtain ⟨A, hA⟩ := last_split h.la
  have hd := h.hd
  have xn := h.xn
  constructor
  · cases e : plcs rs with
    | nil => rw [e] at hd; cases hd
    | cons z t =>
      rw [e] at hd hu r
      cases hd
      rcases List.mem_cons.mp hu with w | w
      · lia
      · exact Int.le_of_lt ((List.pairwise_cons.mp r).1 u w)
  · rw [hA] at hu r
    rcases List.mem_append.mp hu with w | w
    · have := (List.pairwise_append.mp r).2.2 u w x (List.mem_singleton.mpr rfl)
      lia
    · rw [List.mem_singleton.mp w]; exact xn
theorem FF.row {m a b n : Int} {rs : List Row3} {x : Int} (h : FF m a b n rs x) {i : Nat} {r : Row3} (e : rs[i]? = some r) : 1 ≤ r.1 ∧ r.1 ≤ n ∧ 1 ≤ r.2.2 ∧ r.2.2 ≤ n := by
  have l := (List.getElem?_eq_some_iff.mp e).1
  have L := plcs_len rs
  obtain ⟨u, hu⟩ : ∃ u, (plcs rs)[i]? = some u := ⟨_, List.getElem?_eq_getElem (by lia)⟩
  have o := h.rw i r u e hu
  have u0 := (h.pos u (List.mem_of_getElem? hu)).1
  have s1 := o.s1
  have t1 := o.t1
  have un := (h.pos _ (List.mem_of_getElem? o.nx)).2
  have k1 : r.1 * 1 ≤ r.1 * r.2.2 := Int.mul_le_mul_of_nonneg_left t1 (by lia)
  have k2 : 1 * r.2.2 ≤ r.1 * r.2.2 := Int.mul_le_mul_of_nonneg_right s1 (by lia)
  lia
theorem FF.len {m a b n : Int} {rs : List Row3} {x : Int} (h : FF m a b n rs x) (hb : b ≤ 1048576) : rs.length ≤ 20 := Classical.byContradiction fun z => by
  have k := h.ln (rs.length - 1) (by lia)
  have k2 : (2 : Int) ^ 20 ≤ 2 ^ (rs.length - 1) := p_mono (by lia)
  lia
theorem FF.lenB {m a b n : Int} {rs : List Row3} {x : Int} (h : FF m a b n rs x) (hb : b ≤ 2 ^ 67) : rs.length ≤ 67 := Classical.byContradiction fun z => by
  have k := h.ln (rs.length - 1) (by lia)
  have k2 : (2 : Int) ^ 67 ≤ 2 ^ (rs.length - 1) := p_mono (by lia)
  lia
theorem hg_rs (m a b x : Int) : Rs m a b x = m * x + a - b * hgt m a b x := by
  unfold Rs hgt
  have := Int.mul_ediv_add_emod (m * x + a) b
  lia
theorem chord {m a b : Int} (b0 : 0 < b) {u x v : Int} (h : OnG (Rs m a b) u x v) : (hgt m a b x - hgt m a b u) * (v - u) ≤ (hgt m a b v - hgt m a b u) * (x - u) := by
  unfold OnG at h
  rw [hg_rs m a b u, hg_rs m a b v, hg_rs m a b x] at h
  have : ((hgt m a b x - hgt m a b u) * (v - u)) * b ≤ ((hgt m a b v - hgt m a b u) * (x - u)) * b := by grind
  exact Int.le_of_mul_le_mul_right this b0
theorem bend {m a b : Int} (b0 : 0 < b) {u v w : Int} (h : Bnd (Rs m a b) u v w) : (hgt m a b w - hgt m a b v) * (v - u) < (hgt m a b v - hgt m a b u) * (w - v) := by
  unfold Bnd at h
  rw [hg_rs m a b u, hg_rs m a b v, hg_rs m a b w] at h
  have : ((hgt m a b w - hgt m a b v) * (v - u)) * b < ((hgt m a b v - hgt m a b u) * (w - v)) * b := by grind
  exact Int.lt_of_mul_lt_mul_right this (by lia)
structure Sd where
  (x y g e k s t : Int)
structure SdOk (x0 y0 x1 y1 : Int) (d : Sd) : Prop where
  x : d.x = x0
  y : d.y = y0
  g1 : 1 ≤ d.g
  e1 : 1 ≤ d.e
  nx : d.x + d.g * d.e = x1
  ny : d.y + d.g * d.k = y1
  det : d.e * d.t - d.k * d.s = 1
  s0 : 0 ≤ d.s
  s1 : d.s < d.e
theorem SdOk.span {x0 y0 x1 y1 : Int} {d : Sd} (h : SdOk x0 y0 x1 y1 d) : d.e ≤ d.g * d.e ∧ 0 ≤ (d.g - 1) * d.e ∧ (d.g - 1) * d.e + d.e = d.g * d.e := by
  have g1 := h.g1
  have e1 := h.e1
  have : 0 ≤ (d.g - 1) * d.e := Int.mul_nonneg (by lia) (by lia)
  have e : (d.g - 1) * d.e = d.g * d.e - d.e := by rw [Int.sub_mul]; lia
  lia
theorem SdOk.above {m a b : Int} (b0 : 0 < b) {u v : Int} {d : Sd} (h : SdOk u (hgt m a b u) v (hgt m a b v) d) (on : ∀ x, u < x → x < v → OnG (Rs m a b) u x v) {j : Int} (j0 : 0 ≤ j) (j1 : j ≤ d.g - 1) : hgt m a b (d.x + d.s + j * d.e) < d.y + d.t + j * d.k := by
  obtain ⟨hx, hy, g1, e1, nx, ny, det, s0, s1⟩ := h
  have je : 0 ≤ j * d.e := Int.mul_nonneg j0 (by lia)
  have je2 : j * d.e ≤ (d.g - 1) * d.e := Int.mul_le_mul_of_nonneg_right j1 (by lia)
  rw [Int.sub_mul] at je2
  refine Classical.byContradiction fun z => ?_
  have key : (hgt m a b (d.x + d.s + j * d.e) - hgt m a b u) * (v - u) ≤ (hgt m a b v - hgt m a b u) * (d.x + d.s + j * d.e - u) := by
    by_cases c : d.x + d.s + j * d.e = u
    · rw [c, Int.sub_self, Int.sub_self, Int.zero_mul, Int.mul_zero]; exact Int.le_refl _
    · exact chord b0 (on _ (by lia) (by lia))
  have e1' : v - u = d.g * d.e := by lia
  have e2 : hgt m a b v - hgt m a b u = d.g * d.k := by lia
  have e3 : d.x + d.s + j * d.e - u = d.s + j * d.e := by lia
  rw [e1', e2, e3] at key
  have k2 : (hgt m a b (d.x + d.s + j * d.e) - hgt m a b u) * d.e ≤ d.k * (d.s + j * d.e) := by
    have : ((hgt m a b (d.x + d.s + j * d.e) - hgt m a b u) * d.e) * d.g ≤ (d.k * (d.s + j * d.e)) * d.g := by grind
    exact Int.le_of_mul_le_mul_right this (by lia)
  have k3 : (d.t + j * d.k) * d.e ≤ (hgt m a b (d.x + d.s + j * d.e) - hgt m a b u) * d.e := Int.mul_le_mul_of_nonneg_right (by lia) (by lia)
  have : (d.t + j * d.k) * d.e = d.k * (d.s + j * d.e) + 1 := by grind
  lia
theorem SdOk.bend {m a b : Int} (b0 : 0 < b) {u v w : Int} {d d' : Sd} (h : SdOk u (hgt m a b u) v (hgt m a b v) d) (h' : SdOk v (hgt m a b v) w (hgt m a b w) d') (hb : Bnd (Rs m a b) u v w) : d'.k * d.e < d'.e * d.k := by
  have c := Ow.bend b0 hb
  obtain ⟨hx, hy, g1, e1, nx, ny, _, _, _⟩ := h
  obtain ⟨hx', hy', g1', e1', nx', ny', _, _, _⟩ := h'
  rw [show hgt m a b w - hgt m a b v = d'.g * d'.k by lia, show v - u = d.g * d.e by lia, show hgt m a b v - hgt m a b u = d.g * d.k by lia, show w - v = d'.g * d'.e by lia] at c
  have p : 0 < d.g * d'.g := Int.mul_pos (by lia) (by lia)
  have : (d'.k * d.e) * (d.g * d'.g) < (d'.e * d.k) * (d.g * d'.g) := by grind
  exact Int.lt_of_mul_lt_mul_right this (by lia)
structure Ivs (N B rest later wo lw : Int) : Prop where
  r0 : 0 ≤ rest
  l0 : 0 ≤ later
  rB : rest ≤ B
  lB : later ≤ B
  c1 : B ∣ N * wo - rest
  c2 : B ∣ N * lw - later
  g : Int.gcd rest later = Int.gcd N B
  w0 : -B ≤ wo
  w1 : wo ≤ B
  v0 : -B ≤ lw
  v1 : lw ≤ B
  bd : later * (wo.natAbs : Int) + rest * (lw.natAbs : Int) ≤ B
theorem gcd_mod (N B : Int) : Int.gcd (N % B) B = Int.gcd N B := by
  have e := Int.mul_ediv_add_emod N B
  have := Int.gcd_add_mul_left_left B (N % B) (N / B)
  rw [← this]
  congr 1
  lia
theorem Ivs.start {N B : Int} (B1 : 1 ≤ B) : Ivs N B (N % B) B 1 0 := by
  have a1 := Int.emod_nonneg N (show B ≠ 0 by lia)
  have a2 := Int.emod_lt_of_pos N (show 0 < B by lia)
  refine ⟨a1, by lia, by lia, by lia, ?_, ⟨-1, by lia⟩, gcd_mod N B, by lia, by lia, by lia, by lia, by simp⟩
  have := Int.mul_ediv_add_emod N B
  exact ⟨N / B, by lia⟩
theorem Ivs.next {N B rest later wo lw : Int} (h : Ivs N B rest later wo lw) (l1 : later ≠ 0) : Ivs N B later (rest - rest / later * later) lw (wo - rest / later * lw) ∧ rest - rest / later * later < later := by
  obtain ⟨r0, l0, rB, lB, c1, c2, g, w0, w1, v0, v1, bd⟩ := h
  have e := Int.mul_ediv_add_emod rest later
  have t0 := Int.emod_nonneg rest l1
  have t1 := Int.emod_lt_of_pos rest (show 0 < later by lia)
  have q0 : 0 ≤ rest / later := Int.ediv_nonneg r0 l0
  have e2 : rest - rest / later * later = rest % later := by rw [Int.mul_comm (rest / later)]; lia
  rw [e2]
  have G : Int.gcd later (rest % later) = Int.gcd N B := by rw [← g, Int.gcd_comm, gcd_mod]
  generalize rest / later = q at *
  generalize rest % later = t at *
  have nn : ((wo - q * lw).natAbs : Int) ≤ (wo.natAbs : Int) + q * (lw.natAbs : Int) := by
    have h1 : (q * lw).natAbs = q.natAbs * lw.natAbs := Int.natAbs_mul ..
    have h2 : ((q * lw).natAbs : Int) = q * (lw.natAbs : Int) := by rw [h1, Int.natCast_mul]; congr 1; lia
    lia
  have bd' : t * (lw.natAbs : Int) + later * ((wo - q * lw).natAbs : Int) ≤ B := by
    have k1 : later * ((wo - q * lw).natAbs : Int) ≤ later * ((wo.natAbs : Int) + q * (lw.natAbs : Int)) := Int.mul_le_mul_of_nonneg_left nn l0
    have k2 : rest * (lw.natAbs : Int) = (later * q + t) * (lw.natAbs : Int) := by rw [e]
    grind
  have nb : ((wo - q * lw).natAbs : Int) ≤ B := by
    have k1 : 1 * ((wo - q * lw).natAbs : Int) ≤ later * ((wo - q * lw).natAbs : Int) := Int.mul_le_mul_of_nonneg_right (by lia) (by lia)
    have k2 : 0 ≤ t * (lw.natAbs : Int) := Int.mul_nonneg t0 (by lia)
    lia
  refine ⟨⟨l0, t0, lB, by lia, c2, ?_, G, v0, v1, by lia, by lia, bd'⟩, t1⟩
  have : N * (wo - q * lw) - t = (N * wo - rest) - (N * lw - later) * q := by rw [← e]; grind
  rw [this]
  exact Int.dvd_sub c1 (Int.dvd_mul_of_dvd_left c2)
theorem Ivs.done {N B rest wo lw : Int} (h : Ivs N B rest 0 wo lw) (hg : Int.gcd N B = 1) : B ∣ N * (wo % B) - 1 := by
  have g := h.g
  rw [hg, Int.gcd_zero_right] at g
  have r0 := h.r0
  have r1 : rest = 1 := by lia
  have c1 := h.c1
  rw [r1] at c1
  have e := Int.mul_ediv_add_emod wo B
  have : N * (wo % B) - 1 = (N * wo - 1) - B * (N * (wo / B)) := by
    have : wo % B = wo - B * (wo / B) := by lia
    rw [this]; grind
  rw [this]
  exact Int.dvd_sub c1 ⟨_, rfl⟩
theorem side_pre {x0 y0 x1 y1 : Int} (hx : x0 < x1) {g : Int} (eg : g = ((Int.gcd (x1 - x0) ((y1 - y0).natAbs : Int) : Nat) : Int)) :
    1 ≤ g ∧ g ≤ x1 - x0 ∧ 1 ≤ (x1 - x0) / g ∧ (x1 - x0) / g ≤ x1 - x0 ∧ -((y1 - y0).natAbs : Int) ≤ (y1 - y0) / g ∧ (y1 - y0) / g ≤ ((y1 - y0).natAbs : Int) ∧ Int.gcd ((y1 - y0) / g) ((x1 - x0) / g) = 1 ∧ g * ((x1 - x0) / g) = x1 - x0 ∧ g * ((y1 - y0) / g) = y1 - y0 := by
  have ab : Int.gcd (x1 - x0) ((y1 - y0).natAbs : Int) = Int.gcd (x1 - x0) (y1 - y0) := by unfold Int.gcd; rw [Int.natAbs_natCast]
  have gp : 0 < Int.gcd (x1 - x0) (y1 - y0) := Int.gcd_pos_of_ne_zero_left _ (by lia)
  have g1 : 1 ≤ g := by rw [eg, ab]; lia
  have d1 : g ∣ x1 - x0 := by rw [eg, ab]; exact Int.gcd_dvd_left ..
  have d2 : g ∣ y1 - y0 := by rw [eg, ab]; exact Int.gcd_dvd_right ..
  have co : Int.gcd ((y1 - y0) / g) ((x1 - x0) / g) = 1 := by
    rw [Int.gcd_comm, eg, ab]
    exact Int.gcd_ediv_gcd_ediv_gcd gp
  have gl := Int.le_of_dvd (by lia) d1
  obtain ⟨e, he⟩ := d1
  obtain ⟨k, hk⟩ := d2
  have q1 : (x1 - x0) / g = e := by rw [he]; exact Int.mul_ediv_cancel_left _ (by lia)
  have q2 : (y1 - y0) / g = k := by rw [hk]; exact Int.mul_ediv_cancel_left _ (by lia)
  rw [q1, q2] at co ⊢
  have e1 : 1 ≤ e := Classical.byContradiction fun z => by
    have : g * e ≤ g * 0 := Int.mul_le_mul_of_nonneg_left (by lia) (by lia)
    lia
  have e2 : 1 * e ≤ g * e := Int.mul_le_mul_of_nonneg_right g1 (by lia)
  have na : ((y1 - y0).natAbs : Int) = g * (k.natAbs : Int) := by
    rw [hk, Int.natAbs_mul, Int.natCast_mul]; congr 1; lia
  have e3 : 1 * (k.natAbs : Int) ≤ g * (k.natAbs : Int) := Int.mul_le_mul_of_nonneg_right g1 (by lia)
  exact ⟨g1, gl, e1, by lia, by lia, by lia, co, he.symm, hk.symm⟩
theorem side_ok {x0 y0 x1 y1 r g : Int} (hx : x0 < x1) (eg : g = ((Int.gcd (x1 - x0) ((y1 - y0).natAbs : Int) : Nat) : Int)) (hi : Int.gcd ((y1 - y0) / g) ((x1 - x0) / g) = 1 → (x1 - x0) / g ∣ (y1 - y0) / g * r - 1) :
    SdOk x0 y0 x1 y1 ⟨x0, y0, g, (x1 - x0) / g, (y1 - y0) / g, -r % ((x1 - x0) / g), ((y1 - y0) / g * (-r % ((x1 - x0) / g)) + 1) / ((x1 - x0) / g)⟩ := by
  obtain ⟨g1, _, e1, _, _, _, co, he, hk⟩ := side_pre hx eg
  have h := hi co
  clear hi eg co
  generalize (x1 - x0) / g = e at *
  generalize (y1 - y0) / g = k at *
  have t0 := Int.emod_nonneg (-r) (show e ≠ 0 by lia)
  have t1 := Int.emod_lt_of_pos (-r) (show 0 < e by lia)
  have dv : e ∣ k * (-r % e) + 1 := by
    have em := Int.mul_ediv_add_emod (-r) e
    have : k * (-r % e) + 1 = -(k * r - 1) - e * (k * (-r / e)) := by
      have : -r % e = -r - e * (-r / e) := by lia
      rw [this]; grind
    rw [this]
    exact Int.dvd_sub (Int.dvd_neg.mpr h) ⟨_, rfl⟩
  have em := Int.mul_ediv_cancel' dv
  exact ⟨rfl, rfl, g1, e1, by show x0 + g * e = x1; lia, by show y0 + g * k = y1; lia, by show e * ((k * (-r % e) + 1) / e) - k * (-r % e) = 1; lia, t0, t1⟩
def sdv (d : Sd) : List V := [.int d.x, .int d.y, .int d.g, .int d.e, .int d.k, .int d.s, .int d.t]
def lnv (n m a b : Int) : List V := [.int n, .int m, .int a, .int b]
def spGcd : Sp := fun vs H Q _ => ∃ x y : Int, vs = [.int x, .int y] ∧ 0 ≤ x ∧ 0 ≤ y ∧ Q (.int ((Int.gcd x y : Nat) : Int)) H
def spInvB : Sp := fun vs H Q _ => ∃ N B : Int, vs = [.int N, .int B] ∧ 1 ≤ B ∧ B ≤ 2 ^ 60 ∧ ∀ r : Int, 0 ≤ r → r < B → (Int.gcd N B = 1 → B ∣ N * r - 1) → Q (.int r) H
def spSide : Sp := fun vs H Q _ => ∃ (p q : Addr) (x0 y0 x1 y1 : Int), vs = [.ref p, .ref q] ∧ H p = some (.tup (i2 (x0, y0))) ∧ H q = some (.tup (i2 (x1, y1))) ∧ x0 < x1 ∧ x1 - x0 ≤ 2 ^ 60 ∧ -(2 ^ 150) ≤ y1 - y0 ∧ y1 - y0 ≤ 2 ^ 150 ∧ ∀ (r : Addr) (d : Sd), H r = none → SdOk x0 y0 x1 y1 d → Q (.ref r) (upd H r (.tup (sdv d)))
structure SdsOk (m a b : Int) (zs : List Int) (ds : List Sd) : Prop where
  ln : ds.length + 1 = zs.length
  ok : ∀ (i : Nat) u v d, zs[i]? = some u → zs[i + 1]? = some v → ds[i]? = some d → SdOk u (hgt m a b u) v (hgt m a b v) d
def spPaper : Sp := fun vs H Q _ => ∃ n m a b : Int, vs = [.int n, .int m, .int a, .int b] ∧ LnOk n m a b ∧ b ≤ 1048576 ∧ ∀ l zs ds H', H l = none → ALg sdv H' l ds → Crn m a b n zs → SdsOk m a b zs ds → Same H H' → Q (.ref l) H'
theorem hgt_bd {n m a b x : Int} (L : LnOk n m a b) (x0 : 0 ≤ x) (xn : x ≤ n) : -(2 ^ 110) ≤ hgt m a b x ∧ hgt m a b x ≤ 2 ^ 110 := by
  obtain ⟨n0, n1, m0, m1, a0, a1, b0, b1⟩ := L
  have mb := mbd (B := 99999999999999999999) m0 m1 x0 (Int.le_trans xn n1)
  unfold hgt
  have e1 : -(2 ^ 110) * b ≤ -(2 ^ 110) * 1 := Int.mul_le_mul_of_nonpos_left (by decide) (by lia)
  have e2 : (2 ^ 110 : Int) * 1 ≤ (2 ^ 110) * b := Int.mul_le_mul_of_nonneg_left (by lia) (by decide)
  constructor
  · exact Int.le_ediv_of_mul_le (by lia) (by lia)
  · exact Int.ediv_le_of_le_mul (by lia) (by lia)
theorem Crn.rg {m a b n : Int} {zs : List Int} (h : Crn m a b n zs) : ∀ z ∈ zs, 0 ≤ z ∧ z ≤ n := fun z hz => by
  obtain ⟨ch, h0, hl, _⟩ := h
  cases zs with
  | nil => cases h0
  | cons u t =>
    cases h0
    have r := Ch.rising _ ch
    constructor
    · rcases List.mem_cons.mp hz with e | e
      · lia
      · exact Int.le_of_lt ((List.pairwise_cons.mp r).1 z e)
    · obtain ⟨A, hA⟩ := last_split hl
      rw [hA] at hz r
      rcases List.mem_append.mp hz with e | e
      · have := (List.pairwise_append.mp r).2.2 z e n (List.mem_singleton.mpr rfl)
        lia
      · rw [List.mem_singleton.mp e]; exact Int.le_refl _
section
variable {P : Program} {w : World} {K : PySem.W.Frag} {mg : Str → Option Value} {base : Heap}
theorem ok_is_whole {f : Addr} {fd : FuncData} (F : Fun K "is_whole" "is_whole" s_is_whole f fd) (T : Txt K mg)  : FnOk P w K mg base CX0 1 f fd ["thing"] spWholeG := by
  refine F.ok sc_is_whole (fun vs H Q E h => ?_) (fun cdv A outer s H vs Q E hr h => ?_)
  · obtain ⟨x, rfl, _⟩ := h
    rfl
  obtain ⟨x, rfl, th, q⟩ := h
  refine ⟨_, (pss_one (ps_ret (pe_and (pe_callB call_isinst rfl T.n_isinstance boot_isinstance (pa_cons (pv 0) (pa_cons (pe_ty rfl T.n_int boot_int) pa_nil))) (pe_one (pe_not (pe_callB call_isinst rfl T.n_isinstance boot_isinstance (pa_cons (pv 0) (pa_cons (pe_ty rfl T.n_bool boot_bool) pa_nil)))))))), ?_⟩
  cases th with
  | int i =>
    refine ⟨_, rfl, _, _, _, _, _, rfl, rfl, TyOf.int _, kit_int_int _, _, rfl, iteT ?_⟩
    exact ⟨_, rfl, _, _, _, _, _, rfl, rfl, TyOf.int _, kit_int_bool _, _, rfl, q⟩
  | bl b =>
    refine ⟨_, rfl, _, _, _, _, _, rfl, rfl, TyOf.bl _, kit_bl_int _, _, rfl, iteT ?_⟩
    exact ⟨_, rfl, _, _, _, _, _, rfl, rfl, TyOf.bl _, kit_bl_bl _, _, rfl, q⟩
  | str x => exact ⟨_, rfl, _, _, _, _, _, rfl, rfl, TyOf.str _, kit_str_int _, _, rfl, iteF q⟩
  | non => exact ⟨_, rfl, _, _, _, _, _, rfl, rfl, TyOf.non, kit_non_int _, _, rfl, iteF q⟩
  | lst h => exact ⟨_, rfl, _, _, _, _, _, rfl, rfl, TyOf.lst h, kit_lst_int _, _, rfl, iteF q⟩
  | tup h => exact ⟨_, rfl, _, _, _, _, _, rfl, rfl, TyOf.tup h, kit_tup_int _, _, rfl, iteF q⟩
  | dct h => exact ⟨_, rfl, _, _, _, _, _, rfl, rfl, TyOf.dK h, kit_dct_int _, _, rfl, iteF q⟩
theorem ok_is_between {f : Addr} {fd : FuncData} (F : Fun K "is_between" "is_between" s_is_between f fd) (T : Txt K mg) (H_is_whole : Has P w K mg base 1 "is_whole" ["thing"] spWhole) : FnOk P w K mg base CX0 2 f fd ["thing", "low", "high"] spBetween := by
  refine F.ok sc_is_between (fun vs H Q E h => ?_) (fun cdv A outer s H vs Q E hr h => ?_)
  · obtain ⟨i, lo, hi, rfl, _⟩ := h
    rfl
  obtain ⟨i, lo, hi, rfl, h1, h2, q⟩ := h
  refine ⟨_, (pss_one (ps_ret (pe_and (pe_fn H_is_whole (hr.mono (by lia)) rfl (pa_cons (pv 0) pa_nil)) (pe_one (pe_chain op_le op_le (pv 1) (pv 0) (pv 2)))))), ?_⟩
  refine ⟨_, rfl, _, rfl, _, rfl, iteT ?_⟩
  refine ⟨_, rfl, _, rfl, _, _, rfl, rfl, _, rfl, iteD h1 ?_⟩
  refine ⟨_, rfl, _, _, rfl, rfl, ?_⟩
  exact ret_true h2 q
theorem ok_is_short {f : Addr} {fd : FuncData} (F : Fun K "is_short" "is_short" s_is_short f fd) (T : Txt K mg) (H_is_between : Has P w K mg base 2 "is_between" ["thing", "low", "high"] spBetween) : FnOk P w K mg base CX0 3 f fd ["thing"] spShort := by
  refine F.ok sc_is_short (fun vs H Q E h => ?_) (fun cdv A outer s H vs Q E hr h => ?_)
  · obtain ⟨i, rfl, _⟩ := h
    rfl
  obtain ⟨i, rfl, h1, h2, q⟩ := h
  refine ⟨_, (pss_one (ps_ret (pe_fn H_is_between (hr.mono (by lia)) rfl (pa_cons (pv 0) (pa_cons (pe_op op_sub pe_int (pe_op op_pow pe_int pe_int)) (pa_cons (pe_op op_sub (pe_op op_pow pe_int pe_int) pe_int) pa_nil)))))), ?_⟩
  have e : (10 : Int) ^ (20 : Int).toNat = 100000000000000000000 := by decide
  walk_at "o"
  exact q
theorem ok_need_line {f : Addr} {fd : FuncData} (F : Fun K "need_line" "need_line" s_need_line f fd) (T : Txt K mg) (H_is_between : Has P w K mg base 2 "is_between" ["thing", "low", "high"] spBetween) (H_is_short : Has P w K mg base 3 "is_short" ["thing"] spShort) : FnOk P w K mg base CX0 4 f fd ["n", "m", "a", "b"] spNeedL := by
  refine F.ok sc_need_line (fun vs H Q E h => ?_) (fun cdv A outer s H vs Q E hr h => ?_)
  · obtain ⟨n, m, a, b, rfl, _⟩ := h
    rfl
  obtain ⟨n, m, a, b, rfl, L, q⟩ := h
  refine ⟨_, (pss_one (ps_if (PW.pt (pw_or (pt_not (pt_val (pe_fn H_is_between (hr.mono (by lia)) rfl (pa_cons (pv 0) (pa_cons pe_int (pa_cons (pe_op op_pow pe_int pe_int) pa_nil)))))) (pw_or (pt_not (pt_val (pe_fn H_is_short (hr.mono (by lia)) rfl (pa_cons (pv 1) pa_nil)))) (pw_or (pt_not (pt_val (pe_fn H_is_short (hr.mono (by lia)) rfl (pa_cons (pv 2) pa_nil)))) (pw_or (pt_not (pt_val (pe_fn H_is_short (hr.mono (by lia)) rfl (pa_cons (pv 3) pa_nil)))) (pw_or1 (pt_cmpR op_lt (pv 3) pe_int (nomark _))))))))
      (pss_one ps_never)
      pss_nil)), ?_⟩
  obtain ⟨n0, n1, m0, m1, a0, a1, b0, b1⟩ := L
  walk_at "o"
  exact q
abbrev FSt (n m a b : Int) (l : Addr) (x rest step drop far lack : Int) (y1 y2 : Option V) : L2.St := [some (.int n), some (.int m), some (.int a), some (.int b), some (.ref l), some (.int x), some (.int rest), some (.int step), some (.int drop), some (.int far), some (.int lack), y1, y2]
def fmu (σ : L2.St) : Nat := match σ[6]?, σ[8]? with | some (some (V.int r)), some (some (V.int d)) => (r + d).toNat | _, _ => 0
theorem Eu.bnd {m b step drop far lack rest : Int} (h : Eu m b step drop far lack rest) (d1 : 0 < drop) : step ≤ b ∧ far ≤ b ∧ lack ≤ b := by
  have s1 := h.s1
  have l1 := h.l1
  have f0 := h.f0
  have a : step * 1 ≤ step * lack := Int.mul_le_mul_of_nonneg_left l1 (by lia)
  have c : far * 1 ≤ far * drop := Int.mul_le_mul_of_nonneg_left (by lia) f0
  have e : 1 * lack ≤ step * lack := Int.mul_le_mul_of_nonneg_right s1 (by lia)
  have f : 0 ≤ far * drop := Int.mul_nonneg f0 (by lia)
  have g := h.det
  lia
theorem ok_fall_rows {f : Addr} {fd : FuncData} (F : Fun K "fall_rows" "fall_rows" s_fall_rows f fd) (T : Txt K mg)  : FnOk P w K mg base CX0 1 f fd ["n", "m", "a", "b"] spFall := by
  refine F.ok sc_fall_rows (fun vs H Q E h => ?_) (fun cdv A outer s H vs Q E hr h => ?_)
  · obtain ⟨n, m, a, b, rfl, _⟩ := h
    rfl
  obtain ⟨n, m, a, b, rfl, L, q⟩ := h
  refine ⟨_, (pss_cons (ps_set (i := 4) sc_fall_rows.nd rfl (Or.inl rfl) (pe_lst pa_nil))
    (pss_cons (ps_set (i := 5) sc_fall_rows.nd rfl (Or.inl rfl) pe_int)
    (pss_cons (ps_set (i := 6) sc_fall_rows.nd rfl (Or.inl rfl) (pe_op op_mod (pv 2) (pv 3)))
    (pss_cons (ps_set (i := 7) sc_fall_rows.nd rfl (Or.inl rfl) pe_int)
    (pss_cons (ps_set (i := 8) sc_fall_rows.nd rfl (Or.inl rfl) (pe_op op_mod (pe_un un_neg (pv 1)) (pv 3)))
    (pss_cons (ps_set (i := 9) sc_fall_rows.nd rfl (Or.inl rfl) pe_int)
    (pss_cons (ps_set (i := 10) sc_fall_rows.nd rfl (Or.inl rfl) (pv 3))
    (pss_cons (ps_while PassesOwn.never (PW.pt (pw_and (pt_cmpR op_lt pe_int (pv 8) (nomark _)) (pw_and1 (pt_cmpR op_lt pe_int (pv 6) (nomark _)))))
      (pss_one (ps_if (pt_cmpR op_lt (pv 6) (pv 8) (nomark _))
        (pss_cons (ps_set (i := 9) sc_fall_rows.nd rfl (Or.inl rfl) (pe_op op_add (pv 9) (pe_op op_mulB (pe_op op_fdivB (pv 10) (pv 8)) (pv 7))))
        (pss_cons (ps_set (i := 10) sc_fall_rows.nd rfl (Or.inl rfl) (pe_op op_mod (pv 10) (pv 8)))
        (pss_cons (ps_if (pt_cmpR op_eq (pv 10) pe_int (nomark _))
          (pss_one (ps_ret (pv 4)))
          pss_nil)
        (pss_cons (ps_set (i := 11) sc_fall_rows.nd rfl (Or.inl rfl) (pe_callB (call_min2 rfl) rfl T.n_min boot_min (pa_cons (pe_un un_neg (pe_op op_fdivB (pe_op op_sub (pv 6) (pv 8)) (pv 10))) (pa_cons (pe_op op_fdivB (pe_op op_sub (pv 8) pe_int) (pv 10)) pa_nil))))
        (pss_cons (ps_set (i := 7) sc_fall_rows.nd rfl (Or.inl rfl) (pe_op op_add (pv 7) (pe_op op_mulB (pv 11) (pv 9))))
        (pss_one (ps_set (i := 8) sc_fall_rows.nd rfl (Or.inl rfl) (pe_op op_sub (pv 8) (pe_op op_mulB (pv 11) (pv 10))))))))))
        (pss_cons (ps_set (i := 12) sc_fall_rows.nd rfl (Or.inl rfl) (pe_callB (call_min2 rfl) rfl T.n_min boot_min (pa_cons (pe_op op_fdivB (pv 6) (pv 8)) (pa_cons (pe_op op_fdivB (pe_op op_sub (pv 0) (pv 5)) (pv 7)) pa_nil))))
        (pss_cons (ps_if (pt_cmpR op_eq (pv 12) pe_int (nomark _))
          (pss_one (ps_ret (pv 4)))
          pss_nil)
        (pss_cons (ps_expr (pe_bm PySem.F.plainAttrs_list PySem.F.slot_list_append PySem.F.type_list_append mt_append (pv 4) (pa_cons (pe_tup (pa_cons (pv 7) (pa_cons (pv 8) (pa_cons (pv 12) pa_nil)))) pa_nil)))
        (pss_cons (ps_set (i := 5) sc_fall_rows.nd rfl (Or.inl rfl) (pe_op op_add (pv 5) (pe_op op_mulB (pv 12) (pv 7))))
        (pss_one (ps_set (i := 6) sc_fall_rows.nd rfl (Or.inl rfl) (pe_op op_sub (pv 6) (pe_op op_mulB (pv 12) (pv 8))))))))))))
    (pss_one (ps_ret (pv 4))))))))))), ?_⟩
  obtain ⟨n0, n1, m0, m1, a0, a1, b0, b1⟩ := L
  have L1000 : (1000 : Nat) ≤ sizeLine := by decide
  walk_at "o"; intro l hl
  walk_at "o"
  refine while_by (fun σ H2 => ∃ (rs : List Row3) (x rest step drop far lack : Int) (y1 y2 : Option V), σ = FSt n m a b l x rest step drop far lack y1 y2 ∧ FI m a b n rs x rest step drop far lack ∧ ALg i3 H2 l rs ∧ Same H H2) (fun σ _ => fmu σ) ⟨[], 0, _, 1, _, 0, b, _, _, rfl, FI.start b0 n0, ⟨[], upd_same, PLg.nil⟩, same_new hl _⟩ ?_ ?_
  · rintro σ H2 ⟨rs, x, rest, step, drop, far, lack, y1, y2, rfl, fi, al, sm⟩
    have rg := Rs_rg (m := m) (a := a) (b := b) (x := x) (by lia)
    rw [← fi.re] at rg
    have db := fi.eu.db
    have d0 := fi.eu.d0
    refine ⟨_, rfl, _, _, rfl, rfl, _, rfl, ?_⟩
    walk_at "c" <;> intro c1
    · have eb := fi.eu.bnd c1
      have s1 := fi.eu.s1
      have f0 := fi.eu.f0
      have l1 := fi.eu.l1
      have xn := fi.xn
      have x0 := fi.x0
      refine ⟨_, rfl, _, _, rfl, rfl, _, rfl, ?_⟩
      walk_at "c" <;> intro c2
      · refine ⟨_, rfl, _, rfl, _, _, rfl, rfl, _, rfl, ?_⟩
        walk_at "c" <;> intro c3
        · have lg := log_small (m := drop) (by lia) (by lia)
          have q0 : 0 ≤ lack / drop := Int.ediv_nonneg (by lia) (by lia)
          have q1 : lack / drop ≤ lack := Int.ediv_le_self _ (by lia)
          have t0 := Int.emod_nonneg lack (show drop ≠ 0 by lia)
          have t1 := Int.emod_lt_of_pos lack c1
          walk_at "o"
          walk_at "c" <;> intro c4
          · exact ⟨_, rfl, q l rs x H2 hl al (fi.end_lack c3 c4) sm⟩
          · have mE : ∀ i j : Int, (if j < i then j else i) = min i j := fun i j => by split <;> lia
            have lg2 := log_small (m := lack % drop) (by lia) (by lia)
            obtain ⟨n1', eu', n3, n4⟩ := fi.eu.next c3 rg.1 c4 rfl
            have nx' := fi.next (by lia) c3 c4 rfl
            have fb := eu'.bnd (by lia)
            refine ⟨_, rfl, _, rfl, _, _, rfl, rfl, _, rfl, _, _, rfl, rfl, ⟨by lia, lg2⟩, _, rfl, _, rfl, _, _, rfl, rfl, _, rfl, _, _, rfl, rfl, ⟨by lia, lg2⟩, _, _, rfl, ?_⟩
            rw [mE]
            have mb : min (-((rest - drop) / (lack % drop))) ((drop - 1) / (lack % drop)) ≤ drop := by
              have := Int.ediv_le_self (a := drop - 1) (lack % drop) (by lia)
              lia
            have xF := eu'.f0
            refine ⟨_, rfl, _, rfl, _, rfl, _, _, rfl, rfl, ⟨b200 (by lia) (by lia), b200 (by lia) (by lia)⟩, _, _, rfl, rfl, ?_⟩
            refine ⟨_, rfl, _, rfl, _, rfl, _, _, rfl, rfl, ⟨b200 (by lia) (by lia), b200 (by lia) (by lia)⟩, _, _, rfl, rfl, ?_⟩
            refine ⟨⟨rs, x, rest, _, _, _, _, _, _, rfl, nx', al, sm⟩, ?_⟩
            show (rest + (drop - _)).toNat < (rest + drop).toNat
            lia
        · have lg := log_small (m := drop) (by lia) (by lia)
          have lg2 := log_small (m := step) (by lia) (by lia)
          have mE : ∀ i j : Int, (if j < i then j else i) = min i j := fun i j => by split <;> lia
          refine ⟨_, rfl, _, rfl, _, _, rfl, rfl, ⟨c1, lg⟩, _, rfl, _, rfl, _, _, rfl, rfl, _, rfl, _, _, rfl, rfl, ⟨by lia, lg2⟩, _, _, rfl, ?_⟩
          rw [mE]
          refine ⟨_, rfl, rfl, _, rfl, ?_⟩
          walk_at "c" <;> intro c4
          · exact ⟨_, rfl, q l rs x H2 hl al (fi.end_times c1 (by lia) c4) sm⟩
          · obtain ⟨fi', t1, t2, t3⟩ := fi.row (by lia) c1 (by lia) rfl c4
            have tb : min (rest / drop) ((n - x) / step) ≤ rest := by
              have := Int.ediv_le_self (a := rest) drop rg.1
              lia
            obtain ⟨ps, hp, pl⟩ := al
            have pn := pl.1
            have pw2 : rs.length < 1000 := by
              refine Classical.byContradiction fun z => ?_
              have k1 := fi'.ln rs.length (by rw [List.length_append]; rfl)
              have k2 : (2 : Int) ^ 100 ≤ 2 ^ rs.length := p_mono (by lia)
              lia
            refine ⟨_, rfl, .inl ⟨rfl, _, SqL.of hp⟩, _, rfl, _, rfl, _, rfl, (by show 3 ≤ sizeLine; decide), fun r hr' => ?_⟩
            have sM := same_new hr' (.tup (i3 (step, drop, min (rest / drop) ((n - x) / step))))
            have ap := ALg.app pl hp hr' (step, drop, min (rest / drop) ((n - x) / step))
            refine ⟨l, _, _, rfl, rfl, sM _ _ hp, (by rw [List.length_map]; lia), ?_⟩
            refine ⟨_, rfl, _, rfl, _, rfl, _, _, rfl, rfl, ⟨b200 (by lia) (by lia), b200 (by lia) (by lia)⟩, _, _, rfl, rfl, ?_⟩
            refine ⟨_, rfl, _, rfl, _, rfl, _, _, rfl, rfl, ⟨b200 (by lia) (by lia), b200 (by lia) (by lia)⟩, _, _, rfl, rfl, ?_⟩
            refine ⟨⟨rs ++ [(step, drop, min (rest / drop) ((n - x) / step))], _, _, _, _, _, _, _, _, rfl, fi', ap, Same.updL (sm.trans sM) hl⟩, ?_⟩
            show (rest - _ + drop).toNat < (rest + drop).toNat
            lia
      · exact ⟨_, rfl, q l rs x H2 hl al (fi.end_loop (by lia) (by lia)) sm⟩
    · exact ⟨_, rfl, q l rs x H2 hl al (fi.end_loop (by lia) (by lia)) sm⟩
  · rintro σ H2 Q1 Q2 hq ⟨v, e, i, j, e1, e2, c, e3, h⟩
    refine ⟨v, e, i, j, e1, e2, c, e3, ?_⟩
    revert h
    cases c with
    | true =>
      rintro ⟨v2, e4, i2, j2, e5, e6, c2, e7, h⟩
      exact ⟨v2, e4, i2, j2, e5, e6, c2, e7, hq _ _ h⟩
    | false => exact fun h => hq _ _ h
theorem ok_places_reached {f : Addr} {fd : FuncData} (F : Fun K "places_reached" "places_reached" s_places_reached f fd) (T : Txt K mg) (H_fall_rows : Has P w K mg base 1 "fall_rows" ["n", "m", "a", "b"] spFall) : FnOk P w K mg base CX0 2 f fd ["n", "m", "a", "b"] spPlc := by
  refine F.ok sc_places_reached (fun vs H Q E h => ?_) (fun cdv A outer s H vs Q E hr h => ?_)
  · obtain ⟨n, m, a, b, rfl, _⟩ := h
    rfl
  obtain ⟨n, m, a, b, rfl, L, q⟩ := h
  refine ⟨_, (pss_cons (ps_set (i := 4) sc_places_reached.nd rfl (Or.inl rfl) (pe_lst (pa_cons pe_int pa_nil)))
    (pss_cons (ps_for PassesOwn.never rfl (pi_list (pe_fn H_fall_rows (hr.mono (by lia)) rfl (pa_cons (pv 0) (pa_cons (pv 1) (pa_cons (pv 2) (pa_cons (pv 3) pa_nil)))))) (pg_name (i := 5) sc_places_reached.nd rfl (Or.inl rfl))
      (pss_one (ps_expr (pe_bm PySem.F.plainAttrs_list PySem.F.slot_list_append PySem.F.type_list_append mt_append (pv 4) (pa_cons (pe_op op_add (pe_ix ix_list (pv 4) (pe_un un_neg pe_int) (fun _ _ => rfl)) (pe_op op_mulB (pe_ix ix_tup (pv 5) pe_int (fun _ _ => rfl)) (pe_ix ix_tup (pv 5) pe_int (fun _ _ => rfl)))) pa_nil)))))
    (pss_one (ps_ret (pv 4))))), ?_⟩
  have L1000 : (1000 : Nat) ≤ sizeLine := by decide
  refine ⟨(by show 1 ≤ sizeLine; decide), fun l hl => ?_⟩
  have hl0 : upd H l (.lst [.int 0]) l = some (.lst ((plcs []).map V.int)) := upd_same
  have s0 := same_new hl (.lst [.int 0])
  refine ⟨_, rfl, _, rfl, _, rfl, _, rfl, n, m, a, b, rfl, L, fun lr rs xl H1 lr0 al ff s1 => ?_⟩
  obtain ⟨ps, hp, pl⟩ := al
  have nl : lr ≠ l := fun z => by rw [z, hl0] at lr0; cases lr0
  have pn := pl.1
  have rl := ff.lenB (by have := L.b1; lia)
  have n1 := L.n1
  refine ⟨lr, rfl, ⟨_, SqL.of hp⟩, for_list (xs := ps.map V.ref) (fun j σ H2 => ∃ y : Option V, σ = [some (.int n), some (.int m), some (.int a), some (.int b), some (.ref l), y] ∧ H2 l = some (.lst ((plcs (rs.take j)).map V.int)) ∧ SameX l H1 H2) ⟨_, rfl, s1 _ _ hl0, fun a v _ h => h⟩ ?_ ?_ ?_⟩
  · rintro j σ H2 hj ⟨y, rfl, hl2, sx⟩
    exact SqL.of (sx _ _ nl hp)
  · rintro j v σ H2 hj ⟨y, rfl, hl2, sx⟩
    rw [List.getElem?_map] at hj
    cases e1 : ps[j]? with
    | none => rw [e1] at hj; cases hj
    | some p =>
      rw [e1] at hj
      cases hj
      obtain ⟨r, er, hr'⟩ := pl.get' e1
      have rb := ff.row er
      have pne : p ≠ l := fun z => by
        have h1 := s1 _ _ hl0
        rw [← z] at h1
        unfold TRg at hr'
        rw [hr'] at h1
        cases h1
      have hp2 : H2 p = some (.tup (i3 r)) := sx _ _ pne hr'
      have jl := (List.getElem?_eq_some_iff.mp er).1
      have tl : (plcs (rs.take j)).length = j + 1 := by rw [plcs_len, List.length_take]; lia
      obtain ⟨u, eu⟩ : ∃ u, (plcs (rs.take j)).getLast? = some u := by
        cases e : (plcs (rs.take j)).getLast? with
        | none => rw [List.getLast?_eq_none_iff] at e; rw [e] at tl; cases tl
        | some u => exact ⟨u, rfl⟩
      have al1 : atI ((plcs (rs.take j)).map V.int) (-1) = some (.int u) := at_last (by rw [← List.getLast?_eq_getElem?]; exact eu)
      refine ⟨_, rfl, .inl ⟨rfl, _, SqL.of hl2⟩, _, rfl, _, rfl, l, _, _, _, rfl, rfl, SqL.of hl2, al1, _, rfl, p, _, _, _, rfl, rfl, SqT.of hp2, rfl, _, rfl, p, _, _, _, rfl, rfl, SqT.of hp2, rfl, _, _, rfl, rfl, ⟨b200 (by lia) (by lia), b200 (by lia) (by lia)⟩, _, _, rfl, rfl, l, _, _, rfl, rfl, hl2, (by rw [List.length_map, tl]; lia), _, rfl, ?_, fun a' v' n' h' => ?_⟩
      · rw [upd_same, List.take_add_one, er, Option.toList_some, plcs_snoc, eu, List.map_append]
        rfl
      · rw [upd_ne n']
        exact sx _ _ n' h'
  · rintro σ H2 ⟨y, rfl, hl2, sx⟩
    rw [List.length_map, pn, List.take_length] at hl2
    refine ⟨_, rfl, q l rs xl H2 hl hl2 ff fun a' v' h' => ?_⟩
    exact sx _ _ (ne_of_none h' hl) (s1 _ _ (s0 _ _ h'))
theorem ok_corner_points {f : Addr} {fd : FuncData} (F : Fun K "corner_points" "corner_points" s_corner_points f fd) (T : Txt K mg) (H_places_reached : Has P w K mg base 2 "places_reached" ["n", "m", "a", "b"] spPlc) : FnOk P w K mg base CX0 3 f fd ["n", "m", "a", "b"] spCrn := by
  refine F.ok sc_corner_points (fun vs H Q E h => ?_) (fun cdv A outer s H vs Q E hr h => ?_)
  · obtain ⟨n, m, a, b, rfl, _⟩ := h
    rfl
  obtain ⟨n, m, a, b, rfl, L, q⟩ := h
  refine ⟨_, (pss_cons (ps_set (i := 4) sc_corner_points.nd rfl (Or.inl rfl) (pe_fn H_places_reached (hr.mono (by lia)) rfl (pa_cons (pv 0) (pa_cons (pv 1) (pa_cons (pv 2) (pa_cons (pv 3) pa_nil))))))
    (pss_cons (ps_compC (i := 5) sc_corner_points.nd rfl (Or.inl rfl) rfl [0] ["n"] rfl (by first | rfl | with_unfolding_all rfl) (by rfl) (by exact (List.forall_mem_cons.mpr ⟨rfl, (fun _ h => nomatch h)⟩)) (by decide +kernel) rfl (by decide +kernel) rfl (by decide +kernel) (by exact (List.forall_mem_cons.mpr ⟨⟨by first | exact Or.inl rfl | exact Or.inr rfl, rfl⟩, (fun _ h => nomatch h)⟩)) rfl (by rfl) (pi_list (pe_fn H_places_reached (hr.mono (by lia)) rfl (pa_cons (pv 0) (pa_cons (pe_un un_neg (pv 1)) (pa_cons (pe_op op_add (pe_op op_mulB (pv 1) (pv 0)) (pv 2)) (pa_cons (pv 3) pa_nil)))))) (fun C s2 H2 fp => (pe_op op_sub (pv 1) (pv 0))))
    (pss_one (ps_ret (pe_compC [1, 3, 2] ["m", "b", "a"] rfl (by first | rfl | with_unfolding_all rfl) (by rfl) (by exact (List.forall_mem_cons.mpr ⟨rfl, (List.forall_mem_cons.mpr ⟨rfl, (List.forall_mem_cons.mpr ⟨rfl, (fun _ h => nomatch h)⟩)⟩)⟩)) (by decide +kernel) rfl (by decide +kernel) rfl (by decide +kernel) (by exact (List.forall_mem_cons.mpr ⟨⟨by first | exact Or.inl rfl | exact Or.inr rfl, rfl⟩, (List.forall_mem_cons.mpr ⟨⟨by first | exact Or.inl rfl | exact Or.inr rfl, rfl⟩, (List.forall_mem_cons.mpr ⟨⟨by first | exact Or.inl rfl | exact Or.inr rfl, rfl⟩, (fun _ h => nomatch h)⟩)⟩)⟩)) rfl (by rfl) (pi_list (pe_callB (call_sorted_set hr.hd) rfl T.n_sorted boot_sorted (pa_cons (pe_callTy (call_set hr.hd) rfl T.n_set boot_set (pa_cons (pe_op op_addL (pv 4) (pv 5)) pa_nil)) pa_nil))) (fun C s2 H2 fp => (pe_tup (pa_cons (pv 0) (pa_cons (pe_op op_fdivB (pe_op op_add (pe_op op_mulB (pv 1) (pv 0)) (pv 3)) (pv 2)) pa_nil))))))))), ?_⟩
  have L1000 : (1000 : Nat) ≤ sizeLine := by decide
  obtain ⟨n0, n1, m0, m1, a0, a1, b0, b1⟩ := L
  have mn := mbd m0 m1 n0 n1
  have e140 : (2 : Int) ^ 100 * 1099511627776 = 2 ^ 140 := by decide
  rw [e140] at mn
  refine ⟨_, rfl, _, rfl, _, rfl, _, rfl, n, m, a, b, rfl, ⟨n0, n1, by lia, by lia, by lia, by lia, b0, by lia⟩, fun lf rs xl H1 lf0 hf ff s1 => ?_⟩
  have rl := ff.len b1
  refine ⟨_, rfl, _, rfl, _, rfl, _, rfl, _, rfl, _, _, rfl, rfl, ⟨b200 (by lia) (by lia), b200 (by lia) (by lia)⟩, _, rfl, _, _, rfl, rfl, _, rfl, n, -m, m * n + a, b, rfl, ⟨n0, n1, by lia, by lia, by lia, by lia, b0, by lia⟩, fun lg qs xr H2 lg0 hg fg s2 => ?_⟩
  have ql := fg.len b1
  have PL1 := plcs_len rs
  have PL2 := plcs_len qs
  refine ⟨lg, rfl, ⟨_, SqL.of hg⟩, fun D hD => ?_⟩
  refine comp_list (xs := (plcs qs).map V.int) (fun j HJ => HJ D = some (.lst (((plcs qs).take j).map fun z => V.int (n - z))) ∧ Same H2 HJ) ⟨upd_same, same_new hD _⟩ ?_ ?_ ?_
  · rintro j HJ hj ⟨hy, sJ⟩
    exact SqL.of (sJ _ _ hg)
  · rintro j v HJ hv ⟨hy, sJ⟩
    rw [List.getElem?_map] at hv
    cases e1 : (plcs qs)[j]? with
    | none => rw [e1] at hv; cases hv
    | some z =>
      rw [e1] at hv
      cases hv
      have jl := (List.getElem?_eq_some_iff.mp e1).1
      refine ⟨_, rfl, _, rfl, _, _, rfl, rfl, _, hy, (by rw [List.length_map, List.length_take]; lia), ((plcs qs).map V.int).length - (j + 1), (by rw [List.length_map]; lia), rfl, (by rw [List.length_map]; lia), ?_, Same.updL sJ hD⟩
      rw [upd_same, List.take_add_one, e1, Option.toList_some, List.map_append]
      rfl
  rintro HJ ⟨hy, sJ⟩
  rw [List.length_map, List.take_length] at hy
  have s3 := s1.trans (s2.trans sJ)
  have hf3 := sJ _ _ (s2 _ _ hf)
  obtain ⟨c1, c2, c3, c4⟩ := crn_ch (by lia) ff fg
  refine ⟨_, rfl, _, rfl, lf, D, _, _, rfl, rfl, SqL.of hf3, SqL.of hy, (by rw [List.length_map, List.length_map]; lia), fun p1 hp1 => ?_⟩
  have hadd : upd HJ p1 (.lst ((plcs rs).map V.int ++ (plcs qs).map fun z => V.int (n - z))) p1 = some (.lst ((plcs rs ++ (plcs qs).map fun z => n - z).map V.int)) := by
    rw [upd_same, List.map_append, List.map_map]
    rfl
  have nl : (plcs rs ++ (plcs qs).map fun z => n - z).length < 64 := by rw [List.length_append, List.length_map]; lia
  have s4 := s3.trans (same_new hp1 (.lst ((plcs rs).map V.int ++ (plcs qs).map fun z => V.int (n - z))))
  refine ⟨p1, _, rfl, SqL.of hadd, (by lia), fun p2 hp2 => ?_⟩
  have s5 := s4.trans (same_new hp2 (sI w p2 (plcs rs ++ (plcs qs).map fun z => n - z)))
  refine ⟨p2, _, rfl, upd_same, nl, fun p3 zs hp3 srt mem => ?_⟩
  have ez : zs = crn n rs qs := sorted_unique _ _ srt (Ch.rising _ c1) fun x => by rw [mem, c4, List.mem_append]
  have s6 := s5.trans (same_new hp3 (.lst (zs.map V.int)))
  have zl : zs.length ≤ 64 := by
    have l1 : (crn n rs qs).length ≤ (plcs rs ++ ((plcs qs).map fun z => n - z).reverse).length := by
      unfold crn
      split
      · rw [List.length_append, List.length_append, List.length_tail]; lia
      · exact Nat.le_refl _
    rw [List.length_append, List.length_reverse, List.length_map] at l1
    rw [ez]
    lia
  have zb : ∀ x ∈ zs, 0 ≤ x ∧ x ≤ n := fun x hx => by
    rcases List.mem_append.mp ((mem x).mp hx) with h | h
    · exact ff.pos x h
    · obtain ⟨z, hz, e⟩ := List.mem_map.mp h
      have := fg.pos z hz
      lia
  have lgb := log_small (m := b) (by lia) (by lia)
  have hz3 : upd (upd (upd HJ p1 (.lst ((plcs rs).map V.int ++ (plcs qs).map fun z => V.int (n - z)))) p2 (sI w p2 (plcs rs ++ (plcs qs).map fun z => n - z))) p3 (.lst (zs.map V.int)) p3 = some (.lst (zs.map V.int)) := upd_same
  refine ⟨p3, rfl, ⟨_, SqL.of hz3⟩, fun D2 hD2 => ?_⟩
  have D0 : H D2 = none := Same.none s6 hD2
  have nD : p3 ≠ D2 := ne_of_none hz3 hD2
  refine comp_list (xs := zs.map V.int) (fun j HK => ALg i2 HK D2 ((zs.take j).map fun x => (x, hgt m a b x)) ∧ HK p3 = some (.lst (zs.map V.int)) ∧ Same H HK) ⟨⟨[], upd_same, PLg.nil⟩, (by rw [upd_ne nD]; exact hz3), Same.updL s6 D0⟩ ?_ ?_ ?_
  · rintro j HK hj ⟨hy, h3, sK⟩
    exact SqL.of h3
  · rintro j v HK hv ⟨⟨ps, hps, pl⟩, h3, sK⟩
    rw [List.getElem?_map] at hv
    cases e1 : zs[j]? with
    | none => rw [e1] at hv; cases hv
    | some z =>
      rw [e1] at hv
      cases hv
      have jl := (List.getElem?_eq_some_iff.mp e1).1
      obtain ⟨z0, z1⟩ := zb z (List.mem_of_getElem? e1)
      have pn := pl.1
      rw [List.length_map, List.length_take] at pn
      refine ⟨_, rfl, _, rfl, _, rfl, _, _, rfl, rfl, ⟨b200 (by lia) (by lia), b200 (by lia) (by lia)⟩, _, rfl, _, _, rfl, rfl, _, rfl, _, _, rfl, rfl, ⟨by lia, lgb⟩, (by show 2 ≤ sizeLine; decide), fun r hr' => ?_⟩
      have sM := same_new hr' (.tup (i2 (z, hgt m a b z)))
      have ap := ALg.app pl hps hr' (z, hgt m a b z)
      refine ⟨_, sM _ _ hps, (by rw [List.length_map]; lia), (zs.map V.int).length - (j + 1), (by rw [List.length_map]; lia), rfl, (by rw [List.length_map]; lia), ?_, (by rw [upd_ne nD]; exact sM _ _ h3), Same.updL (sK.trans sM) D0⟩
      rw [List.take_add_one, e1, Option.toList_some, List.map_append]
      exact ap
  rintro HK ⟨al, h3, sK⟩
  rw [List.length_map, List.take_length] at al
  refine q D2 zs HK D0 al ⟨by rw [ez]; exact c1, by rw [ez]; exact c2, by rw [ez]; exact c3, by lia⟩ sK
theorem ok_common_divisor {f : Addr} {fd : FuncData} (F : Fun K "common_divisor" "common_divisor" s_common_divisor f fd) (T : Txt K mg)  : FnOk P w K mg base CX0 1 f fd ["a", "b"] spGcd := by
  refine F.ok sc_common_divisor (fun vs H Q E h => ?_) (fun cdv A outer s H vs Q E hr h => ?_)
  · obtain ⟨x, y, rfl, _⟩ := h
    rfl
  obtain ⟨x, y, rfl, x0, y0, q⟩ := h
  refine ⟨_, (pss_cons (ps_while PassesOwn.never (pt_cmpR op_ne (pv 1) pe_int (nomark _))
      (pss_cons (ps_set (i := 2) sc_common_divisor.nd rfl (Or.inl rfl) (pe_op op_mod (pv 0) (pv 1)))
      (pss_cons (ps_set (i := 0) sc_common_divisor.nd rfl (Or.inl rfl) (pv 1))
      (pss_one (ps_set (i := 1) sc_common_divisor.nd rfl (Or.inl rfl) (pv 2))))))
    (pss_one (ps_ret (pv 0)))), ?_⟩
  refine while_by (fun σ H2 => ∃ (u v : Int) (z : Option V), σ = [some (.int u), some (.int v), z] ∧ H2 = H ∧ 0 ≤ u ∧ 0 ≤ v ∧ Int.gcd u v = Int.gcd x y) (fun σ _ => match σ with | [_, some (V.int v), _] => v.toNat | _ => 0) ⟨x, y, _, rfl, rfl, x0, y0, rfl⟩ ?_ ?_
  · rintro σ H2 ⟨u, v, z, rfl, rfl, u0, v0, eg⟩
    refine ⟨_, rfl, rfl, _, rfl, ?_⟩
    walk_at "c" <;> intro c1
    · have r0 := Int.emod_nonneg u (show v ≠ 0 by lia)
      have r1 := Int.emod_lt_of_pos u (show 0 < v by lia)
      refine ⟨_, rfl, _, rfl, _, _, rfl, rfl, (by lia), ?_⟩
      walk_at "o"
      refine ⟨⟨v, u % v, _, rfl, rfl, v0, r0, ?_⟩, ?_⟩
      · rw [← eg, Int.gcd_comm, gcd_mod]
      · show (u % v).toNat < v.toNat
        lia
    · subst c1
      rw [Int.gcd_zero_right] at eg
      refine ⟨_, rfl, ?_⟩
      rw [← eg] at q
      rw [show ((u.natAbs : Nat) : Int) = u by lia] at q
      exact q
  · rintro σ H2 Q1 Q2 hq ⟨v, e, e2, c, e3, h⟩
    exact ⟨v, e, e2, c, e3, hq _ _ h⟩
theorem ok_inverse_by {f : Addr} {fd : FuncData} (F : Fun K "inverse_by" "inverse_by" s_inverse_by f fd) (T : Txt K mg)  : FnOk P w K mg base CX0 1 f fd ["number", "bottom"] spInvB := by
  refine F.ok sc_inverse_by (fun vs H Q E h => ?_) (fun cdv A outer s H vs Q E hr h => ?_)
  · obtain ⟨N, B, rfl, _⟩ := h
    rfl
  obtain ⟨N, B, rfl, B1, B2, q⟩ := h
  refine ⟨_, (pss_cons (ps_set (i := 2) sc_inverse_by.nd rfl (Or.inl rfl) (pe_op op_mod (pv 0) (pv 1)))
    (pss_cons (ps_set (i := 3) sc_inverse_by.nd rfl (Or.inl rfl) (pv 1))
    (pss_cons (ps_set (i := 4) sc_inverse_by.nd rfl (Or.inl rfl) pe_int)
    (pss_cons (ps_set (i := 5) sc_inverse_by.nd rfl (Or.inl rfl) pe_int)
    (pss_cons (ps_while PassesOwn.never (pt_cmpR op_ne (pv 3) pe_int (nomark _))
      (pss_cons (ps_set (i := 6) sc_inverse_by.nd rfl (Or.inl rfl) (pe_op op_fdivB (pv 2) (pv 3)))
      (pss_cons (ps_set (i := 7) sc_inverse_by.nd rfl (Or.inl rfl) (pe_op op_sub (pv 2) (pe_op op_mulB (pv 6) (pv 3))))
      (pss_cons (ps_set (i := 8) sc_inverse_by.nd rfl (Or.inl rfl) (pe_op op_sub (pv 4) (pe_op op_mulB (pv 6) (pv 5))))
      (pss_cons (ps_set (i := 2) sc_inverse_by.nd rfl (Or.inl rfl) (pv 3))
      (pss_cons (ps_set (i := 4) sc_inverse_by.nd rfl (Or.inl rfl) (pv 5))
      (pss_cons (ps_set (i := 3) sc_inverse_by.nd rfl (Or.inl rfl) (pv 7))
      (pss_one (ps_set (i := 5) sc_inverse_by.nd rfl (Or.inl rfl) (pv 8))))))))))
    (pss_one (ps_ret (pe_op op_mod (pv 4) (pv 1))))))))), ?_⟩
  refine ⟨_, rfl, _, rfl, _, _, rfl, rfl, (by lia), ?_⟩
  walk_at "o"
  refine while_by (fun σ H2 => ∃ (rest later wo lw : Int) (y1 y2 y3 : Option V), σ = [some (.int N), some (.int B), some (.int rest), some (.int later), some (.int wo), some (.int lw), y1, y2, y3] ∧ H2 = H ∧ Ivs N B rest later wo lw) (fun σ _ => match σ with | [_, _, _, some (V.int v), _, _, _, _, _] => v.toNat | _ => 0) ⟨_, _, _, _, _, _, _, rfl, rfl, Ivs.start B1⟩ ?_ ?_
  · rintro σ H2 ⟨rest, later, wo, lw, y1, y2, y3, rfl, rfl, iv⟩
    have l0 := iv.l0
    refine ⟨_, rfl, rfl, _, rfl, ?_⟩
    walk_at "c" <;> intro c1
    · obtain ⟨iv', lt⟩ := iv.next c1
      have ⟨r0, _, rB, lB, _, _, _, w0, w1, v0, v1, _⟩ := iv
      have lg := log_small (m := later) (by lia) (by lia)
      have q0 : 0 ≤ rest / later := Int.ediv_nonneg r0 l0
      have q1 : rest / later ≤ rest := Int.ediv_le_self _ r0
      refine ⟨_, rfl, _, rfl, _, _, rfl, rfl, ⟨by lia, lg⟩, ?_⟩
      walk_at "o"
      refine ⟨⟨_, _, _, _, _, _, _, rfl, rfl, iv'⟩, ?_⟩
      show (rest - rest / later * later).toNat < later.toNat
      have := iv'.l0
      lia
    · subst c1
      refine ⟨_, rfl, _, rfl, _, _, rfl, rfl, (by lia), q _ (Int.emod_nonneg _ (by lia)) (Int.emod_lt_of_pos _ (by lia)) fun g => iv.done g⟩
  · rintro σ H2 Q1 Q2 hq ⟨v, e, e2, c, e3, h⟩
    exact ⟨v, e, e2, c, e3, hq _ _ h⟩
theorem ok_side_between {f : Addr} {fd : FuncData} (F : Fun K "side_between" "side_between" s_side_between f fd) (T : Txt K mg) (H_common_divisor : Has P w K mg base 1 "common_divisor" ["a", "b"] spGcd) (H_inverse_by : Has P w K mg base 1 "inverse_by" ["number", "bottom"] spInvB) : FnOk P w K mg base CX0 2 f fd ["one", "other"] spSide := by
  refine F.ok sc_side_between (fun vs H Q E h => ?_) (fun cdv A outer s H vs Q E hr h => ?_)
  · obtain ⟨p, p', x0, y0, x1, y1, rfl, _⟩ := h
    rfl
  obtain ⟨p, p', x0, y0, x1, y1, rfl, hp, hp', hx, hB, u0, u1, q⟩ := h
  refine ⟨_, (pss_cons (ps_set (i := 2) sc_side_between.nd rfl (Or.inl rfl) (pe_op op_sub (pe_ix ix_tup (pv 1) pe_int (fun _ _ => rfl)) (pe_ix ix_tup (pv 0) pe_int (fun _ _ => rfl))))
    (pss_cons (ps_set (i := 3) sc_side_between.nd rfl (Or.inl rfl) (pe_op op_sub (pe_ix ix_tup (pv 1) pe_int (fun _ _ => rfl)) (pe_ix ix_tup (pv 0) pe_int (fun _ _ => rfl))))
    (pss_cons (ps_set (i := 4) sc_side_between.nd rfl (Or.inl rfl) (pe_fn H_common_divisor (hr.mono (by lia)) rfl (pa_cons (pv 2) (pa_cons (pe_callB call_abs rfl T.n_abs boot_abs (pa_cons (pv 3) pa_nil)) pa_nil))))
    (pss_cons (ps_set (i := 5) sc_side_between.nd rfl (Or.inl rfl) (pe_op op_fdivB (pv 2) (pv 4)))
    (pss_cons (ps_set (i := 6) sc_side_between.nd rfl (Or.inl rfl) (pe_op op_fdivB (pv 3) (pv 4)))
    (pss_cons (ps_set (i := 7) sc_side_between.nd rfl (Or.inl rfl) (pe_op op_mod (pe_un un_neg (pe_fn H_inverse_by (hr.mono (by lia)) rfl (pa_cons (pv 6) (pa_cons (pv 5) pa_nil)))) (pv 5)))
    (pss_one (ps_ret (pe_tup (pa_consN (pe_ix ix_tup (pv 0) pe_int (fun _ _ => rfl)) (pa_consN (pe_ix ix_tup (pv 0) pe_int (fun _ _ => rfl)) (pa_consN (pv 4) (pa_consN (pv 5) (pa_consN (pv 6) (pa_consN (pv 7) (pa_consN (pe_op op_fdivB (pe_op op_add (pe_op op_mulB (pv 6) (pv 7)) pe_int) (pv 5)) pa_nil)))))))))))))))), ?_⟩
  refine ⟨_, rfl, p', _, _, _, rfl, rfl, SqT.of hp', rfl, _, rfl, p, _, _, _, rfl, rfl, SqT.of hp, rfl, _, _, rfl, rfl, ?_⟩
  refine ⟨_, rfl, p', _, _, _, rfl, rfl, SqT.of hp', rfl, _, rfl, p, _, _, _, rfl, rfl, SqT.of hp, rfl, _, _, rfl, rfl, ?_⟩
  have ab : (if y1 - y0 < 0 then -(y1 - y0) else y1 - y0) = ((y1 - y0).natAbs : Int) := by split <;> lia
  refine ⟨_, rfl, _, rfl, _, rfl, ?_⟩
  dsimp only
  rw [ab]
  refine ⟨_, _, rfl, by lia, by lia, ?_⟩
  have pr := side_pre hx (y0 := y0) (y1 := y1) rfl
  have so := fun r h => side_ok (r := r) hx (y0 := y0) (y1 := y1) rfl h
  generalize ((Int.gcd (x1 - x0) ((y1 - y0).natAbs : Int) : Nat) : Int) = g at pr so ⊢
  obtain ⟨g1, g2, e1, e2, k0, k1, co, _, _⟩ := pr
  have lg := log_small (m := g) (by lia) (by lia)
  have le := log_small (m := (x1 - x0) / g) (by lia) (by lia)
  refine ⟨_, rfl, _, rfl, _, _, rfl, rfl, ⟨by lia, lg⟩, ?_⟩
  refine ⟨_, rfl, _, rfl, _, _, rfl, rfl, ⟨by lia, lg⟩, ?_⟩
  refine ⟨_, rfl, _, rfl, _, _, rfl, e1, by lia, fun r r0 r1 hd => ?_⟩
  have so := so r hd
  have t0 := Int.emod_nonneg (-r) (show (x1 - x0) / g ≠ 0 by lia)
  have t1 := Int.emod_lt_of_pos (-r) (show 0 < (x1 - x0) / g by lia)
  refine ⟨_, rfl, _, rfl, _, _, rfl, rfl, by lia, ?_⟩
  refine ⟨_, rfl, p, _, _, _, rfl, rfl, SqT.of hp, rfl, _, rfl, p, _, _, _, rfl, rfl, SqT.of hp, rfl, ?_⟩
  walk_at "o"
  exact fun l hl => q l _ hl so
theorem ok_paper {f : Addr} {fd : FuncData} (F : Fun K "paper" "paper" s_paper f fd) (T : Txt K mg) (H_need_line : Has P w K mg base 4 "need_line" ["n", "m", "a", "b"] spNeedL) (H_corner_points : Has P w K mg base 3 "corner_points" ["n", "m", "a", "b"] spCrn) (H_side_between : Has P w K mg base 2 "side_between" ["one", "other"] spSide) : FnOk P w K mg base CX0 5 f fd ["n", "m", "a", "b"] spPaper := by
  refine F.ok sc_paper (fun vs H Q E h => ?_) (fun cdv A outer s H vs Q E hr h => ?_)
  · obtain ⟨n, m, a, b, rfl, _⟩ := h
    rfl
  obtain ⟨n, m, a, b, rfl, L, b9, q⟩ := h
  refine ⟨_, (pss_cons (ps_expr (pe_fn H_need_line (hr.mono (by lia)) rfl (pa_cons (pv 0) (pa_cons (pv 1) (pa_cons (pv 2) (pa_cons (pv 3) pa_nil))))))
    (pss_cons (ps_set (i := 4) sc_paper.nd rfl (Or.inr rfl) (pe_fn H_corner_points (hr.mono (by lia)) rfl (pa_cons (pv 0) (pa_cons (pv 1) (pa_cons (pv 2) (pa_cons (pv 3) pa_nil))))))
    (pss_one (ps_ret (pe_compC [4] ["points"] rfl (by first | rfl | with_unfolding_all rfl) (by rfl) (by exact (List.forall_mem_cons.mpr ⟨rfl, (fun _ h => nomatch h)⟩)) (by decide +kernel) rfl (by decide +kernel) rfl (by decide +kernel) (by exact (List.forall_mem_cons.mpr ⟨⟨by first | exact Or.inl rfl | exact Or.inr rfl, rfl⟩, (fun _ h => nomatch h)⟩)) rfl (by rfl) (pi_range1 rfl T.n_range (pa_cons (pe_op op_sub (pe_callB call_len_seq rfl T.n_len boot_len (pa_cons (pv 4) pa_nil)) pe_int) pa_nil)) (fun C s2 H2 fp => (pe_fn H_side_between (hr.mono (by lia)) rfl (pa_cons (pe_ix (ix_listK (K := K) rfl) (pv 1) (pv 0) (fun _ _ => rfl)) (pa_cons (pe_ix (ix_listK (K := K) rfl) (pv 1) (pe_op op_add (pv 0) pe_int) (fun _ _ => rfl)) pa_nil))))))))), ?_⟩
  have L1000 : (1000 : Nat) ≤ sizeLine := by decide
  refine ⟨_, rfl, _, rfl, _, rfl, _, rfl, n, m, a, b, rfl, L, ?_⟩
  have ⟨n0, n1, m0, m1, a0, a1, b0, b1⟩ := L
  refine ⟨_, rfl, _, rfl, _, rfl, _, rfl, n, m, a, b, rfl, ⟨n0, n1, by lia, by lia, by lia, by lia, b0, by lia⟩, fun l zs H1 l0 al cr s1 => ?_⟩
  obtain ⟨ps, hp, pl⟩ := al
  have pn := pl.1
  rw [List.length_map] at pn
  have zl := cr.2.2.2
  have z2 : 1 ≤ zs.length := by
    have h0 := cr.2.1
    cases zs with
    | nil => cases h0
    | cons u t => rw [List.length_cons]; lia
  refine ⟨_, rfl, l, _, rfl, .inl (SqL.of hp), _, _, rfl, rfl, _, rfl, (by rw [List.length_map]; lia), (by rw [List.length_map]; lia), fun D hD => ?_⟩
  have rl : ((((ps.map V.ref).length : Nat) : Int) - 1).toNat = zs.length - 1 := by rw [List.length_map]; lia
  rw [rl]
  refine comp_rng (fun j HJ => ∃ ds : List Sd, ALg sdv HJ D ds ∧ ds.length = j ∧ (∀ (i : Nat) u v d, zs[i]? = some u → zs[i + 1]? = some v → ds[i]? = some d → SdOk u (hgt m a b u) v (hgt m a b v) d) ∧ Same H1 HJ) ⟨[], ⟨[], upd_same, PLg.nil⟩, rfl, (fun i u v d _ _ e => by simp at e), same_new hD _⟩ ?_ ?_
  · rintro j HJ hj ⟨ds, ⟨qs, hq, ql⟩, dl, ok, sJ⟩
    have hpJ := sJ _ _ hp
    have get : ∀ i : Nat, i < zs.length → ∃ z p, zs[i]? = some z ∧ ps[i]? = some p ∧ H1 p = some (.tup (i2 (z, hgt m a b z))) := fun i hi => by
      have e : zs[i]? = some (zs[i]'hi) := List.getElem?_eq_getElem _
      obtain ⟨p, e2, e3⟩ := pl.get (i := i) (x := (zs[i]'hi, hgt m a b (zs[i]'hi))) (by rw [List.getElem?_map, e]; rfl)
      exact ⟨_, p, e, e2, e3⟩
    obtain ⟨u, p1, eu, ep1, hp1⟩ := get j (by lia)
    obtain ⟨v, p2, ev, ep2, hp2⟩ := get (j + 1) (by lia)
    have uv := (cr.1.inc j u v eu ev).1
    have ru := cr.rg u (List.mem_of_getElem? eu)
    have rv := cr.rg v (List.mem_of_getElem? ev)
    have hu := hgt_bd L ru.1 ru.2
    have hv := hgt_bd L rv.1 rv.2
    have a1 : atI (ps.map V.ref) (0 + (j : Int)) = some (.ref p1) := by rw [Int.zero_add]; exact atI_nat (by rw [List.getElem?_map, ep1]; rfl)
    have a2 : atI (ps.map V.ref) (0 + (j : Int) + 1) = some (.ref p2) := by rw [Int.zero_add]; exact atI_nat (j := j + 1) (by rw [List.getElem?_map, ep2]; rfl)
    refine ⟨_, rfl, _, rfl, l, _, _, _, rfl, rfl, SqL.of hpJ, a1, _, rfl, _, rfl, _, _, rfl, rfl, l, _, _, _, rfl, rfl, SqL.of hpJ, a2, ?_⟩
    refine ⟨p1, p2, _, _, _, _, rfl, sJ _ _ hp1, sJ _ _ hp2, uv, by lia, by lia, by lia, fun r d hr' sd => ?_⟩
    have sM := same_new hr' (.tup (sdv d))
    have ap := ALg.app ql hq hr' d
    have qn := ql.1
    refine ⟨_, sM _ _ hq, (by rw [List.length_map]; lia), _, (show zs.length - 1 - (j + 1) < _ by lia), rfl, (by lia), ds ++ [d], ap, (by rw [List.length_append, List.length_singleton]; lia), fun i u' v' d' h1 h2 h3 => ?_, Same.updL (sJ.trans sM) hD⟩
    by_cases c : i < ds.length
    · rw [List.getElem?_append_left c] at h3
      exact ok i u' v' d' h1 h2 h3
    · have il := (List.getElem?_eq_some_iff.mp h3).1
      rw [List.length_append, List.length_singleton] at il
      have ei : i = j := by lia
      subst ei
      rw [List.getElem?_append_right (by lia), show i - ds.length = 0 by lia] at h3
      rw [eu] at h1
      rw [ev] at h2
      cases h1
      cases h2
      cases h3
      exact sd
  · rintro HJ ⟨ds, al, dl, ok, sJ⟩
    exact q D zs ds HJ (Same.none s1 hD) al cr ⟨by lia, ok⟩ (s1.trans sJ)
def SameN (L : List Addr) (H H' : Hp) : Prop := ∀ a v, a ∉ L → H a = some v → H' a = some v
theorem SameN.of {L : List Addr} {H H' : Hp} (s : Same H H') : SameN L H H' := fun a v _ h => s a v h
theorem SameN.trans {L : List Addr} {H H' H'' : Hp} (s : SameN L H H') (t : SameN L H' H'') : SameN L H H'' := fun a v n h => t a v n (s a v n h)
theorem SameN.upd {L : List Addr} {H : Hp} {p : Addr} {o : HO} (h : p ∈ L) : SameN L H (upd H p o) := fun a v n e => by rw [upd_ne (fun z : a = p => n (by rw [z]; exact h))]; exact e
def PoolAt (H : Hp) (p c : Addr) : Prop := ∃ (k : Int) (cs : List Int), H p = some (.lst [.ref c, .int k]) ∧ H c = some (.lst (cs.map V.int)) ∧ cs ≠ [] ∧ cs.length ≤ 63 ∧ 0 ≤ k
theorem PoolAt.ne {H : Hp} {p c : Addr} (h : PoolAt H p c) : p ≠ c := fun z => by
  obtain ⟨k, cs, h1, h2, _⟩ := h
  rw [z, h2] at h1
  cases cs with
  | nil => cases h1
  | cons a t => cases t <;> cases h1
theorem PoolAt.same {H H' : Hp} {p c : Addr} (h : PoolAt H p c) (s : Same H H') : PoolAt H' p c := by
  obtain ⟨k, cs, h1, h2, r⟩ := h
  exact ⟨k, cs, s _ _ h1, s _ _ h2, r⟩
theorem PoolAt.sameN {H H' : Hp} {p c : Addr} {L : List Addr} (h : PoolAt H p c) (s : SameN L H H') (n1 : p ∉ L) (n2 : c ∉ L) : PoolAt H' p c := by
  obtain ⟨k, cs, h1, h2, r⟩ := h
  exact ⟨k, cs, s _ _ n1 h1, s _ _ n2 h2, r⟩
def spMix : Sp := fun vs H Q _ => ∃ c k : Int, vs = [.int c, .int k] ∧ ∀ r : Int, 0 ≤ r → Q (.int r) H
def spTk : Sp := fun vs H Q _ => ∃ (p c : Addr) (m : Int), vs = [.ref p, .int m] ∧ PoolAt H p c ∧ 1 ≤ m ∧ m < 2 ^ 80 ∧ ∀ (r : Int) H', 0 ≤ r → r < m → PoolAt H' p c → SameN [p, c] H H' → Q (.int r) H'
theorem ixN_in {n : Nat} {k : Int} (h0 : 0 ≤ k) (h1 : k < n) : ixN n k = some k.toNat := by
  unfold ixN
  rw [if_pos h0, if_pos h1]
theorem atI_in {xs : List Int} {k : Int} (h0 : 0 ≤ k) (h1 : k < xs.length) : ∃ c, xs[k.toNat]? = some c ∧ atI (xs.map V.int) k = some (.int c) := by
  have e : xs[k.toNat]? = some (xs[k.toNat]'(by lia)) := List.getElem?_eq_getElem _
  refine ⟨_, e, ?_⟩
  have h := getI xs k.toNat (by lia)
  rw [show ((k.toNat : Nat) : Int) = k by lia] at h
  exact h
theorem ok__law_mixed {f : Addr} {fd : FuncData} (F : Fun K "_law_mixed" "_law_mixed" s__law_mixed f fd) (T : Txt K mg)  : FnOk P w K mg base CX0 1 f fd ["_law_cell", "_law_k"] spMix := by
  refine F.ok sc__law_mixed (fun vs H Q E h => ?_) (fun cdv A outer s H vs Q E hr h => ?_)
  · obtain ⟨c, k, rfl, _⟩ := h
    rfl
  obtain ⟨c, k, rfl, q⟩ := h
  refine ⟨_, (pss_cons (ps_set (i := 2) sc__law_mixed.nd rfl (Or.inl rfl) (pe_op op_mod (pe_op op_add (pe_op op_add (pe_op op_mul (pe_op op_mod (pv 0) pe_int) pe_int) (pe_op op_mul (pv 1) pe_int)) pe_int) pe_int))
    (pss_cons (ps_set (i := 2) sc__law_mixed.nd rfl (Or.inl rfl) (pe_op op_mod (pe_op op_add (pe_op op_mul (pv 2) (pv 2)) (pe_op op_mul pe_int (pv 1))) pe_int))
    (pss_cons (ps_set (i := 3) sc__law_mixed.nd rfl (Or.inl rfl) (pe_op op_mod (pe_op op_add (pe_op op_add (pe_op op_mul (pv 2) pe_int) (pe_op op_mul (pv 1) pe_int)) pe_int) pe_int))
    (pss_one (ps_ret (pe_op op_fdiv (pe_op op_mod (pe_op op_mul (pv 3) (pv 3)) pe_int) pe_int)))))), ?_⟩
  walk_at "o"
  exact q _ (Int.ediv_nonneg (Int.emod_nonneg _ (by decide)) (by decide))
theorem ok__law_take {f : Addr} {fd : FuncData} (F : Fun K "_law_take" "_law_take" s__law_take f fd) (T : Txt K mg) (H__law_mixed : Has P w K mg base 1 "_law_mixed" ["_law_cell", "_law_k"] spMix) : FnOk P w K mg base CX0 2 f fd ["_law_pool", "_law_most"] spTk := by
  refine F.ok sc__law_take (fun vs H Q E h => ?_) (fun cdv A outer s H vs Q E hr h => ?_)
  · obtain ⟨p, c, m, rfl, _⟩ := h
    rfl
  obtain ⟨p, c, m, rfl, pa, m1, m2, q⟩ := h
  refine ⟨_, (pss_cons (ps_set (i := 2) sc__law_take.nd rfl (Or.inl rfl) (pe_ix ix_list (pv 0) pe_int (fun _ _ => rfl)))
    (pss_cons (ps_set (i := 3) sc__law_take.nd rfl (Or.inl rfl) (pe_op op_mod (pe_ix ix_list (pv 0) pe_int (fun _ _ => rfl)) (pe_callB call_len_seq rfl T.n_len boot_len (pa_cons (pv 2) pa_nil))))
    (pss_cons (ps_asg (pe_op op_add (pe_ix ix_list (pv 0) pe_int (fun _ _ => rfl)) pe_int) (pg_sub (pv 0) pe_int set_list))
    (pss_cons (ps_set (i := 4) sc__law_take.nd rfl (Or.inl rfl) (pe_ix ix_list (pv 2) (pv 3) (fun _ _ => rfl)))
    (pss_cons (ps_if (pt_cmpR op_ge (pv 4) (pe_op op_pow pe_int pe_int) (nomark _))
      (pss_cons (ps_asg (pe_op op_fdivB (pv 4) (pv 1)) (pg_sub (pv 2) (pv 3) set_list))
      (pss_one (ps_ret (pe_op op_mod (pv 4) (pv 1)))))
      pss_nil)
    (pss_cons (ps_set (i := 5) sc__law_take.nd rfl (Or.inl rfl) pe_int)
    (pss_cons (ps_set (i := 6) sc__law_take.nd rfl (Or.inl rfl) pe_int)
    (pss_cons (ps_while PassesOwn.never (pt_cmpR op_lt (pv 6) (pv 1) (nomark _))
      (pss_cons (ps_set (i := 5) sc__law_take.nd rfl (Or.inl rfl) (pe_op op_add (pe_op op_mul (pv 5) (pe_op op_pow pe_int pe_int)) (pe_op op_mod (pe_fn H__law_mixed (hr.mono (by lia)) rfl (pa_cons (pv 4) (pa_cons (pe_op op_add (pe_op op_mul pe_int (pe_ix ix_list (pv 0) pe_int (fun _ _ => rfl))) (pe_op op_mod (pv 6) pe_int)) pa_nil))) (pe_op op_pow pe_int pe_int))))
      (pss_one (ps_set (i := 6) sc__law_take.nd rfl (Or.inl rfl) (pe_op op_mul (pv 6) (pe_op op_pow pe_int pe_int))))))
    (pss_one (ps_ret (pe_op op_mod (pv 5) (pv 1)))))))))))), ?_⟩
  have npc := pa.ne
  obtain ⟨k, cs, hp, hc, ne, cl, k0⟩ := pa
  have cl0 : 0 < cs.length := List.length_pos_iff.mpr ne
  have lm : (cs.map V.int).length = cs.length := List.length_map _
  have j0 := Int.emod_nonneg k (show (((cs.map V.int).length : Nat) : Int) ≠ 0 by lia)
  have j1 := Int.emod_lt_of_pos k (show 0 < (((cs.map V.int).length : Nat) : Int) by lia)
  have hp1 : upd H p (.lst [.ref c, .int (k + 1)]) p = some (.lst [.ref c, .int (k + 1)]) := upd_same
  have hc1 : upd H p (.lst [.ref c, .int (k + 1)]) c = some (.lst (cs.map V.int)) := by rw [upd_ne (Ne.symm npc)]; exact hc
  have x1 : SameN [p, c] H (upd H p (.lst [.ref c, .int (k + 1)])) := SameN.upd (by simp)
  obtain ⟨cell, ec, ac⟩ := atI_in (xs := cs) j0 (by lia)
  walk_at "o"
  refine ⟨c, _, _, _, rfl, rfl, SqL.of hc1, ac, ?_⟩
  have lgm := log_small (m := m) (by lia) (by lia)
  refine ⟨_, rfl, _, _, rfl, rfl, ⟨by decide, by decide, by decide⟩, _, _, rfl, rfl, _, rfl, ?_⟩
  walk_at "c" <;> intro c0
  · have ix := ixN_in (n := (cs.map V.int).length) j0 j1
    refine ⟨_, rfl, _, rfl, _, _, rfl, rfl, ⟨by lia, lgm⟩, _, rfl, _, rfl, c, _, _, _, rfl, rfl, hc1, ix, ?_⟩
    refine ⟨_, rfl, _, rfl, _, _, rfl, rfl, (by lia), ?_⟩
    refine q _ _ (Int.emod_nonneg _ (by lia)) (Int.emod_lt_of_pos _ (by lia)) ⟨k + 1, cs.set (k % (((cs.map V.int).length : Nat) : Int)).toNat (cell / m), ?_, ?_, ?_, ?_, by lia⟩ (x1.trans (SameN.upd (by simp)))
    · rw [upd_ne npc]; exact hp1
    · rw [upd_same, List.map_set]
    · intro z
      have := congrArg List.length z
      rw [List.length_set] at this
      exact absurd this (by show ¬ cs.length = 0; lia)
    · rw [List.length_set]; exact cl
  · refine while_by (fun σ H2 => ∃ (nm room : Int), σ = [some (.ref p), some (.int m), some (.ref c), some (.int (k % (((cs.map V.int).length : Nat) : Int))), some (.int cell), some (.int nm), some (.int room)] ∧ H2 = upd H p (.lst [.ref c, .int (k + 1)]) ∧ 0 ≤ nm ∧ 1 ≤ room) (fun σ _ => match σ with | [_, _, _, _, _, _, some (V.int r)] => (m - r).toNat | _ => 0) ⟨0, 1, rfl, rfl, by lia, by lia⟩ ?_ ?_
    · rintro σ H2 ⟨nm, room, rfl, rfl, n0, r1⟩
      refine ⟨_, rfl, _, rfl, _, _, rfl, rfl, _, rfl, ?_⟩
      walk_at "c" <;> intro c1
      · refine ⟨_, rfl, _, _, rfl, rfl, ⟨by decide, by decide, by decide⟩, _, _, rfl, rfl, .inr ⟨by decide, by decide⟩, ?_⟩
        refine ⟨_, rfl, _, rfl, p, _, _, _, rfl, rfl, SqL.of hp1, rfl, _, _, rfl, rfl, .inl ⟨by decide, by decide⟩, _, rfl, _, _, rfl, rfl, (by show (0 : Int) < 63; decide), _, _, rfl, rfl, cell, _, rfl, fun r r0 => ?_⟩
        have e8 : (10 : Int) ^ (8 : Int).toNat = 100000000 := by decide
        have re := Int.emod_nonneg r (show (10 : Int) ^ (8 : Int).toNat ≠ 0 by rw [e8]; decide)
        refine ⟨_, _, rfl, rfl, ⟨by decide, by decide, by decide⟩, _, _, rfl, rfl, (by show (0 : Int) < 10 ^ (8 : Int).toNat; rw [e8]; decide), _, _, rfl, rfl, ?_⟩
        refine ⟨_, rfl, _, _, rfl, rfl, ⟨by decide, by decide, by decide⟩, _, _, rfl, rfl, .inr ⟨by decide, by decide⟩, ?_⟩
        refine ⟨⟨_, _, rfl, rfl, ?_, ?_⟩, ?_⟩
        · rw [e8] at re ⊢
          lia
        · rw [e8]
          lia
        · show (m - room * 10 ^ (8 : Int).toNat).toNat < (m - room).toNat
          rw [e8]
          lia
      · exact ⟨_, rfl, _, rfl, _, _, rfl, rfl, (by lia), q _ _ (Int.emod_nonneg _ (by lia)) (Int.emod_lt_of_pos _ (by lia)) ⟨k + 1, cs, hp1, hc1, ne, cl, by lia⟩ x1⟩
    · rintro σ H2 Q1 Q2 hq ⟨v, e, v2, e2, i, j, e3, e4, b, e5, h⟩
      exact ⟨v, e, v2, e2, i, j, e3, e4, b, e5, hq _ _ h⟩
theorem ok__law_whole {f : Addr} {fd : FuncData} (F : Fun K "_law_whole" "_law_whole" s__law_whole f fd) (T : Txt K mg)  : FnOk P w K mg base CX0 1 f fd ["_law_found"] spWholeG := by
  refine F.ok sc__law_whole (fun vs H Q E h => ?_) (fun cdv A outer s H vs Q E hr h => ?_)
  · obtain ⟨x, rfl, _⟩ := h
    rfl
  obtain ⟨x, rfl, th, q⟩ := h
  refine ⟨_, (pss_one (ps_ret (pe_and (pe_callB call_isinst rfl T.n_isinstance boot_isinstance (pa_cons (pv 0) (pa_cons (pe_ty rfl T.n_int boot_int) pa_nil))) (pe_one (pe_not (pe_callB call_isinst rfl T.n_isinstance boot_isinstance (pa_cons (pv 0) (pa_cons (pe_ty rfl T.n_bool boot_bool) pa_nil)))))))), ?_⟩
  cases th with
  | int i =>
    refine ⟨_, rfl, _, _, _, _, _, rfl, rfl, TyOf.int _, kit_int_int _, _, rfl, iteT ?_⟩
    exact ⟨_, rfl, _, _, _, _, _, rfl, rfl, TyOf.int _, kit_int_bool _, _, rfl, q⟩
  | bl b =>
    refine ⟨_, rfl, _, _, _, _, _, rfl, rfl, TyOf.bl _, kit_bl_int _, _, rfl, iteT ?_⟩
    exact ⟨_, rfl, _, _, _, _, _, rfl, rfl, TyOf.bl _, kit_bl_bl _, _, rfl, q⟩
  | str x => exact ⟨_, rfl, _, _, _, _, _, rfl, rfl, TyOf.str _, kit_str_int _, _, rfl, iteF q⟩
  | non => exact ⟨_, rfl, _, _, _, _, _, rfl, rfl, TyOf.non, kit_non_int _, _, rfl, iteF q⟩
  | lst h => exact ⟨_, rfl, _, _, _, _, _, rfl, rfl, TyOf.lst h, kit_lst_int _, _, rfl, iteF q⟩
  | tup h => exact ⟨_, rfl, _, _, _, _, _, rfl, rfl, TyOf.tup h, kit_tup_int _, _, rfl, iteF q⟩
  | dct h => exact ⟨_, rfl, _, _, _, _, _, rfl, rfl, TyOf.dK h, kit_dct_int _, _, rfl, iteF q⟩
theorem PoolAt.news {H H' : Hp} {p c : Addr} {r : Addr} (h : PoolAt H' p c) (s : SameN [p, c] H H') (n : H' r = none) : H r = none := by
  obtain ⟨k, cs, h1, h2, _⟩ := h
  cases e : H r with
  | none => rfl
  | some o =>
    exfalso
    by_cases z1 : r = p
    · rw [z1, h1] at n; cases n
    · by_cases z2 : r = c
      · rw [z2, h2] at n; cases n
      · rw [s r o (by simp [z1, z2]) e] at n; cases n
theorem PoolAt.no {H : Hp} {p c l : Addr} (h : PoolAt H p c) (n : H l = none) : l ∉ [p, c] := by
  obtain ⟨k, cs, h1, h2, _⟩ := h
  intro z
  rcases List.mem_cons.mp z with z | z
  · rw [z, h1] at n; cases n
  · rw [List.mem_singleton.mp z, h2] at n; cases n
theorem pick {xs : List Int} {k : Int} (h0 : 0 ≤ k) (h1 : k < xs.length) {Pr : Int → Prop} (ha : ∀ x ∈ xs, Pr x) : ∃ c, Pr c ∧ atI (xs.map V.int) k = some (.int c) := by
  obtain ⟨c, e, a⟩ := atI_in h0 h1
  exact ⟨c, ha c (List.mem_of_getElem? e), a⟩
theorem all6 {a b c d e f : Int} {Pr : Int → Prop} (h1 : Pr a) (h2 : Pr b) (h3 : Pr c) (h4 : Pr d) (h5 : Pr e) (h6 : Pr f) : ∀ x ∈ [a, b, c, d, e, f], Pr x := by
  intro x hx
  simp only [List.mem_cons, List.not_mem_nil, or_false] at hx
  rcases hx with rfl | rfl | rfl | rfl | rfl | rfl <;> assumption
theorem atI_neg {α : Type} {xs : List α} {k : Nat} {v : α} (k1 : 1 ≤ k) (k2 : k ≤ xs.length) (h : xs[xs.length - k]? = some v) : atI xs (-(k : Int)) = some v := by
  unfold atI ixN
  rw [if_neg (by lia), if_pos (by lia)]
  show xs[(-(k : Int) + (xs.length : Int)).toNat]? = some v
  rw [show (-(k : Int) + (xs.length : Int)).toNat = xs.length - k by lia]
  exact h
structure Pools (H : Hp) (l : Addr) (pcs : List (Addr × Addr)) : Prop where
  li : H l = some (.lst (pcs.map fun x => V.ref x.1))
  at' : ∀ x ∈ pcs, PoolAt H x.1 x.2
  ds : ∀ (i j : Nat) x y, i < j → pcs[i]? = some x → pcs[j]? = some y → x.1 ≠ y.1 ∧ x.2 ≠ y.2
  ln : pcs.length ≤ 4
def spPools (K : PySem.W.Frag) : Sp := fun vs H Q _ => ∃ (a : Addr) (ns : List Int), vs = [.ref a, .int 4] ∧ SqL K H a (ns.map V.int) ∧ ns.length ≤ 63 ∧ ∀ l pcs H', H l = none → Pools H' l pcs → Same H H' → Q (.ref l) H'
theorem PoolAt.upd {H : Hp} {p c D : Addr} {as zs : List V} (h : PoolAt H p c) (e : H D = some (.lst as)) (n : ∀ v ∈ as, ∃ a, v = V.ref a) : PoolAt (upd H D (.lst zs)) p c := by
  obtain ⟨k, cs, h1, h2, ne, r⟩ := h
  refine ⟨k, cs, ?_, ?_, ne, r⟩
  · rw [upd_ne (fun z => ?_)]
    · exact h1
    · rw [z, e] at h1
      cases h1
      obtain ⟨a, z⟩ := n (.int k) (by simp)
      cases z
  · rw [upd_ne (fun z => ?_)]
    · exact h2
    · rw [z, e] at h2
      cases h2
      cases cs with
      | nil => exact ne rfl
      | cons x t =>
        obtain ⟨a, z⟩ := n (.int x) (by simp)
        cases z
theorem Pools.refs (pcs : List (Addr × Addr)) : ∀ v ∈ pcs.map (fun x => V.ref x.1), ∃ a, v = V.ref a := fun v hv => by
  obtain ⟨x, _, e⟩ := List.mem_map.mp hv
  exact ⟨x.1, e.symm⟩
theorem Pools.snoc {H : Hp} {D p c : Addr} {pcs : List (Addr × Addr)} (h : Pools H D pcs) (hp : PoolAt H p c) (hn : ∀ x ∈ pcs, x.1 ≠ p ∧ x.2 ≠ c) (hl : pcs.length < 4) : Pools (upd H D (.lst (pcs.map (fun x => V.ref x.1) ++ [.ref p]))) D (pcs ++ [(p, c)]) := by
  refine ⟨by rw [upd_same, List.map_append]; rfl, fun x hx => ?_, fun i j x y ij e1 e2 => ?_, by rw [List.length_append, List.length_singleton]; lia⟩
  · rcases List.mem_append.mp hx with z | z
    · exact (h.at' x z).upd h.li (Pools.refs _)
    · rw [List.mem_singleton.mp z]
      exact hp.upd h.li (Pools.refs _)
  · have jl := (List.getElem?_eq_some_iff.mp e2).1
    rw [List.length_append, List.length_singleton] at jl
    rw [List.getElem?_append_left (by lia)] at e1
    by_cases c0 : j < pcs.length
    · rw [List.getElem?_append_left c0] at e2
      exact h.ds i j x y ij e1 e2
    · rw [List.getElem?_append_right (by lia), show j - pcs.length = 0 by lia] at e2
      cases e2
      exact hn x (List.mem_of_getElem? e1)
theorem Pools.same {H H' : Hp} {l : Addr} {pcs : List (Addr × Addr)} (h : Pools H l pcs) (s : Same H H') : Pools H' l pcs := ⟨s _ _ h.li, fun x hx => (h.at' x hx).same s, h.ds, h.ln⟩
theorem call_list_ofK {X : Cx} {K : PySem.W.Frag} (hk : X.K = K) : CallR X (.type "list") (fun xs H Q => ∃ p ys, xs = [V.ref p] ∧ (SqL K H p ys ∨ SqT K H p ys) ∧ ∀ (l : Addr), H l = none → Q (V.ref l) (upd H l (HO.lst ys))) := by
  subst hk
  exact call_list_of
theorem stepV_ints {ns : List Int} {i k : Int} : ∃ cs : List Int, stepV (ns.map V.int) i k = cs.map V.int := by
  have : ∀ zs : List V, (∀ z ∈ zs, z ∈ ns.map V.int) → ∃ cs : List Int, zs = cs.map V.int := by
    intro zs
    induction zs with
    | nil => exact fun _ => ⟨[], rfl⟩
    | cons z t ih =>
      intro h
      obtain ⟨cs, e⟩ := ih fun y hy => h y (List.mem_cons_of_mem _ hy)
      obtain ⟨n, _, en⟩ := List.mem_map.mp (h z (List.mem_cons_self ..))
      exact ⟨n :: cs, by rw [← en, e]; rfl⟩
  exact this _ fun z hz => stepV_mem hz
theorem ok__law_pools {f : Addr} {fd : FuncData} (F : Fun K "_law_pools" "_law_pools" s__law_pools f fd) (T : Txt K mg)  : FnOk P w K mg base CX0 1 f fd ["_law_script", "_law_many"] (spPools K) := by
  refine F.ok sc__law_pools (fun vs H Q E h => ?_) (fun cdv A outer s H vs Q E hr h => ?_)
  · obtain ⟨a, ns, rfl, _⟩ := h
    rfl
  obtain ⟨a, ns, rfl, hS, nl, q⟩ := h
  refine ⟨_, (pss_cons (ps_compC (i := 2) sc__law_pools.nd rfl (Or.inl rfl) rfl [0, 1] ["_law_script", "_law_many"] rfl (by first | rfl | with_unfolding_all rfl) (by rfl) (by exact (List.forall_mem_cons.mpr ⟨rfl, (List.forall_mem_cons.mpr ⟨rfl, (fun _ h => nomatch h)⟩)⟩)) (by decide +kernel) rfl (by decide +kernel) rfl (by decide +kernel) (by exact (List.forall_mem_cons.mpr ⟨⟨by first | exact Or.inl rfl | exact Or.inr rfl, rfl⟩, (List.forall_mem_cons.mpr ⟨⟨by first | exact Or.inl rfl | exact Or.inr rfl, rfl⟩, (fun _ h => nomatch h)⟩)⟩)) rfl (by rfl) (pi_range1 rfl T.n_range (pa_cons (pe_callB (call_min2 rfl) rfl T.n_min boot_min (pa_cons (pv 1) (pa_cons (pe_callB call_len_seq rfl T.n_len boot_len (pa_cons (pv 0) pa_nil)) pa_nil))) pa_nil)) (fun C s2 H2 fp => (pe_lst (pa_cons (pe_callTy (call_list_ofK (K := K) rfl) rfl T.n_list boot_list (pa_cons (pe_stepK (K := K) rfl (pv 1) (pv 0) (pv 2)) pa_nil)) (pa_cons pe_int pa_nil)))))
    (pss_join (ps_if (pt_cmpR (op_eq0 (Nat.lt_of_succ_lt (hu_of hr))) (pv 2) (pe_lst pa_nil) (nomark _))
      (pss_one (ps_expr (pe_bm PySem.F.plainAttrs_list PySem.F.slot_list_append PySem.F.type_list_append mt_append (pv 2) (pa_cons (pe_lst (pa_cons (pe_lst (pa_cons pe_int pa_nil)) (pa_cons pe_int pa_nil))) pa_nil))))
      pss_nil)
    (pss_one (ps_ret (pv 2))))), ?_⟩
  have L1000 : (1000 : Nat) ≤ sizeLine := by decide
  have ml : (ns.map V.int).length = ns.length := List.length_map _
  have mE : ∀ i j : Int, (if j < i then j else i) = min i j := fun i j => by split <;> lia
  refine ⟨_, rfl, _, rfl, a, _, rfl, .inl hS, _, _, rfl, _, rfl, (by rw [mE]; lia), (by rw [mE]; lia), fun D hD => ?_⟩
  rw [mE, ml]
  refine comp_rng (fun j HJ => ∃ pcs : List (Addr × Addr), Pools HJ D pcs ∧ pcs.length = j ∧ Same H HJ) ⟨[], ⟨upd_same, (fun x hx => by cases hx), (fun i j x y _ e => by simp at e), by decide⟩, rfl, same_new hD _⟩ ?_ ?_
  · rintro j HJ hj ⟨pcs, po, pn, sJ⟩
    have hSJ := sJ.seq hS
    refine ⟨_, rfl, _, rfl, _, rfl, a, _, _, _, rfl, rfl, rfl, by lia, by decide, hSJ, fun p1 hp1 => ?_⟩
    obtain ⟨cs, ecs⟩ := stepV_ints (ns := ns) (i := 0 + (j : Int)) (k := 4)
    have cne : cs ≠ [] := fun z => stepV_ne (xs := ns.map V.int) (i := 0 + (j : Int)) (k := 4) (by lia) (by decide) (by lia) (by rw [ecs, z]; rfl)
    have cln : cs.length ≤ 63 := by
      have := stepV_len (xs := ns.map V.int) (i := 0 + (j : Int)) (k := 4) (by lia) (by decide)
      rw [ecs, List.length_map] at this
      lia
    rw [ecs]
    refine ⟨p1, _, rfl, .inl (SqL.of upd_same), fun p2 hp2 => ⟨(by show 2 ≤ sizeLine; decide), fun p3 hp3 => ?_⟩⟩
    have s1 := same_new hp1 (.lst (cs.map V.int))
    have s2 := same_new hp2 (.lst (cs.map V.int))
    have s3 := same_new hp3 (.lst [.ref p2, .int 0])
    have sA := s1.trans (s2.trans s3)
    have po3 := po.same sA
    have pa : PoolAt (upd (upd (upd HJ p1 (.lst (cs.map V.int))) p2 (.lst (cs.map V.int))) p3 (.lst [.ref p2, .int 0])) p3 p2 := ⟨0, cs, upd_same, s3 _ _ upd_same, cne, cln, by decide⟩
    have hn : ∀ x ∈ pcs, x.1 ≠ p3 ∧ x.2 ≠ p2 := fun x hx => by
      obtain ⟨k, cs', h1, h2, _⟩ := po.at' x hx
      exact ⟨ne_of_none (s2 _ _ (s1 _ _ h1)) hp3, ne_of_none (s1 _ _ h2) hp2⟩
    refine ⟨_, po3.li, (by rw [List.length_map]; lia), _, (show (min (4 : Int) (ns.length : Int)).toNat - (j + 1) < _ by lia), rfl, (by lia), pcs ++ [(p3, p2)], po3.snoc pa hn (by lia), (by rw [List.length_append, List.length_singleton]; lia), Same.updL (sJ.trans sA) hD⟩
  rintro HJ ⟨pcs, po, pn, sJ⟩
  refine ⟨fun σ HZ => ∃ pcs, σ = [some (.ref a), some (.int 4), some (.ref D)] ∧ Pools HZ D pcs ∧ Same H HZ, ?_, ?_⟩
  · refine ⟨_, rfl, (by show 0 ≤ sizeLine; decide), fun l9 hl9 => ?_⟩
    have s9 := same_new hl9 (.lst [])
    refine ⟨D, l9, _, rfl, rfl, SqL.of (s9 _ _ po.li), SqL.of upd_same, _, rfl, ?_⟩
    have po9 := po.same s9
    cases pcs with
    | nil =>
      refine iteT ?_
      refine ⟨_, rfl, .inl ⟨rfl, _, SqL.of po9.li⟩, (by show 1 ≤ sizeLine; decide), fun p2 hp2 => ⟨(by show 2 ≤ sizeLine; decide), fun p3 hp3 => ?_⟩⟩
      have s2 := same_new hp2 (.lst [.int 0])
      have s3 := same_new hp3 (.lst [.ref p2, .int 0])
      have po3 := po9.same (s2.trans s3)
      have pa : PoolAt (upd (upd (upd HJ l9 (.lst [])) p2 (.lst [.int 0])) p3 (.lst [.ref p2, .int 0])) p3 p2 := ⟨0, [0], upd_same, s3 _ _ upd_same, (by decide), (by decide), by decide⟩
      exact ⟨D, _, _, rfl, rfl, po3.li, (by show 0 < sizeLine; decide), [(p3, p2)], rfl, po3.snoc pa (fun x hx => by cases hx) (by decide), Same.updL (sJ.trans (s9.trans (s2.trans s3))) hD⟩
    | cons x t => exact iteF ⟨x :: t, rfl, po9, sJ.trans s9⟩
  · rintro σ HZ ⟨pcs, rfl, po, sZ⟩
    exact ⟨_, rfl, q D pcs HZ hD po sZ⟩
theorem sl_tupK {X : Cx} {K : PySem.W.Frag} (h : X.K = K) : SlR X (rSlT K) := by
  subst h
  exact sl_tup
structure LnN (r : Addr) (n m a b : Int) (H : Hp) : Prop where
  at' : H r = some (.tup (lnv n m a b))
  ok : LnOk n m a b
def OnAll (m a b u v : Int) : Prop := ∀ x, u < x → x < v → OnG (Rs m a b) u x v
theorem atI_ref {ps : List Addr} {i : Nat} {p : Addr} (h : ps[i]? = some p) : atI (ps.map V.ref) (i : Int) = some (.ref p) := atI_nat (by rw [List.getElem?_map, h]; rfl)
theorem iteFe {c : Bool} {A B : Prop} (h : c = false) (hb : B) : if c = true then A else B := by rw [h]; exact iteF hb
theorem PoolAt.notin {H : Hp} {p c D : Addr} {as : List V} (h : PoolAt H p c) (e : H D = some (.lst as)) (n : ∀ v ∈ as, ∃ a, v = V.ref a) : D ∉ [p, c] := by
  obtain ⟨k, cs, h1, h2, ne, r⟩ := h
  intro z
  rcases List.mem_cons.mp z with z | z
  · rw [z, h1] at e
    cases e
    obtain ⟨a, z⟩ := n (.int k) (by simp)
    cases z
  · rw [List.mem_singleton.mp z, h2] at e
    cases e
    cases cs with
    | nil => exact ne rfl
    | cons x t =>
      obtain ⟨a, z⟩ := n (.int x) (by simp)
      cases z
theorem PoolAt.cross {H : Hp} {p c p' c' : Addr} (h : PoolAt H p c) (h' : PoolAt H p' c') : p ≠ c' := fun z => by
  obtain ⟨k, cs, h1, _⟩ := h
  obtain ⟨k', cs', _, h2, _⟩ := h'
  rw [z, h2] at h1
  cases cs' with
  | nil => cases h1
  | cons a t => cases t <;> cases h1
theorem hu2 {A : Around} {k : Nat} (hr : Room k A) : A.units + 1 + 1 < cLine := by have := hr.un; lia
theorem all_tt (n : Nat) : (List.range n).all (fun _ => true) = true := by simp
theorem b400 {x : Int} (h1 : -(2 ^ 400) < x) (h2 : x < 2 ^ 400) : intBits x ≤ 100000 := Nat.le_trans (intBits_le_iff.mpr (show x.natAbs < 2 ^ 400 by lia)) (by decide)
structure SdB (d : Sd) : Prop where
  x0 : -(2 ^ 60) ≤ d.x
  x1 : d.x ≤ 2 ^ 60
  y0 : -(2 ^ 180) ≤ d.y
  y1 : d.y ≤ 2 ^ 180
  g0 : -(2 ^ 60) ≤ d.g
  g1 : d.g ≤ 2 ^ 60
  e0 : -(2 ^ 60) ≤ d.e
  e1 : d.e ≤ 2 ^ 60
  k0 : -(2 ^ 180) ≤ d.k
  k1 : d.k ≤ 2 ^ 180
  s0 : -(2 ^ 60) ≤ d.s
  s1 : d.s ≤ 2 ^ 60
  t0 : -(2 ^ 180) ≤ d.t
  t1 : d.t ≤ 2 ^ 180
def Sd.ex (d : Sd) : Int := d.x + d.g * d.e
def Sd.ey (d : Sd) : Int := d.y + d.g * d.k
theorem mbs {m n B C : Int} (h1 : -B ≤ m) (h2 : m ≤ B) (n0 : -C ≤ n) (n1 : n ≤ C) : -(B * C) ≤ m * n ∧ m * n ≤ B * C := by
  by_cases c : 0 ≤ n
  · exact mbd h1 h2 c n1
  · have := mbd (m := m) (n := -n) (B := B) (C := C) h1 h2 (by lia) (by lia)
    rw [Int.mul_neg] at this
    lia
theorem SdB.end' {d : Sd} (h : SdB d) : -(2 ^ 121) ≤ d.ex ∧ d.ex ≤ 2 ^ 121 ∧ -(2 ^ 241) ≤ d.ey ∧ d.ey ≤ 2 ^ 241 := by
  have ⟨x0, x1, y0, y1, g0, g1, e0, e1, k0, k1, s0, s1, t0, t1⟩ := h
  have a2 := mbs (m := d.g) (n := d.e) g0 g1 e0 e1
  have a3 := mbs (m := d.g) (n := d.k) g0 g1 k0 k1
  unfold Sd.ex Sd.ey
  lia
structure SideP (m a b : Int) (d : Sd) : Prop where
  g1 : 1 ≤ d.g
  e1 : 1 ≤ d.e
  det : d.e * d.t - d.k * d.s = 1
  s0 : 0 ≤ d.s
  s1 : d.s < d.e
  y : d.y = hgt m a b d.x
  ey : d.ey = hgt m a b d.ex
  u1 : m * (d.x + d.s) + a < (d.y + d.t) * b
  u2 : m * (d.ex - d.e + d.s) + a < (d.ey - d.k + d.t) * b
noncomputable def sideB (m a b : Int) (d : Sd) : Bool := @decide (SideP m a b d) (Classical.propDecidable _)
theorem sideB_t {m a b : Int} {d : Sd} (h : SideP m a b d) : sideB m a b d = true := @decide_eq_true _ (Classical.propDecidable _) h
theorem sideB_f {m a b : Int} {d : Sd} (h : ¬ SideP m a b d) : sideB m a b d = false := @decide_eq_false _ (Classical.propDecidable _) h
structure GoP (d d' : Sd) : Prop where
  x : d'.x = d.ex
  y : d'.y = d.ey
  k : d'.k * d.e < d'.e * d.k
noncomputable def goB (d d' : Sd) : Bool := @decide (GoP d d') (Classical.propDecidable _)
theorem goB_t {d d' : Sd} (h : GoP d d') : goB d d' = true := @decide_eq_true _ (Classical.propDecidable _) h
theorem goB_f {d d' : Sd} (h : ¬ GoP d d') : goB d d' = false := @decide_eq_false _ (Classical.propDecidable _) h
def sd0 : Sd := ⟨0, 0, 0, 0, 0, 0, 0⟩
noncomputable def papB (n m a b : Int) (ds : List Sd) : Bool := if n = 0 ∨ ds = [] then decide (n = 0) && ds.isEmpty else
  (decide ((ds.getD 0 sd0).x = 0) && decide ((ds.getD (ds.length - 1) sd0).ex = n)) && (ds.all (sideB m a b) && (List.range (ds.length - 1)).all fun k => goB (ds.getD k sd0) (ds.getD (k + 1) sd0))
structure MB (m a b : Int) : Prop where
  m0 : -99999999999999999999 ≤ m
  m1 : m ≤ 99999999999999999999
  a0 : -99999999999999999999 ≤ a
  a1 : a ≤ 99999999999999999999
  b0 : 1 ≤ b
  b1 : b ≤ 99999999999999999999
def spEnd : Sp := fun vs H Q _ => ∃ (p : Addr) (d : Sd), vs = [.ref p] ∧ H p = some (.tup (sdv d)) ∧ SdB d ∧ ∀ r, H r = none → Q (.ref r) (upd H r (.tup (i2 (d.ex, d.ey))))
def spIsAb : Sp := fun vs H Q _ => ∃ m a b x y : Int, vs = [.int m, .int a, .int b, .int x, .int y] ∧ MB m a b ∧ -(2 ^ 300) ≤ x ∧ x ≤ 2 ^ 300 ∧ -(2 ^ 300) ≤ y ∧ y ≤ 2 ^ 300 ∧ Q (.bl (decide (m * x + a < y * b))) H
def spIsSd : Sp := fun vs H Q _ => ∃ (m a b : Int) (p : Addr) (d : Sd), vs = [.int m, .int a, .int b, .ref p] ∧ MB m a b ∧ H p = some (.tup (sdv d)) ∧ SdB d ∧ ∀ H', Same H H' → Q (.bl (sideB m a b d)) H'
def spGoes : Sp := fun vs H Q _ => ∃ (p q : Addr) (d d' : Sd), vs = [.ref p, .ref q] ∧ H p = some (.tup (sdv d)) ∧ H q = some (.tup (sdv d')) ∧ SdB d ∧ SdB d' ∧ ∀ H', Same H H' → Q (.bl (goB d d')) H'
theorem comp_tupl {K : PySem.W.Frag} {a D : Addr} {xs : List V} {te' : TE} {tl : L2.St} {G : Hp → Prop} {H1 : Hp} (Pv : Nat → Hp → Prop) (h0 : Pv 0 (upd H1 D (.lst []))) (hl : ∀ i H, i ≤ xs.length → Pv i H → SqT K H a xs)
    (hs : ∀ i x H, xs[i]? = some x → Pv i H → te' (some x :: tl) H fun y H2 => ∃ ys, H2 D = some (.lst ys) ∧ ys.length < sizeLine ∧ ∃ m', m' < xs.length - i ∧ (m' = xs.length - (i + 1) ∧ i + 1 ≤ xs.length ∧ Pv (i + 1) (upd H2 D (.lst (ys ++ [y])))))
    (hd : ∀ H, Pv xs.length H → G H) :
    ∃ W : Nat → Nat → Hp → Prop, (∃ m, W 0 m (upd H1 D (.lst []))) ∧ ∀ i m H, W i m H →
      ((Itt K a).stop i H ∧ G H) ∨ ((Itt K a).go i H ∧ ∀ x H', (Itt K a).yld i H x H' → te' (some x :: tl) H' fun y H2 => ∃ ys, H2 D = some (.lst ys) ∧ ys.length < sizeLine ∧ ∃ m', m' < m ∧ W (i + 1) m' (upd H2 D (.lst (ys ++ [y])))) := by
  refine ⟨fun i m H => m = xs.length - i ∧ i ≤ xs.length ∧ Pv i H, ⟨xs.length, by simp, Nat.zero_le _, h0⟩, ?_⟩
  rintro i m H ⟨rfl, hi, p⟩
  have q := hl i H hi p
  by_cases hlt : i < xs.length
  · refine .inr ⟨⟨xs, xs[i], q, by simp [hlt]⟩, fun x H' y => ?_⟩
    obtain ⟨e, y⟩ := y
    subst e
    exact hs i x _ (y xs q) p
  · have e : i = xs.length := by lia
    subst e
    exact .inl ⟨⟨xs, q, Nat.le_refl _⟩, hd H p⟩
theorem imp_whole : ∀ vs H Q E, spWhole vs H Q E → spWholeG vs H Q E := fun _ _ _ _ ⟨i, hv, q⟩ => ⟨.int i, hv, .int i, q⟩
theorem kit_int_tup (K : PySem.W.Frag) : PySem.W.kitOne K (.type "int") (.type "tuple") = some false := by with_unfolding_all rfl
theorem kit_bl_tup (K : PySem.W.Frag) : PySem.W.kitOne K (.type "bool") (.type "tuple") = some false := by with_unfolding_all rfl
theorem kit_str_tup (K : PySem.W.Frag) : PySem.W.kitOne K (.type "str") (.type "tuple") = some false := by with_unfolding_all rfl
theorem kit_non_tup (K : PySem.W.Frag) : PySem.W.kitOne K (.type "NoneType") (.type "tuple") = some false := by with_unfolding_all rfl
theorem kit_lst_tup (K : PySem.W.Frag) : PySem.W.kitOne K (.type "list") (.type "tuple") = some false := by with_unfolding_all rfl
theorem kit_dct_tup (K : PySem.W.Frag) : PySem.W.kitOne K (.type "dict") (.type "tuple") = some false := by with_unfolding_all rfl
inductive El (H : Hp) : V → Bool → Prop where
  | int (i : Int) : El H (.int i) false
  | bl (b : Bool) : El H (.bl b) false
  | str (x : Str) : El H (.str x) false
  | non : El H .non false
  | lst {a : Addr} {xs : List V} (h : H a = some (.lst xs)) : El H (.ref a) false
  | dct {a : Addr} {kvs : List (Key × V)} (h : H a = some (.dK kvs)) : El H (.ref a) false
  | len {a : Addr} {xs : List V} (h : H a = some (.tup xs)) (n : xs.length ≠ 7) : El H (.ref a) false
  | els {a : Addr} {xs : List V} (h : H a = some (.tup xs)) (n : xs.length = 7) (t : ∀ x ∈ xs, Th H x) : El H (.ref a) (xs.all isI)
theorem El.same {H H' : Hp} {x : V} {b : Bool} (t : El H x b) (s : Same H H') : El H' x b := by
  cases t with
  | int i => exact .int i
  | bl b => exact .bl b
  | str x => exact .str x
  | non => exact .non
  | lst h => exact .lst (s _ _ h)
  | dct h => exact .dct (s _ _ h)
  | len h n => exact .len (s _ _ h) n
  | els h n t => exact .els (s _ _ h) n fun x hx => (t x hx).same s
theorem El.sd {H : Hp} {p : Addr} {d : Sd} (h : H p = some (.tup (sdv d))) : El H (.ref p) true := El.els h rfl fun x hx => by
  unfold sdv at hx
  simp only [List.mem_cons, List.not_mem_nil, or_false] at hx
  rcases hx with h | h | h | h | h | h | h <;> rw [h] <;> exact .int _
def spSevenG : Sp := fun vs H Q _ => ∃ (v : V) (b : Bool), vs = [v] ∧ El H v b ∧ ∀ H', Same H H' → Q (.bl b) H'
theorem ok_is_seven {f : Addr} {fd : FuncData} (F : Fun K "is_seven" "is_seven" s_is_seven f fd) (T : Txt K mg) (H_is_whole : Has P w K mg base 1 "is_whole" ["thing"] spWholeG) : FnOk P w K mg base CX0 2 f fd ["thing"] spSevenG := by
  refine F.ok sc_is_seven (fun vs H Q E h => ?_) (fun cdv A outer s H vs Q E hr h => ?_)
  · obtain ⟨v, b, rfl, _⟩ := h
    rfl
  obtain ⟨v, b, rfl, el, q⟩ := h
  refine ⟨_, (pss_one (ps_ret (pe_and (pe_callB call_isinst rfl T.n_isinstance boot_isinstance (pa_cons (pv 0) (pa_cons (pe_ty rfl T.n_tuple boot_tuple) pa_nil))) (pe_and (pe_cmpR op_eq (pe_callB call_len_seq rfl T.n_len boot_len (pa_cons (pv 0) pa_nil)) pe_int (nomark _)) (pe_one (pe_callB (call_all_bl rfl) rfl T.n_all boot_all (pa_cons (pe_comp0 rfl (by first | rfl | with_unfolding_all rfl) (by decide +kernel) rfl (by decide +kernel) rfl (pi_tup (pv 0)) (fun C s2 H2 fp => (pe_fn H_is_whole (hr.mono (by lia)) rfl (pa_cons (pv 0) pa_nil)))) pa_nil))))))), ?_⟩
  have q0 := q H fun _ _ h => h
  cases el with
  | int i => exact ⟨_, rfl, _, _, _, _, _, rfl, rfl, TyOf.int _, kit_int_tup _, _, rfl, iteF q0⟩
  | bl b => exact ⟨_, rfl, _, _, _, _, _, rfl, rfl, TyOf.bl _, kit_bl_tup _, _, rfl, iteF q0⟩
  | str x => exact ⟨_, rfl, _, _, _, _, _, rfl, rfl, TyOf.str _, kit_str_tup _, _, rfl, iteF q0⟩
  | non => exact ⟨_, rfl, _, _, _, _, _, rfl, rfl, TyOf.non, kit_non_tup _, _, rfl, iteF q0⟩
  | lst h => exact ⟨_, rfl, _, _, _, _, _, rfl, rfl, TyOf.lst h, kit_lst_tup _, _, rfl, iteF q0⟩
  | dct h => exact ⟨_, rfl, _, _, _, _, _, rfl, rfl, TyOf.dK h, kit_dct_tup _, _, rfl, iteF q0⟩
  | @len p xs hp n =>
    refine ⟨_, rfl, _, _, _, _, _, rfl, rfl, TyOf.tup hp, rfl, _, rfl, iteT ?_⟩
    refine ⟨_, rfl, p, _, rfl, .inr (SqT.of hp), rfl, _, rfl, iteDN (fun z => n ?_) q0⟩
    injection z with z
    lia
  | @els p xs hp n t =>
    refine ⟨_, rfl, _, _, _, _, _, rfl, rfl, TyOf.tup hp, rfl, _, rfl, iteT ?_⟩
    refine ⟨_, rfl, p, _, rfl, .inr (SqT.of hp), rfl, _, rfl, iteD (congrArg (fun k : Nat => V.int (k : Int)) n) ?_⟩
    refine ⟨_, rfl, p, rfl, ⟨_, SqT.of hp⟩, fun D hD => ?_⟩
    refine comp_tupl (xs := xs) (fun j HJ => HJ D = some (.lst (((xs.take j).map isI).map V.bl)) ∧ Same H HJ) ⟨upd_same, same_new hD _⟩ ?_ ?_ ?_
    · rintro j HJ hj ⟨hy, sJ⟩
      exact SqT.of (sJ _ _ hp)
    · rintro j v HJ hv ⟨hy, sJ⟩
      have jl := (List.getElem?_eq_some_iff.mp hv).1
      have L1000 : (1000 : Nat) ≤ sizeLine := by decide
      refine ⟨_, rfl, v, rfl, (t v (List.mem_of_getElem? hv)).same sJ, _, hy, (by rw [List.length_map, List.length_map, List.length_take]; lia), xs.length - (j + 1), (by lia), rfl, (by lia), ?_, Same.updL sJ hD⟩
      rw [upd_same, List.take_add_one, hv, Option.toList_some, List.map_append, List.map_append]
      rfl
    · rintro HJ ⟨hy, sJ⟩
      rw [List.take_length] at hy
      refine ⟨D, _, rfl, SqL.of hy, ?_⟩
      rw [show ((xs.map isI).all id) = xs.all isI by rw [List.all_map]; rfl]
      exact q HJ sJ
theorem ok_end_of {f : Addr} {fd : FuncData} (F : Fun K "end_of" "end_of" s_end_of f fd) (T : Txt K mg)  : FnOk P w K mg base CX0 1 f fd ["side"] spEnd := by
  refine F.ok sc_end_of (fun vs H Q E h => ?_) (fun cdv A outer s H vs Q E hr h => ?_)
  · obtain ⟨p, d, rfl, _⟩ := h
    rfl
  obtain ⟨p, d, rfl, hp, B, q⟩ := h
  refine ⟨_, (pss_one (ps_ret (pe_tup (pa_cons (pe_op op_add (pe_ix ix_tup (pv 0) pe_int (fun _ _ => rfl)) (pe_op op_mulB (pe_ix ix_tup (pv 0) pe_int (fun _ _ => rfl)) (pe_ix ix_tup (pv 0) pe_int (fun _ _ => rfl)))) (pa_cons (pe_op op_add (pe_ix ix_tup (pv 0) pe_int (fun _ _ => rfl)) (pe_op op_mulB (pe_ix ix_tup (pv 0) pe_int (fun _ _ => rfl)) (pe_ix ix_tup (pv 0) pe_int (fun _ _ => rfl)))) pa_nil))))), ?_⟩
  have ⟨x0, x1, y0, y1, g0, g1, e0, e1, k0, k1, s0, s1, t0, t1⟩ := B
  refine ⟨_, rfl, p, _, _, _, rfl, rfl, SqT.of hp, rfl, _, rfl, p, _, _, _, rfl, rfl, SqT.of hp, rfl, _, rfl, p, _, _, _, rfl, rfl, SqT.of hp, rfl, _, _, rfl, rfl, ⟨b400 (by lia) (by lia), b400 (by lia) (by lia)⟩, _, _, rfl, rfl, ?_⟩
  refine ⟨_, rfl, p, _, _, _, rfl, rfl, SqT.of hp, rfl, _, rfl, p, _, _, _, rfl, rfl, SqT.of hp, rfl, _, rfl, p, _, _, _, rfl, rfl, SqT.of hp, rfl, _, _, rfl, rfl, ⟨b400 (by lia) (by lia), b400 (by lia) (by lia)⟩, _, _, rfl, rfl, (by show 2 ≤ sizeLine; decide), fun r hr' => q r hr'⟩
theorem ok_is_above {f : Addr} {fd : FuncData} (F : Fun K "is_above" "is_above" s_is_above f fd) (T : Txt K mg)  : FnOk P w K mg base CX0 1 f fd ["m", "a", "b", "x", "y"] spIsAb := by
  refine F.ok sc_is_above (fun vs H Q E h => ?_) (fun cdv A outer s H vs Q E hr h => ?_)
  · obtain ⟨m, a, b, x, y, rfl, _⟩ := h
    rfl
  obtain ⟨m, a, b, x, y, rfl, ⟨m0, m1, a0, a1, b0, b1⟩, x0, x1, y0, y1, q⟩ := h
  refine ⟨_, (pss_one (ps_ret (pe_cmpR op_gt (pe_op op_mulB (pv 4) (pv 2)) (pe_op op_add (pe_op op_mulB (pv 0) (pv 3)) (pv 1)) (nomark _)))), ?_⟩
  exact ⟨_, rfl, _, rfl, _, _, rfl, rfl, ⟨b400 (by lia) (by lia), b400 (by lia) (by lia)⟩, _, rfl, _, rfl, _, _, rfl, rfl, ⟨b400 (by lia) (by lia), b400 (by lia) (by lia)⟩, _, rfl, _, _, rfl, rfl, _, _, rfl, rfl, q⟩
theorem eqVs2 (a b c d : Int) : eqVs [.int a, .int b] [.int c, .int d] = (decide (a = c) && decide (b = d)) := by
  unfold eqVs
  simp [eqV, List.range, List.range.loop]
  rfl
theorem ok_goes_on {f : Addr} {fd : FuncData} (F : Fun K "goes_on" "goes_on" s_goes_on f fd) (T : Txt K mg) (H_end_of : Has P w K mg base 1 "end_of" ["side"] spEnd) : FnOk P w K mg base CX0 2 f fd ["one", "other"] spGoes := by
  refine F.ok sc_goes_on (fun vs H Q E h => ?_) (fun cdv A outer s H vs Q E hr h => ?_)
  · obtain ⟨p, p', d, d', rfl, _⟩ := h
    rfl
  obtain ⟨p, p', d, d', rfl, hp, hp', B, B', q⟩ := h
  refine ⟨_, (pss_one (ps_ret (pe_and (pe_cmpR (op_eqT (Nat.lt_of_succ_lt (hu_of hr))) (pe_tup (pa_cons (pe_ix ix_tup (pv 1) pe_int (fun _ _ => rfl)) (pa_cons (pe_ix ix_tup (pv 1) pe_int (fun _ _ => rfl)) pa_nil))) (pe_fn H_end_of (hr.mono (by lia)) rfl (pa_cons (pv 0) pa_nil)) (nomark _)) (pe_one (pe_cmpR op_gt (pe_op op_mulB (pe_ix ix_tup (pv 1) pe_int (fun _ _ => rfl)) (pe_ix ix_tup (pv 0) pe_int (fun _ _ => rfl))) (pe_op op_mulB (pe_ix ix_tup (pv 1) pe_int (fun _ _ => rfl)) (pe_ix ix_tup (pv 0) pe_int (fun _ _ => rfl))) (nomark _)))))), ?_⟩
  have ⟨x0, x1, y0, y1, g0, g1, e0, e1, k0, k1, s0, s1, t0, t1⟩ := B
  have ⟨x0', x1', y0', y1', g0', g1', e0', e1', k0', k1', s0', s1', t0', t1'⟩ := B'
  refine ⟨_, rfl, p', _, _, _, rfl, rfl, SqT.of hp', rfl, _, rfl, p', _, _, _, rfl, rfl, SqT.of hp', rfl, (by show 2 ≤ sizeLine; decide), fun r1 hr1 => ?_⟩
  have sA := same_new hr1 (.tup [.int d'.x, .int d'.y])
  refine ⟨_, rfl, p, d, rfl, sA _ _ hp, B, fun r2 hr2 => ?_⟩
  have sB := same_new hr2 (.tup (i2 (d.ex, d.ey)))
  have S := sA.trans sB
  refine ⟨r1, r2, _, _, rfl, rfl, SqT.of (sB _ _ upd_same), SqT.of upd_same, rfl, rfl, _, rfl, ?_⟩
  rw [show eqVs [V.int d'.x, V.int d'.y] (i2 (d.ex, d.ey)) = _ from eqVs2 d'.x d'.y d.ex d.ey]
  by_cases c1 : d'.x = d.ex ∧ d'.y = d.ey
  · rw [decide_eq_true c1.1, decide_eq_true c1.2]
    refine iteT ?_
    refine ⟨_, rfl, p', _, _, _, rfl, rfl, SqT.of (S _ _ hp'), rfl, _, rfl, p, _, _, _, rfl, rfl, SqT.of (S _ _ hp), rfl, _, _, rfl, rfl, ⟨b400 (by lia) (by lia), b400 (by lia) (by lia)⟩, ?_⟩
    refine ⟨_, rfl, p', _, _, _, rfl, rfl, SqT.of (S _ _ hp'), rfl, _, rfl, p, _, _, _, rfl, rfl, SqT.of (S _ _ hp), rfl, _, _, rfl, rfl, ⟨b400 (by lia) (by lia), b400 (by lia) (by lia)⟩, _, _, rfl, rfl, ?_⟩
    have qq := q _ S
    by_cases c2 : d'.k * d.e < d'.e * d.k
    · rw [goB_t ⟨c1.1, c1.2, c2⟩] at qq
      exact ret_true c2 qq
    · rw [goB_f fun z => c2 z.k] at qq
      exact ret_false c2 qq
  · have e : (decide (d'.x = d.ex) && decide (d'.y = d.ey)) = false := by
      rw [Bool.and_eq_false_iff]
      by_cases c2 : d'.x = d.ex
      · exact .inr (decide_eq_false fun z => c1 ⟨c2, z⟩)
      · exact .inl (decide_eq_false c2)
    rw [e]
    refine iteF ?_
    have qq := q _ S
    rw [goB_f fun z => c1 ⟨z.x, z.y⟩] at qq
    exact qq
theorem ok_is_side {f : Addr} {fd : FuncData} (F : Fun K "is_side" "is_side" s_is_side f fd) (T : Txt K mg) (H_end_of : Has P w K mg base 1 "end_of" ["side"] spEnd) (H_is_above : Has P w K mg base 1 "is_above" ["m", "a", "b", "x", "y"] spIsAb) : FnOk P w K mg base CX0 2 f fd ["m", "a", "b", "side"] spIsSd := by
  refine F.ok sc_is_side (fun vs H Q E h => ?_) (fun cdv A outer s H vs Q E hr h => ?_)
  · obtain ⟨m, a, b, p, d, rfl, _⟩ := h
    rfl
  obtain ⟨m, a, b, p, d, rfl, M, hp, B, q⟩ := h
  refine ⟨_, (pss_cons (ps_set (i := 4) sc_is_side.nd rfl (Or.inl rfl) (pe_ix ix_tup (pv 3) pe_int (fun _ _ => rfl)))
    (pss_cons (ps_set (i := 5) sc_is_side.nd rfl (Or.inl rfl) (pe_ix ix_tup (pv 3) pe_int (fun _ _ => rfl)))
    (pss_cons (ps_set (i := 6) sc_is_side.nd rfl (Or.inl rfl) (pe_ix ix_tup (pv 3) pe_int (fun _ _ => rfl)))
    (pss_cons (ps_set (i := 7) sc_is_side.nd rfl (Or.inl rfl) (pe_ix ix_tup (pv 3) pe_int (fun _ _ => rfl)))
    (pss_cons (ps_set (i := 8) sc_is_side.nd rfl (Or.inl rfl) (pe_ix ix_tup (pv 3) pe_int (fun _ _ => rfl)))
    (pss_cons (ps_set (i := 9) sc_is_side.nd rfl (Or.inl rfl) (pe_ix ix_tup (pv 3) pe_int (fun _ _ => rfl)))
    (pss_cons (ps_set (i := 10) sc_is_side.nd rfl (Or.inl rfl) (pe_ix ix_tup (pv 3) pe_int (fun _ _ => rfl)))
    (pss_cons (ps_if (PW.pt (pw_or (pt_cmpR op_lt (pv 6) pe_int (nomark _)) (pw_or (pt_cmpR op_lt (pv 7) pe_int (nomark _)) (pw_or (pt_cmpR op_ne (pe_op op_sub (pe_op op_mulB (pv 7) (pv 10)) (pe_op op_mulB (pv 8) (pv 9))) pe_int (nomark _)) (pw_or1 (pt_not (pt_chain op_le op_lt pe_int (pv 9) (pv 7))))))))
      (pss_one (ps_ret pe_bl))
      pss_nil)
    (pss_cons (ps_set (i := 11) sc_is_side.nd rfl (Or.inl rfl) (pe_fn H_end_of (hr.mono (by lia)) rfl (pa_cons (pv 3) pa_nil)))
    (pss_cons (ps_if (PW.pt (pw_or (pt_cmpR op_ne (pv 5) (pe_op op_fdivB (pe_op op_add (pe_op op_mulB (pv 0) (pv 4)) (pv 1)) (pv 2)) (nomark _)) (pw_or1 (pt_cmpR op_ne (pe_ix ix_tup (pv 11) pe_int (fun _ _ => rfl)) (pe_op op_fdivB (pe_op op_add (pe_op op_mulB (pv 0) (pe_ix ix_tup (pv 11) pe_int (fun _ _ => rfl))) (pv 1)) (pv 2)) (nomark _)))))
      (pss_one (ps_ret pe_bl))
      pss_nil)
    (pss_one (ps_ret (pe_and (pe_fn H_is_above (hr.mono (by lia)) rfl (pa_cons (pv 0) (pa_cons (pv 1) (pa_cons (pv 2) (pa_cons (pe_op op_add (pv 4) (pv 9)) (pa_cons (pe_op op_add (pv 5) (pv 10)) pa_nil)))))) (pe_one (pe_fn H_is_above (hr.mono (by lia)) rfl (pa_cons (pv 0) (pa_cons (pv 1) (pa_cons (pv 2) (pa_cons (pe_op op_add (pe_op op_sub (pe_ix ix_tup (pv 11) pe_int (fun _ _ => rfl)) (pv 7)) (pv 9)) (pa_cons (pe_op op_add (pe_op op_sub (pe_ix ix_tup (pv 11) pe_int (fun _ _ => rfl)) (pv 8)) (pv 10)) pa_nil)))))))))))))))))))), ?_⟩
  have ⟨m0, m1, a0, a1, b0, b1⟩ := M
  have ⟨x0, x1, y0, y1, g0, g1, e0, e1, k0, k1, s0, s1, t0, t1⟩ := B
  have ee := B.end'
  have lg := log_small (m := b) (by lia) (by lia)
  refine ⟨_, rfl, p, _, _, _, rfl, rfl, SqT.of hp, rfl, ?_⟩
  refine ⟨_, rfl, p, _, _, _, rfl, rfl, SqT.of hp, rfl, ?_⟩
  refine ⟨_, rfl, p, _, _, _, rfl, rfl, SqT.of hp, rfl, ?_⟩
  refine ⟨_, rfl, p, _, _, _, rfl, rfl, SqT.of hp, rfl, ?_⟩
  refine ⟨_, rfl, p, _, _, _, rfl, rfl, SqT.of hp, rfl, ?_⟩
  refine ⟨_, rfl, p, _, _, _, rfl, rfl, SqT.of hp, rfl, ?_⟩
  refine ⟨_, rfl, p, _, _, _, rfl, rfl, SqT.of hp, rfl, ?_⟩
  have no : ∀ {H' : Hp}, Same H H' → ¬ SideP m a b d → Q (.bl false) H' := fun sm h => by
    have := q _ sm
    rw [sideB_f h] at this
    exact this
  have S0 : Same H H := fun _ _ h => h
  refine ⟨_, rfl, _, _, rfl, rfl, _, rfl, ?_⟩
  walk_at "c" <;> intro c1
  · exact no S0 fun z => by have := z.g1; lia
  refine ⟨_, rfl, _, _, rfl, rfl, _, rfl, ?_⟩
  walk_at "c" <;> intro c2
  · exact no S0 fun z => by have := z.e1; lia
  refine ⟨_, rfl, _, rfl, _, _, rfl, rfl, ⟨b400 (by lia) (by lia), b400 (by lia) (by lia)⟩, _, rfl, _, rfl, _, _, rfl, rfl, ⟨b400 (by lia) (by lia), b400 (by lia) (by lia)⟩, _, _, rfl, rfl, rfl, _, rfl, ?_⟩
  by_cases c3 : d.e * d.t - d.k * d.s = 1
  · refine iteNS (congrArg V.int c3) ?_
    refine ⟨_, rfl, _, _, rfl, rfl, _, rfl, ?_⟩
    by_cases c0 : 0 ≤ d.s
    rotate_left
    · exact iteDN c0 ⟨_, rfl, iteT (no S0 fun z => c0 z.s0)⟩
    refine iteD c0 ?_
    refine ⟨_, rfl, _, _, rfl, rfl, _, rfl, ?_⟩
    refine iteCN (c := d.s < d.e) (fun c4 => no S0 fun z => c4 z.s1) (fun c4 => ?_)
    refine ⟨_, rfl, p, d, rfl, hp, B, fun r hr' => ?_⟩
    have sE := same_new hr' (.tup (i2 (d.ex, d.ey)))
    refine ⟨_, rfl, _, rfl, _, rfl, _, _, rfl, rfl, ⟨b400 (by lia) (by lia), b400 (by lia) (by lia)⟩, _, rfl, _, _, rfl, rfl, _, rfl, _, _, rfl, rfl, ⟨by lia, lg⟩, rfl, _, rfl, ?_⟩
    by_cases c5 : d.y = hgt m a b d.x
    · refine iteNS (congrArg V.int c5) ?_
      refine ⟨_, rfl, r, _, _, _, rfl, rfl, SqT.of upd_same, rfl, _, rfl, _, rfl, r, _, _, _, rfl, rfl, SqT.of upd_same, rfl, _, _, rfl, rfl, ⟨b400 (by lia) (by lia), b400 (by lia) (by lia)⟩, _, rfl, _, _, rfl, rfl, _, rfl, _, _, rfl, rfl, ⟨by lia, lg⟩, rfl, _, rfl, ?_⟩
      by_cases c6 : d.ey = hgt m a b d.ex
      · refine iteNS (congrArg V.int c6) ?_
        refine ⟨_, rfl, _, rfl, _, rfl, _, rfl, _, rfl, _, _, rfl, rfl, _, rfl, _, rfl, _, _, rfl, rfl, m, a, b, _, _, rfl, M, by lia, by lia, by lia, by lia, _, rfl, ?_⟩
        by_cases c7 : m * (d.x + d.s) + a < (d.y + d.t) * b
        · refine iteD c7 ?_
          refine ⟨_, rfl, _, rfl, _, rfl, _, rfl, r, _, _, _, rfl, rfl, SqT.of upd_same, rfl, _, rfl, _, _, rfl, rfl, _, rfl, _, _, rfl, rfl, _, rfl, r, _, _, _, rfl, rfl, SqT.of upd_same, rfl, _, rfl, _, _, rfl, rfl, _, rfl, _, _, rfl, rfl, m, a, b, _, _, rfl, M, by lia, by lia, by lia, by lia, ?_⟩
          by_cases c8 : m * (d.ex - d.e + d.s) + a < (d.ey - d.k + d.t) * b
          · have qq := q _ sE
            rw [sideB_t ⟨by lia, by lia, c3, c0, c4, c5, c6, c7, c8⟩] at qq
            exact ret_true c8 qq
          · exact ret_false c8 (no sE fun z => c8 z.u2)
        · exact iteDN c7 (no sE fun z => c7 z.u1)
      · exact iteN (fun z => c6 (by injection z)) (no sE fun z => c6 z.ey)
    · exact iteN (fun z => c5 (by injection z)) (no sE fun z => c5 z.y)
  · exact iteN (fun z => c3 (by injection z)) (no S0 fun z => c3 z.det)
inductive Pth (H : Hp) : V → Option (List Sd) → Prop where
  | int (i : Int) : Pth H (.int i) none
  | bl (b : Bool) : Pth H (.bl b) none
  | str (x : Str) : Pth H (.str x) none
  | non : Pth H .non none
  | tup {a : Addr} {xs : List V} (h : H a = some (.tup xs)) : Pth H (.ref a) none
  | dct {a : Addr} {kvs : List (Key × V)} (h : H a = some (.dK kvs)) : Pth H (.ref a) none
  | bad {a : Addr} {xs : List V} {bs : List Bool} (h : H a = some (.lst xs)) (l : bs.length = xs.length) (n : xs.length ≤ 500) (t : ∀ (i : Nat) x b, xs[i]? = some x → bs[i]? = some b → El H x b) (f : bs.all id = false) : Pth H (.ref a) none
  | rows {a : Addr} {ds : List Sd} (h : ALg sdv H a ds) (B : ∀ d ∈ ds, SdB d) (n : ds.length ≤ 500) : Pth H (.ref a) (some ds)
noncomputable def papO (n m a b : Int) : Option (List Sd) → Bool
  | none => false
  | some ds => papB n m a b ds
theorem kit_int_lst (K : PySem.W.Frag) : PySem.W.kitOne K (.type "int") (.type "list") = some false := by with_unfolding_all rfl
theorem kit_bl_lst (K : PySem.W.Frag) : PySem.W.kitOne K (.type "bool") (.type "list") = some false := by with_unfolding_all rfl
theorem kit_str_lst (K : PySem.W.Frag) : PySem.W.kitOne K (.type "str") (.type "list") = some false := by with_unfolding_all rfl
theorem kit_non_lst (K : PySem.W.Frag) : PySem.W.kitOne K (.type "NoneType") (.type "list") = some false := by with_unfolding_all rfl
theorem kit_dct_lst (K : PySem.W.Frag) : PySem.W.kitOne K (.type "dict") (.type "list") = some false := by with_unfolding_all rfl
def spIsPapG : Sp := fun vs H Q _ => ∃ (n m a b : Int) (v : V) (o : Option (List Sd)), vs = [.int n, .int m, .int a, .int b, v] ∧ LnOk n m a b ∧ Pth H v o ∧ ∀ H', Same H H' → Q (.bl (papO n m a b o)) H'
theorem all_id {α : Type} (f : α → Bool) (xs : List α) : (xs.map f).all id = xs.all f := by rw [List.all_map]; rfl
theorem ok_is_paper {f : Addr} {fd : FuncData} (F : Fun K "is_paper" "is_paper" s_is_paper f fd) (T : Txt K mg) (H_need_line : Has P w K mg base 4 "need_line" ["n", "m", "a", "b"] spNeedL) (H_goes_on : Has P w K mg base 2 "goes_on" ["one", "other"] spGoes) (H_end_of : Has P w K mg base 1 "end_of" ["side"] spEnd) (H_is_side : Has P w K mg base 2 "is_side" ["m", "a", "b", "side"] spIsSd) (H_is_seven : Has P w K mg base 2 "is_seven" ["thing"] spSevenG) : FnOk P w K mg base CX0 5 f fd ["n", "m", "a", "b", "thing"] spIsPapG := by
  refine F.ok sc_is_paper (fun vs H Q E h => ?_) (fun cdv A outer s H vs Q E hr h => ?_)
  · obtain ⟨n, m, a, b, v, o, rfl, _⟩ := h
    rfl
  obtain ⟨n, m, a, b, v, o, rfl, L, hv, q⟩ := h
  refine ⟨_, (pss_cons (ps_expr (pe_fn H_need_line (hr.mono (by lia)) rfl (pa_cons (pv 0) (pa_cons (pv 1) (pa_cons (pv 2) (pa_cons (pv 3) pa_nil))))))
    (pss_cons (ps_if (PW.pt (pw_or (pt_not (pt_val (pe_callB call_isinst rfl T.n_isinstance boot_isinstance (pa_cons (pv 4) (pa_cons (pe_ty rfl T.n_list boot_list) pa_nil))))) (pw_or1 (pt_not (pt_val (pe_callB (call_all_bl rfl) rfl T.n_all boot_all (pa_cons (pe_comp0 rfl (by first | rfl | with_unfolding_all rfl) (by decide +kernel) rfl (by decide +kernel) rfl (pi_list (pv 4)) (fun C s2 H2 fp => (pe_fn H_is_seven (hr.mono (by lia)) rfl (pa_cons (pv 0) pa_nil)))) pa_nil)))))))
      (pss_one (ps_ret pe_bl))
      pss_nil)
    (pss_cons (ps_if (PW.pt (pw_or (pt_cmpR op_eq (pv 0) pe_int (nomark _)) (pw_or1 (pt_cmpR (op_eq0 (Nat.lt_of_succ_lt (hu_of hr))) (pv 4) (pe_lst pa_nil) (nomark _)))))
      (pss_one (ps_ret (pe_and (pe_cmpR op_eq (pv 0) pe_int (nomark _)) (pe_one (pe_cmpR (op_eq0 (Nat.lt_of_succ_lt (hu_of hr))) (pv 4) (pe_lst pa_nil) (nomark _))))))
      pss_nil)
    (pss_cons (ps_if (PW.pt (pw_or (pt_cmpR op_ne (pe_ix ix_tup (pe_ix ix_list (pv 4) pe_int (fun _ _ => rfl)) pe_int (fun _ _ => rfl)) pe_int (nomark _)) (pw_or1 (pt_cmpR op_ne (pe_ix ix_tup (pe_fn H_end_of (hr.mono (by lia)) rfl (pa_cons (pe_ix ix_list (pv 4) (pe_un un_neg pe_int) (fun _ _ => rfl)) pa_nil)) pe_int (fun _ _ => rfl)) (pv 0) (nomark _)))))
      (pss_one (ps_ret pe_bl))
      pss_nil)
    (pss_cons (ps_if (pt_not (pt_val (pe_callB (call_all_bl rfl) rfl T.n_all boot_all (pa_cons (pe_compC [1, 3, 2] ["m", "b", "a"] rfl (by first | rfl | with_unfolding_all rfl) (by rfl) (by exact (List.forall_mem_cons.mpr ⟨rfl, (List.forall_mem_cons.mpr ⟨rfl, (List.forall_mem_cons.mpr ⟨rfl, (fun _ h => nomatch h)⟩)⟩)⟩)) (by decide +kernel) rfl (by decide +kernel) rfl (by decide +kernel) (by exact (List.forall_mem_cons.mpr ⟨⟨by first | exact Or.inl rfl | exact Or.inr rfl, rfl⟩, (List.forall_mem_cons.mpr ⟨⟨by first | exact Or.inl rfl | exact Or.inr rfl, rfl⟩, (List.forall_mem_cons.mpr ⟨⟨by first | exact Or.inl rfl | exact Or.inr rfl, rfl⟩, (fun _ h => nomatch h)⟩)⟩)⟩)) rfl (by rfl) (pi_list (pv 4)) (fun C s2 H2 fp => (pe_fn H_is_side (hr.mono (by lia)) rfl (pa_cons (pv 1) (pa_cons (pv 3) (pa_cons (pv 2) (pa_cons (pv 0) pa_nil))))))) pa_nil))))
      (pss_one (ps_ret pe_bl))
      pss_nil)
    (pss_one (ps_ret (pe_callB (call_all_bl rfl) rfl T.n_all boot_all (pa_cons (pe_compC [4] ["thing"] rfl (by first | rfl | with_unfolding_all rfl) (by rfl) (by exact (List.forall_mem_cons.mpr ⟨rfl, (fun _ h => nomatch h)⟩)) (by decide +kernel) rfl (by decide +kernel) rfl (by decide +kernel) (by exact (List.forall_mem_cons.mpr ⟨⟨by first | exact Or.inl rfl | exact Or.inr rfl, rfl⟩, (fun _ h => nomatch h)⟩)) rfl (by rfl) (pi_range1 rfl T.n_range (pa_cons (pe_op op_sub (pe_callB call_len_seq rfl T.n_len boot_len (pa_cons (pv 4) pa_nil)) pe_int) pa_nil)) (fun C s2 H2 fp => (pe_fn H_goes_on (hr.mono (by lia)) rfl (pa_cons (pe_ix (ix_listK (K := K) rfl) (pv 1) (pv 0) (fun _ _ => rfl)) (pa_cons (pe_ix (ix_listK (K := K) rfl) (pv 1) (pe_op op_add (pv 0) pe_int) (fun _ _ => rfl)) pa_nil))))) pa_nil))))))))), ?_⟩
  refine ⟨_, rfl, _, rfl, _, rfl, _, rfl, n, m, a, b, rfl, L, ?_⟩
  have ⟨n0, n1, m0, m1, a0, a1, b0, b1⟩ := L
  have M : MB m a b := ⟨m0, m1, a0, a1, b0, b1⟩
  have L1000 : (1000 : Nat) ≤ sizeLine := by decide
  have q0 := q H fun _ _ h => h
  have walk2 : ∀ (l : Addr) (xs : List V) (bs : List Bool), H l = some (.lst xs) → bs.length = xs.length → xs.length ≤ 500 → (∀ (i : Nat) x b, xs[i]? = some x → bs[i]? = some b → El H x b) → ∀ (D : Addr), H D = none → ∀ (j : Nat) (v : V) (HJ : Hp), xs[j]? = some v → HJ D = some (.lst ((bs.take j).map V.bl)) → Same H HJ → ∃ b, El HJ v b ∧ bs[j]? = some b := by
    intro l xs bs hl bl xl t D hD j v HJ hv hy sJ
    have jl := (List.getElem?_eq_some_iff.mp hv).1
    have e : bs[j]? = some (bs[j]'(by lia)) := List.getElem?_eq_getElem _
    exact ⟨_, (t j v _ hv e).same sJ, e⟩
  cases hv with
  | int i => exact ⟨_, rfl, _, _, _, _, _, rfl, rfl, TyOf.int _, kit_int_lst _, _, rfl, iteT q0⟩
  | bl b => exact ⟨_, rfl, _, _, _, _, _, rfl, rfl, TyOf.bl _, kit_bl_lst _, _, rfl, iteT q0⟩
  | str x => exact ⟨_, rfl, _, _, _, _, _, rfl, rfl, TyOf.str _, kit_str_lst _, _, rfl, iteT q0⟩
  | non => exact ⟨_, rfl, _, _, _, _, _, rfl, rfl, TyOf.non, kit_non_lst _, _, rfl, iteT q0⟩
  | tup h => exact ⟨_, rfl, _, _, _, _, _, rfl, rfl, TyOf.tup h, rfl, _, rfl, iteT q0⟩
  | dct h => exact ⟨_, rfl, _, _, _, _, _, rfl, rfl, TyOf.dK h, kit_dct_lst _, _, rfl, iteT q0⟩
  | @bad l xs bs hp bl xl t f =>
    refine ⟨_, rfl, _, _, _, _, _, rfl, rfl, TyOf.lst hp, rfl, _, rfl, iteF ?_⟩
    refine ⟨_, rfl, l, rfl, ⟨_, SqL.of hp⟩, fun D hD => ?_⟩
    refine comp_list (xs := xs) (fun j HJ => HJ D = some (.lst ((bs.take j).map V.bl)) ∧ Same H HJ) ⟨upd_same, same_new hD _⟩ ?_ ?_ ?_
    · rintro j HJ hj ⟨hy, sJ⟩
      exact SqL.of (sJ _ _ hp)
    · rintro j v HJ hv ⟨hy, sJ⟩
      have jl := (List.getElem?_eq_some_iff.mp hv).1
      obtain ⟨bj, el, e⟩ := walk2 l xs bs hp bl xl t D hD j v HJ hv hy sJ
      refine ⟨_, rfl, v, bj, rfl, el, fun H2 s2 => ?_⟩
      refine ⟨_, s2 _ _ hy, (by rw [List.length_map, List.length_take]; lia), xs.length - (j + 1), (by lia), rfl, (by lia), ?_, Same.updL (sJ.trans s2) hD⟩
      rw [upd_same, List.take_add_one, e, Option.toList_some, List.map_append]
      rfl
    rintro H1 ⟨hy, s1⟩
    rw [← bl, List.take_length] at hy
    refine ⟨D, _, rfl, SqL.of hy, _, rfl, ?_⟩
    rw [f]
    exact iteT (q _ s1)
  | @rows l ds al B dl =>
  obtain ⟨ps, hp, pl⟩ := al
  have pn := pl.1
  refine ⟨_, rfl, _, _, _, _, _, rfl, rfl, TyOf.lst hp, rfl, _, rfl, iteF ?_⟩
  refine ⟨_, rfl, l, rfl, ⟨_, SqL.of hp⟩, fun D hD => ?_⟩
  refine comp_list (xs := ps.map V.ref) (fun j HJ => HJ D = some (.lst ((List.replicate j true).map V.bl)) ∧ Same H HJ) ⟨upd_same, same_new hD _⟩ ?_ ?_ ?_
  · rintro j HJ hj ⟨hy, sJ⟩
    exact SqL.of (sJ _ _ hp)
  · rintro j v HJ hv ⟨hy, sJ⟩
    have jl := (List.getElem?_eq_some_iff.mp hv).1
    rw [List.length_map] at jl
    rw [List.getElem?_map] at hv
    cases e1 : ps[j]? with
    | none => rw [e1] at hv; cases hv
    | some p =>
      rw [e1] at hv
      cases hv
      obtain ⟨d, ed, hd⟩ := pl.get' e1
      refine ⟨_, rfl, .ref p, true, rfl, El.sd (sJ _ _ hd), fun H2 s2 => ?_⟩
      refine ⟨_, s2 _ _ hy, (by rw [List.length_map, List.length_replicate]; lia), (ps.map V.ref).length - (j + 1), (by rw [List.length_map]; lia), rfl, (by rw [List.length_map]; lia), ?_, Same.updL (sJ.trans s2) hD⟩
      rw [upd_same, List.replicate_succ', List.map_append]
      rfl
  rintro H1 ⟨hy, s1⟩
  refine ⟨D, _, rfl, SqL.of hy, _, rfl, ?_⟩
  have allT : (List.replicate (ps.map V.ref).length true).all id = true := by
    rw [List.all_eq_true]
    intro x hx
    rw [(List.mem_replicate.mp hx).2]
    rfl
  rw [allT]
  refine iteF ?_
  replace q : ∀ H', Same H H' → Q (.bl (papB n m a b ds)) H' := q
  have hp1 := s1 _ _ hp
  have pe : (ps.map V.ref).isEmpty = ds.isEmpty := by
    cases ps with
    | nil => cases ds with
      | nil => rfl
      | cons d t => cases pn
    | cons p t => cases ds with
      | nil => cases pn
      | cons d t => rfl
  refine ⟨_, rfl, rfl, _, rfl, ?_⟩
  by_cases c0 : n = 0
  · refine iteD (congrArg V.int c0) ?_
    refine ⟨_, rfl, rfl, _, rfl, iteD (congrArg V.int c0) ?_⟩
    refine ⟨_, rfl, (by show 0 ≤ sizeLine; decide), fun l9 hl9 => ?_⟩
    have s9 := same_new hl9 (.lst [])
    refine ⟨l, l9, _, rfl, rfl, SqL.of (s9 _ _ hp1), SqL.of upd_same, ?_⟩
    have qq := q _ (s1.trans s9)
    unfold papB at qq
    rw [if_pos (.inl c0), decide_eq_true c0, Bool.true_and, ← pe] at qq
    exact qq
  have nz : ¬ V.int n = V.int 0 := fun z => c0 (by injection z)
  refine iteDN nz ?_
  refine ⟨_, rfl, (by show 0 ≤ sizeLine; decide), fun l9 hl9 => ?_⟩
  have s9 := same_new hl9 (.lst [])
  refine ⟨l, l9, _, rfl, rfl, SqL.of (s9 _ _ hp1), SqL.of upd_same, _, rfl, ?_⟩
  have S9 := s1.trans s9
  by_cases c1 : ds = []
  · have e : (ps.map V.ref).isEmpty = true := by rw [pe, c1]; rfl
    have qq := q _ S9
    unfold papB at qq
    rw [if_pos (.inr c1), decide_eq_false c0, Bool.false_and] at qq
    show if (ps.map V.ref).isEmpty = true then _ else _
    rw [if_pos e]
    exact ⟨_, rfl, rfl, _, rfl, iteDN nz qq⟩
  have e : (ps.map V.ref).isEmpty = false := by
    rw [pe]
    cases ds with
    | nil => exact absurd rfl c1
    | cons d t => rfl
  refine iteFe e ?_
  have q := fun H' (sm : Same H H') => q H' sm
  unfold papB at q
  rw [if_neg (by rintro (z | z); (· exact c0 z); (· exact c1 z))] at q
  have l1 : 1 ≤ ds.length := by
    cases ds with
    | nil => exact absurd rfl c1
    | cons d t => simp
  have gd : ∀ i : Nat, i < ds.length → ∃ p, ps[i]? = some p ∧ ds[i]? = some (ds.getD i sd0) ∧ H p = some (.tup (sdv (ds.getD i sd0))) ∧ SdB (ds.getD i sd0) := fun i hi => by
    have e : ds[i]? = some (ds.getD i sd0) := by rw [List.getD_eq_getElem?_getD, List.getElem?_eq_getElem hi]; rfl
    obtain ⟨p, ep, h⟩ := pl.get e
    exact ⟨p, ep, e, h, B _ (List.mem_of_getElem? e)⟩
  obtain ⟨p0, ep0, _, h0, B0⟩ := gd 0 (by lia)
  obtain ⟨pz, epz, _, hz, Bz⟩ := gd (ds.length - 1) (by lia)
  have hl9' := S9 _ _ hp
  refine ⟨_, rfl, l, _, _, _, rfl, rfl, SqL.of hl9', atI_ref ep0, p0, _, _, _, rfl, rfl, SqT.of (S9 _ _ h0), rfl, rfl, _, rfl, ?_⟩
  by_cases c2 : ¬ (ds.getD 0 sd0).x = 0
  · have qq := q _ S9
    rw [decide_eq_false c2, Bool.false_and, Bool.false_and] at qq
    exact iteN (fun z => c2 (by injection z)) qq
  have c2 := Classical.not_not.mp c2
  refine iteNS (congrArg V.int c2) ?_
  have az : atI (ps.map V.ref) (-1) = some (.ref pz) := atI_neg (k := 1) (by decide) (by rw [List.length_map]; lia) (by rw [List.length_map, List.getElem?_map, pn, epz]; rfl)
  refine ⟨_, rfl, _, rfl, l, _, _, _, rfl, rfl, SqL.of hl9', az, pz, _, rfl, S9 _ _ hz, Bz, fun r hr' => ?_⟩
  have sE := same_new hr' (.tup (i2 ((ds.getD (ds.length - 1) sd0).ex, (ds.getD (ds.length - 1) sd0).ey)))
  have SE := S9.trans sE
  refine ⟨r, _, _, _, rfl, rfl, SqT.of upd_same, rfl, _, rfl, rfl, _, rfl, ?_⟩
  by_cases c3 : ¬ (ds.getD (ds.length - 1) sd0).ex = n
  · have qq := q _ SE
    rw [decide_eq_false c3, Bool.and_false, Bool.false_and] at qq
    exact iteN (fun z => c3 (by injection z)) qq
  have c3 := Classical.not_not.mp c3
  refine iteNS (congrArg V.int c3) ?_
  rw [decide_eq_true c2, decide_eq_true c3, Bool.true_and, Bool.true_and] at q
  have hpE := SE _ _ hp
  refine ⟨_, rfl, l, rfl, ⟨_, SqL.of hpE⟩, fun D2 hD2 => ?_⟩
  refine comp_list (xs := ps.map V.ref) (fun j HJ => HJ D2 = some (.lst (((ds.take j).map (sideB m a b)).map V.bl)) ∧ Same H HJ) ⟨upd_same, SE.trans (same_new hD2 _)⟩ ?_ ?_ ?_
  · rintro j HJ hj ⟨hy, sJ⟩
    exact SqL.of (sJ _ _ hp)
  · rintro j v HJ hv ⟨hy, sJ⟩
    have jl := (List.getElem?_eq_some_iff.mp hv).1
    rw [List.length_map] at jl
    rw [List.getElem?_map] at hv
    cases e1 : ps[j]? with
    | none => rw [e1] at hv; cases hv
    | some p =>
      rw [e1] at hv
      cases hv
      obtain ⟨d, ed, hd⟩ := pl.get' e1
      refine ⟨_, rfl, _, rfl, _, rfl, _, rfl, m, a, b, p, d, rfl, M, sJ _ _ hd, B d (List.mem_of_getElem? ed), fun H2 s2 => ?_⟩
      refine ⟨_, s2 _ _ hy, (by rw [List.length_map, List.length_map, List.length_take]; lia), (ps.map V.ref).length - (j + 1), (by rw [List.length_map]; lia), rfl, (by rw [List.length_map]; lia), ?_, Same.updL (sJ.trans s2) (Same.none SE hD2)⟩
      rw [upd_same, List.take_add_one, ed, Option.toList_some, List.map_append, List.map_append]
      rfl
  rintro H2 ⟨hy2, s2⟩
  rw [List.length_map, pn, List.take_length] at hy2
  refine ⟨D2, _, rfl, SqL.of hy2, _, rfl, ?_⟩
  rw [all_id]
  cases c4 : ds.all (sideB m a b) with
  | false =>
    have qq := q _ s2
    rw [c4, Bool.false_and] at qq
    exact iteT qq
  | true =>
    rw [c4] at q
    refine iteF ?_
    have hp2 := s2 _ _ hp
    refine ⟨_, rfl, l, _, rfl, .inl (SqL.of hp2), _, _, rfl, rfl, _, rfl, (by rw [List.length_map]; lia), (by rw [List.length_map]; lia), fun D3 hD3 => ?_⟩
    have rE : ((((ps.map V.ref).length : Nat) : Int) - 1).toNat = ds.length - 1 := by rw [List.length_map]; lia
    rw [rE]
    refine comp_rng (fun j HJ => HJ D3 = some (.lst (((List.range j).map fun k => goB (ds.getD k sd0) (ds.getD (k + 1) sd0)).map V.bl)) ∧ Same H HJ) ⟨upd_same, s2.trans (same_new hD3 _)⟩ ?_ ?_
    · rintro j HJ hj ⟨hy, sJ⟩
      obtain ⟨p1, ep1, _, h1, B1⟩ := gd j (by lia)
      obtain ⟨p2, ep2, _, h2, B2⟩ := gd (j + 1) (by lia)
      have a1 : atI (ps.map V.ref) (0 + (j : Int)) = some (.ref p1) := by rw [Int.zero_add]; exact atI_ref ep1
      have a2 : atI (ps.map V.ref) (0 + (j : Int) + 1) = some (.ref p2) := by rw [Int.zero_add]; exact atI_ref ep2
      have hpJ := sJ _ _ hp
      refine ⟨_, rfl, _, rfl, l, _, _, _, rfl, rfl, SqL.of hpJ, a1, _, rfl, _, rfl, _, _, rfl, rfl, l, _, _, _, rfl, rfl, SqL.of hpJ, a2, p1, p2, _, _, rfl, sJ _ _ h1, sJ _ _ h2, B1, B2, fun H4 s4 => ?_⟩
      refine ⟨_, s4 _ _ hy, (by rw [List.length_map, List.length_map, List.length_range]; lia), _, (show ds.length - 1 - (j + 1) < _ by lia), rfl, (by lia), ?_, Same.updL (sJ.trans s4) (Same.none s2 hD3)⟩
      rw [upd_same, List.range_succ, List.map_append, List.map_append]
      rfl
    · rintro H5 ⟨hy5, s5⟩
      refine ⟨D3, _, rfl, SqL.of hy5, ?_⟩
      rw [all_id]
      exact q _ s5
def spLn1 : Sp := fun vs H Q _ => ∃ (p c : Addr), vs = [.ref p] ∧ PoolAt H p c ∧ ∀ (r : Addr) (n m a b : Int) H', H r = none → H' r = some (.tup (lnv n m a b)) → 0 ≤ n → n ≤ 300 → 1 ≤ b → b ≤ 1024 → -5000 ≤ m → m ≤ 5000 → -5000 ≤ a → a ≤ 5000 → PoolAt H' p c → SameN [p, c] H H' → Q (.ref r) H'
theorem ok__law_line {f : Addr} {fd : FuncData} (F : Fun K "_law_line" "_law_line" s__law_line f fd) (T : Txt K mg) (H__law_take : Has P w K mg base 2 "_law_take" ["_law_pool", "_law_most"] spTk) : FnOk P w K mg base CX0 3 f fd ["_law_pool"] spLn1 := by
  refine F.ok sc__law_line (fun vs H Q E h => ?_) (fun cdv A outer s H vs Q E hr h => ?_)
  · obtain ⟨p, c, rfl, _⟩ := h
    rfl
  obtain ⟨p, c, rfl, pa, q⟩ := h
  refine ⟨_, (pss_cons (ps_set (i := 1) sc__law_line.nd rfl (Or.inl rfl) (pe_fn H__law_take (hr.mono (by lia)) rfl (pa_cons (pv 0) (pa_cons (pe_ix ix_list (pe_lst (pa_consN pe_int (pa_consN pe_int (pa_consN pe_int (pa_consN pe_int (pa_consN pe_int (pa_consN pe_int (pa_consN pe_int (pa_consN pe_int pa_nil))))))))) (pe_fn H__law_take (hr.mono (by lia)) rfl (pa_cons (pv 0) (pa_cons pe_int pa_nil))) (fun _ _ => rfl)) pa_nil))))
    (pss_cons (ps_set (i := 2) sc__law_line.nd rfl (Or.inl rfl) (pe_op op_add pe_int (pe_fn H__law_take (hr.mono (by lia)) rfl (pa_cons (pv 0) (pa_cons (pe_ix ix_list (pe_lst (pa_cons pe_int (pa_cons pe_int (pa_cons pe_int (pa_cons pe_int pa_nil))))) (pe_fn H__law_take (hr.mono (by lia)) rfl (pa_cons (pv 0) (pa_cons pe_int pa_nil))) (fun _ _ => rfl)) pa_nil)))))
    (pss_join (ps_if (pt_cmpR op_eq (pe_fn H__law_take (hr.mono (by lia)) rfl (pa_cons (pv 0) (pa_cons pe_int pa_nil))) pe_int (nomark _))
      (pss_one (ps_set (i := 2) sc__law_line.nd rfl (Or.inl rfl) (pe_op op_shl pe_int (pe_fn H__law_take (hr.mono (by lia)) rfl (pa_cons (pv 0) (pa_cons pe_int pa_nil))))))
      pss_nil)
    (pss_cons (ps_set (i := 3) sc__law_line.nd rfl (Or.inl rfl) (pe_op op_sub (pe_fn H__law_take (hr.mono (by lia)) rfl (pa_cons (pv 0) (pa_cons (pe_op op_add (pe_op op_mul pe_int (pv 2)) pe_int) pa_nil))) (pv 2)))
    (pss_join (ps_if (pt_cmpR op_eq (pe_fn H__law_take (hr.mono (by lia)) rfl (pa_cons (pv 0) (pa_cons pe_int pa_nil))) pe_int (nomark _))
      (pss_one (ps_set (i := 3) sc__law_line.nd rfl (Or.inl rfl) (pe_ix ix_list (pe_lst (pa_consN (pe_op op_sub (pv 2) pe_int) (pa_consN (pe_op op_add (pv 2) pe_int) (pa_consN pe_int (pa_consN (pe_op op_sub pe_int (pv 2)) (pa_consN (pe_op op_sub pe_int pe_int) (pa_consN pe_int pa_nil))))))) (pe_fn H__law_take (hr.mono (by lia)) rfl (pa_cons (pv 0) (pa_cons pe_int pa_nil))) (fun _ _ => rfl))))
      pss_nil)
    (pss_one (ps_ret (pe_tup (pa_cons (pv 1) (pa_cons (pv 3) (pa_cons (pe_op op_sub (pe_fn H__law_take (hr.mono (by lia)) rfl (pa_cons (pv 0) (pa_cons (pe_op op_add (pe_op op_mul pe_int (pv 2)) pe_int) pa_nil))) (pe_op op_mul pe_int (pv 2))) (pa_cons (pv 2) pa_nil)))))))))))), ?_⟩
  walk_at "o"; intro l1 hl1
  have s1 := same_new hl1 (.lst [.int 9, .int 40, .int 9, .int 100, .int 20, .int 3, .int 301, .int 12])
  have e1 : upd H l1 (.lst [.int 9, .int 40, .int 9, .int 100, .int 20, .int 3, .int 301, .int 12]) l1 = some (.lst [.int 9, .int 40, .int 9, .int 100, .int 20, .int 3, .int 301, .int 12]) := upd_same
  refine ⟨_, rfl, p, c, _, rfl, pa.same s1, by decide, by decide, fun k1 H1 k10 k11 pa1 x1 => ?_⟩
  obtain ⟨t1, b1, a1⟩ := pick (xs := [9, 40, 9, 100, 20, 3, 301, 12]) (Pr := fun v => 1 ≤ v ∧ v ≤ 301) k10 k11 (by decide)
  refine ⟨l1, _, _, _, rfl, rfl, SqL.of (x1 _ _ (pa.no hl1) e1), a1, ?_⟩
  refine ⟨p, c, _, rfl, pa1, b1.1, by lia, fun n H2 n0 n1 pa2 x2 => ?_⟩
  have X2 := ((SameN.of s1).trans x1).trans x2
  clear x1 x2 s1 e1 pa1
  refine ⟨_, rfl, (by show 4 ≤ sizeLine; decide), fun l2 hl2 => ?_⟩
  have s2 := same_new hl2 (.lst [.int 12, .int 40, .int 300, .int 1000])
  have e2 : upd H2 l2 (.lst [.int 12, .int 40, .int 300, .int 1000]) l2 = some (.lst [.int 12, .int 40, .int 300, .int 1000]) := upd_same
  refine ⟨_, rfl, p, c, _, rfl, pa2.same s2, by decide, by decide, fun k2 H3 k20 k21 pa3 x3 => ?_⟩
  obtain ⟨t2, b2, a2⟩ := pick (xs := [12, 40, 300, 1000]) (Pr := fun v => 1 ≤ v ∧ v ≤ 1000) k20 k21 (by decide)
  refine ⟨l2, _, _, _, rfl, rfl, SqL.of (x3 _ _ (pa2.no hl2) e2), a2, ?_⟩
  refine ⟨p, c, _, rfl, pa3, b2.1, by lia, fun bb H4 bb0 bb1 pa4 x4 => ⟨_, _, rfl, rfl, ?_⟩⟩
  have X4 := ((X2.trans (SameN.of s2)).trans x3).trans x4
  clear X2 s2 x3 x4 e2
  refine ⟨fun σ HZ => ∃ b : Int, σ = [some (.ref p), some (.int n), some (.int b), none] ∧ 1 ≤ b ∧ b ≤ 1024 ∧ PoolAt HZ p c ∧ SameN [p, c] H HZ, ?_, ?_⟩
  · refine ⟨_, rfl, p, c, _, rfl, pa4, by decide, by decide, fun k3 H5 k30 k31 pa5 x5 => ⟨rfl, _, rfl, ?_⟩⟩
    walk_at "c" <;> intro c0
    · refine ⟨_, rfl, p, c, _, rfl, pa5, by decide, by decide, fun k4 H6 k40 k41 pa6 x6 => ⟨_, _, rfl, rfl, cpow1 (by lia) (by lia), 1 * 2 ^ k4.toNat, rfl, ?_, ?_, pa6, (X4.trans x5).trans x6⟩⟩
      · have := p_pos k4.toNat; lia
      · have : (2 : Int) ^ k4.toNat ≤ 2 ^ 10 := p_mono (by lia)
        lia
    · exact ⟨1 + bb, rfl, by lia, by lia, pa5, X4.trans x5⟩
  rintro σ H7 ⟨b, rfl, bL, bU, pa7, X7⟩
  have n300 : n ≤ 300 := by lia
  clear X4 pa4 pa3 pa2 a1 a2 b1 b2
  refine ⟨_, rfl, _, rfl, _, _, rfl, rfl, .inl ⟨by decide, by decide⟩, _, _, rfl, rfl, p, c, _, rfl, pa7, by lia, by lia, fun mm H8 mm0 mm1 pa8 x8 => ⟨_, rfl, _, _, rfl, rfl, ?_⟩⟩
  refine ⟨fun σ HZ => ∃ m : Int, σ = [some (.ref p), some (.int n), some (.int b), some (.int m)] ∧ -5000 ≤ m ∧ m ≤ 5000 ∧ PoolAt HZ p c ∧ SameN [p, c] H HZ, ?_, ?_⟩
  · refine ⟨_, rfl, p, c, _, rfl, pa8, by decide, by decide, fun k3 H5 k30 k31 pa5 x5 => ⟨rfl, _, rfl, ?_⟩⟩
    walk_at "c" <;> intro c0
    · refine ⟨_, rfl, _, _, rfl, rfl, _, rfl, _, _, rfl, rfl, _, rfl, _, _, rfl, rfl, _, _, rfl, rfl, (by show 6 ≤ sizeLine; decide), fun l3 hl3 => ?_⟩
      have s3 := same_new hl3 (.lst [.int (b - 1), .int (b + 1), .int 0, .int (0 - b), .int (0 - 1), .int 1])
      have e3 : upd H5 l3 (.lst [.int (b - 1), .int (b + 1), .int 0, .int (0 - b), .int (0 - 1), .int 1]) l3 = some (.lst [.int (b - 1), .int (b + 1), .int 0, .int (0 - b), .int (0 - 1), .int 1]) := upd_same
      refine ⟨_, rfl, p, c, _, rfl, pa5.same s3, by decide, by decide, fun k6 H6 k60 k61 pa6 x6 => ?_⟩
      obtain ⟨t3, b3, a3⟩ := pick (xs := [b - 1, b + 1, 0, 0 - b, 0 - 1, 1]) (Pr := fun v => -5000 ≤ v ∧ v ≤ 5000) k60 k61 (all6 (by lia) (by lia) (by lia) (by lia) (by lia) (by lia))
      exact ⟨l3, _, _, _, rfl, rfl, SqL.of (x6 _ _ (pa5.no hl3) e3), a3, t3, rfl, b3.1, b3.2, pa6, (((X7.trans x8).trans x5).trans (SameN.of s3)).trans x6⟩
    · exact ⟨mm - b, rfl, by lia, by lia, pa5, (X7.trans x8).trans x5⟩
  rintro σ H9 ⟨m, rfl, mL, mU, pa9, X9⟩
  refine ⟨_, rfl, _, rfl, _, rfl, _, rfl, _, _, rfl, rfl, .inl ⟨by decide, by decide⟩, _, _, rfl, rfl, p, c, _, rfl, pa9, by lia, by lia, fun aa H10 aa0 aa1 pa10 x10 => ?_⟩
  refine ⟨_, rfl, _, _, rfl, rfl, .inl ⟨by decide, by decide⟩, _, _, rfl, rfl, _, rfl, (by show 4 ≤ sizeLine; decide), fun r hr' => ?_⟩
  have s11 := same_new hr' (.tup (lnv n m (aa - 2 * b) b))
  exact q r n m (aa - 2 * b) b _ (pa10.news (X9.trans x10) hr') upd_same n0 n300 bL bU mL mU (by lia) (by lia) (pa10.same s11) ((X9.trans x10).trans (SameN.of s11))
structure SmL (n m a b : Int) : Prop where
  n0 : 0 ≤ n
  n1 : n ≤ 300
  b0 : 1 ≤ b
  b1 : b ≤ 1024
  m0 : -5000 ≤ m
  m1 : m ≤ 5000
  a0 : -5000 ≤ a
  a1 : a ≤ 5000
theorem SmL.h {n m a b : Int} (h : SmL n m a b) {x : Int} (x0 : 0 ≤ x) (x1 : x ≤ 300) : -3000000 ≤ hgt m a b x ∧ hgt m a b x ≤ 3000000 := by
  have k := mbd (B := 5000) (C := 300) h.m0 h.m1 x0 x1
  have b0 := h.b0
  have a0 := h.a0
  have a1 := h.a1
  unfold hgt
  generalize m * x = y at k ⊢
  refine ⟨Int.le_ediv_of_mul_le (by lia) ?_, ?_⟩
  · have : -3000000 * b ≤ -3000000 * 1 := Int.mul_le_mul_of_nonpos_left (by decide) b0
    lia
  · have h1 := Int.ediv_mul_le (y + a) (show b ≠ 0 by lia)
    refine Classical.byContradiction fun z => ?_
    have : 3000001 * 1 ≤ (y + a) / b * b := Int.mul_le_mul (by lia) b0 (by lia) (by lia)
    lia
def pt (m a b x : Int) : Int × Int := (x, hgt m a b x)
def ptsL (n m a b : Int) : List (Int × Int) := (List.range (n.toNat + 1)).map fun (i : Nat) => pt m a b (i : Int)
def Big (i : Int) : Prop := -10000000 ≤ i ∧ i ≤ 10000000
def spBends : Sp := fun vs H Q _ => ∃ (p q r : Addr) (u w v : Int × Int), vs = [.ref p, .ref q, .ref r] ∧ H p = some (.tup (i2 u)) ∧ H q = some (.tup (i2 w)) ∧ H r = some (.tup (i2 v)) ∧ Big u.1 ∧ Big u.2 ∧ Big w.1 ∧ Big w.2 ∧ Big v.1 ∧ Big v.2 ∧ Q (.bl (decide ((w.1 - u.1) * (v.2 - u.2) < (w.2 - u.2) * (v.1 - u.1)))) H
theorem ok__law_bends {f : Addr} {fd : FuncData} (F : Fun K "_law_bends" "_law_bends" s__law_bends f fd) (T : Txt K mg)  : FnOk P w K mg base CX0 1 f fd ["_law_one", "_law_middle", "_law_other"] spBends := by
  refine F.ok sc__law_bends (fun vs H Q E h => ?_) (fun cdv A outer s H vs Q E hr h => ?_)
  · obtain ⟨p, q, r, u, w, v, rfl, _⟩ := h
    rfl
  obtain ⟨p, q', r, u, w, v, rfl, hp, hq, hr0, u1, u2, w1, w2, v1, v2, q⟩ := h
  refine ⟨_, (pss_cons (ps_set (i := 3) sc__law_bends.nd rfl (Or.inl rfl) (pe_op op_mulB (pe_op op_sub (pe_ix ix_tup (pv 1) pe_int (fun _ _ => rfl)) (pe_ix ix_tup (pv 0) pe_int (fun _ _ => rfl))) (pe_op op_sub (pe_ix ix_tup (pv 2) pe_int (fun _ _ => rfl)) (pe_ix ix_tup (pv 0) pe_int (fun _ _ => rfl)))))
    (pss_one (ps_ret (pe_cmpR op_lt (pv 3) (pe_op op_mulB (pe_op op_sub (pe_ix ix_tup (pv 1) pe_int (fun _ _ => rfl)) (pe_ix ix_tup (pv 0) pe_int (fun _ _ => rfl))) (pe_op op_sub (pe_ix ix_tup (pv 2) pe_int (fun _ _ => rfl)) (pe_ix ix_tup (pv 0) pe_int (fun _ _ => rfl)))) (nomark _))))), ?_⟩
  unfold Big at *
  refine ⟨_, rfl, q', _, _, _, rfl, rfl, SqT.of hq, rfl, _, rfl, p, _, _, _, rfl, rfl, SqT.of hp, rfl, _, _, rfl, rfl, _, rfl, r, _, _, _, rfl, rfl, SqT.of hr0, rfl, _, rfl, p, _, _, _, rfl, rfl, SqT.of hp, rfl, _, _, rfl, rfl, _, _, rfl, rfl, ⟨b200 (by lia) (by lia), b200 (by lia) (by lia)⟩, ?_⟩
  refine ⟨_, rfl, _, rfl, q', _, _, _, rfl, rfl, SqT.of hq, rfl, _, rfl, p, _, _, _, rfl, rfl, SqT.of hp, rfl, _, _, rfl, rfl, _, rfl, r, _, _, _, rfl, rfl, SqT.of hr0, rfl, _, rfl, p, _, _, _, rfl, rfl, SqT.of hp, rfl, _, _, rfl, rfl, _, _, rfl, rfl, ⟨b200 (by lia) (by lia), b200 (by lia) (by lia)⟩, _, _, rfl, rfl, q⟩
def ng (m a b : Int) : Int → Int := fun x => -hgt m a b x
def HuI (m a b : Int) (j : Nat) (K : List Int) : Prop := (j = 0 ∧ K = []) ∨ (Ch (ng m a b) K ∧ K[0]? = some 0 ∧ ∃ A w, K = A ++ [w] ∧ w < (j : Int) ∧ ∀ x, w < x → x < (j : Int) → OnG (ng m a b) w x (j : Int))
def spHull : Sp := fun vs H Q _ => ∃ (l : Addr) (n m a b : Int), vs = [.ref l] ∧ ALg i2 H l (ptsL n m a b) ∧ SmL n m a b ∧ ∀ k K H', H k = none → ALg i2 H' k (K.map (pt m a b)) → Ch (ng m a b) K → K[0]? = some 0 → K.getLast? = some n → K.length ≤ 301 → Same H H' → Q (.ref k) H'
theorem PLg.dropLast {α : Type} {R : Hp → Addr → α → Prop} {H : Hp} {ps : List Addr} {xs : List α} (h : PLg R H ps xs) : PLg R H ps.dropLast xs.dropLast := by
  refine ⟨by rw [List.length_dropLast, List.length_dropLast, h.1], fun i p x a b => ?_⟩
  rw [List.getElem?_dropLast] at a b
  split at a
  · split at b
    · exact h.2 i p x a b
    · cases b
  · cases a
theorem bnd_iff (m a b u w p : Int) : Bnd (ng m a b) u w p ↔ (w - u) * (hgt m a b p - hgt m a b u) < (hgt m a b w - hgt m a b u) * (p - u) := by
  unfold Bnd ng
  constructor
  · intro h; grind
  · intro h; grind
theorem ok__law_hull {f : Addr} {fd : FuncData} (F : Fun K "_law_hull" "_law_hull" s__law_hull f fd) (T : Txt K mg) (H__law_bends : Has P w K mg base 1 "_law_bends" ["_law_one", "_law_middle", "_law_other"] spBends) : FnOk P w K mg base CX0 2 f fd ["_law_points"] spHull := by
  refine F.ok sc__law_hull (fun vs H Q E h => ?_) (fun cdv A outer s H vs Q E hr h => ?_)
  · obtain ⟨l, n, m, a, b, rfl, _⟩ := h
    rfl
  obtain ⟨l, n, m, a, b, rfl, ⟨ps, hp, pl⟩, L, q⟩ := h
  refine ⟨_, (pss_cons (ps_set (i := 1) sc__law_hull.nd rfl (Or.inl rfl) (pe_lst pa_nil))
    (pss_cons (ps_for PassesOwn.never rfl (pi_list (pv 0)) (pg_name (i := 2) sc__law_hull.nd rfl (Or.inl rfl))
      (pss_join (ps_while PassesOwn.never (PW.pt (pw_and (pt_cmpR op_gt (pe_callB call_len_seq rfl T.n_len boot_len (pa_cons (pv 1) pa_nil)) pe_int (nomark _)) (pw_and1 (pt_not (pt_val (pe_fn H__law_bends (hr.mono (by lia)) rfl (pa_cons (pe_ix ix_list (pv 1) (pe_un un_neg pe_int) (fun _ _ => rfl)) (pa_cons (pe_ix ix_list (pv 1) (pe_un un_neg pe_int) (fun _ _ => rfl)) (pa_cons (pv 2) pa_nil)))))))))
        (pss_one (ps_expr (pe_bm0 PySem.F.plainAttrs_list PySem.F.slot_list_pop PySem.F.type_list_pop mt_pop (pv 1)))))
      (pss_one (ps_expr (pe_bm PySem.F.plainAttrs_list PySem.F.slot_list_append PySem.F.type_list_append mt_append (pv 1) (pa_cons (pv 2) pa_nil))))))
    (pss_one (ps_ret (pv 1))))), ?_⟩
  have L1000 : (1000 : Nat) ≤ sizeLine := by decide
  have n0 := L.n0
  have n1 := L.n1
  refine ⟨(by show 0 ≤ sizeLine; decide), fun kl hkl => ?_⟩
  have s0 := same_new hkl (.lst [])
  have pn := pl.1
  unfold ptsL at pn
  rw [List.length_map, List.length_range] at pn
  refine ⟨_, rfl, l, rfl, ⟨_, SqL.of (s0 _ _ hp)⟩, for_list (xs := ps.map V.ref) (fun j σ H2 => ∃ (y : Option V) (K : List Int), σ = [some (.ref l), some (.ref kl), y] ∧ HuI m a b j K ∧ K.length ≤ j ∧ (∀ x ∈ K, 0 ≤ x ∧ x ≤ n) ∧ ALg i2 H2 kl (K.map (pt m a b)) ∧ Same H H2 ∧ (j ≠ 0 → K.getLast? = some ((j : Int) - 1))) ⟨_, [], rfl, .inl ⟨rfl, rfl⟩, Nat.le_refl _, (fun x hx => by cases hx), ⟨[], upd_same, PLg.nil⟩, s0, fun z => absurd rfl z⟩ ?_ ?_ ?_⟩
  · rintro j σ H2 hj ⟨y, K, rfl, hu, kn, kb, al, sm, lst⟩
    exact SqL.of (sm _ _ hp)
  · rintro j v σ H2 hj ⟨y, K, rfl, hu, kn, kb, al, sm, lst⟩
    clear lst
    rw [List.getElem?_map] at hj
    cases e1 : ps[j]? with
    | none => rw [e1] at hj; cases hj
    | some p =>
      rw [e1] at hj
      cases hj
      have jl := (List.getElem?_eq_some_iff.mp e1).1
      obtain ⟨z, ez, hz⟩ := pl.get' e1
      have ez' : z = pt m a b (j : Int) := by
        unfold ptsL at ez
        rw [List.getElem?_map, List.getElem?_range (by lia)] at ez
        exact (Option.some.inj ez).symm
      subst ez'
      unfold TRg at hz
      have hj0 := L.h (x := (j : Int)) (by lia) (by lia)
      refine ⟨fun σ H2 => ∃ K : List Int, σ = [some (.ref l), some (.ref kl), some (.ref p)] ∧ HuI m a b j K ∧ K.length ≤ j ∧ (∀ x ∈ K, 0 ≤ x ∧ x ≤ n) ∧ ALg i2 H2 kl (K.map (pt m a b)) ∧ Same H H2 ∧ (∀ B u w, K = B ++ [u, w] → Bnd (ng m a b) u w (j : Int)), ?_, ?_⟩
      · refine while_by (fun σ H2 => ∃ K : List Int, σ = [some (.ref l), some (.ref kl), some (.ref p)] ∧ HuI m a b j K ∧ K.length ≤ j ∧ (∀ x ∈ K, 0 ≤ x ∧ x ≤ n) ∧ ALg i2 H2 kl (K.map (pt m a b)) ∧ Same H H2) (fun _ H2 => match H2 kl with | some (.lst xs) => xs.length | _ => 0) ⟨K, rfl, hu, kn, kb, al, sm⟩ ?_ ?_
        · clear al sm hu kn kb K
          rintro σ H3 ⟨K, rfl, hu, kn, kb, ⟨ks, hk, kp⟩, sm⟩
          have kl' := kp.1
          rw [List.length_map] at kl'
          refine ⟨_, rfl, kl, _, rfl, .inl (SqL.of hk), _, _, rfl, rfl, _, rfl, ?_⟩
          walk_at "c" <;> intro c0
          · rw [List.length_map] at c0
            rcases hu with ⟨_, z⟩ | ⟨ch, k0, A, wv, eK, wj, on⟩
            · rw [z] at kl'; rw [kl'] at c0; exact absurd c0 (by decide)
            obtain ⟨u, B, eA⟩ : ∃ u B, A = B ++ [u] := by
              cases hA : A.getLast? with
              | none =>
                rw [List.getLast?_eq_none_iff] at hA
                rw [eK, hA] at kl'
                rw [kl'] at c0
                simp at c0
              | some u =>
                obtain ⟨B, e⟩ := last_split hA
                exact ⟨u, B, e⟩
            subst eA
            have eK' : K = B ++ [u, wv] := by rw [eK]; simp
            have KL : K.length = B.length + 2 := by rw [eK']; simp
            have gu : (K.map (pt m a b))[B.length]? = some (pt m a b u) := by rw [List.getElem?_map, eK', List.getElem?_append_right (Nat.le_refl _), Nat.sub_self]; rfl
            have gw : (K.map (pt m a b))[B.length + 1]? = some (pt m a b wv) := by rw [List.getElem?_map, eK', List.getElem?_append_right (by lia), show B.length + 1 - B.length = 1 by lia]; rfl
            obtain ⟨pu, eu, hu⟩ := kp.get gu
            obtain ⟨pw, ew, hw⟩ := kp.get gw
            unfold TRg at hu hw
            have a2 : atI (ks.map V.ref) (-2) = some (.ref pu) := atI_neg (k := 2) (by decide) (by rw [List.length_map]; lia) (by rw [List.length_map, List.getElem?_map, show ks.length - 2 = B.length by lia, eu]; rfl)
            have a1 : atI (ks.map V.ref) (-1) = some (.ref pw) := atI_neg (k := 1) (by decide) (by rw [List.length_map]; lia) (by rw [List.length_map, List.getElem?_map, show ks.length - 1 = B.length + 1 by lia, ew]; rfl)
            have ub := kb u (by rw [eK']; simp)
            have wb := kb wv (by rw [eK']; simp)
            have hub := L.h (x := u) (by lia) (by lia)
            have hwb := L.h (x := wv) (by lia) (by lia)
            refine ⟨_, rfl, _, rfl, kl, _, _, _, rfl, rfl, SqL.of hk, a2, _, rfl, _, rfl, kl, _, _, _, rfl, rfl, SqL.of hk, a1, _, rfl, pu, pw, p, pt m a b u, pt m a b wv, pt m a b (j : Int), rfl, hu, hw, sm _ _ hz, ⟨by show -10000000 ≤ u; lia, by show u ≤ 10000000; lia⟩, ⟨by show -10000000 ≤ hgt m a b u; lia, by show hgt m a b u ≤ 10000000; lia⟩, ⟨by show -10000000 ≤ wv; lia, by show wv ≤ 10000000; lia⟩, ⟨by show -10000000 ≤ hgt m a b wv; lia, by show hgt m a b wv ≤ 10000000; lia⟩, ⟨by show -10000000 ≤ (j : Int); lia, by show (j : Int) ≤ 10000000; lia⟩, ⟨by show -10000000 ≤ hgt m a b (j : Int); lia, by show hgt m a b (j : Int) ≤ 10000000; lia⟩, _, rfl, ?_⟩
            by_cases bd : Bnd (ng m a b) u wv (j : Int)
            · have bd' := (bnd_iff m a b u wv j).mp bd
              rw [show decide (((pt m a b wv).1 - (pt m a b u).1) * ((pt m a b (j : Int)).2 - (pt m a b u).2) < ((pt m a b wv).2 - (pt m a b u).2) * ((pt m a b (j : Int)).1 - (pt m a b u).1)) = true from decide_eq_true bd']
              refine ⟨K, rfl, .inr ⟨ch, k0, B ++ [u], wv, eK, wj, on⟩, kn, kb, ⟨ks, hk, kp⟩, sm, fun B' u' w' e' => ?_⟩
              have := List.append_inj_right' (eK'.symm.trans e') rfl
              simp at this
              rw [← this.1, ← this.2]
              exact bd
            · have bd' : ¬ _ := fun z => bd ((bnd_iff m a b u wv j).mpr z)
              rw [show decide (((pt m a b wv).1 - (pt m a b u).1) * ((pt m a b (j : Int)).2 - (pt m a b u).2) < ((pt m a b wv).2 - (pt m a b u).2) * ((pt m a b (j : Int)).1 - (pt m a b u).1)) = false from decide_eq_false bd']
              rw [eK'] at ch
              obtain ⟨ch2, on2⟩ := ch.pop wj on bd
              have uw := (ch.inc B.length u wv (by simp) (by simp)).1
              refine ⟨_, rfl, .inl ⟨rfl, _, SqL.of hk⟩, kl, _, _, rfl, rfl, hk, (by rw [List.length_map, List.getElem?_map, show ks.length - 1 = B.length + 1 by lia, ew]; rfl), ⟨B ++ [u], rfl, .inr ⟨ch2, ?_, B, u, rfl, by lia, on2⟩, ?_, ?_, ⟨ks.dropLast, ?_, ?_⟩, Same.updL sm hkl⟩, ?_⟩
              · rw [eK'] at k0
                cases B with
                | nil => exact k0
                | cons _ _ => exact k0
              · rw [List.length_append, List.length_singleton]; lia
              · exact fun x hx => kb x (by rw [eK']; simp at hx ⊢; rcases hx with z | z <;> simp [z])
              · rw [upd_same, List.map_dropLast]
              · have := (kp.dropLast).updT (l := kl) (ys := (ks.map V.ref).dropLast) hk
                rw [show (K.map (pt m a b)).dropLast = (B ++ [u]).map (pt m a b) by rw [← List.map_dropLast, eK, List.dropLast_concat]] at this
                exact this
              · rw [upd_same, hk]
                show ((ks.map V.ref).dropLast).length < (ks.map V.ref).length
                rw [List.length_dropLast, List.length_map]
                lia
          · rw [List.length_map] at c0
            refine ⟨K, rfl, hu, kn, kb, ⟨ks, hk, kp⟩, sm, fun B u w' e => ?_⟩
            rw [e, List.length_append] at kl'
            exact absurd kl' (by show ¬ ks.length = B.length + 2; lia)
        · rintro σ H4 Q1 Q2 hq ⟨v, e, p1, ys, e1, so, i, j, e2, e3, c, e4, h⟩
          refine ⟨v, e, p1, ys, e1, so, i, j, e2, e3, c, e4, ?_⟩
          revert h
          cases c with
          | true =>
            rintro ⟨x0, x1, x2, x3, x4, x5, x6, x7, x8, x9, x10, x11, x12, x13, x14, x15, x16, x17, x18, x19, x20, x21, x22, x23, x24, x25, x26, x27, x28, x29, x30, x31, x32, x33, x34, x35, x36, x37, x38, x39, x40, x41, x42, x43, h⟩
            exact ⟨x0, x1, x2, x3, x4, x5, x6, x7, x8, x9, x10, x11, x12, x13, x14, x15, x16, x17, x18, x19, x20, x21, x22, x23, x24, x25, x26, x27, x28, x29, x30, x31, x32, x33, x34, x35, x36, x37, x38, x39, x40, x41, x42, x43, hq _ _ h⟩
          | false => exact fun h => hq _ _ h
      · rintro σ H3 ⟨K, rfl, hu, kn, kb, ⟨ks, hk, kp⟩, sm, hb⟩
        have kl' := kp.1
        rw [List.length_map] at kl'
        refine ⟨_, rfl, .inl ⟨rfl, _, SqL.of hk⟩, _, rfl, kl, _, _, rfl, rfl, hk, (by rw [List.length_map]; lia), _, K ++ [(j : Int)], rfl, .inr ⟨?_, ?_, K, (j : Int), rfl, by lia, fun x h1 h2 => by lia⟩, ?_, ?_, ⟨ks ++ [p], ?_, ?_⟩, Same.updL sm hkl, fun _ => by rw [List.getLast?_append]; simp⟩
        · rcases hu with ⟨z0, z⟩ | ⟨ch, k0, A, wv, eK, wj, on⟩
          · rw [z]
            exact ⟨fun i u v e1 e2 => by simp at e2, fun i u v w e1 e2 => by simp at e2⟩
          · rw [eK] at ch ⊢
            exact ch.snoc wj on fun B u e => hb B u wv (by rw [eK, e]; simp)
        · rcases hu with ⟨z0, z⟩ | ⟨ch, k0, A, wv, eK, wj, on⟩
          · rw [z, z0]; rfl
          · rw [List.getElem?_append_left (by rw [eK]; simp)]; exact k0
        · rw [List.length_append, List.length_singleton]; lia
        · intro x hx
          rcases List.mem_append.mp hx with z | z
          · exact kb x z
          · rw [List.mem_singleton.mp z]; lia
        · rw [upd_same, List.map_append]; rfl
        · rw [List.map_append]
          exact (kp.snoc (sm _ _ hz)).updT hk
  · rintro σ H2 ⟨y, K, rfl, hu, kn, kb, al, sm, lst⟩
    rw [List.length_map, pn] at hu kn lst
    rcases hu with ⟨z0, z⟩ | ⟨ch, k0, A, wv, eK, wj, on⟩
    · exact absurd z0 (by lia)
    · have le := lst (by lia)
      rw [show ((n.toNat + 1 : Nat) : Int) - 1 = n by lia] at le
      exact ⟨_, rfl, q kl K H2 hkl al ch k0 le (by lia) sm⟩
def spAbD : Sp := fun vs H Q _ => ∃ (r : Addr) (n m a b x y : Int), vs = [.ref r, .int x, .int y] ∧ LnN r n m a b H ∧ -(2 ^ 300) ≤ x ∧ x ≤ 2 ^ 300 ∧ -(2 ^ 300) ≤ y ∧ y ≤ 2 ^ 300 ∧ Q (.bl (decide (m * x + a < y * b))) H
def spHtD : Sp := fun vs H Q _ => ∃ (r : Addr) (n m a b x y : Int), vs = [.ref r, .int x, .int y] ∧ LnN r n m a b H ∧ -(2 ^ 300) ≤ x ∧ x ≤ 2 ^ 300 ∧ -(2 ^ 300) ≤ y ∧ y ≤ 2 ^ 300 ∧ Q (.bl (decide (y = hgt m a b x))) H
theorem ok__law_above {f : Addr} {fd : FuncData} (F : Fun K "_law_above" "_law_above" s__law_above f fd) (T : Txt K mg)  : FnOk P w K mg base CX0 1 f fd ["_law_line_here", "_law_x", "_law_y"] spAbD := by
  refine F.ok sc__law_above (fun vs H Q E h => ?_) (fun cdv A outer s H vs Q E hr h => ?_)
  · obtain ⟨r, n, m, a, b, x, y, rfl, _⟩ := h
    rfl
  obtain ⟨r, n, m, a, b, x, y, rfl, ⟨hr0, ⟨n0, n1, m0, m1, a0, a1, b0, b1⟩⟩, x0, x1, y0, y1, q⟩ := h
  refine ⟨_, (pss_one (ps_ret (pe_cmpR op_gt (pe_op op_mulB (pv 2) (pe_ix ix_tup (pv 0) pe_int (fun _ _ => rfl))) (pe_op op_add (pe_op op_mulB (pe_ix ix_tup (pv 0) pe_int (fun _ _ => rfl)) (pv 1)) (pe_ix ix_tup (pv 0) pe_int (fun _ _ => rfl))) (nomark _)))), ?_⟩
  exact ⟨_, rfl, _, rfl, r, _, _, _, rfl, rfl, SqT.of hr0, rfl, _, _, rfl, rfl, ⟨b400 (by lia) (by lia), b400 (by lia) (by lia)⟩, _, rfl, r, _, _, _, rfl, rfl, SqT.of hr0, rfl, _, rfl, _, _, rfl, rfl, ⟨b400 (by lia) (by lia), b400 (by lia) (by lia)⟩, _, rfl, r, _, _, _, rfl, rfl, SqT.of hr0, rfl, _, _, rfl, rfl, _, _, rfl, rfl, q⟩
theorem hgt_iff {m a b x y : Int} (b0 : 0 < b) : y = hgt m a b x ↔ 0 ≤ m * x + a - y * b ∧ m * x + a - y * b < b := by
  unfold hgt
  have e := Int.mul_ediv_add_emod (m * x + a) b
  have r0 := Int.emod_nonneg (m * x + a) (Int.ne_of_gt b0)
  have r1 := Int.emod_lt_of_pos (m * x + a) b0
  constructor
  · intro h
    rw [h, Int.mul_comm _ b]
    lia
  · rintro ⟨h0, h1⟩
    refine (Int.ediv_emod_unique b0 (r := m * x + a - y * b) (q := y)).mpr ⟨?_, h0, h1⟩ |>.1.symm
    rw [Int.mul_comm b y]
    lia
theorem ok__law_height {f : Addr} {fd : FuncData} (F : Fun K "_law_height" "_law_height" s__law_height f fd) (T : Txt K mg)  : FnOk P w K mg base CX0 1 f fd ["_law_line_here", "_law_x", "_law_y"] spHtD := by
  refine F.ok sc__law_height (fun vs H Q E h => ?_) (fun cdv A outer s H vs Q E hr h => ?_)
  · obtain ⟨r, n, m, a, b, x, y, rfl, _⟩ := h
    rfl
  obtain ⟨r, n, m, a, b, x, y, rfl, ⟨hr0, ⟨n0, n1, m0, m1, a0, a1, b0, b1⟩⟩, x0, x1, y0, y1, q⟩ := h
  refine ⟨_, (pss_one (ps_ret (pe_chain op_le op_lt pe_int (pe_op op_sub (pe_op op_add (pe_op op_mulB (pe_ix ix_tup (pv 0) pe_int (fun _ _ => rfl)) (pv 1)) (pe_ix ix_tup (pv 0) pe_int (fun _ _ => rfl))) (pe_op op_mulB (pv 2) (pe_ix ix_tup (pv 0) pe_int (fun _ _ => rfl)))) (pe_ix ix_tup (pv 0) pe_int (fun _ _ => rfl))))), ?_⟩
  have hi := hgt_iff (m := m) (a := a) (b := b) (x := x) (y := y) (by lia)
  refine ⟨_, rfl, r, _, _, _, rfl, rfl, SqT.of hr0, rfl, _, rfl, _, _, rfl, rfl, ⟨b400 (by lia) (by lia), b400 (by lia) (by lia)⟩, _, rfl, r, _, _, _, rfl, rfl, SqT.of hr0, rfl, _, _, rfl, rfl, _, rfl, _, rfl, r, _, _, _, rfl, rfl, SqT.of hr0, rfl, _, _, rfl, rfl, ⟨b400 (by lia) (by lia), b400 (by lia) (by lia)⟩, _, _, rfl, rfl, _, _, rfl, rfl, _, rfl, ?_⟩
  by_cases c0 : 0 ≤ m * x + a - y * b
  · refine iteD c0 ?_
    refine ⟨_, rfl, r, _, _, _, rfl, rfl, SqT.of hr0, rfl, _, _, rfl, rfl, ?_⟩
    by_cases c1 : m * x + a - y * b < b
    · rw [decide_eq_true (hi.mpr ⟨c0, c1⟩)] at q
      exact ret_true c1 q
    · rw [decide_eq_false fun z => c1 (hi.mp z).2] at q
      exact ret_false c1 q
  · rw [decide_eq_false fun z => c0 (hi.mp z).1] at q
    exact iteDN c0 q
def spSdD : Sp := fun vs H Q _ => ∃ (r p : Addr) (n m a b : Int) (d : Sd), vs = [.ref r, .ref p] ∧ LnN r n m a b H ∧ H p = some (.tup (sdv d)) ∧ SdB d ∧ Q (.bl (sideB m a b d)) H
theorem ok__law_side {f : Addr} {fd : FuncData} (F : Fun K "_law_side" "_law_side" s__law_side f fd) (T : Txt K mg) (H__law_above : Has P w K mg base 1 "_law_above" ["_law_line_here", "_law_x", "_law_y"] spAbD) (H__law_height : Has P w K mg base 1 "_law_height" ["_law_line_here", "_law_x", "_law_y"] spHtD) : FnOk P w K mg base CX0 2 f fd ["_law_line_here", "_law_row"] spSdD := by
  refine F.ok sc__law_side (fun vs H Q E h => ?_) (fun cdv A outer s H vs Q E hr h => ?_)
  · obtain ⟨r, p, n, m, a, b, d, rfl, _⟩ := h
    rfl
  obtain ⟨r, p, n, m, a, b, d, rfl, ln, hp, B, q⟩ := h
  refine ⟨_, (pss_cons (ps_asg (pv 1) (pg_tup rfl (pgs_cons (pg_name (i := 2) sc__law_side.nd rfl (Or.inl rfl)) (pgs_cons (pg_name (i := 3) sc__law_side.nd rfl (Or.inl rfl)) (pgs_cons (pg_name (i := 4) sc__law_side.nd rfl (Or.inl rfl)) (pgs_cons (pg_name (i := 5) sc__law_side.nd rfl (Or.inl rfl)) (pgs_cons (pg_name (i := 6) sc__law_side.nd rfl (Or.inl rfl)) (pgs_cons (pg_name (i := 7) sc__law_side.nd rfl (Or.inl rfl)) (pgs_cons (pg_name (i := 8) sc__law_side.nd rfl (Or.inl rfl)) pgs_nil)))))))))
    (pss_cons (ps_if (PW.pt (pw_or (pt_cmpR op_lt (pv 4) pe_int (nomark _)) (pw_or (pt_cmpR op_lt (pv 5) pe_int (nomark _)) (pw_or1 (pt_not (pt_val (pe_fn H__law_height (hr.mono (by lia)) rfl (pa_cons (pv 0) (pa_cons (pv 2) (pa_cons (pv 3) pa_nil))))))))))
      (pss_one (ps_ret pe_bl))
      pss_nil)
    (pss_cons (ps_if (pt_not (pt_val (pe_fn H__law_height (hr.mono (by lia)) rfl (pa_cons (pv 0) (pa_cons (pe_op op_add (pv 2) (pe_op op_mulB (pv 4) (pv 5))) (pa_cons (pe_op op_add (pv 3) (pe_op op_mulB (pv 4) (pv 6))) pa_nil))))))
      (pss_one (ps_ret pe_bl))
      pss_nil)
    (pss_cons (ps_if (PW.pt (pw_or (pt_cmpR op_ne (pe_op op_sub (pe_op op_mulB (pv 5) (pv 8)) (pe_op op_mulB (pv 6) (pv 7))) pe_int (nomark _)) (pw_or1 (pt_not (pt_chain op_le op_lt pe_int (pv 7) (pv 5))))))
      (pss_one (ps_ret pe_bl))
      pss_nil)
    (pss_cons (ps_if (pt_not (pt_val (pe_fn H__law_above (hr.mono (by lia)) rfl (pa_cons (pv 0) (pa_cons (pe_op op_add (pv 2) (pv 7)) (pa_cons (pe_op op_add (pv 3) (pv 8)) pa_nil))))))
      (pss_one (ps_ret pe_bl))
      pss_nil)
    (pss_one (ps_ret (pe_fn H__law_above (hr.mono (by lia)) rfl (pa_cons (pv 0) (pa_cons (pe_op op_add (pe_op op_add (pv 2) (pv 7)) (pe_op op_mulB (pe_op op_sub (pv 4) pe_int) (pv 5))) (pa_cons (pe_op op_add (pe_op op_add (pv 3) (pv 8)) (pe_op op_mulB (pe_op op_sub (pv 4) pe_int) (pv 6))) pa_nil))))))))))), ?_⟩
  have ⟨x0, x1, y0, y1, g0, g1, e0, e1, k0, k1, s0, s1, t0, t1⟩ := B
  have ee := B.end'
  have no : ¬ SideP m a b d → Q (.bl false) H := fun h => by
    rw [sideB_f h] at q
    exact q
  have l1 : d.x + d.s + (d.g - 1) * d.e = d.ex - d.e + d.s := by unfold Sd.ex; rw [Int.sub_mul, Int.one_mul]; lia
  have l2 : d.y + d.t + (d.g - 1) * d.k = d.ey - d.k + d.t := by unfold Sd.ey; rw [Int.sub_mul, Int.one_mul]; lia
  refine ⟨_, rfl, p, _, rfl, SqT.of hp, rfl, _, _, rfl, _, _, rfl, _, _, rfl, _, _, rfl, _, _, rfl, _, _, rfl, _, _, rfl, rfl, ?_⟩
  refine ⟨_, rfl, _, _, rfl, rfl, _, rfl, ?_⟩
  by_cases c1 : d.g < 1
  · exact iteD c1 (no fun z => by have := z.g1; lia)
  refine iteDN c1 ⟨_, rfl, _, _, rfl, rfl, _, rfl, ?_⟩
  by_cases c2 : d.e < 1
  · exact iteD c2 (no fun z => by have := z.e1; lia)
  refine iteDN c2 ⟨_, rfl, _, rfl, _, rfl, r, n, m, a, b, _, _, rfl, ln, by lia, by lia, by lia, by lia, _, rfl, ?_⟩
  by_cases c5 : d.y = hgt m a b d.x
  rotate_left
  · exact iteN c5 (no fun z => c5 z.y)
  refine iteNS c5 ?_
  refine ⟨_, rfl, _, rfl, _, rfl, _, rfl, _, _, rfl, rfl, ⟨b400 (by lia) (by lia), b400 (by lia) (by lia)⟩, _, _, rfl, rfl, _, rfl, _, rfl, _, rfl, _, _, rfl, rfl, ⟨b400 (by lia) (by lia), b400 (by lia) (by lia)⟩, _, _, rfl, rfl, r, n, m, a, b, d.ex, d.ey, rfl, ln, by lia, by lia, by lia, by lia, _, rfl, ?_⟩
  by_cases c6 : d.ey = hgt m a b d.ex
  rotate_left
  · exact iteN c6 (no fun z => c6 z.ey)
  refine iteNS c6 ?_
  refine ⟨_, rfl, _, rfl, _, _, rfl, rfl, ⟨b400 (by lia) (by lia), b400 (by lia) (by lia)⟩, _, rfl, _, rfl, _, _, rfl, rfl, ⟨b400 (by lia) (by lia), b400 (by lia) (by lia)⟩, _, _, rfl, rfl, rfl, _, rfl, ?_⟩
  by_cases c3 : d.e * d.t - d.k * d.s = 1
  rotate_left
  · exact iteN (fun z => c3 (by injection z)) (no fun z => c3 z.det)
  refine iteNS (congrArg V.int c3) ?_
  refine ⟨_, rfl, _, _, rfl, rfl, _, rfl, ?_⟩
  by_cases c0 : 0 ≤ d.s
  rotate_left
  · exact iteDN c0 ⟨_, rfl, iteT (no fun z => c0 z.s0)⟩
  refine iteD c0 ⟨_, rfl, _, _, rfl, rfl, _, rfl, ?_⟩
  refine iteCN (c := d.s < d.e) (fun c4 => no fun z => c4 z.s1) (fun c4 => ?_)
  refine ⟨_, rfl, _, rfl, _, rfl, _, _, rfl, rfl, _, rfl, _, rfl, _, _, rfl, rfl, r, n, m, a, b, _, _, rfl, ln, by lia, by lia, by lia, by lia, _, rfl, ?_⟩
  by_cases c7 : m * (d.x + d.s) + a < (d.y + d.t) * b
  rotate_left
  · exact iteN c7 (no fun z => c7 z.u1)
  refine iteNS c7 ?_
  refine ⟨_, rfl, _, rfl, _, rfl, _, _, rfl, rfl, _, rfl, _, _, rfl, rfl, _, rfl, _, _, rfl, rfl, ⟨b400 (by lia) (by lia), b400 (by lia) (by lia)⟩, _, _, rfl, rfl, _, rfl, _, rfl, _, _, rfl, rfl, _, rfl, _, _, rfl, rfl, _, rfl, _, _, rfl, rfl, ⟨b400 (by lia) (by lia), b400 (by lia) (by lia)⟩, _, _, rfl, rfl, r, n, m, a, b, _, _, rfl, ln, by lia, by lia, by lia, by lia, ?_⟩
  by_cases c8 : m * (d.ex - d.e + d.s) + a < (d.ey - d.k + d.t) * b
  · rw [sideB_t ⟨by lia, by lia, c3, c0, c4, c5, c6, c7, c8⟩] at q
    exact ret_true (by rw [l1, l2]; exact c8) q
  · exact ret_false (by rw [l1, l2]; exact c8) (no fun z => c8 z.u2)
def spRwG : Sp := fun vs H Q _ => ∃ (v : V) (o : Option (List Sd)), vs = [v, .int 7] ∧ Pth H v o ∧ Q (.bl o.isSome) H
theorem ok__law_rows {f : Addr} {fd : FuncData} (F : Fun K "_law_rows" "_law_rows" s__law_rows f fd) (T : Txt K mg) (H__law_whole : Has P w K mg base 1 "_law_whole" ["_law_found"] spWholeG) : FnOk P w K mg base CX0 2 f fd ["_law_found", "_law_many"] spRwG := by
  refine F.ok sc__law_rows (fun vs H Q E h => ?_) (fun cdv A outer s H vs Q E hr h => ?_)
  · obtain ⟨v, o, rfl, _⟩ := h
    rfl
  obtain ⟨v, o, rfl, hv, q⟩ := h
  refine ⟨_, (pss_cons (ps_if (pt_not (pt_val (pe_callB call_isinst rfl T.n_isinstance boot_isinstance (pa_cons (pv 0) (pa_cons (pe_ty rfl T.n_list boot_list) pa_nil)))))
      (pss_one (ps_ret pe_bl))
      pss_nil)
    (pss_cons (ps_for PassesOwn.never rfl (pi_list (pv 0)) (pg_name (i := 2) sc__law_rows.nd rfl (Or.inl rfl))
      (pss_cons (ps_if (PW.pt (pw_or (pt_not (pt_val (pe_callB call_isinst rfl T.n_isinstance boot_isinstance (pa_cons (pv 2) (pa_cons (pe_ty rfl T.n_tuple boot_tuple) pa_nil))))) (pw_or1 (pt_cmpR op_ne (pe_callB call_len_seq rfl T.n_len boot_len (pa_cons (pv 2) pa_nil)) (pv 1) (nomark _)))))
        (pss_one (ps_ret pe_bl))
        pss_nil)
      (pss_one (ps_for PassesOwn.never rfl (pi_tup (pv 2)) (pg_name (i := 3) sc__law_rows.nd rfl (Or.inl rfl))
        (pss_one (ps_if (pt_not (pt_val (pe_fn H__law_whole (hr.mono (by lia)) rfl (pa_cons (pv 3) pa_nil))))
          (pss_one (ps_ret pe_bl))
          pss_nil))))))
    (pss_one (ps_ret pe_bl)))), ?_⟩
  cases hv with
  | int i => exact ⟨_, rfl, _, _, _, _, _, rfl, rfl, TyOf.int _, kit_int_lst _, _, rfl, iteT q⟩
  | bl b => exact ⟨_, rfl, _, _, _, _, _, rfl, rfl, TyOf.bl _, kit_bl_lst _, _, rfl, iteT q⟩
  | str x => exact ⟨_, rfl, _, _, _, _, _, rfl, rfl, TyOf.str _, kit_str_lst _, _, rfl, iteT q⟩
  | non => exact ⟨_, rfl, _, _, _, _, _, rfl, rfl, TyOf.non, kit_non_lst _, _, rfl, iteT q⟩
  | tup h => exact ⟨_, rfl, _, _, _, _, _, rfl, rfl, TyOf.tup h, rfl, _, rfl, iteT q⟩
  | dct h => exact ⟨_, rfl, _, _, _, _, _, rfl, rfl, TyOf.dK h, kit_dct_lst _, _, rfl, iteT q⟩
  | @bad l xs bs hp bl xl t f =>
    refine ⟨_, rfl, _, _, _, _, _, rfl, rfl, TyOf.lst hp, rfl, _, rfl, iteF ?_⟩
    refine ⟨_, rfl, l, rfl, ⟨_, SqL.of hp⟩, for_list (xs := xs) (fun j σ H2 => ∃ y1 y2 : Option V, σ = [some (.ref l), some (.int 7), y1, y2] ∧ H2 = H ∧ ∀ i b, i < j → bs[i]? = some b → b = true) ⟨_, _, rfl, rfl, fun i b h => absurd h (Nat.not_lt_zero _)⟩ ?_ ?_ ?_⟩
    · rintro j σ H2 hj ⟨y1, y2, rfl, rfl, _⟩
      exact SqL.of hp
    · rintro j v σ H2 hj ⟨y1, y2, rfl, rfl, bt⟩
      have jl := (List.getElem?_eq_some_iff.mp hj).1
      have eb : bs[j]? = some (bs[j]'(by lia)) := List.getElem?_eq_getElem _
      have el := t j v _ hj eb
      have on : bs[j]'(by lia) = true → ∀ i b, i < j + 1 → bs[i]? = some b → b = true := fun h i b hi e => by
        by_cases z : i = j
        · rw [z, eb] at e; cases e; exact h
        · exact bt i b (by lia) e
      generalize bs[j]'(by lia) = bj at eb el on
      cases el with
      | int i => exact ⟨_, rfl, _, _, _, _, _, rfl, rfl, TyOf.int _, kit_int_tup _, _, rfl, iteT q⟩
      | bl b => exact ⟨_, rfl, _, _, _, _, _, rfl, rfl, TyOf.bl _, kit_bl_tup _, _, rfl, iteT q⟩
      | str x => exact ⟨_, rfl, _, _, _, _, _, rfl, rfl, TyOf.str _, kit_str_tup _, _, rfl, iteT q⟩
      | non => exact ⟨_, rfl, _, _, _, _, _, rfl, rfl, TyOf.non, kit_non_tup _, _, rfl, iteT q⟩
      | lst h => exact ⟨_, rfl, _, _, _, _, _, rfl, rfl, TyOf.lst h, kit_lst_tup _, _, rfl, iteT q⟩
      | dct h => exact ⟨_, rfl, _, _, _, _, _, rfl, rfl, TyOf.dK h, kit_dct_tup _, _, rfl, iteT q⟩
      | @len p zs hz n =>
        refine ⟨_, rfl, _, _, _, _, _, rfl, rfl, TyOf.tup hz, rfl, _, rfl, iteF ?_⟩
        refine ⟨_, rfl, p, _, rfl, .inr (SqT.of hz), _, rfl, rfl, _, rfl, iteN (fun z => n ?_) q⟩
        injection z with z
        lia
      | @els p zs hz n th =>
        refine ⟨_, rfl, _, _, _, _, _, rfl, rfl, TyOf.tup hz, rfl, _, rfl, iteF ?_⟩
        refine ⟨_, rfl, p, _, rfl, .inr (SqT.of hz), _, rfl, rfl, _, rfl, iteNS (congrArg (fun k : Nat => V.int (k : Int)) n) ?_⟩
        refine ⟨_, rfl, p, rfl, ⟨_, SqT.of hz⟩, for_tup (xs := zs) (fun j σ H3 => ∃ y2 : Option V, σ = [some (.ref l), some (.int 7), some (.ref p), y2] ∧ H3 = H2 ∧ (zs.take j).all isI = true) ⟨_, rfl, rfl, rfl⟩ ?_ ?_ ?_⟩
        · rintro k σ H3 hk ⟨y3, rfl, rfl, _⟩
          exact SqT.of hz
        · rintro k v σ H3 hk ⟨y3, rfl, rfl, al⟩
          refine ⟨_, rfl, v, rfl, th v (List.mem_of_getElem? hk), _, rfl, ?_⟩
          cases ev : isI v with
          | false => exact iteT q
          | true => exact iteF ⟨_, rfl, rfl, by rw [List.take_add_one, hk, Option.toList_some, List.all_append, al]; simp [ev]⟩
        · rintro σ H3 ⟨y3, rfl, rfl, al⟩
          rw [List.take_length] at al
          exact ⟨_, _, rfl, rfl, on al⟩
    · rintro σ H2 ⟨y1, y2, rfl, rfl, bt⟩
      exfalso
      have : bs.all id = true := by
        rw [List.all_eq_true]
        intro b hb
        obtain ⟨i, hi⟩ := List.mem_iff_getElem?.mp hb
        have il := (List.getElem?_eq_some_iff.mp hi).1
        exact bt i b (by lia) hi
      rw [f] at this
      cases this
  | @rows l ds al B dl =>
    obtain ⟨ps, hp, pl⟩ := al
    refine ⟨_, rfl, _, _, _, _, _, rfl, rfl, TyOf.lst hp, rfl, _, rfl, iteF ?_⟩
    refine ⟨_, rfl, l, rfl, ⟨_, SqL.of hp⟩, for_list (xs := ps.map V.ref) (fun j σ H2 => ∃ y1 y2 : Option V, σ = [some (.ref l), some (.int 7), y1, y2] ∧ H2 = H) ⟨_, _, rfl, rfl⟩ ?_ ?_ ?_⟩
    · rintro j σ H2 hj ⟨y1, y2, rfl, rfl⟩
      exact SqL.of hp
    · rintro j v σ H2 hj ⟨y1, y2, rfl, rfl⟩
      rw [List.getElem?_map] at hj
      cases e1 : ps[j]? with
      | none => rw [e1] at hj; cases hj
      | some p =>
        rw [e1] at hj
        cases hj
        obtain ⟨z, ez, hz⟩ := pl.get' e1
        unfold TRg at hz
        refine ⟨_, rfl, _, _, _, _, _, rfl, rfl, TyOf.tup hz, rfl, _, rfl, iteF ?_⟩
        refine ⟨_, rfl, p, _, rfl, .inr (SqT.of hz), _, rfl, rfl, _, rfl, iteNS rfl ?_⟩
        refine ⟨_, rfl, p, rfl, ⟨_, SqT.of hz⟩, for_tup (xs := sdv z) (fun j σ H3 => ∃ y2 : Option V, σ = [some (.ref l), some (.int 7), some (.ref p), y2] ∧ H3 = H2) ⟨_, rfl, rfl⟩ ?_ ?_ ?_⟩
        · rintro k σ H3 hk ⟨y3, rfl, rfl⟩
          exact SqT.of hz
        · rintro k v σ H3 hk ⟨y3, rfl, rfl⟩
          obtain ⟨i, rfl⟩ : ∃ i, v = .int i := by
            have := List.mem_of_getElem? hk
            unfold sdv at this
            simp only [List.mem_cons, List.not_mem_nil, or_false] at this
            rcases this with h | h | h | h | h | h | h <;> exact ⟨_, h⟩
          exact ⟨_, rfl, .int i, rfl, .int i, _, rfl, iteF ⟨_, rfl, rfl⟩⟩
        · rintro σ H3 ⟨y3, rfl, rfl⟩
          exact ⟨_, _, rfl, rfl⟩
    · rintro σ H2 ⟨y1, y2, rfl, rfl⟩
      exact q
theorem SdOk.uniq {x0 y0 x1 y1 : Int} {d d' : Sd} (h : SdOk x0 y0 x1 y1 d) (h' : SdOk x0 y0 x1 y1 d') : d = d' := by
  obtain ⟨x, y, g, e, k, s, t⟩ := d
  obtain ⟨x', y', g', e', k', s', t'⟩ := d'
  obtain ⟨hx, hy, g1, e1, nx, ny, det, s0, s1⟩ := h
  obtain ⟨hx', hy', g1', e1', nx', ny', det', s0', s1'⟩ := h'
  dsimp only at *
  subst hx hy hx' hy'
  have co : ∀ {e k t s : Int}, e * t - k * s = 1 → Int.gcd e k = 1 := fun {e k t s} h => by
    have d1 : ((Int.gcd e k : Nat) : Int) ∣ e * t - k * s := Int.dvd_sub (Int.dvd_mul_of_dvd_left (Int.gcd_dvd_left ..)) (Int.dvd_mul_of_dvd_left (Int.gcd_dvd_right ..))
    rw [h] at d1
    have := Int.le_of_dvd (by decide) d1
    have : 0 < Int.gcd e k := Nat.pos_of_ne_zero fun z => by
      rw [z] at d1
      obtain ⟨c, hc⟩ := d1
      simp at hc
    lia
  have gE : ∀ {g e k : Int}, 1 ≤ g → Int.gcd e k = 1 → ((Int.gcd (g * e) (g * k) : Nat) : Int) = g := fun {g e k} h1 h2 => by
    rw [Int.gcd_mul_left, h2, Nat.mul_one]
    lia
  have eX : g * e = g' * e' := Int.add_left_cancel (nx.trans nx'.symm)
  have eY : g * k = g' * k' := Int.add_left_cancel (ny.trans ny'.symm)
  have eg : g = g' := by
    have a1 := gE g1 (co det)
    have a2 := gE g1' (co det')
    rw [eX, eY] at a1
    lia
  subst eg
  have ee : e = e' := Int.eq_of_mul_eq_mul_left (by lia) eX
  have ek : k = k' := Int.eq_of_mul_eq_mul_left (by lia) eY
  subst ee ek
  have es : s = s' := by
    have d1 : e ∣ k * (s - s') := ⟨t - t', by grind⟩
    have d2 : e ∣ s - s' := by
      have q : s - s' = e * (t * (s - s')) - k * (s - s') * s := by
        have : s - s' = (s - s') * (e * t - k * s) := by rw [det, Int.mul_one]
        grind
      rw [q]
      exact Int.dvd_sub ⟨_, rfl⟩ (Int.dvd_mul_of_dvd_left d1)
    obtain ⟨c, hc⟩ := d2
    rcases Int.lt_trichotomy c 0 with z | z | z
    · have : e * c ≤ e * (-1) := Int.mul_le_mul_of_nonneg_left (by lia) (by lia)
      lia
    · rw [z, Int.mul_zero] at hc; lia
    · have : e * 1 ≤ e * c := Int.mul_le_mul_of_nonneg_left (by lia) (by lia)
      lia
  subst es
  have et : e * t = e * t' := by lia
  have := Int.eq_of_mul_eq_mul_left (by lia) et
  subst this
  rfl
structure PapOk (n m a b : Int) (zs : List Int) (ds : List Sd) : Prop where
  cr : Crn m a b n zs
  sd : SdsOk m a b zs ds
theorem PapOk.get {n m a b : Int} {zs : List Int} {ds : List Sd} (h : PapOk n m a b zs ds) {i : Nat} (hi : i < ds.length) : ∃ u v d, zs[i]? = some u ∧ zs[i + 1]? = some v ∧ ds[i]? = some d ∧ SdOk u (hgt m a b u) v (hgt m a b v) d ∧ 0 ≤ u ∧ v ≤ n ∧ u < v ∧ OnAll m a b u v := by
  have ln := h.sd.ln
  have e1 : zs[i]? = some (zs[i]'(by lia)) := List.getElem?_eq_getElem _
  have e2 : zs[i + 1]? = some (zs[i + 1]'(by lia)) := List.getElem?_eq_getElem _
  have e3 : ds[i]? = some (ds[i]'hi) := List.getElem?_eq_getElem _
  have ic := h.cr.1.inc i _ _ e1 e2
  exact ⟨_, _, _, e1, e2, e3, h.sd.ok i _ _ _ e1 e2 e3, (h.cr.rg _ (List.mem_of_getElem? e1)).1, (h.cr.rg _ (List.mem_of_getElem? e2)).2, ic.1, ic.2⟩
theorem PapOk.uniq {n m a b : Int} {zs zs' : List Int} {ds ds' : List Sd} (h : PapOk n m a b zs ds) (h' : PapOk n m a b zs' ds') : zs = zs' ∧ ds = ds' := by
  have ez : zs = zs' := by
    obtain ⟨c1, k0, kn, _⟩ := h.cr
    obtain ⟨c2, l0, ln, _⟩ := h'.cr
    cases zs with
    | nil => cases k0
    | cons u K =>
      cases zs' with
      | nil => cases l0
      | cons v L =>
        cases k0
        cases l0
        rw [Ch.unique K L 0 c1 c2 kn ln]
  subst ez
  have l1 := h.sd.ln
  have l2 := h'.sd.ln
  refine ⟨rfl, List.ext_getElem? fun i => ?_⟩
  by_cases c : i < ds.length
  · obtain ⟨u, v, d, e1, e2, e3, s1, _⟩ := h.get c
    obtain ⟨u', v', d', f1, f2, f3, s2, _⟩ := h'.get (i := i) (by lia)
    rw [e1] at f1
    rw [e2] at f2
    cases f1
    cases f2
    rw [e3, f3, s1.uniq s2]
  · rw [List.getElem?_eq_none (by lia), List.getElem?_eq_none (by lia)]
theorem getD_of {ds : List Sd} {i : Nat} {d : Sd} (h : ds[i]? = some d) : ds.getD i sd0 = d := by rw [List.getD_eq_getElem?_getD, h]; rfl
theorem SdOk.side {n m a b u v : Int} {d : Sd} (b0 : 0 < b) (h : SdOk u (hgt m a b u) v (hgt m a b v) d) (on : OnAll m a b u v) : SideP m a b d := by
  have ab1 := h.above b0 on (j := 0) (by lia) (by have := h.g1; lia)
  have ab2 := h.above b0 on (j := d.g - 1) (by have := h.g1; lia) (by lia)
  rw [Int.zero_mul, Int.zero_mul, Int.add_zero, Int.add_zero] at ab1
  have lt : ∀ {x y : Int}, hgt m a b x < y → m * x + a < y * b := fun {x y} h => by
    have e := Int.lt_ediv_add_one_mul_self (m * x + a) b0
    unfold hgt at h
    have : ((m * x + a) / b + 1) * b ≤ y * b := Int.mul_le_mul_of_nonneg_right (by lia) (by lia)
    lia
  have ⟨hx, hy, g1, e1, nx, ny, det, s0, s1⟩ := h
  refine ⟨g1, e1, det, s0, s1, by rw [hy, hx], by unfold Sd.ey Sd.ex; rw [nx, ny], lt ab1, ?_⟩
  have := lt ab2
  have e3 : d.x + d.s + (d.g - 1) * d.e = d.ex - d.e + d.s := by unfold Sd.ex; rw [Int.sub_mul]; lia
  have e4 : d.y + d.t + (d.g - 1) * d.k = d.ey - d.k + d.t := by unfold Sd.ey; rw [Int.sub_mul]; lia
  rw [e3, e4] at this
  exact this
theorem SdOk.go {m a b u v w : Int} {d d' : Sd} (b0 : 0 < b) (h : SdOk u (hgt m a b u) v (hgt m a b v) d) (h' : SdOk v (hgt m a b v) w (hgt m a b w) d') (hb : Bnd (Rs m a b) u v w) : GoP d d' :=
  ⟨by rw [h'.x]; exact h.nx.symm, by rw [h'.y]; exact h.ny.symm, h.bend b0 h' hb⟩
theorem PapOk.first {n m a b : Int} {zs : List Int} {ds : List Sd} (h : PapOk n m a b zs ds) {d : Sd} (e : ds[0]? = some d) : d.x = 0 := by
  obtain ⟨u, v, d', e1, _, e3, s1, _⟩ := h.get (i := 0) (List.getElem?_eq_some_iff.mp e).1
  rw [e] at e3
  cases e3
  have := h.cr.2.1
  rw [e1] at this
  cases this
  exact s1.x
theorem PapOk.last {n m a b : Int} {zs : List Int} {ds : List Sd} (h : PapOk n m a b zs ds) {d : Sd} (e : ds[ds.length - 1]? = some d) : d.ex = n := by
  have il := (List.getElem?_eq_some_iff.mp e).1
  obtain ⟨u, v, d', e1, e2, e3, s1, _⟩ := h.get (i := ds.length - 1) il
  rw [e] at e3
  cases e3
  have la := h.cr.2.2.1
  have ln := h.sd.ln
  rw [List.getLast?_eq_getElem?, show zs.length - 1 = ds.length - 1 + 1 by lia, e2] at la
  cases la
  exact s1.nx
theorem papB_true {n m a b : Int} {zs : List Int} {ds : List Sd} (b0 : 0 < b) (h : PapOk n m a b zs ds) (n0 : 0 ≤ n) : papB n m a b ds = true := by
  have ln := h.sd.ln
  unfold papB
  by_cases c : n = 0
  · have z1 : ds = [] := by
      cases ds with
      | nil => rfl
      | cons d t =>
        obtain ⟨u, v, d', _, _, _, _, u0, vn, uv, _⟩ := h.get (i := 0) (by simp)
        lia
    rw [if_pos (.inl c), decide_eq_true c, z1]
    rfl
  · have z1 : ds ≠ [] := fun z => by
      rw [z] at ln
      have h0 := h.cr.2.1
      have hl := h.cr.2.2.1
      match zs, ln, h0, hl with
      | [u], _, h0, hl => cases h0; simp at hl; lia
    rw [if_neg (by rintro (z | z); (· exact c z); (· exact z1 z))]
    have l1 : 0 < ds.length := List.length_pos_iff.mpr z1
    obtain ⟨_, _, d0, _, _, e0, _⟩ := h.get (i := 0) l1
    obtain ⟨_, _, dz, _, _, ez, _⟩ := h.get (i := ds.length - 1) (by lia)
    rw [getD_of e0, getD_of ez, decide_eq_true (h.first e0), decide_eq_true (h.last ez)]
    have a1 : ds.all (sideB m a b) = true := List.all_eq_true.mpr fun d hd => by
      obtain ⟨i, hi⟩ := List.getElem?_of_mem hd
      obtain ⟨u, v, d', _, _, e3, s1, _, _, _, on⟩ := h.get (List.getElem?_eq_some_iff.mp hi).1
      rw [hi] at e3
      cases e3
      exact sideB_t (s1.side (n := n) b0 on)
    have a2 : ((List.range (ds.length - 1)).all fun k => goB (ds.getD k sd0) (ds.getD (k + 1) sd0)) = true := List.all_eq_true.mpr fun k hk => by
      have kl := List.mem_range.mp hk
      obtain ⟨u, v, d, e1, e2, e3, s1, _⟩ := h.get (i := k) (by lia)
      obtain ⟨u', w, d', f1, f2, f3, s2, _⟩ := h.get (i := k + 1) (by lia)
      rw [e2] at f1
      cases f1
      rw [getD_of e3, getD_of f3]
      exact goB_t (s1.go b0 s2 (h.cr.1.bnd k u v w e1 e2 f2))
    rw [a1, a2]
    rfl
def spPpD : Sp := fun vs H Q _ => ∃ (r : Addr) (v : V) (o : Option (List Sd)) (n m a b : Int), vs = [.ref r, v] ∧ LnN r n m a b H ∧ Pth H v o ∧ ∀ H', Same H H' → Q (.bl (papO n m a b o)) H'
theorem papB_iff {n m a b : Int} {ds : List Sd} (c0 : n ≠ 0) (c1 : ds ≠ []) : papB n m a b ds = true ↔ (ds.getD 0 sd0).x = 0 ∧ (ds.getD (ds.length - 1) sd0).ex = n ∧ (∀ (i : Nat) (d : Sd), ds[i]? = some d → SideP m a b d) ∧ ∀ (k : Nat) (d d' : Sd), ds[k]? = some d → ds[k + 1]? = some d' → GoP d d' := by
  have sb : ∀ d, sideB m a b d = true ↔ SideP m a b d := fun d => ⟨fun z => Classical.byContradiction fun y => (by rw [sideB_f y] at z; cases z), sideB_t⟩
  have gb : ∀ d d', goB d d' = true ↔ GoP d d' := fun d d' => ⟨fun z => Classical.byContradiction fun y => (by rw [goB_f y] at z; cases z), goB_t⟩
  unfold papB
  rw [if_neg (by rintro (w | w); (· exact c0 w); (· exact c1 w))]
  simp only [Bool.and_eq_true, decide_eq_true_eq, List.all_eq_true, List.mem_range, sb, gb]
  constructor
  · rintro ⟨⟨h1, h2⟩, h3, h4⟩
    refine ⟨h1, h2, fun i d e => h3 d (List.mem_of_getElem? e), fun k d d' e e' => ?_⟩
    have kl := (List.getElem?_eq_some_iff.mp e').1
    have := h4 k (by lia)
    rwa [getD_of e, getD_of e'] at this
  · rintro ⟨h1, h2, h3, h4⟩
    refine ⟨⟨h1, h2⟩, fun d hd => ?_, fun k hk => ?_⟩
    · obtain ⟨i, hi⟩ := List.getElem?_of_mem hd
      exact h3 i d hi
    · have e : ds[k]? = some (ds[k]'(by lia)) := List.getElem?_eq_getElem _
      have e' : ds[k + 1]? = some (ds[k + 1]'(by lia)) := List.getElem?_eq_getElem _
      rw [getD_of e, getD_of e']
      exact h4 k _ _ e e'
def atX (ds : List Sd) : Nat → Int × Int
  | 0 => (0, (ds.getD 0 sd0).y)
  | j + 1 => ((ds.getD j sd0).ex, (ds.getD j sd0).ey)
theorem ok__law_paper {f : Addr} {fd : FuncData} (F : Fun K "_law_paper" "_law_paper" s__law_paper f fd) (T : Txt K mg) (H__law_rows : Has P w K mg base 2 "_law_rows" ["_law_found", "_law_many"] spRwG) (H__law_side : Has P w K mg base 2 "_law_side" ["_law_line_here", "_law_row"] spSdD) : FnOk P w K mg base CX0 3 f fd ["_law_line_here", "_law_thing"] spPpD := by
  refine F.ok sc__law_paper (fun vs H Q E h => ?_) (fun cdv A outer s H vs Q E hr h => ?_)
  · obtain ⟨r, v, o, n, m, a, b, rfl, _⟩ := h
    rfl
  obtain ⟨r, v, o, n, m, a, b, rfl, ⟨hr0, L⟩, hv, q⟩ := h
  refine ⟨_, (pss_cons (ps_if (pt_not (pt_val (pe_fn H__law_rows (hr.mono (by lia)) rfl (pa_cons (pv 1) (pa_cons pe_int pa_nil)))))
      (pss_one (ps_ret pe_bl))
      pss_nil)
    (pss_cons (ps_if (PW.pt (pw_or (pt_cmpR op_eq (pe_ix ix_tup (pv 0) pe_int (fun _ _ => rfl)) pe_int (nomark _)) (pw_or1 (pt_cmpR (op_eq0 (Nat.lt_of_succ_lt (hu_of hr))) (pv 1) (pe_lst pa_nil) (nomark _)))))
      (pss_one (ps_ret (pe_and (pe_cmpR op_eq (pe_ix ix_tup (pv 0) pe_int (fun _ _ => rfl)) pe_int (nomark _)) (pe_one (pe_cmpR (op_eq0 (Nat.lt_of_succ_lt (hu_of hr))) (pv 1) (pe_lst pa_nil) (nomark _))))))
      pss_nil)
    (pss_cons (ps_set (i := 2) sc__law_paper.nd rfl (Or.inl rfl) (pe_tup (pa_cons pe_int (pa_cons (pe_ix ix_tup (pe_ix ix_list (pv 1) pe_int (fun _ _ => rfl)) pe_int (fun _ _ => rfl)) pa_nil))))
    (pss_cons (ps_for PassesOwn.never rfl (pi_list (pv 1)) (pg_name (i := 3) sc__law_paper.nd rfl (Or.inl rfl))
      (pss_cons (ps_if (PW.pt (pw_or (pt_not (pt_val (pe_fn H__law_side (hr.mono (by lia)) rfl (pa_cons (pv 0) (pa_cons (pv 3) pa_nil))))) (pw_or1 (pt_cmpR (op_neT (Nat.lt_of_succ_lt (hu_of hr))) (pe_tup (pa_cons (pe_ix ix_tup (pv 3) pe_int (fun _ _ => rfl)) (pa_cons (pe_ix ix_tup (pv 3) pe_int (fun _ _ => rfl)) pa_nil))) (pv 2) (nomark _)))))
        (pss_one (ps_ret pe_bl))
        pss_nil)
      (pss_one (ps_set (i := 2) sc__law_paper.nd rfl (Or.inl rfl) (pe_tup (pa_cons (pe_op op_add (pe_ix ix_tup (pv 3) pe_int (fun _ _ => rfl)) (pe_op op_mulB (pe_ix ix_tup (pv 3) pe_int (fun _ _ => rfl)) (pe_ix ix_tup (pv 3) pe_int (fun _ _ => rfl)))) (pa_cons (pe_op op_add (pe_ix ix_tup (pv 3) pe_int (fun _ _ => rfl)) (pe_op op_mulB (pe_ix ix_tup (pv 3) pe_int (fun _ _ => rfl)) (pe_ix ix_tup (pv 3) pe_int (fun _ _ => rfl)))) pa_nil)))))))
    (pss_cons (ps_for PassesOwn.never rfl (pi_range1 rfl T.n_range (pa_cons (pe_op op_sub (pe_callB call_len_seq rfl T.n_len boot_len (pa_cons (pv 1) pa_nil)) pe_int) pa_nil)) (pg_name (i := 4) sc__law_paper.nd rfl (Or.inl rfl))
      (pss_one (ps_if (pt_cmpR op_le (pe_op op_mulB (pe_ix ix_tup (pe_ix ix_list (pv 1) (pe_op op_add (pv 4) pe_int) (fun _ _ => rfl)) pe_int (fun _ _ => rfl)) (pe_ix ix_tup (pe_ix ix_list (pv 1) (pv 4) (fun _ _ => rfl)) pe_int (fun _ _ => rfl))) (pe_op op_mulB (pe_ix ix_tup (pe_ix ix_list (pv 1) (pe_op op_add (pv 4) pe_int) (fun _ _ => rfl)) pe_int (fun _ _ => rfl)) (pe_ix ix_tup (pe_ix ix_list (pv 1) (pv 4) (fun _ _ => rfl)) pe_int (fun _ _ => rfl))) (nomark _))
        (pss_one (ps_ret pe_bl))
        pss_nil)))
    (pss_one (ps_ret (pe_cmpR op_eq (pe_ix ix_tup (pv 2) pe_int (fun _ _ => rfl)) (pe_ix ix_tup (pv 0) pe_int (fun _ _ => rfl)) (nomark _))))))))), ?_⟩
  refine ⟨_, rfl, v, o, rfl, hv, _, rfl, ?_⟩
  cases o with
  | none => exact iteT (q H fun _ _ h => h)
  | some ds =>
  refine iteF ?_
  obtain ⟨l, rfl, ⟨ps, hp, pl⟩, B, dl⟩ : ∃ l, v = .ref l ∧ ALg sdv H l ds ∧ (∀ d ∈ ds, SdB d) ∧ ds.length ≤ 500 := by
    cases hv with
    | rows h B n => exact ⟨_, rfl, h, B, n⟩
  replace q : ∀ H', Same H H' → Q (.bl (papB n m a b ds)) H' := q
  have pn := pl.1
  have pe : (ps.map V.ref).isEmpty = ds.isEmpty := by
    cases ps with
    | nil => cases ds with
      | nil => rfl
      | cons d t => cases pn
    | cons p t => cases ds with
      | nil => cases pn
      | cons d t => rfl
  refine ⟨_, rfl, r, _, _, _, rfl, rfl, SqT.of hr0, rfl, rfl, _, rfl, ?_⟩
  by_cases c0 : n = 0
  · refine iteD (congrArg V.int c0) ?_
    refine ⟨_, rfl, r, _, _, _, rfl, rfl, SqT.of hr0, rfl, rfl, _, rfl, iteD (congrArg V.int c0) ?_⟩
    refine ⟨_, rfl, (by show 0 ≤ sizeLine; decide), fun l9 hl9 => ?_⟩
    have s9 := same_new hl9 (.lst [])
    refine ⟨l, l9, _, rfl, rfl, SqL.of (s9 _ _ hp), SqL.of upd_same, ?_⟩
    have qq := q _ s9
    unfold papB at qq
    rw [if_pos (.inl c0), decide_eq_true c0, Bool.true_and, ← pe] at qq
    exact qq
  have nz : ¬ V.int n = V.int 0 := fun z => c0 (by injection z)
  refine iteDN nz ?_
  refine ⟨_, rfl, (by show 0 ≤ sizeLine; decide), fun l9 hl9 => ?_⟩
  have s9 := same_new hl9 (.lst [])
  refine ⟨l, l9, _, rfl, rfl, SqL.of (s9 _ _ hp), SqL.of upd_same, _, rfl, ?_⟩
  by_cases c1 : ds = []
  · have e : (ps.map V.ref).isEmpty = true := by rw [pe, c1]; rfl
    have qq := q _ s9
    unfold papB at qq
    rw [if_pos (.inr c1), decide_eq_false c0, Bool.false_and] at qq
    show if (ps.map V.ref).isEmpty = true then _ else _
    rw [if_pos e]
    exact ⟨_, rfl, r, _, _, _, rfl, rfl, SqT.of (s9 _ _ hr0), rfl, rfl, _, rfl, iteDN nz qq⟩
  have e : (ps.map V.ref).isEmpty = false := by
    rw [pe]
    cases ds with
    | nil => exact absurd rfl c1
    | cons d t => rfl
  refine iteFe e ?_
  have pap := papB_iff (m := m) (a := a) (b := b) c0 c1
  have no : ∀ H', Same H H' → papB n m a b ds ≠ true → Q (.bl false) H' := fun H' s' z => by
    have := q H' s'
    rw [Bool.eq_false_iff.mpr z] at this
    exact this
  have L1000 : (1000 : Nat) ≤ sizeLine := by decide
  have dp : 0 < ds.length := List.length_pos_iff.mpr c1
  have e0 : ds[0]? = some (ds[0]'dp) := List.getElem?_eq_getElem _
  have p0 : ps[0]? = some (ps[0]'(by lia)) := List.getElem?_eq_getElem _
  have hp0 := pl.2 0 _ _ p0 e0
  have B0 := B _ (List.mem_of_getElem? e0)
  have i0 : atI (ps.map V.ref) 0 = some (.ref (ps[0]'(by lia))) := atI_nat (j := 0) (by rw [List.getElem?_map, p0]; rfl)
  generalize hH9 : upd H l9 (.lst []) = H9 at s9 ⊢
  refine ⟨_, rfl, l, _, _, _, rfl, rfl, SqL.of (s9 _ _ hp), i0, ps[0]'(by lia), _, _, _, rfl, rfl, SqT.of (s9 _ _ hp0), rfl, (by show 2 ≤ sizeLine; decide), fun tA htA => ?_⟩
  have sA := same_new htA (.tup (i2 (0, (ds[0]'dp).y)))
  have fA : upd H9 tA (.tup (i2 (0, (ds[0]'dp).y))) tA = some (.tup (i2 (atX ds 0))) := by rw [upd_same]; unfold atX; rw [getD_of e0]
  have sA' := s9.trans sA
  refine ⟨_, rfl, l, rfl, ⟨_, SqL.of (sA' _ _ hp)⟩, for_list (xs := ps.map V.ref) (fun j σ G => ∃ (tA : Addr) (y1 y2 : Option V), σ = [some (.ref r), some (.ref l), some (.ref tA), y1, y2] ∧ G tA = some (.tup (i2 (atX ds j))) ∧ Same H G ∧ ∀ (i : Nat) (d : Sd), i < j → ds[i]? = some d → SideP m a b d ∧ (d.x, d.y) = atX ds i) ⟨tA, _, _, rfl, fA, sA', fun i d h => absurd h (Nat.not_lt_zero i)⟩ ?_ ?_ ?_⟩
  · rintro j σ G _ ⟨tA, y1, y2, rfl, _, sG, _⟩
    exact SqL.of (sG _ _ hp)
  · rintro j v σ G hv ⟨tA, y1, y2, rfl, fG, sG, al⟩
    rw [List.getElem?_map] at hv
    cases e1 : ps[j]? with
    | none => rw [e1] at hv; cases hv
    | some p =>
    rw [e1] at hv
    cases hv
    obtain ⟨d, ed, hd⟩ := pl.get' e1
    unfold TRg at hd
    have Bd := B _ (List.mem_of_getElem? ed)
    have ee := Bd.end'
    have ⟨x0, x1, y0, y1', g0, g1, e0', e1', k0, k1, s0, s1, t0, t1⟩ := Bd
    have hdG := sG _ _ hd
    refine ⟨_, rfl, _, rfl, r, p, n, m, a, b, d, rfl, ⟨sG _ _ hr0, L⟩, hdG, Bd, _, rfl, ?_⟩
    by_cases sp : SideP m a b d
    rotate_left
    · rw [sideB_f sp]
      exact iteT (no G sG fun z => sp ((pap.mp z).2.2.1 j d ed))
    rw [sideB_t sp]
    refine iteF ?_
    refine ⟨_, rfl, p, _, _, _, rfl, rfl, SqT.of hdG, rfl, _, rfl, p, _, _, _, rfl, rfl, SqT.of hdG, rfl, (by show 2 ≤ sizeLine; decide), fun t2 ht2 => ?_⟩
    have s2 := same_new ht2 (.tup (i2 (d.x, d.y)))
    have f2 : upd G t2 (.tup (i2 (d.x, d.y))) t2 = some (.tup (i2 (d.x, d.y))) := upd_same
    have fG2 := s2 _ _ fG
    have sG2 := sG.trans s2
    refine ⟨_, rfl, t2, tA, _, _, rfl, rfl, SqT.of f2, SqT.of fG2, rfl, rfl, _, rfl, ?_⟩
    have ev : eqVs (i2 (d.x, d.y)) (i2 (atX ds j)) = (decide (d.x = (atX ds j).1) && decide (d.y = (atX ds j).2)) := eqVs2 ..
    rw [ev]
    by_cases ca : d.x = (atX ds j).1 ∧ d.y = (atX ds j).2
    rotate_left
    · have : (decide (d.x = (atX ds j).1) && decide (d.y = (atX ds j).2)) = false := by
        rw [Bool.and_eq_false_iff, decide_eq_false_iff_not, decide_eq_false_iff_not]
        by_cases z : d.x = (atX ds j).1
        · exact .inr fun y => ca ⟨z, y⟩
        · exact .inl z
      rw [this]
      refine iteT (no _ sG2 fun z => ca ?_)
      obtain ⟨z1, z2, z3, z4⟩ := pap.mp z
      cases j with
      | zero =>
        have : d = ds[0]'dp := by rw [e0] at ed; exact (Option.some.inj ed).symm
        rw [getD_of ed] at z1
        exact ⟨z1, by show d.y = (ds.getD 0 sd0).y; rw [getD_of ed]⟩
      | succ j =>
        have jl := (List.getElem?_eq_some_iff.mp ed).1
        have ej : ds[j]? = some (ds[j]'(by lia)) := List.getElem?_eq_getElem _
        have gp := z4 j _ _ ej ed
        refine ⟨?_, ?_⟩
        · show d.x = (ds.getD j sd0).ex
          rw [getD_of ej]; exact gp.x
        · show d.y = (ds.getD j sd0).ey
          rw [getD_of ej]; exact gp.y
    rw [decide_eq_true ca.1, decide_eq_true ca.2]
    refine iteF ?_
    have hd2 := sG2 _ _ hd
    refine ⟨_, rfl, p, _, _, _, rfl, rfl, SqT.of hd2, rfl, _, rfl, p, _, _, _, rfl, rfl, SqT.of hd2, rfl, _, rfl, p, _, _, _, rfl, rfl, SqT.of hd2, rfl, _, _, rfl, rfl, ⟨b400 (by lia) (by lia), b400 (by lia) (by lia)⟩, _, _, rfl, rfl, _, rfl, p, _, _, _, rfl, rfl, SqT.of hd2, rfl, _, rfl, p, _, _, _, rfl, rfl, SqT.of hd2, rfl, _, rfl, p, _, _, _, rfl, rfl, SqT.of hd2, rfl, _, _, rfl, rfl, ⟨b400 (by lia) (by lia), b400 (by lia) (by lia)⟩, _, _, rfl, rfl, (by show 2 ≤ sizeLine; decide), fun t3 ht3 => ?_⟩
    have s3 := same_new ht3 (.tup (i2 (d.ex, d.ey)))
    refine ⟨t3, _, _, rfl, ?_, sG2.trans s3, fun i d' hi e => ?_⟩
    · rw [upd_same]
      show some (HO.tup (i2 (d.ex, d.ey))) = some (.tup (i2 ((ds.getD j sd0).ex, (ds.getD j sd0).ey)))
      rw [getD_of ed]
    · by_cases c : i < j
      · exact al i d' c e
      · have : i = j := by lia
        subst this
        rw [ed] at e
        cases e
        exact ⟨sp, by rw [Prod.ext_iff]; exact ca⟩
  rintro σ G ⟨tA, y1, y2, rfl, fG, sG, al⟩
  have pm : (ps.map V.ref).length = ds.length := by rw [List.length_map]; exact pn
  rw [pm] at fG al
  have all : ∀ (i : Nat) (d : Sd), ds[i]? = some d → SideP m a b d ∧ (d.x, d.y) = atX ds i := fun i d e => al i d (List.getElem?_eq_some_iff.mp e).1 e
  refine ⟨_, rfl, l, _, rfl, .inl (SqL.of (sG _ _ hp)), _, _, rfl, rfl, _, rfl, by rw [pm]; lia, by rw [pm]; lia, for_range (fun j σ G2 => ∃ y1 y2 : Option V, σ = [some (.ref r), some (.ref l), some (.ref tA), y1, y2] ∧ G2 = G ∧ ∀ (k : Nat) (d d' : Sd), k < j → ds[k]? = some d → ds[k + 1]? = some d' → d'.k * d.e < d'.e * d.k) ⟨_, _, rfl, rfl, fun k d d' h => absurd h (Nat.not_lt_zero k)⟩ ?_ ?_⟩
  · rintro j σ G2 hj ⟨z1, z2, rfl, rfl, sl⟩
    have hj2 : j + 1 < ds.length := by rw [pm] at hj; lia
    have ej : ds[j]? = some (ds[j]'(by lia)) := List.getElem?_eq_getElem _
    have ej1 : ds[j + 1]? = some (ds[j + 1]'hj2) := List.getElem?_eq_getElem _
    have pj : ps[j]? = some (ps[j]'(by lia)) := List.getElem?_eq_getElem _
    have pj1 : ps[j + 1]? = some (ps[j + 1]'(by lia)) := List.getElem?_eq_getElem _
    have hj0 := sG _ _ (pl.2 j _ _ pj ej)
    have hj1 := sG _ _ (pl.2 (j + 1) _ _ pj1 ej1)
    have Bj := B _ (List.mem_of_getElem? ej)
    have Bj1 := B _ (List.mem_of_getElem? ej1)
    generalize ds[j]'(by lia) = d at ej hj0 Bj
    generalize ds[j + 1]'hj2 = d' at ej1 hj1 Bj1
    generalize ps[j]'(by lia) = pa at pj hj0
    generalize ps[j + 1]'(by lia) = pb at pj1 hj1
    have ⟨_, _, _, _, _, _, e0, e1, k0, k1, _, _, _, _⟩ := Bj
    have ⟨_, _, _, _, _, _, e0', e1', k0', k1', _, _, _, _⟩ := Bj1
    have ia : atI (ps.map V.ref) (0 + (j : Int)) = some (.ref pa) := by
      rw [Int.zero_add]
      exact atI_nat (by rw [List.getElem?_map, pj]; rfl)
    have ib : atI (ps.map V.ref) (0 + (j : Int) + 1) = some (.ref pb) := by
      rw [show 0 + (j : Int) + 1 = ((j + 1 : Nat) : Int) by lia]
      exact atI_nat (by rw [List.getElem?_map, pj1]; rfl)
    have hl2 := SqL.of (K := K) (sG _ _ hp)
    refine ⟨_, rfl, _, rfl, _, _, rfl, rfl, l, _, _, _, rfl, rfl, hl2, ib, pb, _, _, _, rfl, rfl, SqT.of hj1, rfl, _, rfl, _, rfl, l, _, _, _, rfl, rfl, hl2, ia, pa, _, _, _, rfl, rfl, SqT.of hj0, rfl, _, _, rfl, rfl, ⟨b400 (by lia) (by lia), b400 (by lia) (by lia)⟩, _, rfl, _, rfl, _, _, rfl, rfl, l, _, _, _, rfl, rfl, hl2, ib, pb, _, _, _, rfl, rfl, SqT.of hj1, rfl, _, rfl, _, rfl, l, _, _, _, rfl, rfl, hl2, ia, pa, _, _, _, rfl, rfl, SqT.of hj0, rfl, _, _, rfl, rfl, ⟨b400 (by lia) (by lia), b400 (by lia) (by lia)⟩, _, _, rfl, rfl, _, rfl, ?_⟩
    by_cases cs : d'.e * d.k ≤ d'.k * d.e
    · refine iteD cs (no _ sG fun z => ?_)
      have := ((pap.mp z).2.2.2 j d d' ej ej1).k
      lia
    refine iteDN cs ⟨_, _, rfl, rfl, fun k u u' hk e e' => ?_⟩
    by_cases c : k < j
    · exact sl k u u' c e e'
    · have : k = j := by lia
      subst this
      rw [ej] at e
      rw [ej1] at e'
      cases e
      cases e'
      lia
  rintro σ G2 ⟨z1, z2, rfl, rfl, sl⟩
  have sl' : ∀ (k : Nat) (d d' : Sd), ds[k]? = some d → ds[k + 1]? = some d' → GoP d d' := fun k d d' e e' => by
    have kl := (List.getElem?_eq_some_iff.mp e').1
    have h2 := (all (k + 1) d' e').2
    have h3 : (d'.x, d'.y) = ((ds.getD k sd0).ex, (ds.getD k sd0).ey) := h2
    rw [getD_of e] at h3
    exact ⟨congrArg Prod.fst h3, congrArg Prod.snd h3, sl k d d' (by rw [pm]; lia) e e'⟩
  have ez : ds[ds.length - 1]? = some (ds[ds.length - 1]'(by lia)) := List.getElem?_eq_getElem _
  have xz : (atX ds ds.length).1 = (ds.getD (ds.length - 1) sd0).ex := by
    obtain ⟨k, hk⟩ : ∃ k, ds.length = k + 1 := ⟨ds.length - 1, by lia⟩
    rw [hk]
    rfl
  have x00 : (ds.getD 0 sd0).x = 0 := by
    have := (all 0 _ e0).2
    rw [getD_of e0]
    exact congrArg Prod.fst this
  refine ⟨_, rfl, tA, _, _, _, rfl, rfl, SqT.of fG, rfl, _, rfl, r, _, _, _, rfl, rfl, SqT.of (sG _ _ hr0), rfl, rfl, ?_⟩
  have qq := q _ sG
  by_cases cn : (ds.getD (ds.length - 1) sd0).ex = n
  · rw [pap.mpr ⟨x00, cn, fun i d e => (all i d e).1, sl'⟩] at qq
    exact ret_true (congrArg V.int (xz.trans cn)) qq
  · rw [Bool.eq_false_iff.mpr fun z => cn (pap.mp z).2.1] at qq
    exact ret_false (fun z => cn (by injection z with z; rw [← xz]; exact z)) qq
theorem ok__law_divisor {f : Addr} {fd : FuncData} (F : Fun K "_law_divisor" "_law_divisor" s__law_divisor f fd) (T : Txt K mg)  : FnOk P w K mg base CX0 1 f fd ["_law_one", "_law_other"] spGcd := by
  refine F.ok sc__law_divisor (fun vs H Q E h => ?_) (fun cdv A outer s H vs Q E hr h => ?_)
  · obtain ⟨x, y, rfl, _⟩ := h
    rfl
  obtain ⟨x, y, rfl, x0, y0, q⟩ := h
  refine ⟨_, (pss_cons (ps_while PassesOwn.never (pt_cmpR op_gt (pv 1) pe_int (nomark _))
      (pss_one (ps_par (i := 0) (j := 1) rfl sc__law_divisor.nd rfl rfl (by decide) rfl rfl (pa_cons (pv 1) (pa_cons (pe_op op_mod (pv 0) (pv 1)) pa_nil)) rfl)))
    (pss_one (ps_ret (pv 0)))), ?_⟩
  refine while_by (fun σ H2 => ∃ u v : Int, σ = [some (.int u), some (.int v)] ∧ H2 = H ∧ 0 ≤ u ∧ 0 ≤ v ∧ Int.gcd u v = Int.gcd x y) (fun σ _ => match σ with | [_, some (V.int v)] => v.toNat | _ => 0) ⟨x, y, rfl, rfl, x0, y0, rfl⟩ ?_ ?_
  · rintro σ H2 ⟨u, v, rfl, rfl, u0, v0, eg⟩
    refine ⟨_, rfl, _, _, rfl, rfl, _, rfl, ?_⟩
    walk_at "c" <;> intro c1
    · refine ⟨_, rfl, _, rfl, _, rfl, _, _, rfl, rfl, c1, _, _, rfl, ?_⟩
      have r0 := Int.emod_nonneg u (show v ≠ 0 by lia)
      have r1 := Int.emod_lt_of_pos u c1
      refine ⟨⟨v, u % v, rfl, rfl, v0, r0, ?_⟩, ?_⟩
      · rw [← eg]
        obtain ⟨u', rfl⟩ := Int.eq_ofNat_of_zero_le u0
        obtain ⟨v', rfl⟩ := Int.eq_ofNat_of_zero_le v0
        rw [← Int.natCast_emod, Int.gcd_natCast_natCast, Int.gcd_natCast_natCast, Nat.gcd_comm v', ← Nat.gcd_rec, Nat.gcd_comm]
      · show (u % v).toNat < v.toNat
        lia
    · have e : v = 0 := by lia
      subst e
      rw [Int.gcd_zero_right] at eg
      refine ⟨_, rfl, ?_⟩
      rw [← eg] at q
      rw [show ((u.natAbs : Nat) : Int) = u by lia] at q
      exact q
  · rintro σ H2 Q1 Q2 hq ⟨v, e, i, j, e1, e2, c, e3, h⟩
    exact ⟨v, e, i, j, e1, e2, c, e3, hq _ _ h⟩
theorem bez {N B : Int} (B1 : 1 ≤ B) (hg : Int.gcd N B = 1) : ∃ r, B ∣ N * r - 1 := by
  have key : ∀ (f : Nat) (rest later wo lw : Int), later.toNat ≤ f → Ivs N B rest later wo lw → ∃ r, B ∣ N * r - 1 := by
    intro f
    induction f with
    | zero =>
      intro rest later wo lw hf iv
      have l0 := iv.l0
      have : later = 0 := by lia
      subst this
      exact ⟨_, iv.done hg⟩
    | succ f ih =>
      intro rest later wo lw hf iv
      by_cases c : later = 0
      · subst c
        exact ⟨_, iv.done hg⟩
      · obtain ⟨n1, n2⟩ := iv.next c
        have := n1.l0
        exact ih _ _ _ _ (by lia) n1
  exact key _ _ _ _ _ (Nat.le_refl _) (Ivs.start B1)
def P40 (i : Int) : Prop := -(2 ^ 40) ≤ i ∧ i ≤ 2 ^ 40
def spBes : Sp := fun vs H Q _ => ∃ (p q : Addr) (x0 y0 x1 y1 : Int), vs = [.ref p, .ref q] ∧ H p = some (.tup (i2 (x0, y0))) ∧ H q = some (.tup (i2 (x1, y1))) ∧ x0 < x1 ∧ P40 x0 ∧ P40 y0 ∧ P40 x1 ∧ P40 y1 ∧ ∀ (r : Addr) (d : Sd) H', H r = none → Same H H' → SdOk x0 y0 x1 y1 d → H' r = some (.tup (sdv d)) → Q (.ref r) H'
theorem ok__law_beside {f : Addr} {fd : FuncData} (F : Fun K "_law_beside" "_law_beside" s__law_beside f fd) (T : Txt K mg) (H__law_divisor : Has P w K mg base 1 "_law_divisor" ["_law_one", "_law_other"] spGcd) : FnOk P w K mg base CX0 2 f fd ["_law_one", "_law_other"] spBes := by
  refine F.ok sc__law_beside (fun vs H Q E h => ?_) (fun cdv A outer s H vs Q E hr h => ?_)
  · obtain ⟨p, q', x0, y0, x1, y1, rfl, _⟩ := h
    rfl
  obtain ⟨p, q', x0, y0, x1, y1, rfl, hp, hq, hx, ⟨a0, a1⟩, ⟨b0, b1⟩, ⟨c0, c1⟩, ⟨d0, d1⟩, q⟩ := h
  refine ⟨_, (pss_cons (ps_set (i := 2) sc__law_beside.nd rfl (Or.inl rfl) (pe_op op_sub (pe_ix ix_tup (pv 1) pe_int (fun _ _ => rfl)) (pe_ix ix_tup (pv 0) pe_int (fun _ _ => rfl))))
    (pss_cons (ps_set (i := 3) sc__law_beside.nd rfl (Or.inl rfl) (pe_op op_sub (pe_ix ix_tup (pv 1) pe_int (fun _ _ => rfl)) (pe_ix ix_tup (pv 0) pe_int (fun _ _ => rfl))))
    (pss_cons (ps_set (i := 4) sc__law_beside.nd rfl (Or.inl rfl) (pe_fn H__law_divisor (hr.mono (by lia)) rfl (pa_cons (pv 2) (pa_cons (pe_callB call_abs rfl T.n_abs boot_abs (pa_cons (pv 3) pa_nil)) pa_nil))))
    (pss_cons (ps_set (i := 2) sc__law_beside.nd rfl (Or.inl rfl) (pe_op op_fdivB (pv 2) (pv 4)))
    (pss_cons (ps_set (i := 3) sc__law_beside.nd rfl (Or.inl rfl) (pe_op op_fdivB (pv 3) (pv 4)))
    (pss_cons (ps_for PassesOwn.never rfl (pi_range1 rfl T.n_range (pa_cons (pv 2) pa_nil)) (pg_name (i := 5) sc__law_beside.nd rfl (Or.inl rfl))
      (pss_one (ps_if (pt_cmpR op_eq (pe_op op_mod (pe_op op_add pe_int (pe_op op_mulB (pv 3) (pv 5))) (pv 2)) pe_int (nomark _))
        (pss_cons (ps_set (i := 6) sc__law_beside.nd rfl (Or.inl rfl) (pe_op op_fdivB (pe_op op_add pe_int (pe_op op_mulB (pv 3) (pv 5))) (pv 2)))
        (pss_one (ps_ret (pe_tup (pa_consN (pe_ix ix_tup (pv 0) pe_int (fun _ _ => rfl)) (pa_consN (pe_ix ix_tup (pv 0) pe_int (fun _ _ => rfl)) (pa_consN (pv 4) (pa_consN (pv 2) (pa_consN (pv 3) (pa_consN (pv 5) (pa_consN (pv 6) pa_nil)))))))))))
        pss_nil)))
    (pss_one (ps_ret pe_non)))))))), ?_⟩
  refine ⟨_, rfl, q', _, _, _, rfl, rfl, SqT.of hq, rfl, _, rfl, p, _, _, _, rfl, rfl, SqT.of hp, rfl, _, _, rfl, rfl, ?_⟩
  refine ⟨_, rfl, q', _, _, _, rfl, rfl, SqT.of hq, rfl, _, rfl, p, _, _, _, rfl, rfl, SqT.of hp, rfl, _, _, rfl, rfl, ?_⟩
  refine ⟨_, rfl, _, rfl, _, rfl, _, _, rfl, (by show 0 ≤ x1 - x0; lia), (by show 0 ≤ (if y1 - y0 < 0 then -(y1 - y0) else y1 - y0); split <;> lia), ?_⟩
  have ea : (if y1 - y0 < 0 then -(y1 - y0) else y1 - y0) = ((y1 - y0).natAbs : Int) := by split <;> lia
  obtain ⟨g, eg⟩ : ∃ g : Int, g = ((Int.gcd (x1 - x0) ((y1 - y0).natAbs : Int) : Nat) : Int) := ⟨_, rfl⟩
  obtain ⟨g1, g2, e1, e2, k1, k2, co, ge, gk⟩ := side_pre hx eg
  dsimp only
  rw [ea, ← eg]
  refine ⟨_, rfl, _, rfl, _, _, rfl, rfl, ⟨by lia, log_small (by lia) (by lia)⟩, ?_⟩
  refine ⟨_, rfl, _, rfl, _, _, rfl, rfl, ⟨by lia, log_small (by lia) (by lia)⟩, ?_⟩
  dsimp only
  generalize (x1 - x0) / g = e at *
  generalize (y1 - y0) / g = k at *
  obtain ⟨r0, hr0⟩ := bez e1 co
  have w0 := Int.emod_nonneg (-r0) (show e ≠ 0 by lia)
  have w1 := Int.emod_lt_of_pos (-r0) (show 0 < e by lia)
  have wd : (1 + k * (-r0 % e)) % e = 0 := by
    refine Int.emod_eq_zero_of_dvd ?_
    have em := Int.mul_ediv_add_emod (-r0) e
    have : 1 + k * (-r0 % e) = -(k * r0 - 1) - e * (k * (-r0 / e)) := by
      have : -r0 % e = -r0 - e * (-r0 / e) := by lia
      rw [this]; grind
    rw [this]
    exact Int.dvd_sub (Int.dvd_neg.mpr hr0) ⟨_, rfl⟩
  have ka : -(2 ^ 41) ≤ k ∧ k ≤ 2 ^ 41 := by lia
  refine ⟨_, rfl, _, rfl, by lia, by lia, for_range (n := e.toNat) (fun j σ H2 => ∃ y1 y2 : Option V, σ = [some (.ref p), some (.ref q'), some (.int e), some (.int k), some (.int g), y1, y2] ∧ H2 = H ∧ ∀ i : Int, 0 ≤ i → i < (j : Int) → (1 + k * i) % e ≠ 0) ⟨_, _, rfl, rfl, fun i h1 h2 => by lia⟩ ?_ ?_⟩
  · rintro j σ H2 hj ⟨z1, z2, rfl, rfl, al⟩
    refine ⟨_, rfl, _, rfl, _, _, rfl, rfl, ⟨b400 (by lia) (by lia), b400 (by lia) (by lia)⟩, _, _, rfl, rfl, _, rfl, _, _, rfl, rfl, (show 0 < e by lia), rfl, _, rfl, ?_⟩
    by_cases cz : (1 + k * (0 + (j : Int))) % e = 0
    · refine iteD (congrArg V.int cz) ?_
      refine ⟨_, rfl, _, rfl, _, _, rfl, rfl, ⟨b400 (by lia) (by lia), b400 (by lia) (by lia)⟩, _, _, rfl, rfl, _, rfl, _, _, rfl, rfl, ⟨by lia, log_small (by lia) (by lia)⟩, ?_⟩
      refine ⟨_, rfl, p, _, _, _, rfl, rfl, SqT.of hp, rfl, _, rfl, p, _, _, _, rfl, rfl, SqT.of hp, rfl, _, rfl, _, rfl, _, rfl, _, rfl, _, rfl, (by show 7 ≤ sizeLine; decide), fun r hr => ?_⟩
      have em := Int.mul_ediv_add_emod (1 + k * (0 + (j : Int))) e
      rw [cz] at em
      refine q r ⟨x0, y0, g, e, k, 0 + (j : Int), (1 + k * (0 + (j : Int))) / e⟩ _ hr (same_new hr _) ⟨rfl, rfl, g1, e1, by show x0 + g * e = x1; lia, by show y0 + g * k = y1; lia, ?_, by show 0 ≤ 0 + (j : Int); lia, by show 0 + (j : Int) < e; lia⟩ upd_same
      show e * ((1 + k * (0 + (j : Int))) / e) - k * (0 + (j : Int)) = 1
      lia
    · refine iteDN (fun z => cz (by injection z)) ⟨_, _, rfl, rfl, fun i i0 i1 => ?_⟩
      by_cases c : i < (j : Int)
      · exact al i i0 c
      · have : i = 0 + (j : Int) := by lia
        rw [this]
        exact cz
  rintro σ H2 ⟨z1, z2, rfl, rfl, al⟩
  exact absurd wd (al _ w0 (by lia))
theorem Ch.unaff {g h : Int → Int} {b m a : Int} (b0 : 0 < b) {K : List Int} (c : Ch h K) (e : ∀ x, g x = b * h x + m * x + a) : Ch g K := by
  refine ⟨fun i u v e1 e2 => ?_, fun i u v w e1 e2 e3 => ?_⟩
  · obtain ⟨l, o⟩ := c.inc i u v e1 e2
    refine ⟨l, fun x h1 h2 => ?_⟩
    have t := o x h1 h2
    unfold OnG at t ⊢
    have := Int.mul_le_mul_of_nonneg_left t (show 0 ≤ b by lia)
    rw [e u, e v, e x]
    grind
  · have t := c.bnd i u v w e1 e2 e3
    unfold Bnd at t ⊢
    have := Int.mul_lt_mul_of_pos_left t b0
    rw [e u, e v, e w]
    grind
theorem rise_le : ∀ (K : List Int) (n : Int), K.Pairwise (· < ·) → K.getLast? = some n → ∀ z ∈ K, z ≤ n
  | [], _, _, h, _, _ => by cases h
  | [u], n, _, h, z, hz => by
    cases h
    rw [List.mem_singleton.mp hz]
    exact Int.le_refl _
  | u :: v :: K, n, p, h, z, hz => by
    obtain ⟨p1, p2⟩ := List.pairwise_cons.mp p
    rw [List.getLast?_cons_cons] at h
    have ih := rise_le (v :: K) n p2 h
    rcases List.mem_cons.mp hz with rfl | hz
    · have := p1 v (List.mem_cons_self ..)
      have := ih v (List.mem_cons_self ..)
      lia
    · exact ih z hz
theorem ALg.app' {α : Type} {f : α → List V} {H2 : Hp} {l r : Addr} {ps : List Addr} {xs : List α} {x : α} (h : PLg (TRg f) H2 ps xs) (hp : H2 l = some (.lst (ps.map V.ref))) (hr : H2 r = some (.tup (f x))) : ALg f (upd H2 l (.lst (ps.map V.ref ++ [.ref r]))) l (xs ++ [x]) := by
  have ne : ∀ {b : Addr} {zs : List V}, H2 b = some (.tup zs) → b ≠ l := fun e z => by rw [z, hp] at e; cases e
  refine ⟨ps ++ [r], by rw [upd_same, List.map_append]; rfl, by rw [List.length_append, List.length_append, h.1]; rfl, fun i p y a b => ?_⟩
  have hl := h.1
  by_cases c : i < ps.length
  · rw [List.getElem?_append_left c] at a
    rw [List.getElem?_append_left (by lia)] at b
    have := h.2 i p y a b
    unfold TRg at this ⊢
    rw [upd_ne (ne this)]
    exact this
  · have hi : i = ps.length := by
      have := (List.getElem?_eq_some_iff.mp a).1
      rw [List.length_append] at this
      have : i < ps.length + 1 := this
      lia
    subst hi
    rw [List.getElem?_append_right (Nat.le_refl _), Nat.sub_self] at a
    rw [List.getElem?_append_right (by lia), hl, Nat.sub_self] at b
    cases (Option.some.inj a).symm
    cases (Option.some.inj b).symm
    unfold TRg
    rw [upd_ne (ne hr)]
    exact hr
def spOwn : Sp := fun vs H Q _ => ∃ (r : Addr) (n m a b : Int), vs = [.ref r] ∧ H r = some (.tup (lnv n m a b)) ∧ SmL n m a b ∧ n ≤ 130 ∧ ∀ l zs ds H', H l = none → ALg sdv H' l ds → PapOk n m a b zs ds → Same H H' → Q (.ref l) H'
theorem rise_len : ∀ (K : List Int) (u n : Int), (u :: K).Pairwise (· < ·) → (∀ z ∈ u :: K, z ≤ n) → (K.length : Int) ≤ n - u
  | [], u, n, _, h => by have := h u (List.mem_cons_self ..); show (0 : Int) ≤ _; lia
  | v :: K, u, n, p, h => by
    obtain ⟨p1, p2⟩ := List.pairwise_cons.mp p
    have a := rise_len K v n p2 fun z hz => h z (List.mem_cons_of_mem _ hz)
    have b := p1 v (List.mem_cons_self ..)
    rw [List.length_cons]
    lia
theorem ok__law_own {f : Addr} {fd : FuncData} (F : Fun K "_law_own" "_law_own" s__law_own f fd) (T : Txt K mg) (H__law_hull : Has P w K mg base 2 "_law_hull" ["_law_points"] spHull) (H__law_beside : Has P w K mg base 2 "_law_beside" ["_law_one", "_law_other"] spBes) : FnOk P w K mg base CX0 3 f fd ["_law_line_here"] spOwn := by
  refine F.ok sc__law_own (fun vs H Q E h => ?_) (fun cdv A outer s H vs Q E hr h => ?_)
  · obtain ⟨r, n, m, a, b, rfl, _⟩ := h
    rfl
  obtain ⟨r, n, m, a, b, rfl, hr0, L, n130, q⟩ := h
  refine ⟨_, (pss_cons (ps_asg (pv 0) (pg_tup rfl (pgs_cons (pg_name (i := 1) sc__law_own.nd rfl (Or.inl rfl)) (pgs_cons (pg_name (i := 2) sc__law_own.nd rfl (Or.inr rfl)) (pgs_cons (pg_name (i := 3) sc__law_own.nd rfl (Or.inr rfl)) (pgs_cons (pg_name (i := 4) sc__law_own.nd rfl (Or.inr rfl)) pgs_nil))))))
    (pss_cons (ps_set (i := 5) sc__law_own.nd rfl (Or.inr rfl) (pe_fn H__law_hull (hr.mono (by lia)) rfl (pa_cons (pe_compC [2, 4, 3] ["_law_m", "_law_b", "_law_a"] rfl (by first | rfl | with_unfolding_all rfl) (by rfl) (by exact (List.forall_mem_cons.mpr ⟨rfl, (List.forall_mem_cons.mpr ⟨rfl, (List.forall_mem_cons.mpr ⟨rfl, (fun _ h => nomatch h)⟩)⟩)⟩)) (by decide +kernel) rfl (by decide +kernel) rfl (by decide +kernel) (by exact (List.forall_mem_cons.mpr ⟨⟨by first | exact Or.inl rfl | exact Or.inr rfl, rfl⟩, (List.forall_mem_cons.mpr ⟨⟨by first | exact Or.inl rfl | exact Or.inr rfl, rfl⟩, (List.forall_mem_cons.mpr ⟨⟨by first | exact Or.inl rfl | exact Or.inr rfl, rfl⟩, (fun _ h => nomatch h)⟩)⟩)⟩)) rfl (by rfl) (pi_range1 rfl T.n_range (pa_cons (pe_op op_add (pv 1) pe_int) pa_nil)) (fun C s2 H2 fp => (pe_tup (pa_cons (pv 0) (pa_cons (pe_op op_fdivB (pe_op op_add (pe_op op_mulB (pv 1) (pv 0)) (pv 3)) (pv 2)) pa_nil))))) pa_nil)))
    (pss_one (ps_ret (pe_compC [5] ["_law_points"] rfl (by first | rfl | with_unfolding_all rfl) (by rfl) (by exact (List.forall_mem_cons.mpr ⟨rfl, (fun _ h => nomatch h)⟩)) (by decide +kernel) rfl (by decide +kernel) rfl (by decide +kernel) (by exact (List.forall_mem_cons.mpr ⟨⟨by first | exact Or.inl rfl | exact Or.inr rfl, rfl⟩, (fun _ h => nomatch h)⟩)) rfl (by rfl) (pi_range1 rfl T.n_range (pa_cons (pe_op op_sub (pe_callB call_len_seq rfl T.n_len boot_len (pa_cons (pv 5) pa_nil)) pe_int) pa_nil)) (fun C s2 H2 fp => (pe_fn H__law_beside (hr.mono (by lia)) rfl (pa_cons (pe_ix (ix_listK (K := K) rfl) (pv 1) (pv 0) (fun _ _ => rfl)) (pa_cons (pe_ix (ix_listK (K := K) rfl) (pv 1) (pe_op op_add (pv 0) pe_int) (fun _ _ => rfl)) pa_nil))))))))), ?_⟩
  have L1000 : (1000 : Nat) ≤ sizeLine := by decide
  have SL := L
  obtain ⟨n0, n1, b0, b1, m0, m1, a0, a1⟩ := L
  have lgb := log_small (m := b) (by lia) (by lia)
  refine ⟨_, rfl, r, _, rfl, SqT.of hr0, rfl, _, _, rfl, _, _, rfl, _, _, rfl, _, _, rfl, rfl, ?_⟩
  refine ⟨_, rfl, _, _, rfl, rfl, _, rfl, by lia, by lia, fun D hD => ?_⟩
  rw [show (n + 1).toNat = n.toNat + 1 by lia]
  refine comp_rng (fun j HJ => ALg i2 HJ D ((List.range j).map fun (i : Nat) => pt m a b (i : Int)) ∧ Same H HJ) ⟨⟨[], upd_same, PLg.nil⟩, same_new hD _⟩ ?_ ?_
  · rintro j HJ hj ⟨⟨ps, hps, pl⟩, sJ⟩
    have pn := pl.1
    rw [List.length_map, List.length_range] at pn
    refine ⟨_, rfl, _, rfl, _, rfl, _, _, rfl, rfl, ⟨b200 (by lia) (by lia), b200 (by lia) (by lia)⟩, _, rfl, _, _, rfl, rfl, _, rfl, _, _, rfl, rfl, ⟨by lia, lgb⟩, (by show 2 ≤ sizeLine; decide), fun t ht => ?_⟩
    have sM := same_new ht (.tup (i2 (pt m a b (0 + (j : Int)))))
    have ap := ALg.app pl hps ht (pt m a b (0 + (j : Int)))
    refine ⟨_, sM _ _ hps, (by rw [List.length_map]; lia), n.toNat + 1 - (j + 1), (by lia), rfl, (by lia), ?_, Same.updL (sJ.trans sM) hD⟩
    rw [List.range_succ, List.map_append, show ([j].map fun (i : Nat) => pt m a b (i : Int)) = [pt m a b (0 + (j : Int))] by rw [Int.zero_add]; rfl]
    exact ap
  rintro HJ ⟨al, sJ⟩
  refine ⟨D, n, m, a, b, rfl, al, SL, fun k K' H2 hk al2 ch k0 kl kn s2 => ?_⟩
  have ch' : Ch (Rs m a b) K' := ch.unaff (b := b) (m := m) (a := a) (by lia) fun x => by
    rw [hg_rs]
    show _ = b * (-hgt m a b x) + m * x + a
    rw [Int.mul_neg]
    lia
  have ris := Ch.rising K' ch'
  have rle := rise_le K' n ris kl
  obtain ⟨K2, rfl⟩ : ∃ K2, K' = 0 :: K2 := by
    cases K' with
    | nil => cases k0
    | cons u K2 => cases k0; exact ⟨K2, rfl⟩
  have len := rise_len K2 0 n ris rle
  have cr : Crn m a b n (0 :: K2) := ⟨ch', k0, kl, by rw [List.length_cons]; lia⟩
  have rg := cr.rg
  obtain ⟨qs, hqs, ql⟩ := al2
  have qn := ql.1
  rw [List.length_map] at qn
  have qm : (qs.map V.ref).length = (0 :: K2).length := by rw [List.length_map]; exact qn
  generalize hK : (0 :: K2) = K' at *
  have kp : 0 < K'.length := by rw [← hK]; exact Nat.succ_pos _
  refine ⟨_, rfl, k, _, rfl, .inl (SqL.of hqs), _, _, rfl, rfl, _, rfl, by rw [qm]; lia, by rw [qm]; lia, fun D2 hD2 => ?_⟩
  rw [qm, show (((K'.length : Nat) : Int) - 1).toNat = K'.length - 1 by lia]
  refine comp_rng (fun j HJ => ∃ ds : List Sd, ALg sdv HJ D2 ds ∧ ds.length = j ∧ (∀ (i : Nat) u v d, K'[i]? = some u → K'[i + 1]? = some v → ds[i]? = some d → SdOk u (hgt m a b u) v (hgt m a b v) d) ∧ Same H2 HJ) ⟨[], ⟨[], upd_same, PLg.nil⟩, rfl, (fun i u v d _ _ e => by cases e), same_new hD2 _⟩ ?_ ?_
  · rintro j HJ2 hj ⟨ds, ⟨ps, hps, pl⟩, dl, ok, sJ2⟩
    have pn := pl.1
    have uj : K'[j]? = some (K'[j]'(by lia)) := List.getElem?_eq_getElem _
    have vj : K'[j + 1]? = some (K'[j + 1]'(by lia)) := List.getElem?_eq_getElem _
    have qj : qs[j]? = some (qs[j]'(by lia)) := List.getElem?_eq_getElem _
    have qj1 : qs[j + 1]? = some (qs[j + 1]'(by lia)) := List.getElem?_eq_getElem _
    have hu := sJ2 _ _ (ql.2 j _ _ qj (by rw [List.getElem?_map, uj]; rfl))
    have hv := sJ2 _ _ (ql.2 (j + 1) _ _ qj1 (by rw [List.getElem?_map, vj]; rfl))
    have uv := (ch'.inc j _ _ uj vj).1
    have ru := rg _ (List.mem_of_getElem? uj)
    have rv := rg _ (List.mem_of_getElem? vj)
    generalize K'[j]'(by lia) = u at uj hu uv ru
    generalize K'[j + 1]'(by lia) = v at vj hv uv rv
    generalize qs[j]'(by lia) = qa at qj hu
    generalize qs[j + 1]'(by lia) = qb at qj1 hv
    have hbu := SL.h ru.1 (by lia)
    have hbv := SL.h rv.1 (by lia)
    have ia : atI (qs.map V.ref) (0 + (j : Int)) = some (.ref qa) := by
      rw [Int.zero_add]
      exact atI_nat (by rw [List.getElem?_map, qj]; rfl)
    have ib : atI (qs.map V.ref) (0 + (j : Int) + 1) = some (.ref qb) := by
      rw [show 0 + (j : Int) + 1 = ((j + 1 : Nat) : Int) by lia]
      exact atI_nat (by rw [List.getElem?_map, qj1]; rfl)
    have hq2 := SqL.of (K := K) (sJ2 _ _ hqs)
    refine ⟨_, rfl, _, rfl, k, _, _, _, rfl, rfl, hq2, ia, _, rfl, _, rfl, _, _, rfl, rfl, k, _, _, _, rfl, rfl, hq2, ib, qa, qb, u, hgt m a b u, v, hgt m a b v, rfl, hu, hv, uv, ⟨by lia, by lia⟩, ⟨by lia, by lia⟩, ⟨by lia, by lia⟩, ⟨by lia, by lia⟩, fun r' d H3 hr3 s3 sd hrd => ?_⟩
    refine ⟨_, s3 _ _ hps, (by rw [List.length_map]; lia), K'.length - 1 - (j + 1), (by lia), rfl, (by lia), ds ++ [d], ALg.app' (pl.same s3) (s3 _ _ hps) hrd, by rw [List.length_append, dl]; rfl, ?_, Same.updL (sJ2.trans s3) hD2⟩
    intro i u' v' d' e1 e2 e3
    by_cases c : i < ds.length
    · rw [List.getElem?_append_left c] at e3
      exact ok i u' v' d' e1 e2 e3
    · have hi : i = ds.length := by
        have := (List.getElem?_eq_some_iff.mp e3).1
        rw [List.length_append] at this
        have : i < ds.length + 1 := this
        lia
      subst hi
      rw [List.getElem?_append_right (Nat.le_refl _), Nat.sub_self] at e3
      cases (Option.some.inj e3).symm
      rw [dl] at e1 e2
      rw [uj] at e1
      rw [vj] at e2
      cases e1
      cases e2
      exact sd
  rintro HJ2 ⟨ds, al3, dl, ok, sJ2⟩
  exact q D2 K' ds HJ2 ((sJ.trans s2).free hD2) al3 ⟨cr, ⟨by lia, ok⟩⟩ ((sJ.trans s2).trans sJ2)
theorem Pth.same {H H' : Hp} {v : V} {o : Option (List Sd)} (t : Pth H v o) (s : Same H H') : Pth H' v o := by
  cases t with
  | int i => exact .int i
  | bl b => exact .bl b
  | str x => exact .str x
  | non => exact .non
  | tup h => exact .tup (s _ _ h)
  | dct h => exact .dct (s _ _ h)
  | bad h l n t f => exact .bad (s _ _ h) l n (fun i x b e1 e2 => (t i x b e1 e2).same s) f
  | rows h B n => exact .rows (h.same s) B n
def spAskD : Sp := fun vs H Q _ => ∃ (r : Addr) (v : V) (o : Option (List Sd)) (n m a b : Int), vs = [.ref r, v] ∧ LnN r n m a b H ∧ Pth H v o ∧ ∀ H', Same H H' → Q (.bl true) H'
theorem ok__law_asked {f : Addr} {fd : FuncData} (F : Fun K "_law_asked" "_law_asked" s__law_asked f fd) (T : Txt K mg) (H_is_paper : Has P w K mg base 5 "is_paper" ["n", "m", "a", "b", "thing"] spIsPapG) (H__law_paper : Has P w K mg base 3 "_law_paper" ["_law_line_here", "_law_thing"] spPpD) : FnOk P w K mg base CX0 6 f fd ["_law_line_here", "_law_thing"] spAskD := by
  refine F.ok sc__law_asked (fun vs H Q E h => ?_) (fun cdv A outer s H vs Q E hr h => ?_)
  · obtain ⟨r, v, o, n, m, a, b, rfl, _⟩ := h
    rfl
  obtain ⟨r, v, o, n, m, a, b, rfl, ⟨hr0, L⟩, hv, q⟩ := h
  refine ⟨_, (pss_cons (ps_set (i := 2) sc__law_asked.nd rfl (Or.inl rfl) (pe_fn H_is_paper (hr.mono (by lia)) rfl (pa_cons (pe_ix ix_tup (pv 0) pe_int (fun _ _ => rfl)) (pa_cons (pe_ix ix_tup (pv 0) pe_int (fun _ _ => rfl)) (pa_cons (pe_ix ix_tup (pv 0) pe_int (fun _ _ => rfl)) (pa_cons (pe_ix ix_tup (pv 0) pe_int (fun _ _ => rfl)) (pa_cons (pv 1) pa_nil)))))))
    (pss_one (ps_ret (pe_and (pe_callB call_isinst rfl T.n_isinstance boot_isinstance (pa_cons (pv 2) (pa_cons (pe_ty rfl T.n_bool boot_bool) pa_nil))) (pe_one (pe_cmpR op_eq (pv 2) (pe_fn H__law_paper (hr.mono (by lia)) rfl (pa_cons (pv 0) (pa_cons (pv 1) pa_nil))) (nomark _))))))), ?_⟩
  have ht := SqT.of (K := K) hr0
  refine ⟨_, rfl, r, _, _, _, rfl, rfl, ht, rfl, _, rfl, r, _, _, _, rfl, rfl, ht, rfl, _, rfl, r, _, _, _, rfl, rfl, ht, rfl, _, rfl, r, _, _, _, rfl, rfl, ht, rfl, _, rfl, n, m, a, b, v, o, rfl, L, hv, fun H1 s1 => ?_⟩
  refine ⟨_, rfl, _, _, _, _, _, rfl, rfl, TyOf.bl _, kit_bl_bl _, _, rfl, iteT ?_⟩
  refine ⟨_, rfl, _, rfl, _, rfl, r, v, o, n, m, a, b, rfl, ⟨s1 _ _ hr0, L⟩, hv.same s1, fun H2 s2 => ?_⟩
  refine ⟨rfl, ?_⟩
  rw [decide_eq_true rfl]
  exact q H2 (s1.trans s2)
def rCatA : R2 := fun x y H Q => ∃ a b xs ys, x = .ref a ∧ y = .ref b ∧ H a = some (.tup xs) ∧ H b = some (.tup ys) ∧ xs.length + ys.length ≤ sizeLine ∧ ∀ p H', Same H H' → H' p = some (.tup (xs ++ ys)) → Q (.ref p) H'
theorem op_catA {X : Cx} : OpR X (binaryOp .Add) rCatA := by
  intro pins s σ H x y v u Q I rx ry h
  obtain ⟨a, b, xs, ys, rfl, rfl, ha, hb, hz, q⟩ := h
  by_cases hx : xs = []
  · cases rx
    cases ry
    obtain ⟨its, r1, p1, _⟩ := I.tuple (SqT.of (K := X.K) ha)
    obtain ⟨its2, r2, p2, _⟩ := I.tuple (SqT.of (K := X.K) hb)
    obtain ⟨⟨cls, dd, data, sl⟩, ho, hc, n, hd⟩ := id p1
    obtain ⟨⟨cls2, dd2, data2, sl2⟩, ho2, hc2, n2, hd2⟩ := id p2
    simp only at hc hd hc2 hd2
    subst hc hd hc2 hd2
    have he : its = [] := r1.nil_iff.mpr hx
    exact concat_meets ⟨_, ho, rfl⟩ ⟨_, ho2, rfl⟩ noFill_tuple_add seq_tuple_add PySem.F.slot_tuple_add PySem.F.entry_tuple_add (PySem.F.args_tuple_add_2 _ _)
      (tuple_addW0 a b its.toArray its2.toArray n n2 dd dd2 sl sl2 (by simp [he])) ⟨ho, ho2, .ref b, H, I, rfl, q b H (Same.refl H) (by rw [hx]; exact hb)⟩
  · exact op_catT pins s σ H _ _ v u Q I rx ry ⟨a, b, xs, ys, rfl, rfl, SqT.of ha, SqT.of hb, hx, hz, fun z => q a H (Same.refl H) (by rw [z, List.append_nil]; exact ha), fun _ p hp => q p _ (same_new hp _) upd_same⟩
theorem cut_take (xs : List V) (k : Nat) (hk : k ≤ xs.length) : cutV xs none (some (k : Int)) = xs.take k := by
  unfold cutV
  rw [HT.sIx_none, HT.sIx_nat, Nat.min_eq_left hk, List.drop_zero, Nat.sub_zero]
theorem cut_drop (xs : List V) (k : Nat) (hk : k ≤ xs.length) : cutV xs (some (k : Int)) none = xs.drop k := by
  unfold cutV
  rw [HT.sIx_none, HT.sIx_nat, Nat.min_eq_left hk, List.take_of_length_le (by rw [List.length_drop]; exact Nat.le_refl _)]
def Tg' (H : Hp) (v : V) : Prop := ∃ o, Pth H v o
def Row (H : Hp) (x : V) : Prop := ∃ (p : Addr) (d : Sd), x = .ref p ∧ H p = some (.tup (sdv d)) ∧ SdB d
def Ew (H : Hp) (x : V) : Prop := Row H x ∨ El H x false
theorem Row.same {H H' : Hp} {x : V} (r : Row H x) (s : Same H H') : Row H' x := by
  obtain ⟨p, d, e, h, b⟩ := r
  exact ⟨p, d, e, s _ _ h, b⟩
theorem rows_of {H : Hp} : ∀ {xs : List V}, (∀ x ∈ xs, Row H x) → ∃ (ps : List Addr) (ds : List Sd), xs = ps.map V.ref ∧ PLg (TRg sdv) H ps ds ∧ ∀ d ∈ ds, SdB d
  | [], _ => ⟨[], [], rfl, PLg.nil, fun _ h => by cases h⟩
  | x :: xs, h => by
    obtain ⟨p, d, rfl, hp, b⟩ := h x (List.mem_cons_self ..)
    obtain ⟨ps, ds, rfl, pl, B⟩ := rows_of fun y hy => h y (List.mem_cons_of_mem _ hy)
    refine ⟨p :: ps, d :: ds, rfl, ⟨by rw [List.length_cons, List.length_cons, pl.1], fun i q e a c => ?_⟩, fun e he => ?_⟩
    · cases i with
      | zero => cases a; cases c; exact hp
      | succ i => exact pl.2 i q e a c
    · rcases List.mem_cons.mp he with rfl | he
      · exact b
      · exact B e he
theorem tg_any {H : Hp} {l : Addr} {xs : List V} (h : H l = some (.lst xs)) (n : xs.length ≤ 500) (t : ∀ x ∈ xs, Ew H x) : Tg' H (.ref l) := by
  by_cases c : ∀ x ∈ xs, Row H x
  · obtain ⟨ps, ds, rfl, pl, B⟩ := rows_of c
    have := pl.1
    rw [List.length_map] at n
    exact ⟨_, .rows ⟨ps, h, pl⟩ B (by lia)⟩
  · obtain ⟨x, hx, nx⟩ : ∃ x, x ∈ xs ∧ ¬ Row H x := Classical.byContradiction fun z => c fun x hx => Classical.byContradiction fun y => z ⟨x, hx, y⟩
    refine ⟨_, .bad (bs := xs.map fun x => @decide (Row H x) (Classical.propDecidable _)) h (List.length_map _) n (fun i y b e1 e2 => ?_) ?_⟩
    · rw [List.getElem?_map, e1] at e2
      cases e2
      show El H y (@decide (Row H y) (Classical.propDecidable _))
      by_cases r : Row H y
      · rw [@decide_eq_true _ (Classical.propDecidable _) r]
        obtain ⟨p, d, rfl, hp, _⟩ := r
        exact El.sd hp
      · rw [@decide_eq_false _ (Classical.propDecidable _) r]
        exact (t y (List.mem_of_getElem? e1)).resolve_left r
    · rw [List.all_map, Bool.eq_false_iff]
      intro z
      have := List.all_eq_true.mp z x hx
      exact nx (@of_decide_eq_true _ (Classical.propDecidable _) this)
def hid (H : Hp) (a : Addr) : Hp := upd H a (.own 0)
theorem hid_upd {H : Hp} {a : Addr} {o : HO} : hid (upd H a o) a = hid H a := by
  funext b
  unfold hid
  by_cases c : b = a
  · rw [c, upd_same, upd_same]
  · rw [upd_ne c, upd_ne c, upd_ne c]
theorem same_hid {H H' : Hp} {a : Addr} (s : Same H H') : Same (hid H a) (hid H' a) := fun b o h => by
  unfold hid at h ⊢
  by_cases c : b = a
  · rw [c, upd_same] at h ⊢; exact h
  · rw [upd_ne c] at h ⊢; exact s b o h
theorem hid_ne {H : Hp} {a b : Addr} (h : b ≠ a) : hid H a b = H b := upd_ne h
theorem hid_of {H : Hp} {a b : Addr} {o : HO} (n : o ≠ .own 0) (h : hid H a b = some o) : H b = some o := by
  by_cases c : b = a
  · rw [c] at h
    unfold hid at h
    rw [upd_same] at h
    cases h
    exact absurd rfl n
  · rw [hid_ne c] at h
    exact h
theorem Th.unhid {H : Hp} {a : Addr} {x : V} (t : Th (hid H a) x) : Th H x := by
  cases t with
  | int i => exact .int i
  | bl b => exact .bl b
  | str x => exact .str x
  | non => exact .non
  | lst h => exact .lst (hid_of (fun z => nomatch z) h)
  | tup h => exact .tup (hid_of (fun z => nomatch z) h)
  | dct h => exact .dct (hid_of (fun z => nomatch z) h)
theorem El.unhid {H : Hp} {a : Addr} {x : V} {b : Bool} (t : El (hid H a) x b) : El H x b := by
  cases t with
  | int i => exact .int i
  | bl b => exact .bl b
  | str x => exact .str x
  | non => exact .non
  | lst h => exact .lst (hid_of (fun z => nomatch z) h)
  | dct h => exact .dct (hid_of (fun z => nomatch z) h)
  | len h n => exact .len (hid_of (fun z => nomatch z) h) n
  | els h n t => exact .els (hid_of (fun z => nomatch z) h) n fun x hx => (t x hx).unhid
theorem Tg'.unhid {H : Hp} {a : Addr} {x : V} (t : Tg' (hid H a) x) : Tg' H x := by
  obtain ⟨o, t⟩ := t
  cases t with
  | int i => exact ⟨_, .int i⟩
  | bl b => exact ⟨_, .bl b⟩
  | str x => exact ⟨_, .str x⟩
  | non => exact ⟨_, .non⟩
  | tup h => exact ⟨_, .tup (hid_of (fun z => nomatch z) h)⟩
  | dct h => exact ⟨_, .dct (hid_of (fun z => nomatch z) h)⟩
  | bad h l n t f => exact ⟨_, .bad (hid_of (fun z => nomatch z) h) l n (fun i x b e1 e2 => (t i x b e1 e2).unhid) f⟩
  | rows h B n =>
    obtain ⟨ps, hp, pl⟩ := h
    exact ⟨_, .rows ⟨ps, hid_of (fun z => nomatch z) hp, pl.1, fun i p x e1 e2 => hid_of (fun z => nomatch z) (pl.2 i p x e1 e2)⟩ B n⟩
theorem Tg'.same {H H' : Hp} {x : V} (t : Tg' H x) (s : Same H H') : Tg' H' x := by
  obtain ⟨o, t⟩ := t
  exact ⟨o, t.same s⟩
structure Asks (H G : Hp) (sm : Addr) (ts : List V) (N : Nat) : Prop where
  at_ : G sm = some (.lst ts)
  tg : ∀ x ∈ ts, Tg' (hid G sm) x
  sH : Same H G
  fr : H sm = none
  ln : ts.length ≤ N
theorem Asks.on {H G G' : Hp} {sm : Addr} {ts : List V} {N : Nat} (S : Asks H G sm ts N) (s : Same G G') : Asks H G' sm ts N := ⟨s _ _ S.at_, fun x hx => (S.tg x hx).same (same_hid s), S.sH.trans s, S.fr, S.ln⟩
theorem Asks.push {H G : Hp} {sm : Addr} {ts : List V} {N : Nat} {x : V} (S : Asks H G sm ts N) (t : Tg' (hid G sm) x) : Asks H (upd G sm (.lst (ts ++ [x]))) sm (ts ++ [x]) (N + 1) :=
  ⟨upd_same, fun y hy => by
    rw [hid_upd]
    rcases List.mem_append.mp hy with hy | hy
    · exact S.tg y hy
    · rw [List.mem_singleton.mp hy]; exact t, fun b o h => by rw [upd_ne (ne_of_none h S.fr)]; exact S.sH _ _ h, S.fr, by rw [List.length_append]; have := S.ln; show ts.length + 1 ≤ N + 1; lia⟩
theorem Asks.row {H G : Hp} {sm : Addr} {ts : List V} {N : Nat} {x : V} (S : Asks H G sm ts N) (r : Row G x) : Row (hid G sm) x := by
  obtain ⟨p, d, e, h, b⟩ := r
  refine ⟨p, d, e, ?_, b⟩
  rw [hid_ne fun z => by rw [z, S.at_] at h; cases h]
  exact h
theorem Asks.rows {H G : Hp} {sm p : Addr} {ts xs : List V} {N : Nat} (S : Asks H G sm ts N) (h : G p = some (.lst xs)) (np : p ≠ sm) (n : xs.length ≤ 500) (t : ∀ x ∈ xs, Row G x) : Tg' (hid G sm) (.ref p) :=
  tg_any (by rw [hid_ne np]; exact h) n fun x hx => .inl (S.row (t x hx))
theorem Asks.mix {H G : Hp} {sm p : Addr} {ts xs : List V} {N : Nat} (S : Asks H G sm ts N) (h : G p = some (.lst xs)) (np : p ≠ sm) (n : xs.length ≤ 500) (t : ∀ x ∈ xs, Row G x ∨ El (hid G sm) x false) : Tg' (hid G sm) (.ref p) :=
  tg_any (by rw [hid_ne np]; exact h) n fun x hx => (t x hx).elim (fun r => .inl (S.row r)) .inr
theorem Asks.ne {H G : Hp} {sm p : Addr} {ts : List V} {N : Nat} (S : Asks H G sm ts N) (h : G p = none) : p ≠ sm := fun z => by rw [z, S.at_] at h; cases h
structure Sm (d : Sd) : Prop where
  x0 : -1000 ≤ d.x
  x1 : d.x ≤ 1000
  y0 : -10000000 ≤ d.y
  y1 : d.y ≤ 10000000
  g0 : -1000 ≤ d.g
  g1 : d.g ≤ 1000
  e0 : -1000 ≤ d.e
  e1 : d.e ≤ 1000
  k0 : -10000000 ≤ d.k
  k1 : d.k ≤ 10000000
  s0 : -1000 ≤ d.s
  s1 : d.s ≤ 1000
  t0 : -10000001 ≤ d.t
  t1 : d.t ≤ 10000001
theorem Sm.b {d : Sd} (h : Sm d) : SdB d := by
  have ⟨x0, x1, y0, y1, g0, g1, e0, e1, k0, k1, s0, s1, t0, t1⟩ := h
  exact ⟨by lia, by lia, by lia, by lia, by lia, by lia, by lia, by lia, by lia, by lia, by lia, by lia, by lia, by lia⟩
theorem Sm.ends {d : Sd} (h : Sm d) : -2000000 ≤ d.ex ∧ d.ex ≤ 2000000 ∧ -20000000000 ≤ d.ey ∧ d.ey ≤ 20000000000 := by
  have ⟨x0, x1, y0, y1, g0, g1, e0, e1, k0, k1, s0, s1, t0, t1⟩ := h
  have a2 := mbs (m := d.g) (n := d.e) g0 g1 e0 e1
  have a3 := mbs (m := d.g) (n := d.k) g0 g1 k0 k1
  unfold Sd.ex Sd.ey
  lia
theorem SdOk.sdb {x0 y0 x1 y1 : Int} {d : Sd} (h : SdOk x0 y0 x1 y1 d) (a : P40 x0) (b : P40 y0) (c : P40 x1) (e : P40 y1) : SdB d := by
  obtain ⟨a0, a1⟩ := a
  obtain ⟨b0, b1⟩ := b
  obtain ⟨c0, c1⟩ := c
  obtain ⟨e0, e1⟩ := e
  have sp := h.span
  have ⟨hx, hy, g1, e1', nx, ny, det, s0, s1⟩ := h
  have gl : d.g ≤ d.g * d.e := by
    have := Int.mul_le_mul_of_nonneg_left e1' (show 0 ≤ d.g by lia)
    lia
  have kl : -(2 ^ 41) ≤ d.k ∧ d.k ≤ 2 ^ 41 := by
    constructor
    · refine Classical.byContradiction fun z => ?_
      have : d.g * (d.k) ≤ 1 * d.k := Int.mul_le_mul_of_nonpos_right g1 (by lia)
      lia
    · refine Classical.byContradiction fun z => ?_
      have : 1 * d.k ≤ d.g * d.k := Int.mul_le_mul_of_nonneg_right g1 (by lia)
      lia
  have ks := mbs (m := d.k) (n := d.s) (B := 2 ^ 41) (C := 2 ^ 41) kl.1 kl.2 (by lia) (by lia)
  have tl : -(2 ^ 83) ≤ d.t ∧ d.t ≤ 2 ^ 83 := by
    constructor
    · refine Classical.byContradiction fun z => ?_
      have : d.e * d.t ≤ 1 * d.t := Int.mul_le_mul_of_nonpos_right e1' (by lia)
      lia
    · refine Classical.byContradiction fun z => ?_
      have : 1 * d.t ≤ d.e * d.t := Int.mul_le_mul_of_nonneg_right e1' (by lia)
      lia
  exact ⟨by lia, by lia, by lia, by lia, by lia, by lia, by lia, by lia, by lia, by lia, by lia, by lia, by lia, by lia⟩
theorem SdOk.sm {n m a b u v : Int} {d : Sd} (h : SdOk u (hgt m a b u) v (hgt m a b v) d) (L : SmL n m a b) (n1 : n ≤ 130) (u0 : 0 ≤ u) (vn : v ≤ n) (uv : u < v) : Sm d := by
  have hu := L.h u0 (by lia)
  have hv := L.h (x := v) (by lia) (by lia)
  have sp := h.span
  have ⟨hx, hy, g1, e1', nx, ny, det, s0, s1⟩ := h
  have gl : d.g ≤ d.g * d.e := by
    have := Int.mul_le_mul_of_nonneg_left e1' (show 0 ≤ d.g by lia)
    lia
  have kl : -6000000 ≤ d.k ∧ d.k ≤ 6000000 := by
    constructor
    · refine Classical.byContradiction fun z => ?_
      have : d.g * (d.k) ≤ 1 * d.k := Int.mul_le_mul_of_nonpos_right g1 (by lia)
      lia
    · refine Classical.byContradiction fun z => ?_
      have : 1 * d.k ≤ d.g * d.k := Int.mul_le_mul_of_nonneg_right g1 (by lia)
      lia
  have tl : -6000001 ≤ d.t ∧ d.t ≤ 6000001 := by
    have k1 := Int.mul_le_mul_of_nonneg_right kl.2 s0
    have k2 := Int.mul_le_mul_of_nonneg_right kl.1 s0
    constructor
    · refine Classical.byContradiction fun z => ?_
      have : d.e * d.t ≤ d.e * (-6000002) := Int.mul_le_mul_of_nonneg_left (by lia) (by lia)
      lia
    · refine Classical.byContradiction fun z => ?_
      have : d.e * 6000002 ≤ d.e * d.t := Int.mul_le_mul_of_nonneg_left (by lia) (by lia)
      lia
  exact ⟨by lia, by lia, by lia, by lia, by lia, by lia, by lia, by lia, by lia, by lia, by lia, by lia, by lia, by lia⟩
def spPut : Sp := fun vs H Q _ => ∃ (l : Addr) (us : List V) (k : Nat) (x : V), vs = [.ref l, .int (k : Int), x] ∧ H l = some (.lst us) ∧ k < us.length ∧ us.length ≤ 300 ∧ ∀ (p : Addr) H', H p = none → Same H H' → H' p = some (.lst (us.take k ++ [x] ++ us.drop (k + 1))) → Q (.ref p) H'
theorem ok__law_put {f : Addr} {fd : FuncData} (F : Fun K "_law_put" "_law_put" s__law_put f fd) (T : Txt K mg)  : FnOk P w K mg base CX0 1 f fd ["_law_rows_here", "_law_at", "_law_row"] spPut := by
  refine F.ok sc__law_put (fun vs H Q E h => ?_) (fun cdv A outer s H vs Q E hr h => ?_)
  · obtain ⟨l, us, k, x, rfl, _⟩ := h
    rfl
  obtain ⟨l, us, k, x, rfl, hl, hk, hn, q⟩ := h
  refine ⟨_, (pss_one (ps_ret (pe_op op_addL (pe_op op_addL (pe_slice sl_list (pv 0) po_none (po_some (pv 1))) (pe_lst (pa_cons (pv 2) pa_nil))) (pe_slice sl_list (pv 0) (po_some (pe_op op_add (pv 1) pe_int)) po_none)))), ?_⟩
  have L1000 : (1000 : Nat) ≤ sizeLine := by decide
  refine ⟨_, rfl, _, rfl, _, rfl, l, _, rfl, SqL.of hl, fun l1 hl1 => ?_⟩
  rw [cut_take us k (by lia)]
  have s1 := same_new hl1 (.lst (us.take k))
  have f1 : upd H l1 (.lst (us.take k)) l1 = some (.lst (us.take k)) := upd_same
  generalize upd H l1 (.lst (us.take k)) = H1 at s1 f1 ⊢
  refine ⟨_, rfl, (by show 1 ≤ sizeLine; decide), fun l2 hl2 => ?_⟩
  have s2 := same_new hl2 (.lst [x])
  have f2 : upd H1 l2 (.lst [x]) l2 = some (.lst [x]) := upd_same
  generalize upd H1 l2 (.lst [x]) = H2 at s2 f2 ⊢
  refine ⟨l1, l2, _, _, rfl, rfl, SqL.of (s2 _ _ f1), SqL.of f2, (by rw [List.length_take]; show _ + 1 ≤ _; lia), fun l3 hl3 => ?_⟩
  have s3 := same_new hl3 (.lst (us.take k ++ [x]))
  have f3 : upd H2 l3 (.lst (us.take k ++ [x])) l3 = some (.lst (us.take k ++ [x])) := upd_same
  generalize upd H2 l3 (.lst (us.take k ++ [x])) = H3 at s3 f3 ⊢
  have s13 := (s1.trans s2).trans s3
  refine ⟨_, rfl, _, rfl, _, _, rfl, rfl, _, rfl, l, _, rfl, SqL.of (s13 _ _ hl), fun l4 hl4 => ?_⟩
  have ec : cutV us (some ((k : Int) + 1)) none = us.drop (k + 1) := cut_drop us (k + 1) (by lia)
  dsimp only
  rw [ec]
  have s4 := same_new hl4 (.lst (us.drop (k + 1)))
  have f4 : upd H3 l4 (.lst (us.drop (k + 1))) l4 = some (.lst (us.drop (k + 1))) := upd_same
  generalize upd H3 l4 (.lst (us.drop (k + 1))) = H4 at s4 f4 ⊢
  have s14 := s13.trans s4
  refine ⟨l3, l4, _, _, rfl, rfl, SqL.of (s4 _ _ f3), SqL.of f4, (by rw [List.length_append, List.length_take, List.length_drop]; show _ + 1 + _ ≤ _; lia), fun l5 hl5 => ?_⟩
  exact q l5 _ (s14.free hl5) (s14.trans (same_new hl5 _)) upd_same
def spParted : Sp := fun vs H Q _ => ∃ (p : Addr) (d : Sd), vs = [.ref p] ∧ H p = some (.tup (sdv d)) ∧ Sm d ∧ ∀ (l : Addr) (x1 x2 : V) H', Same H H' → H' l = some (.lst [x1, x2]) → Row H' x1 → Row H' x2 → Q (.ref l) H'
theorem ok__law_parted {f : Addr} {fd : FuncData} (F : Fun K "_law_parted" "_law_parted" s__law_parted f fd) (T : Txt K mg)  : FnOk P w K mg base CX0 1 f fd ["_law_row"] spParted := by
  refine F.ok sc__law_parted (fun vs H Q E h => ?_) (fun cdv A outer s H vs Q E hr h => ?_)
  · obtain ⟨p, d, rfl, _⟩ := h
    rfl
  obtain ⟨p, d, rfl, hp, sm, q⟩ := h
  refine ⟨_, (pss_cons (ps_set (i := 1) sc__law_parted.nd rfl (Or.inl rfl) (pe_tup (pa_cons (pe_op op_add (pe_ix ix_tup (pv 0) pe_int (fun _ _ => rfl)) (pe_ix ix_tup (pv 0) pe_int (fun _ _ => rfl))) (pa_cons (pe_op op_add (pe_ix ix_tup (pv 0) pe_int (fun _ _ => rfl)) (pe_ix ix_tup (pv 0) pe_int (fun _ _ => rfl))) (pa_cons (pe_op op_sub (pe_ix ix_tup (pv 0) pe_int (fun _ _ => rfl)) pe_int) pa_nil)))))
    (pss_one (ps_ret (pe_lst (pa_cons (pe_op op_catA (pe_op op_catA (pe_slice sl_tup (pv 0) po_none (po_some pe_int)) (pe_tup (pa_cons pe_int pa_nil))) (pe_slice sl_tup (pv 0) (po_some pe_int) po_none)) (pa_cons (pe_op op_catA (pv 1) (pe_slice sl_tup (pv 0) (po_some pe_int) po_none)) pa_nil)))))), ?_⟩
  have ⟨x0, x1, y0, y1, g0, g1, e0, e1, k0, k1, s0, s1, t0, t1⟩ := sm
  have hs := SqT.of (K := K) hp
  refine ⟨_, rfl, p, _, _, _, rfl, rfl, hs, rfl, _, rfl, p, _, _, _, rfl, rfl, hs, rfl, _, _, rfl, rfl, _, rfl, p, _, _, _, rfl, rfl, hs, rfl, _, rfl, p, _, _, _, rfl, rfl, hs, rfl, _, _, rfl, rfl, _, rfl, p, _, _, _, rfl, rfl, hs, rfl, _, _, rfl, rfl, (by show 3 ≤ sizeLine; decide), fun t1 ht1 => ?_⟩
  have z1 := same_new ht1 (.tup [.int (d.x + d.e), .int (d.y + d.k), .int (d.g - 1)])
  have f1 : upd H t1 (.tup [.int (d.x + d.e), .int (d.y + d.k), .int (d.g - 1)]) t1 = some (.tup [.int (d.x + d.e), .int (d.y + d.k), .int (d.g - 1)]) := upd_same
  dsimp only
  replace z1 : Same H (upd H t1 (.tup [.int (d.x + d.e), .int (d.y + d.k), .int (d.g - 1)])) := z1
  generalize upd H t1 (.tup [.int (d.x + d.e), .int (d.y + d.k), .int (d.g - 1)]) = H1 at z1 f1 ⊢
  refine ⟨_, rfl, _, rfl, p, _, rfl, SqT.of (z1 _ _ hp), (by show ¬ (0 = 0 ∧ min 2 7 = 7); decide), fun t2 ht2 => ?_⟩
  have z2 := same_new ht2 (.tup [.int d.x, .int d.y])
  have f2 : upd H1 t2 (.tup (cutV (sdv d) none (some 2))) t2 = some (.tup [.int d.x, .int d.y]) := upd_same
  replace z2 : Same H1 (upd H1 t2 (.tup (cutV (sdv d) none (some 2)))) := z2
  generalize upd H1 t2 (.tup (cutV (sdv d) none (some 2))) = H2 at z2 f2 ⊢
  refine ⟨(by show 1 ≤ sizeLine; decide), fun t3 ht3 => ?_⟩
  have z3 := same_new ht3 (.tup [.int 1])
  have f3 : upd H2 t3 (.tup [.int 1]) t3 = some (.tup [.int 1]) := upd_same
  generalize upd H2 t3 (.tup [.int 1]) = H3 at z3 f3 ⊢
  refine ⟨t2, t3, _, _, rfl, rfl, z3 _ _ f2, f3, (by show 2 + 1 ≤ sizeLine; decide), fun t4 H4 z4 f4 => ?_⟩
  have z14 := ((z1.trans z2).trans z3).trans z4
  refine ⟨_, rfl, _, rfl, p, _, rfl, SqT.of (z14 _ _ hp), (by show ¬ (min 3 7 = 0 ∧ 7 = 7); decide), fun t5 ht5 => ?_⟩
  have z5 := same_new ht5 (.tup [.int d.e, .int d.k, .int d.s, .int d.t])
  have f5 : upd H4 t5 (.tup (cutV (sdv d) (some 3) none)) t5 = some (.tup [.int d.e, .int d.k, .int d.s, .int d.t]) := upd_same
  replace z5 : Same H4 (upd H4 t5 (.tup (cutV (sdv d) (some 3) none))) := z5
  generalize upd H4 t5 (.tup (cutV (sdv d) (some 3) none)) = H5 at z5 f5 ⊢
  refine ⟨t4, t5, _, _, rfl, rfl, z5 _ _ f4, f5, (by show 3 + 4 ≤ sizeLine; decide), fun t6 H6 z6 f6 => ?_⟩
  have z16 := (z14.trans z5).trans z6
  refine ⟨_, rfl, _, rfl, _, rfl, p, _, rfl, SqT.of (z16 _ _ hp), (by show ¬ (min 3 7 = 0 ∧ 7 = 7); decide), fun t7 ht7 => ?_⟩
  have z7 := same_new ht7 (.tup [.int d.e, .int d.k, .int d.s, .int d.t])
  have f7 : upd H6 t7 (.tup (cutV (sdv d) (some 3) none)) t7 = some (.tup [.int d.e, .int d.k, .int d.s, .int d.t]) := upd_same
  replace z7 : Same H6 (upd H6 t7 (.tup (cutV (sdv d) (some 3) none))) := z7
  generalize upd H6 t7 (.tup (cutV (sdv d) (some 3) none)) = H7 at z7 f7 ⊢
  refine ⟨t1, t7, _, _, rfl, rfl, (((((z2.trans z3).trans z4).trans z5).trans z6).trans z7) _ _ f1, f7, (by show 3 + 4 ≤ sizeLine; decide), fun t8 H8 z8 f8 => ?_⟩
  refine ⟨(by show 2 ≤ sizeLine; decide), fun l hl => ?_⟩
  have z9 := same_new hl (.lst [.ref t6, .ref t8])
  refine q l _ _ _ (((z16.trans z7).trans z8).trans z9) upd_same ⟨t6, ⟨d.x, d.y, 1, d.e, d.k, d.s, d.t⟩, rfl, ((z7.trans z8).trans z9) _ _ f6, ?_⟩ ⟨t8, ⟨d.x + d.e, d.y + d.k, d.g - 1, d.e, d.k, d.s, d.t⟩, rfl, z9 _ _ f8, ?_⟩
  · exact ⟨by dsimp only; lia, by dsimp only; lia, by dsimp only; lia, by dsimp only; lia, by dsimp only; lia, by dsimp only; lia, by dsimp only; lia, by dsimp only; lia, by dsimp only; lia, by dsimp only; lia, by dsimp only; lia, by dsimp only; lia, by dsimp only; lia, by dsimp only; lia⟩
  · exact ⟨by dsimp only; lia, by dsimp only; lia, by dsimp only; lia, by dsimp only; lia, by dsimp only; lia, by dsimp only; lia, by dsimp only; lia, by dsimp only; lia, by dsimp only; lia, by dsimp only; lia, by dsimp only; lia, by dsimp only; lia, by dsimp only; lia, by dsimp only; lia⟩
def spJoined : Sp := fun vs H Q _ => ∃ (l : Addr) (us : List V) (i j : Nat) (p q' : Addr) (d d' : Sd), vs = [.ref l, .int (i : Int), .int (j : Int)] ∧ H l = some (.lst us) ∧ us.length ≤ 300 ∧ i ≤ j ∧ j < us.length ∧ us[i]? = some (.ref p) ∧ us[j]? = some (.ref q') ∧ H p = some (.tup (sdv d)) ∧ H q' = some (.tup (sdv d')) ∧ Sm d ∧ Sm d' ∧ d.x < d'.ex ∧ ∀ (l' : Addr) (x : V) H', H l' = none → Same H H' → H' l' = some (.lst (us.take i ++ [x] ++ us.drop (j + 1))) → Row H' x → Q (.ref l') H'
theorem ok__law_joined {f : Addr} {fd : FuncData} (F : Fun K "_law_joined" "_law_joined" s__law_joined f fd) (T : Txt K mg) (H__law_beside : Has P w K mg base 2 "_law_beside" ["_law_one", "_law_other"] spBes) : FnOk P w K mg base CX0 3 f fd ["_law_rows_here", "_law_first", "_law_last"] spJoined := by
  refine F.ok sc__law_joined (fun vs H Q E h => ?_) (fun cdv A outer s H vs Q E hr h => ?_)
  · obtain ⟨l, us, i, j, p, q', d, d', rfl, _⟩ := h
    rfl
  obtain ⟨l, us, i, j, p, q', d, d', rfl, hl, hn, ij, jl, ui, uj, hp, hq, sm, sm', lt, q⟩ := h
  refine ⟨_, (pss_cons (ps_set (i := 3) sc__law_joined.nd rfl (Or.inl rfl) (pe_ix ix_list (pv 0) (pv 2) (fun _ _ => rfl)))
    (pss_cons (ps_set (i := 3) sc__law_joined.nd rfl (Or.inl rfl) (pe_tup (pa_cons (pe_op op_add (pe_ix ix_tup (pv 3) pe_int (fun _ _ => rfl)) (pe_op op_mulB (pe_ix ix_tup (pv 3) pe_int (fun _ _ => rfl)) (pe_ix ix_tup (pv 3) pe_int (fun _ _ => rfl)))) (pa_cons (pe_op op_add (pe_ix ix_tup (pv 3) pe_int (fun _ _ => rfl)) (pe_op op_mulB (pe_ix ix_tup (pv 3) pe_int (fun _ _ => rfl)) (pe_ix ix_tup (pv 3) pe_int (fun _ _ => rfl)))) pa_nil))))
    (pss_one (ps_ret (pe_op op_addL (pe_op op_addL (pe_slice sl_list (pv 0) po_none (po_some (pv 1))) (pe_lst (pa_cons (pe_fn H__law_beside (hr.mono (by lia)) rfl (pa_cons (pe_slice sl_tup (pe_ix ix_list (pv 0) (pv 1) (fun _ _ => rfl)) po_none (po_some pe_int)) (pa_cons (pv 3) pa_nil))) pa_nil))) (pe_slice sl_list (pv 0) (po_some (pe_op op_add (pv 2) pe_int)) po_none)))))), ?_⟩
  have L1000 : (1000 : Nat) ≤ sizeLine := by decide
  have ⟨x0, x1, y0, y1, g0, g1, e0, e1, k0, k1, s0, s1, t0, t1⟩ := sm
  have ⟨x0', x1', y0', y1', g0', g1', e0', e1', k0', k1', s0', s1', t0', t1'⟩ := sm'
  have en := sm'.ends
  have hs := SqT.of (K := K) hq
  refine ⟨_, rfl, _, rfl, l, _, _, _, rfl, rfl, SqL.of hl, atI_nat uj, ?_⟩
  refine ⟨_, rfl, q', _, _, _, rfl, rfl, hs, rfl, _, rfl, q', _, _, _, rfl, rfl, hs, rfl, _, rfl, q', _, _, _, rfl, rfl, hs, rfl, _, _, rfl, rfl, ⟨b400 (by lia) (by lia), b400 (by lia) (by lia)⟩, _, _, rfl, rfl, _, rfl, q', _, _, _, rfl, rfl, hs, rfl, _, rfl, q', _, _, _, rfl, rfl, hs, rfl, _, rfl, q', _, _, _, rfl, rfl, hs, rfl, _, _, rfl, rfl, ⟨b400 (by lia) (by lia), b400 (by lia) (by lia)⟩, _, _, rfl, rfl, (by show 2 ≤ sizeLine; decide), fun t1 ht1 => ?_⟩
  have z1 := same_new ht1 (.tup (i2 (d'.ex, d'.ey)))
  have f1 : upd H t1 (.tup (i2 (d'.ex, d'.ey))) t1 = some (.tup (i2 (d'.ex, d'.ey))) := upd_same
  replace z1 : Same H (upd H t1 (.tup [.int (d'.x + d'.g * d'.e), .int (d'.y + d'.g * d'.k)])) := z1
  replace f1 : upd H t1 (.tup [.int (d'.x + d'.g * d'.e), .int (d'.y + d'.g * d'.k)]) t1 = some (.tup (i2 (d'.ex, d'.ey))) := f1
  dsimp only
  generalize upd H t1 (.tup [.int (d'.x + d'.g * d'.e), .int (d'.y + d'.g * d'.k)]) = H1 at z1 f1 ⊢
  refine ⟨_, rfl, _, rfl, _, rfl, l, _, rfl, SqL.of (z1 _ _ hl), fun l2 hl2 => ?_⟩
  rw [cut_take us i (by lia)]
  have z2 := same_new hl2 (.lst (us.take i))
  have f2 : upd H1 l2 (.lst (us.take i)) l2 = some (.lst (us.take i)) := upd_same
  generalize upd H1 l2 (.lst (us.take i)) = H2 at z2 f2 ⊢
  have z12 := z1.trans z2
  refine ⟨_, rfl, _, rfl, l, _, _, _, rfl, rfl, SqL.of (z12 _ _ hl), atI_nat ui, _, rfl, p, _, rfl, SqT.of (z12 _ _ hp), (by show ¬ (0 = 0 ∧ min 2 7 = 7); decide), fun t3 ht3 => ?_⟩
  have z3 := same_new ht3 (.tup [.int d.x, .int d.y])
  have f3 : upd H2 t3 (.tup (cutV (sdv d) none (some 2))) t3 = some (.tup (i2 (d.x, d.y))) := upd_same
  replace z3 : Same H2 (upd H2 t3 (.tup (cutV (sdv d) none (some 2)))) := z3
  generalize upd H2 t3 (.tup (cutV (sdv d) none (some 2))) = H3 at z3 f3 ⊢
  have pa : P40 d.x := ⟨by lia, by lia⟩
  have pb : P40 d.y := ⟨by lia, by lia⟩
  have pc : P40 d'.ex := ⟨by lia, by lia⟩
  have pd : P40 d'.ey := ⟨by lia, by lia⟩
  refine ⟨_, rfl, t3, t1, d.x, d.y, d'.ex, d'.ey, rfl, f3, (z2.trans z3) _ _ f1, lt, pa, pb, pc, pd, fun r4 d4 H4 hr4 z4 sd4 f4 => ?_⟩
  refine ⟨(by show 1 ≤ sizeLine; decide), fun l5 hl5 => ?_⟩
  have z5 := same_new hl5 (.lst [.ref r4])
  have f5 : upd H4 l5 (.lst [.ref r4]) l5 = some (.lst [.ref r4]) := upd_same
  generalize upd H4 l5 (.lst [.ref r4]) = H5 at z5 f5 ⊢
  refine ⟨l2, l5, _, _, rfl, rfl, SqL.of (((z3.trans z4).trans z5) _ _ f2), SqL.of f5, (by rw [List.length_take]; show _ + 1 ≤ _; lia), fun l6 hl6 => ?_⟩
  have z6 := same_new hl6 (.lst (us.take i ++ [.ref r4]))
  have f6 : upd H5 l6 (.lst (us.take i ++ [.ref r4])) l6 = some (.lst (us.take i ++ [.ref r4])) := upd_same
  generalize upd H5 l6 (.lst (us.take i ++ [.ref r4])) = H6 at z6 f6 ⊢
  have z16 := ((z12.trans (z3.trans z4)).trans z5).trans z6
  refine ⟨_, rfl, _, rfl, _, _, rfl, rfl, _, rfl, l, _, rfl, SqL.of (z16 _ _ hl), fun l7 hl7 => ?_⟩
  have ec : cutV us (some ((j : Int) + 1)) none = us.drop (j + 1) := cut_drop us (j + 1) (by lia)
  dsimp only
  rw [ec]
  have z7 := same_new hl7 (.lst (us.drop (j + 1)))
  have f7 : upd H6 l7 (.lst (us.drop (j + 1))) l7 = some (.lst (us.drop (j + 1))) := upd_same
  generalize upd H6 l7 (.lst (us.drop (j + 1))) = H7 at z7 f7 ⊢
  refine ⟨l6, l7, _, _, rfl, rfl, SqL.of (z7 _ _ f6), SqL.of f7, (by rw [List.length_append, List.length_take, List.length_drop]; show _ + 1 + _ ≤ _; lia), fun l8 hl8 => ?_⟩
  have z8 := same_new hl8 (.lst ((us.take i ++ [.ref r4]) ++ us.drop (j + 1)))
  exact q l8 (.ref r4) _ ((z16.trans z7).free hl8) ((z16.trans z7).trans z8) upd_same ⟨r4, d4, rfl, (((z5.trans z6).trans z7).trans z8) _ _ f4, sd4.sdb pa pb pc pd⟩
def RL (H : Hp) (p : Addr) (N : Nat) : Prop := ∃ xs, H p = some (.lst xs) ∧ xs.length ≤ N ∧ ∀ x ∈ xs, Row H x
theorem RL.same {H G : Hp} {p : Addr} {N : Nat} (r : RL H p N) (s : Same H G) : RL G p N := by
  obtain ⟨xs, h, n, t⟩ := r
  exact ⟨xs, s _ _ h, n, fun x hx => (t x hx).same s⟩
theorem rl_cut {K : PySem.W.Frag} {H : Hp} {l : Addr} {N : Nat} {lo hi : Option Int} {Q : V → Hp → Prop} (h : RL H l N) (q : ∀ p G, H p = none → Same H G → RL G p N → Q (.ref p) G) : rSlL K (.ref l) lo hi H Q := by
  obtain ⟨xs, h, n, t⟩ := h
  refine ⟨l, xs, rfl, SqL.of h, fun p hp => q p _ hp (same_new hp _) ⟨_, upd_same, ?_, fun x hx => (t x ?_).same (same_new hp _)⟩⟩
  · unfold cutV
    rw [List.length_take, List.length_drop]
    lia
  · unfold cutV at hx
    exact List.mem_of_mem_drop (List.mem_of_mem_take hx)
theorem rl_cutN {K : PySem.W.Frag} {σ : L2.St} {H : Hp} {l : Addr} {N : Nat} {lo : Option Int} {Q : V → Hp → Prop} (h : RL H l N) (q : ∀ p G, H p = none → Same H G → RL G p N → Q (.ref p) G) : tNoPart σ H (fun u H3 => rSlL K (.ref l) lo u H3 Q) := rl_cut h q
theorem rl_rev {H : Hp} {l : Addr} {N : Nat} (h : RL H l N) : ∃ xs, H l = some (.lst xs) ∧ ∀ t, H t = none → ∃ G, upd H t (.lst xs.reverse) = G ∧ Same H G ∧ RL G t N := by
  obtain ⟨xs, h, n, t⟩ := h
  exact ⟨xs, h, fun p hp => ⟨_, rfl, same_new hp _, _, upd_same, by rw [List.length_reverse]; exact n, fun x hx => (t x (List.mem_reverse.mp hx)).same (same_new hp _)⟩⟩
theorem rl_add {K : PySem.W.Frag} {H : Hp} {a b : Addr} {N M : Nat} {Q : V → Hp → Prop} (h1 : RL H a N) (h2 : RL H b M) (le : N + M ≤ 1000) (q : ∀ p G, H p = none → Same H G → RL G p (N + M) → Q (.ref p) G) : rAddL K (.ref a) (.ref b) H Q := by
  obtain ⟨xs, h1, n1, t1⟩ := h1
  obtain ⟨ys, h2, n2, t2⟩ := h2
  have : (1000 : Nat) ≤ sizeLine := by decide
  refine ⟨a, b, xs, ys, rfl, rfl, SqL.of h1, SqL.of h2, by lia, fun p hp => q p _ hp (same_new hp _) ⟨_, upd_same, by rw [List.length_append]; lia, fun x hx => ?_⟩⟩
  rcases List.mem_append.mp hx with hx | hx
  · exact (t1 x hx).same (same_new hp _)
  · exact (t2 x hx).same (same_new hp _)
theorem nil_ {σ : L2.St} {H : Hp} {k : List V → Hp → Prop} (h : k [] H) : tNil σ H k := h
theorem genO {H G : Hp} {p : Addr} {o : HO} (w : upd H p o = G) (h : H p = none) : Same H G ∧ G p = some o := by
  subst w
  exact ⟨same_new h _, upd_same⟩
theorem newR {H : Hp} {p : Addr} {x : V} (h : H p = none) (r : Row H x) : ∃ G, upd H p (.lst [x]) = G ∧ Same H G ∧ RL G p 1 :=
  ⟨_, rfl, same_new h _, _, upd_same, Nat.le_refl _, fun y hy => by rw [List.mem_singleton.mp hy]; exact r.same (same_new h _)⟩
theorem tp_cut {K : PySem.W.Frag} {H : Hp} {p : Addr} {xs : List V} (ys : List V) {lo hi : Option Int} {Q : V → Hp → Prop} (h : H p = some (.tup xs)) (nw : ¬ (HT.sIx xs.length 0 lo = 0 ∧ HT.sIx xs.length xs.length hi = xs.length)) (e : cutV xs lo hi = ys) (q : ∀ t G, Same H G → G t = some (.tup ys) → Q (.ref t) G) : rSlT K (.ref p) lo hi H Q :=
  ⟨p, xs, rfl, SqT.of h, nw, fun t ht => q t _ (same_new ht _) (by rw [← e]; exact upd_same)⟩
theorem tp_cutN {K : PySem.W.Frag} {σ : L2.St} {H : Hp} {p : Addr} {xs : List V} (ys : List V) {lo : Option Int} {Q : V → Hp → Prop} (h : H p = some (.tup xs)) (nw : ¬ (HT.sIx xs.length 0 lo = 0 ∧ HT.sIx xs.length xs.length none = xs.length)) (e : cutV xs lo none = ys) (q : ∀ t G, Same H G → G t = some (.tup ys) → Q (.ref t) G) : tNoPart σ H (fun u H3 => rSlT K (.ref p) lo u H3 Q) := tp_cut ys h nw e q
theorem tp_cat {H : Hp} {a b : Addr} {xs ys : List V} (zs : List V) {Q : V → Hp → Prop} (h1 : H a = some (.tup xs)) (h2 : H b = some (.tup ys)) (e : xs ++ ys = zs) (n : zs.length ≤ 10) (q : ∀ t G, Same H G → G t = some (.tup zs) → Q (.ref t) G) : rCatA (.ref a) (.ref b) H Q := by
  subst e
  have : (1000 : Nat) ≤ sizeLine := by decide
  rw [List.length_append] at n
  exact ⟨a, b, xs, ys, rfl, rfl, h1, h2, by lia, fun p H' s h => q p H' s h⟩
def Bs (i : Int) : Prop := -(2 ^ 50) ≤ i ∧ i ≤ 2 ^ 50
def Bm (i : Int) : Prop := -10000001 ≤ i ∧ i ≤ 10000001
theorem Bm.s {i : Int} (h : Bm i) : Bs i := by unfold Bm Bs at *; lia
theorem Bm.up {i : Int} (h : Bm i) : Bs (i + 1) := by unfold Bm Bs at *; lia
theorem Bm.dn {i : Int} (h : Bm i) : Bs (i - 1) := by unfold Bm Bs at *; lia
theorem Bm.dbl {i : Int} (h : Bm i) : Bs (2 * i) := by unfold Bm Bs at *; lia
theorem Bm.add {i j : Int} (h : Bm i) (g : Bm j) : Bs (i + j) := by unfold Bm Bs at *; lia
theorem Bm.sub {i j : Int} (h : Bm i) (g : Bm j) : Bs (i - j) := by unfold Bm Bs at *; lia
theorem B0 : Bs 0 := by unfold Bs; lia
theorem B1 : Bs 1 := by unfold Bs; lia
structure SmB (d : Sd) : Prop where
  x : Bm d.x
  y : Bm d.y
  g : Bm d.g
  e : Bm d.e
  k : Bm d.k
  s : Bm d.s
  t : Bm d.t
theorem Sm.m {d : Sd} (h : Sm d) : SmB d := by
  have ⟨x0, x1, y0, y1, g0, g1, e0, e1, k0, k1, s0, s1, t0, t1⟩ := h
  refine ⟨?_, ?_, ?_, ?_, ?_, ?_, ?_⟩ <;> unfold Bm <;> lia
theorem Sm.ex' {d : Sd} (h : Sm d) : Bs (d.x + d.g * d.e) ∧ Bs (d.y + d.g * d.k) := by
  have := h.ends
  unfold Sd.ex Sd.ey at this
  unfold Bs
  lia
theorem row7 {H : Hp} {p : Addr} {x y g e k s t : Int} (h : H p = some (.tup [.int x, .int y, .int g, .int e, .int k, .int s, .int t])) (a : Bs x) (b : Bs y) (c : Bs g) (d : Bs e) (f : Bs k) (i : Bs s) (j : Bs t) : Row H (.ref p) := by
  unfold Bs at *
  exact ⟨p, ⟨x, y, g, e, k, s, t⟩, rfl, h, by constructor <;> dsimp only <;> lia⟩
theorem rl_put {H : Hp} {l : Addr} {us : List V} {k : Nat} {x : V} {Q : V → Hp → Prop} {E : XK} (hl : H l = some (.lst us)) (kl : k < us.length) (ln : us.length ≤ 200) (t : ∀ y ∈ us, Row H y) (r : Row H x) (q : ∀ p G, H p = none → Same H G → RL G p 200 → Q (.ref p) G) : spPut [.ref l, .int (k : Int), x] H Q E := by
  refine ⟨l, us, k, x, rfl, hl, kl, by lia, fun p G hp s h => q p G hp s ⟨_, h, ?_, fun y hy => ?_⟩⟩
  · rw [List.length_append, List.length_append, List.length_take, List.length_drop, List.length_singleton]
    lia
  · rcases List.mem_append.mp hy with hy | hy
    · rcases List.mem_append.mp hy with hy | hy
      · exact (t y (List.mem_of_mem_take hy)).same s
      · rw [List.mem_singleton.mp hy]; exact r.same s
    · exact (t y (List.mem_of_mem_drop hy)).same s
theorem rl_joined {G : Hp} {l : Addr} {us : List V} {I J : Int} (i j : Nat) {p q' : Addr} {d d' : Sd} {Q : V → Hp → Prop} {E : XK} (hI : I = (i : Int)) (hJ : J = (j : Int)) (hl : G l = some (.lst us)) (ln : us.length ≤ 200) (ij : i ≤ j) (jl : j < us.length) (ui : us[i]? = some (.ref p)) (uj : us[j]? = some (.ref q')) (hp : G p = some (.tup (sdv d))) (hq : G q' = some (.tup (sdv d'))) (sm : Sm d) (sm' : Sm d') (lt : d.x < d'.ex) (t : ∀ y ∈ us, Row G y) (q : ∀ p G', G p = none → Same G G' → RL G' p 200 → Q (.ref p) G') : spJoined [.ref l, .int I, .int J] G Q E := by
  subst hI hJ
  refine ⟨l, us, i, j, p, q', d, d', rfl, hl, by lia, ij, jl, ui, uj, hp, hq, sm, sm', lt, fun l' x H' hp s h r => q l' H' hp s ⟨_, h, ?_, fun y hy => ?_⟩⟩
  · rw [List.length_append, List.length_append, List.length_take, List.length_drop, List.length_singleton]
    lia
  · rcases List.mem_append.mp hy with hy | hy
    · rcases List.mem_append.mp hy with hy | hy
      · exact (t y (List.mem_of_mem_take hy)).same s
      · rw [List.mem_singleton.mp hy]; exact r
    · exact (t y (List.mem_of_mem_drop hy)).same s
theorem ap_tg {H G : Hp} {sm : Addr} {x : V} {ts : List V} {N : Nat} {Q : V → Hp → Prop} (S : Asks H G sm ts N) (n : N ≤ 100) (t : Tg' (hid G sm) x) (q : ∀ G' ts', Asks H G' sm ts' (N + 1) → Q .non G') : rAppend (.ref sm) [x] G Q := by
  have : (1000 : Nat) ≤ sizeLine := by decide
  have := S.ln
  exact ⟨sm, ts, x, rfl, rfl, S.at_, by lia, q _ _ (S.push t)⟩
theorem ap_rl {H G : Hp} {sm p : Addr} {ts : List V} {N M : Nat} {Q : V → Hp → Prop} (S : Asks H G sm ts N) (n : N ≤ 100) (r : RL G p M) (hM : M ≤ 500) (np : p ≠ sm) (q : ∀ G' ts', Asks H G' sm ts' (N + 1) → Q .non G') : rAppend (.ref sm) [.ref p] G Q := by
  obtain ⟨xs, h, n', t⟩ := r
  exact ap_tg S n (S.rows h np (by lia) t) q
theorem Row.upd {H : Hp} {x : V} {D : Addr} {ys : List V} {o : HO} (r : Row H x) (h : H D = some (.lst ys)) : Row (upd H D o) x := by
  obtain ⟨p, d, e, hp, b⟩ := r
  exact ⟨p, d, e, by rw [upd_ne fun z => by rw [z, h] at hp; cases hp]; exact hp, b⟩
def JF (H : Hp) (l : Addr) (k : Nat) (p : Addr) (d : Sd) (sm : Addr) (N : Nat) : L2.St → Hp → Prop := fun σ G => ∃ ts, σ = [some (.ref l), some (.int (k : Int)), some (.ref p), some (.int d.e), some (.int d.k), some (.int d.s), some (.int d.t), some (.ref sm), none] ∧ Asks H G sm ts N
def JL (H : Hp) (l : Addr) (k : Nat) (p : Addr) (d : Sd) (pl sm : Addr) (N : Nat) : L2.St → Hp → Prop := fun σ G => ∃ ts, σ = [some (.ref l), some (.int (k : Int)), some (.ref p), some (.int d.e), some (.int d.k), some (.int d.s), some (.int d.t), some (.ref sm), some (.ref pl)] ∧ Asks H G sm ts N
def spForged : Sp := fun vs H Q _ => ∃ (l : Addr) (us : List V) (k : Nat), vs = [.ref l, .int (k : Int)] ∧ H l = some (.lst us) ∧ k < us.length ∧ us.length ≤ 200 ∧ (∀ x ∈ us, ∃ (p : Addr) (d : Sd), x = .ref p ∧ H p = some (.tup (sdv d)) ∧ Sm d) ∧ (∀ (i j : Nat) (p q' : Addr) (d d' : Sd), i ≤ j → us[i]? = some (.ref p) → us[j]? = some (.ref q') → H p = some (.tup (sdv d)) → H q' = some (.tup (sdv d')) → d.x < d'.ex) ∧ ∀ (p : Addr) (ts : List V) H', H p = none → Same H H' → H' p = some (.lst ts) → (∀ x ∈ ts, Tg' (hid H' p) x) → ts.length ≤ 50 → Q (.ref p) H'
theorem asks4 {H G : Hp} {sm a b c d : Addr} {N1 N2 N3 N4 : Nat} (s : Same H G) (h : G sm = none) (r1 : RL G a N1) (r2 : RL G b N2) (r3 : RL G c N3) (r4 : RL G d N4) (n1 : N1 ≤ 500 := by decide) (n2 : N2 ≤ 500 := by decide) (n3 : N3 ≤ 500 := by decide) (n4 : N4 ≤ 500 := by decide) : Asks H (upd G sm (.lst [.ref a, .ref b, .ref c, .ref d])) sm [.ref a, .ref b, .ref c, .ref d] 4 := by
  have key : ∀ {p : Addr} {N : Nat}, RL G p N → N ≤ 500 → Tg' (hid (upd G sm (.lst [.ref a, .ref b, .ref c, .ref d])) sm) (.ref p) := fun {p N} r n => by
    rw [hid_upd]
    obtain ⟨xs, hp, n', t⟩ := r
    exact tg_any ((same_new h _) _ _ hp) (by lia) fun x hx => .inl ((t x hx).same (same_new h _))
  refine ⟨upd_same, fun x hx => ?_, s.trans (same_new h _), s.free h, Nat.le_refl _⟩
  simp only [List.mem_cons, List.not_mem_nil, or_false] at hx
  rcases hx with rfl | rfl | rfl | rfl
  · exact key r1 n1
  · exact key r2 n2
  · exact key r3 n3
  · exact key r4 n4
theorem ok__law_forged {f : Addr} {fd : FuncData} (F : Fun K "_law_forged" "_law_forged" s__law_forged f fd) (T : Txt K mg) (H__law_joined : Has P w K mg base 3 "_law_joined" ["_law_rows_here", "_law_first", "_law_last"] spJoined) (H__law_put : Has P w K mg base 1 "_law_put" ["_law_rows_here", "_law_at", "_law_row"] spPut) (H__law_parted : Has P w K mg base 1 "_law_parted" ["_law_row"] spParted) : FnOk P w K mg base CX0 4 f fd ["_law_rows_here", "_law_at"] spForged := by
  refine F.ok sc__law_forged (fun vs H Q E h => ?_) (fun cdv A outer s H vs Q E hr h => ?_)
  · obtain ⟨l, us, k, rfl, _⟩ := h
    rfl
  obtain ⟨l, us, k, rfl, hl, kl, ln, rw', inc, q⟩ := h
  refine ⟨_, (pss_cons (ps_set (i := 2) sc__law_forged.nd rfl (Or.inl rfl) (pe_ix ix_list (pv 0) (pv 1) (fun _ _ => rfl)))
    (pss_cons (ps_asg (pe_slice sl_tup (pv 2) (po_some pe_int) po_none) (pg_tup rfl (pgs_cons (pg_name (i := 3) sc__law_forged.nd rfl (Or.inl rfl)) (pgs_cons (pg_name (i := 4) sc__law_forged.nd rfl (Or.inl rfl)) (pgs_cons (pg_name (i := 5) sc__law_forged.nd rfl (Or.inl rfl)) (pgs_cons (pg_name (i := 6) sc__law_forged.nd rfl (Or.inl rfl)) pgs_nil))))))
    (pss_join (ps_set (i := 7) sc__law_forged.nd rfl (Or.inl rfl) (pe_lst (pa_cons (pe_slice sl_list (pv 0) (po_some pe_int) po_none) (pa_cons (pe_slice sl_list (pv 0) po_none (po_some (pe_un un_neg pe_int))) (pa_cons (pe_op op_addL (pe_slice sl_list (pv 0) po_none (po_some (pv 1))) (pe_slice sl_list (pv 0) (po_some (pe_op op_add (pv 1) pe_int)) po_none)) (pa_cons (pe_op op_addL (pe_op op_addL (pe_slice sl_list (pv 0) po_none (po_some (pv 1))) (pe_fn H__law_parted (hr.mono (by lia)) rfl (pa_cons (pv 2) pa_nil))) (pe_slice sl_list (pv 0) (po_some (pe_op op_add (pv 1) pe_int)) po_none)) pa_nil))))))
    (pss_join (ps_expr (pe_bm PySem.F.plainAttrs_list PySem.F.slot_list_append PySem.F.type_list_append mt_append (pv 7) (pa_cons (pe_fn H__law_joined (hr.mono (by lia)) rfl (pa_cons (pv 0) (pa_cons pe_int (pa_cons (pe_op op_sub (pe_callB call_len_seq rfl T.n_len boot_len (pa_cons (pv 0) pa_nil)) pe_int) pa_nil)))) pa_nil)))
    (pss_join (ps_expr (pe_bm PySem.F.plainAttrs_list PySem.F.slot_list_append PySem.F.type_list_append mt_append (pv 7) (pa_cons (pe_fn H__law_joined (hr.mono (by lia)) rfl (pa_cons (pv 0) (pa_cons (pv 1) (pa_cons (pe_callB (call_min2 rfl) rfl T.n_min boot_min (pa_cons (pe_op op_add (pv 1) pe_int) (pa_cons (pe_op op_sub (pe_callB call_len_seq rfl T.n_len boot_len (pa_cons (pv 0) pa_nil)) pe_int) pa_nil))) pa_nil)))) pa_nil)))
    (pss_join (ps_expr (pe_bm PySem.F.plainAttrs_list PySem.F.slot_list_append PySem.F.type_list_append mt_append (pv 7) (pa_cons (pe_comp0 rfl (by first | rfl | with_unfolding_all rfl) (by decide +kernel) rfl (by decide +kernel) rfl (pi_list (pv 0)) (fun C s2 H2 fp => (pe_op op_catA (pe_tup (pa_cons (pe_ix (ix_tupK (K := K) rfl) (pv 0) pe_int (fun _ _ => rfl)) (pa_cons (pe_op op_add (pe_ix (ix_tupK (K := K) rfl) (pv 0) pe_int (fun _ _ => rfl)) pe_int) pa_nil))) (pe_slice (sl_tupK (K := K) rfl) (pv 0) (po_some pe_int) po_none)))) pa_nil)))
    (pss_join (ps_expr (pe_bm PySem.F.plainAttrs_list PySem.F.slot_list_append PySem.F.type_list_append mt_append (pv 7) (pa_cons (pe_comp0 rfl (by first | rfl | with_unfolding_all rfl) (by decide +kernel) rfl (by decide +kernel) rfl (pi_list (pv 0)) (fun C s2 H2 fp => (pe_op op_catA (pe_tup (pa_cons (pe_ix (ix_tupK (K := K) rfl) (pv 0) pe_int (fun _ _ => rfl)) (pa_cons (pe_op op_sub (pe_ix (ix_tupK (K := K) rfl) (pv 0) pe_int (fun _ _ => rfl)) pe_int) pa_nil))) (pe_slice (sl_tupK (K := K) rfl) (pv 0) (po_some pe_int) po_none)))) pa_nil)))
    (pss_join (ps_expr (pe_bm PySem.F.plainAttrs_list PySem.F.slot_list_append PySem.F.type_list_append mt_append (pv 7) (pa_cons (pe_fn H__law_put (hr.mono (by lia)) rfl (pa_cons (pv 0) (pa_cons (pv 1) (pa_cons (pe_op op_catA (pe_slice sl_tup (pv 2) po_none (po_some pe_int)) (pe_tup (pa_cons (pe_op op_mulB pe_int (pv 5)) (pa_cons (pe_op op_mulB pe_int (pv 6)) pa_nil)))) pa_nil)))) pa_nil)))
    (pss_join (ps_expr (pe_bm PySem.F.plainAttrs_list PySem.F.slot_list_append PySem.F.type_list_append mt_append (pv 7) (pa_cons (pe_fn H__law_put (hr.mono (by lia)) rfl (pa_cons (pv 0) (pa_cons (pv 1) (pa_cons (pe_op op_catA (pe_slice sl_tup (pv 2) po_none (po_some pe_int)) (pe_tup (pa_cons (pe_op op_add (pv 5) (pv 3)) (pa_cons (pe_op op_add (pv 6) (pv 4)) pa_nil)))) pa_nil)))) pa_nil)))
    (pss_join (ps_expr (pe_bm PySem.F.plainAttrs_list PySem.F.slot_list_append PySem.F.type_list_append mt_append (pv 7) (pa_cons (pe_fn H__law_put (hr.mono (by lia)) rfl (pa_cons (pv 0) (pa_cons (pv 1) (pa_cons (pe_op op_catA (pe_slice sl_tup (pv 2) po_none (po_some pe_int)) (pe_tup (pa_cons (pe_op op_sub (pv 5) (pv 3)) (pa_cons (pe_op op_sub (pv 6) (pv 4)) pa_nil)))) pa_nil)))) pa_nil)))
    (pss_join (ps_expr (pe_bm PySem.F.plainAttrs_list PySem.F.slot_list_append PySem.F.type_list_append mt_append (pv 7) (pa_cons (pe_fn H__law_put (hr.mono (by lia)) rfl (pa_cons (pv 0) (pa_cons (pv 1) (pa_cons (pe_op op_catA (pe_slice sl_tup (pv 2) po_none (po_some pe_int)) (pe_tup (pa_cons (pe_op op_add (pv 6) pe_int) pa_nil))) pa_nil)))) pa_nil)))
    (pss_join (ps_expr (pe_bm PySem.F.plainAttrs_list PySem.F.slot_list_append PySem.F.type_list_append mt_append (pv 7) (pa_cons (pe_fn H__law_put (hr.mono (by lia)) rfl (pa_cons (pv 0) (pa_cons (pv 1) (pa_cons (pe_op op_catA (pe_op op_catA (pe_slice sl_tup (pv 2) po_none (po_some pe_int)) (pe_tup (pa_cons (pe_op op_mulB pe_int (pv 3)) (pa_cons (pe_op op_mulB pe_int (pv 4)) pa_nil)))) (pe_slice sl_tup (pv 2) (po_some pe_int) po_none)) pa_nil)))) pa_nil)))
    (pss_join (ps_expr (pe_bm PySem.F.plainAttrs_list PySem.F.slot_list_append PySem.F.type_list_append mt_append (pv 7) (pa_cons (pe_fn H__law_put (hr.mono (by lia)) rfl (pa_cons (pv 0) (pa_cons (pv 1) (pa_cons (pe_op op_catA (pe_tup (pa_cons (pe_ix ix_tup (pv 2) pe_int (fun _ _ => rfl)) (pa_cons (pe_op op_add (pe_ix ix_tup (pv 2) pe_int (fun _ _ => rfl)) pe_int) pa_nil))) (pe_slice sl_tup (pv 2) (po_some pe_int) po_none)) pa_nil)))) pa_nil)))
    (pss_join (ps_expr (pe_bm PySem.F.plainAttrs_list PySem.F.slot_list_append PySem.F.type_list_append mt_append (pv 7) (pa_cons (pe_fn H__law_put (hr.mono (by lia)) rfl (pa_cons (pv 0) (pa_cons (pv 1) (pa_cons (pe_op op_catA (pe_op op_catA (pe_slice sl_tup (pv 2) po_none (po_some pe_int)) (pe_tup (pa_cons (pe_op op_add (pv 4) pe_int) pa_nil))) (pe_slice sl_tup (pv 2) (po_some pe_int) po_none)) pa_nil)))) pa_nil)))
    (pss_join (ps_expr (pe_bm PySem.F.plainAttrs_list PySem.F.slot_list_append PySem.F.type_list_append mt_append (pv 7) (pa_cons (pe_op op_addL (pe_op op_addL (pe_slice sl_list (pv 0) po_none (po_some (pv 1))) (pe_lst (pa_cons (pe_op op_catA (pe_op op_catA (pe_slice sl_tup (pv 2) po_none (po_some pe_int)) (pe_tup (pa_cons pe_int pa_nil))) (pe_slice sl_tup (pv 2) (po_some pe_int) po_none)) pa_nil))) (pe_slice sl_list (pv 0) (po_some (pv 1)) po_none)) pa_nil)))
    (pss_join (ps_expr (pe_bm PySem.F.plainAttrs_list PySem.F.slot_list_append PySem.F.type_list_append mt_append (pv 7) (pa_cons (pe_op op_addL (pe_slice sl_list (pv 0) po_none (po_some (pv 1))) (pe_rev (pe_slice sl_list (pv 0) (po_some (pv 1)) po_none))) pa_nil)))
    (pss_join (ps_expr (pe_bm PySem.F.plainAttrs_list PySem.F.slot_list_append PySem.F.type_list_append mt_append (pv 7) (pa_cons (pe_op op_addL (pe_slice sl_list (pv 0) po_none (po_some (pe_op op_add (pv 1) pe_int))) (pe_slice sl_list (pv 0) (po_some (pv 1)) po_none)) pa_nil)))
    (pss_cons (ps_set (i := 8) sc__law_forged.nd rfl (Or.inl rfl) (pe_ix ix_list (pv 0) (pe_un un_neg pe_int) (fun _ _ => rfl)))
    (pss_join (ps_expr (pe_bm PySem.F.plainAttrs_list PySem.F.slot_list_append PySem.F.type_list_append mt_append (pv 7) (pa_cons (pe_op op_addL (pv 0) (pe_lst (pa_cons (pe_tup (pa_consN (pe_op op_add (pe_ix ix_tup (pv 8) pe_int (fun _ _ => rfl)) (pe_op op_mulB (pe_ix ix_tup (pv 8) pe_int (fun _ _ => rfl)) (pe_ix ix_tup (pv 8) pe_int (fun _ _ => rfl)))) (pa_consN (pe_op op_add (pe_ix ix_tup (pv 8) pe_int (fun _ _ => rfl)) (pe_op op_mulB (pe_ix ix_tup (pv 8) pe_int (fun _ _ => rfl)) (pe_ix ix_tup (pv 8) pe_int (fun _ _ => rfl)))) (pa_consN pe_int (pa_consN pe_int (pa_consN (pv 4) (pa_consN pe_int (pa_consN pe_int pa_nil)))))))) pa_nil))) pa_nil)))
    (pss_one (ps_ret (pv 7)))))))))))))))))))))), ?_⟩
  obtain ⟨p, d, ep, hp, sm⟩ := rw' _ (List.getElem_mem kl)
  have uk : us[k]? = some (.ref p) := by rw [← ep]; exact List.getElem?_eq_getElem kl
  have rows : ∀ y ∈ us, Row H y := fun y hy => by
    obtain ⟨p, d, e, h, b⟩ := rw' y hy
    exact ⟨p, d, e, h, b.b⟩
  have rl : RL H l 200 := ⟨us, hl, ln, rows⟩
  have ⟨x0, x1, y0, y1, g0, g1, e0, e1, k0, k1, b0, b1, t0, t1⟩ := sm
  have M := sm.m
  refine ⟨_, rfl, _, rfl, l, _, _, _, rfl, rfl, SqL.of hl, atI_nat uk, ?_⟩
  refine ⟨_, rfl, _, rfl, tp_cutN [.int (d.e), .int (d.k), .int (d.s), .int (d.t)] ((Same.refl H) _ _ hp) (by show ¬ (min 3 7 = 0 ∧ 7 = 7); decide) rfl fun t1 G1 s1 f1 => ?_⟩
  refine ⟨t1, _, rfl, SqT.of f1, rfl, _, _, rfl, _, _, rfl, _, _, rfl, _, _, rfl, rfl, ?_⟩
  refine ⟨fun σ G => ∃ sm, JF H l k p d sm 4 σ G, ?_, ?_⟩
  rotate_left
  rintro _ G ⟨sm', ts0, rfl, S0⟩
  obtain ⟨pl, dl, el, hpl, sml⟩ := rw' _ (List.getElem_mem (show us.length - 1 < us.length by lia))
  have ul : us[us.length - 1]? = some (.ref pl) := by rw [← el]; exact List.getElem?_eq_getElem _
  obtain ⟨pz, dz, ez, hpz, smz⟩ := rw' _ (List.getElem_mem (show 0 < us.length by lia))
  have uz : us[0]? = some (.ref pz) := by rw [← ez]; exact List.getElem?_eq_getElem _
  refine ⟨JF H l k p d sm' 5, ?_, ?_⟩
  · refine ⟨_, rfl, .inl ⟨rfl, _, SqL.of S0.at_⟩, ?_⟩
    refine ⟨_, rfl, _, rfl, l, _, rfl, .inl (SqL.of (S0.sH _ _ hl)), _, _, rfl, rfl, nil_ <| rl_joined 0 (us.length - 1) rfl (by lia) (S0.sH _ _ hl) ln (by lia) (by lia) uz ul (S0.sH _ _ hpz) (S0.sH _ _ hpl) smz sml (inc _ _ _ _ _ _ (by lia) uz ul hpz hpl) (fun y hy => (rows y hy).same S0.sH) fun p12 G12 n12 s12 r12 => ?_⟩
    exact nil_ <| ap_rl (S0.on s12) (by decide) r12 (by decide) (S0.ne n12) fun _ _ S => ⟨_, rfl, S⟩
  rintro _ G ⟨ts1, rfl, S1⟩
  obtain ⟨m, em, ml, km⟩ : ∃ m : Nat, (if (us.length : Int) - 1 < (k : Int) + 1 then (us.length : Int) - 1 else (k : Int) + 1) = (m : Int) ∧ m < us.length ∧ k ≤ m := ⟨min (k + 1) (us.length - 1), by split <;> lia, by lia, by lia⟩
  obtain ⟨pm, dm, em', hpm, smm⟩ := rw' _ (List.getElem_mem ml)
  have um : us[m]? = some (.ref pm) := by rw [← em']; exact List.getElem?_eq_getElem _
  refine ⟨JF H l k p d sm' 6, ?_, ?_⟩
  · refine ⟨_, rfl, .inl ⟨rfl, _, SqL.of S1.at_⟩, ?_⟩
    refine ⟨_, rfl, _, rfl, _, rfl, _, _, rfl, rfl, _, rfl, l, _, rfl, .inl (SqL.of (S1.sH _ _ hl)), _, _, rfl, rfl, _, _, rfl, nil_ <| rl_joined k m rfl em (S1.sH _ _ hl) ln km ml uk um (S1.sH _ _ hp) (S1.sH _ _ hpm) sm smm (inc _ _ _ _ _ _ km uk um hp hpm) (fun y hy => (rows y hy).same S1.sH) fun p13 G13 n13 s13 r13 => ?_⟩
    exact nil_ <| ap_rl (S1.on s13) (by decide) r13 (by decide) (S1.ne n13) fun _ _ S => ⟨_, rfl, S⟩
  rintro _ G ⟨ts2, rfl, S2⟩
  refine ⟨JF H l k p d sm' 7, ?_, ?_⟩
  · refine ⟨_, rfl, .inl ⟨rfl, _, SqL.of S2.at_⟩, ?_⟩
    refine ⟨_, rfl, l, rfl, ⟨_, SqL.of (S2.sH _ _ hl)⟩, fun D hD => ?_⟩
    refine comp_list (xs := us) (fun k HJ => ∃ us' : List V, HJ D = some (.lst us') ∧ us'.length = k ∧ (∀ x ∈ us', Row HJ x) ∧ Same G HJ) ⟨[], upd_same, rfl, (fun x e => by cases e), same_new hD _⟩ (fun i HJ _ ⟨_, _, _, _, sJ⟩ => SqL.of ((S2.sH.trans sJ) _ _ hl)) ?_ ?_
    · rintro i x HJ ex ⟨us', h', n', t', sJ⟩
      obtain ⟨p', d', rfl, hp', sm'⟩ := rw' x (List.mem_of_getElem? ex)
      have M' := sm'.m
      have hp2 := (S2.sH.trans sJ) _ _ hp'
      have il := (List.getElem?_eq_some_iff.mp ex).1
      have big : (1000 : Nat) ≤ sizeLine := by decide
      refine ⟨_, rfl, p', _, _, _, rfl, rfl, SqT.of hp2, rfl, _, rfl, p', _, _, _, rfl, rfl, SqT.of hp2, rfl, _, _, rfl, rfl, (by show 2 ≤ sizeLine; decide), fun ta ha => ?_⟩
      generalize wa : upd _ ta _ = Ga
      obtain ⟨sa, fa⟩ := genO wa ha
      refine ⟨_, rfl, _, rfl, tp_cutN [.int d'.g, .int d'.e, .int d'.k, .int d'.s, .int d'.t] (sa _ _ hp2) (by show ¬ (min 2 7 = 0 ∧ 7 = 7); decide) rfl fun tb Gb sb fb => ?_⟩
      refine tp_cat [.int d'.x, .int (d'.y + 1), .int d'.g, .int d'.e, .int d'.k, .int d'.s, .int d'.t] (sb _ _ fa) fb rfl (by show 7 ≤ 10; decide) fun tc Gc sc fc => ?_
      have sZ := (sa.trans sb).trans sc
      have r : Row Gc (.ref tc) := row7 fc M'.x.s M'.y.up M'.g.s M'.e.s M'.k.s M'.s.s M'.t.s
      refine ⟨_, sZ _ _ h', by lia, _, (show us.length - (i + 1) < us.length - i by lia), rfl, il, _, upd_same, (by rw [List.length_append, n']; rfl), fun y hy => ?_, Same.updL (sJ.trans sZ) hD⟩
      rcases List.mem_append.mp hy with hy | hy
      · exact ((t' y hy).same sZ).upd (sZ _ _ h')
      · rw [List.mem_singleton.mp hy]; exact r.upd (sZ _ _ h')
    rintro G14 ⟨us', h', n', t', s14⟩
    have r14 : RL G14 D 200 := ⟨us', h', by lia, t'⟩
    exact nil_ <| ap_rl (S2.on s14) (by decide) r14 (by decide) (S2.ne hD) fun _ _ S => ⟨_, rfl, S⟩
  rintro _ G ⟨ts3, rfl, S3⟩
  refine ⟨JF H l k p d sm' 8, ?_, ?_⟩
  · refine ⟨_, rfl, .inl ⟨rfl, _, SqL.of S3.at_⟩, ?_⟩
    refine ⟨_, rfl, l, rfl, ⟨_, SqL.of (S3.sH _ _ hl)⟩, fun D hD => ?_⟩
    refine comp_list (xs := us) (fun k HJ => ∃ us' : List V, HJ D = some (.lst us') ∧ us'.length = k ∧ (∀ x ∈ us', Row HJ x) ∧ Same G HJ) ⟨[], upd_same, rfl, (fun x e => by cases e), same_new hD _⟩ (fun i HJ _ ⟨_, _, _, _, sJ⟩ => SqL.of ((S3.sH.trans sJ) _ _ hl)) ?_ ?_
    · rintro i x HJ ex ⟨us', h', n', t', sJ⟩
      obtain ⟨p', d', rfl, hp', sm'⟩ := rw' x (List.mem_of_getElem? ex)
      have M' := sm'.m
      have hp2 := (S3.sH.trans sJ) _ _ hp'
      have il := (List.getElem?_eq_some_iff.mp ex).1
      have big : (1000 : Nat) ≤ sizeLine := by decide
      refine ⟨_, rfl, p', _, _, _, rfl, rfl, SqT.of hp2, rfl, _, rfl, p', _, _, _, rfl, rfl, SqT.of hp2, rfl, _, _, rfl, rfl, (by show 2 ≤ sizeLine; decide), fun ta ha => ?_⟩
      generalize wa : upd _ ta _ = Ga
      obtain ⟨sa, fa⟩ := genO wa ha
      refine ⟨_, rfl, _, rfl, tp_cutN [.int d'.g, .int d'.e, .int d'.k, .int d'.s, .int d'.t] (sa _ _ hp2) (by show ¬ (min 2 7 = 0 ∧ 7 = 7); decide) rfl fun tb Gb sb fb => ?_⟩
      refine tp_cat [.int d'.x, .int (d'.y - 1), .int d'.g, .int d'.e, .int d'.k, .int d'.s, .int d'.t] (sb _ _ fa) fb rfl (by show 7 ≤ 10; decide) fun tc Gc sc fc => ?_
      have sZ := (sa.trans sb).trans sc
      have r : Row Gc (.ref tc) := row7 fc M'.x.s M'.y.dn M'.g.s M'.e.s M'.k.s M'.s.s M'.t.s
      refine ⟨_, sZ _ _ h', by lia, _, (show us.length - (i + 1) < us.length - i by lia), rfl, il, _, upd_same, (by rw [List.length_append, n']; rfl), fun y hy => ?_, Same.updL (sJ.trans sZ) hD⟩
      rcases List.mem_append.mp hy with hy | hy
      · exact ((t' y hy).same sZ).upd (sZ _ _ h')
      · rw [List.mem_singleton.mp hy]; exact r.upd (sZ _ _ h')
    rintro G15 ⟨us', h', n', t', s15⟩
    have r15 : RL G15 D 200 := ⟨us', h', by lia, t'⟩
    exact nil_ <| ap_rl (S3.on s15) (by decide) r15 (by decide) (S3.ne hD) fun _ _ S => ⟨_, rfl, S⟩
  rintro _ G ⟨ts4, rfl, S4⟩
  refine ⟨JF H l k p d sm' 9, ?_, ?_⟩
  · refine ⟨_, rfl, .inl ⟨rfl, _, SqL.of S4.at_⟩, ?_⟩
    refine ⟨_, rfl, _, rfl, ?_⟩
    refine ⟨_, rfl, _, rfl, tp_cut [.int (d.x), .int (d.y), .int (d.g), .int (d.e), .int (d.k)] (S4.sH _ _ hp) (by show ¬ (0 = 0 ∧ min 5 7 = 7); decide) rfl fun t16 G16 s16 f16 => ?_⟩
    refine ⟨_, rfl, _, _, rfl, rfl, ⟨b400 (by lia) (by lia), b400 (by lia) (by lia)⟩, _, rfl, _, _, rfl, rfl, ⟨b400 (by lia) (by lia), b400 (by lia) (by lia)⟩, (by show 2 ≤ sizeLine; decide), fun t17 h17 => ?_⟩
    generalize w17 : upd _ t17 _ = G17
    obtain ⟨s17, f17⟩ := genO w17 h17
    refine tp_cat [.int (d.x), .int (d.y), .int (d.g), .int (d.e), .int (d.k), .int (2 * d.s), .int (2 * d.t)] (s17 _ _ f16) f17 rfl (by show 7 ≤ 10; decide) fun t18 G18 s18 f18 => ?_
    refine nil_ <| rl_put ((S4.sH.trans ((s16.trans s17).trans s18)) _ _ hl) kl ln (fun y hy => (rows y hy).same (S4.sH.trans ((s16.trans s17).trans s18))) (row7 f18 M.x.s M.y.s M.g.s M.e.s M.k.s M.s.dbl M.t.dbl) fun p19 G19 n19 s19 r19 => ?_
    exact nil_ <| ap_rl (S4.on (((s16.trans s17).trans s18).trans s19)) (by decide) r19 (by decide) ((S4.on ((s16.trans s17).trans s18)).ne n19) fun _ _ S => ⟨_, rfl, S⟩
  rintro _ G ⟨ts5, rfl, S5⟩
  refine ⟨JF H l k p d sm' 10, ?_, ?_⟩
  · refine ⟨_, rfl, .inl ⟨rfl, _, SqL.of S5.at_⟩, ?_⟩
    refine ⟨_, rfl, _, rfl, ?_⟩
    refine ⟨_, rfl, _, rfl, tp_cut [.int (d.x), .int (d.y), .int (d.g), .int (d.e), .int (d.k)] (S5.sH _ _ hp) (by show ¬ (0 = 0 ∧ min 5 7 = 7); decide) rfl fun t20 G20 s20 f20 => ?_⟩
    refine ⟨_, rfl, _, rfl, _, _, rfl, rfl, _, rfl, _, rfl, _, _, rfl, rfl, (by show 2 ≤ sizeLine; decide), fun t21 h21 => ?_⟩
    generalize w21 : upd _ t21 _ = G21
    obtain ⟨s21, f21⟩ := genO w21 h21
    refine tp_cat [.int (d.x), .int (d.y), .int (d.g), .int (d.e), .int (d.k), .int (d.s + d.e), .int (d.t + d.k)] (s21 _ _ f20) f21 rfl (by show 7 ≤ 10; decide) fun t22 G22 s22 f22 => ?_
    refine nil_ <| rl_put ((S5.sH.trans ((s20.trans s21).trans s22)) _ _ hl) kl ln (fun y hy => (rows y hy).same (S5.sH.trans ((s20.trans s21).trans s22))) (row7 f22 M.x.s M.y.s M.g.s M.e.s M.k.s (M.s.add M.e) (M.t.add M.k)) fun p23 G23 n23 s23 r23 => ?_
    exact nil_ <| ap_rl (S5.on (((s20.trans s21).trans s22).trans s23)) (by decide) r23 (by decide) ((S5.on ((s20.trans s21).trans s22)).ne n23) fun _ _ S => ⟨_, rfl, S⟩
  rintro _ G ⟨ts6, rfl, S6⟩
  refine ⟨JF H l k p d sm' 11, ?_, ?_⟩
  · refine ⟨_, rfl, .inl ⟨rfl, _, SqL.of S6.at_⟩, ?_⟩
    refine ⟨_, rfl, _, rfl, ?_⟩
    refine ⟨_, rfl, _, rfl, tp_cut [.int (d.x), .int (d.y), .int (d.g), .int (d.e), .int (d.k)] (S6.sH _ _ hp) (by show ¬ (0 = 0 ∧ min 5 7 = 7); decide) rfl fun t24 G24 s24 f24 => ?_⟩
    refine ⟨_, rfl, _, rfl, _, _, rfl, rfl, _, rfl, _, rfl, _, _, rfl, rfl, (by show 2 ≤ sizeLine; decide), fun t25 h25 => ?_⟩
    generalize w25 : upd _ t25 _ = G25
    obtain ⟨s25, f25⟩ := genO w25 h25
    refine tp_cat [.int (d.x), .int (d.y), .int (d.g), .int (d.e), .int (d.k), .int (d.s - d.e), .int (d.t - d.k)] (s25 _ _ f24) f25 rfl (by show 7 ≤ 10; decide) fun t26 G26 s26 f26 => ?_
    refine nil_ <| rl_put ((S6.sH.trans ((s24.trans s25).trans s26)) _ _ hl) kl ln (fun y hy => (rows y hy).same (S6.sH.trans ((s24.trans s25).trans s26))) (row7 f26 M.x.s M.y.s M.g.s M.e.s M.k.s (M.s.sub M.e) (M.t.sub M.k)) fun p27 G27 n27 s27 r27 => ?_
    exact nil_ <| ap_rl (S6.on (((s24.trans s25).trans s26).trans s27)) (by decide) r27 (by decide) ((S6.on ((s24.trans s25).trans s26)).ne n27) fun _ _ S => ⟨_, rfl, S⟩
  rintro _ G ⟨ts7, rfl, S7⟩
  refine ⟨JF H l k p d sm' 12, ?_, ?_⟩
  · refine ⟨_, rfl, .inl ⟨rfl, _, SqL.of S7.at_⟩, ?_⟩
    refine ⟨_, rfl, _, rfl, ?_⟩
    refine ⟨_, rfl, _, rfl, tp_cut [.int (d.x), .int (d.y), .int (d.g), .int (d.e), .int (d.k), .int (d.s)] (S7.sH _ _ hp) (by show ¬ (0 = 0 ∧ min 6 7 = 7); decide) rfl fun t28 G28 s28 f28 => ?_⟩
    refine ⟨_, rfl, _, _, rfl, rfl, (by show 1 ≤ sizeLine; decide), fun t29 h29 => ?_⟩
    generalize w29 : upd _ t29 _ = G29
    obtain ⟨s29, f29⟩ := genO w29 h29
    refine tp_cat [.int (d.x), .int (d.y), .int (d.g), .int (d.e), .int (d.k), .int (d.s), .int (d.t + 1)] (s29 _ _ f28) f29 rfl (by show 7 ≤ 10; decide) fun t30 G30 s30 f30 => ?_
    refine nil_ <| rl_put ((S7.sH.trans ((s28.trans s29).trans s30)) _ _ hl) kl ln (fun y hy => (rows y hy).same (S7.sH.trans ((s28.trans s29).trans s30))) (row7 f30 M.x.s M.y.s M.g.s M.e.s M.k.s M.s.s M.t.up) fun p31 G31 n31 s31 r31 => ?_
    exact nil_ <| ap_rl (S7.on (((s28.trans s29).trans s30).trans s31)) (by decide) r31 (by decide) ((S7.on ((s28.trans s29).trans s30)).ne n31) fun _ _ S => ⟨_, rfl, S⟩
  rintro _ G ⟨ts8, rfl, S8⟩
  refine ⟨JF H l k p d sm' 13, ?_, ?_⟩
  · refine ⟨_, rfl, .inl ⟨rfl, _, SqL.of S8.at_⟩, ?_⟩
    refine ⟨_, rfl, _, rfl, ?_⟩
    refine ⟨_, rfl, _, rfl, tp_cut [.int (d.x), .int (d.y), .int (d.g)] (S8.sH _ _ hp) (by show ¬ (0 = 0 ∧ min 3 7 = 7); decide) rfl fun t32 G32 s32 f32 => ?_⟩
    refine ⟨_, rfl, _, _, rfl, rfl, ⟨b400 (by lia) (by lia), b400 (by lia) (by lia)⟩, _, rfl, _, _, rfl, rfl, ⟨b400 (by lia) (by lia), b400 (by lia) (by lia)⟩, (by show 2 ≤ sizeLine; decide), fun t33 h33 => ?_⟩
    generalize w33 : upd _ t33 _ = G33
    obtain ⟨s33, f33⟩ := genO w33 h33
    refine tp_cat [.int (d.x), .int (d.y), .int (d.g), .int (2 * d.e), .int (2 * d.k)] (s33 _ _ f32) f33 rfl (by show 5 ≤ 10; decide) fun t34 G34 s34 f34 => ?_
    refine ⟨_, rfl, _, rfl, tp_cutN [.int (d.s), .int (d.t)] ((S8.sH.trans ((s32.trans s33).trans s34)) _ _ hp) (by show ¬ (min 5 7 = 0 ∧ 7 = 7); decide) rfl fun t35 G35 s35 f35 => ?_⟩
    refine tp_cat [.int (d.x), .int (d.y), .int (d.g), .int (2 * d.e), .int (2 * d.k), .int (d.s), .int (d.t)] (s35 _ _ f34) f35 rfl (by show 7 ≤ 10; decide) fun t36 G36 s36 f36 => ?_
    refine nil_ <| rl_put ((S8.sH.trans ((((s32.trans s33).trans s34).trans s35).trans s36)) _ _ hl) kl ln (fun y hy => (rows y hy).same (S8.sH.trans ((((s32.trans s33).trans s34).trans s35).trans s36))) (row7 f36 M.x.s M.y.s M.g.s M.e.dbl M.k.dbl M.s.s M.t.s) fun p37 G37 n37 s37 r37 => ?_
    exact nil_ <| ap_rl (S8.on (((((s32.trans s33).trans s34).trans s35).trans s36).trans s37)) (by decide) r37 (by decide) ((S8.on ((((s32.trans s33).trans s34).trans s35).trans s36)).ne n37) fun _ _ S => ⟨_, rfl, S⟩
  rintro _ G ⟨ts9, rfl, S9⟩
  refine ⟨JF H l k p d sm' 14, ?_, ?_⟩
  · refine ⟨_, rfl, .inl ⟨rfl, _, SqL.of S9.at_⟩, ?_⟩
    refine ⟨_, rfl, _, rfl, ?_⟩
    refine ⟨_, rfl, p, _, _, _, rfl, rfl, SqT.of (S9.sH _ _ hp), rfl, _, rfl, p, _, _, _, rfl, rfl, SqT.of (S9.sH _ _ hp), rfl, _, _, rfl, rfl, (by show 2 ≤ sizeLine; decide), fun t38 h38 => ?_⟩
    generalize w38 : upd _ t38 _ = G38
    obtain ⟨s38, f38⟩ := genO w38 h38
    refine ⟨_, rfl, _, rfl, tp_cutN [.int (d.g), .int (d.e), .int (d.k), .int (d.s), .int (d.t)] ((S9.sH.trans s38) _ _ hp) (by show ¬ (min 2 7 = 0 ∧ 7 = 7); decide) rfl fun t39 G39 s39 f39 => ?_⟩
    refine tp_cat [.int (d.x), .int (d.y + 1), .int (d.g), .int (d.e), .int (d.k), .int (d.s), .int (d.t)] (s39 _ _ f38) f39 rfl (by show 7 ≤ 10; decide) fun t40 G40 s40 f40 => ?_
    refine nil_ <| rl_put ((S9.sH.trans ((s38.trans s39).trans s40)) _ _ hl) kl ln (fun y hy => (rows y hy).same (S9.sH.trans ((s38.trans s39).trans s40))) (row7 f40 M.x.s M.y.up M.g.s M.e.s M.k.s M.s.s M.t.s) fun p41 G41 n41 s41 r41 => ?_
    exact nil_ <| ap_rl (S9.on (((s38.trans s39).trans s40).trans s41)) (by decide) r41 (by decide) ((S9.on ((s38.trans s39).trans s40)).ne n41) fun _ _ S => ⟨_, rfl, S⟩
  rintro _ G ⟨ts10, rfl, S10⟩
  refine ⟨JF H l k p d sm' 15, ?_, ?_⟩
  · refine ⟨_, rfl, .inl ⟨rfl, _, SqL.of S10.at_⟩, ?_⟩
    refine ⟨_, rfl, _, rfl, ?_⟩
    refine ⟨_, rfl, _, rfl, tp_cut [.int (d.x), .int (d.y), .int (d.g), .int (d.e)] (S10.sH _ _ hp) (by show ¬ (0 = 0 ∧ min 4 7 = 7); decide) rfl fun t42 G42 s42 f42 => ?_⟩
    refine ⟨_, rfl, _, _, rfl, rfl, (by show 1 ≤ sizeLine; decide), fun t43 h43 => ?_⟩
    generalize w43 : upd _ t43 _ = G43
    obtain ⟨s43, f43⟩ := genO w43 h43
    refine tp_cat [.int (d.x), .int (d.y), .int (d.g), .int (d.e), .int (d.k + 1)] (s43 _ _ f42) f43 rfl (by show 5 ≤ 10; decide) fun t44 G44 s44 f44 => ?_
    refine ⟨_, rfl, _, rfl, tp_cutN [.int (d.s), .int (d.t)] ((S10.sH.trans ((s42.trans s43).trans s44)) _ _ hp) (by show ¬ (min 5 7 = 0 ∧ 7 = 7); decide) rfl fun t45 G45 s45 f45 => ?_⟩
    refine tp_cat [.int (d.x), .int (d.y), .int (d.g), .int (d.e), .int (d.k + 1), .int (d.s), .int (d.t)] (s45 _ _ f44) f45 rfl (by show 7 ≤ 10; decide) fun t46 G46 s46 f46 => ?_
    refine nil_ <| rl_put ((S10.sH.trans ((((s42.trans s43).trans s44).trans s45).trans s46)) _ _ hl) kl ln (fun y hy => (rows y hy).same (S10.sH.trans ((((s42.trans s43).trans s44).trans s45).trans s46))) (row7 f46 M.x.s M.y.s M.g.s M.e.s M.k.up M.s.s M.t.s) fun p47 G47 n47 s47 r47 => ?_
    exact nil_ <| ap_rl (S10.on (((((s42.trans s43).trans s44).trans s45).trans s46).trans s47)) (by decide) r47 (by decide) ((S10.on ((((s42.trans s43).trans s44).trans s45).trans s46)).ne n47) fun _ _ S => ⟨_, rfl, S⟩
  rintro _ G ⟨ts11, rfl, S11⟩
  refine ⟨JF H l k p d sm' 16, ?_, ?_⟩
  · refine ⟨_, rfl, .inl ⟨rfl, _, SqL.of S11.at_⟩, ?_⟩
    refine ⟨_, rfl, _, rfl, _, rfl, rl_cut (rl.same S11.sH) fun p48 G48 n48 s48 r48 => ?_⟩
    refine ⟨_, rfl, _, rfl, tp_cut [.int (d.x), .int (d.y)] ((S11.sH.trans s48) _ _ hp) (by show ¬ (0 = 0 ∧ min 2 7 = 7); decide) rfl fun t49 G49 s49 f49 => ?_⟩
    refine ⟨(by show 1 ≤ sizeLine; decide), fun t50 h50 => ?_⟩
    generalize w50 : upd _ t50 _ = G50
    obtain ⟨s50, f50⟩ := genO w50 h50
    refine tp_cat [.int (d.x), .int (d.y), .int (0)] (s50 _ _ f49) f50 rfl (by show 3 ≤ 10; decide) fun t51 G51 s51 f51 => ?_
    refine ⟨_, rfl, _, rfl, tp_cutN [.int (d.e), .int (d.k), .int (d.s), .int (d.t)] ((S11.sH.trans (((s48.trans s49).trans s50).trans s51)) _ _ hp) (by show ¬ (min 3 7 = 0 ∧ 7 = 7); decide) rfl fun t52 G52 s52 f52 => ?_⟩
    refine tp_cat [.int (d.x), .int (d.y), .int (0), .int (d.e), .int (d.k), .int (d.s), .int (d.t)] (s52 _ _ f51) f52 rfl (by show 7 ≤ 10; decide) fun t53 G53 s53 f53 => ?_
    refine ⟨(by show 1 ≤ sizeLine; decide), fun p54 n54 => ?_⟩
    obtain ⟨G54, w54, s54, r54⟩ := newR n54 (row7 f53 M.x.s M.y.s B0 M.e.s M.k.s M.s.s M.t.s)
    rw [w54]
    refine rl_add (r48.same (((((s49.trans s50).trans s51).trans s52).trans s53).trans s54)) r54 (by decide) fun p55 G55 n55 s55 r55 => ?_
    refine ⟨_, rfl, _, rfl, _, rfl, rl_cutN (rl.same (S11.sH.trans (((((((s48.trans s49).trans s50).trans s51).trans s52).trans s53).trans s54).trans s55))) fun p56 G56 n56 s56 r56 => ?_⟩
    refine rl_add (r55.same s56) r56 (by decide) fun p57 G57 n57 s57 r57 => ?_
    exact nil_ <| ap_rl (S11.on (((((((((s48.trans s49).trans s50).trans s51).trans s52).trans s53).trans s54).trans s55).trans s56).trans s57)) (by decide) r57 (by decide) ((S11.on ((((((((s48.trans s49).trans s50).trans s51).trans s52).trans s53).trans s54).trans s55).trans s56)).ne n57) fun _ _ S => ⟨_, rfl, S⟩
  rintro _ G ⟨ts12, rfl, S12⟩
  refine ⟨JF H l k p d sm' 17, ?_, ?_⟩
  · refine ⟨_, rfl, .inl ⟨rfl, _, SqL.of S12.at_⟩, ?_⟩
    refine ⟨_, rfl, _, rfl, _, rfl, rl_cut (rl.same S12.sH) fun p58 G58 n58 s58 r58 => ?_⟩
    refine ⟨_, rfl, _, rfl, _, rfl, rl_cutN (rl.same (S12.sH.trans s58)) fun p59 G59 n59 s59 r59 => ?_⟩
    obtain ⟨xr, hxr, nxr⟩ := rl_rev r59
    refine ⟨p59, _, rfl, SqL.of hxr, fun p60 n60 => ?_⟩
    obtain ⟨G60, w60, s60, r60⟩ := nxr _ n60
    rw [w60]
    refine rl_add (r58.same (s59.trans s60)) r60 (by decide) fun p61 G61 n61 s61 r61 => ?_
    exact nil_ <| ap_rl (S12.on (((s58.trans s59).trans s60).trans s61)) (by decide) r61 (by decide) ((S12.on ((s58.trans s59).trans s60)).ne n61) fun _ _ S => ⟨_, rfl, S⟩
  rintro _ G ⟨ts13, rfl, S13⟩
  refine ⟨JF H l k p d sm' 18, ?_, ?_⟩
  · refine ⟨_, rfl, .inl ⟨rfl, _, SqL.of S13.at_⟩, ?_⟩
    refine ⟨_, rfl, _, rfl, _, _, rfl, rfl, _, rfl, rl_cut (rl.same S13.sH) fun p62 G62 n62 s62 r62 => ?_⟩
    refine ⟨_, rfl, _, rfl, _, rfl, rl_cutN (rl.same (S13.sH.trans s62)) fun p63 G63 n63 s63 r63 => ?_⟩
    refine rl_add (r62.same s63) r63 (by decide) fun p64 G64 n64 s64 r64 => ?_
    exact nil_ <| ap_rl (S13.on ((s62.trans s63).trans s64)) (by decide) r64 (by decide) ((S13.on (s62.trans s63)).ne n64) fun _ _ S => ⟨_, rfl, S⟩
  rintro _ G ⟨ts14, rfl, S14⟩
  refine ⟨_, rfl, _, rfl, l, _, _, _, rfl, rfl, SqL.of (S14.sH _ _ hl), atI_neg (k := 1) (Nat.le_refl _) (by lia) ul, ?_⟩
  have ⟨x0l, x1l, y0l, y1l, g0l, g1l, e0l, e1l, k0l, k1l, b0l, b1l, t0l, t1l⟩ := sml
  have en := sml.ends
  unfold Sd.ex Sd.ey at en
  refine ⟨JL H l k p d pl sm' 19, ?_, ?_⟩
  · refine ⟨_, rfl, .inl ⟨rfl, _, SqL.of S14.at_⟩, ?_⟩
    refine ⟨_, rfl, ?_⟩
    refine ⟨_, rfl, pl, _, _, _, rfl, rfl, SqT.of (S14.sH _ _ hpl), rfl, _, rfl, pl, _, _, _, rfl, rfl, SqT.of (S14.sH _ _ hpl), rfl, _, rfl, pl, _, _, _, rfl, rfl, SqT.of (S14.sH _ _ hpl), rfl, _, _, rfl, rfl, ⟨b400 (by lia) (by lia), b400 (by lia) (by lia)⟩, _, _, rfl, rfl, _, rfl, pl, _, _, _, rfl, rfl, SqT.of (S14.sH _ _ hpl), rfl, _, rfl, pl, _, _, _, rfl, rfl, SqT.of (S14.sH _ _ hpl), rfl, _, rfl, pl, _, _, _, rfl, rfl, SqT.of (S14.sH _ _ hpl), rfl, _, _, rfl, rfl, ⟨b400 (by lia) (by lia), b400 (by lia) (by lia)⟩, _, _, rfl, rfl, _, rfl, (by show 7 ≤ sizeLine; decide), fun t65 h65 => ?_⟩
    generalize w65 : upd _ t65 _ = G65
    obtain ⟨s65, f65⟩ := genO w65 h65
    refine ⟨(by show 1 ≤ sizeLine; decide), fun p66 n66 => ?_⟩
    obtain ⟨G66, w66, s66, r66⟩ := newR n66 (row7 f65 sml.ex'.1 sml.ex'.2 B1 B1 M.k.s B0 B1)
    rw [w66]
    refine rl_add (rl.same (S14.sH.trans (s65.trans s66))) r66 (by decide) fun p67 G67 n67 s67 r67 => ?_
    exact nil_ <| ap_rl (S14.on ((s65.trans s66).trans s67)) (by decide) r67 (by decide) ((S14.on (s65.trans s66)).ne n67) fun _ _ S => ⟨_, rfl, S⟩
  rintro _ G ⟨ts15, rfl, S15⟩
  exact ⟨_, rfl, q sm' _ G S15.fr S15.sH S15.at_ S15.tg (Nat.le_trans S15.ln (by decide))⟩
  refine ⟨_, rfl, _, rfl, rl_cutN (rl.same s1) fun p2 G2 n2 s2 r2 => ?_⟩
  refine ⟨_, rfl, _, rfl, _, rfl, rl_cut (rl.same (s1.trans s2)) fun p3 G3 n3 s3 r3 => ?_⟩
  refine ⟨_, rfl, _, rfl, _, rfl, rl_cut (rl.same ((s1.trans s2).trans s3)) fun p4 G4 n4 s4 r4 => ?_⟩
  refine ⟨_, rfl, _, rfl, _, _, rfl, rfl, _, rfl, rl_cutN (rl.same (((s1.trans s2).trans s3).trans s4)) fun p5 G5 n5 s5 r5 => ?_⟩
  refine rl_add (r4.same s5) r5 (by decide) fun p6 G6 n6 s6 r6 => ?_
  refine ⟨_, rfl, _, rfl, _, rfl, rl_cut (rl.same (((((s1.trans s2).trans s3).trans s4).trans s5).trans s6)) fun p7 G7 n7 s7 r7 => ?_⟩
  refine ⟨_, rfl, p, d, rfl, (((((((s1.trans s2).trans s3).trans s4).trans s5).trans s6).trans s7) _ _ hp), sm, fun p8 xa xb G8 s8 f8 ra rb => ?_⟩
  have r8 : RL G8 p8 2 := ⟨_, f8, Nat.le_refl _, fun x hx => by
      rcases List.mem_cons.mp hx with rfl | hx
      · exact ra
      · rw [List.mem_singleton.mp hx]; exact rb⟩
  refine rl_add (r7.same s8) r8 (by decide) fun p9 G9 n9 s9 r9 => ?_
  refine ⟨_, rfl, _, rfl, _, _, rfl, rfl, _, rfl, rl_cutN (rl.same ((((((((s1.trans s2).trans s3).trans s4).trans s5).trans s6).trans s7).trans s8).trans s9)) fun p10 G10 n10 s10 r10 => ?_⟩
  refine rl_add (r9.same s10) r10 (by decide) fun p11 G11 n11 s11 r11 => ?_
  refine ⟨(by show 4 ≤ sizeLine; decide), fun sm' hsm => ?_⟩
  have S0 : Asks H (upd _ sm' (.lst _)) sm' [.ref p2, .ref p3, .ref p6, .ref p11] 4 := asks4 ((((((((((s1.trans s2).trans s3).trans s4).trans s5).trans s6).trans s7).trans s8).trans s9).trans s10).trans s11) hsm (r2.same ((((((((s3.trans s4).trans s5).trans s6).trans s7).trans s8).trans s9).trans s10).trans s11)) (r3.same (((((((s4.trans s5).trans s6).trans s7).trans s8).trans s9).trans s10).trans s11)) (r6.same ((((s7.trans s8).trans s9).trans s10).trans s11)) r11
  exact ⟨sm', _, rfl, S0⟩
def tDisp1I (tk tv : TE) : TE := fun σ H Q => ∀ p, H p = none → tk σ (upd H p (.dK [])) fun kx H1 => tv σ H1 fun y H2 => ∃ i, kx = .int i ∧ H2 p = some (.dK []) ∧ Q (.ref p) (upd H2 p (.dK [(.inl i, y)]))
theorem pe_disp1I {X : Cx} {pos : Pos} {k v : Expr} {tk tv : TE} (hk : PE X k tk) (hv : PE X v tv) : PE X (.Dict [some k] [v] pos) (tDisp1I tk tv) := by
  intro pins s σ H Q I q
  have hn := I.hok.fresh (Nat.le_refl s.heap.objs.size)
  have I1 := I.laid (a := s.heap.objs.size) (o := .dK []) (h' := s.heap.push { cls := .type "dict", data := .dict #[] }) (t' := s.toks) (fun _ _ q => Heap.get?_push_of_some _ q) (Nat.le_refl _) (dk_none s.heap (inv_big I))
  refine wpAny_Dict_walk (knd := mixKind X.prog X.w) rfl rfl nofun (by show 1 ≤ 15; decide) (pairTrees_cons_walk (thn (hk pins _ σ _ _ I1 (q _ hn)) fun u s1 ⟨kx, H1, I2, rk, q1⟩ => thn (hv pins s1 σ H1 _ I2 q1) fun w2 s2 ⟨y, H2, I3, ry, x, ek, e, q2⟩ => pairTrees_nil_walk ?_))
  subst ek
  obtain ⟨t, rfl⟩ := rk
  obtain ⟨z, hd, vs0, r0, dd⟩ := dk_at I3 e
  cases r0
  refine ⟨[(.inl x, w2)], ⟨mixKind_int _ _ x t, rfl, True.intro⟩, dd, fun h' dd' hs => ⟨.ref s.heap.objs.size, _, ?_, rfl, q2⟩⟩
  have he : ∃ q, h'.get? s.heap.objs.size = some q := let ⟨q, _, _, hq, _⟩ := dd'; ⟨q, hq⟩
  exact I3.write (x := s.heap.objs.size) (e := s.heap.objs.size) (by rw [e]; exact True.intro) (.inl rfl) (fun b q hb z => (hs.2 b hb).trans z) he ⟨(by show 1 ≤ sizeLine; decide), hd, [(.inl x, w2)], .cons ⟨rfl, ry⟩ .nil, dd'⟩
theorem pe_tupS {X : Cx} {es : List Expr} {t : TA} {pos : Pos} {x1 : Nat} (h : Sl (PA X es t)) : Sl (PE X (.Tuple es x1 pos) (tTup t)) := ⟨pe_tup h.out⟩
theorem pss_joinSS {X : Cx} {rest : List Stmt} {st : Stmt} {t u : TS} (h1 : Sl (PS X st t)) (h2 : Sl (PSs X rest u)) : Sl (PSs X (st :: rest) (tJoin t u)) := ⟨pss_join h1.out h2.out⟩
theorem pss_joinT {X : Cx} {rest : List Stmt} {st : Stmt} {t u : TS} (h1 : Sl (PS X st t)) (h2 : PSs X rest u) : Sl (PSs X (st :: rest) (tJoin t u)) := ⟨pss_join h1.out h2⟩
theorem pe_opS {X : Cx} {a b : Expr} {op : Operator} {r : R2} {ta tb : TE} {pos : Pos} (hr : OpR X (binaryOp op) r) (ha : PE X a ta) (hb : Sl (PE X b tb)) : Sl (PE X (.BinOp a op b pos) (tOp r ta tb)) := ⟨pe_op hr ha hb.out⟩
theorem pa_consSS {X : Cx} {e : Expr} {es : List Expr} {te : TE} {t : TA} (ha : Sl (PE X e te)) (hr : Sl (PA X es t)) (hn : noStar e = true := by rfl) : Sl (PA X (e :: es) (tCons te t)) := ⟨pa_consN ha.out hr.out hn⟩
theorem newD {H : Hp} {p : Addr} (h : H p = none) (o o' : HO) : ∃ G, upd (upd H p o) p o' = G ∧ Same H G ∧ G p = some o' := ⟨_, rfl, fun b c e => by have := ne_of_none e h; rw [upd_ne this, upd_ne this]; exact e, upd_same⟩
theorem tg_nil {G : Hp} : ∀ x ∈ ([] : List V), Tg' G x := fun _ h => by cases h
theorem tg_cons {G : Hp} {a : V} {l : List V} (h : Tg' G a) (t : ∀ x ∈ l, Tg' G x) : ∀ x ∈ a :: l, Tg' G x := fun x hx => by
  rcases List.mem_cons.mp hx with rfl | hx
  · exact h
  · exact t x hx
theorem asks_of {H G : Hp} {sm : Addr} {ts : List V} {N : Nat} (s : Same H G) (h : G sm = none) (t : ∀ x ∈ ts, Tg' G x) (n : ts.length ≤ N) : Asks H (upd G sm (.lst ts)) sm ts N :=
  ⟨upd_same, fun x hx => by rw [hid_upd]; exact (t x hx).same (same_new h _), s.trans (same_new h _), s.free h, n⟩
theorem tg_el {H : Hp} {l : Addr} {x : V} (h : H l = some (.lst [x])) (e : El H x false) : Tg' H (.ref l) := tg_any h (by show 1 ≤ 500; decide) fun y hy => by rw [List.mem_singleton.mp hy]; exact .inr e
def ML (H : Hp) (p : Addr) (x : V) (N : Nat) : Prop := ∃ xs, H p = some (.lst xs) ∧ xs.length ≤ N ∧ ∀ y ∈ xs, Row H y ∨ y = x
theorem mx_put {H : Hp} {l : Addr} {us : List V} {k : Nat} {x : V} {Q : V → Hp → Prop} {E : XK} (hl : H l = some (.lst us)) (kl : k < us.length) (ln : us.length ≤ 200) (t : ∀ y ∈ us, Row H y) (q : ∀ p G, H p = none → Same H G → ML G p x 200 → Q (.ref p) G) : spPut [.ref l, .int (k : Int), x] H Q E := by
  refine ⟨l, us, k, x, rfl, hl, kl, by lia, fun p G hp s h => q p G hp s ⟨_, h, ?_, fun y hy => ?_⟩⟩
  · rw [List.length_append, List.length_append, List.length_take, List.length_drop, List.length_singleton]
    lia
  · rcases List.mem_append.mp hy with hy | hy
    · rcases List.mem_append.mp hy with hy | hy
      · exact .inl ((t y (List.mem_of_mem_take hy)).same s)
      · exact .inr (List.mem_singleton.mp hy)
    · exact .inl ((t y (List.mem_of_mem_drop hy)).same s)
theorem ap_ml {H G : Hp} {sm p : Addr} {x : V} {ts : List V} {N M : Nat} {Q : V → Hp → Prop} (S : Asks H G sm ts N) (n : N ≤ 100) (m : ML G p x M) (hM : M ≤ 500) (np : p ≠ sm) (e : El (hid G sm) x false) (q : ∀ G' ts', Asks H G' sm ts' (N + 1) → Q .non G') : rAppend (.ref sm) [.ref p] G Q := by
  obtain ⟨xs, h, n', t⟩ := m
  exact ap_tg S n (S.mix h np (by lia) fun y hy => (t y hy).imp id fun z => by rw [z]; exact e) q
theorem Asks.tup {H G : Hp} {sm p : Addr} {ts xs : List V} {N : Nat} (S : Asks H G sm ts N) (h : G p = some (.tup xs)) : hid G sm p = some (.tup xs) := by
  rw [hid_ne fun z => by rw [z, S.at_] at h; cases h]
  exact h
theorem Asks.lst {H G : Hp} {sm p : Addr} {ts xs : List V} {N : Nat} (S : Asks H G sm ts N) (h : G p = some (.lst xs)) (np : p ≠ sm) : hid G sm p = some (.lst xs) := by
  rw [hid_ne np]
  exact h
theorem Asks.mono {H G : Hp} {sm : Addr} {ts : List V} {N M : Nat} (S : Asks H G sm ts N) (h : N ≤ M) : Asks H G sm ts M := ⟨S.at_, S.tg, S.sH, S.fr, Nat.le_trans S.ln h⟩
theorem el_bad {H : Hp} {t : Addr} {d : Sd} {j : Nat} {x : V} (h : H t = some (.tup ((sdv d).take j ++ [x] ++ (sdv d).drop (j + 1)))) (hj : j < 7) (hx : Th H x) (n : isI x = false) : El H (.ref t) false := by
  have e : ((sdv d).take j ++ [x] ++ (sdv d).drop (j + 1)).all isI = false := by
    rw [List.all_append, List.all_append, List.all_cons, n]
    simp
  have z := El.els h (by rw [List.length_append, List.length_append, List.length_take, List.length_drop]; show min j 7 + 1 + (7 - (j + 1)) = 7; lia) fun y hy => by
    have sd : ∀ y ∈ sdv d, Th H y := fun y hy => by
      unfold sdv at hy
      simp only [List.mem_cons, List.not_mem_nil, or_false] at hy
      rcases hy with rfl | rfl | rfl | rfl | rfl | rfl | rfl <;> exact .int _
    rcases List.mem_append.mp hy with hy | hy
    · rcases List.mem_append.mp hy with hy | hy
      · exact sd y (List.mem_of_mem_take hy)
      · rw [List.mem_singleton.mp hy]; exact hx
    · exact sd y (List.mem_of_mem_drop hy)
  rw [e] at z
  exact z
theorem sdv_at {d : Sd} (h : Sm d) {j : Nat} (hj : j < 7) : ∃ v : Int, (sdv d)[j]? = some (.int v) ∧ -10000001 ≤ v ∧ v ≤ 10000001 := by
  have ⟨x0, x1, y0, y1, g0, g1, e0, e1, k0, k1, s0, s1, t0, t1⟩ := h
  match j, hj with
  | 0, _ => exact ⟨d.x, rfl, by lia, by lia⟩
  | 1, _ => exact ⟨d.y, rfl, by lia, by lia⟩
  | 2, _ => exact ⟨d.g, rfl, by lia, by lia⟩
  | 3, _ => exact ⟨d.e, rfl, by lia, by lia⟩
  | 4, _ => exact ⟨d.k, rfl, by lia, by lia⟩
  | 5, _ => exact ⟨d.s, rfl, by lia, by lia⟩
  | 6, _ => exact ⟨d.t, rfl, by lia, by lia⟩
theorem lg24 {v : Int} (h0 : -10000001 ≤ v) (h1 : v ≤ 10000001) : v.natAbs.log2 < 1920 := by
  by_cases c : v.natAbs = 0
  · rw [c]; decide
  · exact (Nat.log2_lt c).mpr (Nat.lt_of_le_of_lt (show v.natAbs ≤ 10000001 by lia) (by decide))
def JO (H : Hp) (l : Addr) (k : Nat) (p sm : Addr) (N : Nat) : L2.St → Hp → Prop := fun σ G => ∃ ts, σ = [some (.ref l), some (.int (k : Int)), some (.ref p), some (.ref sm), none] ∧ Asks H G sm ts N
def spOdd : Sp := fun vs H Q _ => ∃ (l : Addr) (us : List V) (k : Nat), vs = [.ref l, .int (k : Int)] ∧ H l = some (.lst us) ∧ k < us.length ∧ us.length ≤ 200 ∧ (∀ x ∈ us, ∃ (p : Addr) (d : Sd), x = .ref p ∧ H p = some (.tup (sdv d)) ∧ Sm d) ∧ ∀ (p : Addr) (ts : List V) H', H p = none → Same H H' → H' p = some (.lst ts) → (∀ x ∈ ts, Tg' (hid H' p) x) → ts.length ≤ 50 → Q (.ref p) H'
theorem ok__law_odd {f : Addr} {fd : FuncData} (F : Fun K "_law_odd" "_law_odd" s__law_odd f fd) (T : Txt K mg) (H__law_put : Has P w K mg base 1 "_law_put" ["_law_rows_here", "_law_at", "_law_row"] spPut) : FnOk P w K mg base CX0 2 f fd ["_law_rows_here", "_law_at"] spOdd := by
  refine F.ok sc__law_odd (fun vs H Q E h => ?_) (fun cdv A outer s H vs Q E hr h => ?_)
  · obtain ⟨l, us, k, rfl, _⟩ := h
    rfl
  obtain ⟨l, us, k, rfl, hl, kl, ln, rw', q⟩ := h
  refine ⟨_, (pss_consT (ps_set (i := 2) sc__law_odd.nd rfl (Or.inl rfl) (pe_ix ix_list (pv 0) (pv 1) (fun _ _ => rfl)))
    (pss_joinT (ps_setS (i := 3) sc__law_odd.nd rfl (Or.inl rfl) (pe_lstS (pa_consS pe_non (pa_consS pe_str (pa_consS pe_str (pa_consS pe_int (pa_consS pe_bl (pa_consS pe_dnewK (pa_consSS (pe_tupS pa_nilS) (pa_consS (pe_callTy call_tuple_of rfl T.n_tuple boot_tuple (pa_consN (pv 0) pa_nil)) (pa_consSS (pe_lstS (pa_consS pe_non pa_nilS)) (pa_consSS (pe_lstS (pa_consSS (pe_lstS pa_nilS) pa_nilS)) (pa_consSS (pe_lstS (pa_consSS (pe_tupS pa_nilS) pa_nilS)) (pa_consSS (pe_lstS (pa_consS (pv 0) pa_nilS)) (pa_consS (pe_disp1I pe_int (pv 0)) pa_nilS)))))))))))))))
    (pss_join (ps_expr (pe_bm PySem.F.plainAttrs_list PySem.F.slot_list_append PySem.F.type_list_append mt_append (pv 3) (pa_consN (pe_op op_addL (pv 0) (pe_lst (pa_consN pe_non pa_nil))) pa_nil)))
    (pss_join (ps_expr (pe_bm PySem.F.plainAttrs_list PySem.F.slot_list_append PySem.F.type_list_append mt_append (pv 3) (pa_consN (pe_fn H__law_put (hr.mono (by lia)) rfl (pa_consN (pv 0) (pa_consN (pv 1) (pa_consN (pe_callTy call_list_of rfl T.n_list boot_list (pa_consN (pv 2) pa_nil)) pa_nil)))) pa_nil)))
    (pss_join (ps_expr (pe_bm PySem.F.plainAttrs_list PySem.F.slot_list_append PySem.F.type_list_append mt_append (pv 3) (pa_consN (pe_fn H__law_put (hr.mono (by lia)) rfl (pa_consN (pv 0) (pa_consN (pv 1) (pa_consN (pe_slice sl_tup (pv 2) po_none (po_some pe_int)) pa_nil)))) pa_nil)))
    (pss_join (ps_expr (pe_bm PySem.F.plainAttrs_list PySem.F.slot_list_append PySem.F.type_list_append mt_append (pv 3) (pa_consN (pe_fn H__law_put (hr.mono (by lia)) rfl (pa_consN (pv 0) (pa_consN (pv 1) (pa_consN (pe_op op_catA (pv 2) (pe_tup (pa_consN pe_int pa_nil))) pa_nil)))) pa_nil)))
    (pss_cons (ps_for PassesOwn.never rfl (pi_range1 rfl T.n_range (pa_consN pe_int pa_nil)) (pg_name (i := 4) sc__law_odd.nd rfl (Or.inl rfl))
      (pss_join (ps_expr (pe_bm PySem.F.plainAttrs_list PySem.F.slot_list_append PySem.F.type_list_append mt_append (pv 3) (pa_consN (pe_fn H__law_put (hr.mono (by lia)) rfl (pa_consN (pv 0) (pa_consN (pv 1) (pa_consN (pe_op op_catA (pe_op op_catA (pe_slice sl_tup (pv 2) po_none (po_some (pv 4))) (pe_tup (pa_consN (pe_callTy call_str_int rfl T.n_str boot_str (pa_consN (pe_ix ix_tup (pv 2) (pv 4) (fun _ _ => rfl)) pa_nil)) pa_nil))) (pe_slice sl_tup (pv 2) (po_some (pe_op op_add (pv 4) pe_int)) po_none)) pa_nil)))) pa_nil)))
      (pss_one (ps_if (pt_cmpR op_in_seq (pe_ix ix_tup (pv 2) (pv 4) (fun _ _ => rfl)) (pe_tup (pa_consN pe_int (pa_consN pe_int pa_nil))) (by with_unfolding_all rfl))
        (pss_one (ps_expr (pe_bm PySem.F.plainAttrs_list PySem.F.slot_list_append PySem.F.type_list_append mt_append (pv 3) (pa_consN (pe_fn H__law_put (hr.mono (by lia)) rfl (pa_consN (pv 0) (pa_consN (pv 1) (pa_consN (pe_op op_catA (pe_op op_catA (pe_slice sl_tup (pv 2) po_none (po_some (pv 4))) (pe_tup (pa_consN (pe_cmpR op_eq (pe_ix ix_tup (pv 2) (pv 4) (fun _ _ => rfl)) pe_int (nomark _)) pa_nil))) (pe_slice sl_tup (pv 2) (po_some (pe_op op_add (pv 4) pe_int)) po_none)) pa_nil)))) pa_nil))))
        pss_nil))))
    (pss_one (ps_ret (pv 3)))))))))), ?_⟩
  obtain ⟨p, d, ep, hp, sm⟩ := rw' _ (List.getElem_mem kl)
  have uk : us[k]? = some (.ref p) := by rw [← ep]; exact List.getElem?_eq_getElem kl
  have rows : ∀ y ∈ us, Row H y := fun y hy => by
    obtain ⟨p, d, e, h, b⟩ := rw' y hy
    exact ⟨p, d, e, h, b.b⟩
  have big : (1000 : Nat) ≤ sizeLine := by decide
  refine ⟨_, rfl, _, rfl, l, _, _, _, rfl, rfl, SqL.of hl, atI_nat uk, ?_⟩
  refine ⟨fun σ G => ∃ sm, JO H l k p sm 13 σ G, ?_, ?_⟩
  · refine fun a1 h1 => ?_
    generalize w1 : upd _ a1 _ = G1
    obtain ⟨s1, f1⟩ := genO w1 h1
    refine ⟨(by show 0 ≤ sizeLine; decide), fun a2 h2 => ?_⟩
    generalize w2 : upd _ a2 _ = G2
    obtain ⟨s2, f2⟩ := genO w2 h2
    refine ⟨_, rfl, l, us, rfl, .inl ⟨SqL.of ((s1.trans s2) _ _ hl), fun a3 h3 => ?_⟩⟩
    generalize w3 : upd _ a3 _ = G3
    obtain ⟨s3, f3⟩ := genO w3 h3
    refine ⟨(by show 1 ≤ sizeLine; decide), fun a4 h4 => ?_⟩
    generalize w4 : upd _ a4 _ = G4
    obtain ⟨s4, f4⟩ := genO w4 h4
    refine ⟨(by show 0 ≤ sizeLine; decide), fun a5 h5 => ?_⟩
    generalize w5 : upd _ a5 _ = G5
    obtain ⟨s5, f5⟩ := genO w5 h5
    refine ⟨(by show 1 ≤ sizeLine; decide), fun a6 h6 => ?_⟩
    generalize w6 : upd _ a6 _ = G6
    obtain ⟨s6, f6⟩ := genO w6 h6
    refine ⟨(by show 0 ≤ sizeLine; decide), fun a7 h7 => ?_⟩
    generalize w7 : upd _ a7 _ = G7
    obtain ⟨s7, f7⟩ := genO w7 h7
    refine ⟨(by show 1 ≤ sizeLine; decide), fun a8 h8 => ?_⟩
    generalize w8 : upd _ a8 _ = G8
    obtain ⟨s8, f8⟩ := genO w8 h8
    refine ⟨_, rfl, (by show 1 ≤ sizeLine; decide), fun a9 h9 => ?_⟩
    generalize w9 : upd _ a9 _ = G9
    obtain ⟨s9, f9⟩ := genO w9 h9
    refine fun b1 h10 => ⟨_, rfl, _, rfl, upd_same, ?_⟩
    obtain ⟨G10, w10, s10, f10⟩ := newD h10 (.dK []) (.dK [(.inl 0, .ref l)])
    rw [w10]
    refine ⟨(by show 13 ≤ sizeLine; decide), fun sm' hsm => ?_⟩
    have z1 := ((((((((s2.trans s3).trans s4).trans s5).trans s6).trans s7).trans s8).trans s9).trans s10)
    have z3 := ((((((s4.trans s5).trans s6).trans s7).trans s8).trans s9).trans s10)
    have z5 := ((((s6.trans s7).trans s8).trans s9).trans s10)
    have z7 := (s8.trans s9).trans s10
    have S0 := asks_of (sm := sm') (N := 13) (s1.trans z1) hsm (tg_cons ⟨_, .non⟩ <| tg_cons ⟨_, .str (Str.ofString "")⟩ <| tg_cons ⟨_, .str (Str.ofString "paper")⟩ <| tg_cons ⟨_, .int 0⟩ <| tg_cons ⟨_, .bl true⟩ <| tg_cons ⟨_, .dct (z1 _ _ f1)⟩ <| tg_cons ⟨_, .tup ((s3.trans z3) _ _ f2)⟩ <| tg_cons ⟨_, .tup (z3 _ _ f3)⟩ <| tg_cons (tg_el ((s5.trans z5) _ _ f4) .non) <| tg_cons (tg_el ((s7.trans z7) _ _ f6) (.lst (z5 _ _ f5))) <| tg_cons (tg_el ((s9.trans s10) _ _ f8) (.len (z7 _ _ f7) (by decide))) <| tg_cons (tg_el (s10 _ _ f9) (.lst ((s1.trans z1) _ _ hl))) <| tg_cons ⟨_, .dct f10⟩ tg_nil) (Nat.le_refl _)
    exact ⟨sm', _, rfl, S0⟩
  rintro _ G ⟨sm', ts0, rfl, S0⟩
  refine ⟨JO H l k p sm' 14, ?_, ?_⟩
  · refine ⟨_, rfl, .inl ⟨rfl, _, SqL.of S0.at_⟩, ?_⟩
    refine ⟨_, rfl, (by show 1 ≤ sizeLine; decide), fun a11 h11 => ?_⟩
    generalize w11 : upd _ a11 _ = G11
    obtain ⟨s11, f11⟩ := genO w11 h11
    refine ⟨l, a11, us, [.non], rfl, rfl, SqL.of ((S0.sH.trans s11) _ _ hl), SqL.of f11, (by show us.length + 1 ≤ _; lia), fun a12 h12 => ?_⟩
    generalize w12 : upd _ a12 _ = G12
    obtain ⟨s12, f12⟩ := genO w12 h12
    have S0' := S0.on (s11.trans s12)
    exact nil_ <| ap_tg S0' (by decide) (S0'.mix f12 ((S0.on s11).ne h12) (by rw [List.length_append]; show us.length + 1 ≤ 500; lia) fun y hy => (List.mem_append.mp hy).elim (fun z => .inl ((rows y z).same S0'.sH)) fun z => by rw [List.mem_singleton.mp z]; exact .inr .non) fun _ _ S => ⟨_, rfl, S⟩
  rintro _ G ⟨ts1, rfl, S1⟩
  refine ⟨JO H l k p sm' 15, ?_, ?_⟩
  · refine ⟨_, rfl, .inl ⟨rfl, _, SqL.of S1.at_⟩, ?_⟩
    refine ⟨_, rfl, _, rfl, _, rfl, p, _, rfl, .inr (SqT.of (S1.sH _ _ hp)), fun a13 h13 => ?_⟩
    generalize w13 : upd _ a13 _ = G13
    obtain ⟨s13, f13⟩ := genO w13 h13
    refine nil_ <| mx_put ((S1.sH.trans s13) _ _ hl) kl ln (fun y hy => (rows y hy).same (S1.sH.trans s13)) fun a14 G14 n14 s14 m14 => ?_
    have S1' := S1.on (s13.trans s14)
    exact nil_ <| ap_ml S1' (by decide) m14 (by decide) ((S1.on s13).ne n14) (.lst (S1'.lst (s14 _ _ f13) (S1.ne h13))) fun _ _ S => ⟨_, rfl, S⟩
  rintro _ G ⟨ts2, rfl, S2⟩
  refine ⟨JO H l k p sm' 16, ?_, ?_⟩
  · refine ⟨_, rfl, .inl ⟨rfl, _, SqL.of S2.at_⟩, ?_⟩
    refine ⟨_, rfl, _, rfl, _, rfl, _, rfl, tp_cut [.int d.x, .int d.y, .int d.g, .int d.e, .int d.k, .int d.s] (S2.sH _ _ hp) (by show ¬ (0 = 0 ∧ min 6 7 = 7); decide) rfl fun t15 G15 s15 f15 => ?_⟩
    refine nil_ <| mx_put ((S2.sH.trans s15) _ _ hl) kl ln (fun y hy => (rows y hy).same (S2.sH.trans s15)) fun a16 G16 n16 s16 m16 => ?_
    have S2' := S2.on (s15.trans s16)
    exact nil_ <| ap_ml S2' (by decide) m16 (by decide) ((S2.on s15).ne n16) (.len (S2'.tup (s16 _ _ f15)) (by show ¬ (6 = 7); decide)) fun _ _ S => ⟨_, rfl, S⟩
  rintro _ G ⟨ts3, rfl, S3⟩
  refine ⟨JO H l k p sm' 17, ?_, ?_⟩
  · refine ⟨_, rfl, .inl ⟨rfl, _, SqL.of S3.at_⟩, ?_⟩
    refine ⟨_, rfl, _, rfl, _, rfl, (by show 1 ≤ sizeLine; decide), fun t17 h17 => ?_⟩
    generalize w17 : upd _ t17 _ = G17
    obtain ⟨s17, f17⟩ := genO w17 h17
    refine tp_cat (sdv d ++ [.int 0]) ((S3.sH.trans s17) _ _ hp) f17 rfl (by show 8 ≤ 10; decide) fun t18 G18 s18 f18 => ?_
    have z18 := s17.trans s18
    refine nil_ <| mx_put ((S3.sH.trans z18) _ _ hl) kl ln (fun y hy => (rows y hy).same (S3.sH.trans z18)) fun a19 G19 n19 s19 m19 => ?_
    have S3' := S3.on (z18.trans s19)
    exact nil_ <| ap_ml S3' (by decide) m19 (by decide) ((S3.on z18).ne n19) (.len (S3'.tup (s19 _ _ f18)) (by show ¬ (8 = 7); decide)) fun _ _ S => ⟨_, rfl, S⟩
  rintro _ G ⟨ts4, rfl, S4⟩
  refine ⟨_, rfl, by lia, by lia, for_range (n := 7) (fun j σ G => ∃ (y4 : Option V) (ts : List V), σ = [some (.ref l), some (.int (k : Int)), some (.ref p), some (.ref sm'), y4] ∧ Asks H G sm' ts (17 + 2 * j)) ⟨_, _, rfl, S4⟩ ?_ ?_⟩
  · rintro j σ G hj ⟨y4, ts, rfl, S⟩
    have hj7 : j < 7 := hj
    obtain ⟨v, ev, v0, v1⟩ := sdv_at sm hj7
    have ix : atI (sdv d) (0 + (j : Int)) = some (.int v) := by rw [Int.zero_add]; exact atI_nat ev
    have nw1 : ¬ (HT.sIx (sdv d).length 0 none = 0 ∧ HT.sIx (sdv d).length (sdv d).length (some (0 + (j : Int))) = (sdv d).length) := by
      rw [Int.zero_add, HT.sIx_nat]
      show ¬ (_ ∧ min j 7 = 7)
      lia
    have nw2 : ¬ (HT.sIx (sdv d).length 0 (some (0 + (j : Int) + 1)) = 0 ∧ HT.sIx (sdv d).length (sdv d).length none = (sdv d).length) := by
      rw [show 0 + (j : Int) + 1 = ((j + 1 : Nat) : Int) by lia, HT.sIx_nat]
      show ¬ (min (j + 1) 7 = 0 ∧ _)
      lia
    have c1 : cutV (sdv d) none (some (0 + (j : Int))) = (sdv d).take j := by rw [Int.zero_add]; exact cut_take (sdv d) j (by show j ≤ 7; lia)
    have c2 : cutV (sdv d) (some (0 + (j : Int) + 1)) none = (sdv d).drop (j + 1) := by rw [show 0 + (j : Int) + 1 = ((j + 1 : Nat) : Int) by lia]; exact cut_drop (sdv d) (j + 1) (by show j + 1 ≤ 7; lia)
    have l1 : ∀ x : V, ((sdv d).take j ++ [x]).length ≤ 10 := fun x => by rw [List.length_append, List.length_take]; show min j 7 + 1 ≤ 10; lia
    have l2 : ∀ x : V, ((sdv d).take j ++ [x] ++ (sdv d).drop (j + 1)).length ≤ 10 := fun x => by rw [List.length_append, List.length_append, List.length_take, List.length_drop]; show min j 7 + 1 + (7 - (j + 1)) ≤ 10; lia
    refine ⟨fun σ G' => ∃ ts, σ = [some (.ref l), some (.int (k : Int)), some (.ref p), some (.ref sm'), some (.int (0 + (j : Int)))] ∧ Asks H G' sm' ts (17 + 2 * j + 1), ?_, ?_⟩
    · refine ⟨_, rfl, .inl ⟨rfl, _, SqL.of S.at_⟩, ?_⟩
      refine ⟨_, rfl, _, rfl, _, rfl, _, rfl, _, rfl, tp_cut _ (S.sH _ _ hp) nw1 c1 fun t1 G1 s1 f1 => ?_⟩
      refine ⟨_, rfl, _, rfl, p, _, _, _, rfl, rfl, SqT.of ((S.sH.trans s1) _ _ hp), ix, v, rfl, lg24 v0 v1, (by show 1 ≤ sizeLine; decide), fun t2 h2 => ?_⟩
      generalize w2 : upd _ t2 _ = G2
      obtain ⟨s2, f2⟩ := genO w2 h2
      refine tp_cat _ (s2 _ _ f1) f2 rfl (l1 _) fun t3 G3 s3 f3 => ?_
      have z3 := (s1.trans s2).trans s3
      refine ⟨_, rfl, _, rfl, _, _, rfl, rfl, _, rfl, tp_cutN _ ((S.sH.trans z3) _ _ hp) nw2 c2 fun t4 G4 s4 f4 => ?_⟩
      refine tp_cat _ (s4 _ _ f3) f4 rfl (l2 _) fun t5 G5 s5 f5 => ?_
      have z5 := (z3.trans s4).trans s5
      refine nil_ <| mx_put ((S.sH.trans z5) _ _ hl) kl ln (fun y hy => (rows y hy).same (S.sH.trans z5)) fun a6 G6 n6 s6 m6 => ?_
      have S' := S.on (z5.trans s6)
      exact nil_ <| ap_ml S' (by lia) m6 (by decide) ((S.on z5).ne n6) (el_bad (S'.tup (s6 _ _ f5)) hj7 (.str _) rfl) fun _ _ S => ⟨_, rfl, S⟩
    rintro _ G ⟨ts5, rfl, S5⟩
    refine ⟨_, rfl, _, rfl, p, _, _, _, rfl, rfl, SqT.of (S5.sH _ _ hp), ix, (by show 2 ≤ sizeLine; decide), fun t7 h7 => ?_⟩
    generalize w7 : upd _ t7 _ = G7
    obtain ⟨s7, f7⟩ := genO w7 h7
    refine ⟨t7, _, rfl, .inr (SqT.of f7), rfl, rfl, _, rfl, ?_⟩
    have S6 := S5.on s7
    cases cb : inV (.int v) [.int 0, .int 1] with
    | false => exact iteF ⟨_, _, rfl, S6.mono (by lia)⟩
    | true =>
      refine iteT ?_
      refine ⟨_, rfl, .inl ⟨rfl, _, SqL.of S6.at_⟩, ?_⟩
      refine ⟨_, rfl, _, rfl, _, rfl, _, rfl, _, rfl, tp_cut _ (S6.sH _ _ hp) nw1 c1 fun t1 G1 s1 f1 => ?_⟩
      refine ⟨_, rfl, _, rfl, p, _, _, _, rfl, rfl, SqT.of ((S6.sH.trans s1) _ _ hp), ix, rfl, (by show 1 ≤ sizeLine; decide), fun t2 h2 => ?_⟩
      generalize w2 : upd _ t2 _ = G2
      obtain ⟨s2, f2⟩ := genO w2 h2
      refine tp_cat _ (s2 _ _ f1) f2 rfl (l1 _) fun t3 G3 s3 f3 => ?_
      have z3 := (s1.trans s2).trans s3
      refine ⟨_, rfl, _, rfl, _, _, rfl, rfl, _, rfl, tp_cutN _ ((S6.sH.trans z3) _ _ hp) nw2 c2 fun t4 G4 s4 f4 => ?_⟩
      refine tp_cat _ (s4 _ _ f3) f4 rfl (l2 _) fun t5 G5 s5 f5 => ?_
      have z5 := (z3.trans s4).trans s5
      refine nil_ <| mx_put ((S6.sH.trans z5) _ _ hl) kl ln (fun y hy => (rows y hy).same (S6.sH.trans z5)) fun a6 G6 n6 s6 m6 => ?_
      have S' := S6.on (z5.trans s6)
      exact nil_ <| ap_ml S' (by lia) m6 (by decide) ((S6.on z5).ne n6) (el_bad (S'.tup (s6 _ _ f5)) hj7 (.bl _) rfl) fun G ts5 S5 => ⟨_, _, rfl, S5.mono (by lia)⟩
  rintro σ G ⟨y4, ts, rfl, S⟩
  exact ⟨_, rfl, q sm' _ G S.fr S.sH S.at_ S.tg (Nat.le_trans S.ln (by decide))⟩
def spLonger : Sp := fun vs H Q _ => ∃ (r l pl : Addr) (n m a b : Int) (us : List V) (dl : Sd), vs = [.ref r, .ref l] ∧ H r = some (.tup (lnv n m a b)) ∧ H l = some (.lst us) ∧ 0 < us.length ∧ us.length ≤ 200 ∧ (∀ x ∈ us, Row H x) ∧ us[us.length - 1]? = some (.ref pl) ∧ H pl = some (.tup (sdv dl)) ∧ Sm dl ∧ ∀ (t r' l' : Addr) H', Same H H' → H' t = some (.tup [.ref r', .ref l']) → H' r' = some (.tup (lnv (n + dl.e) m a b)) → RL H' l' 201 → Q (.ref t) H'
theorem ok__law_longer {f : Addr} {fd : FuncData} (F : Fun K "_law_longer" "_law_longer" s__law_longer f fd) (T : Txt K mg)  : FnOk P w K mg base CX0 1 f fd ["_law_line_here", "_law_rows_here"] spLonger := by
  refine F.ok sc__law_longer (fun vs H Q E h => ?_) (fun cdv A outer s H vs Q E hr h => ?_)
  · obtain ⟨r, l, pl, n, m, a, b, us, dl, rfl, _⟩ := h
    rfl
  obtain ⟨r, l, pl, n, m, a, b, us, dl, rfl, hr0, hl, u0, ln, rows, ul, hpl, sm, q⟩ := h
  refine ⟨_, (pss_cons (ps_set (i := 2) sc__law_longer.nd rfl (Or.inl rfl) (pe_ix ix_list (pv 1) (pe_un un_neg pe_int) (fun _ _ => rfl)))
    (pss_cons (ps_set (i := 3) sc__law_longer.nd rfl (Or.inl rfl) (pe_op op_catA (pe_op op_catA (pe_slice sl_tup (pv 2) po_none (po_some pe_int)) (pe_tup (pa_cons (pe_op op_add (pe_ix ix_tup (pv 2) pe_int (fun _ _ => rfl)) pe_int) pa_nil))) (pe_slice sl_tup (pv 2) (po_some pe_int) po_none)))
    (pss_one (ps_ret (pe_tup (pa_cons (pe_op op_catA (pe_tup (pa_cons (pe_op op_add (pe_ix ix_tup (pv 0) pe_int (fun _ _ => rfl)) (pe_ix ix_tup (pv 2) pe_int (fun _ _ => rfl))) pa_nil)) (pe_slice sl_tup (pv 0) (po_some pe_int) po_none)) (pa_cons (pe_op op_addL (pe_slice sl_list (pv 1) po_none (po_some (pe_un un_neg pe_int))) (pe_lst (pa_cons (pv 3) pa_nil))) pa_nil))))))), ?_⟩
  have M := sm.m
  refine ⟨_, rfl, _, rfl, l, _, _, _, rfl, rfl, SqL.of hl, atI_neg (k := 1) (Nat.le_refl _) (by lia) ul, ?_⟩
  refine ⟨_, rfl, _, rfl, tp_cut [.int dl.x, .int dl.y] hpl (by show ¬ (0 = 0 ∧ min 2 7 = 7); decide) rfl fun t1 G1 s1 f1 => ?_⟩
  refine ⟨_, rfl, pl, _, _, _, rfl, rfl, SqT.of (s1 _ _ hpl), rfl, _, _, rfl, rfl, (by show 1 ≤ sizeLine; decide), fun t2 h2 => ?_⟩
  generalize w2 : upd _ t2 _ = G2
  obtain ⟨s2, f2⟩ := genO w2 h2
  refine tp_cat [.int dl.x, .int dl.y, .int (dl.g + 1)] (s2 _ _ f1) f2 rfl (by show 3 ≤ 10; decide) fun t3 G3 s3 f3 => ?_
  have z3 := (s1.trans s2).trans s3
  refine ⟨_, rfl, _, rfl, tp_cutN [.int dl.e, .int dl.k, .int dl.s, .int dl.t] (z3 _ _ hpl) (by show ¬ (min 3 7 = 0 ∧ 7 = 7); decide) rfl fun t4 G4 s4 f4 => ?_⟩
  refine tp_cat (sdv ⟨dl.x, dl.y, dl.g + 1, dl.e, dl.k, dl.s, dl.t⟩) (s4 _ _ f3) f4 rfl (by show 7 ≤ 10; decide) fun t5 G5 s5 f5 => ?_
  have z5 := (z3.trans s4).trans s5
  refine ⟨_, rfl, r, _, _, _, rfl, rfl, SqT.of (z5 _ _ hr0), rfl, _, rfl, pl, _, _, _, rfl, rfl, SqT.of (z5 _ _ hpl), rfl, _, _, rfl, rfl, (by show 1 ≤ sizeLine; decide), fun t6 h6 => ?_⟩
  generalize w6 : upd _ t6 _ = G6
  obtain ⟨s6, f6⟩ := genO w6 h6
  refine ⟨_, rfl, _, rfl, tp_cutN [.int m, .int a, .int b] ((z5.trans s6) _ _ hr0) (by show ¬ (min 1 4 = 0 ∧ 4 = 4); decide) rfl fun t7 G7 s7 f7 => ?_⟩
  refine tp_cat (lnv (n + dl.e) m a b) (s7 _ _ f6) f7 rfl (by show 4 ≤ 10; decide) fun t8 G8 s8 f8 => ?_
  have z8 := ((z5.trans s6).trans s7).trans s8
  have rl : RL H l 200 := ⟨us, hl, ln, rows⟩
  refine ⟨_, rfl, _, rfl, _, rfl, rl_cut (rl.same z8) fun p9 G9 n9 s9 r9 => ?_⟩
  have z59 := ((s6.trans s7).trans s8).trans s9
  refine ⟨_, rfl, (by show 1 ≤ sizeLine; decide), fun p10 h10 => ?_⟩
  obtain ⟨G10, w10, s10, r10⟩ := newR h10 (row7 (z59 _ _ f5) M.x.s M.y.s M.g.up M.e.s M.k.s M.s.s M.t.s)
  rw [w10]
  refine rl_add (r9.same s10) r10 (by decide) fun p11 G11 n11 s11 r11 => ?_
  refine ⟨(by show 2 ≤ sizeLine; decide), fun t12 h12 => ?_⟩
  generalize w12 : upd _ t12 _ = G12
  obtain ⟨s12, f12⟩ := genO w12 h12
  have y := ((s9.trans s10).trans s11).trans s12
  exact q t12 t8 p11 G12 (z8.trans y) f12 (y _ _ f8) (r11.same s12)
theorem RL.tg {H : Hp} {p : Addr} {N : Nat} (r : RL H p N) (n : N ≤ 500) : Tg' H (.ref p) := by
  obtain ⟨xs, h, n', t⟩ := r
  exact tg_any h (by lia) fun x hx => .inl (t x hx)
theorem eqSd {K : PySem.W.Frag} {H : Hp} {p q : Addr} {xs : List Sd} (h1 : ALg sdv H p xs) (h2 : ALg sdv H q xs) : ∃ as bs, SqL K H p as ∧ SqL K H q bs ∧ as.length = bs.length ∧ (∀ j, j < as.length → EqD K H 1 (as.getD j .non) (bs.getD j .non) true) := by
  obtain ⟨ps, e1, g1⟩ := h1
  obtain ⟨qs, e2, g2⟩ := h2
  refine ⟨ps.map V.ref, qs.map V.ref, SqL.of e1, SqL.of e2, by rw [List.length_map, List.length_map, g1.1, g2.1], fun j hj => ?_⟩
  rw [List.length_map] at hj
  have hj2 : j < qs.length := by rw [g2.1, ← g1.1]; exact hj
  have a1 : (ps.map V.ref).getD j .non = .ref ps[j] := by rw [List.getD_eq_getElem?_getD, List.getElem?_map, List.getElem?_eq_getElem hj]; rfl
  have a2 : (qs.map V.ref).getD j .non = .ref qs[j] := by rw [List.getD_eq_getElem?_getD, List.getElem?_map, List.getElem?_eq_getElem hj2]; rfl
  rw [a1, a2]
  by_cases c : ps[j] = qs[j]
  · rw [c]; exact EqD.same
  · obtain ⟨x, ex, hx⟩ := g1.get' (List.getElem?_eq_getElem hj)
    have hy := g2.2 j _ x (List.getElem?_eq_getElem hj2) ex
    have fl : ∀ i : Int, EqD K H 0 (.int i) (.int i) true := fun i => by
      have := EqD.flat (K := K) (H := H) (d := 0) (x := .int i) (y := .int i) rfl rfl
      rwa [show eqV (.int i) (.int i) = true by simp [eqV]] at this
    have := EqD.tup (d := 0) (e := fun _ => true) c (SqT.of (K := K) hx) (SqT.of (K := K) hy) (fun k h1 h2 => by
      have : k < 7 := h1
      rcases (by lia : k = 0 ∨ k = 1 ∨ k = 2 ∨ k = 3 ∨ k = 4 ∨ k = 5 ∨ k = 6) with rfl | rfl | rfl | rfl | rfl | rfl | rfl <;> exact fl _)
    exact this
def HH (G : Hp) (p c : Addr) : Hp := hid (hid G p) c
theorem hh_same {G G' : Hp} {p c : Addr} (s : Same G G') : Same (HH G p c) (HH G' p c) := same_hid (same_hid s)
theorem hh_sameN {G G' : Hp} {p c : Addr} (s : SameN [p, c] G G') : Same (HH G p c) (HH G' p c) := fun b o h => by
  unfold HH hid at h ⊢
  by_cases c1 : b = c
  · rw [c1, upd_same] at h ⊢; exact h
  · rw [upd_ne c1] at h ⊢
    by_cases c2 : b = p
    · rw [c2, upd_same] at h ⊢; exact h
    · rw [upd_ne c2] at h ⊢
      exact s b o (fun z => by
        rcases List.mem_cons.mp z with z | z
        · exact c2 z
        · exact c1 (List.mem_singleton.mp z)) h
theorem hh_of {G : Hp} {p c b : Addr} {o : HO} (n : o ≠ .own 0) (h : HH G p c b = some o) : G b = some o := hid_of n (hid_of n h)
theorem hh_to {G : Hp} {p c b : Addr} {o : HO} (h : G b = some o) (n1 : b ≠ p) (n2 : b ≠ c) : HH G p c b = some o := by
  unfold HH
  rw [hid_ne n2, hid_ne n1]
  exact h
theorem PoolAt.fresh {G : Hp} {p c b : Addr} (h : PoolAt G p c) (e : G b = none) : b ≠ p ∧ b ≠ c := by
  obtain ⟨k, cs, h1, h2, _⟩ := h
  exact ⟨fun z => (by rw [z, h1] at e; cases e), fun z => (by rw [z, h2] at e; cases e)⟩
theorem PoolAt.tup {G : Hp} {p c b : Addr} {xs : List V} (h : PoolAt G p c) (e : G b = some (.tup xs)) : HH G p c b = some (.tup xs) := by
  obtain ⟨k, cs, h1, h2, _⟩ := h
  exact hh_to e (fun z => by rw [z, h1] at e; cases e) (fun z => by rw [z, h2] at e; cases e)
theorem genP {G G' : Hp} {p c a : Addr} {o : HO} (w : upd G a o = G') (pa : PoolAt G p c) (h : G a = none) : Same G G' ∧ HH G' p c a = some o ∧ PoolAt G' p c := by
  subst w
  exact ⟨same_new h _, hh_to upd_same (pa.fresh h).1 (pa.fresh h).2, pa.same (same_new h _)⟩
theorem newPD {G : Hp} {p c a b : Addr} (pa : PoolAt G p c) (h : G a = none) (o o' o'' : HO) (h' : upd G a o b = none) : ∃ G', upd (upd (upd G a o) b o') a o'' = G' ∧ Same G G' ∧ HH G' p c a = some o'' ∧ PoolAt G' p c := by
  have s : Same G (upd (upd (upd G a o) b o') a o'') := fun x v e => by
    have := ne_of_none e h
    rw [upd_ne this]
    exact ((same_new h o).trans (same_new h' o')) _ _ e
  exact ⟨_, rfl, s, hh_to upd_same (pa.fresh h).1 (pa.fresh h).2, pa.same s⟩
theorem ALg.hh {G : Hp} {p c a : Addr} {ds : List Sd} (pa : PoolAt G p c) (al : ALg sdv G a ds) : ALg sdv (HH G p c) a ds := by
  obtain ⟨ps, h, pl⟩ := al
  have n := pa.notin h fun v hv => (by obtain ⟨x, _, e⟩ := List.mem_map.mp hv; exact ⟨x, e.symm⟩)
  exact ⟨ps, hh_to h (fun z => n (by rw [z]; exact List.mem_cons_self ..)) (fun z => n (by rw [z]; exact List.mem_cons_of_mem _ (List.mem_cons_self ..))), pl.1, fun i q d e1 e2 => pa.tup (pl.2 i q d e1 e2)⟩
theorem ALg.unhh {G : Hp} {p c a : Addr} {ds : List Sd} (al : ALg sdv (HH G p c) a ds) : ALg sdv G a ds := by
  obtain ⟨ps, h, pl⟩ := al
  exact ⟨ps, hh_of (fun z => nomatch z) h, pl.1, fun i q d e1 e2 => hh_of (fun z => nomatch z) (pl.2 i q d e1 e2)⟩
theorem Tg'.unhh {G : Hp} {p c : Addr} {x : V} (t : Tg' (HH G p c) x) : Tg' G x := t.unhid.unhid
theorem tg_mem {G : Hp} {xs ys : List V} (h1 : ∀ x ∈ xs, Tg' G x) (h2 : ∀ x ∈ ys, Tg' G x) : ∀ x ∈ xs ++ ys, Tg' G x := fun x hx => (List.mem_append.mp hx).elim (h1 x) (h2 x)
theorem sdv_inj {d d' : Sd} (h : sdv d = sdv d') : d = d' := by
  cases d; cases d'
  simp only [sdv, List.cons.injEq, V.int.injEq, and_true] at h
  obtain ⟨rfl, rfl, rfl, rfl, rfl, rfl, rfl⟩ := h
  rfl
theorem PapOk.lt {n m a b : Int} {zs : List Int} {ds : List Sd} (h : PapOk n m a b zs ds) {i j : Nat} {d d' : Sd} (ij : i ≤ j) (e1 : ds[i]? = some d) (e2 : ds[j]? = some d') : d.x < d'.ex := by
  have ln := h.sd.ln
  have hi := (List.getElem?_eq_some_iff.mp e1).1
  have hj := (List.getElem?_eq_some_iff.mp e2).1
  obtain ⟨u, v, d1, eu, ev, ed, ok, _⟩ := h.get hi
  obtain ⟨u', v', d2, eu', ev', ed', ok', _⟩ := h.get hj
  rw [e1] at ed
  rw [e2] at ed'
  cases ed
  cases ed'
  have ris := Ch.rising zs h.cr.1
  have := List.pairwise_iff_getElem.mp ris i (j + 1) (by lia) (by lia) (by lia)
  have a1 := (List.getElem?_eq_some_iff.mp eu).2
  have a2 := (List.getElem?_eq_some_iff.mp ev').2
  have b1 := ok.x
  have b2 := ok'.nx
  unfold Sd.ex
  lia
theorem PapOk.pos {n m a b : Int} {zs : List Int} {ds : List Sd} (h : PapOk n m a b zs ds) (n0 : n ≠ 0) : 0 < ds.length := by
  have ln := h.sd.ln
  obtain ⟨_, k0, kl, _⟩ := h.cr
  refine Classical.byContradiction fun z => ?_
  have : zs.length = 1 := by lia
  match zs, this with
  | [x], _ =>
    cases k0
    cases kl
    exact n0 rfl
theorem PapOk.sm {n m a b : Int} {zs : List Int} {ds : List Sd} (h : PapOk n m a b zs ds) (L : SmL n m a b) (n1 : n ≤ 130) : ∀ d ∈ ds, Sm d ∧ 1 ≤ d.e := fun d hd => by
  obtain ⟨i, hi, e⟩ := List.getElem_of_mem hd
  obtain ⟨u, v, d1, eu, ev, ed, ok, u0, vn, uv, _⟩ := h.get hi
  rw [List.getElem?_eq_getElem hi, e] at ed
  cases ed
  exact ⟨ok.sm L n1 u0 vn uv, ok.e1⟩
theorem SmL.lok {n m a b : Int} (L : SmL n m a b) : LnOk n m a b := by
  obtain ⟨n0, n1, b0, b1, m0, m1, a0, a1⟩ := L
  exact ⟨n0, by lia, by lia, by lia, by lia, by lia, b0, by lia⟩
structure JSo (H2 G : Hp) (p c t6 lr sO : Addr) (N m a b : Int) (ds : List Sd) (n : Nat) (ts : List V) : Prop where
  so : HH G p c sO = some (.lst ts)
  ln : ts.length ≤ n
  tg : ∀ x ∈ ts, Tg' (HH G p c) x
  fl : HH G p c t6 = some (.tup (lnv N m a b))
  al : ALg sdv (HH G p c) lr ds
  pa : PoolAt G p c
  X : SameN [p, c] H2 G
def JS (a p c t6 lr : Addr) (N m a' b : Int) (ds : List Sd) (H2 : Hp) (y9 y10 y11 y12 : Option V) (n : Nat) : L2.St → Hp → Prop := fun σ G => ∃ sO ts, σ = [some (.ref a), some (.ref p), some (.ref t6), some (.int N), some (.int m), some (.int a'), some (.int b), some (.ref lr), some (.ref sO), y9, y10, y11, y12] ∧ JSo H2 G p c t6 lr sO N m a' b ds n ts
theorem ok_law {f : Addr} {fd : FuncData} (F : Fun K "law" "law" s_law f fd) (T : Txt K mg) (H__law_pools : Has P w K mg base 1 "_law_pools" ["_law_script", "_law_many"] (spPools K)) (H__law_line : Has P w K mg base 3 "_law_line" ["_law_pool"] spLn1) (H__law_own : Has P w K mg base 3 "_law_own" ["_law_line_here"] spOwn) (H_paper : Has P w K mg base 5 "paper" ["n", "m", "a", "b"] spPaper) (H__law_take : Has P w K mg base 2 "_law_take" ["_law_pool", "_law_most"] spTk) (H__law_longer : Has P w K mg base 1 "_law_longer" ["_law_line_here", "_law_rows_here"] spLonger) (H__law_paper : Has P w K mg base 3 "_law_paper" ["_law_line_here", "_law_thing"] spPpD) (H_is_paper : Has P w K mg base 5 "is_paper" ["n", "m", "a", "b", "thing"] spIsPapG) (H__law_odd : Has P w K mg base 2 "_law_odd" ["_law_rows_here", "_law_at"] spOdd) (H__law_asked : Has P w K mg base 6 "_law_asked" ["_law_line_here", "_law_thing"] spAskD) (H__law_forged : Has P w K mg base 4 "_law_forged" ["_law_rows_here", "_law_at"] spForged) : FnOk P w K mg base CX0 7 f fd ["_law_script"] (spLaw K) := by
  refine F.ok sc_law (fun vs H Q E h => ?_) (fun cdv A outer s H vs Q E hr h => ?_)
  · obtain ⟨a, ns, rfl, _⟩ := h
    rfl
  obtain ⟨a, ns, rfl, hS, hlen, q⟩ := h
  refine ⟨_, (pss_cons (ps_for PassesOwn.never rfl (pi_list (pe_fn H__law_pools (hr.mono (by lia)) rfl (pa_consN (pv 0) (pa_consN pe_int pa_nil)))) (pg_name (i := 1) sc_law.nd rfl (Or.inl rfl))
      (pss_cons (ps_set (i := 2) sc_law.nd rfl (Or.inl rfl) (pe_fn H__law_line (hr.mono (by lia)) rfl (pa_consN (pv 1) pa_nil)))
      (pss_cons (ps_set (i := 2) sc_law.nd rfl (Or.inl rfl) (pe_op op_catA (pe_tup (pa_consN (pe_op op_mod (pe_ix ix_tup (pv 2) pe_int (fun _ _ => rfl)) pe_int) pa_nil)) (pe_slice sl_tup (pv 2) (po_some pe_int) po_none)))
      (pss_cons (ps_asg (pv 2) (pg_tup rfl (pgs_cons (pg_name (i := 3) sc_law.nd rfl (Or.inl rfl)) (pgs_cons (pg_name (i := 4) sc_law.nd rfl (Or.inl rfl)) (pgs_cons (pg_name (i := 5) sc_law.nd rfl (Or.inl rfl)) (pgs_cons (pg_name (i := 6) sc_law.nd rfl (Or.inl rfl)) pgs_nil))))))
      (pss_cons (ps_set (i := 7) sc_law.nd rfl (Or.inl rfl) (pe_fn H__law_own (hr.mono (by lia)) rfl (pa_consN (pv 2) pa_nil)))
      (pss_cons (ps_if (PW.pt (pw_or (pt_not (pt_val (pe_fn H__law_paper (hr.mono (by lia)) rfl (pa_consN (pv 2) (pa_consN (pv 7) pa_nil))))) (pw_or1 (pt_cmpR op_notB (pe_fn H_is_paper (hr.mono (by lia)) rfl (pa_consN (pv 3) (pa_consN (pv 4) (pa_consN (pv 5) (pa_consN (pv 6) (pa_consN (pv 7) pa_nil)))))) pe_bl (nomark _)))))
        (pss_one (ps_ret pe_bl))
        pss_nil)
      (pss_consT (ps_if (pt_cmpR (op_neLD (d := 1) (hu2 hr)) (pe_fn H_paper (hr.mono (by lia)) rfl (pa_consN (pv 3) (pa_consN (pv 4) (pa_consN (pv 5) (pa_consN (pv 6) pa_nil))))) (pv 7) (nomark _))
        (pss_one (ps_ret pe_bl))
        pss_nil)
      (pss_joinSS (ps_setS (i := 8) sc_law.nd rfl (Or.inl rfl) (pe_lstS (pa_consSS (pe_lstS pa_nilS) (pa_consSS (pe_lstS (pa_consSS (pe_tupS (pa_consS pe_int (pa_consS (pe_op op_fdivB (pv 5) (pv 6)) (pa_consS pe_int (pa_consS pe_int (pa_consS pe_int (pa_consS pe_int (pa_consS pe_int pa_nilS)))))))) pa_nilS)) (pa_consSS (pe_lstS (pa_consSS (pe_tupS (pa_consS pe_int (pa_consS pe_int (pa_consS pe_int (pa_consS pe_int (pa_consS pe_int (pa_consS pe_int (pa_consS pe_int pa_nilS)))))))) pa_nilS)) (pa_consS pe_non (pa_consSS (pe_tupS pa_nilS) (pa_consS pe_dnewK (pa_consS pe_str (pa_consS pe_int (pa_consS pe_bl (pa_consS pe_bl (pa_consSS (pe_lstS (pa_consS pe_non pa_nilS)) pa_nilS)))))))))))))
      (pss_joinT (ps_setS (i := 8) sc_law.nd rfl (Or.inl rfl) (pe_opS op_addL (pv 8) (pe_lstS (pa_consSS (pe_lstS (pa_consSS (pe_lstS pa_nilS) pa_nilS)) (pa_consSS (pe_lstS (pa_consSS (pe_tupS pa_nilS) pa_nilS)) (pa_consSS (pe_tupS (pa_consSS (pe_tupS pa_nilS) pa_nilS)) (pa_consS pe_str (pa_consS (pe_disp1I pe_int (pe_lst pa_nil)) (pa_consSS (pe_lstS (pa_consS pe_str pa_nilS)) (pa_consSS (pe_lstS (pa_consS pe_int pa_nilS)) pa_nilS))))))))))
      (pss_join (ps_if (pt_cmpR op_gt (pv 3) pe_int (nomark _))
        (pss_cons (ps_set (i := 9) sc_law.nd rfl (Or.inl rfl) (pe_fn H__law_take (hr.mono (by lia)) rfl (pa_consN (pv 1) (pa_consN (pe_callB call_len_seq rfl T.n_len boot_len (pa_consN (pv 7) pa_nil)) pa_nil))))
        (pss_cons (ps_set (i := 8) sc_law.nd rfl (Or.inl rfl) (pe_op op_addL (pe_op op_addL (pv 8) (pe_fn H__law_forged (hr.mono (by lia)) rfl (pa_consN (pv 7) (pa_consN (pv 9) pa_nil)))) (pe_fn H__law_odd (hr.mono (by lia)) rfl (pa_consN (pv 7) (pa_consN (pv 9) pa_nil)))))
        (pss_cons (ps_asg (pe_fn H__law_longer (hr.mono (by lia)) rfl (pa_consN (pv 2) (pa_consN (pv 7) pa_nil))) (pg_tup rfl (pgs_cons (pg_name (i := 10) sc_law.nd rfl (Or.inl rfl)) (pgs_cons (pg_name (i := 11) sc_law.nd rfl (Or.inl rfl)) pgs_nil))))
        (pss_one (ps_if (pt_not (pt_val (pe_fn H__law_asked (hr.mono (by lia)) rfl (pa_consN (pv 10) (pa_consN (pv 11) pa_nil)))))
          (pss_one (ps_ret pe_bl))
          pss_nil)))))
        pss_nil)
      (pss_cons (ps_for PassesOwn.never rfl (pi_list (pv 8)) (pg_name (i := 12) sc_law.nd rfl (Or.inl rfl))
        (pss_one (ps_if (pt_not (pt_val (pe_fn H__law_asked (hr.mono (by lia)) rfl (pa_consN (pv 2) (pa_consN (pv 12) pa_nil)))))
          (pss_one (ps_ret pe_bl))
          pss_nil)))
      (pss_cons (ps_for PassesOwn.never rfl (pi_list (slO (pe_lstS (pa_consSS (pe_tupS (pa_consS (pe_op op_add (pv 3) pe_int) (pa_consS (pv 4) (pa_consS (pv 5) (pa_consS (pv 6) pa_nilS))))) (pa_consSS (pe_tupS (pa_consS (pv 3) (pa_consS (pe_op op_add (pv 4) pe_int) (pa_consS (pv 5) (pa_consS (pv 6) pa_nilS))))) (pa_consSS (pe_tupS (pa_consS (pv 3) (pa_consS (pv 4) (pa_consS (pe_op op_add (pv 5) pe_int) (pa_consS (pv 6) pa_nilS))))) (pa_consSS (pe_tupS (pa_consS (pv 3) (pa_consS (pv 4) (pa_consS (pv 5) (pa_consS (pe_op op_add (pv 6) pe_int) pa_nilS))))) (pa_consSS (pe_tupS (pa_consS (pv 3) (pa_consS (pv 4) (pa_consS (pe_op op_add (pv 5) (pv 6)) (pa_consS (pv 6) pa_nilS))))) pa_nilS)))))))) (pg_name (i := 10) sc_law.nd rfl (Or.inl rfl))
        (pss_one (ps_if (pt_not (pt_val (pe_fn H__law_asked (hr.mono (by lia)) rfl (pa_consN (pv 10) (pa_consN (pv 7) pa_nil)))))
          (pss_one (ps_ret pe_bl))
          pss_nil)))
      (pss_one (ps_if (PW.pt (pw_or (pt_cmpR op_notB (pe_fn H_is_paper (hr.mono (by lia)) rfl (pa_consN (pv 3) (pa_consN (pv 4) (pa_consN (pv 5) (pa_consN (pv 6) (pa_consN (pv 7) pa_nil)))))) pe_bl (nomark _)) (pw_or1 (pt_cmpR (op_neLD (d := 1) (hu2 hr)) (pv 7) (pe_fn H__law_own (hr.mono (by lia)) rfl (pa_consN (pv 2) pa_nil)) (nomark _)))))
        (pss_one (ps_ret pe_bl))
        pss_nil))))))))))))))
    (pss_one (ps_ret pe_bl))), ?_⟩
  have L1000 : (1000 : Nat) ≤ sizeLine := by decide
  refine ⟨_, rfl, a, ns, rfl, hS, hlen, fun pl pcs H1 pl0 po s1 => ?_⟩
  refine ⟨pl, rfl, ⟨_, SqL.of po.li⟩, for_list (xs := pcs.map fun x => V.ref x.1) (fun j σ H2 => ∃ (y1 y2 y3 y4 y5 y6 y7 y8 y9 y10 y11 y12 : Option V), σ = [some (.ref a), y1, y2, y3, y4, y5, y6, y7, y8, y9, y10, y11, y12] ∧ (∀ (i : Nat) x, j ≤ i → pcs[i]? = some x → PoolAt H2 x.1 x.2) ∧ H2 pl = some (.lst (pcs.map fun x => V.ref x.1))) ⟨_, _, _, _, _, _, _, _, _, _, _, _, rfl, (fun i x _ e => po.at' x (List.mem_of_getElem? e)), po.li⟩ ?_ ?_ ?_⟩
  · rintro j σ H2 hj ⟨y1, y2, y3, y4, y5, y6, y7, y8, y9, y10, y11, y12, rfl, pr, hl⟩
    exact SqL.of hl
  rotate_left
  · rintro σ H2 ⟨y1, y2, y3, y4, y5, y6, y7, y8, y9, y10, y11, y12, rfl, pr, hl⟩
    exact q H2
  rintro j v σ H2 hj ⟨y1, y2, y3, y4, y5, y6, y7, y8, y9, y10, y11, y12, rfl, pr, hl⟩
  rw [List.getElem?_map] at hj
  cases e1 : pcs[j]? with
  | none => rw [e1] at hj; cases hj
  | some pc =>
  rw [e1] at hj
  cases hj
  have pa := pr j pc (Nat.le_refl _) e1
  have fin : ∀ {HZ : Hp}, SameN [pc.1, pc.2] H2 HZ → (∀ (i : Nat) x, j + 1 ≤ i → pcs[i]? = some x → PoolAt HZ x.1 x.2) ∧ HZ pl = some (.lst (pcs.map fun x => V.ref x.1)) := fun {HZ} xZ => by
    refine ⟨fun i x hi ex => ?_, xZ _ _ (pa.notin hl fun v hv => (by obtain ⟨x, _, e⟩ := List.mem_map.mp hv; exact ⟨_, e.symm⟩)) hl⟩
    have px := pr i x (by lia) ex
    have dd := po.ds j i pc x (by lia) e1 ex
    exact px.sameN xZ (by
      intro z
      rcases List.mem_cons.mp z with z | z
      · exact dd.1 z.symm
      · exact px.cross pa (List.mem_singleton.mp z)) (by
      intro z
      rcases List.mem_cons.mp z with z | z
      · exact pa.cross px z.symm
      · exact dd.2 (List.mem_singleton.mp z).symm)
  obtain ⟨p, c⟩ := pc
  replace pa : PoolAt H2 p c := pa
  refine ⟨_, rfl, p, c, rfl, pa, fun r n m a' b H3 r0 hr3 n0 n1 b0 b1 m0 m1 a0 a1 pa3 x3 => ?_⟩
  have N0 := Int.emod_nonneg n (show (61 : Int) ≠ 0 by decide)
  have N1 := Int.emod_lt_of_pos n (show (0 : Int) < 61 by decide)
  refine ⟨_, rfl, r, _, _, _, rfl, rfl, SqT.of hr3, rfl, _, _, rfl, rfl, (show (0 : Int) < 61 by decide), (by show 1 ≤ sizeLine; decide), fun t4 h4 => ?_⟩
  generalize w4 : upd _ t4 _ = G4
  obtain ⟨s4, f4⟩ := genO w4 h4
  refine ⟨_, rfl, _, rfl, tp_cutN [.int m, .int a', .int b] (s4 _ _ hr3) (by show ¬ (min 1 4 = 0 ∧ 4 = 4); decide) rfl fun t5 G5 s5 f5 => ?_⟩
  refine tp_cat (lnv (n % 61) m a' b) (s5 _ _ f4) f5 rfl (by show 4 ≤ 10; decide) fun t6 G6 s6 f6 => ?_
  generalize n % 61 = N at N0 N1 f4 f6 ⊢
  have SL : SmL N m a' b := ⟨N0, by lia, b0, b1, m0, m1, a0, a1⟩
  have L := SL.lok
  have z6 := (s4.trans s5).trans s6
  have X6 : SameN [p, c] H2 G6 := x3.trans (SameN.of z6)
  have pa6 := pa3.same z6
  refine ⟨_, rfl, t6, _, rfl, SqT.of f6, rfl, _, _, rfl, _, _, rfl, _, _, rfl, _, _, rfl, rfl, ?_⟩
  refine ⟨_, rfl, t6, N, m, a', b, rfl, f6, SL, by lia, fun lr zs ds G7 lr0 al7 pk s7 => ?_⟩
  have sms := pk.sm SL (by lia)
  have DB : ∀ d ∈ ds, SdB d := fun d hd => (sms d hd).1.b
  have dl : ds.length ≤ 139 := by
    have := pk.sd.ln
    have := pk.cr.2.2.2
    lia
  have tt := papB_true (by lia) pk N0
  have lgb := log_small (m := b) (by lia) (by lia)
  have ptA : ∀ {G : Hp}, ALg sdv G lr ds → Pth G (.ref lr) (some ds) := fun al => .rows al DB (by lia)
  refine ⟨_, rfl, _, rfl, t6, .ref lr, some ds, N, m, a', b, rfl, ⟨s7 _ _ f6, L⟩, ptA al7, fun G8 s8 => ?_⟩
  have al8 := al7.same s8
  rw [show papO N m a' b (some ds) = true from tt]
  refine ⟨_, rfl, iteF ?_⟩
  refine ⟨_, rfl, _, rfl, _, rfl, _, rfl, _, rfl, N, m, a', b, .ref lr, some ds, rfl, L, ptA al8, fun G9 s9 => ?_⟩
  rw [show papO N m a' b (some ds) = true from tt]
  refine ⟨true, true, rfl, rfl, _, rfl, iteF ?_⟩
  refine ⟨_, rfl, _, rfl, _, rfl, _, rfl, N, m, a', b, rfl, L, (by lia), fun lq zs' ds' G10 lq0 al10 cr' sd' s10 => ?_⟩
  obtain ⟨rfl, rfl⟩ := PapOk.uniq ⟨cr', sd'⟩ pk
  have z10 := (s8.trans s9).trans s10
  obtain ⟨as, bs, q1, q2, q3, q4⟩ := eqSd (K := K) al10 (al7.same z10)
  refine ⟨_, rfl, lq, lr, as, bs, fun _ => true, rfl, rfl, q1, q2, q3, q4, _, rfl, ?_⟩
  rw [all_tt]
  refine iteF ?_
  have pa10 := pa6.same (s7.trans z10)
  have fl10 := pa10.tup ((s7.trans z10) _ _ f6)
  have al10' := (al7.same z10).hh pa10
  have X10 : SameN [p, c] H2 G10 := X6.trans (SameN.of (s7.trans z10))
  refine ⟨JS a p c t6 lr N m a' b ds' H2 y9 y10 y11 y12 11, ?_, ?_⟩
  rotate_left
  rintro _ G10 ⟨sA, TA, rfl, fA, nA, tA, fl10, al10', pa10, X10⟩
  refine ⟨JS a p c t6 lr N m a' b ds' H2 y9 y10 y11 y12 18, ?_, ?_⟩
  rotate_left
  rintro _ GS ⟨sC, TS, rfl, f_sC, lTS, tS, flS, alS, paS, XS⟩
  refine ⟨fun σ G => ∃ (y9 y10 y11 : Option V) (sO : Addr) (ts : List V), σ = [some (.ref a), some (.ref p), some (.ref t6), some (.int N), some (.int m), some (.int a'), some (.int b), some (.ref lr), some (.ref sO), y9, y10, y11, y12] ∧ G sO = some (.lst ts) ∧ ts.length ≤ 130 ∧ (∀ x ∈ ts, Tg' G x) ∧ G t6 = some (.tup (lnv N m a' b)) ∧ ALg sdv G lr ds' ∧ SameN [p, c] H2 G, ?_, ?_⟩
  · refine ⟨_, rfl, _, _, rfl, rfl, _, rfl, ?_⟩
    by_cases c0 : 0 < N
    rotate_left
    · exact iteDN c0 ⟨_, _, _, sC, TS, rfl, hh_of (fun z => nomatch z) f_sC, by lia, fun x hx => (tS x hx).unhh, hh_of (fun z => nomatch z) flS, alS.unhh, XS⟩
    refine iteD c0 ?_
    have dp := pk.pos (by lia)
    obtain ⟨ps, hps, pls⟩ := id alS
    have pn := pls.1
    have um : (ps.map V.ref).length = ds'.length := by rw [List.length_map, pn]
    refine ⟨_, rfl, _, rfl, lr, _, rfl, .inl (SqL.of (hh_of (fun z => nomatch z) hps)), p, c, _, rfl, paS, (by lia), (by lia), fun at' GT at0 at1 paT xT => ?_⟩
    have hT := hh_sameN xT
    obtain ⟨k, rfl⟩ : ∃ k : Nat, at' = (k : Int) := ⟨at'.toNat, by lia⟩
    have XT := XS.trans xT
    have alT := (alS.same hT).unhh
    have hlT : GT lr = some (.lst (ps.map V.ref)) := hh_of (fun z => nomatch z) (hT _ _ hps)
    have plT : PLg (TRg sdv) GT ps ds' := ⟨pn, fun i q d e1 e2 => hh_of (fun z => nomatch z) (hT _ _ (pls.2 i q d e1 e2))⟩
    have fsT : GT sC = some (.lst TS) := hh_of (fun z => nomatch z) (hT _ _ f_sC)
    have flT : GT t6 = some (.tup (lnv N m a' b)) := hh_of (fun z => nomatch z) (hT _ _ flS)
    have tT : ∀ x ∈ TS, Tg' GT x := fun x hx => ((tS x hx).same hT).unhh
    have rwT : ∀ x ∈ ps.map V.ref, ∃ (p : Addr) (d : Sd), x = .ref p ∧ GT p = some (.tup (sdv d)) ∧ Sm d := fun x hx => by
      obtain ⟨p, hp, rfl⟩ := List.mem_map.mp hx
      obtain ⟨i, hi, e⟩ := List.getElem_of_mem hp
      obtain ⟨d, ed, hd⟩ := plT.get' (i := i) (by rw [List.getElem?_eq_getElem hi, e])
      exact ⟨p, d, rfl, hd, (sms d (List.mem_of_getElem? ed)).1⟩
    have getT : ∀ {i : Nat} {p : Addr} {d : Sd}, (ps.map V.ref)[i]? = some (.ref p) → GT p = some (.tup (sdv d)) → ds'[i]? = some d := fun {i p d} e h => by
      rw [List.getElem?_map] at e
      cases e2 : ps[i]? with
      | none => rw [e2] at e; cases e
      | some p2 =>
        rw [e2] at e
        cases e
        obtain ⟨d2, ed, hd⟩ := plT.get' e2
        unfold TRg at hd
        rw [hd] at h
        injection h with h
        injection h with h
        rw [← sdv_inj h]; exact ed
    refine ⟨_, rfl, _, rfl, _, rfl, lr, ps.map V.ref, k, rfl, hlT, (by lia), (by lia), rwT, (fun i j p q d d' ij e1 e2 h1 h2 => pk.lt ij (getT e1 h1) (getT e2 h2)), fun pF tF GF hF sF fF tgF nF => ?_⟩
    refine ⟨sC, pF, TS, tF, rfl, rfl, SqL.of (sF _ _ fsT), SqL.of fF, (by lia), fun sD hD => ?_⟩
    generalize wD : upd _ sD _ = GD
    obtain ⟨zD, fD⟩ := genO wD hD
    have sFD := sF.trans zD
    refine ⟨_, rfl, _, rfl, lr, ps.map V.ref, k, rfl, sFD _ _ hlT, (by lia), (by lia), (fun x hx => let ⟨p, d, e, h, b⟩ := rwT x hx; ⟨p, d, e, sFD _ _ h, b⟩), fun pO tO GO hO sO fO tgO nO => ?_⟩
    refine ⟨sD, pO, _, tO, rfl, rfl, SqL.of (sO _ _ fD), SqL.of fO, (by rw [List.length_append]; lia), fun sE hE => ?_⟩
    generalize wE : upd _ sE _ = GE
    obtain ⟨zE, fE⟩ := genO wE hE
    have sTE := (sFD.trans sO).trans zE
    have tE : ∀ x ∈ TS ++ tF ++ tO, Tg' GE x := tg_mem (tg_mem (fun x hx => (tT x hx).same sTE) fun x hx => ((tgF x hx).unhid).same ((zD.trans sO).trans zE)) fun x hx => ((tgO x hx).unhid).same zE
    obtain ⟨pL, dL, eL, hpL, smL⟩ := rwT _ (List.getElem_mem (show (ps.map V.ref).length - 1 < (ps.map V.ref).length by lia))
    have uL : (ps.map V.ref)[(ps.map V.ref).length - 1]? = some (.ref pL) := by rw [← eL]; exact List.getElem?_eq_getElem _
    have eL1 := (sms dL (List.mem_of_getElem? (getT uL hpL))).2
    refine ⟨_, rfl, _, rfl, t6, lr, pL, N, m, a', b, ps.map V.ref, dL, rfl, sTE _ _ flT, sTE _ _ hlT, (by lia), (by lia), (fun x hx => let ⟨p, d, e, h, b⟩ := rwT x hx; ⟨p, d, e, sTE _ _ h, b.b⟩), uL, sTE _ _ hpL, smL, fun tL rL lL GL sL fL frL rlL => ?_⟩
    refine ⟨tL, _, rfl, SqT.of fL, rfl, _, _, rfl, _, _, rfl, rfl, ?_⟩
    obtain ⟨oL, pthL⟩ := rlL.tg (by decide)
    have ⟨_, _, _, _, _, _, _, e9, _, _, _, _, _, _⟩ := smL
    refine ⟨_, rfl, _, rfl, rL, .ref lL, oL, N + dL.e, m, a', b, rfl, ⟨frL, ⟨by lia, by lia, by lia, by lia, by lia, by lia, b0, by lia⟩⟩, pthL, fun GM sM => ⟨_, rfl, iteF ?_⟩⟩
    have sEM := sL.trans sM
    have sTM := sTE.trans sEM
    exact ⟨_, _, _, sE, _, rfl, sEM _ _ fE, (by rw [List.length_append, List.length_append]; lia), fun x hx => (tE x hx).same sEM, sTM _ _ flT, alT.same sTM, XT.trans (SameN.of sTM)⟩
  rintro σ GJ ⟨y9, y10, y11, sO, ts, rfl, hsO, nts, tgs, ftJ, alJ, XJ⟩
  refine ⟨_, rfl, sO, rfl, ⟨_, SqL.of hsO⟩, for_list (xs := ts) (fun i σ G => ∃ (y12 : Option V), σ = [some (.ref a), some (.ref p), some (.ref t6), some (.int N), some (.int m), some (.int a'), some (.int b), some (.ref lr), some (.ref sO), y9, y10, y11, y12] ∧ Same GJ G) ⟨_, rfl, Same.refl _⟩ ?_ ?_ ?_⟩
  · rintro i σ G _ ⟨y12, rfl, sG⟩
    exact SqL.of (sG _ _ hsO)
  · rintro i v σ G hv ⟨y12, rfl, sG⟩
    obtain ⟨o, pth⟩ := (tgs v (List.mem_of_getElem? hv)).same sG
    exact ⟨_, rfl, _, rfl, t6, v, o, N, m, a', b, rfl, ⟨sG _ _ ftJ, L⟩, pth, fun GM sM => ⟨_, rfl, iteF ⟨_, rfl, sG.trans sM⟩⟩⟩
  rintro σ GK ⟨y12, rfl, sK⟩
  refine ⟨_, rfl, _, _, rfl, rfl, _, rfl, _, rfl, _, rfl, (by show 4 ≤ sizeLine; decide), fun v0 hv0 => ?_⟩
  generalize wv0 : upd _ v0 _ = K0
  obtain ⟨sv0, fv0⟩ := genO wv0 hv0
  refine ⟨_, rfl, _, rfl, _, _, rfl, rfl, _, rfl, _, rfl, (by show 4 ≤ sizeLine; decide), fun v1 hv1 => ?_⟩
  generalize wv1 : upd _ v1 _ = K1
  obtain ⟨sv1, fv1⟩ := genO wv1 hv1
  refine ⟨_, rfl, _, rfl, _, rfl, _, _, rfl, rfl, _, rfl, (by show 4 ≤ sizeLine; decide), fun v2 hv2 => ?_⟩
  generalize wv2 : upd _ v2 _ = K2
  obtain ⟨sv2, fv2⟩ := genO wv2 hv2
  refine ⟨_, rfl, _, rfl, _, rfl, _, rfl, _, _, rfl, rfl, (by show 4 ≤ sizeLine; decide), fun v3 hv3 => ?_⟩
  generalize wv3 : upd _ v3 _ = K3
  obtain ⟨sv3, fv3⟩ := genO wv3 hv3
  refine ⟨_, rfl, _, rfl, _, rfl, _, rfl, _, _, rfl, rfl, _, rfl, (by show 4 ≤ sizeLine; decide), fun v4 hv4 => ?_⟩
  generalize wv4 : upd _ v4 _ = K4
  obtain ⟨sv4, fv4⟩ := genO wv4 hv4
  refine ⟨(by show 5 ≤ sizeLine; decide), fun lo hlo => ?_⟩
  generalize wv5 : upd _ lo _ = K5
  obtain ⟨sv5, fv5⟩ := genO wv5 hlo
  have hU : ∀ x ∈ ([.ref v0, .ref v1, .ref v2, .ref v3, .ref v4] : List V), ∃ (r : Addr) (n' m' a'' b' : Int), x = .ref r ∧ K5 r = some (.tup (lnv n' m' a'' b')) ∧ LnOk n' m' a'' b' := fun x hx => by
    simp only [List.mem_cons, List.not_mem_nil, or_false] at hx
    rcases hx with rfl | rfl | rfl | rfl | rfl
    · exact ⟨v0, N + 1, m, a', b, rfl, ((((sv1.trans sv2).trans sv3).trans sv4).trans sv5) _ _ fv0, ⟨by lia, by lia, by lia, by lia, by lia, by lia, by lia, by lia⟩⟩
    · exact ⟨v1, N, m + 1, a', b, rfl, (((sv2.trans sv3).trans sv4).trans sv5) _ _ fv1, ⟨by lia, by lia, by lia, by lia, by lia, by lia, by lia, by lia⟩⟩
    · exact ⟨v2, N, m, a' + 1, b, rfl, ((sv3.trans sv4).trans sv5) _ _ fv2, ⟨by lia, by lia, by lia, by lia, by lia, by lia, by lia, by lia⟩⟩
    · exact ⟨v3, N, m, a', b + 1, rfl, (sv4.trans sv5) _ _ fv3, ⟨by lia, by lia, by lia, by lia, by lia, by lia, by lia, by lia⟩⟩
    · exact ⟨v4, N, m, a' + b, b, rfl, sv5 _ _ fv4, ⟨by lia, by lia, by lia, by lia, by lia, by lia, by lia, by lia⟩⟩
  have sJ5 := sK.trans (sv0.trans ((((sv1.trans sv2).trans sv3).trans sv4).trans sv5))
  refine ⟨lo, rfl, ⟨_, SqL.of fv5⟩, for_list (xs := [.ref v0, .ref v1, .ref v2, .ref v3, .ref v4]) (fun i σ G => ∃ (y10 : Option V), σ = [some (.ref a), some (.ref p), some (.ref t6), some (.int N), some (.int m), some (.int a'), some (.int b), some (.ref lr), some (.ref sO), y9, y10, y11, y12] ∧ Same K5 G) ⟨_, rfl, Same.refl _⟩ ?_ ?_ ?_⟩
  · rintro i σ G _ ⟨y10, rfl, sG⟩
    exact SqL.of (sG _ _ fv5)
  · rintro i v σ G hv ⟨y10, rfl, sG⟩
    obtain ⟨r', n', m', a'', b', rfl, hr', L'⟩ := hU v (List.mem_of_getElem? hv)
    exact ⟨_, rfl, _, rfl, r', .ref lr, some ds', n', m', a'', b', rfl, ⟨sG _ _ hr', L'⟩, ptA (alJ.same (sJ5.trans sG)), fun GM sM => ⟨_, rfl, iteF ⟨_, rfl, sG.trans sM⟩⟩⟩
  rintro σ GL ⟨y10, rfl, sL⟩
  have sJL := sJ5.trans sL
  refine ⟨_, rfl, _, rfl, _, rfl, _, rfl, _, rfl, N, m, a', b, .ref lr, some ds', rfl, L, ptA (alJ.same sJL), fun GN sN => ?_⟩
  rw [show papO N m a' b (some ds') = true from tt]
  refine ⟨true, true, rfl, rfl, _, rfl, iteF ?_⟩
  have sJN := sJL.trans sN
  refine ⟨_, rfl, _, rfl, t6, N, m, a', b, rfl, sJN _ _ ftJ, SL, by lia, fun lz zz dz GP lz0 alz pkz sP => ?_⟩
  obtain ⟨rfl, rfl⟩ := PapOk.uniq pkz pk
  obtain ⟨as', bs', q1', q2', q3', q4'⟩ := eqSd (K := K) (alJ.same (sJN.trans sP)) alz
  refine ⟨lr, lz, as', bs', fun _ => true, rfl, rfl, q1', q2', q3', q4', _, rfl, ?_⟩
  rw [all_tt]
  refine iteF ?_
  have fz := fin (XJ.trans (SameN.of (sJN.trans sP)))
  exact ⟨_, _, _, _, _, _, _, _, _, _, _, _, rfl, fz.1, fz.2⟩
  refine ⟨(by show 0 ≤ sizeLine; decide), fun a1 h_a1 => ?_⟩
  generalize w11 : upd _ a1 _ = G11
  obtain ⟨s11, f_a1, pa11⟩ := genP w11 pa10 h_a1
  refine ⟨_, rfl, _, rfl, _, _, rfl, rfl, ⟨by lia, lgb⟩, (by show 7 ≤ sizeLine; decide), fun t2 h_t2 => ?_⟩
  generalize w12 : upd _ t2 _ = G12
  obtain ⟨s12, f_t2, pa12⟩ := genP w12 pa11 h_t2
  refine ⟨(by show 1 ≤ sizeLine; decide), fun a2 h_a2 => ?_⟩
  generalize w13 : upd _ a2 _ = G13
  obtain ⟨s13, f_a2, pa13⟩ := genP w13 pa12 h_a2
  refine ⟨(by show 7 ≤ sizeLine; decide), fun t3 h_t3 => ?_⟩
  generalize w14 : upd _ t3 _ = G14
  obtain ⟨s14, f_t3, pa14⟩ := genP w14 pa13 h_t3
  refine ⟨(by show 1 ≤ sizeLine; decide), fun a3 h_a3 => ?_⟩
  generalize w15 : upd _ a3 _ = G15
  obtain ⟨s15, f_a3, pa15⟩ := genP w15 pa14 h_a3
  refine ⟨(by show 0 ≤ sizeLine; decide), fun u5 h_u5 => ?_⟩
  generalize w16 : upd _ u5 _ = G16
  obtain ⟨s16, f_u5, pa16⟩ := genP w16 pa15 h_u5
  refine fun d6 h_d6 => ?_
  generalize w17 : upd _ d6 _ = G17
  obtain ⟨s17, f_d6, pa17⟩ := genP w17 pa16 h_d6
  refine ⟨(by show 1 ≤ sizeLine; decide), fun a11 h_a11 => ?_⟩
  generalize w18 : upd _ a11 _ = G18
  obtain ⟨s18, f_a11, pa18⟩ := genP w18 pa17 h_a11
  refine ⟨(by show 11 ≤ sizeLine; decide), fun sA h_sA => ?_⟩
  generalize w19 : upd _ sA _ = G19
  obtain ⟨s19, f_sA, pa19⟩ := genP w19 pa18 h_sA
  have hab : Bs (a' / b) := by
    have := SL.h (x := 0) (by lia) (by lia)
    unfold hgt at this
    rw [Int.mul_zero, Int.zero_add] at this
    unfold Bs; lia
  have e18 := s19
  have e17 := s18.trans e18
  have e16 := s17.trans e17
  have e15 := s16.trans e16
  have e14 := s15.trans e15
  have e13 := s14.trans e14
  have e12 := s13.trans e13
  have e11 := s12.trans e12
  have e10 := s11.trans e11
  exact ⟨sA, _, rfl, f_sA, Nat.le_refl _, tg_cons (tg_any ((hh_same e11) _ _ f_a1) (by show 0 ≤ 500; decide) fun x hx => (by cases hx)) <| tg_cons (tg_any ((hh_same e13) _ _ f_a2) (by show 1 ≤ 500; decide) fun x hx => (by rw [List.mem_singleton.mp hx]; exact .inl (row7 ((hh_same e12) _ _ f_t2) B0 hab B1 B1 B0 B0 B1))) <| tg_cons (tg_any ((hh_same e15) _ _ f_a3) (by show 1 ≤ 500; decide) fun x hx => (by rw [List.mem_singleton.mp hx]; exact .inl (row7 ((hh_same e14) _ _ f_t3) B0 B0 B0 B0 B0 B0 B0))) <| tg_cons ⟨_, .non⟩ <| tg_cons ⟨_, .tup ((hh_same e16) _ _ f_u5)⟩ <| tg_cons ⟨_, .dct ((hh_same e17) _ _ f_d6)⟩ <| tg_cons ⟨_, .str _⟩ <| tg_cons ⟨_, .int 0⟩ <| tg_cons ⟨_, .bl false⟩ <| tg_cons ⟨_, .bl true⟩ <| tg_cons (tg_el ((hh_same e18) _ _ f_a11) .non) <| tg_nil, (hh_same e10) _ _ fl10, al10'.same (hh_same e10), pa19, X10.trans (SameN.of e10)⟩
  refine ⟨_, rfl, ?_⟩
  refine ⟨(by show 0 ≤ sizeLine; decide), fun b1 h_b1 => ?_⟩
  generalize w11 : upd _ b1 _ = G11
  obtain ⟨s11, f_b1, pa11⟩ := genP w11 pa10 h_b1
  refine ⟨(by show 1 ≤ sizeLine; decide), fun b2 h_b2 => ?_⟩
  generalize w12 : upd _ b2 _ = G12
  obtain ⟨s12, f_b2, pa12⟩ := genP w12 pa11 h_b2
  refine ⟨(by show 0 ≤ sizeLine; decide), fun b3 h_b3 => ?_⟩
  generalize w13 : upd _ b3 _ = G13
  obtain ⟨s13, f_b3, pa13⟩ := genP w13 pa12 h_b3
  refine ⟨(by show 1 ≤ sizeLine; decide), fun b4 h_b4 => ?_⟩
  generalize w14 : upd _ b4 _ = G14
  obtain ⟨s14, f_b4, pa14⟩ := genP w14 pa13 h_b4
  refine ⟨(by show 0 ≤ sizeLine; decide), fun b5 h_b5 => ?_⟩
  generalize w15 : upd _ b5 _ = G15
  obtain ⟨s15, f_b5, pa15⟩ := genP w15 pa14 h_b5
  refine ⟨(by show 1 ≤ sizeLine; decide), fun b6 h_b6 => ?_⟩
  generalize w16 : upd _ b6 _ = G16
  obtain ⟨s16, f_b6, pa16⟩ := genP w16 pa15 h_b6
  refine fun d7 h_d7 => ⟨(by show 0 ≤ sizeLine; decide), fun b8 h_b8 => ⟨_, rfl, (same_new h_b8 _) _ _ upd_same, ?_⟩⟩
  obtain ⟨G17, w17, s17, f_d7, pa17⟩ := newPD pa16 h_d7 (.dK []) (.lst []) (.dK [(.inl 0, .ref b8)]) h_b8
  rw [w17]
  refine ⟨(by show 1 ≤ sizeLine; decide), fun b9 h_b9 => ?_⟩
  generalize w18 : upd _ b9 _ = G18
  obtain ⟨s18, f_b9, pa18⟩ := genP w18 pa17 h_b9
  refine ⟨(by show 1 ≤ sizeLine; decide), fun b10 h_b10 => ?_⟩
  generalize w19 : upd _ b10 _ = G19
  obtain ⟨s19, f_b10, pa19⟩ := genP w19 pa18 h_b10
  refine ⟨(by show 7 ≤ sizeLine; decide), fun sB h_sB => ?_⟩
  generalize w20 : upd _ sB _ = G20
  obtain ⟨s20, f_sB, pa20⟩ := genP w20 pa19 h_sB
  have e19 := s20
  have e18 := s19.trans e19
  have e17 := s18.trans e18
  have e16 := s17.trans e17
  have e15 := s16.trans e16
  have e14 := s15.trans e15
  have e13 := s14.trans e14
  have e12 := s13.trans e13
  have e11 := s12.trans e12
  have e10 := s11.trans e11
  refine ⟨sA, sB, _, _, rfl, rfl, SqL.of (hh_of (fun z => nomatch z) ((hh_same e10) _ _ fA)), SqL.of (hh_of (fun z => nomatch z) f_sB), (by show TA.length + 7 ≤ sizeLine; lia), fun sC h_sC => ?_⟩
  generalize wC : upd _ sC _ = GC
  obtain ⟨sc, f_sC, paC⟩ := genP wC pa20 h_sC
  have tB : ∀ x ∈ [.ref b2, .ref b4, .ref b6, .str (Str.ofString "[]"), .ref d7, .ref b9, .ref b10], Tg' (HH G20 p c) x := tg_cons (tg_el ((hh_same e12) _ _ f_b2) (.lst ((hh_same e11) _ _ f_b1))) <| tg_cons (tg_el ((hh_same e14) _ _ f_b4) (.len ((hh_same e13) _ _ f_b3) (by decide))) <| tg_cons ⟨_, .tup ((hh_same e16) _ _ f_b6)⟩ <| tg_cons ⟨_, .str _⟩ <| tg_cons ⟨_, .dct ((hh_same e17) _ _ f_d7)⟩ <| tg_cons (tg_el ((hh_same e18) _ _ f_b9) (.str _)) <| tg_cons (tg_el ((hh_same e19) _ _ f_b10) (.int 0)) <| tg_nil
  have eC := hh_same (p := p) (c := c) (e10.trans sc)
  exact ⟨sC, _, rfl, f_sC, (by rw [List.length_append]; show TA.length + 7 ≤ 18; lia), tg_mem (fun x hx => (tA x hx).same eC) fun x hx => (tB x hx).same (hh_same sc), eC _ _ fl10, al10'.same eC, paC, X10.trans (SameN.of (e10.trans sc))⟩
end
theorem all_mk {l : PySem.W.OpenLaw} {w : World} {K : PySem.W.Frag} {h : Heap} {mg : Str → Option Value} {fa f1 f2 f3 f4 f5 f6 f7 f8 f9 f10 f11 f12 f13 f14 f15 f16 f17 f18 f19 f20 f21 f22 f23 f24 f25 f26 f27 f28 f29 f30 f31 f32 f33 f34 f35 f36 f37 f38 f39 f40 : Addr} (X : K.In h) (G : h.Ns mainGlobals mg) (hfa : mg "law" = some (.ref fa))
    {od1 an1 od2 an2 od3 an3 od4 an4 od5 an5 od6 an6 od7 an7 od8 an8 od9 an9 od10 an10 od11 an11 od12 an12 od13 an13 od14 an14 od15 an15 od16 an16 od17 an17 od18 an18 od19 an19 od20 an20 od21 an21 od22 an22 od23 an23 od24 an24 od25 an25 od26 an26 od27 an27 od28 an28 od29 an29 od30 an30 od31 an31 od32 an32 od33 an33 od34 an34 od35 an35 od36 an36 od37 an37 od38 an38 od39 an39 od40 an40 : Option Addr} {sl1 sl2 sl3 sl4 sl5 sl6 sl7 sl8 sl9 sl10 sl11 sl12 sl13 sl14 sl15 sl16 sl17 sl18 sl19 sl20 sl21 sl22 sl23 sl24 sl25 sl26 sl27 sl28 sl29 sl30 sl31 sl32 sl33 sl34 sl35 sl36 sl37 sl38 sl39 sl40 : Array (Option Value)} {oc1 kV1 dc1 pm1 cd1 ct1 oc2 kV2 dc2 pm2 cd2 ct2 oc3 kV3 dc3 pm3 cd3 ct3 oc4 kV4 dc4 pm4 cd4 ct4 oc5 kV5 dc5 pm5 cd5 ct5 oc6 kV6 dc6 pm6 cd6 ct6 oc7 kV7 dc7 pm7 cd7 ct7 oc8 kV8 dc8 pm8 cd8 ct8 oc9 kV9 dc9 pm9 cd9 ct9 oc10 kV10 dc10 pm10 cd10 ct10 oc11 kV11 dc11 pm11 cd11 ct11 oc12 kV12 dc12 pm12 cd12 ct12 oc13 kV13 dc13 pm13 cd13 ct13 oc14 kV14 dc14 pm14 cd14 ct14 oc15 kV15 dc15 pm15 cd15 ct15 oc16 kV16 dc16 pm16 cd16 ct16 oc17 kV17 dc17 pm17 cd17 ct17 oc18 kV18 dc18 pm18 cd18 ct18 oc19 kV19 dc19 pm19 cd19 ct19 oc20 kV20 dc20 pm20 cd20 ct20 oc21 kV21 dc21 pm21 cd21 ct21 oc22 kV22 dc22 pm22 cd22 ct22 oc23 kV23 dc23 pm23 cd23 ct23 oc24 kV24 dc24 pm24 cd24 ct24 oc25 kV25 dc25 pm25 cd25 ct25 oc26 kV26 dc26 pm26 cd26 ct26 oc27 kV27 dc27 pm27 cd27 ct27 oc28 kV28 dc28 pm28 cd28 ct28 oc29 kV29 dc29 pm29 cd29 ct29 oc30 kV30 dc30 pm30 cd30 ct30 oc31 kV31 dc31 pm31 cd31 ct31 oc32 kV32 dc32 pm32 cd32 ct32 oc33 kV33 dc33 pm33 cd33 ct33 oc34 kV34 dc34 pm34 cd34 ct34 oc35 kV35 dc35 pm35 cd35 ct35 oc36 kV36 dc36 pm36 cd36 ct36 oc37 kV37 dc37 pm37 cd37 ct37 oc38 kV38 dc38 pm38 cd38 ct38 oc39 kV39 dc39 pm39 cd39 ct39 oc40 kV40 dc40 pm40 cd40 ct40 : Value}
    (a1 : PySem.W.nsIn K mainGlobals "is_whole" = some (some (.ref f1)))
    (l1 : K.lookup f1 = some ⟨oc1, od1, .func (PySem.W.fnOf "is_whole" "is_whole" (defArgs s_is_whole) (defBody s_is_whole) (defScope s_is_whole) .none kV1 dc1 pm1 an1 cd1 ct1), sl1⟩) (c1 : PySem.W.codeIn K cd1 "is_whole" = true) (k1 : PySem.W.keepIn K (.ref f1) = true)
    (a2 : PySem.W.nsIn K mainGlobals "is_between" = some (some (.ref f2)))
    (l2 : K.lookup f2 = some ⟨oc2, od2, .func (PySem.W.fnOf "is_between" "is_between" (defArgs s_is_between) (defBody s_is_between) (defScope s_is_between) .none kV2 dc2 pm2 an2 cd2 ct2), sl2⟩) (c2 : PySem.W.codeIn K cd2 "is_between" = true) (k2 : PySem.W.keepIn K (.ref f2) = true)
    (a3 : PySem.W.nsIn K mainGlobals "common_divisor" = some (some (.ref f3)))
    (l3 : K.lookup f3 = some ⟨oc3, od3, .func (PySem.W.fnOf "common_divisor" "common_divisor" (defArgs s_common_divisor) (defBody s_common_divisor) (defScope s_common_divisor) .none kV3 dc3 pm3 an3 cd3 ct3), sl3⟩) (c3 : PySem.W.codeIn K cd3 "common_divisor" = true) (k3 : PySem.W.keepIn K (.ref f3) = true)
    (a4 : PySem.W.nsIn K mainGlobals "is_short" = some (some (.ref f4)))
    (l4 : K.lookup f4 = some ⟨oc4, od4, .func (PySem.W.fnOf "is_short" "is_short" (defArgs s_is_short) (defBody s_is_short) (defScope s_is_short) .none kV4 dc4 pm4 an4 cd4 ct4), sl4⟩) (c4 : PySem.W.codeIn K cd4 "is_short" = true) (k4 : PySem.W.keepIn K (.ref f4) = true)
    (a5 : PySem.W.nsIn K mainGlobals "need_line" = some (some (.ref f5)))
    (l5 : K.lookup f5 = some ⟨oc5, od5, .func (PySem.W.fnOf "need_line" "need_line" (defArgs s_need_line) (defBody s_need_line) (defScope s_need_line) .none kV5 dc5 pm5 an5 cd5 ct5), sl5⟩) (c5 : PySem.W.codeIn K cd5 "need_line" = true) (k5 : PySem.W.keepIn K (.ref f5) = true)
    (a6 : PySem.W.nsIn K mainGlobals "fall_rows" = some (some (.ref f6)))
    (l6 : K.lookup f6 = some ⟨oc6, od6, .func (PySem.W.fnOf "fall_rows" "fall_rows" (defArgs s_fall_rows) (defBody s_fall_rows) (defScope s_fall_rows) .none kV6 dc6 pm6 an6 cd6 ct6), sl6⟩) (c6 : PySem.W.codeIn K cd6 "fall_rows" = true) (k6 : PySem.W.keepIn K (.ref f6) = true)
    (a7 : PySem.W.nsIn K mainGlobals "places_reached" = some (some (.ref f7)))
    (l7 : K.lookup f7 = some ⟨oc7, od7, .func (PySem.W.fnOf "places_reached" "places_reached" (defArgs s_places_reached) (defBody s_places_reached) (defScope s_places_reached) .none kV7 dc7 pm7 an7 cd7 ct7), sl7⟩) (c7 : PySem.W.codeIn K cd7 "places_reached" = true) (k7 : PySem.W.keepIn K (.ref f7) = true)
    (a8 : PySem.W.nsIn K mainGlobals "corner_points" = some (some (.ref f8)))
    (l8 : K.lookup f8 = some ⟨oc8, od8, .func (PySem.W.fnOf "corner_points" "corner_points" (defArgs s_corner_points) (defBody s_corner_points) (defScope s_corner_points) .none kV8 dc8 pm8 an8 cd8 ct8), sl8⟩) (c8 : PySem.W.codeIn K cd8 "corner_points" = true) (k8 : PySem.W.keepIn K (.ref f8) = true)
    (a9 : PySem.W.nsIn K mainGlobals "inverse_by" = some (some (.ref f9)))
    (l9 : K.lookup f9 = some ⟨oc9, od9, .func (PySem.W.fnOf "inverse_by" "inverse_by" (defArgs s_inverse_by) (defBody s_inverse_by) (defScope s_inverse_by) .none kV9 dc9 pm9 an9 cd9 ct9), sl9⟩) (c9 : PySem.W.codeIn K cd9 "inverse_by" = true) (k9 : PySem.W.keepIn K (.ref f9) = true)
    (a10 : PySem.W.nsIn K mainGlobals "side_between" = some (some (.ref f10)))
    (l10 : K.lookup f10 = some ⟨oc10, od10, .func (PySem.W.fnOf "side_between" "side_between" (defArgs s_side_between) (defBody s_side_between) (defScope s_side_between) .none kV10 dc10 pm10 an10 cd10 ct10), sl10⟩) (c10 : PySem.W.codeIn K cd10 "side_between" = true) (k10 : PySem.W.keepIn K (.ref f10) = true)
    (a11 : PySem.W.nsIn K mainGlobals "paper" = some (some (.ref f11)))
    (l11 : K.lookup f11 = some ⟨oc11, od11, .func (PySem.W.fnOf "paper" "paper" (defArgs s_paper) (defBody s_paper) (defScope s_paper) .none kV11 dc11 pm11 an11 cd11 ct11), sl11⟩) (c11 : PySem.W.codeIn K cd11 "paper" = true) (k11 : PySem.W.keepIn K (.ref f11) = true)
    (a12 : PySem.W.nsIn K mainGlobals "is_seven" = some (some (.ref f12)))
    (l12 : K.lookup f12 = some ⟨oc12, od12, .func (PySem.W.fnOf "is_seven" "is_seven" (defArgs s_is_seven) (defBody s_is_seven) (defScope s_is_seven) .none kV12 dc12 pm12 an12 cd12 ct12), sl12⟩) (c12 : PySem.W.codeIn K cd12 "is_seven" = true) (k12 : PySem.W.keepIn K (.ref f12) = true)
    (a13 : PySem.W.nsIn K mainGlobals "end_of" = some (some (.ref f13)))
    (l13 : K.lookup f13 = some ⟨oc13, od13, .func (PySem.W.fnOf "end_of" "end_of" (defArgs s_end_of) (defBody s_end_of) (defScope s_end_of) .none kV13 dc13 pm13 an13 cd13 ct13), sl13⟩) (c13 : PySem.W.codeIn K cd13 "end_of" = true) (k13 : PySem.W.keepIn K (.ref f13) = true)
    (a14 : PySem.W.nsIn K mainGlobals "is_above" = some (some (.ref f14)))
    (l14 : K.lookup f14 = some ⟨oc14, od14, .func (PySem.W.fnOf "is_above" "is_above" (defArgs s_is_above) (defBody s_is_above) (defScope s_is_above) .none kV14 dc14 pm14 an14 cd14 ct14), sl14⟩) (c14 : PySem.W.codeIn K cd14 "is_above" = true) (k14 : PySem.W.keepIn K (.ref f14) = true)
    (a15 : PySem.W.nsIn K mainGlobals "is_side" = some (some (.ref f15)))
    (l15 : K.lookup f15 = some ⟨oc15, od15, .func (PySem.W.fnOf "is_side" "is_side" (defArgs s_is_side) (defBody s_is_side) (defScope s_is_side) .none kV15 dc15 pm15 an15 cd15 ct15), sl15⟩) (c15 : PySem.W.codeIn K cd15 "is_side" = true) (k15 : PySem.W.keepIn K (.ref f15) = true)
    (a16 : PySem.W.nsIn K mainGlobals "goes_on" = some (some (.ref f16)))
    (l16 : K.lookup f16 = some ⟨oc16, od16, .func (PySem.W.fnOf "goes_on" "goes_on" (defArgs s_goes_on) (defBody s_goes_on) (defScope s_goes_on) .none kV16 dc16 pm16 an16 cd16 ct16), sl16⟩) (c16 : PySem.W.codeIn K cd16 "goes_on" = true) (k16 : PySem.W.keepIn K (.ref f16) = true)
    (a17 : PySem.W.nsIn K mainGlobals "is_paper" = some (some (.ref f17)))
    (l17 : K.lookup f17 = some ⟨oc17, od17, .func (PySem.W.fnOf "is_paper" "is_paper" (defArgs s_is_paper) (defBody s_is_paper) (defScope s_is_paper) .none kV17 dc17 pm17 an17 cd17 ct17), sl17⟩) (c17 : PySem.W.codeIn K cd17 "is_paper" = true) (k17 : PySem.W.keepIn K (.ref f17) = true)
    (a18 : PySem.W.nsIn K mainGlobals "_law_mixed" = some (some (.ref f18)))
    (l18 : K.lookup f18 = some ⟨oc18, od18, .func (PySem.W.fnOf "_law_mixed" "_law_mixed" (defArgs s__law_mixed) (defBody s__law_mixed) (defScope s__law_mixed) .none kV18 dc18 pm18 an18 cd18 ct18), sl18⟩) (c18 : PySem.W.codeIn K cd18 "_law_mixed" = true) (k18 : PySem.W.keepIn K (.ref f18) = true)
    (a19 : PySem.W.nsIn K mainGlobals "_law_take" = some (some (.ref f19)))
    (l19 : K.lookup f19 = some ⟨oc19, od19, .func (PySem.W.fnOf "_law_take" "_law_take" (defArgs s__law_take) (defBody s__law_take) (defScope s__law_take) .none kV19 dc19 pm19 an19 cd19 ct19), sl19⟩) (c19 : PySem.W.codeIn K cd19 "_law_take" = true) (k19 : PySem.W.keepIn K (.ref f19) = true)
    (a20 : PySem.W.nsIn K mainGlobals "_law_pools" = some (some (.ref f20)))
    (l20 : K.lookup f20 = some ⟨oc20, od20, .func (PySem.W.fnOf "_law_pools" "_law_pools" (defArgs s__law_pools) (defBody s__law_pools) (defScope s__law_pools) .none kV20 dc20 pm20 an20 cd20 ct20), sl20⟩) (c20 : PySem.W.codeIn K cd20 "_law_pools" = true) (k20 : PySem.W.keepIn K (.ref f20) = true)
    (a21 : PySem.W.nsIn K mainGlobals "_law_whole" = some (some (.ref f21)))
    (l21 : K.lookup f21 = some ⟨oc21, od21, .func (PySem.W.fnOf "_law_whole" "_law_whole" (defArgs s__law_whole) (defBody s__law_whole) (defScope s__law_whole) .none kV21 dc21 pm21 an21 cd21 ct21), sl21⟩) (c21 : PySem.W.codeIn K cd21 "_law_whole" = true) (k21 : PySem.W.keepIn K (.ref f21) = true)
    (a22 : PySem.W.nsIn K mainGlobals "_law_rows" = some (some (.ref f22)))
    (l22 : K.lookup f22 = some ⟨oc22, od22, .func (PySem.W.fnOf "_law_rows" "_law_rows" (defArgs s__law_rows) (defBody s__law_rows) (defScope s__law_rows) .none kV22 dc22 pm22 an22 cd22 ct22), sl22⟩) (c22 : PySem.W.codeIn K cd22 "_law_rows" = true) (k22 : PySem.W.keepIn K (.ref f22) = true)
    (a23 : PySem.W.nsIn K mainGlobals "_law_bends" = some (some (.ref f23)))
    (l23 : K.lookup f23 = some ⟨oc23, od23, .func (PySem.W.fnOf "_law_bends" "_law_bends" (defArgs s__law_bends) (defBody s__law_bends) (defScope s__law_bends) .none kV23 dc23 pm23 an23 cd23 ct23), sl23⟩) (c23 : PySem.W.codeIn K cd23 "_law_bends" = true) (k23 : PySem.W.keepIn K (.ref f23) = true)
    (a24 : PySem.W.nsIn K mainGlobals "_law_hull" = some (some (.ref f24)))
    (l24 : K.lookup f24 = some ⟨oc24, od24, .func (PySem.W.fnOf "_law_hull" "_law_hull" (defArgs s__law_hull) (defBody s__law_hull) (defScope s__law_hull) .none kV24 dc24 pm24 an24 cd24 ct24), sl24⟩) (c24 : PySem.W.codeIn K cd24 "_law_hull" = true) (k24 : PySem.W.keepIn K (.ref f24) = true)
    (a25 : PySem.W.nsIn K mainGlobals "_law_line" = some (some (.ref f25)))
    (l25 : K.lookup f25 = some ⟨oc25, od25, .func (PySem.W.fnOf "_law_line" "_law_line" (defArgs s__law_line) (defBody s__law_line) (defScope s__law_line) .none kV25 dc25 pm25 an25 cd25 ct25), sl25⟩) (c25 : PySem.W.codeIn K cd25 "_law_line" = true) (k25 : PySem.W.keepIn K (.ref f25) = true)
    (a26 : PySem.W.nsIn K mainGlobals "_law_divisor" = some (some (.ref f26)))
    (l26 : K.lookup f26 = some ⟨oc26, od26, .func (PySem.W.fnOf "_law_divisor" "_law_divisor" (defArgs s__law_divisor) (defBody s__law_divisor) (defScope s__law_divisor) .none kV26 dc26 pm26 an26 cd26 ct26), sl26⟩) (c26 : PySem.W.codeIn K cd26 "_law_divisor" = true) (k26 : PySem.W.keepIn K (.ref f26) = true)
    (a27 : PySem.W.nsIn K mainGlobals "_law_above" = some (some (.ref f27)))
    (l27 : K.lookup f27 = some ⟨oc27, od27, .func (PySem.W.fnOf "_law_above" "_law_above" (defArgs s__law_above) (defBody s__law_above) (defScope s__law_above) .none kV27 dc27 pm27 an27 cd27 ct27), sl27⟩) (c27 : PySem.W.codeIn K cd27 "_law_above" = true) (k27 : PySem.W.keepIn K (.ref f27) = true)
    (a28 : PySem.W.nsIn K mainGlobals "_law_height" = some (some (.ref f28)))
    (l28 : K.lookup f28 = some ⟨oc28, od28, .func (PySem.W.fnOf "_law_height" "_law_height" (defArgs s__law_height) (defBody s__law_height) (defScope s__law_height) .none kV28 dc28 pm28 an28 cd28 ct28), sl28⟩) (c28 : PySem.W.codeIn K cd28 "_law_height" = true) (k28 : PySem.W.keepIn K (.ref f28) = true)
    (a29 : PySem.W.nsIn K mainGlobals "_law_side" = some (some (.ref f29)))
    (l29 : K.lookup f29 = some ⟨oc29, od29, .func (PySem.W.fnOf "_law_side" "_law_side" (defArgs s__law_side) (defBody s__law_side) (defScope s__law_side) .none kV29 dc29 pm29 an29 cd29 ct29), sl29⟩) (c29 : PySem.W.codeIn K cd29 "_law_side" = true) (k29 : PySem.W.keepIn K (.ref f29) = true)
    (a30 : PySem.W.nsIn K mainGlobals "_law_paper" = some (some (.ref f30)))
    (l30 : K.lookup f30 = some ⟨oc30, od30, .func (PySem.W.fnOf "_law_paper" "_law_paper" (defArgs s__law_paper) (defBody s__law_paper) (defScope s__law_paper) .none kV30 dc30 pm30 an30 cd30 ct30), sl30⟩) (c30 : PySem.W.codeIn K cd30 "_law_paper" = true) (k30 : PySem.W.keepIn K (.ref f30) = true)
    (a31 : PySem.W.nsIn K mainGlobals "_law_beside" = some (some (.ref f31)))
    (l31 : K.lookup f31 = some ⟨oc31, od31, .func (PySem.W.fnOf "_law_beside" "_law_beside" (defArgs s__law_beside) (defBody s__law_beside) (defScope s__law_beside) .none kV31 dc31 pm31 an31 cd31 ct31), sl31⟩) (c31 : PySem.W.codeIn K cd31 "_law_beside" = true) (k31 : PySem.W.keepIn K (.ref f31) = true)
    (a32 : PySem.W.nsIn K mainGlobals "_law_own" = some (some (.ref f32)))
    (l32 : K.lookup f32 = some ⟨oc32, od32, .func (PySem.W.fnOf "_law_own" "_law_own" (defArgs s__law_own) (defBody s__law_own) (defScope s__law_own) .none kV32 dc32 pm32 an32 cd32 ct32), sl32⟩) (c32 : PySem.W.codeIn K cd32 "_law_own" = true) (k32 : PySem.W.keepIn K (.ref f32) = true)
    (a33 : PySem.W.nsIn K mainGlobals "_law_put" = some (some (.ref f33)))
    (l33 : K.lookup f33 = some ⟨oc33, od33, .func (PySem.W.fnOf "_law_put" "_law_put" (defArgs s__law_put) (defBody s__law_put) (defScope s__law_put) .none kV33 dc33 pm33 an33 cd33 ct33), sl33⟩) (c33 : PySem.W.codeIn K cd33 "_law_put" = true) (k33 : PySem.W.keepIn K (.ref f33) = true)
    (a34 : PySem.W.nsIn K mainGlobals "_law_parted" = some (some (.ref f34)))
    (l34 : K.lookup f34 = some ⟨oc34, od34, .func (PySem.W.fnOf "_law_parted" "_law_parted" (defArgs s__law_parted) (defBody s__law_parted) (defScope s__law_parted) .none kV34 dc34 pm34 an34 cd34 ct34), sl34⟩) (c34 : PySem.W.codeIn K cd34 "_law_parted" = true) (k34 : PySem.W.keepIn K (.ref f34) = true)
    (a35 : PySem.W.nsIn K mainGlobals "_law_joined" = some (some (.ref f35)))
    (l35 : K.lookup f35 = some ⟨oc35, od35, .func (PySem.W.fnOf "_law_joined" "_law_joined" (defArgs s__law_joined) (defBody s__law_joined) (defScope s__law_joined) .none kV35 dc35 pm35 an35 cd35 ct35), sl35⟩) (c35 : PySem.W.codeIn K cd35 "_law_joined" = true) (k35 : PySem.W.keepIn K (.ref f35) = true)
    (a36 : PySem.W.nsIn K mainGlobals "_law_forged" = some (some (.ref f36)))
    (l36 : K.lookup f36 = some ⟨oc36, od36, .func (PySem.W.fnOf "_law_forged" "_law_forged" (defArgs s__law_forged) (defBody s__law_forged) (defScope s__law_forged) .none kV36 dc36 pm36 an36 cd36 ct36), sl36⟩) (c36 : PySem.W.codeIn K cd36 "_law_forged" = true) (k36 : PySem.W.keepIn K (.ref f36) = true)
    (a37 : PySem.W.nsIn K mainGlobals "_law_odd" = some (some (.ref f37)))
    (l37 : K.lookup f37 = some ⟨oc37, od37, .func (PySem.W.fnOf "_law_odd" "_law_odd" (defArgs s__law_odd) (defBody s__law_odd) (defScope s__law_odd) .none kV37 dc37 pm37 an37 cd37 ct37), sl37⟩) (c37 : PySem.W.codeIn K cd37 "_law_odd" = true) (k37 : PySem.W.keepIn K (.ref f37) = true)
    (a38 : PySem.W.nsIn K mainGlobals "_law_longer" = some (some (.ref f38)))
    (l38 : K.lookup f38 = some ⟨oc38, od38, .func (PySem.W.fnOf "_law_longer" "_law_longer" (defArgs s__law_longer) (defBody s__law_longer) (defScope s__law_longer) .none kV38 dc38 pm38 an38 cd38 ct38), sl38⟩) (c38 : PySem.W.codeIn K cd38 "_law_longer" = true) (k38 : PySem.W.keepIn K (.ref f38) = true)
    (a39 : PySem.W.nsIn K mainGlobals "_law_asked" = some (some (.ref f39)))
    (l39 : K.lookup f39 = some ⟨oc39, od39, .func (PySem.W.fnOf "_law_asked" "_law_asked" (defArgs s__law_asked) (defBody s__law_asked) (defScope s__law_asked) .none kV39 dc39 pm39 an39 cd39 ct39), sl39⟩) (c39 : PySem.W.codeIn K cd39 "_law_asked" = true) (k39 : PySem.W.keepIn K (.ref f39) = true)
    (a40 : PySem.W.nsIn K mainGlobals "law" = some (some (.ref f40)))
    (l40 : K.lookup f40 = some ⟨oc40, od40, .func (PySem.W.fnOf "law" "law" (defArgs s_law) (defBody s_law) (defScope s_law) .none kV40 dc40 pm40 an40 cd40 ct40), sl40⟩) (c40 : PySem.W.codeIn K cd40 "law" = true) (k40 : PySem.W.keepIn K (.ref f40) = true)
    (z_isinstance : PySem.W.nsIn K mainGlobals "isinstance" = some none) (z_int : PySem.W.nsIn K mainGlobals "int" = some none) (z_bool : PySem.W.nsIn K mainGlobals "bool" = some none) (z_list : PySem.W.nsIn K mainGlobals "list" = some none) (z_tuple : PySem.W.nsIn K mainGlobals "tuple" = some none) (z_len : PySem.W.nsIn K mainGlobals "len" = some none) (z_max : PySem.W.nsIn K mainGlobals "max" = some none) (z_min : PySem.W.nsIn K mainGlobals "min" = some none) (z_range : PySem.W.nsIn K mainGlobals "range" = some none) (z_sorted : PySem.W.nsIn K mainGlobals "sorted" = some none) (z_set : PySem.W.nsIn K mainGlobals "set" = some none) (z_abs : PySem.W.nsIn K mainGlobals "abs" = some none) (z_all : PySem.W.nsIn K mainGlobals "all" = some none) (z_enumerate : PySem.W.nsIn K mainGlobals "enumerate" = some none) (z_str : PySem.W.nsIn K mainGlobals "str" = some none) :
    ∃ fd : FuncData, (∀ (s : Shared) (v : Value), BindsTo s fd ⟨[v], []⟩ [("_law_script", v)]) ∧ ∀ base : Heap, K.In base → base.Ns mainGlobals mg → FnOk l.prog w K mg base CX0 7 fa fd ["_law_script"] ((spLaw K)) := by
  have e := hfa.symm.trans (PySem.W.mg_of X G a40)
  cases e
  have T : Txt K mg := ⟨PySem.W.mg_none_of X G z_isinstance, PySem.W.mg_none_of X G z_int, PySem.W.mg_none_of X G z_bool, PySem.W.mg_none_of X G z_list, PySem.W.mg_none_of X G z_tuple, PySem.W.mg_none_of X G z_len, PySem.W.mg_none_of X G z_max, PySem.W.mg_none_of X G z_min, PySem.W.mg_none_of X G z_range, PySem.W.mg_none_of X G z_sorted, PySem.W.mg_none_of X G z_set, PySem.W.mg_none_of X G z_abs, PySem.W.mg_none_of X G z_all, PySem.W.mg_none_of X G z_enumerate, PySem.W.mg_none_of X G z_str⟩
  have F1 := fun_mk (st := s_is_whole) l1 c1 k1
  have b1 := F1.binds (ps := ["thing"]) fun _ _ _ _ _ _ us hl => match us, hl with | [_], _ => rfl
  have F2 := fun_mk (st := s_is_between) l2 c2 k2
  have b2 := F2.binds (ps := ["thing", "low", "high"]) fun _ _ _ _ _ _ us hl => match us, hl with | [_, _, _], _ => rfl
  have F3 := fun_mk (st := s_common_divisor) l3 c3 k3
  have b3 := F3.binds (ps := ["a", "b"]) fun _ _ _ _ _ _ us hl => match us, hl with | [_, _], _ => rfl
  have F4 := fun_mk (st := s_is_short) l4 c4 k4
  have b4 := F4.binds (ps := ["thing"]) fun _ _ _ _ _ _ us hl => match us, hl with | [_], _ => rfl
  have F5 := fun_mk (st := s_need_line) l5 c5 k5
  have b5 := F5.binds (ps := ["n", "m", "a", "b"]) fun _ _ _ _ _ _ us hl => match us, hl with | [_, _, _, _], _ => rfl
  have F6 := fun_mk (st := s_fall_rows) l6 c6 k6
  have b6 := F6.binds (ps := ["n", "m", "a", "b"]) fun _ _ _ _ _ _ us hl => match us, hl with | [_, _, _, _], _ => rfl
  have F7 := fun_mk (st := s_places_reached) l7 c7 k7
  have b7 := F7.binds (ps := ["n", "m", "a", "b"]) fun _ _ _ _ _ _ us hl => match us, hl with | [_, _, _, _], _ => rfl
  have F8 := fun_mk (st := s_corner_points) l8 c8 k8
  have b8 := F8.binds (ps := ["n", "m", "a", "b"]) fun _ _ _ _ _ _ us hl => match us, hl with | [_, _, _, _], _ => rfl
  have F9 := fun_mk (st := s_inverse_by) l9 c9 k9
  have b9 := F9.binds (ps := ["number", "bottom"]) fun _ _ _ _ _ _ us hl => match us, hl with | [_, _], _ => rfl
  have F10 := fun_mk (st := s_side_between) l10 c10 k10
  have b10 := F10.binds (ps := ["one", "other"]) fun _ _ _ _ _ _ us hl => match us, hl with | [_, _], _ => rfl
  have F11 := fun_mk (st := s_paper) l11 c11 k11
  have b11 := F11.binds (ps := ["n", "m", "a", "b"]) fun _ _ _ _ _ _ us hl => match us, hl with | [_, _, _, _], _ => rfl
  have F12 := fun_mk (st := s_is_seven) l12 c12 k12
  have b12 := F12.binds (ps := ["thing"]) fun _ _ _ _ _ _ us hl => match us, hl with | [_], _ => rfl
  have F13 := fun_mk (st := s_end_of) l13 c13 k13
  have b13 := F13.binds (ps := ["side"]) fun _ _ _ _ _ _ us hl => match us, hl with | [_], _ => rfl
  have F14 := fun_mk (st := s_is_above) l14 c14 k14
  have b14 := F14.binds (ps := ["m", "a", "b", "x", "y"]) fun _ _ _ _ _ _ us hl => match us, hl with | [_, _, _, _, _], _ => rfl
  have F15 := fun_mk (st := s_is_side) l15 c15 k15
  have b15 := F15.binds (ps := ["m", "a", "b", "side"]) fun _ _ _ _ _ _ us hl => match us, hl with | [_, _, _, _], _ => rfl
  have F16 := fun_mk (st := s_goes_on) l16 c16 k16
  have b16 := F16.binds (ps := ["one", "other"]) fun _ _ _ _ _ _ us hl => match us, hl with | [_, _], _ => rfl
  have F17 := fun_mk (st := s_is_paper) l17 c17 k17
  have b17 := F17.binds (ps := ["n", "m", "a", "b", "thing"]) fun _ _ _ _ _ _ us hl => match us, hl with | [_, _, _, _, _], _ => rfl
  have F18 := fun_mk (st := s__law_mixed) l18 c18 k18
  have b18 := F18.binds (ps := ["_law_cell", "_law_k"]) fun _ _ _ _ _ _ us hl => match us, hl with | [_, _], _ => rfl
  have F19 := fun_mk (st := s__law_take) l19 c19 k19
  have b19 := F19.binds (ps := ["_law_pool", "_law_most"]) fun _ _ _ _ _ _ us hl => match us, hl with | [_, _], _ => rfl
  have F20 := fun_mk (st := s__law_pools) l20 c20 k20
  have b20 := F20.binds (ps := ["_law_script", "_law_many"]) fun _ _ _ _ _ _ us hl => match us, hl with | [_, _], _ => rfl
  have F21 := fun_mk (st := s__law_whole) l21 c21 k21
  have b21 := F21.binds (ps := ["_law_found"]) fun _ _ _ _ _ _ us hl => match us, hl with | [_], _ => rfl
  have F22 := fun_mk (st := s__law_rows) l22 c22 k22
  have b22 := F22.binds (ps := ["_law_found", "_law_many"]) fun _ _ _ _ _ _ us hl => match us, hl with | [_, _], _ => rfl
  have F23 := fun_mk (st := s__law_bends) l23 c23 k23
  have b23 := F23.binds (ps := ["_law_one", "_law_middle", "_law_other"]) fun _ _ _ _ _ _ us hl => match us, hl with | [_, _, _], _ => rfl
  have F24 := fun_mk (st := s__law_hull) l24 c24 k24
  have b24 := F24.binds (ps := ["_law_points"]) fun _ _ _ _ _ _ us hl => match us, hl with | [_], _ => rfl
  have F25 := fun_mk (st := s__law_line) l25 c25 k25
  have b25 := F25.binds (ps := ["_law_pool"]) fun _ _ _ _ _ _ us hl => match us, hl with | [_], _ => rfl
  have F26 := fun_mk (st := s__law_divisor) l26 c26 k26
  have b26 := F26.binds (ps := ["_law_one", "_law_other"]) fun _ _ _ _ _ _ us hl => match us, hl with | [_, _], _ => rfl
  have F27 := fun_mk (st := s__law_above) l27 c27 k27
  have b27 := F27.binds (ps := ["_law_line_here", "_law_x", "_law_y"]) fun _ _ _ _ _ _ us hl => match us, hl with | [_, _, _], _ => rfl
  have F28 := fun_mk (st := s__law_height) l28 c28 k28
  have b28 := F28.binds (ps := ["_law_line_here", "_law_x", "_law_y"]) fun _ _ _ _ _ _ us hl => match us, hl with | [_, _, _], _ => rfl
  have F29 := fun_mk (st := s__law_side) l29 c29 k29
  have b29 := F29.binds (ps := ["_law_line_here", "_law_row"]) fun _ _ _ _ _ _ us hl => match us, hl with | [_, _], _ => rfl
  have F30 := fun_mk (st := s__law_paper) l30 c30 k30
  have b30 := F30.binds (ps := ["_law_line_here", "_law_thing"]) fun _ _ _ _ _ _ us hl => match us, hl with | [_, _], _ => rfl
  have F31 := fun_mk (st := s__law_beside) l31 c31 k31
  have b31 := F31.binds (ps := ["_law_one", "_law_other"]) fun _ _ _ _ _ _ us hl => match us, hl with | [_, _], _ => rfl
  have F32 := fun_mk (st := s__law_own) l32 c32 k32
  have b32 := F32.binds (ps := ["_law_line_here"]) fun _ _ _ _ _ _ us hl => match us, hl with | [_], _ => rfl
  have F33 := fun_mk (st := s__law_put) l33 c33 k33
  have b33 := F33.binds (ps := ["_law_rows_here", "_law_at", "_law_row"]) fun _ _ _ _ _ _ us hl => match us, hl with | [_, _, _], _ => rfl
  have F34 := fun_mk (st := s__law_parted) l34 c34 k34
  have b34 := F34.binds (ps := ["_law_row"]) fun _ _ _ _ _ _ us hl => match us, hl with | [_], _ => rfl
  have F35 := fun_mk (st := s__law_joined) l35 c35 k35
  have b35 := F35.binds (ps := ["_law_rows_here", "_law_first", "_law_last"]) fun _ _ _ _ _ _ us hl => match us, hl with | [_, _, _], _ => rfl
  have F36 := fun_mk (st := s__law_forged) l36 c36 k36
  have b36 := F36.binds (ps := ["_law_rows_here", "_law_at"]) fun _ _ _ _ _ _ us hl => match us, hl with | [_, _], _ => rfl
  have F37 := fun_mk (st := s__law_odd) l37 c37 k37
  have b37 := F37.binds (ps := ["_law_rows_here", "_law_at"]) fun _ _ _ _ _ _ us hl => match us, hl with | [_, _], _ => rfl
  have F38 := fun_mk (st := s__law_longer) l38 c38 k38
  have b38 := F38.binds (ps := ["_law_line_here", "_law_rows_here"]) fun _ _ _ _ _ _ us hl => match us, hl with | [_, _], _ => rfl
  have F39 := fun_mk (st := s__law_asked) l39 c39 k39
  have b39 := F39.binds (ps := ["_law_line_here", "_law_thing"]) fun _ _ _ _ _ _ us hl => match us, hl with | [_, _], _ => rfl
  have F40 := fun_mk (st := s_law) l40 c40 k40
  refine ⟨PySem.W.fnOf "law" "law" (defArgs s_law) (defBody s_law) (defScope s_law) .none kV40 dc40 pm40 an40 cd40 ct40, fun s v => .of_eq rfl, fun base _ _ => ?_⟩
  have H__law_pools : Has l.prog w K mg base 1 "_law_pools" ["_law_script", "_law_many"] (spPools K) := ⟨_, _, ok__law_pools F20 T , b20, k20, PySem.W.mg_of X G a20⟩
  have H__law_mixed : Has l.prog w K mg base 1 "_law_mixed" ["_law_cell", "_law_k"] spMix := ⟨_, _, ok__law_mixed F18 T , b18, k18, PySem.W.mg_of X G a18⟩
  have H__law_take : Has l.prog w K mg base 2 "_law_take" ["_law_pool", "_law_most"] spTk := ⟨_, _, ok__law_take F19 T H__law_mixed, b19, k19, PySem.W.mg_of X G a19⟩
  have H__law_line : Has l.prog w K mg base 3 "_law_line" ["_law_pool"] spLn1 := ⟨_, _, ok__law_line F25 T H__law_take, b25, k25, PySem.W.mg_of X G a25⟩
  have H__law_bends : Has l.prog w K mg base 1 "_law_bends" ["_law_one", "_law_middle", "_law_other"] spBends := ⟨_, _, ok__law_bends F23 T , b23, k23, PySem.W.mg_of X G a23⟩
  have H__law_hull : Has l.prog w K mg base 2 "_law_hull" ["_law_points"] spHull := ⟨_, _, ok__law_hull F24 T H__law_bends, b24, k24, PySem.W.mg_of X G a24⟩
  have H__law_divisor : Has l.prog w K mg base 1 "_law_divisor" ["_law_one", "_law_other"] spGcd := ⟨_, _, ok__law_divisor F26 T , b26, k26, PySem.W.mg_of X G a26⟩
  have H__law_beside : Has l.prog w K mg base 2 "_law_beside" ["_law_one", "_law_other"] spBes := ⟨_, _, ok__law_beside F31 T H__law_divisor, b31, k31, PySem.W.mg_of X G a31⟩
  have H__law_own : Has l.prog w K mg base 3 "_law_own" ["_law_line_here"] spOwn := ⟨_, _, ok__law_own F32 T H__law_hull H__law_beside, b32, k32, PySem.W.mg_of X G a32⟩
  have H_is_whole : Has l.prog w K mg base 1 "is_whole" ["thing"] spWholeG := ⟨_, _, ok_is_whole F1 T , b1, k1, PySem.W.mg_of X G a1⟩
  have W_is_whole : Has l.prog w K mg base 1 "is_whole" ["thing"] spWhole := H_is_whole.imp imp_whole
  have H_is_between : Has l.prog w K mg base 2 "is_between" ["thing", "low", "high"] spBetween := ⟨_, _, ok_is_between F2 T W_is_whole, b2, k2, PySem.W.mg_of X G a2⟩
  have H_is_short : Has l.prog w K mg base 3 "is_short" ["thing"] spShort := ⟨_, _, ok_is_short F4 T H_is_between, b4, k4, PySem.W.mg_of X G a4⟩
  have H_need_line : Has l.prog w K mg base 4 "need_line" ["n", "m", "a", "b"] spNeedL := ⟨_, _, ok_need_line F5 T H_is_between H_is_short, b5, k5, PySem.W.mg_of X G a5⟩
  have H_fall_rows : Has l.prog w K mg base 1 "fall_rows" ["n", "m", "a", "b"] spFall := ⟨_, _, ok_fall_rows F6 T , b6, k6, PySem.W.mg_of X G a6⟩
  have H_places_reached : Has l.prog w K mg base 2 "places_reached" ["n", "m", "a", "b"] spPlc := ⟨_, _, ok_places_reached F7 T H_fall_rows, b7, k7, PySem.W.mg_of X G a7⟩
  have H_corner_points : Has l.prog w K mg base 3 "corner_points" ["n", "m", "a", "b"] spCrn := ⟨_, _, ok_corner_points F8 T H_places_reached, b8, k8, PySem.W.mg_of X G a8⟩
  have H_common_divisor : Has l.prog w K mg base 1 "common_divisor" ["a", "b"] spGcd := ⟨_, _, ok_common_divisor F3 T , b3, k3, PySem.W.mg_of X G a3⟩
  have H_inverse_by : Has l.prog w K mg base 1 "inverse_by" ["number", "bottom"] spInvB := ⟨_, _, ok_inverse_by F9 T , b9, k9, PySem.W.mg_of X G a9⟩
  have H_side_between : Has l.prog w K mg base 2 "side_between" ["one", "other"] spSide := ⟨_, _, ok_side_between F10 T H_common_divisor H_inverse_by, b10, k10, PySem.W.mg_of X G a10⟩
  have H_paper : Has l.prog w K mg base 5 "paper" ["n", "m", "a", "b"] spPaper := ⟨_, _, ok_paper F11 T H_need_line H_corner_points H_side_between, b11, k11, PySem.W.mg_of X G a11⟩
  have H__law_longer : Has l.prog w K mg base 1 "_law_longer" ["_law_line_here", "_law_rows_here"] spLonger := ⟨_, _, ok__law_longer F38 T , b38, k38, PySem.W.mg_of X G a38⟩
  have H__law_whole : Has l.prog w K mg base 1 "_law_whole" ["_law_found"] spWholeG := ⟨_, _, ok__law_whole F21 T , b21, k21, PySem.W.mg_of X G a21⟩
  have H__law_rows : Has l.prog w K mg base 2 "_law_rows" ["_law_found", "_law_many"] spRwG := ⟨_, _, ok__law_rows F22 T H__law_whole, b22, k22, PySem.W.mg_of X G a22⟩
  have H__law_above : Has l.prog w K mg base 1 "_law_above" ["_law_line_here", "_law_x", "_law_y"] spAbD := ⟨_, _, ok__law_above F27 T , b27, k27, PySem.W.mg_of X G a27⟩
  have H__law_height : Has l.prog w K mg base 1 "_law_height" ["_law_line_here", "_law_x", "_law_y"] spHtD := ⟨_, _, ok__law_height F28 T , b28, k28, PySem.W.mg_of X G a28⟩
  have H__law_side : Has l.prog w K mg base 2 "_law_side" ["_law_line_here", "_law_row"] spSdD := ⟨_, _, ok__law_side F29 T H__law_above H__law_height, b29, k29, PySem.W.mg_of X G a29⟩
  have H__law_paper : Has l.prog w K mg base 3 "_law_paper" ["_law_line_here", "_law_thing"] spPpD := ⟨_, _, ok__law_paper F30 T H__law_rows H__law_side, b30, k30, PySem.W.mg_of X G a30⟩
  have H_end_of : Has l.prog w K mg base 1 "end_of" ["side"] spEnd := ⟨_, _, ok_end_of F13 T , b13, k13, PySem.W.mg_of X G a13⟩
  have H_goes_on : Has l.prog w K mg base 2 "goes_on" ["one", "other"] spGoes := ⟨_, _, ok_goes_on F16 T H_end_of, b16, k16, PySem.W.mg_of X G a16⟩
  have H_is_above : Has l.prog w K mg base 1 "is_above" ["m", "a", "b", "x", "y"] spIsAb := ⟨_, _, ok_is_above F14 T , b14, k14, PySem.W.mg_of X G a14⟩
  have H_is_side : Has l.prog w K mg base 2 "is_side" ["m", "a", "b", "side"] spIsSd := ⟨_, _, ok_is_side F15 T H_end_of H_is_above, b15, k15, PySem.W.mg_of X G a15⟩
  have H_is_seven : Has l.prog w K mg base 2 "is_seven" ["thing"] spSevenG := ⟨_, _, ok_is_seven F12 T H_is_whole, b12, k12, PySem.W.mg_of X G a12⟩
  have H_is_paper : Has l.prog w K mg base 5 "is_paper" ["n", "m", "a", "b", "thing"] spIsPapG := ⟨_, _, ok_is_paper F17 T H_need_line H_goes_on H_end_of H_is_side H_is_seven, b17, k17, PySem.W.mg_of X G a17⟩
  have H__law_put : Has l.prog w K mg base 1 "_law_put" ["_law_rows_here", "_law_at", "_law_row"] spPut := ⟨_, _, ok__law_put F33 T , b33, k33, PySem.W.mg_of X G a33⟩
  have H__law_odd : Has l.prog w K mg base 2 "_law_odd" ["_law_rows_here", "_law_at"] spOdd := ⟨_, _, ok__law_odd F37 T H__law_put, b37, k37, PySem.W.mg_of X G a37⟩
  have H__law_asked : Has l.prog w K mg base 6 "_law_asked" ["_law_line_here", "_law_thing"] spAskD := ⟨_, _, ok__law_asked F39 T H_is_paper H__law_paper, b39, k39, PySem.W.mg_of X G a39⟩
  have H__law_joined : Has l.prog w K mg base 3 "_law_joined" ["_law_rows_here", "_law_first", "_law_last"] spJoined := ⟨_, _, ok__law_joined F35 T H__law_beside, b35, k35, PySem.W.mg_of X G a35⟩
  have H__law_parted : Has l.prog w K mg base 1 "_law_parted" ["_law_row"] spParted := ⟨_, _, ok__law_parted F34 T , b34, k34, PySem.W.mg_of X G a34⟩
  have H__law_forged : Has l.prog w K mg base 4 "_law_forged" ["_law_rows_here", "_law_at"] spForged := ⟨_, _, ok__law_forged F36 T H__law_joined H__law_put H__law_parted, b36, k36, PySem.W.mg_of X G a36⟩
  exact ok_law F40 T H__law_pools H__law_line H__law_own H_paper H__law_take H__law_longer H__law_paper H_is_paper H__law_odd H__law_asked H__law_forged
theorem walk {l : PySem.W.OpenLaw} {q : Program} {loose : List Str} {XP : (Str → Option Value) → Heap → Prop} {YP : World → Heap → Prop} {d : DefRec} {K : Params → PySem.W.Frag} (hn : l.most = some 63) (hdf : d.params.defaults = [])
    (hY : ∀ (w : World) (h : Heap), YP w h → (K w.params).In h)
    (F : ∀ (w : World) (mg : Str → Option Value) (fa : Addr) (h : Heap), (K w.params).In h → h.Ns mainGlobals mg → mg d.name = some (.ref fa) →
      ∃ fd : FuncData, (∀ (s : Shared) (u : Value), BindsTo s fd ⟨[u], []⟩ [("_law_script", u)]) ∧ ∀ base : Heap, (K w.params).In base → base.Ns mainGlobals mg → FnOk l.prog w (K w.params) mg base CX0 7 fa fd ["_law_script"] (spLaw (K w.params))) :
    PySem.W.WalkO q loose XP YP l.row.toRowW d [] (fun f vs => PySem.call f vs) :=
  L2.walk_of (n := 63) (k := 7) (x := "_law_script") (CX := fun _ => CX0) (sp := fun w => spLaw (K w.params)) hn (by decide) hdf ⟨rfl, by decide, by decide, rfl⟩ hY F (fun _ _ a ns hl _ hS => ⟨a, ns, rfl, hS, hl, fun _ => rfl⟩) fun _ _ _ _ _ z => z
end Ow
open PySem PySem.W PyProof.Rows
def PySem.W.Fast.tw2251955515068253482 : Nat := 0
def PySem.W.Fast.tw14932939565919201513 : Nat := 0
def PySem.W.Fast.tw2050639798941085172 : Nat := 0
def PySem.W.Fast.tw298638274579494516 : Nat := 0
def PySem.W.Fast.tw5123358625895987685 : Nat := 0
def PySem.W.Fast.tw9497082265042841684 : Nat := 0
def PySem.W.Fast.tw14460231776803811136 : Nat := 0
def PySem.W.Fast.tw15423485423552469619 : Nat := 0
def PySem.W.Fast.tw6829088027499954475 : Nat := 0
def PySem.W.Fast.tw1900882284376854388 : Nat := 0
def PySem.W.Fast.tw6940497836177957006 : Nat := 0
def PySem.W.Fast.tw14941860548096242058 : Nat := 0
def PySem.W.Fast.tw4657498806300956771 : Nat := 0
def PySem.W.Fast.tw11710322400594315856 : Nat := 0
def PySem.W.Fast.tw6838314674150970457 : Nat := 0
def PySem.W.Fast.tw457585456985541347 : Nat := 0
set_option maxRecDepth 100000 in
set_option maxHeartbeats 0 in
theorem PySem.Challenge.cw_overwise_k43_papers_forged_holds : PySem.Challenge.rw_overwise_k43_papers_forged.Holds := by
  w_on; o_law; k_head; (case hw => w_witness2)
  k_fill
  refine Ow.walk (l := PySem.Challenge.rw_overwise_k43_papers_forged) rfl rfl (fun w h Y => PySem.W.kIn_of Y) ?F
  case F =>
    intro w mg fa h KX G hmg
    refine' Ow.all_mk KX G hmg ?a1 ?l1 ?c1 ?k1 ?a2 ?l2 ?c2 ?k2 ?a3 ?l3 ?c3 ?k3 ?a4 ?l4 ?c4 ?k4 ?a5 ?l5 ?c5 ?k5 ?a6 ?l6 ?c6 ?k6 ?a7 ?l7 ?c7 ?k7 ?a8 ?l8 ?c8 ?k8 ?a9 ?l9 ?c9 ?k9 ?a10 ?l10 ?c10 ?k10 ?a11 ?l11 ?c11 ?k11 ?a12 ?l12 ?c12 ?k12 ?a13 ?l13 ?c13 ?k13 ?a14 ?l14 ?c14 ?k14 ?a15 ?l15 ?c15 ?k15 ?a16 ?l16 ?c16 ?k16 ?a17 ?l17 ?c17 ?k17 ?a18 ?l18 ?c18 ?k18 ?a19 ?l19 ?c19 ?k19 ?a20 ?l20 ?c20 ?k20 ?a21 ?l21 ?c21 ?k21 ?a22 ?l22 ?c22 ?k22 ?a23 ?l23 ?c23 ?k23 ?a24 ?l24 ?c24 ?k24 ?a25 ?l25 ?c25 ?k25 ?a26 ?l26 ?c26 ?k26 ?a27 ?l27 ?c27 ?k27 ?a28 ?l28 ?c28 ?k28 ?a29 ?l29 ?c29 ?k29 ?a30 ?l30 ?c30 ?k30 ?a31 ?l31 ?c31 ?k31 ?a32 ?l32 ?c32 ?k32 ?a33 ?l33 ?c33 ?k33 ?a34 ?l34 ?c34 ?k34 ?a35 ?l35 ?c35 ?k35 ?a36 ?l36 ?c36 ?k36 ?a37 ?l37 ?c37 ?k37 ?a38 ?l38 ?c38 ?k38 ?a39 ?l39 ?c39 ?k39 ?a40 ?l40 ?c40 ?k40        ?z_isinstance ?z_int ?z_bool ?z_list ?z_tuple ?z_len ?z_max ?z_min ?z_range ?z_sorted ?z_set ?z_abs ?z_all ?z_enumerate ?z_str
    (case a1 => k_is); (case l1 => k_is); (case c1 => k_is); (case k1 => k_is)
    (case a2 => k_is); (case l2 => k_is); (case c2 => k_is); (case k2 => k_is)
    (case a3 => k_is); (case l3 => k_is); (case c3 => k_is); (case k3 => k_is)
    (case a4 => k_is); (case l4 => k_is); (case c4 => k_is); (case k4 => k_is)
    (case a5 => k_is); (case l5 => k_is); (case c5 => k_is); (case k5 => k_is)
    (case a6 => k_is); (case l6 => k_is); (case c6 => k_is); (case k6 => k_is)
    (case a7 => k_is); (case l7 => k_is); (case c7 => k_is); (case k7 => k_is)
    (case a8 => k_is); (case l8 => k_is); (case c8 => k_is); (case k8 => k_is)
    (case a9 => k_is); (case l9 => k_is); (case c9 => k_is); (case k9 => k_is)
    (case a10 => k_is); (case l10 => k_is); (case c10 => k_is); (case k10 => k_is)
    (case a11 => k_is); (case l11 => k_is); (case c11 => k_is); (case k11 => k_is)
    (case a12 => k_is); (case l12 => k_is); (case c12 => k_is); (case k12 => k_is)
    (case a13 => k_is); (case l13 => k_is); (case c13 => k_is); (case k13 => k_is)
    (case a14 => k_is); (case l14 => k_is); (case c14 => k_is); (case k14 => k_is)
    (case a15 => k_is); (case l15 => k_is); (case c15 => k_is); (case k15 => k_is)
    (case a16 => k_is); (case l16 => k_is); (case c16 => k_is); (case k16 => k_is)
    (case a17 => k_is); (case l17 => k_is); (case c17 => k_is); (case k17 => k_is)
    (case a18 => k_is); (case l18 => k_is); (case c18 => k_is); (case k18 => k_is)
    (case a19 => k_is); (case l19 => k_is); (case c19 => k_is); (case k19 => k_is)
    (case a20 => k_is); (case l20 => k_is); (case c20 => k_is); (case k20 => k_is)
    (case a21 => k_is); (case l21 => k_is); (case c21 => k_is); (case k21 => k_is)
    (case a22 => k_is); (case l22 => k_is); (case c22 => k_is); (case k22 => k_is)
    (case a23 => k_is); (case l23 => k_is); (case c23 => k_is); (case k23 => k_is)
    (case a24 => k_is); (case l24 => k_is); (case c24 => k_is); (case k24 => k_is)
    (case a25 => k_is); (case l25 => k_is); (case c25 => k_is); (case k25 => k_is)
    (case a26 => k_is); (case l26 => k_is); (case c26 => k_is); (case k26 => k_is)
    (case a27 => k_is); (case l27 => k_is); (case c27 => k_is); (case k27 => k_is)
    (case a28 => k_is); (case l28 => k_is); (case c28 => k_is); (case k28 => k_is)
    (case a29 => k_is); (case l29 => k_is); (case c29 => k_is); (case k29 => k_is)
    (case a30 => k_is); (case l30 => k_is); (case c30 => k_is); (case k30 => k_is)
    (case a31 => k_is); (case l31 => k_is); (case c31 => k_is); (case k31 => k_is)
    (case a32 => k_is); (case l32 => k_is); (case c32 => k_is); (case k32 => k_is)
    (case a33 => k_is); (case l33 => k_is); (case c33 => k_is); (case k33 => k_is)
    (case a34 => k_is); (case l34 => k_is); (case c34 => k_is); (case k34 => k_is)
    (case a35 => k_is); (case l35 => k_is); (case c35 => k_is); (case k35 => k_is)
    (case a36 => k_is); (case l36 => k_is); (case c36 => k_is); (case k36 => k_is)
    (case a37 => k_is); (case l37 => k_is); (case c37 => k_is); (case k37 => k_is)
    (case a38 => k_is); (case l38 => k_is); (case c38 => k_is); (case k38 => k_is)
    (case a39 => k_is); (case l39 => k_is); (case c39 => k_is); (case k39 => k_is)
    (case a40 => k_is); (case l40 => k_is); (case c40 => k_is); (case k40 => k_is)
    (case z_isinstance => k_is)
    (case z_int => k_is)
    (case z_bool => k_is)
    (case z_list => k_is)
    (case z_tuple => k_is)
    (case z_len => k_is)
    (case z_max => k_is)
    (case z_min => k_is)
    (case z_range => k_is)
    (case z_sorted => k_is)
    (case z_set => k_is)
    (case z_abs => k_is)
    (case z_all => k_is)
    (case z_enumerate => k_is)
    (case z_str => k_is)
