import PyProof.Rows.All
import Wide.All
import OpenK.AllK
import Wide.FinOn
import Lean
import PyProof.EqAt
import PyProof.EqKinds
import PyProof.TupleCall
import KE.BitLaws
import KE.IntBitsLaws
import KE.KIntText
import PySem.Challenge.RW_overwise_k06_refusals_apart
set_option Elab.async false
set_option linter.all false
set_option maxRecDepth 100000
namespace L2
open PySem PySem.Spec PyProof.Rows
abbrev Key := Sum Int Str
def keyIs : Key → Value → Bool
  | .inl k, v => Value.isInt k v
  | .inr x, v => Value.isStrOf x v
def keyH (w : World) : Key → Int
  | .inl k => hashInt k
  | .inr x => hashStr w x
theorem keyIs_shape : ∀ {k : Key} {v : Value}, keyIs k v = true → (∃ i t, k = Sum.inl i ∧ v = Value.int i t) ∨ (∃ x t, k = Sum.inr x ∧ v = Value.str x t)
  | .inl i, v, h => by
    obtain ⟨t, e⟩ := Value.isInt_shape (k := i) (v := v) h
    exact .inl ⟨i, t, rfl, e⟩
  | .inr x, v, h => by
    obtain ⟨t, e⟩ := Value.isStrOf_shape (x := x) (v := v) h
    exact .inr ⟨x, t, rfl, e⟩
theorem keyIs_str (x : Str) (t : Tok) : keyIs (.inr x) (.str x t) = true := by simp [keyIs, Value.isStrOf]
theorem key_ll (a b : Int) : decide ((Sum.inl a : Key) = Sum.inl b) = (a == b) := by
  by_cases e : a = b
  · subst e; simp
  · have h : ¬ (Sum.inl a : Key) = Sum.inl b := fun q => e (Sum.inl.inj q)
    rw [decide_eq_false h]
    exact (beq_eq_false_iff_ne.mpr e).symm
theorem key_rr (a b : Str) : decide ((Sum.inr a : Key) = Sum.inr b) = decide (a = b) := by
  by_cases e : a = b
  · subst e; simp
  · have h : ¬ (Sum.inr a : Key) = Sum.inr b := fun q => e (Sum.inr.inj q)
    rw [decide_eq_false h, decide_eq_false e]
theorem key_lr (a : Int) (b : Str) : decide ((Sum.inl a : Key) = Sum.inr b) = false := decide_eq_false (fun q => nomatch q)
theorem key_rl (a : Str) (b : Int) : decide ((Sum.inr a : Key) = Sum.inl b) = false := decide_eq_false (fun q => nomatch q)
def mixKind (prog : Program) (w : World) : PySem.KeyKind prog w Key where
  is := keyIs
  hash := keyH w
  inj := fun v a b ha hb => by
    rcases keyIs_shape ha with ⟨i, t, rfl, rfl⟩ | ⟨x, t, rfl, rfl⟩
    · rcases keyIs_shape hb with ⟨j, u, rfl, e⟩ | ⟨y, u, rfl, e⟩
      · injection e with e1 _; rw [e1]
      · exact nomatch e
    · rcases keyIs_shape hb with ⟨j, u, rfl, e⟩ | ⟨y, u, rfl, e⟩
      · exact nomatch e
      · injection e with e1 _; rw [e1]
  byValue := fun k v h => by
    rcases keyIs_shape h with ⟨i, t, rfl, rfl⟩ | ⟨x, t, rfl, rfl⟩ <;> rfl
  pyHash := fun hv h => by
    rcases keyIs_shape hv with ⟨i, t, rfl, rfl⟩ | ⟨x, t, rfl, rfl⟩
    · exact wpAny_pyHash_int h
    · exact wpAny_pyHash_str h
  eqBool := fun hu hv h => by
    rcases keyIs_shape hu with ⟨i, t, rfl, rfl⟩ | ⟨x, t, rfl, rfl⟩
    · rcases keyIs_shape hv with ⟨j, u, rfl, rfl⟩ | ⟨y, u, rfl, rfl⟩
      · rw [key_ll] at h; exact wpAny_eqBool_int h
      · rw [key_lr] at h; exact SeqAt.EqAt.int_str i t y u _ _ _ _ h
    · rcases keyIs_shape hv with ⟨j, u, rfl, rfl⟩ | ⟨y, u, rfl, rfl⟩
      · rw [key_rl] at h; exact SeqAt.EqAt.str_int x t j u _ _ _ _ h
      · rw [key_rr] at h; exact wpAny_eqBool_str h
  «strs» := fun k x t v h => by
    rcases keyIs_shape h with ⟨i, u, rfl, e⟩ | ⟨y, u, rfl, e⟩
    · exact nomatch e
    · injection e with e1 _
      subst e1
      cases v <;> rfl
theorem mixKind_str (prog : Program) (w : World) (x : Str) (t : Tok) : (mixKind prog w).is (.inr x) (.str x t) = true := keyIs_str x t
end L2
namespace L2
open PySem PySem.Spec PyProof.Rows
inductive V where
  | non | bl (b : Bool) | int (i : Int) | str (x : Str) | byt (b : Array UInt8) | flt (b : UInt64) | ref (a : Addr) | ty (n : String)
  deriving DecidableEq
def RelV : V → Value → Prop
  | .non, u => u = Value.none
  | .bl b, u => u = Value.bool b
  | .int i, u => ∃ t, u = Value.int i t
  | .str x, u => ∃ t, u = Value.str x t
  | .byt b, u => ∃ t, u = Value.bytes b t
  | .flt b, u => ∃ t, u = Value.float b t
  | .ref a, u => u = Value.ref a
  | .ty n, u => u = Value.type n
abbrev Vals : List V → List Value → Prop := Paired RelV
theorem Vals.length {xs : List V} {us : List Value} (r : Vals xs us) : xs.length = us.length := Paired.length r
theorem Vals.get : ∀ {xs : List V} {us : List Value} {i : Nat} {x : V}, Vals xs us → xs[i]? = some x → ∃ u, us[i]? = some u ∧ RelV x u
  | _, _, _, _, .nil, e => by simp at e
  | _, _, 0, _, .cons r _, e => by simp at e; subst e; exact ⟨_, rfl, r⟩
  | _, _, i + 1, x, .cons _ t, e => by
    obtain ⟨u, h1, h2⟩ := Vals.get (i := i) (x := x) t (by simpa using e)
    exact ⟨u, by simpa using h1, h2⟩
theorem Vals.set {x : V} {u : Value} (r : RelV x u) : ∀ {xs : List V} {us : List Value} (i : Nat), Vals xs us → Vals (xs.set i x) (us.set i u)
  | _, _, _, .nil => .nil
  | _, _, 0, .cons _ t => .cons r t
  | _, _, i + 1, .cons q t => .cons q (Vals.set r i t)
theorem Vals.append : ∀ {xs ys : List V} {us ws : List Value}, Vals xs us → Vals ys ws → Vals (xs ++ ys) (us ++ ws)
  | _, _, _, _, .nil, s => s
  | _, _, _, _, .cons r t, s => .cons r (Vals.append t s)
def RelO : Option V → Option Value → Prop
  | some v, some u => RelV v u
  | none, none => True
  | _, _ => False
def KV {κ : Type} : List (κ × V) → List (κ × Value) → Prop := Paired fun (p : κ × V) (q : κ × Value) => p.1 = q.1 ∧ RelV p.2 q.2
def kV : Key → V
  | .inl i => .int i
  | .inr x => .str x
inductive HO where
  /-- a list -/
  | lst (xs : List V)
  /-- a tuple (never changes) -/
  | tup (xs : List V)
  /-- a dict whose keys are ints and texts; one whose keys are tuples of ints and texts (the empty one is both) -/
  | dK (kvs : List (Key × V)) | dT (kvs : List (List Key × V))
  /-- a set of ints: its members, its size -/
  | set (S : Int → Bool) (n : Nat)
  /-- an instance of the class at C, its dict at dx, its attributes -/
  | ins (C dx : Addr) (fs : List (Str × V))
  /-- the dict of the instance at x -/
  | own (x : Addr)
  /-- the dict of an exception -/
  | xd (fs : List (Str × V))
  /-- a bound method, f of x -/
  | met (f x : Addr)
  /-- a range object lo, lo + 1, .. below hi -/
  | rng (lo hi : Int)
  /-- a thing that is known to the object (the script; a dict while a loop walks it): read, never written while it is so -/
  | frz (o : Obj) (u : HO)
  /-- a code object's table -/
  | tbl (ps : Array Value)
  /-- any other thing, by what is true of its one object (a def of one's own: SetO a S n := HO.ext fun h => ..) -/
  | ext (φ : Heap → Prop)
abbrev Hp := Addr → Option HO
def upd (H : Hp) (a : Addr) (o : HO) : Hp := fun b => if b = a then some o else H b
theorem upd_same {H : Hp} {a : Addr} {o : HO} : upd H a o a = some o := by unfold upd; rw [if_pos rfl]
theorem upd_ne {H : Hp} {a b : Addr} {o : HO} (h : b ≠ a) : upd H a o b = H b := by unfold upd; rw [if_neg h]
theorem ne_of_none {H : Hp} {a b : Addr} {o : HO} (h : H a = some o) (h' : H b = none) : a ≠ b := by
  intro e; subst e; rw [h] at h'; cases h'
section
variable (P : Program) (w : World)
def ObjOk (H : Hp) (h : Heap) (a : Addr) : HO → Prop
  | .lst xs => xs.length ≤ sizeLine ∧ ∃ (its : List Value) (n : Nat), Vals xs its ∧ h.get? a = some { cls := .type "list", data := .seq its.toArray n }
  | .tup xs => xs.length ≤ sizeLine ∧ ∃ its : List Value, Vals xs its ∧ IsTup h a its.toArray
  | .dK kvs => kvs.length ≤ sizeLine ∧ (a == sysModules) = false ∧ ∃ vs, KV kvs vs ∧ h.DictOf (mixKind P w) a vs
  | .dT kvs => kvs.length ≤ sizeLine ∧ (a == sysModules) = false ∧ ∃ xs : List (List Key × Addr × Value),
      Paired (fun (p : List Key × V) (q : List Key × Addr × Value) => p.1 = q.1 ∧ H q.2.1 = some (.tup (p.1.map kV)) ∧ RelV p.2 q.2.2) kvs xs ∧
      ∃ o es ep, h.get? a = some o ∧ o.ExactDict ∧ o.data = .dict es ep ∧ es.toList = xs.map (entryOfKey (tupleKind (mixKind P w))) ∧ (xs.map (·.1)).Nodup
  | .set S n => h.SetOf (intKind P w) a S n
  | .ins C dx fs => H dx = some (.own a) ∧ fs.length ≤ 1000 ∧ dx ≠ a ∧ h.get? a = some (PySem.W.instObj C dx) ∧
      ∃ mA, h.Ns1 dx mA ∧ (∀ f, RelO (fs.lookup f) (mA f)) ∧ PySem.Within mA (fs.map (·.1))
  | .own _ => ∃ o, h.get? a = some o
  | .xd fs => ∃ mA, h.Ns1 a mA ∧ ∀ f, RelO (fs.lookup f) (mA f)
  | .rng lo hi => ∃ t u v, h.get? a = some { cls := .type "range", data := .fields #[.int lo t, .int hi u, .int 1 v] }
  | .frz o u => h.get? a = some o ∧ ObjOk H h a u
  | .tbl ps => h.get? a = some { cls := .none, data := .fields ps }
  | .met f x => h.get? a = some (PySem.W.methodObj (.ref f) (.ref x))
  | .ext φ => φ h ∧ (∃ o, h.get? a = some o) ∧ ∀ h1 h2 : Heap, φ h1 → (∀ o, h1.get? a = some o → h2.get? a = some o) → φ h2
def HOk (H : Hp) (h : Heap) : Prop := ∀ a o, H a = some o → ObjOk P w H h a o
end
section
variable {P : Program} {w : World} {H H' : Hp} {h h' : Heap} {a : Addr} {o : HO}
theorem ObjOk.lt (x : ObjOk P w H h a o) : a < h.objs.size := by
  cases o with
  | lst xs => obtain ⟨_, _, _, _, e⟩ := x; exact Heap.lt_size e
  | tup xs => obtain ⟨_, _, _, p⟩ := x; exact p.lt
  | dK kvs => obtain ⟨_, _, _, _, o, _, _, e, _⟩ := x; exact Heap.lt_size e
  | dT kvs => obtain ⟨_, _, _, _, o, _, _, e, _⟩ := x; exact Heap.lt_size e
  | set S n => obtain ⟨o, _, _, _, e, _⟩ := x; exact Heap.lt_size e
  | ins C dx fs => obtain ⟨_, _, _, e, _⟩ := x; exact Heap.lt_size e
  | own y => obtain ⟨_, e⟩ := x; exact Heap.lt_size e
  | xd fs => obtain ⟨_, ⟨_, _, _, e, _⟩, _⟩ := x; exact Heap.lt_size e
  | rng lo hi => obtain ⟨_, _, _, e⟩ := x; exact Heap.lt_size e
  | frz ob u => obtain ⟨e, _⟩ := x; exact Heap.lt_size e
  | tbl ps => exact Heap.lt_size (show h.get? a = some _ from x)
  | met f y => exact Heap.lt_size (show h.get? a = some _ from x)
  | ext φ => obtain ⟨_, ⟨_, e⟩, _⟩ := x; exact Heap.lt_size e
theorem Paired.mapP {α β : Type} {F G : α → β → Prop} : ∀ {l₁ : List α} {l₂ : List β}, Paired F l₁ l₂ → (∀ a b, F a b → G a b) → Paired G l₁ l₂
  | _, _, .nil, _ => .nil
  | _, _, .cons r t, f => .cons (f _ _ r) (Paired.mapP t f)
theorem ObjOk.stay (x : ObjOk P w H h a o) (k : ∀ b u, (b = a ∨ H b = some (.own a)) → h.get? b = some u → h'.get? b = some u)
    (ho : ∀ b, H b = some (.own a) → H' b = some (.own a)) (ht : ∀ b xs, H b = some (.tup xs) → H' b = some (.tup xs)) : ObjOk P w H' h' a o := by
  induction o with
  | lst xs => obtain ⟨z, its, n, r, e⟩ := x; exact ⟨z, its, n, r, k _ _ (.inl rfl) e⟩
  | tup xs => obtain ⟨z, its, r, ob, e, c⟩ := x; exact ⟨z, its, r, ob, k _ _ (.inl rfl) e, c⟩
  | dK kvs => obtain ⟨z, y, vs, r, ob, es, ep, e, c⟩ := x; exact ⟨z, y, vs, r, ob, es, ep, k _ _ (.inl rfl) e, c⟩
  | dT kvs =>
    obtain ⟨z, y, xs, r, ob, es, ep, e, c⟩ := x
    exact ⟨z, y, xs, Paired.mapP r fun p q z => ⟨z.1, ht _ _ z.2.1, z.2.2⟩, ob, es, ep, k _ _ (.inl rfl) e, c⟩
  | set S n => obtain ⟨ob, es, ep, t, e, c⟩ := x; exact ⟨ob, es, ep, t, k _ _ (.inl rfl) e, c⟩
  | ins C dx fs =>
    obtain ⟨d, z, ne, e, mA, ⟨od, es, ep, e2, c⟩, r⟩ := x
    exact ⟨ho _ d, z, ne, k _ _ (.inl rfl) e, mA, ⟨od, es, ep, k _ _ (.inr d) e2, c⟩, r⟩
  | own y => obtain ⟨ob, e⟩ := x; exact ⟨ob, k _ _ (.inl rfl) e⟩
  | xd fs => obtain ⟨mA, ⟨od, es, ep, e, c⟩, r⟩ := x; exact ⟨mA, ⟨od, es, ep, k _ _ (.inl rfl) e, c⟩, r⟩
  | rng lo hi => obtain ⟨t, u, v, e⟩ := x; exact ⟨t, u, v, k _ _ (.inl rfl) e⟩
  | frz ob u ih => obtain ⟨e, q⟩ := x; exact ⟨k _ _ (.inl rfl) e, ih q⟩
  | tbl ps =>
    have e : h.get? a = some { cls := .none, data := .fields ps } := x
    show h'.get? a = some { cls := .none, data := .fields ps }
    exact k a _ (.inl rfl) e
  | met f y =>
    have e : h.get? a = some (PySem.W.methodObj (.ref f) (.ref y)) := x
    show h'.get? a = some (PySem.W.methodObj (.ref f) (.ref y))
    exact k a _ (.inl rfl) e
  | ext φ => obtain ⟨p, ⟨o, e⟩, st⟩ := x; exact ⟨st _ _ p fun o q => k _ _ (.inl rfl) q, ⟨o, k _ _ (.inl rfl) e⟩, st⟩
theorem HOk.lt (x : HOk P w H h) (e : H a = some o) : a < h.objs.size := (x a o e).lt
theorem HOk.fresh (x : HOk P w H h) (e : h.objs.size ≤ a) : H a = none := by
  cases q : H a with
  | none => rfl
  | some u => exact absurd (Nat.lt_of_lt_of_le (x.lt q) e) (Nat.lt_irrefl _)
theorem HOk.kept (x : HOk P w H h) (k : ∀ b u, h.get? b = some u → h'.get? b = some u) : HOk P w H h' := fun a o e =>
  (x a o e).stay (fun b u _ q => k b u q) (fun _ q => q) fun _ _ q => q
theorem HOk.laid (x : HOk P w H h) (k : ∀ b u, h.get? b = some u → h'.get? b = some u) (hp : h.objs.size ≤ a) (new : ObjOk P w (upd H a o) h' a o) : HOk P w (upd H a o) h' := fun b u e => by
  have hn := x.fresh hp
  by_cases hb : b = a
  · subst hb; rw [upd_same] at e; cases e; exact new
  · rw [upd_ne hb] at e
    exact (x b u e).stay (fun c v _ q => k c v q) (fun c q => by rw [upd_ne (ne_of_none q hn)]; exact q) fun c xs q => by rw [upd_ne (ne_of_none q hn)]; exact q
end
def Rd (H : Hp) (a : Addr) (u : HO) : Prop := H a = some u ∨ ∃ o, H a = some (.frz o u)
theorem Rd.ok {P : Program} {w : World} {H : Hp} {h : Heap} {a : Addr} {u : HO} (r : Rd H a u) (x : HOk P w H h) : ObjOk P w H h a u := by
  rcases r with r | ⟨o, r⟩
  · exact x a u r
  · obtain ⟨_, q⟩ := x a _ r
    exact q
def Mut : Option HO → Prop
  | some (.lst _) => True
  | some (.dK _) => True
  | some (.dT _) => True
  | some (.set _ _) => True
  | some (.ins _ _ _) => True
  | some (.ext _) => True
  | _ => False
section
variable {P : Program} {w : World} {H : Hp} {h h' : Heap} {x e : Addr} {o' : HO}
theorem HOk.write (ok : HOk P w H h) (mu : Mut (H x)) (he : e = x ∨ H e = some (.own x)) (k : ∀ b u, b ≠ e → h.get? b = some u → h'.get? b = some u) (heo : ∃ u, h'.get? e = some u)
    (new : ObjOk P w (upd H x o') h' x o') : HOk P w (upd H x o') h' := fun b u q => by
  have nown : ∀ c y, H c = some (.own y) → c ≠ x := fun c y r z => by subst z; rw [r] at mu; exact mu
  have ntup : ∀ c xs, H c = some (.tup xs) → c ≠ x := fun c xs r z => by subst z; rw [r] at mu; exact mu
  by_cases hb : b = x
  · subst hb; rw [upd_same] at q; cases q; exact new
  · rw [upd_ne hb] at q
    by_cases hbe : b = e
    · have q' : H b = some (.own x) := by
        rcases he with z | z
        · exact absurd (hbe.trans z) hb
        · rw [hbe]; exact z
      rw [q] at q'; cases q'
      obtain ⟨v, hv⟩ := heo
      exact ⟨v, by rw [hbe]; exact hv⟩
    · refine (ok b u q).stay (fun c v hc r => k c v ?_ r) (fun c r => by rw [upd_ne (nown c b r)]; exact r) fun c xs r => by rw [upd_ne (ntup c xs r)]; exact r
      rcases hc with rfl | hc
      · exact hbe
      · rintro rfl
        rcases he with z | z
        · exact nown c b hc z
        · rw [hc] at z; cases z; exact hb rfl
end
structure Un (fs ex : List Addr) (H H' : Hp) (h h' : Heap) : Prop where
  keep : ∀ b o, h.get? b = some o → H b = none → b ∉ fs → b ∉ ex → h'.get? b = some o
  slot : ∀ b o, h.get? b = some o → H b = none → b ∈ fs → b ∉ ex → ∃ sl, h'.get? b = some { o with slots := sl }
  free : ∀ b o, h.get? b = some o → H b = none → b ∉ ex → H' b = none
  there : ∀ b o, h.get? b = some o → b ∉ ex → ∃ o', h'.get? b = some o'
  tups : ∀ b xs, H b = some (.tup xs) → H' b = some (.tup xs)
  frzs : ∀ b o u, H b = some (.frz o u) → H' b = some (.frz o u)
  tbls : ∀ b ps, H b = some (.tbl ps) → ∃ more, H' b = some (.tbl (ps ++ more))
section
variable {fs fs' ex ex' : List Addr} {H H1 H2 : Hp} {h h1 h2 h' : Heap} {a x e : Addr} {o : HO}
theorem Un.any (u : Un fs ex H H1 h h1) {b : Addr} {ob : Obj} (q : h.get? b = some ob) (n : H b = none) (hx : b ∉ ex) : ∃ sl, h1.get? b = some { ob with slots := sl } := by
  by_cases hb : b ∈ fs
  · exact u.slot b ob q n hb hx
  · exact ⟨ob.slots, u.keep b ob q n hb hx⟩
theorem Un.kept (k : ∀ b u, h.get? b = some u → h'.get? b = some u) : Un fs ex H H h h' :=
  ⟨fun b ob q _ _ _ => k b ob q, fun b ob q _ _ _ => ⟨ob.slots, k b ob q⟩, fun _ _ _ n _ => n, fun b ob q _ => ⟨ob, k b ob q⟩, fun _ _ q => q, fun _ _ _ q => q, fun _ ps q => ⟨#[], by rw [q]; simp⟩⟩
theorem Un.refl : Un fs ex H H h h := Un.kept fun _ _ q => q
theorem Un.laid (k : ∀ b u, h.get? b = some u → h'.get? b = some u) (hp : h.objs.size ≤ a) (hn : H a = none) : Un fs ex H (upd H a o) h h' where
  keep := fun b u q _ _ _ => k b u q
  slot := fun b u q _ _ _ => ⟨u.slots, k b u q⟩
  free := fun b u q n _ => by rw [upd_ne (Nat.ne_of_lt (Nat.lt_of_lt_of_le (Heap.lt_size q) hp))]; exact n
  there := fun b u q _ => ⟨u, k b u q⟩
  tups := fun b xs q => by rw [upd_ne (ne_of_none q hn)]; exact q
  frzs := fun b u xs q => by rw [upd_ne (ne_of_none q hn)]; exact q
  tbls := fun b ps q => ⟨#[], by rw [upd_ne (ne_of_none q hn), q]; simp⟩
theorem Un.write (mu : Mut (H x)) (he : e = x ∨ H e = some (.own x)) (k : ∀ b u, b ≠ e → h.get? b = some u → h'.get? b = some u) (heo : ∃ u, h'.get? e = some u) : Un fs ex H (upd H x o) h h' := by
  have hx : ∀ b, H b = none → b ≠ x := fun b n z => by subst z; rw [n] at mu; exact mu
  have hb : ∀ b, H b = none → b ≠ e := fun b n z => by
    subst z
    rcases he with r | r
    · exact hx b n r
    · rw [n] at r; cases r
  have hm : ∀ b u, H b = some u → ¬ Mut (some u) → b ≠ x := fun b u q nm z => by subst z; rw [q] at mu; exact nm mu
  refine ⟨fun b u q n _ _ => k b u (hb b n) q, fun b u q n _ _ => ⟨u.slots, k b u (hb b n) q⟩, fun b u q n _ => by rw [upd_ne (hx b n)]; exact n, fun b u q _ => ?_,
    fun b xs q => by rw [upd_ne (hm b _ q fun z => z)]; exact q, fun b u xs q => by rw [upd_ne (hm b _ q fun z => z)]; exact q, fun b ps q => ⟨#[], by rw [upd_ne (hm b _ q fun z => z), q]; simp⟩⟩
  by_cases hbe : b = e
  · subst hbe; exact heo
  · exact ⟨u, k b u hbe q⟩
end
def trk (h : Heap) (H : Hp) : List Addr := (List.range h.objs.size).filter fun a => (H a).isSome
def hidT (h : Heap) (H : Hp) : Heap := PySem.W.hideAll h (trk h H)
theorem hidT_size (h : Heap) (H : Hp) : (hidT h H).objs.size = h.objs.size := PySem.W.hideAll_size _ _
theorem hidT_get {h : Heap} {H : Hp} {b : Addr} {o : Obj} (e : h.get? b = some o) (n : H b = none) : (hidT h H).get? b = some o :=
  PySem.W.hideAll_get _ e fun hm => by
    have q : (H b).isSome = true := (List.mem_filter.mp hm).2
    rw [n] at q; simp at q
theorem of_hidT {h : Heap} {H : Hp} {b : Addr} {o : Obj} (e : (hidT h H).get? b = some o) : h.get? b = some o ∧ H b = none := by
  have e' : h.get? b = some o := PySem.W.of_hideAll (trk h H) e
  refine ⟨e', ?_⟩
  cases q : H b with
  | none => rfl
  | some x =>
    have hm : b ∈ trk h H := List.mem_filter.mpr ⟨List.mem_range.mpr (Heap.lt_size e'), by simp [q]⟩
    have z : (hidT h H).get? b = none := PySem.W.hideAll_none (trk h H) hm
    rw [z] at e; cases e
end L2
namespace L2
open PySem PySem.Spec PyProof.Rows
structure Mod (K : PySem.W.Frag) (mg : Str → Option Value) (base : Heap) : Prop where
  kin : K.In base
  glob : base.Ns mainGlobals mg
  blt : ∃ mb, base.Ns builtinsNs mb ∧ ∀ x : Str, x ≠ "__name__" → mb x = bootBuiltins x
  nolimit : base.NoLimit
structure Cx where
  prog : Program
  w : World
  K : PySem.W.Frag
  mg : Str → Option Value
  base : Heap
  A : Around
  N : List Str
  s₀ : Shared
  H₀ : Hp
  env : Env
  outer : List Env
  stack : List Env
  ex : List Addr
  fn : Str → Bool
  calm : Bool
  pn : List (Addr × Obj)
  xe : Value → Shared → Prop
def frs (l : List Env) : List Addr := l.filterMap (·.frame)
abbrev Cx.fs (X : Cx) : List Addr := frs X.outer
def Vis (sc : Scope) (x : Str) : Prop := sc.names.lookup x = some .local ∨ sc.names.lookup x = some .cell ∨ sc.names.lookup x = some .free
def Loc (sc : Scope) (x : Str) : Prop := sc.names.lookup x = some .local ∨ sc.names.lookup x = some .cell
def Look (env : Env) (h : Heap) (m : Str → Option Value) (x : Str) (u : Value) : Prop :=
  (env.kindOf x = some .local ∧ m x = some u) ∨ ((env.kindOf x = some .cell ∨ env.kindOf x = some .free) ∧ ∃ c, env.cells.lookup x = some c ∧ h.IsCell c (some u))
structure Cx.Ok (X : Cx) : Prop where
  mod : Mod X.K X.mg X.base
  kind : X.env.scope.kind = .function
  glob : X.env.globals = mainGlobals
  blt : X.env.builtins = builtinsNs
  above : X.s₀.heap.objs.size ≤ X.env.locals
  inj : ∀ x y c, X.env.cells.lookup x = some c → X.env.cells.lookup y = some c → x = y
  has : ∀ x, (X.env.kindOf x = some .cell ∨ X.env.kindOf x = some .free) → ∃ c, X.env.cells.lookup x = some c
  cab : ∀ x c, X.fn x = true → X.env.cells.lookup x = some c → X.s₀.heap.objs.size ≤ c
  hd : X.calm = true → X.A.handled = none
  frames : X.A.frames = some X.stack
  stk : X.stack = X.outer ∨ (X.stack = X.env :: X.outer ∧ X.env.frame = some X.env.locals)
  exf : ∀ b ∈ X.ex, b ≠ X.env.locals ∧ ∀ x c, X.env.cells.lookup x = some c → c ≠ b
  bs : ∀ b o, X.base.get? b = some o → X.s₀.heap.get? b = some o ∧ X.H₀ b = none
  bsz : X.base.objs.size ≤ X.s₀.heap.objs.size
  noex : ∀ b o, X.base.get? b = some o → b ∉ X.ex
  exfs : ∀ b ∈ X.ex, b ∉ X.fs
  funs : X.s₀.heap.FunFrames X.base X.outer
  frf : ∀ b ∈ X.fs, X.H₀ b = none
structure Inv (X : Cx) (pins : List (Addr × Obj)) (σ : List (Option V)) (H : Hp) (s : Shared) : Prop where
  ok : X.Ok
  os : s.os = X.s₀.os
  bare : AllBare s.gens
  base : Un X.fs X.ex X.H₀ H X.s₀.heap s.heap
  loc : ∃ m, s.heap.Ns X.env.locals m ∧ ∀ (i : Nat) (x : Str) (v : V), X.N[i]? = some x → σ[i]? = some (some v) → Vis X.env.scope x → ∃ u, RelV v u ∧ Look X.env s.heap m x u
  cell : ∀ x c, X.env.cells.lookup x = some c → ∃ v, s.heap.IsCell c v
  free : H X.env.locals = none
  freeC : ∀ x c, X.env.cells.lookup x = some c → H c = none
  pin : ∀ p ∈ X.pn ++ pins, s.heap.get? p.1 = some p.2 ∧ H p.1 = none ∧ p.1 ≠ X.env.locals ∧ p.1 ∉ X.fs ∧ ∀ v, p.2.data ≠ .cell v
  hok : HOk X.prog X.w H s.heap
  len : σ.length = X.N.length
section
variable {X : Cx} {pins : List (Addr × Obj)} {σ : List (Option V)} {H H' : Hp} {s : Shared} {h' : Heap}
theorem Cx.Ok.nofr (ok : X.Ok) {b : Addr} {o : Obj} (e : X.base.get? b = some o) : b ∉ X.fs := fun hb => by
  have := (ok.funs.mem hb).1
  rw [e] at this; cases this
theorem Inv.bs (I : Inv X pins σ H s) : ∀ b o, X.base.get? b = some o → s.heap.get? b = some o ∧ H b = none := fun b o e =>
  ⟨I.base.keep b o (I.ok.bs b o e).1 (I.ok.bs b o e).2 (I.ok.nofr e) (I.ok.noex b o e), I.base.free b o (I.ok.bs b o e).1 (I.ok.bs b o e).2 (I.ok.noex b o e)⟩
theorem Inv.bk (I : Inv X pins σ H s) : ∀ b o, X.base.get? b = some o → s.heap.get? b = some o := fun b o e => (I.bs b o e).1
theorem Inv.mod (I : Inv X pins σ H s) : Mod X.K X.mg X.base := I.ok.mod
theorem Inv.kIn (I : Inv X pins σ H s) : X.K.In s.heap := I.ok.mod.kin.keeps I.bk
theorem Inv.lt (I : Inv X pins σ H s) : X.env.locals < s.heap.objs.size := let ⟨_, hn, _⟩ := I.loc; hn.lt
theorem Inv.sz (I : Inv X pins σ H s) : X.s₀.heap.objs.size ≤ s.heap.objs.size := Nat.le_trans I.ok.above (Nat.le_of_lt I.lt)
theorem Inv.nofs (I : Inv X pins σ H s) {a : Addr} (h : s.heap.objs.size ≤ a) : a ∉ X.fs := fun hb => by
  obtain ⟨_, o, ho, _⟩ := I.ok.funs.mem hb
  exact absurd (Nat.lt_of_lt_of_le (Heap.lt_size ho) (Nat.le_trans I.sz h)) (Nat.lt_irrefl _)
theorem Inv.cne (I : Inv X pins σ H s) : ∀ x c, X.env.cells.lookup x = some c → c ≠ X.env.locals := fun x c e z => by
  obtain ⟨v, o, ho, hd⟩ := I.cell x c e
  obtain ⟨m, ⟨o', es, ep, ho', hd', _⟩, _⟩ := I.loc
  rw [z, ho'] at ho; cases ho; rw [hd'] at hd; cases hd
theorem Inv.funs (I : Inv X pins σ H s) : s.heap.FunFrames X.base X.outer := by
  have all : ∀ (l : List Env), (∀ b ∈ frs l, b ∈ X.fs) → X.s₀.heap.FunFrames X.base l → s.heap.FunFrames X.base l := by
    intro l
    induction l with
    | nil => intro _ _; trivial
    | cons env r ih =>
      intro hs hl
      obtain ⟨hk, ⟨L, o, hf, hn, ho, hd⟩, hr⟩ := hl
      have hL : L ∈ X.fs := hs L (by unfold frs; rw [List.filterMap_cons, hf]; exact List.mem_cons_self)
      obtain ⟨sl, e⟩ := I.base.slot L o ho (I.ok.frf L hL) hL fun z => I.ok.exfs L z hL
      exact ⟨hk, ⟨L, _, hf, hn, e, hd⟩, ih (fun b hb => hs b (by unfold frs; rw [List.filterMap_cons, hf]; exact List.mem_cons_of_mem _ hb)) hr⟩
  exact all X.outer (fun _ hb => hb) I.ok.funs
theorem Inv.stack (I : Inv X pins σ H s) : s.heap.FunFrames X.base X.stack := by
  rcases I.ok.stk with e | ⟨e, hf⟩
  · rw [e]; exact I.funs
  · rw [e]
    obtain ⟨m, hn, _⟩ := I.loc
    refine .cons (by rw [I.ok.kind]; decide) hf hn ?_ I.funs
    exact Heap.get?_none_of_le (Nat.le_trans I.ok.bsz I.ok.above)
theorem Inv.stkSub (I : Inv X pins σ H s) : ∀ b ∈ frs X.stack, b ∈ X.env.locals :: X.fs := fun b hb => by
  rcases I.ok.stk with e | ⟨e, hf⟩
  · rw [e] at hb; exact List.mem_cons_of_mem _ hb
  · rw [e] at hb
    unfold frs at hb
    rw [List.filterMap_cons, hf] at hb
    exact hb
theorem Inv.stkFree (I : Inv X pins σ H s) : ∀ b ∈ frs X.stack, H b = none := fun b hb => by
  rcases List.mem_cons.mp (I.stkSub b hb) with e | hb
  · rw [e]; exact I.free
  · obtain ⟨_, o, ho, _⟩ := I.ok.funs.mem hb
    exact I.base.free b o ho (I.ok.frf b hb) fun z => I.ok.exfs b z hb
theorem Inv.step {g' : Array GenState} {t' : Nat} {d' : Drawn} {ch : List Addr} (I : Inv X pins σ H s)
    (hch : ∀ b ∈ ch, (b ∈ X.ex ∨ X.s₀.heap.objs.size ≤ b) ∧ b ≠ X.env.locals ∧ (∀ x c, X.env.cells.lookup x = some c → c ≠ b) ∧ ∀ p ∈ X.pn ++ pins, p.1 ≠ b)
    (keep : ∀ b o, b ≠ X.env.locals → b ∉ X.fs → b ∉ ch → s.heap.get? b = some o → H b = none → h'.get? b = some o)
    (slot : ∀ b o, b ≠ X.env.locals → b ∈ X.fs → b ∉ ch → s.heap.get? b = some o → H b = none → ∃ sl, h'.get? b = some { o with slots := sl }) (free : ∀ b o, b ∉ ch → s.heap.get? b = some o → H b = none → H' b = none)
    (there : ∀ b o, b ∉ ch → s.heap.get? b = some o → ∃ o', h'.get? b = some o')
    (tups : ∀ b xs, H b = some (.tup xs) → H' b = some (.tup xs)) (frzs : ∀ b o u, H b = some (.frz o u) → H' b = some (.frz o u)) (tbls : ∀ b ps, H b = some (.tbl ps) → ∃ more, H' b = some (.tbl (ps ++ more)))
    (ns : ∀ m, s.heap.Ns X.env.locals m → h'.Ns X.env.locals m) (hok : HOk X.prog X.w H' h') (hg : AllBare g') :
    Inv X pins σ H' { s with heap := h', gens := g', drawn := d', toks := t' } := by
  have neL : ∀ b o, X.s₀.heap.get? b = some o → b ≠ X.env.locals := fun b o e => Nat.ne_of_lt (Nat.lt_of_lt_of_le (Heap.lt_size e) I.ok.above)
  have neC : ∀ b o, X.s₀.heap.get? b = some o → b ∉ X.ex → b ∉ ch := fun b o e hx hb => by
    rcases (hch b hb).1 with z | z
    · exact hx z
    · exact absurd (Nat.lt_of_lt_of_le (Heap.lt_size e) z) (Nat.lt_irrefl _)
  have cellK : ∀ x c, X.env.cells.lookup x = some c → ∀ v, s.heap.IsCell c v → h'.IsCell c v := fun x c e v ⟨o, ho, hd⟩ => by
    have nch : c ∉ ch := fun z => (hch c z).2.2.1 x c e rfl
    by_cases hc : c ∈ X.fs
    · obtain ⟨sl, q⟩ := slot c o (I.cne x c e) hc nch ho (I.freeC x c e)
      exact ⟨_, q, hd⟩
    · exact ⟨o, keep c o (I.cne x c e) hc nch ho (I.freeC x c e), hd⟩
  refine ⟨I.ok, I.os, hg, ⟨fun b o e n hb hx => ?_, fun b o e n hb hx => ?_, fun b o e n hx => ?_, fun b o e hx => ?_, fun b xs e => tups b xs (I.base.tups b xs e), fun b o xs e => frzs b o xs (I.base.frzs b o xs e), fun b ps e => ?_⟩, ?_, fun x c e => ?_, ?_, fun x c e => ?_, fun p hp => ?_, hok, I.len⟩
  · exact keep b o (neL b o e) hb (neC b o e hx) (I.base.keep b o e n hb hx) (I.base.free b o e n hx)
  · obtain ⟨sl, e1⟩ := I.base.slot b o e n hb hx
    obtain ⟨sl', e2⟩ := slot b _ (neL b o e) hb (neC b o e hx) e1 (I.base.free b o e n hx)
    exact ⟨sl', e2⟩
  · obtain ⟨o', e1⟩ := I.base.there b o e hx
    exact free b o' (neC b o e hx) e1 (I.base.free b o e n hx)
  · obtain ⟨o', e1⟩ := I.base.there b o e hx
    exact there b o' (neC b o e hx) e1
  · obtain ⟨m1, e1⟩ := I.base.tbls b ps e
    obtain ⟨m2, e2⟩ := tbls b _ e1
    exact ⟨m1 ++ m2, by rw [e2, Array.append_assoc]⟩
  · obtain ⟨m, hn, hl⟩ := I.loc
    refine ⟨m, ns m hn, fun i x v e1 e2 e3 => ?_⟩
    obtain ⟨u, r, l⟩ := hl i x v e1 e2 e3
    refine ⟨u, r, ?_⟩
    rcases l with l | ⟨k, c, e, z⟩
    · exact .inl l
    · exact .inr ⟨k, c, e, cellK x c e _ z⟩
  · obtain ⟨v, z⟩ := I.cell x c e
    exact ⟨v, cellK x c e v z⟩
  · obtain ⟨m, ⟨o, _, _, ho, _⟩, _⟩ := I.loc
    exact free _ o (fun z => (hch _ z).2.1 rfl) ho I.free
  · obtain ⟨v, o, ho, hd⟩ := I.cell x c e
    exact free c o (fun z => (hch c z).2.2.1 x c e rfl) ho (I.freeC x c e)
  · obtain ⟨e, n, ne, nf, d⟩ := I.pin p hp
    have nch : p.1 ∉ ch := fun z => (hch p.1 z).2.2.2 p hp rfl
    exact ⟨keep p.1 p.2 ne nf nch e n, free p.1 p.2 nch e n, ne, nf, d⟩
theorem Inv.un {t' : Nat} (I : Inv X pins σ H s) (u : Un X.fs [] H H' s.heap h') (hok : HOk X.prog X.w H' h') : Inv X pins σ H' { s with heap := h', toks := t' } := by
  obtain ⟨m, ⟨o, es, ep, ho, r⟩, _⟩ := id I.loc
  obtain ⟨sl, hL⟩ := u.any ho I.free (by simp)
  exact I.step (g' := s.gens) (d' := s.drawn) (ch := []) (fun _ z => nomatch z) (fun b o _ hb _ e n => u.keep b o e n hb (by simp)) (fun b o _ hb _ e n => u.slot b o e n hb (by simp)) (fun b o _ e n => u.free b o e n (by simp)) (fun b o _ e => u.there b o e (by simp)) u.tups u.frzs u.tbls (fun m' hm => by
    obtain ⟨o', es', ep', ho', r'⟩ := hm
    rw [ho] at ho'; cases ho'
    exact ⟨_, es', ep', hL, r'⟩) hok I.bare
theorem Inv.call {g' : Array GenState} {t' : Nat} {d' : Drawn} {ch : List Addr} (I : Inv X pins σ H s) (u : Un (frs X.stack) ch H H' s.heap h') (hok : HOk X.prog X.w H' h') (hg : AllBare g')
    (hch : ∀ b ∈ ch, (b ∈ X.ex ∨ X.s₀.heap.objs.size ≤ b) ∧ b ≠ X.env.locals ∧ (∀ x c, X.env.cells.lookup x = some c → c ≠ b) ∧ ∀ p ∈ X.pn ++ pins, p.1 ≠ b) :
    Inv X pins σ H' { s with heap := h', gens := g', drawn := d', toks := t' } := by
  obtain ⟨m, ⟨o, es, ep, ho, r⟩, _⟩ := id I.loc
  obtain ⟨sl, hL⟩ := u.any ho I.free fun z => (hch _ z).2.1 rfl
  exact I.step (ch := ch) hch (fun b o hL hb hc e n => u.keep b o e n (fun z => (List.mem_cons.mp (I.stkSub b z)).elim hL hb) hc) (fun b o _ _ hc e n => u.any e n hc) (fun b o hc e n => u.free b o e n hc) (fun b o hc e => u.there b o e hc) u.tups u.frzs u.tbls (fun m' hm => by
    obtain ⟨o', es', ep', ho', r'⟩ := hm
    rw [ho] at ho'; cases ho'
    exact ⟨_, es', ep', hL, r'⟩) hok hg
theorem Inv.turned {t' : Nat} {it : Addr} (I : Inv X pins σ H s) (k : ∀ b o, b ≠ it → s.heap.get? b = some o → h'.get? b = some o) (hn : H it = none) (hL : it ≠ X.env.locals)
    (h1 : it ∈ X.ex ∨ X.s₀.heap.objs.size ≤ it) (h2 : ∀ x c, X.env.cells.lookup x = some c → c ≠ it) (h3 : ∀ p ∈ X.pn ++ pins, p.1 ≠ it) : Inv X pins σ H { s with heap := h', toks := t' } := by
  have nit : ∀ b u, H b = some u → b ≠ it := fun b u e z => by rw [z, hn] at e; cases e
  refine I.step (g' := s.gens) (d' := s.drawn) (ch := [it]) (fun b hb => ?_) (fun b o _ _ hc e _ => k b o (fun z => hc (by simp [z])) e) (fun b o _ _ hc e _ => ⟨o.slots, k b o (fun z => hc (by simp [z])) e⟩) (fun _ _ _ _ n => n)
    (fun b o hc e => ⟨o, k b o (fun z => hc (by simp [z])) e⟩) (fun _ _ e => e) (fun _ _ _ e => e) (fun b ps e => ⟨#[], by rw [e]; simp⟩) (fun m hm => ?_) (fun b u e => ?_) I.bare
  · have e : b = it := by simpa using hb
    subst e
    exact ⟨h1, hL, h2, h3⟩
  · obtain ⟨o, es, ep, ho, r⟩ := hm
    exact ⟨o, es, ep, k _ o (Ne.symm hL) ho, r⟩
  · refine (I.hok b u e).stay (fun c v hc q => k c v ?_ q) (fun _ q => q) fun _ _ q => q
    rcases hc with z | z
    · rw [z]; exact nit b u e
    · exact nit c _ z
theorem Inv.tok (I : Inv X pins σ H s) (t : Nat) : Inv X pins σ H { s with toks := t } := I.un (h' := s.heap) (t' := t) Un.refl I.hok
theorem Inv.kept {t' : Nat} (I : Inv X pins σ H s) (k : ∀ b u, s.heap.get? b = some u → h'.get? b = some u) : Inv X pins σ H { s with heap := h', toks := t' } := I.un (Un.kept k) (I.hok.kept k)
theorem Inv.laid {a : Addr} {o : HO} {t' : Nat} (I : Inv X pins σ H s) (k : ∀ b u, s.heap.get? b = some u → h'.get? b = some u) (hp : s.heap.objs.size ≤ a) (new : ObjOk X.prog X.w (upd H a o) h' a o) :
    Inv X pins σ (upd H a o) { s with heap := h', toks := t' } := I.un (Un.laid k hp (I.hok.fresh hp)) (I.hok.laid k hp new)
theorem Inv.write {x e : Addr} {o : HO} {t' : Nat} (I : Inv X pins σ H s) (mu : Mut (H x)) (he : e = x ∨ H e = some (.own x)) (k : ∀ b u, b ≠ e → s.heap.get? b = some u → h'.get? b = some u) (heo : ∃ u, h'.get? e = some u)
    (new : ObjOk X.prog X.w (upd H x o) h' x o) : Inv X pins σ (upd H x o) { s with heap := h', toks := t' } := I.un (Un.write mu he k heo) (I.hok.write mu he k heo new)
theorem Inv.pins_of {pins' : List (Addr × Obj)} (I : Inv X pins σ H s) (h : ∀ p ∈ pins', s.heap.get? p.1 = some p.2 ∧ H p.1 = none ∧ p.1 ≠ X.env.locals ∧ p.1 ∉ X.fs ∧ ∀ v, p.2.data ≠ .cell v) : Inv X pins' σ H s :=
  ⟨I.ok, I.os, I.bare, I.base, I.loc, I.cell, I.free, I.freeC, fun p hp => (List.mem_append.mp hp).elim (fun z => I.pin p (List.mem_append_left _ z)) (h p), I.hok, I.len⟩
theorem nodup_ix {N : List Str} (hN : N.Nodup) {i j : Nat} {x : Str} (a : N[i]? = some x) (b : N[j]? = some x) : i = j := by
  obtain ⟨h1, e1⟩ := List.getElem?_eq_some_iff.mp a
  obtain ⟨h2, e2⟩ := List.getElem?_eq_some_iff.mp b
  exact (List.getElem_inj hN).mp (e1.trans e2.symm)
theorem store_ok2 {M : Model} {A : Around} {E : Value → Shared → Prop} {i : Nat} {x : Str} {v : V} {u : Value} {Q : Unit → Shared → Prop} (I : Inv X pins σ H s) (hN : X.N.Nodup) (hi : X.N[i]? = some x) (hx : Loc X.env.scope x) (r : RelV v u)
    (h : ∀ s', Inv X pins (σ.set i (some v)) H s' → (∃ a, Heap.SameBut a s.heap s'.heap ∧ (a = X.env.locals ∨ X.env.cells.lookup x = some a)) → Q () s') (hf : X.fn x = true ∨ X.env.scope.names.lookup x = some .local := by first | exact .inl rfl | exact .inr rfl | assumption) : wpAny M A (storeName X.env x u) Q E s := by
  obtain ⟨m, hn, hl⟩ := id I.loc
  have hcls : (X.env.scope.kind == .class || (X.env.scope.kind == .module && X.env.locals != X.env.globals)) = false := by rw [I.ok.kind]; rfl
  have hiσ : i < σ.length := by rw [I.len]; exact (List.getElem?_eq_some_iff.mp hi).1
  have cne := I.cne
  have tracked : ∀ {a : Addr} {h' : Heap}, (∃ o, s.heap.get? a = some o ∧ H a = none) → Heap.SameBut a s.heap h' → HOk X.prog X.w H h' := fun {a h'} ha hs b ob e => by
    obtain ⟨_, _, hfree⟩ := ha
    refine (I.hok b ob e).stay (fun c w' hc q => (hs.2 c ?_).trans q) (fun _ q => q) fun _ _ q => q
    rintro rfl
    rcases hc with rfl | hc
    · rw [hfree] at e; cases e
    · rw [hfree] at hc; cases hc
  rcases hx with hk | hk
  · refine wpAny_storeName_local hk hn (fun h' hn' hs => ?_) hcls
    obtain ⟨oL, _, _, hoL, _⟩ := id hn
    refine h _ ⟨I.ok, I.os, I.bare, ⟨fun b o e n hb hx => ?_, fun b o e n hb hx => ?_, I.base.free, fun b o e hx => ?_, I.base.tups, I.base.frzs, I.base.tbls⟩, ⟨_, hn', fun j y v' e1 e2 e3 => ?_⟩, fun y c e => ?_, I.free, I.freeC, fun p hp => ?_, tracked ⟨oL, hoL, I.free⟩ hs, by simpa using I.len⟩ ⟨_, hs, .inl rfl⟩
    · exact (hs.2 b (Nat.ne_of_lt (Nat.lt_of_lt_of_le (Heap.lt_size e) I.ok.above))).trans (I.base.keep b o e n hb hx)
    · obtain ⟨sl, e1⟩ := I.base.slot b o e n hb hx
      exact ⟨sl, (hs.2 b (Nat.ne_of_lt (Nat.lt_of_lt_of_le (Heap.lt_size e) I.ok.above))).trans e1⟩
    · obtain ⟨o', e1⟩ := I.base.there b o e hx
      exact ⟨o', (hs.2 b (Nat.ne_of_lt (Nat.lt_of_lt_of_le (Heap.lt_size e) I.ok.above))).trans e1⟩
    · by_cases hj : j = i
      · subst hj
        rw [hi] at e1; cases e1
        rw [List.getElem?_set_self hiσ] at e2
        cases e2
        exact ⟨u, r, .inl ⟨hk, by simp⟩⟩
      · rw [List.getElem?_set_ne (Ne.symm hj)] at e2
        obtain ⟨u', r', q⟩ := hl j y v' e1 e2 e3
        refine ⟨u', r', ?_⟩
        rcases q with ⟨k, e⟩ | ⟨k, c, e, z⟩
        · refine .inl ⟨k, ?_⟩
          have : y ≠ x := fun e => hj (nodup_ix hN e1 (e ▸ hi))
          simp [this, e]
        · exact .inr ⟨k, c, e, z.sameBut hs (cne y c e)⟩
    · obtain ⟨w', z⟩ := I.cell y c e
      exact ⟨w', z.sameBut hs (cne y c e)⟩
    · obtain ⟨e, n, ne, nf, d⟩ := I.pin p hp
      exact ⟨(hs.2 p.1 ne).trans e, n, ne, nf, d⟩
  · have hfn : X.fn x = true := by
      rcases hf with z | z
      · exact z
      · rw [z] at hk; cases hk
    obtain ⟨c, hc⟩ := I.ok.has x (.inl hk)
    obtain ⟨w', z⟩ := I.cell x c hc
    refine wpAny_storeName_cell I.ok.kind hk hc z (fun h' hc' hs => ?_)
    obtain ⟨oc, hoc, hocd⟩ := id z
    refine h { s with heap := h' } ⟨I.ok, I.os, I.bare, ⟨fun b o e n hb hx => ?_, fun b o e n hb hx => ?_, I.base.free, fun b o e hx => ?_, I.base.tups, I.base.frzs, I.base.tbls⟩, ⟨m, hn.sameBut hs (Ne.symm (cne x c hc)), fun j y v' e1 e2 e3 => ?_⟩, fun y c' e => ?_, I.free, I.freeC, fun p hp => ?_, tracked ⟨oc, hoc, I.freeC x c hc⟩ hs, by simpa using I.len⟩ ⟨c, hs, .inr hc⟩
    · exact (hs.2 b (Nat.ne_of_lt (Nat.lt_of_lt_of_le (Heap.lt_size e) (I.ok.cab x c hfn hc)))).trans (I.base.keep b o e n hb hx)
    · obtain ⟨sl, e1⟩ := I.base.slot b o e n hb hx
      exact ⟨sl, (hs.2 b (Nat.ne_of_lt (Nat.lt_of_lt_of_le (Heap.lt_size e) (I.ok.cab x c hfn hc)))).trans e1⟩
    · obtain ⟨o', e1⟩ := I.base.there b o e hx
      exact ⟨o', (hs.2 b (Nat.ne_of_lt (Nat.lt_of_lt_of_le (Heap.lt_size e) (I.ok.cab x c hfn hc)))).trans e1⟩
    · by_cases hj : j = i
      · subst hj
        rw [hi] at e1; cases e1
        rw [List.getElem?_set_self hiσ] at e2
        cases e2
        exact ⟨u, r, .inr ⟨.inl hk, c, hc, hc'⟩⟩
      · rw [List.getElem?_set_ne (Ne.symm hj)] at e2
        obtain ⟨u', r', q⟩ := hl j y v' e1 e2 e3
        refine ⟨u', r', ?_⟩
        rcases q with q | ⟨k, c', e, z'⟩
        · exact .inl q
        · refine .inr ⟨k, c', e, z'.sameBut hs ?_⟩
          rintro rfl
          exact hj (nodup_ix hN e1 (I.ok.inj _ _ _ e hc ▸ hi))
    · by_cases hcc : c' = c
      · subst hcc; exact ⟨_, hc'⟩
      · obtain ⟨w2, z2⟩ := I.cell y c' e
        exact ⟨w2, z2.sameBut hs hcc⟩
    · obtain ⟨e, n, ne, nf, d⟩ := I.pin p hp
      refine ⟨(hs.2 p.1 ?_).trans e, n, ne, nf, d⟩
      intro q
      rw [q, hoc] at e
      have q' : oc = p.2 := Option.some.inj e
      exact d w' (by rw [← q']; exact hocd)
theorem store_ok {M : Model} {A : Around} {E : Value → Shared → Prop} {i : Nat} {x : Str} {v : V} {u : Value} {Q : Unit → Shared → Prop} (I : Inv X pins σ H s) (hN : X.N.Nodup) (hi : X.N[i]? = some x) (hx : Loc X.env.scope x) (r : RelV v u)
    (h : ∀ s', Inv X pins (σ.set i (some v)) H s' → Q () s') (hf : X.fn x = true ∨ X.env.scope.names.lookup x = some .local := by first | exact .inl rfl | exact .inr rfl | assumption) : wpAny M A (storeName X.env x u) Q E s :=
  store_ok2 I hN hi hx r (fun s' I' _ => h s' I') hf
theorem Inv.call' {s' : Shared} {ch : List Addr} (I : Inv X pins σ H s) (ho : s'.os = s.os) (u : Un (frs X.stack) ch H H' s.heap s'.heap) (hok : HOk X.prog X.w H' s'.heap) (hg : AllBare s'.gens)
    (hch : ∀ b ∈ ch, (b ∈ X.ex ∨ X.s₀.heap.objs.size ≤ b) ∧ b ≠ X.env.locals ∧ (∀ x c, X.env.cells.lookup x = some c → c ≠ b) ∧ ∀ p ∈ X.pn ++ pins, p.1 ≠ b) : Inv X pins σ H' s' := by
  obtain ⟨h', g', d', t', o'⟩ := s'
  have e : o' = s.os := ho
  subst e
  exact I.call (g' := g') (t' := t') (d' := d') u hok hg hch
end
abbrev XK := Value → Option Addr → Hp → Prop
abbrev St := List (Option V)
abbrev VK := V → Hp → Prop
abbrev TE := St → Hp → VK → Prop
abbrev TT := St → Hp → (Bool → Hp → Prop) → Prop
abbrev TA := St → Hp → (List V → Hp → Prop) → Prop
structure Ends where
  nx : St → Hp → Prop
  rt : VK
  bk : St → Hp → Prop := fun _ _ => False
  ct : St → Hp → Prop := fun _ _ => False
abbrev TS := Ends → St → Hp → Prop
def EP (X : Cx) (pins : List (Addr × Obj)) (σ : St) (Q : VK) (u : Value) (s' : Shared) : Prop := ∃ v H', Inv X pins σ H' s' ∧ RelV v u ∧ Q v H'
def TP (X : Cx) (pins : List (Addr × Obj)) (σ : St) (Q : Bool → Hp → Prop) (b : Bool) (s' : Shared) : Prop := ∃ H', Inv X pins σ H' s' ∧ Q b H'
def AP (X : Cx) (pins : List (Addr × Obj)) (σ : St) (Q : List V → Hp → Prop) (us : List Value) (s' : Shared) : Prop := ∃ vs H', Inv X pins σ H' s' ∧ Vals vs us ∧ Q vs H'
def SP (X : Cx) (pins : List (Addr × Obj)) (D : Ends) (f : Flow) (s' : Shared) : Prop :=
  match f with
  | .next => ∃ σ' H', Inv X pins σ' H' s' ∧ D.nx σ' H'
  | .brk => ∃ σ' H', Inv X pins σ' H' s' ∧ D.bk σ' H'
  | .cont => ∃ σ' H', Inv X pins σ' H' s' ∧ D.ct σ' H'
  | .ret u => ∃ v σ' H', Inv X pins σ' H' s' ∧ RelV v u ∧ D.rt v H'
def PE (X : Cx) (e : Expr) (t : TE) : Prop :=
  ∀ (pins : List (Addr × Obj)) (s : Shared) (σ : St) (H : Hp) (Q : VK), Inv X pins σ H s → t σ H Q → wpAny (model X.prog X.w) X.A (eval e X.env) (EP X pins σ Q) X.xe s
def PT (X : Cx) (e : Expr) (t : TT) : Prop :=
  ∀ (pins : List (Addr × Obj)) (s : Shared) (σ : St) (H : Hp) (Q : Bool → Hp → Prop), Inv X pins σ H s → t σ H Q → wpAny (model X.prog X.w) X.A (isTrue e X.env (eval e X.env)) (TP X pins σ Q) X.xe s
def PW (X : Cx) (e : Expr) (t : TT) : Prop :=
  ∀ (whole : Sem Value) (pins : List (Addr × Obj)) (s : Shared) (σ : St) (H : Hp) (Q : Bool → Hp → Prop), Inv X pins σ H s → t σ H Q → wpAny (model X.prog X.w) X.A (isTrue e X.env whole) (TP X pins σ Q) X.xe s
theorem PW.pt {X : Cx} {e : Expr} {t : TT} (h : PW X e t) : PT X e t := h _
def PA (X : Cx) (es : List Expr) (t : TA) : Prop :=
  ∀ (pos : Pos) (pins : List (Addr × Obj)) (s : Shared) (σ : St) (H : Hp) (Q : List V → Hp → Prop), Inv X pins σ H s → t σ H Q → wpAny (model X.prog X.w) X.A (spliced (backTo pos (starEach es X.env))) (AP X pins σ Q) X.xe s
def PS (X : Cx) (st : Stmt) (t : TS) : Prop :=
  ∀ (pins : List (Addr × Obj)) (s : Shared) (σ : St) (H : Hp) (D : Ends), Inv X pins σ H s → t D σ H → wpAny (model X.prog X.w) X.A (exec st X.env) (SP X pins D) X.xe s
def PSs (X : Cx) (st : List Stmt) (t : TS) : Prop :=
  ∀ (pins : List (Addr × Obj)) (s : Shared) (σ : St) (H : Hp) (D : Ends), Inv X pins σ H s → t D σ H → wpAny (model X.prog X.w) X.A (execs st X.env) (SP X pins D) X.xe s
theorem thn {α : Type} {t : Sem α} {Q Q' : α → Shared → Prop} {M : Model} {A : Around} {E : Value → Shared → Prop} {s : Shared} (h : wpAny M A t Q E s) (hQ : ∀ a s, Q a s → Q' a s) : wpAny M A t Q' E s := wpAny_mono h hQ fun _ _ x => x
end L2
namespace L2
open PySem PySem.Spec PyProof.Rows
section
variable {X : Cx}
def tVar (i : Nat) : TE := fun σ H Q => ∃ v, σ[i]? = some (some v) ∧ Q v H
def tC (v : V) : TE := fun _ H Q => Q v H
theorem pe_var {i : Nat} {x : Str} {pos : Pos} (hN : X.N[i]? = some x) (hv : Vis X.env.scope x) (hd : (x == ("__debug__" : Str)) = false := by decide) (hcd : (x == ("__classdict__" : Str)) = false := by decide) : PE X (.Name x pos) (tVar i) := by
  intro pins s σ H Q I h
  obtain ⟨v, e, h⟩ := h
  obtain ⟨m, hn, hl⟩ := I.loc
  obtain ⟨u, r, l⟩ := hl i x v hN e hv
  have fin : EP X pins σ Q u s := ⟨v, H, I, r, h⟩
  rcases l with ⟨hk, hm⟩ | ⟨hk, c, hc, hcell⟩
  · exact wpAny_Name (wpAny_loadName_local I.ok.kind hk hn hm fin) hd
  · rcases hk with hk | hk
    · exact wpAny_Name (wpAny_loadName_cell I.ok.kind hk hc hcell fin) hd
    · exact wpAny_Name (wpAny_loadName_free I.ok.kind hk hc hcell fin hcd) hd
theorem pe_int {i j pos} : PE X (.Constant (.int i) j pos) (tC (.int i)) := fun _ _ _ H _ I h => wpAny_Constant_int ⟨.int i, H, I.tok _, ⟨_, rfl⟩, h⟩
theorem pe_bl {b j pos} : PE X (.Constant (.bool b) j pos) (tC (.bl b)) := fun _ _ _ H _ I h => Constant_bool ⟨.bl b, H, I, rfl, h⟩
theorem pe_non {j pos} : PE X (.Constant .none j pos) (tC .non) := fun _ _ _ H _ I h => Constant_none ⟨.non, H, I, rfl, h⟩
theorem pe_str {x j pos} : PE X (.Constant (.str x) j pos) (tC (.str x)) := fun _ _ _ H _ I h => Calls.Constant_str ⟨.str x, H, I.tok _, ⟨_, rfl⟩, h⟩
def Gl (X : Cx) (x : Str) : Prop := X.env.kindOf x = some .globalImplicit
theorem ld_glob {E : Value → Shared → Prop} {pins : List (Addr × Obj)} {s : Shared} {σ : St} {H : Hp} {x : Str} {u : Value} {pos : Pos} {Q : Value → Shared → Prop} (I : Inv X pins σ H s) (hg : Gl X x) (hm : X.mg x = some u) (h : Q u s)
    (hd : (x == ("__debug__" : Str)) = false := by decide) : wpAny (model X.prog X.w) X.A (eval (.Name x pos) X.env) Q E s :=
  Calls.Name_function_global I.ok.kind hg (Calls.loadGlobal_global (by rw [I.ok.glob]; exact I.mod.glob.keeps I.bk) hm h) hd
theorem ld_blt {E : Value → Shared → Prop} {pins : List (Addr × Obj)} {s : Shared} {σ : St} {H : Hp} {x : Str} {u : Value} {pos : Pos} {Q : Value → Shared → Prop} (I : Inv X pins σ H s) (hg : Gl X x) (hm : X.mg x = none) (hv : bootBuiltins x = some u) (h : Q u s)
    (hn : x ≠ "__name__" := by decide) (hd : (x == ("__debug__" : Str)) = false := by decide) : wpAny (model X.prog X.w) X.A (eval (.Name x pos) X.env) Q E s := by
  obtain ⟨mb, h1, h2⟩ := I.mod.blt
  exact Calls.Name_function_global I.ok.kind hg (Calls.loadGlobal_builtin (by rw [I.ok.glob]; exact I.mod.glob.keeps I.bk) hm (by rw [I.ok.blt]; exact h1.keeps I.bk) ((h2 x hn).trans hv) h) hd
theorem pe_glob {x : Str} {v : V} {u : Value} {pos : Pos} (hg : Gl X x) (hm : X.mg x = some u) (r : RelV v u) (hd : (x == ("__debug__" : Str)) = false := by decide) : PE X (.Name x pos) (tC v) :=
  fun _ _ _ H _ I h => ld_glob I hg hm ⟨v, H, I, r, h⟩ hd
theorem pe_bltn {x : Str} {v : V} {u : Value} {pos : Pos} (hg : Gl X x) (hm : X.mg x = none) (hv : bootBuiltins x = some u) (r : RelV v u) (hn : x ≠ "__name__" := by decide) (hd : (x == ("__debug__" : Str)) = false := by decide) : PE X (.Name x pos) (tC v) :=
  fun _ _ _ H _ I h => ld_blt I hg hm hv ⟨v, H, I, r, h⟩ hn hd
variable {a b : Expr} {ta tb : TE} {pos : Pos}
def tB (t : TE) : TT := fun σ H Q => t σ H fun x H1 => ∃ c, x = .bl c ∧ Q c H1
theorem pt_val {e : Expr} {t : TE} (h : PE X e t) (he : ∀ whole, isTrue e X.env whole = (do let v ← whole; standAt e.pos; holding [v] (truthy v)) := by intro _; rfl) : PT X e (tB t) := by
  intro pins s σ H Q I hw
  refine isTrue_plain (thn (h pins s σ H _ I hw) fun v s1 ⟨x, H1, I1, r1, q1⟩ => ?_) (he _)
  obtain ⟨d, rfl, q⟩ := q1
  cases r1
  exact wpAny_truthy_bool ⟨H1, I1, q⟩
variable {tA tB' : TT} {rest : List Expr}
def tOr (t u : TT) : TT := fun σ H Q => t σ H fun c H1 => if c = true then Q true H1 else u σ H1 Q
def tNot (t : TT) : TT := fun σ H Q => t σ H fun c H1 => Q (!c) H1
theorem pw_or1 (ha : PT X a tA) : PW X (.BoolOp .Or [a] pos) tA := by
  intro wh pins s σ H Q I h
  refine isTrue_or (thn (ha pins s σ H Q I h) fun c s1 e => ?_)
  cases c with
  | false => exact isTrue_or_nil e
  | true => exact e
theorem pw_or (ha : PT X a tA) (hb : PW X (.BoolOp .Or (b :: rest) pos) tB') : PW X (.BoolOp .Or (a :: b :: rest) pos) (tOr tA tB') := by
  intro wh pins s σ H Q I h
  refine isTrue_or (thn (ha pins s σ H _ I h) fun c s1 ⟨H1, I1, q1⟩ => ?_)
  cases c with
  | true => exact ⟨H1, I1, q1⟩
  | false => exact hb wh pins s1 σ H1 Q I1 q1
theorem pt_not (ha : PT X a tA) : PT X (.UnaryOp .Not a pos) (tNot tA) := by
  intro pins s σ H Q I h
  exact isTrue_not (ha pins s σ H (fun c H1 => Q (!c) H1) I h)
def tAndV (ta tb : TE) : TE := fun σ H Q => ta σ H fun x H1 => ∃ c, x = .bl c ∧ if c = true then tb σ H1 Q else Q (.bl false) H1
def tNotV (ta : TE) : TE := fun σ H Q => ta σ H fun x H1 => ∃ c, x = .bl c ∧ Q (.bl (!c)) H1
theorem pe_one {op} {t : TE} (h : PE X a t) : PE X (.BoolOp op [a] pos) t := fun pins s σ H Q I hw => BoolOp_one (h pins s σ H Q I hw)
theorem pe_and (ha : PE X a ta) (hb : PE X (.BoolOp .And (b :: rest) pos) tb) : PE X (.BoolOp .And (a :: b :: rest) pos) (tAndV ta tb) := by
  intro pins s σ H Q I h
  refine BoolOp_and (thn (ha pins s σ H _ I h) fun v s1 ⟨x, H1, I1, r1, q1⟩ => ?_)
  obtain ⟨c, rfl, q1⟩ := q1
  cases r1
  refine wpAny_truthy_bool ?_
  cases c with
  | true => exact hb pins s1 σ H1 Q I1 q1
  | false => exact ⟨.bl false, H1, I1, rfl, q1⟩
theorem pe_not (ha : PE X a ta) : PE X (.UnaryOp .Not a pos) (tNotV ta) := by
  intro pins s σ H Q I h
  refine UnaryOp_ (thn (ha pins s σ H _ I h) fun v s1 ⟨x, H1, I1, r1, q1⟩ => ?_)
  obtain ⟨c, rfl, q1⟩ := q1
  cases r1
  exact not_of (wpAny_truthy_bool ⟨.bl (!c), H1, I1, rfl, q1⟩)
end
end L2
namespace L2
open PySem PySem.Spec PyProof.Rows
def SqL (K : PySem.W.Frag) (H : Hp) (a : Addr) (xs : List V) : Prop :=
  Rd H a (.lst xs) ∨
    ∃ (o : Obj) (its : Array Value) (n : Nat), K.lookup a = some o ∧ o.cls = .type "list" ∧ o.dict = none ∧ o.data = .seq its n ∧ its.size ≤ sizeLine ∧ Vals xs its.toList
def SqT (K : PySem.W.Frag) (H : Hp) (a : Addr) (xs : List V) : Prop :=
  Rd H a (.tup xs) ∨
    ∃ (o : Obj) (its : Array Value) (n : Nat), K.lookup a = some o ∧ o.cls = .type "tuple" ∧ o.data = .seq its n ∧ its.size ≤ sizeLine ∧ Vals xs its.toList
def absV : Value → Option V
  | .none => some .non
  | .bool b => some (.bl b)
  | .int i _ => some (.int i)
  | .str x _ => some (.str x)
  | .bytes b _ => some (.byt b)
  | .float b _ => some (.flt b)
  | .ref a => some (.ref a)
  | .type n => some (.ty n)
  | _ => none
theorem RelV.abs {x : V} {u : Value} (r : RelV x u) : absV u = some x := by
  cases x with
  | non => cases r; rfl
  | bl _ => cases r; rfl
  | int _ => obtain ⟨t, rfl⟩ := r; rfl
  | str _ => obtain ⟨t, rfl⟩ := r; rfl
  | byt _ => obtain ⟨t, rfl⟩ := r; rfl
  | flt _ => obtain ⟨t, rfl⟩ := r; rfl
  | ref _ => cases r; rfl
  | ty _ => cases r; rfl
theorem RelV.inj {x y : V} {u : Value} (r : RelV x u) (q : RelV y u) : x = y := Option.some.inj (r.abs.symm.trans q.abs)
theorem Vals.inj : ∀ {xs ys : List V} {us : List Value}, Vals xs us → Vals ys us → xs = ys
  | _, _, _, .nil, .nil => rfl
  | _, _, _, .cons r t, .cons r' t' => by rw [r.inj r', Vals.inj t t']
section
variable {X : Cx} {pins : List (Addr × Obj)} {σ : St} {H : Hp} {s : Shared} {a : Addr} {xs ys : List V}
theorem SqL.of {K : PySem.W.Frag} (h : H a = some (.lst xs)) : SqL K H a xs := .inl (.inl h)
theorem SqT.of {K : PySem.W.Frag} (h : H a = some (.tup xs)) : SqT K H a xs := .inl (.inl h)
theorem Inv.list (I : Inv X pins σ H s) (h : SqL X.K H a xs) : ∃ its : List Value, Vals xs its ∧ PlainL s.heap a its.toArray ∧ xs.length ≤ sizeLine := by
  rcases h with h | ⟨o, its, n, hk, hc, hd, hs, hz, r⟩
  · obtain ⟨z, its, n, r, e⟩ := h.ok I.hok
    exact ⟨its, r, ⟨_, n, e, rfl, rfl, rfl⟩, z⟩
  · refine ⟨its.toList, r, ⟨o, n, I.kIn a o hk, hc, hd, by simpa using hs⟩, ?_⟩
    have e := r.length
    simp only [Array.length_toList] at e
    omega
theorem Inv.tuple (I : Inv X pins σ H s) (h : SqT X.K H a xs) : ∃ its : List Value, Vals xs its ∧ IsTup s.heap a its.toArray ∧ xs.length ≤ sizeLine := by
  rcases h with h | ⟨o, its, n, hk, hc, hs, hz, r⟩
  · obtain ⟨z, its, r, p⟩ := h.ok I.hok
    exact ⟨its, r, p, z⟩
  · refine ⟨its.toList, r, ⟨o, I.kIn a o hk, hc, n, by simpa using hs⟩, ?_⟩
    have e := r.length
    simp only [Array.length_toList] at e
    omega
theorem Inv.list_inj (I : Inv X pins σ H s) (h : SqL X.K H a xs) (h' : SqL X.K H a ys) : xs = ys := by
  obtain ⟨its, r, ⟨o, n, e, _, _, d⟩, _⟩ := I.list h
  obtain ⟨its', r', ⟨o', n', e', _, _, d'⟩, _⟩ := I.list h'
  rw [e] at e'; cases e'
  rw [d] at d'
  injection d' with d1 _
  have : its = its' := by simpa using congrArg Array.toList d1
  subst this
  exact r.inj r'
end
abbrev Cx.wish (X : Cx) (E : Value → Shared → Prop) : Cx := { X with xe := E }
abbrev Cx.nox (X : Cx) : Cx := X.wish fun _ _ => False
theorem Cx.Ok.wish {X : Cx} (ok : X.Ok) (E : Value → Shared → Prop) : (X.wish E).Ok :=
  ⟨ok.mod, ok.kind, ok.glob, ok.blt, ok.above, ok.inj, ok.has, ok.cab, ok.hd, ok.frames, ok.stk, ok.exf, ok.bs, ok.bsz, ok.noex, ok.exfs, ok.funs, ok.frf⟩
theorem Cx.Ok.unwish {X : Cx} {E : Value → Shared → Prop} (ok : (X.wish E).Ok) : X.Ok :=
  ⟨ok.mod, ok.kind, ok.glob, ok.blt, ok.above, ok.inj, ok.has, ok.cab, ok.hd, ok.frames, ok.stk, ok.exf, ok.bs, ok.bsz, ok.noex, ok.exfs, ok.funs, ok.frf⟩
section
variable {X : Cx} {pins : List (Addr × Obj)} {σ : St} {H : Hp} {s : Shared} {E : Value → Shared → Prop}
theorem Inv.wish (I : Inv X pins σ H s) (E : Value → Shared → Prop) : Inv (X.wish E) pins σ H s := ⟨I.ok.wish E, I.os, I.bare, I.base, I.loc, I.cell, I.free, I.freeC, I.pin, I.hok, I.len⟩
theorem Inv.unwish (I : Inv (X.wish E) pins σ H s) : Inv X pins σ H s := ⟨I.ok.unwish, I.os, I.bare, I.base, I.loc, I.cell, I.free, I.freeC, I.pin, I.hok, I.len⟩
theorem SP.unwish {D : Ends} {f : Flow} {s' : Shared} (h : SP (X.wish E) pins D f s') : SP X pins D f s' := by
  cases f with
  | next => obtain ⟨σ', H', I, q⟩ := h; exact ⟨σ', H', I.unwish, q⟩
  | brk => obtain ⟨σ', H', I, q⟩ := h; exact ⟨σ', H', I.unwish, q⟩
  | cont => obtain ⟨σ', H', I, q⟩ := h; exact ⟨σ', H', I.unwish, q⟩
  | ret u => obtain ⟨v, σ', H', I, r, q⟩ := h; exact ⟨v, σ', H', I.unwish, r, q⟩
theorem PSs.nox {st : List Stmt} {t : TS} (h : PSs X.nox st t) : PSs X st t := fun pins s σ H D I hw =>
  wpAny_mono (h pins s σ H D (I.wish _) hw) (fun _ _ q => q.unwish) fun _ _ z => False.elim z
end
section
variable {X : Cx} {st : Stmt} {rest : List Stmt} {t u : TS} {e : Expr} {te : TE} {pos : Pos}
def tNext : TS := fun D σ H => D.nx σ H
def tSeq (t u : TS) : TS := fun D σ H => t { D with nx := u D } σ H
theorem pss_nil : PSs X [] tNext := fun _ _ σ H _ I h => wpAny_execs_nil ⟨σ, H, I, h⟩
theorem pss_cons (h1 : PS X st t) (h2 : PSs X rest u) : PSs X (st :: rest) (tSeq t u) := by
  intro pins s σ H D I h
  refine wpAny_execs_cons (thn (h1 pins s σ H { D with nx := u D } I h) fun f s1 q => ?_)
  cases f with
  | next =>
    obtain ⟨σ', H', I', q⟩ := q
    exact h2 pins s1 σ' H' D I' q
  | ret v => exact q
  | brk => exact q
  | cont => exact q
theorem pss_one (h1 : PS X st t) : PSs X [st] t := by
  intro pins s σ H D I h
  refine wpAny_execs_cons (thn (h1 pins s σ H D I h) fun f s1 q => ?_)
  cases f with
  | next => exact wpAny_execs_nil q
  | ret v => exact q
  | brk => exact q
  | cont => exact q
def tRet (te : TE) : TS := fun D σ H => te σ H D.rt
theorem ps_ret (he : PE X e te) : PS X (.Return (some e) pos) (tRet te) := by
  intro pins s σ H D I h
  exact wpAny_Return_some (thn (he pins s σ H _ I h) fun v s1 ⟨x, H1, I1, r1, q1⟩ => ⟨x, σ, H1, I1, r1, q1⟩)
def tIfS (c : TT) (t u : TS) : TS := fun D σ H => c σ H fun b H1 => if b = true then t D σ H1 else u D σ H1
theorem ps_if {c : Expr} {a b : List Stmt} {tc : TT} (hc : PT X c tc) (ha : PSs X a t) (hb : PSs X b u) : PS X (.If c a b pos) (tIfS tc t u) := by
  intro pins s σ H D I h
  refine wpAny_If (thn (hc pins s σ H _ I h) fun d s1 ⟨H1, I1, q1⟩ => ?_)
  cases d with
  | true => exact ha pins s1 σ H1 D I1 q1
  | false => exact hb pins s1 σ H1 D I1 q1
end
abbrev TG := V → St → Hp → (St → Hp → Prop) → Prop
abbrev TGs := List V → St → Hp → (St → Hp → Prop) → Prop
def PG (X : Cx) (target : Expr) (t : TG) : Prop :=
  ∀ (pins : List (Addr × Obj)) (s : Shared) (σ : St) (H : Hp) (v : V) (u : Value) (Q : St → Hp → Prop), Inv X pins σ H s → RelV v u → t v σ H Q →
    wpAny (model X.prog X.w) X.A (assign target X.env u) (fun _ s' => ∃ σ' H', Inv X pins σ' H' s' ∧ Q σ' H') X.xe s
def PGs (X : Cx) (ts : List Expr) (t : TGs) : Prop :=
  ∀ (pins : List (Addr × Obj)) (s : Shared) (σ : St) (H : Hp) (vs : List V) (us : List Value) (Q : St → Hp → Prop), Inv X pins σ H s → Vals vs us → t vs σ H Q →
    wpAny (model X.prog X.w) X.A (assignInOrder ((assignEach ts X.env).map (·.2)) us) (fun _ s' => ∃ σ' H', Inv X pins σ' H' s' ∧ Q σ' H') X.xe s
abbrev TSet := V → V → V → Hp → (Hp → Prop) → Prop
def PSet (X : Cx) (t : TSet) : Prop :=
  ∀ (pins : List (Addr × Obj)) (s : Shared) (σ : St) (H : Hp) (o i v : V) (ov iv u : Value) (Q : Hp → Prop), Inv X pins σ H s → RelV o ov → RelV i iv → RelV v u → t o i v H Q →
    wpAny (model X.prog X.w) X.A (setItem ov iv u) (fun _ s' => ∃ H', Inv X pins σ H' s' ∧ Q H') X.xe s
section
variable {X : Cx} {pos : Pos}
def gName (i : Nat) : TG := fun v σ H Q => Q (σ.set i (some v)) H
theorem pg_name {i : Nat} {x : Str} (hN : X.N.Nodup) (hi : X.N[i]? = some x) (hx : Loc X.env.scope x) (hf : X.fn x = true ∨ X.env.scope.names.lookup x = some .local := by first | exact .inl rfl | exact .inr rfl | assumption) : PG X (.Name x pos) (gName i) := by
  intro pins s σ H v u Q I r h
  exact wpAny_assign_Name (store_ok I hN hi hx r (fun s' I' => ⟨_, H, I', h⟩) hf)
def gNil : TGs := fun vs σ H Q => vs = [] ∧ Q σ H
def gCons (t : TG) (u : TGs) : TGs := fun vs σ H Q => ∃ v r, vs = v :: r ∧ t v σ H fun σ' H' => u r σ' H' Q
theorem pgs_nil : PGs X [] gNil := by
  intro pins s σ H vs us Q I r h
  obtain ⟨e, h⟩ := h
  subst e
  cases r
  exact assignInOrder_nil ⟨σ, H, I, h⟩
theorem pgs_cons {e : Expr} {es : List Expr} {t : TG} {u : TGs} (h1 : PG X e t) (h2 : PGs X es u)
    (hs : (assignEach (e :: es) X.env).map (·.2) = assign e X.env :: (assignEach es X.env).map (·.2) := by rfl) : PGs X (e :: es) (gCons t u) := by
  intro pins s σ H vs us Q I r h
  obtain ⟨v, vr, e1, h⟩ := h
  subst e1
  cases r with
  | cons r rr =>
    rw [hs]
    refine assignInOrder_cons (thn (h1 pins s σ H _ _ _ I r h) fun _ s1 ⟨σ1, H1, I1, q1⟩ => ?_)
    exact h2 pins s1 σ1 H1 _ _ Q I1 rr q1
def gTup (K : PySem.W.Frag) (n : Nat) (t : TGs) : TG := fun v σ H Q => ∃ a xs, v = .ref a ∧ SqT K H a xs ∧ xs.length = n ∧ t xs σ H Q
theorem pg_tup {es : List Expr} {k : Nat} {t : TGs} {n : Nat} (hc : X.calm = true) (h : PGs X es t)
    (hn : (assignEach es X.env).length = n := by rfl) (hst : (assignEach es X.env).findIdx? (·.1) = none := by rfl) : PG X (.Tuple es k pos) (gTup X.K n t) := by
  intro pins s σ H v u Q I r hw
  obtain ⟨a, xs, e1, hq, hl, hw⟩ := hw
  subst e1
  cases r
  obtain ⟨its, rv, ht, hz⟩ := I.tuple hq
  refine assign_Tuple_tuple (I.ok.hd hc) ht (by simp [hn, ← hl, rv.length]) hst fun h' hx => ?_
  have I1 : Inv X pins σ H { s with heap := h' } := I.kept (t' := s.toks) fun b o e => hx b o (Nat.ne_of_lt (Heap.lt_size e)) e
  exact h pins _ σ H xs _ Q I1 (by simpa using rv) hw
def gSub (to ti : TE) (t : TSet) : TG := fun v σ H Q => to σ H fun o H1 => ti σ H1 fun i H2 => t o i v H2 fun H3 => Q σ H3
theorem pg_sub {o i : Expr} {to ti : TE} {t : TSet} (ho : PE X o to) (hi : PE X i ti) (hs : PSet X t)
    (ha : ∀ v, assign (.Subscript o i pos) X.env v = (do
      let ov ← holding [v] (eval o X.env)
      let iv ← holding [v, ov] (eval i X.env)
      standAt pos
      holding [v, ov, iv] (setItem ov iv v)
      release [v, ov, iv] []) := by intro _; rfl) : PG X (.Subscript o i pos) (gSub to ti t) := by
  intro pins s σ H v u Q I r h
  rw [ha]
  refine wpAny_bind (wpAny_holding (thn (ho pins s σ H _ I h) fun ov s1 ⟨x, H1, I1, r1, q1⟩ => ?_))
  refine wpAny_bind (wpAny_holding (thn (hi pins s1 σ H1 _ I1 q1) fun iv s2 ⟨y, H2, I2, r2, q2⟩ => ?_))
  refine wpAny_bind (wpAny_standAt (wpAny_bind (wpAny_holding (thn (hs pins s2 σ H2 x y v ov iv u _ I2 r1 r2 r q2) fun _ s3 ⟨H3, I3, q3⟩ => ?_))))
  exact wpAny_release ⟨σ, H3, I3, q3⟩
def tAsg (te : TE) (g : TG) : TS := fun D σ H => te σ H fun x H1 => g x σ H1 D.nx
theorem ps_asg {tg e : Expr} {te : TE} {g : TG} (he : PE X e te) (hg : PG X tg g) (hs : swapsWithSole [tg] e pos.line X.env = pure false := by rfl) (hw : swappedStores [tg] e X.env = pure none := by rfl)
    (h1 : (assignEach [tg] X.env).map (·.2) = [assign tg X.env] := by rfl) : PS X (.Assign [tg] e pos) (tAsg te g) := by
  intro pins s σ H D I h
  refine wpAny_Assign_stores (thn (he pins s σ H _ I h) fun v s1 ⟨x, H1, I1, r1, q1⟩ => ?_) hs hw
  rw [h1]
  exact thn (hg pins s1 σ H1 x v _ I1 r1 q1) fun _ s2 q => q
theorem ps_set {i : Nat} {x : Str} {e : Expr} {te : TE} {pos' : Pos} (hN : X.N.Nodup) (hi : X.N[i]? = some x) (hx : Loc X.env.scope x) (he : PE X e te) (hs : swapsWith e (some (.Name x pos')) pos.line X.env = pure false := by rfl) (hf : X.fn x = true ∨ X.env.scope.names.lookup x = some .local := by first | exact .inl rfl | exact .inr rfl | assumption) :
    PS X (.Assign [.Name x pos'] e pos) (tAsg te (gName i)) := by
  intro pins s σ H D I h
  refine wpAny_Assign_Name (thn (he pins s σ H _ I h) fun v s1 ⟨y, H1, I1, r1, q1⟩ => ?_) hs
  exact store_ok I1 hN hi hx r1 (fun s2 I2 => ⟨_, H1, I2, q1⟩) hf
end
section
variable {X : Cx} {pos : Pos}
end
structure It where
  go : Nat → Hp → Prop
  yld : Nat → Hp → V → Hp → Prop
  stop : Nat → Hp → Prop
def FpOk (X : Cx) (pins : List (Addr × Obj)) (H : Hp) (b : Addr) : Prop :=
  H b = none ∧ b ≠ X.env.locals ∧ b ∉ X.fs ∧ (b ∈ X.ex ∨ X.s₀.heap.objs.size ≤ b) ∧ (∀ x c, X.env.cells.lookup x = some c → c ≠ b) ∧ ∀ p ∈ X.pn ++ pins, p.1 ≠ b
theorem Inv.fpOk {X : Cx} {pins : List (Addr × Obj)} {σ : St} {H H' : Hp} {s : Shared} {b : Addr} (I : Inv X pins σ H s) (hb : s.heap.objs.size ≤ b) (hn : H' b = none) : FpOk X pins H' b := by
  refine ⟨hn, Nat.ne_of_gt (Nat.lt_of_lt_of_le I.lt hb), I.nofs hb, .inr (Nat.le_trans I.sz hb), fun x c e z => ?_, fun p hp z => ?_⟩
  · obtain ⟨v, q⟩ := I.cell x c e
    exact absurd (Nat.lt_of_lt_of_le q.lt (by rw [z]; exact hb)) (Nat.lt_irrefl _)
  · exact absurd (Nat.lt_of_lt_of_le (Heap.lt_size (I.pin p hp).1) (by rw [z]; exact hb)) (Nat.lt_irrefl _)
structure Turn (P : Program) (w : World) (K : PySem.W.Frag) (tg : Expr) (J : It) (fp : List Addr) (it : Addr) (tn : Nat → Heap → Prop) : Prop where
  mem : it ∈ fp
  obj : ∀ i h, tn i h → ∀ b ∈ fp, ∃ o, h.get? b = some o ∧ ∀ v, o.data ≠ .cell v
  keep : ∀ i h h', tn i h → (∀ b ∈ fp, ∀ o, h.get? b = some o → h'.get? b = some o) → tn i h'
  item : ∀ (X : Cx), X.prog = P → X.w = w → X.K = K → X.calm = true → ∀ (i : Nat) (pins : List (Addr × Obj)) (s : Shared) (σ : St) (H : Hp) (E : Value → Shared → Prop), Inv X pins σ H s → (∀ b ∈ fp, FpOk X pins H b) → tn i s.heap → J.go i H →
    wpAny (model P w) X.A (pyNext (.ref it)) (fun r s1 => ∃ u, r = some u ∧
      wpAny (model P w) X.A (letOwnedTupleGo tg (.ref it) u) (fun _ s2 => ∃ x H', Inv X pins σ H' s2 ∧ RelV x u ∧ J.yld i H x H' ∧ tn (i + 1) s2.heap ∧ ∀ b ∈ fp, H' b = none) E s1) E s
  done : ∀ (X : Cx), X.prog = P → X.w = w → X.K = K → X.calm = true → ∀ (i : Nat) (pins : List (Addr × Obj)) (s : Shared) (σ : St) (H : Hp) (E : Value → Shared → Prop), Inv X pins σ H s → (∀ b ∈ fp, FpOk X pins H b) → tn i s.heap → J.stop i H →
    wpAny (model P w) X.A (pyNext (.ref it)) (fun r s1 => r = none ∧ Inv X pins σ H s1) E s
  self : ∀ (A : Around) (i : Nat) (s : Shared) (Q : Value → Shared → Prop) (E : Value → Shared → Prop), tn i s.heap → Q (.ref it) s → wpAny (model P w) A (pyIter (.ref it)) Q E s
abbrev TI := St → Hp → (It → Hp → Prop) → Prop
def PIE (X : Cx) (pins : List (Addr × Obj)) (σ : St) (tg : Expr) (R : It → Hp → Prop) (itv : Value) (s2 : Shared) : Prop :=
  ∃ (it : Addr) (fp : List Addr) (tn : Nat → Heap → Prop) (J : It) (H' : Hp), itv = .ref it ∧ Inv X pins σ H' s2 ∧ Turn X.prog X.w X.K tg J fp it tn ∧ tn 0 s2.heap ∧ (∀ b ∈ fp, FpOk X pins H' b) ∧ R J H'
def PI (X : Cx) (tg iter : Expr) (wi : TI) : Prop :=
  ∀ (pins : List (Addr × Obj)) (s : Shared) (σ : St) (H : Hp) (R : It → Hp → Prop), Inv X pins σ H s → wi σ H R →
    wpAny (model X.prog X.w) X.A (eval iter X.env) (fun v s1 => wpAny (model X.prog X.w) X.A (pyIter v) (PIE X pins σ tg R) X.xe s1) X.xe s
theorem go_of {M : Model} {A : Around} {E : Value → Shared → Prop} {s : Shared} {tg : Expr} {it : Addr} {u : Value} {o : Obj} {n : String} {vs : Array Value} {Q : Unit → Shared → Prop} (ho : s.heap.get? it = some o) (hc : o.cls = .type n) (hd : o.data = .fields vs)
    (hn : ["enumerate", "zip", "dict_itemiterator", "dict_reverseitemiterator", "odict_iterator", "itertools.zip_longest", "itertools.pairwise"].contains n = false) (hQ : Q () s) : wpAny M A (letOwnedTupleGo tg (.ref it) u) Q E s := by
  unfold letOwnedTupleGo
  cases tg <;> first
    | exact wpAny_pure hQ
    | (cases u <;> first
        | exact wpAny_pure hQ
        | (refine wpAny_bind (wpAny_load ho ?_)
           rw [hc, hd]
           show wpAny M A (if (["enumerate", "zip", "dict_itemiterator", "dict_reverseitemiterator", "odict_iterator", "itertools.zip_longest", "itertools.pairwise"].contains n && vs[0]? == some (rawInt _)) = true then _ else _) Q E s
           rw [if_neg (by intro h; rw [hn, Bool.false_and] at h; cases h)]
           exact wpAny_pure hQ))
def Itl (K : PySem.W.Frag) (a : Addr) : It :=
  ⟨fun i H => ∃ xs x, SqL K H a xs ∧ xs[i]? = some x, fun i H x H' => H' = H ∧ ∀ xs, SqL K H a xs → xs[i]? = some x, fun i H => ∃ xs, SqL K H a xs ∧ xs.length ≤ i⟩
def Itr (lo : Int) (n : Nat) : It := ⟨fun i _ => i < n, fun i H x H' => H' = H ∧ x = .int (lo + i), fun i _ => n ≤ i⟩
theorem turn_list {P : Program} {w : World} {K : PySem.W.Frag} {tg : Expr} (a it : Addr) : Turn P w K tg (Itl K a) [it] it (fun i h => h.IsListIter it a i) where
  mem := by simp
  obj := fun i h st b hb => by
    have e : b = it := by simpa using hb
    subst e
    obtain ⟨o, e, c, d⟩ := st
    exact ⟨o, e, fun v z => by rw [d] at z; cases z⟩
  keep := fun i h h' st k => st.at fun o e => k it (by simp) o e
  item := by
    intro X hP hw hK hc i pins s σ H E I hf st hg
    subst hP hw hK
    obtain ⟨xs, x, hq, hx⟩ := hg
    obtain ⟨its, rv, p, hz⟩ := I.list hq
    obtain ⟨u, hu, ru⟩ := rv.get hx
    obtain ⟨f0, f1, f2, f3, f4, f5⟩ := hf it (by simp)
    refine wpAny_pyNext_list_item st p.isList (x := u) (by simpa using hu) fun h' st' sb => ?_
    have I1 : Inv X pins σ H { s with heap := h' } := I.turned (t' := s.toks) (fun b o hb e => (sb.2 b hb).trans e) f0 f1 f3 f4 f5
    obtain ⟨o, e, c, d⟩ := id st'
    exact ⟨u, rfl, go_of (s := { s with heap := h' }) e c d (by decide) ⟨x, H, I1, ru, ⟨rfl, fun ys hy => by rw [I.list_inj hy hq]; exact hx⟩, st', fun b hb => (hf b hb).1⟩⟩
  done := by
    intro X hP hw hK hc i pins s σ H E I hf st hg
    subst hP hw hK
    obtain ⟨xs, hq, hx⟩ := hg
    obtain ⟨its, rv, p, hz⟩ := I.list hq
    obtain ⟨f0, f1, f2, f3, f4, f5⟩ := hf it (by simp)
    have hl := rv.length
    exact wpAny_pyNext_list_end (I.ok.hd hc) st p.isList (by simp; omega) fun h' eb => ⟨rfl, I.turned (t' := s.toks) (fun b o hb e => eb b o hb e) f0 f1 f3 f4 f5⟩
  self := fun _ _ _ _ _ st h => wpAny_pyIter_listiter st h
theorem turn_range {P : Program} {w : World} {K : PySem.W.Frag} {tg : Expr} (it : Addr) (lo : Int) (n : Nat) : Turn P w K tg (Itr lo n) [it] it (fun i h => IsRangeIter h it (lo + (i : Nat) * 1) ((n : Int) - (i : Nat)) 1) where
  mem := by simp
  obj := fun i h st b hb => by
    have e : b = it := by simpa using hb
    subst e
    exact ⟨_, st, fun v z => by
      have z' : Data.fields _ = Data.cell v := z
      cases z'⟩
  keep := fun i h h' st k => k it (by simp) _ st
  item := by
    intro X hP hw hK hc i pins s σ H E I hf st hg
    subst hP hw hK
    obtain ⟨f0, f1, f2, f3, f4, f5⟩ := hf it (by simp)
    have W := Walks.range (prog := X.prog) (w := X.w) (I.ok.hd hc) it lo 1 n
    refine W.item i s _ _ hg st fun v h' tk hv st' kk => ?_
    obtain ⟨t, rfl⟩ := hv
    have I1 : Inv X pins σ H { s with heap := h', toks := tk } := I.turned (fun b o hb e => kk b o (by simpa using hb) e) f0 f1 f3 f4 f5
    refine ⟨_, rfl, go_of (s := { s with heap := h', toks := tk }) (n := "range_iterator") st' rfl rfl (by decide) ⟨.int (lo + i), H, I1, ⟨t, ?_⟩, ⟨rfl, rfl⟩, st', fun b hb => (hf b hb).1⟩⟩
    rw [Int.mul_one]
  done := by
    intro X hP hw hK hc i pins s σ H E I hf st hg
    subst hP hw hK
    obtain ⟨f0, f1, f2, f3, f4, f5⟩ := hf it (by simp)
    exact wpAny_pyNext_range_end (I.ok.hd hc) st (by have : n ≤ i := hg; omega) fun h' eb => ⟨rfl, I.turned (t' := s.toks) (fun b o hb e => eb b o hb e) f0 f1 f3 f4 f5⟩
  self := fun _ _ _ _ _ st h => wpAny_pyIter_rangeiter st h
end L2
namespace L2
open PySem PySem.Spec PyProof.Rows
section
variable {X : Cx} {tg : Expr}
def iList (K : PySem.W.Frag) (tl : TE) : TI := fun σ H R => tl σ H fun x H1 => ∃ a, x = .ref a ∧ (∃ xs, SqL K H1 a xs) ∧ R (Itl K a) H1
theorem pi_list {l : Expr} {tl : TE} (hl : PE X l tl) : PI X tg l (iList X.K tl) := by
  intro pins s σ H R I h
  refine thn (hl pins s σ H _ I h) fun v s1 ⟨x, H1, I1, r1, q1⟩ => ?_
  obtain ⟨a, e, ⟨xs, hq⟩, q⟩ := q1
  subst e
  cases r1
  obtain ⟨its, rv, p, hz⟩ := I1.list hq
  refine wpAny_pyIter_list p.isList ?_
  refine ⟨s1.heap.objs.size, [s1.heap.objs.size], _, _, H1, rfl, I1.kept (t' := s1.toks) fun b o e => Heap.get?_push_of_some _ e, turn_list a _, ⟨_, Heap.get?_push_size _ rfl, rfl, rfl⟩, fun b hb => ?_, q⟩
  have e : b = s1.heap.objs.size := by simpa using hb
  subst e
  exact I1.fpOk (Nat.le_refl _) (I1.hok.fresh (Nat.le_refl _))
theorem range_it {pins : List (Addr × Obj)} {σ : St} {H : Hp} {s : Shared} {R : It → Hp → Prop} {E : Value → Shared → Prop} {lo hi : Int} {t u v : Tok} {tk : Nat} (I : Inv X pins σ H s) (h1 : -(2 ^ 62) ≤ lo) (h2 : lo < 2 ^ 62) (h3 : -(2 ^ 62) ≤ hi) (h4 : hi < 2 ^ 62)
    (q : R (Itr lo (hi - lo).toNat) H) : wpAny (model X.prog X.w) X.A (pyIter (.ref s.heap.objs.size)) (PIE X pins σ tg R) E { s with heap := s.heap.push { cls := .type "range", data := .fields #[.int lo t, .int hi u, .int 1 v] }, toks := tk } := by
  refine wpAny_pyIter_range (IsRange.new ..) (small_one h1 h2 h3 h4) ?_
  have I1 : Inv X pins σ H { s with heap := s.heap.push { cls := .type "range", data := .fields #[.int lo t, .int hi u, .int 1 v] }, toks := tk } := I.kept fun b o e => Heap.get?_push_of_some _ e
  refine ⟨(s.heap.push { cls := .type "range", data := .fields #[.int lo t, .int hi u, .int 1 v] }).objs.size, [(s.heap.push { cls := .type "range", data := .fields #[.int lo t, .int hi u, .int 1 v] }).objs.size], _, _, H, rfl,
    I1.kept (t' := tk) fun b o e => Heap.get?_push_of_some _ e, turn_range _ lo (hi - lo).toNat, ?_, fun b hb => ?_, q⟩
  · have e1 : lo + ((0 : Nat) : Int) * 1 = lo := by simp
    have e2 : (((hi - lo).toNat : Nat) : Int) - ((0 : Nat) : Int) = Builtin.Range.rangeSize lo hi 1 := by rw [rangeSize_one]; split <;> omega
    show IsRangeIter _ _ (lo + ((0 : Nat) : Int) * 1) ((((hi - lo).toNat : Nat) : Int) - ((0 : Nat) : Int)) 1
    rw [e1, e2]
    exact Heap.get?_push_size _ rfl
  · have e : b = (s.heap.push { cls := .type "range", data := .fields #[.int lo t, .int hi u, .int 1 v] }).objs.size := by simpa using hb
    subst e
    exact I1.fpOk (Nat.le_refl _) (I1.hok.fresh (Nat.le_refl _))
def iRng1 (ta : TA) : TI := fun σ H R => ta σ H fun vs H1 => ∃ j : Int, vs = [.int j] ∧ -(2 ^ 62) ≤ j ∧ j < 2 ^ 62 ∧ R (Itr 0 j.toNat) H1
theorem pi_range1 {a : Expr} {ta : TA} {p pos : Pos} (hg : Gl X "range") (hm : X.mg "range" = none) (ha : PA X [a] ta) (hs : starEach [a] X.env = [(false, eval a X.env)] := by rfl) : PI X tg (.Call (.Name "range" p) [a] [] pos) (iRng1 ta) := by
  intro pins s σ H R I h
  refine Call_ (ld_blt I hg hm boot_range (PyProof.Rows.callWith_type1 (thn (ha pos pins s σ H _ I h) fun us s1 ⟨vs, H1, I1, r1, q1⟩ => ?_) hs rfl))
  obtain ⟨j, e, q1, q2, q⟩ := q1
  subst e
  cases r1 with
  | cons r rr =>
    cases rr
    obtain ⟨t, rfl⟩ := r
    exact call_range_1 (range_it I1 (by omega) (by omega) q1 q2 (by simpa using q))
def tFor (wi : TI) (g : TG) (tb : TS) : TS := fun D σ H => wi σ H fun J H1 => ∃ W : Nat → Nat → St → Hp → Prop, (∃ m, W 0 m σ H1) ∧ ∀ i m σ H, W i m σ H →
  (J.stop i H ∧ D.nx σ H) ∨ (J.go i H ∧ ∃ N : St → Hp → Prop, (∀ σ' H', N σ' H' → ∃ m', m' < m ∧ W (i + 1) m' σ' H') ∧ ∀ x H', J.yld i H x H' → g x σ H' fun σ2 H2 => tb { D with nx := N, ct := N, bk := D.nx } σ2 H2)
def pinsAt (fp : List Addr) (h : Heap) : List (Addr × Obj) := fp.filterMap fun b => (h.get? b).map fun o => (b, o)
theorem mem_pinsAt {fp : List Addr} {h : Heap} {b : Addr} {o : Obj} (hb : b ∈ fp) (e : h.get? b = some o) : (b, o) ∈ pinsAt fp h := List.mem_filterMap.mpr ⟨b, hb, by rw [e]; rfl⟩
theorem of_pinsAt {fp : List Addr} {h : Heap} {p : Addr × Obj} (hp : p ∈ pinsAt fp h) : p.1 ∈ fp ∧ h.get? p.1 = some p.2 := by
  obtain ⟨b, hb, e⟩ := List.mem_filterMap.mp hp
  cases q : h.get? b with
  | none => rw [q] at e; cases e
  | some o =>
    rw [q] at e
    have e' : (b, o) = p := Option.some.inj e
    subst e'
    exact ⟨hb, q⟩
theorem Inv.pinned {pins : List (Addr × Obj)} {σ : St} {H : Hp} {s : Shared} {fp : List Addr} (I : Inv X pins σ H s) (hf : ∀ b ∈ fp, FpOk X pins H b) (ho : ∀ b ∈ fp, ∃ o, s.heap.get? b = some o ∧ ∀ v, o.data ≠ .cell v) : Inv X (pins ++ pinsAt fp s.heap) σ H s :=
  I.pins_of fun p hp => (List.mem_append.mp hp).elim (fun z => I.pin p (List.mem_append_right _ z)) fun z => by
    obtain ⟨hb, e⟩ := of_pinsAt z
    obtain ⟨f0, f1, f2, _⟩ := hf p.1 hb
    obtain ⟨o, e', d⟩ := ho p.1 hb
    rw [e] at e'; cases e'
    exact ⟨e, f0, f1, f2, d⟩
theorem Inv.unpinned {pins pl : List (Addr × Obj)} {σ : St} {H : Hp} {s : Shared} (I : Inv X (pins ++ pl) σ H s) : Inv X pins σ H s := I.pins_of fun p hp => I.pin p (List.mem_append_right _ (List.mem_append_left _ hp))
theorem ps_for {iter : Expr} {body : List Stmt} {wi : TI} {g : TG} {tb : TS} {pos : Pos} (hp : PassesOwn (model X.prog X.w) X.A X.env X.xe) (hc : X.calm = true) (hi : PI X tg iter wi) (hg : PG X tg g) (hb : PSs X body tb)
    (hs : ∀ x, foldedSetIterable iter X.env x = pure x := by intro _; rfl) : PS X (.For tg iter body [] pos) (tFor wi g tb) := by
  intro pins s σ H D I h
  refine wpAny_For (thn (hi pins s σ H _ I h) fun v s1 h1 => thn h1 fun itv s2 h2 => ?_) hs
  obtain ⟨it, fp, tn, J, H2, e, I2, T, st2, f2, W, ⟨m0, w0⟩, turn⟩ := h2
  subst e
  have stat : ∀ {H' : Hp}, (∀ b ∈ fp, H' b = none) → ∀ b ∈ fp, FpOk X pins H' b := fun hn b hb => ⟨hn b hb, (f2 b hb).2⟩
  refine codeAny_forLoop_any (fun n s' => ∃ i σ' H', Inv X pins σ' H' s' ∧ tn i s'.heap ∧ (∀ b ∈ fp, H' b = none) ∧ W i n σ' H') ?_ m0 ⟨0, σ, H2, I2, st2, fun b hb => (f2 b hb).1, w0⟩
  rintro n s3 ⟨i, σ3, H3, I3, st3, fr3, w3⟩
  rcases turn i n σ3 H3 w3 with ⟨stop, qn⟩ | ⟨go, N, hN, step⟩
  · refine wpAny_passesOwn hp (thn (T.done X rfl rfl rfl hc i pins s3 σ3 H3 X.xe I3 (stat fr3) st3 stop) fun r s4 ⟨hr, I4⟩ => ?_)
    subst hr
    exact wpAny_execs_nil ⟨σ3, H3, I4, qn⟩
  · refine wpAny_passesOwn hp (thn (T.item X rfl rfl rfl hc i pins s3 σ3 H3 X.xe I3 (stat fr3) st3 go) fun r s4 ⟨u, hr, h4⟩ => ?_)
    subst hr
    refine wpAny_passesOwn hp (thn h4 fun _ s5 ⟨x, H5, I5, r5, y5, st5, fr5⟩ => ?_)
    have I5' := I5.pinned (stat fr5) (T.obj _ _ st5)
    refine wpAny_passesOwn hp (thn (hg _ s5 σ3 H5 x u _ I5' r5 (step x H5 y5)) fun _ s6 ⟨σ6, H6, I6, q6⟩ => ?_)
    refine wpAny_passesOwn hp (thn (hb _ s6 σ6 H6 _ I6 q6) fun f s7 q7 => ?_)
    have again : ∀ {σ7 : St} {H7 : Hp}, Inv X (pins ++ pinsAt fp s5.heap) σ7 H7 s7 → N σ7 H7 → ∃ m, m < n ∧ ∃ i σ' H', Inv X pins σ' H' s7 ∧ tn i s7.heap ∧ (∀ b ∈ fp, H' b = none) ∧ W i m σ' H' := fun {σ7 H7} I7 n7 => by
      obtain ⟨m', hm, w7⟩ := hN σ7 H7 n7
      refine ⟨m', hm, i + 1, σ7, H7, I7.unpinned, T.keep _ _ _ st5 fun b hb o e => (I7.pin (b, o) (List.mem_append_right _ (List.mem_append_right _ (mem_pinsAt hb e)))).1, fun b hb => ?_, w7⟩
      obtain ⟨o, e, d⟩ := T.obj _ _ st5 b hb
      exact (I7.pin (b, o) (List.mem_append_right _ (List.mem_append_right _ (mem_pinsAt hb e)))).2.1
    cases f with
    | next => obtain ⟨σ7, H7, I7, n7⟩ := q7; exact again I7 n7
    | cont => obtain ⟨σ7, H7, I7, n7⟩ := q7; exact again I7 n7
    | brk => obtain ⟨σ7, H7, I7, q7⟩ := q7; exact ⟨σ7, H7, I7.unpinned, q7⟩
    | ret v => obtain ⟨x7, σ7, H7, I7, r7, q7⟩ := q7; exact ⟨x7, σ7, H7, I7.unpinned, r7, q7⟩
end
theorem for_list {K : PySem.W.Frag} {a : Addr} {xs : List V} {g : TG} {tb : TS} {D : Ends} {σ : St} {H : Hp} (Pv : Nat → St → Hp → Prop) (h0 : Pv 0 σ H) (hl : ∀ i σ H, i ≤ xs.length → Pv i σ H → SqL K H a xs)
    (hs : ∀ i x σ H, xs[i]? = some x → Pv i σ H → g x σ H fun σ2 H2 => tb { D with nx := Pv (i + 1), ct := Pv (i + 1), bk := D.nx } σ2 H2) (hd : ∀ σ H, Pv xs.length σ H → D.nx σ H) :
    ∃ W : Nat → Nat → St → Hp → Prop, (∃ m, W 0 m σ H) ∧ ∀ i m σ H, W i m σ H →
      ((Itl K a).stop i H ∧ D.nx σ H) ∨ ((Itl K a).go i H ∧ ∃ N : St → Hp → Prop, (∀ σ' H', N σ' H' → ∃ m', m' < m ∧ W (i + 1) m' σ' H') ∧ ∀ x H', (Itl K a).yld i H x H' → g x σ H' fun σ2 H2 => tb { D with nx := N, ct := N, bk := D.nx } σ2 H2) := by
  refine ⟨fun i m σ H => m = xs.length - i ∧ i ≤ xs.length ∧ Pv i σ H, ⟨xs.length, by simp, Nat.zero_le _, h0⟩, ?_⟩
  rintro i m σ H ⟨rfl, hi, p⟩
  have q := hl i σ H hi p
  by_cases hlt : i < xs.length
  · refine .inr ⟨⟨xs, xs[i], q, by simp [hlt]⟩, Pv (i + 1), fun σ' H' p' => ⟨xs.length - (i + 1), by omega, rfl, hlt, p'⟩, fun x H' y => ?_⟩
    obtain ⟨e, y⟩ := y
    subst e
    exact hs i x σ _ (y xs q) p
  · have e : i = xs.length := by omega
    subst e
    exact .inl ⟨⟨xs, q, Nat.le_refl _⟩, hd σ H p⟩
theorem for_range {lo : Int} {n : Nat} {g : TG} {tb : TS} {D : Ends} {σ : St} {H : Hp} (Pv : Nat → St → Hp → Prop) (h0 : Pv 0 σ H)
    (hs : ∀ i σ H, i < n → Pv i σ H → g (.int (lo + i)) σ H fun σ2 H2 => tb { D with nx := Pv (i + 1), ct := Pv (i + 1), bk := D.nx } σ2 H2) (hd : ∀ σ H, Pv n σ H → D.nx σ H) :
    ∃ W : Nat → Nat → St → Hp → Prop, (∃ m, W 0 m σ H) ∧ ∀ i m σ H, W i m σ H →
      ((Itr lo n).stop i H ∧ D.nx σ H) ∨ ((Itr lo n).go i H ∧ ∃ N : St → Hp → Prop, (∀ σ' H', N σ' H' → ∃ m', m' < m ∧ W (i + 1) m' σ' H') ∧ ∀ x H', (Itr lo n).yld i H x H' → g x σ H' fun σ2 H2 => tb { D with nx := N, ct := N, bk := D.nx } σ2 H2) := by
  refine ⟨fun i m σ H => m = n - i ∧ i ≤ n ∧ Pv i σ H, ⟨n, by simp, Nat.zero_le _, h0⟩, ?_⟩
  rintro i m σ H ⟨rfl, hi, p⟩
  by_cases hlt : i < n
  · refine .inr ⟨hlt, Pv (i + 1), fun σ' H' p' => ⟨n - (i + 1), by omega, rfl, hlt, p'⟩, fun x H' y => ?_⟩
    obtain ⟨e, y⟩ := y
    subst e y
    exact hs i σ _ hlt p
  · have e : i = n := by omega
    subst e
    exact .inl ⟨Nat.le_refl _, hd σ H p⟩
end L2
namespace L2
open PySem PySem.Spec PyProof.Rows
abbrev R2 := V → V → Hp → VK → Prop
def OpR (X : Cx) (f : Value → Value → Sem Value) (r : R2) : Prop :=
  ∀ (pins : List (Addr × Obj)) (s : Shared) (σ : St) (H : Hp) (x y : V) (v u : Value) (Q : VK), Inv X pins σ H s → RelV x v → RelV y u → r x y H Q →
    wpAny (model X.prog X.w) X.A (f v u) (EP X pins σ Q) X.xe s
def CallR (X : Cx) (f : Value) (r : List V → Hp → VK → Prop) : Prop :=
  ∀ (pins : List (Addr × Obj)) (s : Shared) (σ : St) (H : Hp) (xs : List V) (us : List Value) (Q : VK), Inv X pins σ H s → Vals xs us → r xs H Q →
    wpAny (model X.prog X.w) X.A (call f us) (EP X pins σ Q) X.xe s
def tOp (r : R2) (ta tb : TE) : TE := fun σ H Q => ta σ H fun x H1 => tb σ H1 fun y H2 => r x y H2 Q
def rI (C : Int → Int → Prop) (g : Int → Int → V) : R2 := fun x y H Q => ∃ i j, x = .int i ∧ y = .int j ∧ C i j ∧ Q (g i j) H
def rI0 (g : Int → Int → V) : R2 := fun x y H Q => ∃ i j, x = .int i ∧ y = .int j ∧ Q (g i j) H
section
variable {X : Cx} {a b c : Expr} {ta tb tc : TE} {pos : Pos}
theorem binT (ha : PE X a ta) (hb : PE X b tb) {pins : List (Addr × Obj)} {s : Shared} {σ : St} {H : Hp} {R : V → V → Hp → Prop} (I : Inv X pins σ H s)
    (h : ta σ H fun x H1 => tb σ H1 fun y H2 => R x y H2) {Q : Value → Shared → Prop} {f : Value → Value → Sem Value}
    (hf : ∀ v u s2 x y H2, Inv X pins σ H2 s2 → RelV x v → RelV y u → R x y H2 → wpAny (model X.prog X.w) X.A (f v u) Q X.xe s2) :
    wpAny (model X.prog X.w) X.A (eval a X.env) (fun v s₁ => wpAny (model X.prog X.w) X.A (eval b X.env) (fun u s₂ => wpAny (model X.prog X.w) X.A (f v u) Q X.xe s₂) X.xe s₁) X.xe s := by
  refine thn (ha pins s σ H _ I h) fun v s1 ⟨x, H1, I1, r1, q1⟩ => ?_
  refine thn (hb pins s1 σ H1 _ I1 q1) fun u s2 ⟨y, H2, I2, r2, q2⟩ => ?_
  exact hf v u s2 x y H2 I2 r1 r2 q2
theorem pe_op {op : Operator} {r : R2} (ho : OpR X (binaryOp op) r) (ha : PE X a ta) (hb : PE X b tb) : PE X (.BinOp a op b pos) (tOp r ta tb) := by
  intro pins s σ H Q I h
  exact wpAny_BinOp (binT ha hb I h fun v u s2 x y H2 I2 rx ry q => ho pins s2 σ H2 x y v u Q I2 rx ry q)
theorem opI {f : Value → Value → Sem Value} {C : Int → Int → Prop} {g : Int → Int → Int}
    (rule : ∀ (i j : Int) (t u : Tok) (s : Shared) (Q : Value → Shared → Prop) (E : Value → Shared → Prop), C i j → Q (.int (g i j) s.toks) { s with toks := s.toks + 1 } → wpAny (model X.prog X.w) X.A (f (.int i t) (.int j u)) Q E s) :
    OpR X f (rI C fun i j => .int (g i j)) := by
  intro pins s σ H x y v u Q I rx ry h
  obtain ⟨i, j, rfl, rfl, hc, q⟩ := h
  obtain ⟨t, rfl⟩ := rx
  obtain ⟨t', rfl⟩ := ry
  exact rule i j t t' s _ _ hc ⟨.int (g i j), H, I.tok _, ⟨_, rfl⟩, q⟩
theorem opI0 {f : Value → Value → Sem Value} {g : Int → Int → Int}
    (rule : ∀ (i j : Int) (t u : Tok) (s : Shared) (Q : Value → Shared → Prop) (E : Value → Shared → Prop), Q (.int (g i j) s.toks) { s with toks := s.toks + 1 } → wpAny (model X.prog X.w) X.A (f (.int i t) (.int j u)) Q E s) :
    OpR X f (rI0 fun i j => .int (g i j)) := by
  intro pins s σ H x y v u Q I rx ry h
  obtain ⟨i, j, rfl, rfl, q⟩ := h
  obtain ⟨t, rfl⟩ := rx
  obtain ⟨t', rfl⟩ := ry
  exact rule i j t t' s _ _ ⟨.int (g i j), H, I.tok _, ⟨_, rfl⟩, q⟩
theorem opB0 {f : Value → Value → Sem Value} {g : Int → Int → Bool}
    (rule : ∀ (i j : Int) (t u : Tok) (s : Shared) (Q : Value → Shared → Prop) (E : Value → Shared → Prop), Q (.bool (g i j)) s → wpAny (model X.prog X.w) X.A (f (.int i t) (.int j u)) Q E s) :
    OpR X f (rI0 fun i j => .bl (g i j)) := by
  intro pins s σ H x y v u Q I rx ry h
  obtain ⟨i, j, rfl, rfl, q⟩ := h
  obtain ⟨t, rfl⟩ := rx
  obtain ⟨t', rfl⟩ := ry
  exact rule i j t t' s _ _ ⟨.bl (g i j), H, I, rfl, q⟩
def CPow (i j : Int) : Prop := 0 ≤ j ∧ j ≤ 1000000 ∧ i.natAbs < 2 ^ 64
def CMul (i j : Int) : Prop := (-(2 ^ 64) < i ∧ i < 2 ^ 64) ∨ (-(2 ^ 64) < j ∧ j < 2 ^ 64)
theorem CMul.ok {i j : Int} (h : CMul i j) : IntMulOk i j := by
  rcases h with ⟨h1, h2⟩ | ⟨h1, h2⟩
  · exact .of_left (intBits_le_64 h1 h2)
  · exact .of_right (intBits_le_64 h1 h2)
theorem op_add : OpR X (binaryOp .Add) (rI0 fun i j => .int (i + j)) := opI0 fun _ _ _ _ _ _ _ q => add_int q
theorem op_sub : OpR X (binaryOp .Sub) (rI0 fun i j => .int (i - j)) := opI0 fun _ _ _ _ _ _ _ q => sub_int q
theorem op_mul : OpR X (binaryOp .Mult) (rI CMul fun i j => .int (i * j)) := opI fun _ _ _ _ _ _ _ hc q => mul_int q hc.ok
theorem op_mod : OpR X (binaryOp .Mod) (rI (fun _ j => 0 < j) fun i j => .int (i % j)) := opI fun i j _ _ _ _ _ hc q => by
  have h1 : (0 : Int) < j := hc
  exact mod_int' (by omega) (by rw [Int.fmod_eq_emod_of_nonneg i (by omega)]; exact q)
theorem op_pow : OpR X (binaryOp .Pow) (rI CPow fun i j => .int (i ^ j.toNat)) := opI fun _ _ _ _ _ _ _ hc q => pow_int_small hc.1 hc.2.1 hc.2.2 q
end
def scal : V → V → Bool
  | .non, .non => true | .non, .int _ => true | .int _, .non => true | .non, .bl _ => true | .bl _, .non => true | .non, .str _ => true | .str _, .non => true
  | .int _, .int _ => true | .bl _, .bl _ => true | .str _, .str _ => true | .byt _, .byt _ => true
  | .int _, .str _ => true | .str _, .int _ => true | .bl _, .str _ => true | .str _, .bl _ => true
  | _, _ => false
def rEq : R2 := fun x y H Q => scal x y = true ∧ Q (.bl (decide (x = y))) H
theorem dec_int {i j : Int} : decide (V.int i = V.int j) = (i == j) := by
  rw [Bool.eq_iff_iff]
  simp
theorem dec_bl {i j : Bool} : decide (V.bl i = V.bl j) = (i == j) := by
  rw [Bool.eq_iff_iff]
  simp
theorem dec_str {i j : Str} : decide (V.str i = V.str j) = (i == j) := by
  rw [Bool.eq_iff_iff]
  simp
theorem dec_byt {i j : Array UInt8} : decide (V.byt i = V.byt j) = (i.toList == j.toList) := by
  rw [Bool.eq_iff_iff]
  cases i
  cases j
  simp
section
variable {X : Cx} {a b c : Expr} {ta tb tc : TE} {pos : Pos}
theorem fin_bl {pins : List (Addr × Obj)} {σ : St} {H : Hp} {s : Shared} {Q : VK} {k k' : Bool} (I : Inv X pins σ H s) (q : Q (.bl k) H) (e : k = k') : EP X pins σ Q (.bool k') s := by
  subst e
  exact ⟨.bl k, H, I, rfl, q⟩
theorem op_eq : OpR X (compareOp .Eq) rEq := by
  intro pins s σ H x y v u Q I rx ry h
  obtain ⟨hs, q⟩ := h
  cases x with
  | non =>
    cases rx
    cases y with
    | non => cases ry; exact PySem.EqNone.eq_none_none (fin_bl I q (by simp))
    | bl j => cases ry; exact PySem.EqNone.eq_none_bool (fin_bl I q (by simp))
    | int j => obtain ⟨t', rfl⟩ := ry; exact PySem.EqNone.eq_none_int (fin_bl I q (by simp))
    | str j => obtain ⟨t', rfl⟩ := ry; exact PySem.EqNone.eq_none_str (fin_bl I q (by simp))
    | _ => exact absurd (show false = true from hs) Bool.false_ne_true
  | bl i =>
    cases rx
    cases y with
    | non => cases ry; exact PySem.EqNone.eq_bool_none (fin_bl I q (by simp))
    | bl j => cases ry; exact eq_bool (fin_bl I q dec_bl)
    | str j => obtain ⟨t', rfl⟩ := ry; exact PySem.EqMixed.eq_bool_str (fin_bl I q (by simp))
    | _ => exact absurd (show false = true from hs) Bool.false_ne_true
  | int i =>
    obtain ⟨t, rfl⟩ := rx
    cases y with
    | non => cases ry; exact PySem.EqNone.eq_int_none (fin_bl I q (by simp))
    | int j => obtain ⟨t', rfl⟩ := ry; exact eq_int (fin_bl I q dec_int)
    | str j => obtain ⟨t', rfl⟩ := ry; exact PySem.EqMixed.eq_int_str (fin_bl I q (by simp))
    | _ => exact absurd (show false = true from hs) Bool.false_ne_true
  | str i =>
    obtain ⟨t, rfl⟩ := rx
    cases y with
    | non => cases ry; exact PySem.EqNone.eq_str_none (fin_bl I q (by simp))
    | bl j => cases ry; exact PySem.EqMixed.eq_str_bool (fin_bl I q (by simp))
    | int j => obtain ⟨t', rfl⟩ := ry; exact PySem.EqMixed.eq_str_int (fin_bl I q (by simp))
    | str j => obtain ⟨t', rfl⟩ := ry; exact eq_str (fin_bl I q dec_str)
    | _ => exact absurd (show false = true from hs) Bool.false_ne_true
  | byt i =>
    obtain ⟨t, rfl⟩ := rx
    cases y with
    | byt j => obtain ⟨t', rfl⟩ := ry; exact PySem.W.eq_bytes (fin_bl I q dec_byt)
    | _ => exact absurd (show false = true from hs) Bool.false_ne_true
  | _ => cases y <;> exact absurd (show false = true from hs) Bool.false_ne_true
theorem op_lt : OpR X (compareOp .Lt) (rI0 fun i j => .bl (decide (i < j))) := opB0 fun _ _ _ _ _ _ _ q => lt_int q
theorem op_gt : OpR X (compareOp .Gt) (rI0 fun i j => .bl (decide (j < i))) := opB0 fun _ _ _ _ _ _ _ q => gt_int q
theorem nomark (b : Expr) {op : CmpOp} (h : op ≠ .In := by decide) (h2 : op ≠ .NotIn := by decide) : behindInMarks op b = false := by
  have e1 : (op == CmpOp.In) = false := by cases op <;> first | rfl | exact absurd rfl h
  have e2 : (op == CmpOp.NotIn) = false := by cases op <;> first | rfl | exact absurd rfl h2
  cases b <;> simp [behindInMarks, e1, e2]
theorem pe_cmpR {op : CmpOp} {r : R2} (ho : OpR X (compareOp op) r) (ha : PE X a ta) (hb : PE X b tb) (hm : behindInMarks op b = false) : PE X (.Compare a [op] [b] pos) (tOp r ta tb) := by
  intro pins s σ H Q I h
  exact wpAny_Compare1 (binT ha hb I h fun v u s2 x y H2 I2 rx ry q => ho pins s2 σ H2 x y v u Q I2 rx ry q) hm
def tTest (t : TE) : TT := fun σ H Q => t σ H fun x H' => ∃ k, x = .bl k ∧ Q k H'
theorem pt_cmpR {op : CmpOp} {r : R2} (ho : OpR X (compareOp op) r) (ha : PE X a ta) (hb : PE X b tb) (hm : behindInMarks op b = false) : PT X (.Compare a [op] [b] pos) (tTest (tOp r ta tb)) := by
  intro pins s σ H Q I h
  refine wpAny_isTrue_Compare1 (thn (ha pins s σ H _ I h) fun v s1 ⟨x, H1, I1, r1, q1⟩ => thn (hb pins s1 σ H1 _ I1 q1) fun u s2 ⟨y, H2, I2, r2, q2⟩ =>
    thn (ho pins s2 σ H2 x y v u _ I2 r1 r2 q2) fun c s3 ⟨z, H3, I3, r3, k, e, q3⟩ => ?_) hm
  subst e
  cases r3
  exact wpAny_truthy_bool ⟨H3, I3, q3⟩
theorem line63 : (sizeLine : Nat) < 2 ^ 63 := by rw [sizeLine_eq]; decide
theorem vals1 {x : V} {us : List Value} (r : Vals [x] us) : ∃ u, us = [u] ∧ RelV x u := by
  cases r with
  | cons r1 r2 => cases r2; exact ⟨_, rfl, r1⟩
theorem vals2 {x y : V} {us : List Value} (r : Vals [x, y] us) : ∃ u w', us = [u, w'] ∧ RelV x u ∧ RelV y w' := by
  cases r with
  | cons r1 r2 =>
    cases r2 with
    | cons r3 r4 => cases r4; exact ⟨_, _, rfl, r1, r3⟩
theorem call_max2 (hc : X.calm = true) : CallR X (.builtin "max") (fun xs H Q => ∃ i j, xs = [.int i, .int j] ∧ Q (.int (if j > i then j else i)) H) := by
  intro pins s σ H xs us Q I r h
  obtain ⟨i, j, rfl, q⟩ := h
  obtain ⟨u, w', rfl, ⟨t, rfl⟩, ⟨t', rfl⟩⟩ := vals2 r
  refine max_two_ints (I.ok.hd hc) fun h' tk k => ⟨_, H, I.kept k, ?_, q⟩
  by_cases hj : j > i
  · rw [if_pos hj, if_pos hj]; exact ⟨_, rfl⟩
  · rw [if_neg hj, if_neg hj]; exact ⟨_, rfl⟩
theorem call_min2 (hc : X.calm = true) : CallR X (.builtin "min") (fun xs H Q => ∃ i j, xs = [.int i, .int j] ∧ Q (.int (if j < i then j else i)) H) := by
  intro pins s σ H xs us Q I r h
  obtain ⟨i, j, rfl, q⟩ := h
  obtain ⟨u, w', rfl, ⟨t, rfl⟩, ⟨t', rfl⟩⟩ := vals2 r
  refine min_two_ints (I.ok.hd hc) fun h' tk k => ⟨_, H, I.kept k, ?_, q⟩
  by_cases hj : j < i
  · rw [if_pos hj, if_pos hj]; exact ⟨_, rfl⟩
  · rw [if_neg hj, if_neg hj]; exact ⟨_, rfl⟩
end
end L2
namespace L2
open PySem PySem.Spec PyProof.Rows
structure ObjM (h : Heap) (x dx C : Addr) (mA : Str → Option Value) : Prop where
  obj : h.get? x = some (PySem.W.instObj C dx)
  ns : h.Ns1 dx mA
  ne : dx ≠ x
theorem lookIn_ns {h : Heap} {dx : Addr} {mA : Str → Option Value} (n : h.Ns1 dx mA) : ∃ od, h.get? dx = some od ∧ ∀ name, PySem.W.lookIn name od = some (mA name) := by
  obtain ⟨o, es, ep, ho, hd, hk, _, hm⟩ := n
  refine ⟨o, ho, fun name => ?_⟩
  have e := hm name
  unfold nsFind findBy at e
  rw [← Array.find?_toList] at e
  unfold PySem.W.lookIn
  rw [hd]
  dsimp only
  split
  · rename_i y q
    rw [q] at e
    exact congrArg some e
  · rename_i q
    rw [q] at e
    have a : es.toList.any (·.refKey) = false := by
      rw [List.any_eq_false]
      intro y hy
      obtain ⟨z, t, hkey⟩ := hk y (Array.mem_toList_iff.mp hy)
      simp [DictEntry.refKey, hkey]
    have a' : ¬ es.toList.any (·.refKey) = true := by rw [a]; exact Bool.false_ne_true
    rw [if_neg a']
    exact congrArg some e
theorem ObjM.look {h : Heap} {x dx C : Addr} {mA : Str → Option Value} (I : ObjM h x dx C mA) : ∃ od, PySem.W.InstAt h x (PySem.W.instObj C dx) C (some od) ∧ ∀ name, PySem.W.lookIn name od = some (mA name) :=
  let ⟨od, ho, hl⟩ := lookIn_ns I.ns
  ⟨od, ⟨I.obj, rfl, rfl, ho⟩, hl⟩
section
variable {prog : Program} {w : World} {A : Around} {E : Value → Shared → Prop} {s : Shared} {K : PySem.W.Frag} {x dx C f : Addr} {mA : Str → Option Value} {name : Str} {v : Value}
end
theorem RelO.some_of {v : V} {o : Option Value} (r : RelO (some v) o) : ∃ u, o = some u ∧ RelV v u := by
  cases o with
  | none => exact (show False from r).elim
  | some u => exact ⟨u, rfl, r⟩
theorem handed_of {v : V} {u : Value} (r : RelV v u) : PySem.W.handedIn u = true := by
  cases v with
  | non => cases (show u = Value.none from r); rfl
  | bl b => cases (show u = Value.bool b from r); rfl
  | int i => obtain ⟨t, e⟩ := (show ∃ t, u = Value.int i t from r); cases e; rfl
  | str x => obtain ⟨t, e⟩ := (show ∃ t, u = Value.str x t from r); cases e; rfl
  | byt b => obtain ⟨t, e⟩ := (show ∃ t, u = Value.bytes b t from r); cases e; rfl
  | flt b => obtain ⟨t, e⟩ := (show ∃ t, u = Value.float b t from r); cases e; rfl
  | ref a => cases (show u = Value.ref a from r); rfl
  | ty n => cases (show u = Value.type n from r); rfl
section
variable {P : Program} {w : World} {H H' : Hp} {h h' : Heap} {a C dx : Addr} {fs fs' : List (Str × V)}
theorem ins_get (hok : HOk P w H h) (e : H a = some (.ins C dx fs)) : ∃ mA, ObjM h a dx C mA ∧ (∀ f, RelO (fs.lookup f) (mA f)) ∧ PySem.Within mA (fs.map (·.1)) ∧ fs.length ≤ 1000 ∧ H dx = some (.own a) := by
  obtain ⟨d, z, ne, ob, mA, n, r, q⟩ := (show ObjOk P w H h a (.ins C dx fs) from hok a _ e)
  exact ⟨mA, ⟨ob, n, ne⟩, r, q, z, d⟩
end
structure Cls (K : PySem.W.Frag) (C : Addr) : Prop where
  pg : PySem.W.plainGet K C Str.empty = true
  hd : PySem.W.hasDictIn K C = true
  po : PySem.W.plainOver K C = true
  sa : PySem.W.findIn K (.ref C) "__setattr__" = some (some (.builtin "object.__setattr__"))
theorem Cls.get {K : PySem.W.Frag} {C : Addr} (c : Cls K C) (f : Str) : PySem.W.plainGet K C f = true := c.pg
def NoAttr (K : PySem.W.Frag) (C : Addr) (f : Str) : Prop := PySem.W.findIn K (.ref C) f = some none
section
variable {X : Cx} {pins : List (Addr × Obj)} {σ : St} {H : Hp} {s : Shared} {a C dx : Addr} {fs : List (Str × V)} {f : Str} {v : V} {A : Around} {E : Value → Shared → Prop}
theorem attr_of {prog : Program} {w : World} {env : Env} {e : Expr} {f : Str} {pos : Pos} {s : Shared} {Q : Value → Shared → Prop} (hb : attributeBase e f env (eval e env) = eval e env)
    (h : wpAny (model prog w) A (eval e env) (fun o s₁ => wpAny (model prog w) A (getAttr o f true) Q E s₁) E s) : wpAny (model prog w) A (eval (.Attribute e f pos) env) Q E s :=
  Attribute_any_ h (by rw [arm_eval_Attribute, hb])
end
section
variable {X : Cx} {o e value : Expr} {f : Str} {pos pos' tpos : Pos} {ta tv : TE}
end
section
variable {X : Cx} {pins : List (Addr × Obj)} {σ : St} {H : Hp} {s : Shared} {A : Around} {E : Value → Shared → Prop} {Q : Value → Shared → Prop} {c : Value} {b : Bool}
inductive TyOf (K : PySem.W.Frag) (H : Hp) : V → Value → Prop where
  | non : TyOf K H .non (.type "NoneType")
  | bl (x : Bool) : TyOf K H (.bl x) (.type "bool")
  | int (i : Int) : TyOf K H (.int i) (.type "int")
  | str (x : Str) : TyOf K H (.str x) (.type "str")
  | flt (x : UInt64) : TyOf K H (.flt x) (.type "float")
  | lst {a : Addr} {xs : List V} (e : H a = some (.lst xs)) : TyOf K H (.ref a) (.type "list")
  | frz {a : Addr} {o : Obj} {xs : List V} (e : H a = some (.frz o (.lst xs))) : TyOf K H (.ref a) (.type "list")
  | tup {a : Addr} {xs : List V} (e : H a = some (.tup xs)) : TyOf K H (.ref a) (.type "tuple")
  | dK {a : Addr} {kvs : List (Key × V)} (e : H a = some (.dK kvs)) : TyOf K H (.ref a) (.type "dict")
  | dT {a : Addr} {kvs : List (List Key × V)} (e : H a = some (.dT kvs)) : TyOf K H (.ref a) (.type "dict")
  | ins {a C dx : Addr} {fs : List (Str × V)} (e : H a = some (.ins C dx fs)) (cl : Cls K C) (ha : PySem.W.findIn K (.ref C) "__class__" = some (some (.builtin "object.__class__")))
      (hn : PySem.W.specialIn K (.builtin "object.__class__") "__get__" = some (some (.builtin "getset_descriptor.__get__"))) (htk : PySem.W.takesIn K (.builtin "object.__class__") = some true)
      (hm : PySem.W.mroIn K C (.type "object") = some true) : TyOf K H (.ref a) (.ref C)
theorem isinst_ok {x : V} {u t : Value} (I : Inv X pins σ H s) (rx : RelV x u) (ty : TyOf X.K H x t) (e : PySem.W.kitOne X.K t c = some b) (h : ∀ tk, Q (.bool b) { s with toks := tk }) :
    wpAny (model X.prog X.w) A (call (.builtin "isinstance") [u, c]) Q E s := by
  cases ty with
  | non => cases (show u = Value.none from rx); exact PySem.W.kia_one PySem.W.kitx_none I.kIn True.intro e (fun z => nomatch z) h
  | bl y => cases (show u = Value.bool y from rx); exact PySem.W.kia_one PySem.W.kitx_bool I.kIn True.intro e (fun z => nomatch z) h
  | int i => obtain ⟨t, q⟩ := (show ∃ t, u = Value.int i t from rx); cases q; exact PySem.W.kia_one PySem.W.kitx_int I.kIn True.intro e (fun z => nomatch z) h
  | str y => obtain ⟨t, q⟩ := (show ∃ t, u = Value.str y t from rx); cases q; exact PySem.W.kia_one PySem.W.kitx_str I.kIn True.intro e (fun z => nomatch z) h
  | flt y => obtain ⟨t, q⟩ := (show ∃ t, u = Value.float y t from rx); cases q; exact PySem.W.kia_one PySem.W.kitx_float I.kIn True.intro e (fun z => nomatch z) h
  | @lst a xs ea =>
    cases (show u = Value.ref a from rx)
    obtain ⟨_, _, n, _, h1⟩ := (show ObjOk X.prog X.w H s.heap a (.lst xs) from I.hok a _ ea)
    exact PySem.W.kia_one PySem.W.kitx_list I.kIn ⟨_, h1, rfl⟩ e (fun z => nomatch z) h
  | @frz a ob xs ea =>
    cases (show u = Value.ref a from rx)
    obtain ⟨_, _, _, n, _, h1⟩ := (show ObjOk X.prog X.w H s.heap a (.frz ob (.lst xs)) from I.hok a _ ea)
    exact PySem.W.kia_one PySem.W.kitx_list I.kIn ⟨_, h1, rfl⟩ e (fun z => nomatch z) h
  | @tup a xs ea =>
    cases (show u = Value.ref a from rx)
    obtain ⟨_, _, _, p⟩ := (show ObjOk X.prog X.w H s.heap a (.tup xs) from I.hok a _ ea)
    obtain ⟨o, h1, h2, _⟩ := p
    exact PySem.W.kia_one PySem.W.kitx_tuple I.kIn ⟨o, h1, h2⟩ e (fun z => nomatch z) h
  | @dK a kvs ea =>
    cases (show u = Value.ref a from rx)
    obtain ⟨_, _, vs, _, p⟩ := (show ObjOk X.prog X.w H s.heap a (.dK kvs) from I.hok a _ ea)
    obtain ⟨o, es, ep, h1, h2, _⟩ := p
    exact PySem.W.kia_one PySem.W.kitx_dict I.kIn ⟨o, h1, h2.1⟩ e (fun z => nomatch z) h
  | @dT a kvs ea =>
    cases (show u = Value.ref a from rx)
    obtain ⟨_, _, xs, _, o, es, ep, h1, h2, _⟩ := (show ObjOk X.prog X.w H s.heap a (.dT kvs) from I.hok a _ ea)
    exact PySem.W.kia_one PySem.W.kitx_dict I.kIn ⟨o, h1, h2.1⟩ e (fun z => nomatch z) h
  | @ins a C dx fs ea cl ha hn htk hm =>
    cases (show u = Value.ref a from rx)
    obtain ⟨mA, O, _⟩ := ins_get I.hok ea
    obtain ⟨od, J, _⟩ := O.look
    exact PySem.W.kia_one (PySem.W.kitx_own (cl.get _) cl.hd ha hn htk hm) I.kIn J e (fun z => nomatch z) h
end
end L2
namespace L2
open PySem PySem.Spec PyProof.Rows
structure Room (k : Nat) (A : Around) : Prop where
  hd : A.handled = none
  dp : A.depth + 3 * k + 5 < recursionLimit
  un : A.units + 16 * k + 200 < cLine
  gd : A.guards = some []
theorem Room.mono {j k : Nat} {A : Around} (r : Room k A) (h : j ≤ k) : Room j A := ⟨r.hd, by have := r.dp; omega, by have := r.un; omega, r.gd⟩
theorem Room.deeper {k : Nat} {A : Around} (r : Room (k + 1) A) (env : Env) : Room k (A.deeper env) :=
  ⟨r.hd, by have := r.dp; show A.depth + 1 + 3 * k + 5 < _; omega, by have := r.un; show A.units + 3 + 16 * k + 200 < _; omega, r.gd⟩
theorem make_depth {A : Around} {C : Addr} {us : List Value} {kw : List (Str × Value)} : (A.under (.builtin "type.__call__" ⟨.ref C :: us, kw⟩)).depth = A.depth + 1 := by
  first | rfl | simp [Around.under, Code.weight, Code.isCreation, Code.isGuard, Code.isCaller, Code.frames, Code.isFrame, guardIds]
theorem make_units {A : Around} {C : Addr} {us : List Value} {kw : List (Str × Value)} : (A.under (.builtin "type.__call__" ⟨.ref C :: us, kw⟩)).units = A.units + 1 := by
  first | rfl | simp [Around.under, Code.cUnits, Code.frames, Code.isFrame]
theorem Room.make {k : Nat} {A : Around} (r : Room (k + 1) A) (C : Addr) (us : List Value) (kw : List (Str × Value)) : Room k (A.under (.builtin "type.__call__" ⟨.ref C :: us, kw⟩)) :=
  ⟨r.hd, by have := r.dp; rw [make_depth]; omega, by have := r.un; rw [make_units]; omega, r.gd⟩
theorem Room.depth {k : Nat} {A : Around} (r : Room k A) : A.depth < recursionLimit := by have := r.dp; omega
theorem Room.units {k : Nat} {A : Around} (r : Room k A) : A.units + 64 < cLine := by have := r.un; omega
def tNil : TA := fun _ H Q => Q [] H
def tCons (ta : TE) (tr : TA) : TA := fun σ H Q => ta σ H fun x H1 => tr σ H1 fun xs H2 => Q (x :: xs) H2
section
variable {X : Cx} {e : Expr} {es : List Expr} {te : TE} {t : TA} {pos : Pos}
theorem pa_nil : PA X [] tNil := fun _ _ _ _ H Q I h => Calls.spliced_nil ⟨[], H, I, .nil, h⟩
theorem pa_cons (ha : PE X e te) (hr : PA X es t) (hs : starEach (e :: es) X.env = (false, eval e X.env) :: starEach es X.env := by rfl) : PA X (e :: es) (tCons te t) := by
  intro pos pins s σ H Q I h
  rw [hs]
  show wpAny _ _ (spliced ((false, eval e X.env) :: backTo pos (starEach es X.env))) _ _ s
  refine Calls.spliced_cons (thn (ha pins s σ H _ I h) fun u s1 ⟨x, H1, I1, r1, q1⟩ => ?_)
  exact thn (hr pos pins s1 σ H1 _ I1 q1) fun us s2 ⟨xs, H2, I2, r2, q2⟩ => ⟨x :: xs, H2, I2, .cons r1 r2, q2⟩
def tTup (t : TA) : TE := fun σ H Q => t σ H fun xs H1 => xs.length ≤ sizeLine ∧ ∀ p, H1 p = none → Q (.ref p) (upd H1 p (.tup xs))
def tLst (t : TA) : TE := fun σ H Q => t σ H fun xs H1 => xs.length ≤ sizeLine ∧ ∀ p, H1 p = none → Q (.ref p) (upd H1 p (.lst xs))
theorem pe_tup {x1} (h : PA X es t) : PE X (.Tuple es x1 pos) (tTup t) := by
  intro pins s σ H Q I hq
  refine wpAny_Tuple_spliced (thn (h pos pins s σ H _ I hq) fun us s1 ⟨xs, H1, I1, r, z, q⟩ => ⟨by rw [← r.length]; exact z, ?_⟩)
  have hf : H1 s1.heap.objs.size = none := I1.hok.fresh (Nat.le_refl _)
  refine ⟨.ref s1.heap.objs.size, upd H1 s1.heap.objs.size (.tup xs), I1.laid (t' := s1.toks) (fun b u e => Heap.get?_push_of_some _ e) (Nat.le_refl _) ?_, rfl, q _ hf⟩
  exact ⟨z, us, r, ⟨_, Heap.get?_push_size _ rfl, rfl, _, rfl⟩⟩
theorem pe_lst (h : PA X es t) : PE X (.List es pos) (tLst t) := by
  intro pins s σ H Q I hq
  refine wpAny_List_spliced (thn (h pos pins s σ H _ I hq) fun us s1 ⟨xs, H1, I1, r, z, q⟩ => ⟨by rw [← r.length]; exact z, ?_⟩)
  have hf : H1 s1.heap.objs.size = none := I1.hok.fresh (Nat.le_refl _)
  refine ⟨.ref s1.heap.objs.size, upd H1 s1.heap.objs.size (.lst xs), I1.laid (t' := s1.toks) (fun b u e => Heap.get?_push_of_some _ e) (Nat.le_refl _) ?_, rfl, q _ hf⟩
  exact ⟨z, us, 0, r, Heap.get?_push_size _ rfl⟩
end
abbrev Sp := List V → Hp → VK → XK → Prop
abbrev CXT := List Env → Hp → Shared → XK → Value → Shared → Prop
structure Env0 (P : Program) (w : World) (K : PySem.W.Frag) (mg : Str → Option Value) (base : Heap) (A : Around) (outer : List Env) (s : Shared) (H : Hp) : Prop where
  frames : A.frames = some outer
  mod : Mod K mg base
  bs : ∀ b o, base.get? b = some o → s.heap.get? b = some o ∧ H b = none
  bsz : base.objs.size ≤ s.heap.objs.size
  funs : s.heap.FunFrames base outer
  frf : ∀ b ∈ frs outer, H b = none
  hok : HOk P w H s.heap
  bare : AllBare s.gens
def CE (outer : List Env) (P : Program) (w : World) (H : Hp) (s : Shared) (Q : VK) (u : Value) (s' : Shared) : Prop :=
  ∃ v H', s'.os = s.os ∧ AllBare s'.gens ∧ Un (frs outer) [] H H' s.heap s'.heap ∧ HOk P w H' s'.heap ∧ RelV v u ∧ Q v H'
def CR (CX : CXT) (outer : List Env) (P : Program) (w : World) (H : Hp) (s : Shared) (Q : VK) (E : XK) (r : Result) (s' : Shared) : Prop :=
  match r with
  | .ok (.ret u) => CE outer P w H s Q u s'
  | .ok _ => False
  | .error e => CX outer H s E e s'
structure FnOk (P : Program) (w : World) (K : PySem.W.Frag) (mg : Str → Option Value) (base : Heap) (CX : CXT) (k : Nat) (f : Addr) (fd : FuncData) (ps : List Str) (sp : Sp) : Prop where
  len : ∀ vs H Q E, sp vs H Q E → vs.length = ps.length
  run : ∀ (A : Around) (outer : List Env) (s : Shared) (H : Hp) (args : Args) (us : List Value) (vs : List V) (Q : VK) (E : XK), Room k A → Env0 P w K mg base A outer s H → BindsTo s fd args (ps.zip us) → Vals vs us → sp vs H Q E →
    codeAny (model P w) A (.call (.ref f) args) (CR CX outer P w H s Q E) s
theorem Env0.make {P : Program} {w : World} {K : PySem.W.Frag} {mg : Str → Option Value} {base : Heap} {A : Around} {outer : List Env} {s : Shared} {H : Hp} (e : Env0 P w K mg base A outer s H) (C : Addr) (us : List Value) (kw : List (Str × Value)) :
    Env0 P w K mg base (A.under (.builtin "type.__call__" ⟨.ref C :: us, kw⟩)) outer s H := ⟨by first | exact e.frames | (simpa [Around.under, Code.envs, Code.isFrame, pushEnvs] using e.frames), e.mod, e.bs, e.bsz, e.funs, e.frf, e.hok, e.bare⟩
section
variable {X : Cx} {pins : List (Addr × Obj)} {σ : St} {H : Hp} {s s' : Shared}
theorem Inv.env0 (I : Inv X pins σ H s) : Env0 X.prog X.w X.K X.mg X.base X.A X.stack s H :=
  ⟨I.ok.frames, I.ok.mod, I.bs, Nat.le_trans I.ok.bsz I.sz, I.stack, I.stkFree, I.hok, I.bare⟩
theorem Inv.after {Q : VK} {u : Value} (I : Inv X pins σ H s) (h : CE X.stack X.prog X.w H s Q u s') : EP X pins σ Q u s' := by
  obtain ⟨v, H', os, bare, un, hok, r, q⟩ := h
  obtain ⟨hh, g, d, t, os'⟩ := s'
  obtain rfl : os' = s.os := os
  exact ⟨v, H', I.call (h' := hh) (g' := g) (d' := d) (t' := t) (ch := []) un hok bare (fun b z => absurd z (by simp)), r, q⟩
end
def tCall (sp : Sp) (dvs : List V) (E : XK) (t : TA) : TE := fun σ H Q => t σ H fun vs H1 => sp (vs ++ dvs) H1 Q E
def Binds (K : PySem.W.Frag) (fd : FuncData) (ps : List Str) (ds : List Value) : Prop :=
  ∀ (s : Shared) (us : List Value), K.In s.heap → (us ++ ds).length = ps.length → BindsTo s fd ⟨us, []⟩ (ps.zip (us ++ ds))
theorem Binds.all {K : PySem.W.Frag} {fd : FuncData} {ps : List Str} (h : ∀ us : List Value, us.length = ps.length → bindArgs fd ⟨us, []⟩ = pure (ps.zip us)) : Binds K fd ps [] := fun s us _ hl => by
  rw [List.append_nil] at hl ⊢
  exact .of_eq (h us hl)
def Passes (CX : CXT) (X : Cx) (E : XK) : Prop := ∀ (pins : List (Addr × Obj)) (σ : St) (H : Hp) (s : Shared) (e : Value) (s' : Shared), Inv X pins σ H s → CX X.stack H s E e s' → X.xe e s'
section
variable {X : Cx} {CX : CXT} {k : Nat} {f C : Addr} {fd : FuncData} {ps : List Str} {sp : Sp} {dvs : List V} {ds : List Value} {E : XK} {x m : Str} {p pos apos : Pos} {e o : Expr} {es : List Expr} {ta : TE} {t : TA}
theorem run_fn {pins : List (Addr × Obj)} {σ : St} {H : Hp} {s : Shared} {Q : VK} {us : List Value} {vs : List V} (F : FnOk X.prog X.w X.K X.mg X.base CX k f fd ps sp) (hr : Room k X.A) (hb : Binds X.K fd ps ds) (hd : Vals dvs ds) (hx : Passes CX X E)
    (I : Inv X pins σ H s) (r : Vals vs us) (h : sp (vs ++ dvs) H Q E) : wpAny (model X.prog X.w) X.A (call (.ref f) us) (EP X pins σ Q) X.xe s := by
  have r2 : Vals (vs ++ dvs) (us ++ ds) := r.append hd
  have hl : (us ++ ds).length = ps.length := by rw [← r2.length]; exact F.len _ _ _ _ h
  refine wpAny_call (codeAny_mono (F.run X.A X.stack s H ⟨us, []⟩ (us ++ ds) (vs ++ dvs) Q E hr I.env0 (hb s us I.kIn hl) r2 h) fun r s' hq => ?_)
  cases r with
  | error e => exact hx pins σ H s e s' I hq
  | ok fl =>
    cases fl with
    | ret u => exact I.after hq
    | next => exact False.elim hq
    | brk => exact False.elim hq
    | cont => exact False.elim hq
theorem pe_call (F : FnOk X.prog X.w X.K X.mg X.base CX k f fd ps sp) (hr : Room k X.A) (hg : Gl X x) (hm : X.mg x = some (.ref f)) (hk : PySem.W.keepIn X.K (.ref f) = true) (hb : Binds X.K fd ps ds) (hd : Vals dvs ds) (hx : Passes CX X E)
    (ha : PA X (e :: es) t) (hdb : (x == ("__debug__" : Str)) = false := by decide) (he : starEach (e :: es) X.env = (false, eval e X.env) :: starEach es X.env := by rfl) (hpl : (backTo pos (starEach es X.env)).any (·.1) = false := by rfl) :
    PE X (.Call (.Name x p) (e :: es) [] pos) (tCall sp dvs E t) := by
  intro pins s σ H Q I h
  refine wpAny_Call_Name_kw (ld_glob I hg hm ?_ hdb)
  refine PySem.W.callWith_K (h₀ := X.base) I.ok.mod.kin hk (thn (ha pos pins s σ H _ I h) fun us s1 ⟨vs, H1, I1, r, q⟩ => ⟨I1.kIn, ?_⟩) he hpl
  exact run_fn F hr hb hd hx I1 r q
end
section
variable {X : Cx} {CX : CXT} {k : Nat} {f C : Addr} {fd : FuncData} {ps ks : List Str} {sp : Sp} {E : XK} {x m : Str} {p pos apos kpos : Pos} {e o : Expr} {es : List Expr} {kws : List Keyword} {te ta : TE} {t tk : TA} {nm : Option Str}
variable {g : List Value → List Value → List Value} {gV : List V → List V → List V}
end
structure FnScope (N P : List Str) (sc : Scope) : Prop where
  kind : sc.kind = .function
  co : sc.isCoroutine = false
  gen : sc.isGenerator = false
  nd : N.Nodup
  pre : N.take P.length = P
  par : ∀ x ∈ P, sc.names.lookup x = some .local ∨ sc.names.lookup x = some .cell
  nofree : ∀ y ∈ sc.names, y.2 ≠ .free
theorem bindL_out {kindOf : Str → Option NameKind} {x : Str} : ∀ {binds : List (Str × Value)} {m : Str → Option Value}, (∀ v, (x, v) ∉ binds) → bindL kindOf binds m x = m x
  | [], _, _ => rfl
  | (n, v) :: r, m, h => by
    unfold bindL
    rw [bindL_out fun w hw => h w (List.mem_cons_of_mem _ hw)]
    split
    · have : x ≠ n := by rintro rfl; exact h v List.mem_cons_self
      simp [this]
    · rfl
theorem bindC_out {kindOf : Str → Option NameKind} {x : Str} : ∀ {binds : List (Str × Value)} {m : Str → Option Value}, (∀ v, (x, v) ∉ binds) → bindC kindOf binds m x = m x
  | [], _, _ => rfl
  | (n, v) :: r, m, h => by
    unfold bindC
    rw [bindC_out fun w hw => h w (List.mem_cons_of_mem _ hw)]
    split
    · rfl
    · have : x ≠ n := by rintro rfl; exact h v List.mem_cons_self
      simp [this]
theorem bindL_get {kindOf : Str → Option NameKind} {x : Str} {v : Value} : ∀ {P : List Str} {vs : List Value} {i : Nat} {m : Str → Option Value}, P.Nodup → P[i]? = some x → vs[i]? = some v → kindOf x = some .local →
    bindL kindOf (P.zip vs) m x = some v
  | [], _, _, _, _, h, _, _ => by simp at h
  | _ :: _, [], _, _, _, _, h, _ => by simp at h
  | p :: P, w :: vs, 0, m, nd, h1, h2, hk => by
    simp at h1 h2; subst h1; subst h2
    show bindL kindOf ((p, w) :: P.zip vs) m p = _
    unfold bindL
    rw [bindL_out fun v hv => (List.nodup_cons.mp nd).1 (List.of_mem_zip hv).1, if_pos hk]
    simp
  | p :: P, w :: vs, i + 1, m, nd, h1, h2, hk => by
    show bindL kindOf ((p, w) :: P.zip vs) m x = _
    unfold bindL
    exact bindL_get (i := i) (List.nodup_cons.mp nd).2 (by simpa using h1) (by simpa using h2) hk
theorem bindC_get {kindOf : Str → Option NameKind} {x : Str} {v : Value} : ∀ {P : List Str} {vs : List Value} {i : Nat} {m : Str → Option Value}, P.Nodup → P[i]? = some x → vs[i]? = some v → kindOf x ≠ some .local →
    bindC kindOf (P.zip vs) m x = some v
  | [], _, _, _, _, h, _, _ => by simp at h
  | _ :: _, [], _, _, _, _, h, _ => by simp at h
  | p :: P, w :: vs, 0, m, nd, h1, h2, hk => by
    simp at h1 h2; subst h1; subst h2
    show bindC kindOf ((p, w) :: P.zip vs) m p = _
    unfold bindC
    rw [bindC_out fun v hv => (List.nodup_cons.mp nd).1 (List.of_mem_zip hv).1, if_neg hk]
    simp
  | p :: P, w :: vs, i + 1, m, nd, h1, h2, hk => by
    show bindC kindOf ((p, w) :: P.zip vs) m x = _
    unfold bindC
    exact bindC_get (i := i) (List.nodup_cons.mp nd).2 (by simpa using h1) (by simpa using h2) hk
def start (N : List Str) (vs : List V) : St := vs.map some ++ List.replicate (N.length - vs.length) none
def cxOf (CX : CXT) (P : Program) (w : World) (K : PySem.W.Frag) (mg : Str → Option Value) (base : Heap) (N : List Str) (qual : Str) (scope : Scope) (f : Addr) (cd : Value) (A : Around) (outer : List Env) (s : Shared) (H : Hp) (E : XK) : Cx where
  prog := P
  w := w
  K := K
  mg := mg
  base := base
  A := A.deeper (envOfC qual scope s.heap.objs.size f cd)
  N := N
  s₀ := s
  H₀ := H
  env := envOfC qual scope s.heap.objs.size f cd
  outer := outer
  stack := envOfC qual scope s.heap.objs.size f cd :: outer
  ex := []
  calm := true
  fn := fun _ => true
  pn := []
  xe := fun e s' => wpAny (model P w) (A.deeper (envOfC qual scope s.heap.objs.size f cd)) (leaving (envOfC qual scope s.heap.objs.size f cd) e) (fun _ s'' => CX outer H s E e s'') (fun e' s'' => CX outer H s E e' s'') s'
theorem cell_has {sc : Scope} {n : Nat} {x : Str} (h : sc.names.lookup x = some .cell) : ∃ c, (cellsFrom n sc.names []).lookup x = some c := by
  have q := PySem.W.cellsFrom_some sc.names n [] (.inl h)
  exact Option.isSome_iff_exists.mp q
theorem inv_start {CX : CXT} {P : Program} {w : World} {K : PySem.W.Frag} {mg : Str → Option Value} {base : Heap} {N ps : List Str} {qual : Str} {scope : Scope} {f : Addr} {cd : Value} {A : Around} {outer : List Env} {s s1 : Shared} {H : Hp} {E : XK} {us : List Value} {vs : List V}
    (S : FnScope N ps scope) (hd : A.handled = none) (e0 : Env0 P w K mg base A outer s H) (hl : vs.length = ps.length) (r : Vals vs us)
    (x : InCallC s s.heap.objs.size (bindL (envOfC qual scope s.heap.objs.size f cd).kindOf (ps.zip us) fun _ => none) (cellsFrom (s.heap.objs.size + 1) scope.names []) (bindC (envOfC qual scope s.heap.objs.size f cd).kindOf (ps.zip us) fun _ => none) s1) :
    Inv (cxOf CX P w K mg base N qual scope f cd A outer s H E) [] (start N vs) H s1 := by
  have hpl : ps.length ≤ N.length := by have := congrArg List.length S.pre; rw [List.length_take] at this; omega
  obtain ⟨h1, tk, rfl, hk⟩ := x.done
  have noA : ∀ b : Addr, b ∉ (cxOf CX P w K mg base N qual scope f cd A outer s H E).ex := fun b z => absurd (show b ∈ ([] : List Addr) from z) (by simp)
  refine ⟨⟨e0.mod, S.kind, rfl, rfl, Nat.le_refl _, fun y z c h1 h2 => ?_, fun y hy => ?_, fun y c _ h => ?_, fun _ => hd, Around.frames_deeper e0.frames, .inr ⟨rfl, rfl⟩, fun b z => absurd z (noA b), e0.bs, e0.bsz, fun b _ _ => noA b, fun b z => absurd z (noA b), e0.funs, e0.frf⟩,
    rfl, e0.bare, Un.kept hk, ⟨_, x.toInCall.ns, fun i y v h1 h2 h3 => ?_⟩, fun y c h => ⟨_, x.cell y c h⟩, e0.hok.fresh (Nat.le_refl _), fun y c h => ?_, fun p hp => absurd (show p ∈ ([] : List (Addr × Obj)) from hp) (by simp), e0.hok.kept hk, ?_⟩
  · exact name_of_addr x.apart (PySem.mem_of_lookup h1) (PySem.mem_of_lookup h2)
  · have hy : scope.names.lookup y = some .cell ∨ scope.names.lookup y = some .free := hy
    rcases hy with hy | hy
    · exact cell_has hy
    · exact absurd rfl (S.nofree _ (PySem.mem_of_lookup hy))
  · exact Nat.le_of_lt (x.above y c (PySem.mem_of_lookup h))
  · have hi : i < vs.length := by
      unfold start at h2
      by_cases hi : i < vs.length
      · exact hi
      · rw [List.getElem?_append_right (by simpa using hi)] at h2
        rw [List.getElem?_replicate] at h2
        split at h2 <;> cases h2
    have ha : vs[i]? = some v := by
      unfold start at h2
      rw [List.getElem?_append_left (by simpa using hi), List.getElem?_map] at h2
      cases e : vs[i]? with
      | none => rw [e] at h2; cases h2
      | some a => rw [e] at h2; cases h2; rfl
    obtain ⟨u, hu, rv⟩ := r.get ha
    have hp : ps[i]? = some y := by
      rw [← S.pre, List.getElem?_take_of_lt (by omega)]; exact h1
    have ndP : ps.Nodup := by rw [← S.pre]; exact S.nd.sublist (List.take_sublist _ _)
    refine ⟨u, rv, ?_⟩
    rcases S.par y (List.mem_of_getElem? hp) with k | k
    · exact .inl ⟨k, bindL_get ndP hp hu k⟩
    · obtain ⟨c, e⟩ := cell_has (n := s.heap.objs.size + 1) k
      refine .inr ⟨.inl k, c, e, ?_⟩
      have q := x.cell y c e
      rw [bindC_get ndP hp hu (by show scope.names.lookup y ≠ _; rw [k]; decide)] at q
      exact q
  · exact e0.hok.fresh (Nat.le_of_lt (x.above y c (PySem.mem_of_lookup h)))
  · unfold start
    show _ = N.length
    rw [List.length_append, List.length_map, List.length_replicate]
    omega
theorem fn_of {CX : CXT} {P : Program} {w : World} {K : PySem.W.Frag} {mg : Str → Option Value} {base : Heap} {k : Nat} {f : Addr} {name qual : Str} {params : Arguments} {body : List Stmt} {scope : Scope} {dV kV doc pm cdv ct oc : Value} {an od : Option Addr}
    {osl : Array (Option Value)} {N ps : List Str} {sp : Sp} (lk : K.lookup f = some ⟨oc, od, .func (PySem.W.fnOf name qual params body scope dV kV doc pm an cdv ct), osl⟩) (hcd : PySem.W.codeIn K cdv qual = true) (S : FnScope N ps scope)
    (len : ∀ vs H Q E, sp vs H Q E → vs.length = ps.length)
    (hbody : ∀ (A : Around) (outer : List Env) (s : Shared) (H : Hp) (vs : List V) (Q : VK) (E : XK), Room k (A.deeper (envOfC qual scope s.heap.objs.size f cdv)) → sp vs H Q E →
      ∃ t, PSs (cxOf CX P w K mg base N qual scope f cdv A outer s H E) body t ∧ t { nx := fun _ H' => Q .non H', rt := Q } (start N vs) H) :
    FnOk P w K mg base CX (k + 1) f (PySem.W.fnOf name qual params body scope dV kV doc pm an cdv ct) ps sp := by
  refine ⟨len, fun A outer s H args us vs Q E hr e0 hb r hsp => ?_⟩
  have hl := len _ _ _ _ hsp
  have KX : K.In s.heap := e0.mod.kin.keeps fun b o e => (e0.bs b o e).1
  have lim : s.heap.NoLimit := e0.mod.nolimit.keeps fun b o e => (e0.bs b o e).1
  have hkind : ∀ y ∈ ps.zip us, scope.names.lookup y.1 = some .local ∨ (scope.names.lookup y.1 = some .cell ∧ ((cellsFrom (s.heap.objs.size + 1) scope.names []).lookup y.1).isSome = true) := fun ⟨n, v⟩ hy => by
    rcases S.par n (List.of_mem_zip hy).1 with q | q
    · exact .inl q
    · exact .inr ⟨q, PySem.W.cellsFrom_some _ _ _ (.inl q)⟩
  refine codeAny_call_function hr.depth (KX _ _ lk) rfl S.co S.gen rfl (PySem.W.codeRec_of KX hcd) (hb _ _ _ _ ?_)
  refine wpAny_newFunctionEnv_cells S.kind hkind fun env he s1 x => ?_
  subst he
  refine ⟨lim.keeps x.toInCall.keep, codeAny_func ?_⟩
  obtain ⟨t, ht, hq⟩ := hbody A outer s H vs Q E (hr.deeper _) hsp
  have I : Inv (cxOf CX P w K mg base N qual scope f cdv A outer s H E) [] (start N vs) H s1 := inv_start S hr.hd e0 hl r x
  refine wpAny_mono (ht [] s1 (start N vs) H _ I hq) (fun fl s' hs => ?_) fun e s' hs => hs
  have fin : ∀ {σ' : St} {H' : Hp} {v : V} {u : Value}, Inv (cxOf CX P w K mg base N qual scope f cdv A outer s H E) [] σ' H' s' → RelV v u → Q v H' → CE outer P w H s Q u s' :=
    fun {σ' H' v u} J rv q => ⟨v, H', J.os, J.bare, J.base, J.hok, rv, q⟩
  cases fl with
  | ret u =>
    obtain ⟨v, σ', H', J, rv, q⟩ := hs
    exact fin J rv q
  | next =>
    obtain ⟨σ', H', J, q⟩ := hs
    exact fin (v := V.non) (u := Value.none) J rfl q
  | brk =>
    obtain ⟨_, _, _, q⟩ := hs
    exact False.elim q
  | cont =>
    obtain ⟨_, _, _, q⟩ := hs
    exact False.elim q
end L2
namespace L2
open PySem PySem.Spec PyProof.Rows
section
variable {X : Cx} {x : Str} {p pos : Pos} {e : Expr} {es : List Expr} {t : TA} {id T : String} {r : List V → Hp → VK → Prop}
def tCB (r : List V → Hp → VK → Prop) (t : TA) : TE := fun σ H Q => t σ H fun vs H1 => r vs H1 Q
theorem pe_callB (hc : CallR X (.builtin id) r) (hg : Gl X x) (hm : X.mg x = none) (hv : bootBuiltins x = some (.builtin id)) (ha : PA X (e :: es) t) (hn : x ≠ "__name__" := by decide) (hdb : (x == ("__debug__" : Str)) = false := by decide)
    (he : starEach (e :: es) X.env = (false, eval e X.env) :: starEach es X.env := by rfl) (hpl : (backTo pos (starEach es X.env)).any (·.1) = false := by rfl) : PE X (.Call (.Name x p) (e :: es) [] pos) (tCB r t) := by
  intro pins s σ H Q I h
  refine wpAny_Call_Name_kw (ld_blt I hg hm hv ?_ hn hdb)
  exact PyProof.Rows.callWith_builtin1 (thn (ha pos pins s σ H _ I h) fun us s1 ⟨vs, H1, I1, r1, q1⟩ => hc pins s1 σ H1 vs us Q I1 r1 q1) he hpl
theorem pe_callTy (hc : CallR X (.type T) r) (hg : Gl X x) (hm : X.mg x = none) (hv : bootBuiltins x = some (.type T)) (ha : PA X (e :: es) t) (hn : x ≠ "__name__" := by decide) (hdb : (x == ("__debug__" : Str)) = false := by decide)
    (he : starEach (e :: es) X.env = (false, eval e X.env) :: starEach es X.env := by rfl) (hpl : (backTo pos (starEach es X.env)).any (·.1) = false := by rfl) : PE X (.Call (.Name x p) (e :: es) [] pos) (tCB r t) := by
  intro pins s σ H Q I h
  refine wpAny_Call_Name_kw (ld_blt I hg hm hv ?_ hn hdb)
  exact PyProof.Rows.callWith_type1 (thn (ha pos pins s σ H _ I h) fun us s1 ⟨vs, H1, I1, r1, q1⟩ => hc pins s1 σ H1 vs us Q I1 r1 q1) he hpl
end
end L2
namespace HT
open PySem PyProof.Rows
section
open PySem.SeqAt
open PySem.AutoSeq1 (wpAny_loadPart')
open PySem.MeetsSeq PySem.MeetsSeq2 PySem.MeetsSeq3
end
section
variable {prog : Program} {w : World} {A : Around} {E : Value → Shared → Prop} {s : Shared}
end
end HT
namespace L2
open PySem PySem.Spec PyProof.Rows
section
variable {X : Cx} {e : Expr} {te : TE} {lo hi : Option Expr} {tl th : TO} {pos p2 : Pos}
end
end L2
namespace L2
open PySem PySem.Spec PyProof.Rows
def ixN (n : Nat) (i : Int) : Option Nat := if 0 ≤ i then (if i < n then some i.toNat else none) else if -(n : Int) ≤ i then some (i + n).toNat else none
def atI {α : Type} (xs : List α) (i : Int) : Option α := (ixN xs.length i).bind fun j => xs[j]?
theorem ixN_seq {n : Nat} {i : Int} {j : Nat} (h : ixN n i = some j) : seqIndex? i n = some j ∧ j < n ∧ -(n : Int) ≤ i ∧ i < n := by
  unfold ixN at h
  by_cases h0 : 0 ≤ i
  · rw [if_pos h0] at h
    by_cases h1 : i < n
    · rw [if_pos h1] at h
      have e : i.toNat = j := Option.some.inj h
      exact ⟨by rw [seqIndex_of h0 h1, e], by omega, by omega, h1⟩
    · rw [if_neg h1] at h; cases h
  · rw [if_neg h0] at h
    by_cases h1 : -(n : Int) ≤ i
    · rw [if_pos h1] at h
      have e : (i + n).toNat = j := Option.some.inj h
      exact ⟨by rw [seqIndex_neg (by omega) h1, e], by omega, h1, by omega⟩
    · rw [if_neg h1] at h; cases h
theorem atI_get {α : Type} {xs : List α} {i : Int} {v : α} (h : atI xs i = some v) : ∃ j, seqIndex? i xs.length = some j ∧ xs[j]? = some v ∧ j < xs.length ∧ -(xs.length : Int) ≤ i ∧ i < xs.length := by
  unfold atI at h
  cases e : ixN xs.length i with
  | none => rw [e] at h; cases h
  | some j =>
    rw [e] at h
    obtain ⟨h1, h2, h3, h4⟩ := ixN_seq e
    exact ⟨j, h1, h, h2, h3, h4⟩
theorem atI_nat {α : Type} {xs : List α} {j : Nat} {v : α} (h : xs[j]? = some v) : atI xs (j : Int) = some v := by
  have hj : j < xs.length := (List.getElem?_eq_some_iff.mp h).1
  have e : ixN xs.length (j : Int) = some j := by
    unfold ixN
    rw [if_pos (by omega), if_pos (by omega)]; simp
  unfold atI; rw [e]; exact h
def PlainIx (b : Expr) : Prop := ∀ o i, subscripted b false o i = operate [o, i] (getItem o i)
def IxR (X : Cx) (r : R2) : Prop :=
  ∀ (value slice : Expr) (pins : List (Addr × Obj)) (s : Shared) (σ : St) (H : Hp) (x y : V) (v u : Value) (Q : VK), Inv X pins σ H s → RelV x v → RelV y u → r x y H Q →
    subscripted slice false v u = operate [v, u] (getItem v u) → wpAny (model X.prog X.w) X.A (subscriptTail value slice v u) (EP X pins σ Q) X.xe s
section
variable {X : Cx} {a b : Expr} {ta tb : TE} {pos : Pos}
theorem pe_ix {r : R2} (hr : IxR X r) (ha : PE X a ta) (hb : PE X b tb) (hs : PlainIx b) : PE X (.Subscript a b pos) (tOp r ta tb) := by
  intro pins s σ H Q I h
  exact Subscript_ (binT ha hb I h fun v u s2 x y H2 I2 rx ry q => hr a b pins s2 σ H2 x y v u Q I2 rx ry q (hs _ _))
def rIxL (K : PySem.W.Frag) : R2 := fun x y H Q => ∃ p xs i v, x = .ref p ∧ y = .int i ∧ SqL K H p xs ∧ atI xs i = some v ∧ Q v H
theorem ix_list : IxR X (rIxL X.K) := by
  intro value slice pins s σ H x y v u Q I rx ry h hs
  obtain ⟨p, xs, i, z, rfl, rfl, hq, he, q⟩ := h
  cases rx
  obtain ⟨t, rfl⟩ := ry
  obtain ⟨its, r, pl, hz⟩ := I.list hq
  obtain ⟨j, h1, h2, h3, h4, h5⟩ := atI_get he
  obtain ⟨w, ew, rw'⟩ := r.get h2
  have hl := r.length
  have hn := line63
  have fin : EP X pins σ Q w s := ⟨z, H, I, rw', q⟩
  by_cases h0 : 0 ≤ i
  · have hj : i.toNat = j := by
      rw [seqIndex_of h0 h5] at h1
      exact Option.some.inj h1
    exact item_listR pl.isList h0 (by omega) (by rw [hj]; simpa using ew) fin hs
  · have hj : (i + (its.toArray.size : Int)).toNat = j := by
      rw [seqIndex_neg (by omega) h4] at h1
      rw [List.size_toArray, ← hl]
      exact Option.some.inj h1
    exact subscriptTail_builtinR (x := w) pl.isList.typeIs slot_list_getitem.lookup
      (wpAny_getItem_list_neg (Q := fun r s' => r = w ∧ EP X pins σ Q r s') pl.isList (by omega) (by rw [List.size_toArray] <;> omega) (by omega) (by rw [hj]; simpa using ew) ⟨rfl, fin⟩) hs
theorem mapSeq_set (its : List Value) (n j : Nat) (u : Value) : Obj.mapSeq (·.setIfInBounds j u) { cls := .type "list", data := .seq its.toArray n } = { cls := .type "list", data := .seq (its.set j u).toArray n } := by
  simp [Obj.mapSeq]
theorem Inv.lst {pins : List (Addr × Obj)} {σ : St} {H : Hp} {s : Shared} {p : Addr} {xs : List V} (I : Inv X pins σ H s) (h : H p = some (.lst xs)) :
    ∃ (its : List Value) (n : Nat), Vals xs its ∧ s.heap.get? p = some { cls := .type "list", data := .seq its.toArray n } ∧ xs.length ≤ sizeLine := by
  obtain ⟨z, its, n, r, e⟩ := I.hok p _ h
  exact ⟨its, n, r, e, z⟩
theorem Inv.lstUpd {pins : List (Addr × Obj)} {σ : St} {H : Hp} {s : Shared} {p : Addr} {xs ys : List V} {its its' : List Value} {n n' : Nat} {f : Obj → Obj} (I : Inv X pins σ H s) (h : H p = some (.lst xs))
    (ho : s.heap.get? p = some { cls := .type "list", data := .seq its.toArray n }) (hf : f { cls := .type "list", data := .seq its.toArray n } = { cls := .type "list", data := .seq its'.toArray n' }) (r : Vals ys its') (hz : ys.length ≤ sizeLine) (t : Nat) :
    Inv X pins σ (upd H p (.lst ys)) { s with heap := s.heap.update p f, toks := t } := by
  have e : (s.heap.update p f).get? p = some { cls := .type "list", data := .seq its'.toArray n' } := by
    rw [Heap.get?_update_self f ho (by rw [hf] <;> rfl), hf]
  refine I.write (x := p) (e := p) (by rw [h]; trivial) (.inl rfl) (fun b u hb q => (Heap.get?_update_other _ _ (Ne.symm hb)).trans q) ⟨_, e⟩ ?_
  exact ⟨hz, its', n', r, e⟩
def rSetL : V → V → V → Hp → (Hp → Prop) → Prop := fun o i v H Q => ∃ p xs k j, o = .ref p ∧ i = .int k ∧ H p = some (.lst xs) ∧ ixN xs.length k = some j ∧ Q (upd H p (.lst (xs.set j v)))
theorem set_list : PSet X rSetL := by
  intro pins s σ H o i v ov iv u Q I ro ri rv h
  obtain ⟨p, xs, k, j, rfl, rfl, hp, hj, q⟩ := h
  cases ro
  obtain ⟨t, rfl⟩ := ri
  obtain ⟨its, n, r, ho, hz⟩ := I.lst hp
  obtain ⟨h1, h2, h3, h4⟩ := ixN_seq hj
  have hl := r.length
  have hn := line63
  have I' : Inv X pins σ (upd H p (.lst (xs.set j v))) { s with heap := s.heap.update p (Obj.mapSeq (·.setIfInBounds j u)) } :=
    I.lstUpd hp ho (mapSeq_set its n j u) (r.set rv j) (by rw [List.length_set]; exact hz) s.toks
  by_cases h0 : 0 ≤ k
  · have hk : k.toNat = j := by
      rw [seqIndex_of h0 h4] at h1
      exact Option.some.inj h1
    exact PySem.W.ki_setAt ho h0 (by omega) (by rw [List.size_toArray, ← hl]; exact h4) (by rw [hk]; exact ⟨_, I', q⟩)
  · have hk : (k + (its.toArray.size : Int)).toNat = j := by
      rw [seqIndex_neg (by omega) h3] at h1
      rw [List.size_toArray, ← hl]
      exact Option.some.inj h1
    exact PySem.W.ki_setBack ho (by omega) (by rw [List.size_toArray, ← hl]; exact h3) (by omega) (by rw [hk]; exact ⟨_, I', q⟩)
def flatV : V → Bool
  | .non => true
  | .bl _ => true
  | .int _ => true
  | .str _ => true
  | _ => false
def eqV : V → V → Bool
  | .non, .non => true
  | .bl a, .bl b => a == b
  | .bl a, .int b => (if a then 1 else 0) == b
  | .int a, .bl b => a == (if b then 1 else 0)
  | .int a, .int b => a == b
  | .str a, .str b => a == b
  | _, _ => false
theorem eqAt_V {A : Around} {s : Shared} {y x : V} {u v : Value} (ry : RelV y u) (rx : RelV x v) (fy : flatV y = true) (fx : flatV x = true) : SeqAt.EqAt A s u v (eqV y x) := by
  cases y with
  | non =>
    cases ry
    cases x with
    | non => cases rx; exact SeqAt.EqAt.same _
    | bl b => cases rx; exact SeqAt.EqAt.none_bool b
    | int b => obtain ⟨t, rfl⟩ := rx; exact SeqAt.EqAt.none_int b t
    | str b => obtain ⟨t, rfl⟩ := rx; exact SeqAt.EqAt.none_str b t
    | _ => exact absurd (show false = true from fx) Bool.false_ne_true
  | bl a =>
    cases ry
    cases x with
    | non => cases rx; exact SeqAt.EqAt.bool_none a
    | bl b => cases rx; exact SeqAt.EqAt.bool_bool a b
    | int b => obtain ⟨t, rfl⟩ := rx; exact SeqAt.EqAt.bool_int a b t
    | str b => obtain ⟨t, rfl⟩ := rx; exact SeqAt.EqAt.bool_str a b t
    | _ => exact absurd (show false = true from fx) Bool.false_ne_true
  | int a =>
    obtain ⟨t', rfl⟩ := ry
    cases x with
    | non => cases rx; exact SeqAt.EqAt.int_none a t'
    | bl b => cases rx; exact SeqAt.EqAt.int_bool a t' b
    | int b => obtain ⟨t, rfl⟩ := rx; exact SeqAt.EqAt.int_int a t' b t
    | str b => obtain ⟨t, rfl⟩ := rx; exact SeqAt.EqAt.int_str a t' b t
    | _ => exact absurd (show false = true from fx) Bool.false_ne_true
  | str a =>
    obtain ⟨t', rfl⟩ := ry
    cases x with
    | non => cases rx; exact SeqAt.EqAt.str_none a t'
    | bl b => cases rx; exact SeqAt.EqAt.str_bool a t' b
    | int b => obtain ⟨t, rfl⟩ := rx; exact SeqAt.EqAt.str_int a t' b t
    | str b => obtain ⟨t, rfl⟩ := rx; exact SeqAt.EqAt.str_str a t' b t
    | _ => exact absurd (show false = true from fx) Bool.false_ne_true
  | _ => exact absurd (show false = true from fy) Bool.false_ne_true
theorem call_len_seq : CallR X (.builtin "len") (fun xs H Q => ∃ p ys, xs = [.ref p] ∧ (SqL X.K H p ys ∨ SqT X.K H p ys) ∧ Q (.int ys.length) H) := by
  intro pins s σ H xs us Q I r h
  obtain ⟨p, ys, rfl, hq, q⟩ := h
  obtain ⟨u, rfl, rx⟩ := vals1 r
  cases rx
  have hn := line63
  rcases hq with hq | hq
  · obtain ⟨its, r', pl, hz⟩ := I.list hq
    have hlen := r'.length
    exact Calls.call_len_list pl.isList (by simp only [List.size_toArray] <;> omega) ⟨.int ys.length, H, I.tok _, ⟨s.toks + 1, by rw [List.size_toArray, hlen]⟩, q⟩
  · obtain ⟨its, r', pl, hz⟩ := I.tuple hq
    have hlen := r'.length
    exact len_tuple pl (by simp only [List.size_toArray] <;> omega) ⟨.int ys.length, H, I.tok _, ⟨s.toks + 1, by rw [List.size_toArray, hlen]⟩, q⟩
variable {o e : Expr} {es : List Expr} {to : TE} {t : TA} {name : Str} {apos cpos : Pos} {T id : String} {r : V → List V → Hp → VK → Prop}
/- xs.append(e), list.index on a module's tuple .. are MtR facts of 06m -/
end
end L2
namespace L2
open PySem PySem.Spec PyProof.Rows
def MtM (X : Cx) (id : String) (r : V → List V → Hp → VK → Prop) : Prop :=
  ∀ (pins : List (Addr × Obj)) (s : Shared) (σ : St) (H : Hp) (x : V) (xs : List V) (v : Value) (us : List Value) (Q : VK), Inv X pins σ H s → RelV x v → Vals xs us → r x xs H Q →
    wpAny (model X.prog X.w) X.A (call (.builtin id) (v :: us)) (EP X pins σ Q) X.xe s
theorem Vals.one : ∀ {x : V} {us : List Value}, Vals [x] us → ∃ u, us = [u] ∧ RelV x u
  | _, _, .cons r .nil => ⟨_, rfl, r⟩
section
variable {X : Cx} {pins : List (Addr × Obj)} {σ : St} {H : Hp} {s : Shared} {l b : Addr} {xs ys zs : List V}
theorem Inv.lset {its its' : List Value} {n : Nat} {f : Array Value → Array Value} {t' : Nat} (I : Inv X pins σ H s) (hH : H l = some (.lst xs))
    (e : s.heap.get? l = some { cls := .type "list", data := .seq its.toArray n }) (hf : f its.toArray = its'.toArray) (hv : Vals ys its') (hz : ys.length ≤ sizeLine) :
    Inv X pins σ (upd H l (.lst ys)) { s with heap := s.heap.update l (Obj.mapSeq f), toks := t' } := by
  have q := PySem.IsL.update e f
  rw [hf] at q
  refine I.write (x := l) (e := l) (by rw [hH]; exact trivial) (.inl rfl) (fun b' u hb hu => (Heap.get?_update_other s.heap (Obj.mapSeq f) (Ne.symm hb)).trans hu) ⟨_, q⟩ ?_
  exact ⟨hz, its', _, hv, q⟩
theorem Inv.lnew {its : List Value} {t' : Nat} (I : Inv X pins σ H s) (hv : Vals ys its) (hz : ys.length ≤ sizeLine) :
    Inv X pins σ (upd H s.heap.objs.size (.lst ys)) { s with heap := s.heap.push { cls := .type "list", data := .seq its.toArray }, toks := t' } :=
  I.laid (fun _ _ q => Heap.get?_push_of_some _ q) (Nat.le_refl _) ⟨hz, its, 0, hv, Heap.get?_push_size _ rfl⟩
theorem Inv.fresh (I : Inv X pins σ H s) : H s.heap.objs.size = none := I.hok.fresh (Nat.le_refl _)
theorem Inv.lstM (I : Inv X pins σ H s) (hH : H l = some (.lst xs)) : xs.length ≤ sizeLine ∧ ∃ (its : List Value) (n : Nat), Vals xs its ∧ xs.length = its.length ∧ s.heap.get? l = some { cls := .type "list", data := .seq its.toArray n } := by
  obtain ⟨z, its, n, r, e⟩ := I.hok l _ hH
  exact ⟨z, its, n, r, r.length, e⟩
end
section
variable {X : Cx}
def rAppend : V → List V → Hp → VK → Prop := fun x vs H Q => ∃ l xs y, x = .ref l ∧ vs = [y] ∧ H l = some (.lst xs) ∧ xs.length < sizeLine ∧ Q .non (upd H l (.lst (xs ++ [y])))
theorem mt_append : MtM X "list.append" rAppend := by
  intro pins s σ H x vs v us Q I rx rv h
  obtain ⟨l, xs, y, rfl, rfl, hH, hz, q⟩ := h
  cases rx
  obtain ⟨u, rfl, ru⟩ := rv.one
  obtain ⟨z, its, n, r, hl, e⟩ := I.lstM hH
  refine call_meets F.slot_list_append ⟨_, e, rfl⟩ F.entry_list_append (F.args_list_append_2 _ _) (PySem.list_append l its.toArray n u (by rw [List.size_toArray]; omega)) ⟨e, ?_⟩
  refine ⟨.non, _, I.lset (its' := its ++ [u]) hH e (by simp) (r.append (.cons ru .nil)) ?_, rfl, q⟩
  rw [List.length_append, List.length_singleton]
  omega
end
section
variable {prog : Program} {w : World} {A : Around} {E : Value → Shared → Prop} {s : Shared}
set_option maxRecDepth 100000 in
end
section
variable {X : Cx}
end
end L2
namespace Att
open PySem PySem.W PySem.Calls PyProof.Rows
theorem ints_of_wellAll {P : Params} {h : Heap} : ∀ (ns : List Int) (vs : List Value), WellAll P h vs (ns.map WData.int) → IntsAre vs ns := by
  intro ns
  induction ns with
  | nil =>
    intro vs w
    rw [List.map_nil] at w
    cases w
    exact .nil
  | cons n ns ih =>
    intro vs w
    rw [List.map_cons] at w
    cases w with
    | cons a b =>
      cases a
      exact .cons _ _ (ih _ b)
theorem script_of {l : OpenLaw} {n : Nat} (hn : l.most = some n) {P : Params} {h : Heap} {args : List WData} {vals : List Value}
    (hpre : l.row.toRowW.claim.pre args = true) (hwl : WellAll P h vals args) :
    ∃ a vs ns, vals = [Value.ref a] ∧ args = [WData.list (ns.map WData.int)] ∧ h.get? a = some { cls := .type "list", data := .seq vs.toArray } ∧ IntsAre vs ns ∧ ns.length ≤ n := by
  have hsh : WShape.hasAll [] args [.list .int] = true := (pre_splitW hpre).1
  have hc : l.pre.holds [] { args := args } = true := (pre_splitW hpre).2
  obtain ⟨d, r, rfl, h1, h2⟩ := hasAllW_cons hsh
  obtain rfl := hasAllW_nil h2
  obtain ⟨xs, rfl, h3⟩ := hasW_list h1
  obtain ⟨ns, rfl⟩ := items_int h3
  have hlen : ns.length ≤ n := by
    unfold OpenLaw.pre at hc
    have h4 : (WTm.not (.lt (.lit (.int (n : Int))) (.len (.arg 0)))).holds [] { args := [.list (ns.map .int)] } = true := by
      have h4 := (holds_andW hc).1
      rw [hn] at h4
      exact h4
    have h5 := condW_of h4 (w_not (w_lt w_lit (w_len_list (w_arg rfl))))
    rw [List.length_map] at h5
    refine Nat.le_of_not_lt fun q => ?_
    have q' : (n : Int) < ((ns.length : Nat) : Int) := by omega
    first
      | (rw [decide_eq_true q'] at h5; exact absurd h5 (by decide))
      | (simp at h5; omega)
  cases hwl with
  | cons w1 w2 =>
    cases w2
    cases w1 with
    | list ho hall => exact ⟨_, _, ns, rfl, rfl, ho, ints_of_wellAll ns _ hall, hlen⟩
theorem post_true (l : OpenLaw) (args : List WData) : l.row.toRowW.claim.post args (.bool true) args = true :=
  postW_of (r := l.row.toRowW) (X := (true == true))
    (show WShape.has [] (.bool true) .bool = true by first | rfl | decide | simp [WShape.has, WShape.arms, WShape.armsAll])
    (show (WTm.eq .res (.lit (.bool true))).value [] { args := args, res := some (.bool true), after := args } = some (.bool (true == true)) from w_eq_bool (w_res rfl) w_lit) rfl
theorem attach_call {l : OpenLaw} {n : Nat} {q : Program} {loose : List Str} {XP : (Str → Option Value) → Heap → Prop} {YP : World → Heap → Prop} {d : DefRec}
    (hn : l.most = some n) (hdf : d.params.defaults = [])
    (call : ∀ (w : World) (s₀ s₁ : Shared) (mg mb : Str → Option Value) (fa : Addr) (o : Obj) (pm cd doc : Value) (a : Addr) (vs : List Value) (ns : List Int),
      Ground q loose [] XP w s₀ mg mb s₁.heap → YP w s₁.heap →
      s₁.heap.get? fa = some o → o.data = .func (docDef d.name d.params d.body d.scope pm cd doc) → s₁.heap.CodeRec cd d.name → mg d.name = some (.ref fa) →
      s₁.heap.get? a = some { cls := .type "list", data := .seq vs.toArray } → IntsAre vs ns → ns.length ≤ n → s₁.gens = #[] →
      codeAny (model l.prog w) callerA (.call (.ref fa) ⟨[.ref a], []⟩) (fun r s' => r = .ok (.ret (.bool true)) ∧ OldK s₁.heap s'.heap ∧ s'.os = s₁.os ∧ AllBare s'.gens) s₁) :
    WalkO q loose XP YP l.row.toRowW d [] (fun f vs => PySem.call f vs) := by
  intro w s₀ s₁ mg mb G Y fa o pm cd doc dV kV ho hd hcd hD hmg hg args vals as hpre hlay hrd hwl hlo
  obtain rfl : dV = .none := Dflts.none hD hdf
  obtain rfl : kV = .none := Dflts.noKw hD
  obtain ⟨a, vs, ns, rfl, rfl, hobj, hints, hlen⟩ := script_of hn hpre hwl
  refine enter_call (codeAny_mono (call w s₀ s₁ mg mb fa o pm cd doc a vs ns G Y ho (fd_plain hd) hcd hmg hobj hints hlen hg) fun r s' hq => ?_)
  obtain ⟨rfl, h2, h3, h4⟩ := hq
  exact ⟨.inl ⟨.bool true, .bool true, [], rfl, fun _ => rfl, .bool true, post_true l _, fun _ => ⟨List.Pairwise.nil, fun _ hm => (nomatch hm)⟩⟩, h2, h3, h4⟩
section
variable {prog : Program} {w : World} {A : Around} {E : Value → Shared → Prop} {s : Shared} {K : Frag}
end
end Att
namespace L2
open PySem PySem.Spec PyProof.Rows
theorem vals_ints : ∀ {vs : List Value} {ns : List Int}, IntsAre vs ns → Vals (ns.map V.int) vs
  | _, _, .nil => .nil
  | _, _, .cons n t h => .cons ⟨t, rfl⟩ (vals_ints h)
def Only (H : Hp) : Prop := ∀ b, H b = none ∨ ∃ o xs, H b = some (.frz o (.lst xs))
theorem law_call {P : Program} {w : World} {K : PySem.W.Frag} {mg mb : Str → Option Value} {CX : CXT} {k : Nat} {fa a : Addr} {fd : FuncData} {x : Str} {sp : Sp} {s₁ : Shared} {vs : List Value} {ns : List Int}
    (KX : K.In s₁.heap) (hns : s₁.heap.Ns mainGlobals mg) (hb : s₁.heap.Ns builtinsNs mb) (hbb : ∀ x : Str, x ≠ "__name__" → mb x = bootBuiltins x) (hlim : s₁.heap.NoLimit) (hg : s₁.gens = #[])
    (ha : s₁.heap.get? a = some { cls := .type "list", data := .seq vs.toArray }) (hi : IntsAre vs ns) (hl : ns.length ≤ sizeLine) (hr : Room k callerA)
    (F : ∀ base : Heap, K.In base → base.Ns mainGlobals mg → FnOk P w K mg base CX k fa fd [x] sp) (hbind : ∀ (s : Shared) (u : Value), BindsTo s fd ⟨[u], []⟩ [(x, u)])
    (hsp : ∀ H : Hp, Only H → SqL K H a (ns.map V.int) → sp [.ref a] H (fun v _ => v = .bl true) fun _ _ _ => False)
    (hCX : ∀ H e s', CX [] H s₁ (fun _ _ _ => False) e s' → False) :
    codeAny (model P w) callerA (.call (.ref fa) ⟨[.ref a], []⟩) (fun r s' => r = .ok (.ret (.bool true)) ∧ OldK s₁.heap s'.heap ∧ s'.os = s₁.os ∧ AllBare s'.gens) s₁ := by
  have rv := vals_ints hi
  have lenV := hi.length
  have core : ∀ H : Hp, Only H → SqL K H a (ns.map V.int) → HOk P w H s₁.heap → (∀ b, H b ≠ none → b = a) → (H a ≠ none → K.lookup a = none) →
      codeAny (model P w) callerA (.call (.ref fa) ⟨[.ref a], []⟩) (fun r s' => r = .ok (.ret (.bool true)) ∧ OldK s₁.heap s'.heap ∧ s'.os = s₁.os ∧ AllBare s'.gens) s₁ := by
    intro H hO hS hok hA hK
    have base_of : ∀ {b : Addr} {o : Obj}, s₁.heap.get? b = some o → H b = none → (hidT s₁.heap H).get? b = some o := fun e n => hidT_get e n
    have noA : ∀ {b : Addr} {o : Obj} {es : Array DictEntry} {ep : Nat}, s₁.heap.get? b = some o → o.data = .dict es ep → H b = none := fun {b o es ep} e d => by
      cases q : H b with
      | none => rfl
      | some u =>
        have e' : b = a := hA b (by rw [q]; simp)
        subst e'
        rw [ha] at e; cases e
        have d' : Data.seq vs.toArray _ = Data.dict es ep := d
        cases d'
    have nsK : ∀ {b : Addr} {m : Str → Option Value}, s₁.heap.Ns b m → (hidT s₁.heap H).Ns b m := fun {b m} ⟨o, es, ep, e, d, r⟩ => ⟨o, es, ep, base_of e (noA e d), d, r⟩
    have hKb : K.In (hidT s₁.heap H) := fun b o e => base_of (KX b o e) (by
      cases q : H b with
      | none => rfl
      | some u =>
        have e' : b = a := hA b (by rw [q]; simp)
        subst e'
        rw [hK (by rw [q]; simp)] at e; cases e)
    have hM : Mod K mg (hidT s₁.heap H) := ⟨hKb, nsK hns, ⟨mb, nsK hb, hbb⟩, let ⟨mc, h1, h2⟩ := hlim; ⟨mc, nsK h1, h2⟩⟩
    have e0 : Env0 P w K mg (hidT s₁.heap H) callerA [] s₁ H := ⟨rfl, hM, fun b o e => of_hidT e, Nat.le_of_eq (hidT_size _ _), trivial, fun b hb => absurd (show b ∈ ([] : List Addr) from hb) (by simp), hok, .of_eq hg⟩
    refine codeAny_mono ((F _ hKb (nsK hns)).run callerA [] s₁ H ⟨[.ref a], []⟩ [.ref a] [.ref a] _ _ hr e0 (hbind s₁ (.ref a)) (.cons rfl .nil) (hsp H hO hS)) fun r s' h => ?_
    cases r with
    | error e => exact (hCX H e s' h).elim
    | ok fl =>
      cases fl with
      | next => exact False.elim h
      | brk => exact False.elim h
      | cont => exact False.elim h
      | ret u =>
        obtain ⟨v, H', os, bare, un, hok', r', q⟩ := h
        have q' : v = .bl true := q
        subst q'
        obtain rfl : u = Value.bool true := r'
        refine ⟨rfl, OldK.of_keep fun b o e => ?_, os, bare⟩
        cases q : H b with
        | none => exact un.keep b o e q (by intro z; exact absurd (show b ∈ ([] : List Addr) from z) (by simp)) (by simp)
        | some u =>
          rcases hO b with z | ⟨ob, xs, z⟩
          · rw [q] at z; cases z
          · have z2 := un.frzs b ob _ z
            obtain ⟨e1, _⟩ := hok b _ z
            obtain ⟨e2, _⟩ := hok' b _ z2
            rw [e] at e1; cases e1
            exact e2
  cases hk : K.lookup a with
  | some o =>
    have e := KX a o hk
    rw [ha] at e
    cases e
    refine core (fun _ => none) (fun _ => .inl rfl) (.inr ⟨_, vs.toArray, _, hk, rfl, rfl, rfl, by rw [List.size_toArray, lenV]; exact hl, by simpa using rv⟩) (fun b u z => by have z' : (none : Option HO) = some u := z; cases z') (fun b z => absurd rfl z) fun z => absurd rfl z
  | none =>
    refine core (fun b => if b = a then some (.frz { cls := .type "list", data := .seq vs.toArray } (.lst (ns.map V.int))) else none) (fun b => ?_) (.inl (.inr ⟨{ cls := .type "list", data := .seq vs.toArray }, if_pos rfl⟩)) (fun b u z => ?_) (fun b z => ?_) fun _ => hk
    · by_cases hb : b = a
      · exact .inr ⟨_, _, if_pos hb⟩
      · exact .inl (if_neg hb)
    · by_cases hb : b = a
      · have z' := (if_pos hb).symm.trans z
        cases z'
        subst hb
        exact ⟨ha, by rw [List.length_map]; exact hl, vs, _, rv, ha⟩
      · have z' := (if_neg hb).symm.trans z
        cases z'
    · by_cases hb : b = a
      · exact hb
      · exact absurd (if_neg hb) z
end L2
namespace L2
open PySem PySem.Spec PyProof.Rows
theorem walk_of {l : PySem.W.OpenLaw} {n k : Nat} {q : Program} {loose : List Str} {XP : (Str → Option Value) → Heap → Prop} {YP : World → Heap → Prop} {d : DefRec} {K : Params → PySem.W.Frag} {CX : World → CXT} {sp : World → Sp} {x : Str}
    (hn : l.most = some n) (hn2 : n ≤ sizeLine) (hdf : d.params.defaults = []) (hr : Room k callerA)
    (hY : ∀ (w : World) (h : Heap), YP w h → (K w.params).In h)
    (F : ∀ (w : World) (mg : Str → Option Value) (fa : Addr) (h : Heap), (K w.params).In h → h.Ns mainGlobals mg → mg d.name = some (.ref fa) →
      ∃ fd : FuncData, (∀ (s : Shared) (u : Value), BindsTo s fd ⟨[u], []⟩ [(x, u)]) ∧
        ∀ base : Heap, (K w.params).In base → base.Ns mainGlobals mg → FnOk l.prog w (K w.params) mg base (CX w) k fa fd [x] (sp w))
    (hsp : ∀ (w : World) (H : Hp) (a : Addr) (ns : List Int), ns.length ≤ n → Only H → SqL (K w.params) H a (ns.map V.int) → sp w [.ref a] H (fun v _ => v = .bl true) fun _ _ _ => False)
    (hCX : ∀ (w : World) (H : Hp) (s : Shared) (e : Value) (s' : Shared), CX w [] H s (fun _ _ _ => False) e s' → False) :
    PySem.W.WalkO q loose XP YP l.row.toRowW d [] (fun f vs => PySem.call f vs) := by
  refine Att.attach_call hn hdf fun w s₀ s₁ mg mb fa o pm cd doc a vs ns G Y ho hd hcd hmg hobj hints hlen hg => ?_
  have KX := hY w _ Y
  obtain ⟨fd, hb, hF⟩ := F w mg fa _ KX G.T.g hmg
  exact law_call KX G.T.g G.T.b G.T.builtins G.T.nolimit hg hobj hints (Nat.le_trans hlen hn2) hr hF hb (fun H hO hS => hsp w H a ns hlen hO hS) fun H e s' => hCX w H s₁ e s'
end L2
namespace L2
open PySem PySem.Spec PyProof.Rows
def inClass (s : Stmt) (j : Nat) : Stmt := match s with
  | .ClassDef _ _ _ body _ _ _ _ _ _ _ => body.getD j (.Pass ⟨0, 0, 0, 0⟩)
  | _ => .Pass ⟨0, 0, 0, 0⟩
def defArgs (s : Stmt) : Arguments := match s with
  | .FunctionDef _ a _ _ _ _ _ _ _ _ => a
  | _ => { posonlyargs := [], args := [], vararg := none, kwonlyargs := [], kw_defaults := [], kwarg := none, defaults := [] }
def defBody (s : Stmt) : List Stmt := match s with
  | .FunctionDef _ _ b _ _ _ _ _ _ _ => b
  | _ => []
def defScope (s : Stmt) : Scope := match s with
  | .FunctionDef _ _ _ _ _ _ sc _ _ _ => sc
  | _ => { kind := .function, names := [], isGenerator := false, isCoroutine := false }
abbrev CX0 : CXT := fun _ _ _ _ _ _ => False
abbrev E0 : XK := fun _ _ _ => False
theorem pass0 {X : Cx} : Passes CX0 X E0 := fun _ _ _ _ _ _ _ h => h.elim
structure Fun (K : PySem.W.Frag) (x qual : Str) (st : Stmt) (f : Addr) (fd : FuncData) : Prop where
  ex : ∃ (oc : Value) (od : Option Addr) (kV doc pm : Value) (an : Option Addr) (cdv ct : Value) (osl : Array (Option Value)),
    fd = PySem.W.fnOf x qual (defArgs st) (defBody st) (defScope st) .none kV doc pm an cdv ct ∧ K.lookup f = some ⟨oc, od, .func fd, osl⟩ ∧ PySem.W.codeIn K cdv qual = true
  kp : PySem.W.keepIn K (.ref f) = true
section
variable {P : Program} {w : World} {K : PySem.W.Frag} {mg : Str → Option Value} {base : Heap}
theorem Fun.ok {x qual : Str} {st : Stmt} {f : Addr} {fd : FuncData} {N ps : List Str} {k : Nat} {sp : Sp} (F : Fun K x qual st f fd) (S : FnScope N ps (defScope st)) (len : ∀ vs H Q E, sp vs H Q E → vs.length = ps.length)
    (hbody : ∀ (cdv : Value) (A : Around) (outer : List Env) (s : Shared) (H : Hp) (vs : List V) (Q : VK) (E : XK), Room k (A.deeper (envOfC qual (defScope st) s.heap.objs.size f cdv)) → sp vs H Q E →
      ∃ t, PSs (cxOf CX0 P w K mg base N qual (defScope st) f cdv A outer s H E).nox (defBody st) t ∧ t { nx := fun _ H' => Q .non H', rt := Q } (start N vs) H) : FnOk P w K mg base CX0 (k + 1) f fd ps sp := by
  obtain ⟨oc, od, kV, doc, pm, an, cdv, ct, osl, rfl, lk, hcd⟩ := F.ex
  refine fn_of lk hcd S len fun A outer s H vs Q E hr hsp => ?_
  obtain ⟨t, h, q⟩ := hbody cdv A outer s H vs Q E hr hsp
  exact ⟨t, h.nox, q⟩
theorem Fun.binds {x qual : Str} {st : Stmt} {f : Addr} {fd : FuncData} {ps : List Str} (F : Fun K x qual st f fd)
    (h : ∀ (kV doc pm : Value) (an : Option Addr) (cdv ct : Value) (us : List Value), us.length = ps.length → bindArgs (PySem.W.fnOf x qual (defArgs st) (defBody st) (defScope st) .none kV doc pm an cdv ct) ⟨us, []⟩ = pure (ps.zip us)) : Binds K fd ps [] := by
  obtain ⟨oc, od, kV, doc, pm, an, cdv, ct, osl, rfl, lk, hcd⟩ := F.ex
  exact .all (h kV doc pm an cdv ct)
theorem fun_mk {x qual : Str} {st : Stmt} {f : Addr} {oc : Value} {od an : Option Addr} {osl : Array (Option Value)} {kV doc pm cdv ct : Value} (l : K.lookup f = some ⟨oc, od, .func (PySem.W.fnOf x qual (defArgs st) (defBody st) (defScope st) .none kV doc pm an cdv ct), osl⟩)
    (c : PySem.W.codeIn K cdv qual = true) (k : PySem.W.keepIn K (.ref f) = true) : Fun K x qual st f (PySem.W.fnOf x qual (defArgs st) (defBody st) (defScope st) .none kV doc pm an cdv ct) := ⟨⟨oc, od, kV, doc, pm, an, cdv, ct, osl, rfl, l, c⟩, k⟩
end
theorem hu_of {A : Around} {k : Nat} (hr : Room k A) : A.units + 1 < cLine := Nat.lt_of_le_of_lt (Nat.add_le_add_left (by decide : 1 ≤ 64) _) hr.units
section
variable {X : Cx}
theorem pv (i : Nat) {x : Str} {pos : Pos} (hN : X.N[i]? = some x := by rfl) (hv : Vis X.env.scope x := by first | exact Or.inl rfl | exact Or.inr (Or.inl rfl) | exact Or.inr (Or.inr rfl)) (hd : (x == ("__debug__" : Str)) = false := by decide)
    (hcd : (x == ("__classdict__" : Str)) = false := by decide) : PE X (.Name x pos) (tVar i) := pe_var hN hv hd hcd
end
theorem iteF {A B : Prop} (h : B) : if false = true then A else B := by
  rw [if_neg Bool.false_ne_true]
  exact h
theorem iteT {A B : Prop} (h : A) : if true = true then A else B := by
  rw [if_pos rfl]
  exact h
def Same (H H' : Hp) : Prop := ∀ b o, H b = some o → H' b = some o
theorem Same.trans {H H1 H2 : Hp} (a : Same H H1) (b : Same H1 H2) : Same H H2 := fun c o h => b c o (a c o h)
theorem Same.seq {K : PySem.W.Frag} {H H' : Hp} {a : Addr} {xs : List V} (e : Same H H') (h : SqL K H a xs) : SqL K H' a xs := by
  rcases h with (h | ⟨o, h⟩) | h
  · exact .inl (.inl (e _ _ h))
  · exact .inl (.inr ⟨o, e _ _ h⟩)
  · exact .inr h
end L2
set_option maxHeartbeats 4000000
namespace Ow
open PySem PySem.Spec PyProof.Rows L2
structure Has (P : Program) (w : World) (K : PySem.W.Frag) (mg : Str → Option Value) (base : Heap) (k : Nat) (x : Str) (ps : List Str) (sp : Sp) : Prop where
  ex : ∃ (f : Addr) (fd : FuncData), FnOk P w K mg base CX0 k f fd ps sp ∧ Binds K fd ps [] ∧ PySem.W.keepIn K (.ref f) = true ∧ mg x = some (.ref f)
section
variable {X : Cx} {k : Nat} {x : Str} {ps : List Str} {sp : Sp} {p pos : Pos} {e : Expr} {es : List Expr} {t : TA}
theorem pe_fn (h : Has X.prog X.w X.K X.mg X.base k x ps sp) (hr : Room k X.A) (hg : Gl X x) (ha : PA X (e :: es) t) (hdb : (x == ("__debug__" : Str)) = false := by decide)
    (he : starEach (e :: es) X.env = (false, eval e X.env) :: starEach es X.env := by rfl) (hpl : (backTo pos (starEach es X.env)).any (·.1) = false := by rfl) :
    PE X (.Call (.Name x p) (e :: es) [] pos) (tCall sp [] E0 t) := by
  obtain ⟨f, fd, F, b, kp, m⟩ := h.ex
  exact pe_call F hr hg m kp b .nil pass0 ha hdb he hpl
theorem pe_ty {T : String} (hg : Gl X x) (hm : X.mg x = none) (hv : bootBuiltins x = some (.type T)) (hn : x ≠ "__name__" := by decide) (hd : (x == ("__debug__" : Str)) = false := by decide) : PE X (.Name x pos) (tC (.ty T)) := pe_bltn (v := .ty T) hg hm hv rfl hn hd
theorem pe_cls {C : Addr} (hg : Gl X x) (hm : X.mg x = some (.ref C)) (hd : (x == ("__debug__" : Str)) = false := by decide) : PE X (.Name x pos) (tC (.ref C)) := pe_glob (v := .ref C) hg hm rfl hd
def clsV : V → Option Value
  | .ty n => some (.type n)
  | .ref C => some (.ref C)
  | _ => none
theorem clsV_rel {c : V} {u cv : Value} (r : RelV c u) (h : clsV c = some cv) : u = cv := by
  cases c with
  | ty n => cases h; exact r
  | ref C => cases h; exact r
  | _ => cases h
theorem call_isinst : CallR X (.builtin "isinstance") (fun xs H Q => ∃ x c t cv b, xs = [x, c] ∧ clsV c = some cv ∧ TyOf X.K H x t ∧ PySem.W.kitOne X.K t cv = some b ∧ Q (.bl b) H) := by
  intro pins s σ H xs us Q I r h
  obtain ⟨x, c, t, cv, b, rfl, hc, ty, e, q⟩ := h
  obtain ⟨u, u', rfl, rx, rc⟩ := vals2 r
  cases clsV_rel rc hc
  exact isinst_ok I rx ty e fun tk => ⟨.bl b, H, I.tok _, rfl, q⟩
theorem op_fdivB : OpR X (binaryOp .FloorDiv) (rI (fun _ j => 0 < j ∧ j.natAbs.log2 < 9000) fun i j => .int (i / j)) := opI fun i j _ _ _ _ _ hc q => by
  have h1 : (0 : Int) < j := hc.1
  exact floordiv_int (by omega) (by rw [Int.fdiv_eq_ediv_of_nonneg i (by omega)]; exact q) (.inl (PyProof.noPylong_of_log2 hc.2))
end
theorem kit_int_bool (K : PySem.W.Frag) : PySem.W.kitOne K (.type "int") (.type "bool") = some false := by with_unfolding_all rfl
theorem kit_bl_bl (K : PySem.W.Frag) : PySem.W.kitOne K (.type "bool") (.type "bool") = some true := rfl
theorem iteD {c A B : Prop} [Decidable c] (hc : c) (h : A) : if decide c = true then A else B := by
  rw [if_pos (decide_eq_true hc)]
  exact h
theorem iteDN {c A B : Prop} [Decidable c] (hc : ¬ c) (h : B) : if decide c = true then A else B := by
  rw [if_neg (by rw [decide_eq_false hc]; decide)]
  exact h
def SameX (p : Addr) (H H' : Hp) : Prop := ∀ b o, b ≠ p → H b = some o → H' b = some o
theorem SameX.trans {p : Addr} {H H1 H2 : Hp} (a : SameX p H H1) (b : SameX p H1 H2) : SameX p H H2 := fun c o n h => b c o n (a c o n h)
theorem SameX.of {p : Addr} {H H' : Hp} (a : Same H H') : SameX p H H' := fun c o _ h => a c o h
theorem SameX.upd {p : Addr} {H : Hp} {o : HO} : SameX p H (upd H p o) := fun c u n h => by rw [upd_ne n]; exact h
theorem same_new {H : Hp} {p : Addr} (h : H p = none) (o : HO) : Same H (L2.upd H p o) := fun b u q => by rw [upd_ne (ne_of_none q h)]; exact q
def Box (H : Hp) (p : Addr) : Prop := ∃ r s c : Int, H p = some (.lst [.int r, .int s, .int c])
theorem Box.same {H H' : Hp} {p : Addr} (b : Box H p) (s : Same H H') : Box H' p := by
  obtain ⟨r, s', c, h⟩ := b
  exact ⟨r, s', c, s _ _ h⟩
theorem getI (ns : List Int) (k : Nat) (h : k < ns.length) : atI (ns.map V.int) (k : Int) = some (.int ns[k]) := atI_nat (by rw [List.getElem?_map, List.getElem?_eq_getElem h] <;> rfl)
end Ow
namespace Ow
open PySem PySem.Spec PyProof.Rows L2
section
variable {X : Cx} {k : Nat} {x m : Str} {C : Addr} {p pos apos : Pos} {o e : Expr} {es : List Expr} {ta : TE} {t : TA}
end
end Ow
namespace Ow
open PySem PySem.Spec PyProof.Rows L2
def cxComp (X : Cx) (N : List Str) (scope : Scope) (cl : List (Str × Addr)) (C : Addr) (s2 : Shared) (H2 : Hp) (fp : List Addr) : Cx where
  prog := X.prog
  w := X.w
  K := X.K
  mg := X.mg
  base := X.base
  A := X.A
  N := N
  s₀ := s2
  H₀ := H2
  env := compEnvC scope cl C X.env
  outer := X.stack
  stack := X.stack
  ex := fp
  calm := true
  fn := fun _ => false
  pn := []
  xe := fun _ _ => False
def tComp (wi : TI) (te : TE) (cap : L2.St → L2.St) : TE := fun σ H Q => wi σ H fun J H1 => ∀ D, H1 D = none → ∃ W : Nat → Nat → Hp → Prop, (∃ m, W 0 m (upd H1 D (.lst []))) ∧ ∀ i m H, W i m H →
  (J.stop i H ∧ Q (.ref D) H) ∨ (J.go i H ∧ ∀ x H', J.yld i H x H' → te (some x :: cap σ) H' fun y H2 => ∃ ys, H2 D = some (.lst ys) ∧ ys.length < sizeLine ∧ ∃ m', m' < m ∧ W (i + 1) m' (upd H2 D (.lst (ys ++ [y]))))
section
variable {X : Cx} {elt iter : Expr} {x : Str} {px pos : Pos} {scope : Scope} {wi : TI} {te : TE} {N : List Str} {cl : List (Str × Addr)} {cap : L2.St → L2.St}
theorem pe_comp (hc : X.calm = true) (hclos : closureFor scope X.env = pure cl) (hsub : ∀ n c, cl.lookup n = some c → X.env.cells.lookup n = some c)
    (hcell : ∀ y ∈ scope.names, y.2 ≠ .cell) (hkind : scope.kind = .function) (hnames : ∀ y ∈ scope.names, y.2 = .local → scope.names.lookup y.1 = some .local) (hx : scope.names.lookup x = some .local)
    (hhas : ∀ y, (Env.kindOf (compEnvC scope cl 0 X.env) y = some .cell ∨ Env.kindOf (compEnvC scope cl 0 X.env) y = some .free) → ∃ c, cl.lookup y = some c)
    (hN : (x :: N).Nodup) (hcapl : ∀ σ, (cap σ).length = N.length)
    (hcap : ∀ (σ : L2.St) (i : Nat) (y : Str) (v : V), σ.length = X.N.length → N[i]? = some y → (cap σ)[i]? = some (some v) → (Env.kindOf (compEnvC scope cl 0 X.env) y = some .cell ∨ Env.kindOf (compEnvC scope cl 0 X.env) y = some .free) ∧ X.env.kindOf y = some .cell ∧ ∃ j : Nat, X.N[j]? = some y ∧ σ[j]? = some (some v))
    (hi : PI X (.Name x px) iter wi) (he : ∀ C s2 H2 fp, PE (cxComp X (x :: N) scope cl C s2 H2 fp) elt te)
    (hs : ∀ z, foldedSetIterable iter X.env z = pure z := by intro _; rfl) :
    PE X (.ListComp elt [⟨.Name x px, iter, [], 0⟩] scope pos) (tComp wi te cap) := by
  intro pins s σ H Q I h
  rw [eval_ListComp]
  refine wpAny_comprehension_free (use := none) rfl hs hclos hkind hnames (thn (hi pins s σ H _ I h) fun xv s1 h1 => thn h1 fun itv s2 h2 => ?_)
  obtain ⟨it, fp, tn, J, H2, e, I2, T, st2, f2, hW⟩ := h2
  subst e
  have hD : H2 s2.heap.objs.size = none := I2.hok.fresh (Nat.le_refl _)
  obtain ⟨W, ⟨m0, w0⟩, turn⟩ := hW s2.heap.objs.size hD
  refine wpAny_newObj_type (wpAny_newFunctionEnv hcell (by intro y hy; simp at hy) (fun h4 hns4 hsb4 => ?_) hkind) (by show 0 ≤ sizeLine; decide)
  dsimp only at hns4 hsb4 ⊢
  generalize hH3 : s2.heap.push { cls := .type "list", dict := none, data := .seq ([] : List Value).toArray } = H3 at hns4 hsb4 ⊢
  have hCz : H3.objs.size = s2.heap.objs.size + 1 := by rw [← hH3, Heap.size_push]
  have old3 : ∀ b o, s2.heap.get? b = some o → H3.get? b = some o := fun b o e => hH3 ▸ Heap.get?_push_of_some _ e
  have eD3 : H3.get? s2.heap.objs.size = some { cls := .type "list", dict := none, data := .seq ([] : List Value).toArray } := hH3 ▸ Heap.get?_push_size _ rfl
  have old4 : ∀ b o, H3.get? b = some o → h4.get? b = some o := fun b o e => hsb4.extBut b o (Nat.ne_of_lt (Heap.lt_size e)) (Heap.get?_push_of_some _ e)
  have old : ∀ b o, s2.heap.get? b = some o → h4.get? b = some o := fun b o e => old4 b o (old3 b o e)
  have szC : s2.heap.objs.size < H3.objs.size := by rw [hCz]; exact Nat.lt_succ_self _
  have fpC : ∀ b ∈ fp, b ≠ H3.objs.size := fun b hb => by
    obtain ⟨o, ho, _⟩ := T.obj 0 _ st2 b hb
    exact Nat.ne_of_lt (Nat.lt_trans (Heap.lt_size ho) szC)
  have ok' : (cxComp X (x :: N) scope cl H3.objs.size s2 H2 fp).Ok := by
    refine ⟨I2.ok.mod, hkind, I2.ok.glob, I2.ok.blt, (Nat.le_of_lt szC), fun a b c e1 e2 => I2.ok.inj a b c (hsub a c e1) (hsub b c e2), fun y hy => hhas y hy, fun y c z _ => absurd (show false = true from z) (by decide),
      fun _ => I2.ok.hd hc, I2.ok.frames, .inl rfl, fun b hb => ⟨fpC b hb, fun y c e => (f2 b hb).2.2.2.2.1 y c (hsub y c e)⟩, I2.bs, Nat.le_trans I2.ok.bsz I2.sz, fun b o e hb => ?_, fun b hb z => ?_, I2.stack, I2.stkFree⟩
    · rcases (f2 b hb).2.2.2.1 with q | q
      · exact I2.ok.noex b o e q
      · exact absurd (Nat.lt_of_lt_of_le (Heap.lt_size e) (Nat.le_trans I2.ok.bsz q)) (Nat.lt_irrefl _)
    · rcases List.mem_cons.mp (I2.stkSub b z) with q | q
      · exact (f2 b hb).2.1 q
      · exact (f2 b hb).2.2.1 q
  have okD : ObjOk X.prog X.w (upd H2 s2.heap.objs.size (.lst [])) h4 s2.heap.objs.size (.lst []) := ⟨Nat.zero_le _, [], 0, .nil, old4 _ _ eD3⟩
  have I4 : Inv (cxComp X (x :: N) scope cl H3.objs.size s2 H2 fp) [] (none :: cap σ) (upd H2 s2.heap.objs.size (.lst [])) { s2 with heap := h4, toks := s2.toks + ([] : List (Str × Value)).length } := by
    refine ⟨ok', rfl, I2.bare, Un.laid old (Nat.le_refl _) hD, ⟨_, hns4, fun i y v e1 e2 _ => ?_⟩, fun y c e => ?_, ?_, fun y c e => ?_, fun p hp => absurd hp (by show p ∉ ([] ++ [] : List (Addr × Obj)); simp), I2.hok.laid old (Nat.le_refl _) okD, ?_⟩
    · cases i with
      | zero => simp at e2
      | succ i =>
        obtain ⟨k1, k2, j, e3, e4⟩ := hcap σ i y v I2.len (show N[i]? = some y from e1) (show (cap σ)[i]? = some (some v) from e2)
        obtain ⟨m, _, hl⟩ := I2.loc
        obtain ⟨u, ru, lk⟩ := hl j y v e3 e4 (.inr (.inl k2))
        refine ⟨u, ru, .inr ⟨k1, ?_⟩⟩
        rcases lk with ⟨z, _⟩ | ⟨_, c, e5, hcl⟩
        · rw [k2] at z; cases z
        · obtain ⟨c', e6⟩ := hhas y k1
          have : c' = c := by
            have := hsub y c' e6
            rw [e5] at this
            exact (Option.some.inj this).symm
          subst this
          obtain ⟨oc, ho, hd⟩ := hcl
          exact ⟨c', e6, oc, old _ _ ho, hd⟩
    · obtain ⟨v, oc, ho, hd⟩ := I2.cell y c (hsub y c e)
      exact ⟨v, oc, old _ _ ho, hd⟩
    · show upd H2 s2.heap.objs.size (.lst []) H3.objs.size = none
      rw [upd_ne (Nat.ne_of_gt szC)]
      exact I2.hok.fresh (Nat.le_of_lt szC)
    · have h1 := I2.freeC y c (hsub y c e)
      obtain ⟨v, oc, ho, _⟩ := I2.cell y c (hsub y c e)
      rw [upd_ne (Nat.ne_of_lt (Heap.lt_size ho))]
      exact h1
    · show (none :: cap σ).length = (x :: N).length
      simp [hcapl]
  have stat : ∀ {H' : Hp}, (∀ b ∈ fp, H' b = none) → ∀ b ∈ fp, FpOk (cxComp X (x :: N) scope cl H3.objs.size s2 H2 fp) [] H' b := fun {H'} hn b hb =>
    ⟨hn b hb, (ok'.exf b hb).1, ok'.exfs b hb, .inl hb, (ok'.exf b hb).2, fun p hp => absurd hp (by show p ∉ ([] ++ [] : List (Addr × Obj)); simp)⟩
  have loop : codeAny (model X.prog X.w) X.A (.compLoop (.ListComp elt [⟨.Name x px, iter, [], 0⟩] scope pos) 0 (.ref it) (.ref s2.heap.objs.size) (compEnvC scope cl H3.objs.size X.env))
      (compPost (model X.prog X.w) X.A X.xe none (EP X pins σ Q) (.ref s2.heap.objs.size) H3.objs.size) { s2 with heap := h4, toks := s2.toks + ([] : List (Str × Value)).length } := by
    refine codeAny_compLoop_list (fun n s' => ∃ (i : Nat) (z0 : Option V) (H' : Hp), Inv (cxComp X (x :: N) scope cl H3.objs.size s2 H2 fp) [] (z0 :: cap σ) H' s' ∧ tn i s'.heap ∧ (∀ b ∈ fp, H' b = none) ∧ W i n H') ?_ m0
      ⟨0, none, _, I4, T.keep 0 _ _ st2 (fun b _ o e => old b o e), fun b hb => ?_, w0⟩
    · rintro n s5 ⟨i, z0, H5, I5, st5, fr5, w5⟩
      rcases turn i n H5 w5 with ⟨stop, qn⟩ | ⟨go, step⟩
      · refine wpAny_mono (T.done (cxComp X (x :: N) scope cl H3.objs.size s2 H2 fp) rfl rfl rfl rfl i [] s5 _ H5 _ I5 (stat fr5) st5 stop) (fun r s6 ⟨hr, I6⟩ => ?_) fun _ _ z => z
        subst hr
        obtain ⟨m, hn6, _⟩ := id I6.loc
        refine ⟨m, hn6, fun h' sb => ⟨.ref s2.heap.objs.size, H5, ?_, rfl, qn⟩⟩
        have kp : ∀ b o, b ≠ H3.objs.size → s6.heap.get? b = some o → h'.get? b = some o := fun b o hb e => sb.extBut b o hb e
        have nC : ∀ b o, s2.heap.get? b = some o → b ≠ H3.objs.size := fun b o e => Nat.ne_of_lt (Nat.lt_trans (Heap.lt_size e) szC)
        have fC : H5 H3.objs.size = none := I6.free
        refine I2.call' (ch := fp) (s' := { s6 with heap := h' }) I6.os ?_ ?_ I6.bare fun b hb => ⟨(f2 b hb).2.2.2.1, (f2 b hb).2.1, (f2 b hb).2.2.2.2.1, (f2 b hb).2.2.2.2.2⟩
        · have U : Un (frs X.stack) fp H2 H5 s2.heap s6.heap := I6.base
          exact ⟨fun b o e n1 n2 n3 => kp b o (nC b o e) (U.keep b o e n1 n2 n3), fun b o e n1 n2 n3 => by
              obtain ⟨sl, q⟩ := U.slot b o e n1 n2 n3
              exact ⟨sl, kp b _ (nC b o e) q⟩, U.free, fun b o e n3 => by
              obtain ⟨o', q⟩ := U.there b o e n3
              exact ⟨o', kp b _ (nC b o e) q⟩, U.tups, U.frzs, U.tbls⟩
        · intro b u e
          refine (I6.hok b u e).stay (fun c v hc q => kp c v (fun z => ?_) q) (fun _ q => q) fun _ _ q => q
          rcases hc with y | y
          · rw [← y, z, fC] at e
            cases e
          · rw [z, fC] at y
            cases y
      · refine wpAny_mono (T.item (cxComp X (x :: N) scope cl H3.objs.size s2 H2 fp) rfl rfl rfl rfl i [] s5 _ H5 _ I5 (stat fr5) st5 go) (fun r s6 ⟨u, hr, h6⟩ => ?_) fun _ _ z => z
        subst hr
        have key : (letOwnedTupleGo (.Name x px) (.ref it) u >>= fun _ => assign (.Name x px) (compEnvC scope cl H3.objs.size X.env) u) = assign (.Name x px) (compEnvC scope cl H3.objs.size X.env) u := by first | rfl | exact pure_bind _ _
        dsimp only
        rw [← key]
        refine wpAny_bind (wpAny_mono h6 (fun _ s7 ⟨v, H7, I7, r7, y7, st7, fr7⟩ => ?_) fun _ _ z => z)
        have I7' := I7.pinned (stat fr7) (T.obj _ _ st7)
        refine wpAny_assign_Name (store_ok (i := 0) I7' hN rfl (.inl (lookup_relabel_local hx)) r7 (fun s8 I8 => ?_) (.inr (lookup_relabel_local hx)))
        refine wpAny_mono (he H3.objs.size s2 H2 fp _ s8 (some v :: cap σ) H7 _ I8 (step v H7 y7)) (fun w9 s9 ⟨y, H9, I9, r9, ys, hys, hlt, m', hm, w9'⟩ => ?_) fun _ _ z => z.elim
        refine wpAny_mono (mt_append (X := cxComp X (x :: N) scope cl H3.objs.size s2 H2 fp) _ s9 _ H9 (.ref s2.heap.objs.size) [y] _ [w9] (fun _ Hn => Hn = upd H9 s2.heap.objs.size (.lst (ys ++ [y]))) I9 rfl (.cons r9 .nil) ⟨_, ys, y, rfl, rfl, hys, hlt, rfl⟩) (fun _ s10 ⟨_, H10, I10, _, e10⟩ => ?_) fun _ _ z => z.elim
        subst e10
        refine ⟨m', hm, i + 1, some v, _, I10.unpinned, T.keep _ _ _ st7 fun b hb o e => (I10.pin (b, o) (List.mem_append_right _ (List.mem_append_right _ (mem_pinsAt hb e)))).1, fun b hb => ?_, w9'⟩
        obtain ⟨o, e, d⟩ := T.obj _ _ st7 b hb
        exact (I10.pin (b, o) (List.mem_append_right _ (List.mem_append_right _ (mem_pinsAt hb e)))).2.1
    · obtain ⟨o, ho, _⟩ := T.obj 0 _ st2 b hb
      rw [upd_ne (Nat.ne_of_lt (Heap.lt_size ho))]
      exact (f2 b hb).1
  exact codeAny_compStart_list loop (T.self X.A 0 _ _ _ (T.keep 0 _ _ st2 (fun b _ o e => old b o e)) loop)
end
end Ow
namespace Ow
open PySem PySem.Spec PyProof.Rows L2
section
variable {X : Cx}
theorem vals_at {xs : List V} {us : List Value} (r : Vals xs us) {j : Nat} (h1 : j < us.length) : RelV (xs.getD j .non) us[j] := by
  have hl := r.length
  have hj : j < xs.length := by omega
  obtain ⟨u, hu, ru⟩ := r.get (i := j) (x := xs[j]) (List.getElem?_eq_getElem hj)
  rw [List.getElem?_eq_getElem h1] at hu
  rw [List.getD_eq_getElem?_getD, List.getElem?_eq_getElem hj]
  cases hu
  exact ru
end
end Ow
namespace Ow
open PySem PySem.Spec PyProof.Rows L2
section
variable {X : Cx}
def rAddL (K : PySem.W.Frag) : R2 := fun x y H Q => ∃ a b xs ys, x = .ref a ∧ y = .ref b ∧ SqL K H a xs ∧ SqL K H b ys ∧ xs.length + ys.length ≤ sizeLine ∧ ∀ p, H p = none → Q (.ref p) (upd H p (.lst (xs ++ ys)))
theorem op_addL : OpR X (binaryOp .Add) (rAddL X.K) := by
  intro pins s σ H x y v u Q I rx ry h
  obtain ⟨a, b, xs, ys, rfl, rfl, ha, hb, hz, q⟩ := h
  cases rx
  cases ry
  obtain ⟨its, r, pl, _⟩ := I.list ha
  obtain ⟨its2, r2, pl2, _⟩ := I.list hb
  have hl := r.length
  have hl2 := r2.length
  obtain ⟨⟨cls, dd, data, sl⟩, ho, hc, n, hd⟩ := id pl.isList
  obtain ⟨⟨cls2, dd2, data2, sl2⟩, ho2, hc2, n2, hd2⟩ := id pl2.isList
  simp only at hc hd hc2 hd2
  subst hc hd hc2 hd2
  have e : its.toArray ++ its2.toArray = (its ++ its2).toArray := by simp
  refine concat_meets ⟨_, ho, rfl⟩ ⟨_, ho2, rfl⟩ noFill_list_add seq_list_add PySem.F.slot_list_add PySem.F.entry_list_add (PySem.F.args_list_add_2 _ _) (list_addW a b its.toArray its2.toArray n n2 dd dd2 sl sl2 (by simp; omega)) ⟨ho, ho2, ?_⟩
  rw [e]
  exact ⟨.ref s.heap.objs.size, _, I.lnew (t' := s.toks) (r.append r2) (by rw [List.length_append]; exact hz), rfl, q _ I.fresh⟩
variable {tg : Expr}
inductive EqD (K : PySem.W.Frag) (H : Hp) : Nat → V → V → Bool → Prop where
  | flat {d : Nat} {x y : V} (fx : flatV x = true) (fy : flatV y = true) : EqD K H d x y (eqV x y)
  | tup {d : Nat} {p q : Addr} {xs ys : List V} {e : Nat → Bool} (hn : p ≠ q) (hx : SqT K H p xs) (hy : SqT K H q ys) (he : ∀ j, j < xs.length → j < ys.length → EqD K H d (xs.getD j .non) (ys.getD j .non) (e j)) :
      EqD K H (d + 1) (.ref p) (.ref q) ((List.range (min xs.length ys.length)).all e && xs.length == ys.length)
  | lst {d : Nat} {p q : Addr} {xs ys : List V} {e : Nat → Bool} (hn : p ≠ q) (hx : SqL K H p xs) (hy : SqL K H q ys) (hl : xs.length = ys.length) (he : ∀ j, j < xs.length → EqD K H d (xs.getD j .non) (ys.getD j .non) (e j)) :
      EqD K H (d + 1) (.ref p) (.ref q) ((List.range xs.length).all e)
  | same {d : Nat} {p : Addr} : EqD K H d (.ref p) (.ref p) true
theorem EqD.at {pins : List (Addr × Obj)} {σ : L2.St} {H : Hp} {s : Shared} (I : Inv X pins σ H s) : ∀ {d : Nat} {x y : V} {b : Bool} {u v : Value} {A : Around}, EqD X.K H d x y b → RelV x u → RelV y v → A.units + d < cLine → SeqAt.EqAt A s u v b := by
  intro d x y b u v A h
  induction h generalizing u v A with
  | flat fx fy => intro rx ry _; exact eqAt_V rx ry fx fy
  | same => intro rx ry _; cases rx; cases ry; exact SeqAt.EqAt.same _
  | @tup d p q xs ys e hn hx hy he ih =>
    intro rx ry hu
    cases rx
    cases ry
    obtain ⟨its, r, pl, _⟩ := I.tuple hx
    obtain ⟨its2, r2, pl2, _⟩ := I.tuple hy
    have hl := r.length
    have hl2 := r2.length
    have := SeqAt.EqAt.of_refs hn (SeqAt.RcAt.tuples (A := A) (e := e) pl pl2 (by omega) (fun j h1 h2 => by
      have h1' : j < its.length := by simpa using h1
      have h2' : j < its2.length := by simpa using h2
      have z := ih j (by omega) (by omega) (vals_at r h1') (vals_at r2 h2') (A := A.in1) (by show A.units + 1 + d < _; omega)
      simpa using z))
    simp only [List.size_toArray, ← hl, ← hl2] at this
    exact this
  | @lst d p q xs ys e hn hx hy hle he ih =>
    intro rx ry hu
    cases rx
    cases ry
    obtain ⟨its, r, pl, _⟩ := I.list hx
    obtain ⟨its2, r2, pl2, _⟩ := I.list hy
    have hl := r.length
    have hl2 := r2.length
    have := SeqAt.EqAt.of_refs hn (SeqAt.RcAt.lists (A := A) (e := e) pl.isList pl2.isList (by simp only [List.size_toArray]; omega) (by omega) (fun j h1 h2 => by
      have h1' : j < its.length := by simpa using h1
      have h2' : j < its2.length := by simpa using h2
      have z := ih j (by omega) (vals_at r h1') (vals_at r2 h2') (A := A.in1) (by show A.units + 1 + d < _; omega)
      simpa using z))
    simp only [List.size_toArray, ← hl] at this
    exact this
def rEqLD (K : PySem.W.Frag) (d : Nat) (neg : Bool) : R2 := fun x y H Q => ∃ p q xs ys e, x = .ref p ∧ y = .ref q ∧ SqL K H p xs ∧ SqL K H q ys ∧ xs.length = ys.length ∧ (∀ j, j < xs.length → EqD K H d (xs.getD j .non) (ys.getD j .non) (e j)) ∧ Q (.bl (if neg = true then !(List.range xs.length).all e else (List.range xs.length).all e)) H
theorem op_neLD {d : Nat} (hu : X.A.units + d + 1 < cLine) : OpR X (compareOp .NotEq) (rEqLD X.K d true) := by
  intro pins s σ H x y v u Q I rx ry h
  obtain ⟨p, q, xs, ys, e, rfl, rfl, hp, hq, hle, he, k⟩ := h
  cases rx
  cases ry
  obtain ⟨its, r, pl, _⟩ := I.list hp
  obtain ⟨its2, r2, pl2, _⟩ := I.list hq
  have hl := r.length
  have hl2 := r2.length
  refine SeqAt.RcNeAt.lists (e := e) pl.isList pl2.isList (by simp only [List.size_toArray]; omega) (by omega) (fun j h1 h2 => ?_) X.prog X.w X.xe _ ⟨.bl _, H, I, rfl, ?_⟩
  · have h1' : j < its.length := by simpa using h1
    have h2' : j < its2.length := by simpa using h2
    have z := (he j (by omega)).at I (vals_at r h1') (vals_at r2 h2') (A := X.A.in1) (by show X.A.units + 1 + d < _; omega)
    simpa using z
  · simp only [List.size_toArray, ← hl]
    exact k
theorem all_true {n : Nat} {e : Nat → Bool} (h : ∀ j, j < n → e j = true) : (List.range n).all e = true := List.all_eq_true.mpr fun j hj => h j (List.mem_range.mp hj)
end
end Ow
namespace Ow
open PySem PySem.Spec PyProof.Rows L2
section
variable {X : Cx} {tg : Expr}
variable {elt iter : Expr} {x : Str} {px pos : Pos} {scope : Scope} {wi : TI} {te : TE} {cl : List (Str × Addr)}
theorem pe_compC (js : List Nat) (ns : List Str) (hc : X.calm = true) (hclos : closureFor scope X.env = pure cl) (hcls : cl.map (·.1) = ns) (hsub : ∀ p ∈ cl, X.env.cells.lookup p.1 = some p.2)
    (hno : ∀ p ∈ scope.names, p.2 ≠ .cell ∧ (p.2 = .free → p.1 ∈ ns)) (hkind : scope.kind = .function) (hnames : ∀ y ∈ scope.names, y.2 = .local → scope.names.lookup y.1 = some .local) (hx : scope.names.lookup x = some .local)
    (hN : (x :: ns).Nodup) (hkd : ∀ y ∈ ns, (Env.kindOf (compEnvC scope cl 0 X.env) y = some .cell ∨ Env.kindOf (compEnvC scope cl 0 X.env) y = some .free) ∧ X.env.kindOf y = some .cell)
    (hjl : js.length = ns.length) (hj : js.map (fun j => X.N[j]?) = ns.map some)
    (hi : PI X (.Name x px) iter wi) (he : ∀ C s2 H2 fp, PE (cxComp X (x :: ns) scope cl C s2 H2 fp) elt te)
    (hs : ∀ z, foldedSetIterable iter X.env z = pure z := by intro _; rfl) :
    PE X (.ListComp elt [⟨.Name x px, iter, [], 0⟩] scope pos) (tComp wi te fun σ => js.map fun j => (σ[j]?).getD none) := by
  refine pe_comp (N := ns) (cl := cl) hc hclos (fun n c e => hsub (n, c) (PySem.mem_of_lookup e)) (fun y hy => (hno y hy).1) hkind hnames hx (fun y hy => ?_) hN (fun σ => by rw [List.length_map]; exact hjl) (fun σ i y v _ e1 e2 => ?_) hi he hs
  · have sub : ∀ (l : List (Str × NameKind)), (∀ p ∈ l, p.2 ≠ .cell ∧ (p.2 = .free → p.1 ∈ ns)) → ∀ p ∈ (l.map fun (n, k) => if (k == NameKind.free && X.env.scope.kind == ScopeKind.function && X.env.kindOf n == some NameKind.cell) then (n, NameKind.cell) else (n, k)), (p.2 = .cell ∨ p.2 = .free) → p.1 ∈ ns := by
      intro l hl p hp hk
      obtain ⟨q, hq, e⟩ := List.mem_map.mp hp
      have h1 := hl q hq
      obtain ⟨n, k⟩ := q
      dsimp only at e
      by_cases hf : k = .free
      · have h2 := h1.2 hf
        split at e
        · rw [← e]; exact h2
        · rw [← e]; exact h2
      · have hf' : (k == NameKind.free) = false := by
          cases k <;> first | rfl | exact absurd rfl hf
        rw [hf', Bool.false_and, Bool.false_and, if_neg (by decide)] at e
        rw [← e] at hk
        rcases hk with z | z
        · exact absurd z h1.1
        · exact absurd z hf
    have hy' : y ∈ ns := by
      rcases hy with z | z
      · exact sub scope.names hno (y, .cell) (PySem.mem_of_lookup z) (.inl rfl)
      · exact sub scope.names hno (y, .free) (PySem.mem_of_lookup z) (.inr rfl)
    rw [← hcls] at hy'
    have key : ∀ l : List (Str × Addr), y ∈ l.map (·.1) → ∃ c, l.lookup y = some c := by
      intro l
      induction l with
      | nil => intro h; simp at h
      | cons p r ih =>
        intro h
        by_cases e : y = p.1
        · exact ⟨p.2, by obtain ⟨p1, p2⟩ := p; dsimp only at e; subst e; simp [List.lookup]⟩
        · have h' : y ∈ r.map (·.1) := by
            rw [List.map_cons] at h
            exact (List.mem_cons.mp h).resolve_left e
          obtain ⟨c, hc'⟩ := ih h'
          refine ⟨c, ?_⟩
          obtain ⟨p1, p2⟩ := p
          have : (y == p1) = false := by simpa using e
          rw [List.lookup_cons, this]
          exact hc'
    exact key cl hy'
  · have hm : y ∈ ns := List.mem_of_getElem? e1
    refine ⟨(hkd y hm).1, (hkd y hm).2, ?_⟩
    rw [List.getElem?_map] at e2
    cases hji : js[i]? with
    | none => rw [hji] at e2; cases e2
    | some j =>
      rw [hji] at e2
      have e3 : (σ[j]?).getD none = some v := by
        have := Option.some.inj e2
        exact this
      have e4 := congrArg (fun l => l[i]?) hj
      rw [List.getElem?_map, List.getElem?_map, hji, e1] at e4
      have e5 : X.N[j]? = some y := by
        have := Option.some.inj e4
        exact this
      refine ⟨j, e5, ?_⟩
      cases hσ : σ[j]? with
      | none => rw [hσ] at e3; cases e3
      | some o =>
        rw [hσ] at e3
        have e6 : o = some v := e3
        rw [e6]
end
end Ow
namespace Ow
open PySem PySem.Spec PyProof.Rows L2
section
variable {X : Cx}
variable {elt iter : Expr} {x : Str} {px pos : Pos} {scope : Scope} {wi : TI} {te : TE} {cl : List (Str × Addr)}
end
end Ow
namespace Ow
open PySem PySem.Spec PyProof.Rows L2
section
variable {P : Program} {w : World} {base h h1 h2 B : Heap} {fs : List Addr} {H H' : Hp} {l : List Env}
theorem exc_obj {K : PySem.W.Frag} {C : Addr} {bmB : List Value} {nid : String} (X : K.In h) (q : PySem.W.excIn K C bmB nid = true) :
    ∃ bm N nm qn bs hd sn sub ab col dd k0 k1 k2 k3 k5 mN, h.get? C = some (excClassObj nm qn C N bs bm hd sn sub ab col dd k0 k1 k2 k3 k5 nid) ∧ h.Ns N mN ∧ mN "__init__" = none ∧ OwnTail h bmB bm := by
  unfold PySem.W.excIn at q
  split at q
  · next d0 c0 s0 e0 =>
    split at q
    · next C1 m1 y0 y1 y2 y3 n1 y5 em es =>
      simp only [beq_iff_eq, Bool.not_eq_true', Bool.and_eq_true] at q
      obtain ⟨⟨⟨⟨⟨eC, en⟩, ed⟩, et⟩, eo⟩, ei⟩ := q
      subst eC en
      obtain ⟨a1, a2, a3, a4, a5, a6, a7, a8, a9, a10, a11⟩ := c0
      dsimp only at em ed eo ei
      subst em ed
      obtain ⟨l0⟩ := s0
      have es' : l0 = [y0, y1, y2, y3, some (Value.builtin n1), y5] := es
      subst es'
      exact ⟨m1, a4, a1, a5, a2, a6, a7, a8, a9, a10, d0, y0, y1, y2, y3, y5, _, X _ _ e0, .of_isNs (PySem.W.isNs_of_in X eo), PySem.W.nsMap_none_of_in X eo ei, PySem.W.tail_of_in X et⟩
    · cases q
  · cases q
end
abbrev VE : List Value := [.type "ValueError", .type "Exception", .type "BaseException", .type "object"]
section
variable {P : Program} {w : World} {K : PySem.W.Frag} {mg : Str → Option Value} {base : Heap} {N : List Str} {qual : Str} {scope : Scope} {f : Addr} {cdv : Value} {A : Around} {outer : List Env} {s₀ : Shared} {H₀ : Hp} {E : XK}
end
section
variable {X : Cx} {pins : List (Addr × Obj)} {σ : L2.St} {H : Hp} {s : Shared} {a : Addr} {oe : Obj}
end
section
variable {X : Cx} {k i j : Nat} {f y n c : Str} {ps : List Str} {sp : Sp} {e : Expr} {es : List Expr} {ta : TA} {C₁ : Addr} {b₀ : Stmt} {suite : List Stmt} {tb : Addr → Obj → TS} {py p pos apos np hpos tpos : Pos}
end
structure ExF (K : PySem.W.Frag) (C : Addr) : Prop where
  ga : PySem.W.findIn K (.ref C) "__getattribute__" = some (some (.builtin "BaseException.__getattribute__"))
  gn : PySem.W.findIn K (.ref C) "__getattr__" = some none
  gc : PySem.W.findIn K (.ref C) "__class__" = some (some (.builtin "object.__class__"))
  mo : PySem.W.mroIn K C (.type "object") = some true
  mb : PySem.W.mroIn K C (.type "BaseException") = some true
section
variable {prog : Program} {w : World} {A : Around} {E : Value → Shared → Prop} {h : Heap} {g : Array GenState} {d : Drawn} {t : Nat} {os : OsState} {K : PySem.W.Frag} {a C : Addr} {o : Obj}
theorem exc_get {R : Result → Shared → Prop} (X : K.In h) (f : ExF K C) (hx : h.get? a = some o) (hc : o.cls = .ref C) (hq : R (.ok (.ret (.ref C))) ⟨h, g, d, t, os⟩) :
    codeAny (model prog w) A (.call (.builtin "getset_descriptor.__get__") ⟨[.builtin "object.__class__", .ref a, .ref C], []⟩) R ⟨h, g, d, t, os⟩ := by
  have hT5 : (⟨h, g, d, t, os⟩ : Shared).TypeIs (.builtin "object.__class__") "getset_descriptor" := F.typeOf_object_class
  have L1 : PySem.W.Looks (model prog w) h (isSubtype (.ref C) (.type (".".intercalate ("object.__class__".cutAt '.').dropLast))) true := by
    rw [F.owner_object_class]
    exact PySem.W.looks_mroIn X f.mo
  refine codeAny_call_builtin F.slot_gs_get.plain F.entry_gs_get (F.slot_gs_get.check _ _ _ _ _ _ _ _ hT5 (F.args_gs_get _ _ _) ?_)
  repeat (any_goals (first | assumption | (with_reducible refine wpAny_loadPart_at hx ?_; rw [hc]) | with_reducible refine L1.at ?_ | wp_step))
  refine ⟨Code.quiet_builtin _ (by decide +kernel), codeAny_builtin F.entry_object_class ?_⟩
  repeat (any_goals (first | assumption | (with_reducible refine wpAny_loadPart_at hx ?_; rw [hc]) | wp_step))
theorem exc_entry {tk : Tok} {Q : Fin → Shared → Prop} (X : K.In h) (f : ExF K C) (hx : h.get? a = some o) (hc : o.cls = .ref C) (hq : Q (.done (.ret (.ref C))) ⟨h, g, d, t, os⟩) :
    wpAny (model prog w) A (Builtin.«object.__getattribute__» ⟨[.ref a, .str "__class__" tk], []⟩) Q E ⟨h, g, d, t, os⟩ := by
  have hT5 : (⟨h, g, d, t, os⟩ : Shared).TypeIs (.builtin "object.__class__") "getset_descriptor" := F.typeOf_object_class
  have L1 := PySem.W.looks_findIn (M := model prog w) X f.gc
  have f5 := F.typeOf_object_class
  have f6 := F.slot_gs_get.lookup
  have f7 := F.slot_gs_set.lookup
  repeat (any_goals (first | assumption | (with_reducible refine wpAny_loadPart_at hx ?_; rw [hc]) | with_reducible refine L1.at ?_ | wp_step))
  refine exc_get X f hx hc ?_
  repeat (any_goals (first | assumption | wp_step))
theorem exc_check {M : Model} {nv : Value} {Q : Unit → Shared → Prop} (X : K.In h) (f : ExF K C) (hx : h.get? a = some o) (hc : o.cls = .ref C) (hq : Q () ⟨h, g, d, t, os⟩) :
    wpAny M A (checkBuiltinCall "BaseException.__getattribute__" ⟨[.ref a, nv], []⟩) Q E ⟨h, g, d, t, os⟩ := by
  have k1 : builtinKind "BaseException.__getattribute__" = some .slot := by decide +kernel
  have k2 : splitId "BaseException.__getattribute__" = some ("BaseException", "__getattribute__") := by decide +kernel
  have L1 := PySem.W.looks_mroIn (M := M) X f.mb
  have k3 := F.args_bexc_ga (.ref a) nv
  simp only [checkBuiltinCall, k1, k2]
  refine wpAny_bind ?_
  unfold isInstance
  repeat (first | (with_reducible refine wpAny_loadPart_at hx ?_; rw [hc]) | with_reducible refine L1.at ?_ | wp_step)
  exact hq
theorem exc_call {tk : Tok} {R : Result → Shared → Prop} (X : K.In h) (f : ExF K C) (hx : h.get? a = some o) (hc : o.cls = .ref C) (hq : R (.ok (.ret (.ref C))) ⟨h, g, d, t, os⟩) :
    codeAny (model prog w) A (.call (.builtin "BaseException.__getattribute__") ⟨[.ref a, .str "__class__" tk], []⟩) R ⟨h, g, d, t, os⟩ :=
  codeAny_call_builtin F.attr_ValueError.ga.plain F.entry_bexc_ga (exc_check X f hx hc (exc_entry X f hx hc hq))
theorem exc_by {tk : Tok} {fill : Bool} {Q : Value → Shared → Prop} (X : K.In h) (f : ExF K C) (hx : h.get? a = some o) (hc : o.cls = .ref C) (hq : Q (.ref C) ⟨h, g, d, t, os⟩) :
    wpAny (model prog w) A (getAttrBy (.ref a) (.str "__class__" tk) fill) Q E ⟨h, g, d, t, os⟩ := by
  have f3 := F.attr_ValueError.ga.bind (.ref a)
  have L1 := PySem.W.looks_findIn (M := model prog w) X f.ga
  have L2 := PySem.W.looks_findIn (M := model prog w) X f.gn
  have hx2 : (Value.builtin "BaseException.__getattribute__" == Value.builtin "object.__getattribute__") = false := by decide +kernel
  have hx1 : (onTheHeap (Value.ref C) && Value.builtin "BaseException.__getattribute__" == Value.builtin "object.__getattribute__") = false := by rw [hx2]; rfl
  have hx0 : (false && onTheHeap (Value.builtin "BaseException.__getattribute__")) = false := rfl
  repeat (any_goals (first | assumption | (with_reducible refine wpAny_loadPart_at hx ?_; rw [hc]) | with_reducible refine L1.at ?_ | with_reducible refine L2.at ?_ | wp_step))
  refine exc_call X f hx hc ?_
  repeat (any_goals (first | assumption | wp_step))
theorem exc_class {Q : Option Value → Shared → Prop} (X : K.In h) (f : ExF K C) (hx : h.get? a = some o) (hc : o.cls = .ref C) (hq : Q (some (.ref C)) ⟨h, g, d, t + 1, os⟩) :
    wpAny (model prog w) A (getAttr? (.ref a) "__class__") Q E ⟨h, g, d, t, os⟩ := by
  unfold getAttr? getAttrBy?
  refine wpAny_bind (wpAny_mkText (wpAny_bind (wpAny_attempt (exc_by X f hx hc ?_))))
  exact wpAny_pure hq
end
theorem kitx_exc {K : PySem.W.Frag} {a C : Addr} (f : ExF K C) : PySem.W.KitX K (.ref a) (.ref C) (fun h => ∃ o, h.get? a = some o ∧ o.cls = .ref C) where
  ty := fun M h _ p => by
    obtain ⟨o, e1, e2⟩ := p
    exact e2 ▸ (PySem.W.Looks.ld e1).andThen .now
  it := fun M h X _ => by
    obtain ⟨cd, e1, _⟩ := Option.bind_eq_some_iff.mp f.mo
    unfold PySem.W.clsIn at e1
    split at e1
    · next c' d' cd' sl' e0 =>
      intro A' Q' E' s' k q
      unfold isType loadHead
      exact wpAny_bind (wpAny_loadPart (k _ _ (X _ _ e0)) (wpAny_pure q))
    · cases e1
  ne := fun h tp dd its n sl X htp => by
    obtain ⟨cd, e1, _⟩ := Option.bind_eq_some_iff.mp f.mo
    refine Bool.eq_false_iff.mpr fun q => ?_
    have e : C = tp := Value.ref.inj (beq_iff_eq.mp q)
    subst e
    unfold PySem.W.clsIn at e1
    split at e1
    · next c' d' cd' sl' e0 =>
      have z := (X _ _ e0).symm.trans htp
      cases z
    · cases e1
  ca := fun {prog w A E Q s} X p k => by
    obtain ⟨hh, g, d, t, os⟩ := s
    obtain ⟨o, e1, e2⟩ := p
    exact exc_class X f e1 e2 k
theorem kitc_of {K : PySem.W.Frag} {C D : Addr} {b : Bool} (h1 : PySem.W.isClsIn K D = true) (h2 : PySem.W.typeIn K (.ref D) = some (.type "type")) (h3 : PySem.W.mroIn K C (.ref D) = some b) : PySem.W.kitCls K (.ref C) (.ref D) = some b := by
  unfold PySem.W.kitCls
  have e : ((PySem.W.clsIn K D).isSome && PySem.W.typeIn K (.ref D) == some (.type "type")) = true := by
    rw [h2]
    have h1' : (PySem.W.clsIn K D).isSome = true := h1
    rw [h1', Bool.true_and]
    exact beq_self_eq_true _
  show (if ((PySem.W.clsIn K D).isSome && PySem.W.typeIn K (.ref D) == some (.type "type")) = true then PySem.W.subIn K (.ref C) (.ref D) else none) = _
  rw [if_pos e]
  exact h3
theorem kit_apart {K : PySem.W.Frag} {C D : Addr} (h1 : PySem.W.isClsIn K D = true) (h2 : PySem.W.typeIn K (.ref D) = some (.type "type")) (h3 : PySem.W.mroIn K C (.ref D) = some false) (h4 : PySem.W.mroIn K D (.ref D) = some true) : PySem.W.kitOne K (.ref C) (.ref D) = some false := by
  unfold PySem.W.kitOne
  split
  · next q =>
    have e : C = D := Value.ref.inj (beq_iff_eq.mp q)
    subst e
    rw [h3] at h4
    cases h4
  · exact kitc_of h1 h2 h3
end Ow
namespace Ow
open PySem PySem.Spec PyProof.Rows L2
section
variable {P : Program} {w : World} {K : PySem.W.Frag} {mg : Str → Option Value} {base : Heap} {N : List Str} {qual : Str} {scope : Scope} {f : Addr} {cdv : Value} {A : Around} {outer : List Env} {s₀ : Shared} {H₀ : Hp} {E : XK}
end
section
variable {X : Cx} {pins pins' : List (Addr × Obj)} {σ : L2.St} {H : Hp} {s : Shared} {E : L2.St → XK}
end
end Ow
namespace Ow
open PySem PySem.Spec PyProof.Rows L2
section
variable {X : Cx} {pins : List (Addr × Obj)} {σ : L2.St} {H : Hp} {s : Shared} {a : Addr} {oe : Obj} {j : Nat} {n : Str}
end
section
variable {X : Cx} {j : Nat} {n c : Str} {C₁ : Addr} {b₀ : Stmt} {suite : List Stmt} {tb : Addr → Obj → TS} {np hpos : Pos}
end
end Ow
namespace Ow
open PySem PySem.Spec PyProof.Rows L2
section
variable {M : Model} {A : Around} {E : Value → Shared → Prop} {s : Shared} {bs : Heap} {en : Env} {out : List Env} {L e : Addr} {c : Bool}
end
end Ow
namespace Ow
open PySem PySem.Spec PyProof.Rows L2
theorem refuse_tail {h : Heap} {l : List Value} (self : Value) (T : OwnTail h VE l) : refuseLoop self "__setattr__" l = pure () := by
  induction T with
  | base => exact PySem.F.store_ValueError.passes self
  | own _ _ _ _ ih => rw [refuseLoop_ref]; exact ih
section
variable {prog : Program} {w : World} {A : Around} {E : Value → Shared → Prop} {s : Shared} {K : PySem.W.Frag} {x C N : Addr} {fs : Array Value} {sl : Array (Option Value)} {name : Str} {v : Value}
variable {nm qn : Str} {bs bm : List Value} {sn : List Str} {sub : List Value} {ab : Bool} {col : Option Bool} {dd : Option Addr} {k0 k1 k2 k3 k5 : Option Value} {nid : String}
theorem set_exc {Q : Unit → Shared → Prop} (X : K.In s.heap) (hx : s.heap.get? x = some ⟨.ref C, none, .fields fs, sl⟩) (hC : s.heap.get? C = some (excClassObj nm qn C N bs bm true sn sub ab col dd k0 k1 k2 k3 k5 nid)) (T : OwnTail s.heap VE bm)
    (sa : PySem.W.findIn K (.ref C) "__setattr__" = some (some (.builtin "object.__setattr__"))) (na : PySem.W.findIn K (.ref C) name = some none) (mo : PySem.W.mroIn K C (.type "object") = some true)
    (k : ∀ h' t', h'.get? x = some ⟨.ref C, some s.heap.objs.size, .fields fs, sl⟩ → h'.Ns1 s.heap.objs.size (fun y => if y = name then some v else none) → (∀ b o, b ≠ x → s.heap.get? b = some o → h'.get? b = some o) → Q () { s with heap := h', toks := t' }) :
    wpAny (model prog w) A (setAttr (.ref x) name v) Q E s := by
  have I : PySem.W.InstAt s.heap x ⟨.ref C, none, .fields fs, sl⟩ C none := ⟨hx, rfl, rfl, True.intro⟩
  have SF := PySem.F.store_object
  have su : PySem.W.Looks (model prog w) s.heap (isInstance (.ref x) (.type "object")) true := I.type.andThen (PySem.W.looks_mroIn X mo)
  refine PySem.W.set_plain X I sa (codeAny_call_builtin SF.slot.plain SF.entry (@PySem.W.check_slot (model prog w) _ _ { s with toks := s.toks + 1 } "object.__setattr__" "object" "__setattr__" (.ref x) [.str name s.toks, v] [] _ SF.kind SF.split su (SF.args (.ref x) (.str name s.toks) v) ?_))
  rw [PySem.W.osa_eq, refuse_eq]
  refine wpAny_bind (wpAny_bind (PySem.W.Looks.here (s := { s with toks := s.toks + 1 }) I.type (wpAny_bind (wpAny_mroOf_exc hC ?_))))
  rw [refuseLoop_ref, refuse_tail _ T]
  refine wpAny_pure (wpAny_bind (PySem.W.Looks.here (s := { s with toks := s.toks + 1 }) I.type (wpAny_bind (PySem.W.Looks.here (s := { s with toks := s.toks + 1 }) (PySem.W.looks_findIn X na) (wpAny_bind (wpAny_pure ?_))))))
  show wpAny _ _ (Builtin.ObjectAttr.storeInOwnDict (.ref x) (.ref C) (.str name s.toks) name v false) _ _ _
  have L1 : PySem.W.Looks (model prog w) s.heap (classData C) _ := (PySem.W.Looks.ld (part := none) hC).andThen .now
  have xs : x ≠ s.heap.objs.size := Nat.ne_of_lt (Heap.lt_size hx)
  have hx1 : (s.heap.push { cls := .type "dict", data := .dict #[] }).get? x = some ⟨.ref C, none, .fields fs, sl⟩ := Heap.get?_push_of_some _ hx
  have up : ∀ f : Obj → Obj, f ⟨.ref C, none, .fields fs, sl⟩ = ⟨.ref C, some s.heap.objs.size, .fields fs, sl⟩ → ((s.heap.push { cls := .type "dict", data := .dict #[] }).update x f).get? x = some ⟨.ref C, some s.heap.objs.size, .fields fs, sl⟩ := fun f ef => by
    rw [Heap.get?_update_self f hx1 (by rw [ef]; rfl), ef]
  refine wpAny_bind (wpAny_pure (wpAny_bind (wpAny_bind (wpAny_loadPart hx (wpAny_bind (PySem.W.Looks.here (s := { s with toks := s.toks + 1 }) L1 ?_))))))
  refine wpAny_bind (wpAny_alloc' (wpAny_bind (wpAny_update' hx1 (wpAny_pure ?_))))
  have gd : ((s.heap.push { cls := .type "dict", data := .dict #[] }).update x fun o => { o with dict := some s.heap.objs.size }).get? s.heap.objs.size = some { cls := .type "dict", data := .dict #[] } :=
    (Heap.get?_update_other _ _ xs).trans (Heap.get?_push_size _ rfl)
  have nd : ((s.heap.push { cls := .type "dict", data := .dict #[] }).update x fun o => { o with dict := some s.heap.objs.size }).Ns s.heap.objs.size (fun _ => none) := ⟨_, #[], _, gd, rfl, fun e he => absurd he (by simp), fun _ => rfl⟩
  refine wpAny_bind (wpAny_pure (wpAny_bind (wpAny_nsSet1 (Heap.Ns1.of_empty nd) fun h' n2 sb => ?_)))
  obtain ⟨oD, eD, pD, gD, dD, cD⟩ := n2.count (PySem.Within.cons name v PySem.Within.nil)
  refine wpAny_bind (wpAny_lookBehind gD (by rw [dD]; exact pastItsLine_dict (Nat.le_trans cD (by rw [List.length_cons, List.length_nil, sizeLine_eq]; omega))) ?_)
  refine wpAny_pure (k h' _ ?_ ?_ fun b o hb q => ?_)
  · exact (sb.2 x xs).trans (up _ rfl)
  · exact n2
  · exact (sb.2 b (Nat.ne_of_lt (Heap.lt_size q))).trans ((Heap.get?_update_other _ _ (Ne.symm hb)).trans (Heap.get?_push_of_some _ q))
end
end Ow
namespace Ow
open PySem PySem.Spec PyProof.Rows L2
abbrev exF (t : Addr) : Array Value := #[.ref t, .none, .none, .none, .bool false, .none]
section
variable {prog : Program} {w : World} {A : Around} {E : Value → Shared → Prop} {h : Heap} {g : Array GenState} {d : Drawn} {t : Nat} {os : OsState} {C N fI : Addr} {v : Value} {oI : Obj} {mN : Str → Option Value}
variable {nm qn : Str} {bs bm : List Value} {hdc : Bool} {sn : List Str} {sub : List Value} {ab : Bool} {col : Option Bool} {dd : Option Addr} {k0 k1 k2 k3 k5 : Option Value}
end
end Ow
namespace Ow
open PySem PySem.Spec PyProof.Rows L2
def excFn (K : PySem.W.Frag) (C f : Addr) : Bool :=
  match K.lookup C with
  | some ⟨.type "type", _, .cls c, q⟩ =>
    (match c.mro, q.toList with
    | .ref D :: tl, [_, _, _, _, some (.builtin n), _] => D == C && (n == "ValueError.__new__" && (!c.hasDel && (c.hasDict && (PySem.W.tailIn K VE tl && (PySem.W.nsOkIn K c.ns && PySem.W.nsIn K c.ns "__init__" == some (some (.ref f)))))))
    | _, _ => false)
  | _ => false
theorem ns_some {K : PySem.W.Frag} {h : Heap} {N : Addr} {m : Str → Option Value} {n : Str} {v : Value} (X : K.In h) (G : h.Ns N m) (e : PySem.W.nsIn K N n = some (some v)) : m n = some v := by
  obtain ⟨o, es, ep, go, hd, _, hf⟩ := G
  unfold PySem.W.nsIn at e
  split at e
  · next q =>
    have z := X _ _ q
    rw [go] at z
    cases z
    cases hd
    split at e
    · next he =>
      cases e
      rw [← hf]
      unfold nsFind findBy
      rw [← Array.find?_toList, he]
      rfl
    · split at e <;> cases e
  · cases e
theorem exc_fn {K : PySem.W.Frag} {h : Heap} {C f : Addr} (X : K.In h) (q : excFn K C f = true) :
    ∃ bm N nm qn bs sn sub ab col dd k0 k1 k2 k3 k5 mN, h.get? C = some (excClassObj nm qn C N bs bm true sn sub ab col dd k0 k1 k2 k3 k5 "ValueError.__new__") ∧ h.Ns N mN ∧ mN "__init__" = some (.ref f) ∧ OwnTail h VE bm := by
  unfold excFn at q
  split at q
  · next d0 c0 s0 e0 =>
    split at q
    · next D m1 y0 y1 y2 y3 n1 y5 em es =>
      simp only [beq_iff_eq, Bool.not_eq_true', Bool.and_eq_true] at q
      obtain ⟨eC, en, ed, eh, et, eo, ei⟩ := q
      subst eC en
      obtain ⟨a1, a2, a3, a4, a5, a6, a7, a8, a9, a10, a11⟩ := c0
      dsimp only at em ed eo ei eh
      subst em ed eh
      obtain ⟨l0⟩ := s0
      have es' : l0 = [y0, y1, y2, y3, some (Value.builtin "ValueError.__new__"), y5] := es
      subst es'
      have G : h.Ns a4 _ := .of_isNs (PySem.W.isNs_of_in X eo)
      exact ⟨m1, a4, a1, a5, a2, a7, a8, a9, a10, d0, y0, y1, y2, y3, y5, _, X _ _ e0, G, ns_some X G ei, PySem.W.tail_of_in X et⟩
    · cases q
  · cases q
def xO (e C t : Addr) (od : Option Addr) : HO := .ext fun h => h.get? e = some ⟨.ref C, od, .fields (exF t), #[]⟩
theorem xO_ok {P : Program} {w : World} {H : Hp} {h : Heap} {e C t : Addr} {od : Option Addr} (g : h.get? e = some ⟨.ref C, od, .fields (exF t), #[]⟩) : ObjOk P w H h e (xO e C t od) := ⟨g, ⟨_, g⟩, fun _ _ a b => b _ a⟩
section
variable {P : Program} {w : World} {K : PySem.W.Frag} {mg : Str → Option Value} {base : Heap} {N : List Str} {qual : Str} {scope : Scope} {f : Addr} {cdv : Value} {A : Around} {outer : List Env} {s₀ : Shared} {H₀ : Hp} {E : XK}
end
end Ow
namespace Ow
open PySem PySem.Spec PyProof.Rows L2
section
variable {X : Cx} {f : Str} {o value : Expr} {ta tv : TE} {pos pos' : Pos}
end
end Ow
namespace Ow
open PySem PySem.Spec PyProof.Rows L2
section
variable {P : Program} {w : World} {K : PySem.W.Frag} {mg : Str → Option Value} {base : Heap} {N : List Str} {qual : Str} {scope : Scope} {fa : Addr} {cdv : Value} {A : Around} {outer : List Env} {s₀ : Shared} {H₀ : Hp} {E : XK}
end
end Ow
namespace Ow
open PySem PySem.Spec PyProof.Rows L2
section
variable {P : Program} {w : World} {K : PySem.W.Frag} {mg : Str → Option Value} {base : Heap} {N : List Str} {qual : Str} {scope : Scope} {f : Addr} {cdv : Value} {A : Around} {outer : List Env} {s₀ : Shared} {H₀ : Hp} {E : XK}
end
section
variable {P : Program} {w : World} {K : PySem.W.Frag} {mg : Str → Option Value} {base : Heap} {N : List Str} {qual : Str} {scope : Scope} {f : Addr} {cdv : Value} {A : Around} {outer : List Env} {s₀ : Shared} {H₀ : Hp} {E : XK}
end
section
variable {X : Cx} {j : Nat} {n c : Str} {C₁ : Addr} {b₀ : Stmt} {suite : List Stmt} {tb : Addr → Obj → TS} {np hpos : Pos}
end
end Ow
namespace Ow
open PySem PySem.Spec PyProof.Rows L2
section
variable {prog : Program} {w : World} {A : Around} {E : Value → Shared → Prop} {h : Heap} {g : Array GenState} {d : Drawn} {t : Nat} {os : OsState} {K : PySem.W.Frag} {a C D : Addr} {o od : Obj} {name : Str} {v : Value}
theorem xat (hx : h.get? a = some o) (hc : o.cls = .ref C) (hd : o.dict = some D) (hn : PySem.W.notCls o = true) (gd : h.get? D = some od) : PySem.W.InstAt h a o C (some od) := ⟨hx, hc, hn, by rw [hd]; exact gd⟩
theorem getx_entry {tk : Tok} {Q : Fin → Shared → Prop} (X : K.In h) (I : PySem.W.InstAt h a o C (some od)) (hf : PySem.W.findObj K C (some od) name = some (.value v)) (hq : Q (.done (.ret v)) ⟨h, g, d, t, os⟩) :
    wpAny (model prog w) A (Builtin.«object.__getattribute__» ⟨[.ref a, .str name tk], []⟩) Q E ⟨h, g, d, t, os⟩ := by
  have L0 := I.type (M := model prog w)
  have L1 := PySem.W.looks_find (M := model prog w) X I hf
  refine wpAny_bind (wpAny_pure (wpAny_bind (wpAny_pure (wpAny_bind (L0.at (wpAny_bind (L1.at ?_)))))))
  exact wpAny_pure hq
theorem getx_by {tk : Tok} {fill ex : Bool} {Q : Value → Shared → Prop} (X : K.In h) (f : ExF K C) (I : PySem.W.InstAt h a o C (some od)) (hf : PySem.W.findObj K C (some od) name = some (.value v)) (hv : PySem.W.handedIn v = true) (hq : Q v ⟨h, g, d, t, os⟩) :
    wpAny (model prog w) A (getAttrBy (.ref a) (.str name tk) fill ex) Q E ⟨h, g, d, t, os⟩ := by
  have hx := I.at_
  have hc := I.cls
  have f3 := F.attr_ValueError.ga.bind (.ref a)
  have L1 := PySem.W.looks_findIn (M := model prog w) X f.ga
  have L2 := PySem.W.looks_findIn (M := model prog w) X f.gn
  have hx2 : (Value.builtin "BaseException.__getattribute__" == Value.builtin "object.__getattribute__") = false := by decide +kernel
  have hx1 : (onTheHeap (Value.ref C) && Value.builtin "BaseException.__getattribute__" == Value.builtin "object.__getattribute__") = false := by rw [hx2]; rfl
  have hx0 : (ex && onTheHeap (Value.builtin "BaseException.__getattribute__")) = false := by cases ex <;> rfl
  have hho := PySem.W.handedOut_of hv
  repeat (any_goals (first | assumption | (with_reducible refine wpAny_loadPart_at hx ?_; rw [hc]) | with_reducible refine L1.at ?_ | with_reducible refine L2.at ?_ | wp_step))
  refine codeAny_call_builtin F.attr_ValueError.ga.plain F.entry_bexc_ga (exc_check X f hx hc (getx_entry X I hf ?_))
  repeat (any_goals (first | assumption | wp_step))
theorem getx {ex : Bool} {Q : Value → Shared → Prop} (X : K.In h) (f : ExF K C) (I : PySem.W.InstAt h a o C (some od)) (hf : PySem.W.findObj K C (some od) name = some (.value v)) (hv : PySem.W.handedIn v = true) (hq : Q v ⟨h, g, d, t + 1, os⟩) :
    wpAny (model prog w) A (getAttr (.ref a) name ex) Q E ⟨h, g, d, t, os⟩ := by
  unfold getAttr
  exact wpAny_bind (wpAny_mkText (getx_by X f I hf hv hq))
end
end Ow
namespace Ow
open PySem PySem.Spec PyProof.Rows L2
theorem dk_none {P : Program} {w : World} {H : Hp} (h : Heap) (hb : sysModules < h.objs.size) : ObjOk P w H (h.push { cls := .type "dict", data := .dict #[] }) h.objs.size (.dK []) :=
  ⟨Nat.zero_le _, beq_eq_false_iff_ne.mpr (Ne.symm (Nat.ne_of_lt hb)), [], .nil, Heap.DictOf.new h⟩
theorem inv_big {X : Cx} {pins : List (Addr × Obj)} {σ : L2.St} {H : Hp} {s : Shared} (I : Inv X pins σ H s) : sysModules < s.heap.objs.size := by
  have h1 := I.ok.mod.glob.lt
  have h2 := Nat.le_trans I.ok.bsz I.sz
  exact Nat.lt_of_lt_of_le (Nat.lt_of_le_of_lt (by decide) h1) h2
inductive Th (H : Hp) : V → Prop where
  | int (i : Int) : Th H (.int i)
  | bl (b : Bool) : Th H (.bl b)
  | str (x : Str) : Th H (.str x)
  | non : Th H .non
  | lst {a : Addr} {xs : List V} (h : H a = some (.lst xs)) : Th H (.ref a)
  | tup {a : Addr} {xs : List V} (h : H a = some (.tup xs)) : Th H (.ref a)
  | dct {a : Addr} {kvs : List (Key × V)} (h : H a = some (.dK kvs)) : Th H (.ref a)
theorem Th.same {H H' : Hp} {x : V} (t : Th H x) (s : Same H H') : Th H' x := by
  cases t with
  | int i => exact .int i
  | bl b => exact .bl b
  | str x => exact .str x
  | non => exact .non
  | lst h => exact .lst (s _ _ h)
  | tup h => exact .tup (s _ _ h)
  | dct h => exact .dct (s _ _ h)
theorem Th.exc {H H' : Hp} {x : V} {p : Addr} (t : Th H x) (s : SameX p H H') (hp : ∃ xs, H' p = some (.lst xs)) : Th H' x := by
  obtain ⟨ys, hp⟩ := hp
  cases t with
  | int i => exact .int i
  | bl b => exact .bl b
  | str x => exact .str x
  | non => exact .non
  | @lst a xs h =>
    by_cases e : a = p
    · rw [e]; exact .lst hp
    · exact .lst (s _ _ e h)
  | @tup a xs h =>
    by_cases e : a = p
    · rw [e]; exact .lst hp
    · exact .tup (s _ _ e h)
  | @dct a xs h =>
    by_cases e : a = p
    · rw [e]; exact .lst hp
    · exact .dct (s _ _ e h)
end Ow
namespace Ow
open PySem PySem.Spec PyProof.Rows L2
section
variable {X : Cx} {elt iter cc : Expr} {x : Str} {px pos : Pos} {scope : Scope} {wi : TI} {tc : TT} {te : TE} {N : List Str} {cl : List (Str × Addr)} {cap : L2.St → L2.St}
end
end Ow
namespace Ow
open PySem PySem.Spec PyProof.Rows L2
section
variable {X : Cx}
end
end Ow
namespace Ow
open PySem PySem.Spec PyProof.Rows L2
theorem kit_of {K : PySem.W.Frag} {C D : Addr} (h1 : PySem.W.isClsIn K D = true) (h2 : PySem.W.typeIn K (.ref D) = some (.type "type")) (h3 : PySem.W.mroIn K C (.ref D) = some true) : PySem.W.kitOne K (.ref C) (.ref D) = some true := by
  unfold PySem.W.kitOne
  split
  · rfl
  · unfold PySem.W.kitCls
    have e : ((PySem.W.clsIn K D).isSome && PySem.W.typeIn K (.ref D) == some (.type "type")) = true := by
      rw [h2]
      have h1' : (PySem.W.clsIn K D).isSome = true := h1
      rw [h1', Bool.true_and]
      exact beq_self_eq_true _
    show (if ((PySem.W.clsIn K D).isSome && PySem.W.typeIn K (.ref D) == some (.type "type")) = true then PySem.W.subIn K (.ref C) (.ref D) else none) = _
    rw [if_pos e]
    exact h3
end Ow
namespace Ow
open PySem PySem.Spec PyProof.Rows L2
theorem comp_rng {lo : Int} {n : Nat} {D : Addr} {te' : TE} {tl : L2.St} {G : Hp → Prop} {H1 : Hp} (Pv : Nat → Hp → Prop) (h0 : Pv 0 (upd H1 D (.lst [])))
    (hs : ∀ (i : Nat) H, i < n → Pv i H → te' (some (.int (lo + i)) :: tl) H fun y H2 => ∃ ys, H2 D = some (.lst ys) ∧ ys.length < sizeLine ∧ ∃ m', m' < n - i ∧ (m' = n - (i + 1) ∧ i + 1 ≤ n ∧ Pv (i + 1) (upd H2 D (.lst (ys ++ [y])))))
    (hd : ∀ H, Pv n H → G H) :
    ∃ W : Nat → Nat → Hp → Prop, (∃ m, W 0 m (upd H1 D (.lst []))) ∧ ∀ i m H, W i m H →
      ((Itr lo n).stop i H ∧ G H) ∨ ((Itr lo n).go i H ∧ ∀ x H', (Itr lo n).yld i H x H' → te' (some x :: tl) H' fun y H2 => ∃ ys, H2 D = some (.lst ys) ∧ ys.length < sizeLine ∧ ∃ m', m' < m ∧ W (i + 1) m' (upd H2 D (.lst (ys ++ [y])))) := by
  refine ⟨fun i m H => m = n - i ∧ i ≤ n ∧ Pv i H, ⟨n, by simp, Nat.zero_le _, h0⟩, ?_⟩
  rintro i m H ⟨rfl, hi, p⟩
  by_cases hlt : i < n
  · refine .inr ⟨hlt, fun x H' y => ?_⟩
    obtain ⟨e, y⟩ := y
    subst e y
    exact hs i _ hlt p
  · have e : i = n := by omega
    subst e
    exact .inl ⟨Nat.le_refl _, hd H p⟩
end Ow
namespace Ow
open PySem PySem.Spec PyProof.Rows L2
section
variable {X : Cx}
end
end Ow
namespace Ow
open PySem PySem.Spec PyProof.Rows L2
end Ow
namespace Ow
open PySem PySem.Spec PyProof.Rows L2
section
variable {prog : Program} {w : World} {K : Type} [DecidableEq K] {knd : KeyKind prog w K} {A : Around} {E : Value → Shared → Prop} {s : Shared}
theorem dict_eq_body {d : Addr} {kvs : List (K × Value)} {Q : Value → Shared → Prop} (hd : (d == sysModules) = false) (hm : s.heap.DictOf knd d kvs) (h1 : kvs.length ≤ 1)
    (hv : ∀ kv ∈ kvs, SeqAt.EqAt A s kv.2 kv.2 true) (q : Q (.bool true) s) :
    wpAny (model prog w) A (Builtin.«dict.__eq__» ⟨[.ref d, .ref d], []⟩) (fun fin s' => ∃ v, fin = .done (.ret v) ∧ Q v s') E s := by
  obtain ⟨o, es, ep, ho, ed, hda, hk, hp, nd⟩ := id hm
  show wpAny _ _ (isInstance (.ref d) (.type "dict") >>= _) _ _ s
  refine wpAny_bind (wpAny_isInstance (b := true) hm.typeIs (by rw [isSubtype_type]; kernel_rfl) ?_)
  show wpAny _ _ (Builtin.Dict.samePairs _ d d >>= _) _ _ s
  refine wpAny_bind ?_
  unfold Builtin.Dict.samePairs
  have sa : Builtin.Dict.showsAll d = pure () := by unfold Builtin.Dict.showsAll; rw [hd]; rfl
  rw [sa]
  refine wpAny_bind (wpAny_pure (wpAny_bind (wpAny_pure ?_)))
  refine wpAny_bind (wpAny_dictEntries ho hda ?_)
  refine wpAny_bind (wpAny_dictEntries ho hda ?_)
  simp only [bne_self_eq_false, Bool.false_eq_true, if_false]
  refine wpAny_bind (wpAny_dictEpoch ho hda ?_)
  have hen : es.size = kvs.length := by rw [← hp.length, Array.length_toList]
  have vv : ∀ e, e ∈ es → SeqAt.EqAt A s e.val e.val true := by
    intro e he
    obtain ⟨kv, hkv, ev⟩ : ∃ kv ∈ kvs, e.val = kv.2 := by
      clear hv q hm h1 hen nd
      have he' : e ∈ es.toList := he.1
      generalize es.toList = L at hp he'
      induction hp with
      | nil => cases he'
      | cons a1 a2 a3 ih =>
        rcases List.mem_cons.mp he' with rfl | h
        · exact ⟨_, List.mem_cons_self .., a2⟩
        · obtain ⟨kv, m, z⟩ := ih h
          exact ⟨kv, List.mem_cons_of_mem _ m, z⟩
    rw [ev]; exact hv kv hkv
  refine wpAny_bind ?_
  rw [Std.Legacy.Range.forIn_eq_forIn_range']
  refine wpAny_forIn_list _ (fun l (b : Option Bool × Unit) s' => (∀ x ∈ l, x = 0 ∧ 0 < es.size) ∧ b = (none, ()) ∧ s' = s) _ ?_ ?_ _ _ ⟨?_, rfl, rfl⟩
  · rintro x rest b s' ⟨hx, rfl, rfl⟩
    obtain ⟨rfl, hx0⟩ := hx x (List.mem_cons_self ..)
    refine wpAny_bind (wpAny_dictEntries ho hda ?_)
    have e0 : es[0]? = some es[0] := Array.getElem?_eq_getElem hx0
    rw [e0]
    obtain ⟨k', ke, kh⟩ := hk es[0] (Array.getElem_mem hx0)
    refine wpAny_bind (wpAny_holding (wpAny_bind ?_))
    rw [kh]
    refine wpAny_dictFind_of (knd := knd) ke ho hda hk ?_
    have ef : (es.findIdx? fun e => knd.is k' e.key) = some 0 := by
      rw [Array.findIdx?_eq_some_iff_getElem]
      exact ⟨hx0, ke, fun j hj => absurd hj (Nat.not_lt_zero _)⟩
    rw [ef]
    refine wpAny_bind (wpAny_dictEntries ho hda ?_)
    rw [e0]
    refine wpAny_holding (vv _ (Array.getElem_mem hx0) prog w E _ ?_)
    simp only [Bool.not_true, Bool.false_eq_true, if_false]
    refine wpAny_bind (wpAny_dictEpoch ho hda ?_)
    simp only [bne_self_eq_false, Bool.false_eq_true, if_false]
    exact wpAny_pure ⟨fun y hy => hx y (List.mem_cons_of_mem _ hy), rfl, rfl⟩
  · rintro b s' ⟨_, rfl, rfl⟩
    exact wpAny_pure (wpAny_pure ⟨_, rfl, q⟩)
  · intro x hx
    have := List.mem_range'_1.mp hx
    simp only [Std.Legacy.Range.size] at this
    omega
end
section
variable {prog : Program} {w : World} {A : Around} {E : Value → Shared → Prop} {s : Shared}
end
section
variable {X : Cx}
theorem dk_at {pins : List (Addr × Obj)} {σ : L2.St} {H : Hp} {s : Shared} (I : Inv X pins σ H s) {a : Addr} {kvs : List (Key × V)} (e : H a = some (.dK kvs)) : kvs.length ≤ sizeLine ∧ (a == sysModules) = false ∧ ∃ vs, KV kvs vs ∧ s.heap.DictOf (mixKind X.prog X.w) a vs := I.hok a _ e
def Sm1 (H : Hp) (x : V) : Prop := ∀ a kvs, x = .ref a → H a = some (.dK kvs) → kvs.length ≤ 1
def rEqM : R2 := fun x y H Q => x = y ∧ Th H x ∧ Sm1 H x ∧ Q (.bl true) H
theorem op_eqM (hu : X.A.units < cLine) : OpR X (compareOp .Eq) rEqM := by
  intro pins s σ H x y v u Q I rx ry h
  obtain ⟨rfl, th, sm, q⟩ := h
  cases th with
  | int i => exact op_eq pins s σ H _ _ v u Q I rx ry ⟨rfl, by simpa using q⟩
  | bl i => exact op_eq pins s σ H _ _ v u Q I rx ry ⟨rfl, by simpa using q⟩
  | str i => exact op_eq pins s σ H _ _ v u Q I rx ry ⟨rfl, by simpa using q⟩
  | non => exact op_eq pins s σ H _ _ v u Q I rx ry ⟨rfl, by simpa using q⟩
  | @lst a xs h =>
    cases rx
    cases ry
    obtain ⟨its, r, pl, _⟩ := I.list (SqL.of h)
    refine SeqAt.eq_listAt (e := fun _ => true) pl.isList pl.isList rfl hu (fun j h1 h2 => SeqAt.EqAt.same _) ⟨.bl true, H, I, ?_, q⟩
    show _ = _
    rw [all_true fun _ _ => rfl]
  | @tup a xs h =>
    cases rx
    cases ry
    obtain ⟨its, r, pl, _⟩ := I.tuple (SqT.of h)
    refine SeqAt.eq_tupleAt (e := fun _ => true) pl pl hu (fun j h1 h2 => SeqAt.EqAt.same _) ⟨.bl true, H, I, ?_, q⟩
    show _ = _
    rw [all_true fun _ _ => rfl, beq_self_eq_true]
    rfl
  | @dct a kvs h =>
    cases rx
    cases ry
    obtain ⟨z0, hs, vs, r, dd⟩ := dk_at I h
    have hl : vs.length ≤ 1 := by
      have h1 := sm a kvs rfl h
      have h2 : kvs.length = vs.length := by
        clear h dd h1 sm z0
        unfold KV at r
        induction r with
        | nil => rfl
        | cons _ _ ih => simp [ih]
      omega
    refine wpAny_richCompare_same_room (op := .Eq) (T := "dict") (id := "dict.__eq__") dd.typeIs dd.typeIs F.slot_dict_eq ?_ hu
    refine wpAny_call_entry F.slot_dict_eq dd.typeIs F.entry_dict_eq ?_ (F.args_dict_eq_2 _ _)
    refine dict_eq_body (knd := mixKind X.prog X.w) hs dd hl (fun _ _ => SeqAt.EqAt.same _) ?_
    exact ⟨(fun z => nomatch z), .bl true, H, I, rfl, q⟩
def tDisp1 (tk tv : TE) : TE := fun σ H Q => ∀ p, H p = none → tk σ (upd H p (.dK [])) fun kx H1 => tv σ H1 fun y H2 => ∃ x, kx = .str x ∧ H2 p = some (.dK []) ∧ Q (.ref p) (upd H2 p (.dK [(.inr x, y)]))
theorem pe_disp1 {pos : Pos} {k v : Expr} {tk tv : TE} (hk : PE X k tk) (hv : PE X v tv) : PE X (.Dict [some k] [v] pos) (tDisp1 tk tv) := by
  intro pins s σ H Q I q
  have hn := I.hok.fresh (Nat.le_refl s.heap.objs.size)
  have I1 := I.laid (a := s.heap.objs.size) (o := .dK []) (h' := s.heap.push { cls := .type "dict", data := .dict #[] }) (t' := s.toks) (fun _ _ q => Heap.get?_push_of_some _ q) (Nat.le_refl _) (dk_none s.heap (inv_big I))
  refine wpAny_Dict_walk (knd := mixKind X.prog X.w) rfl rfl nofun (by show 1 ≤ 15; decide) (pairTrees_cons_walk (thn (hk pins _ σ _ _ I1 (q _ hn)) fun u s1 ⟨kx, H1, I2, rk, q1⟩ => thn (hv pins s1 σ H1 _ I2 q1) fun w2 s2 ⟨y, H2, I3, ry, x, ek, e, q2⟩ => pairTrees_nil_walk ?_))
  subst ek
  obtain ⟨t, rfl⟩ := rk
  obtain ⟨z, hd, vs0, r0, dd⟩ := dk_at I3 e
  cases r0
  refine ⟨[(.inr x, w2)], ⟨mixKind_str _ _ x t, rfl, True.intro⟩, dd, fun h' dd' hs => ⟨.ref s.heap.objs.size, _, ?_, rfl, q2⟩⟩
  have he : ∃ q, h'.get? s.heap.objs.size = some q := let ⟨q, _, _, hq, _⟩ := dd'; ⟨q, hq⟩
  exact I3.write (x := s.heap.objs.size) (e := s.heap.objs.size) (by rw [e]; exact True.intro) (.inl rfl) (fun b q hb z => (hs.2 b hb).trans z) he ⟨(by show 1 ≤ sizeLine; decide), hd, [(.inr x, w2)], .cons ⟨rfl, ry⟩ .nil, dd'⟩
end
theorem hu0 {A : Around} {k : Nat} (hr : Room k A) : A.units < cLine := by have := hr.un; omega
def noStar : Expr → Bool
  | .Starred _ _ => false
  | _ => true
theorem star_cons {e : Expr} (h : noStar e = true) (rest : List Expr) (env : Env) : starEach (e :: rest) env = (false, eval e env) :: starEach rest env := by
  cases e <;> first | rfl | cases h
theorem pa_consN {X : Cx} {e : Expr} {es : List Expr} {te : TE} {t : TA} (ha : PE X e te) (hr : PA X es t) (hn : noStar e = true := by rfl) : PA X (e :: es) (tCons te t) := pa_cons ha hr (star_cons hn es X.env)
section
variable {X : Cx}
end
end Ow
namespace L2
open PySem PySem.Spec PyProof.Rows
section
variable {κ : Type} [DecidableEq κ]
end
section
variable {P : Program} {w : World} {H : Hp} {h : Heap} {a : Addr}
end
section
variable {X : Cx} {pins : List (Addr × Obj)} {σ : St} {H : Hp} {s : Shared} {a : Addr} {y v : V} {u r : Value} {o : Option V} {A : Around} {E : Value → Shared → Prop}
end
section
variable {X : Cx} {pins : List (Addr × Obj)} {σ : St} {H : Hp} {s : Shared} {a : Addr} {kvs : List (Key × V)} {k : Key} {u : Value} {A : Around} {E : Value → Shared → Prop}
end
section
variable {X : Cx} {o i e value : Expr} {pos pos' tpos : Pos} {td ty tv : TE}
end
section
variable {X : Cx} {pos : Pos}
end
section
variable {X : Cx} {pins : List (Addr × Obj)} {σ : St} {H : Hp} {s : Shared} {a : Addr} {y d : V} {u r : Value} {o : Option V} {A : Around} {E : Value → Shared → Prop}
end
section
variable {X : Cx} {o e f : Expr} {apos cpos : Pos} {td ty tx : TE}
end
section
variable {X : Cx} {pins : List (Addr × Obj)} {σ : St} {H : Hp} {s : Shared} {a : Addr} {kvs : List (Key × V)} {A : Around} {E : Value → Shared → Prop}
end
section
variable {X : Cx} {pins : List (Addr × Obj)} {σ : St} {H : Hp} {s : Shared} {a : Addr} {y : V} {u : Value} {A : Around} {E : Value → Shared → Prop}
end
end L2
namespace L2
open PySem PySem.Spec PyProof.Rows
section
variable {κ : Type} [DecidableEq κ]
end
end L2
namespace Ow
open PySem PySem.Spec PyProof.Rows L2
section
variable {X : Cx} {pins : List (Addr × Obj)} {σ : L2.St} {H : Hp} {s : Shared}
end
section
variable {X : Cx} {tg : Expr}
end
theorem call_strI {X : Cx} : CallR X (.type "str") (fun xs H Q => ∃ i : Int, xs = [.int i] ∧ -1000000000 ≤ i ∧ i ≤ 1000000000 ∧ Q (.str (Str.ofString (toString i))) H) := by
  intro pins s σ H xs us Q I r h
  obtain ⟨i, rfl, i0, i1, q⟩ := h
  obtain ⟨u, rfl, t, rfl⟩ := vals1 r
  exact str_of_int_fit (N := 4611686018427387904) (by split <;> omega) (by omega) fun _ => ⟨.str _, H, I.tok _, ⟨_, rfl⟩, q⟩
section
variable {X : Cx}
end
end Ow
namespace Ow
open PySem PySem.Spec PyProof.Rows L2
section
variable {prog : Program} {w : World} {A : Around} {R : Result → Shared → Prop} {s : Shared}
end
section
variable {X : Cx} {elt iter : Expr} {x y : Str} {px py pos tp : Pos} {kk : Nat} {scope : Scope} {wi : TI} {te : TE} {N : List Str} {cl : List (Str × Addr)} {cap : L2.St → L2.St}
end
section
variable {X : Cx} {elt iter : Expr} {x y0 : Str} {px py pos tp : Pos} {kk : Nat} {scope : Scope} {wi : TI} {te : TE} {cl : List (Str × Addr)}
end
end Ow
namespace L2
open PySem PySem.Spec PyProof.Rows
section
variable {X : Cx}
def Ite (K : PySem.W.Frag) (a : Addr) : It :=
  ⟨fun i H => ∃ xs x, SqL K H a xs ∧ xs[i]? = some x,
   fun i H v H' => ∀ xs x, SqL K H a xs → xs[i]? = some x → ∃ T, v = .ref T ∧ H T = none ∧ H' = upd H T (.tup [.int (i : Nat), x]),
   fun i H => ∃ xs, SqL K H a xs ∧ xs.length ≤ i⟩
theorem turn_enum {P : Program} {w : World} {K : PySem.W.Frag} {elts : List Expr} {x1} {tp : Pos} {e it a : Addr} (hei : e ≠ it) (hae : a ≠ e) (hai : a ≠ it) :
    Turn P w K (.Tuple elts x1 tp) (Ite K a) [e, it] e (fun i h => (∃ old, IsEnum h e it (i : Nat) old) ∧ h.IsListIter it a i) where
  mem := by simp
  obj := fun i h st c hc => by
    obtain ⟨⟨old, q1⟩, ⟨o2, e2, _, d2⟩⟩ := st
    simp only [List.mem_cons, List.not_mem_nil, or_false] at hc
    rcases hc with rfl | rfl
    · exact ⟨_, q1, fun v z => by cases z⟩
    · exact ⟨_, e2, fun v z => by rw [d2] at z; cases z⟩
  keep := fun i h h' st k => by
    obtain ⟨⟨old, q1⟩, q2⟩ := st
    exact ⟨⟨old, k e (by simp) _ q1⟩, q2.at fun o e => k it (by simp) o e⟩
  item := by
    intro X hP hw hK hc i pins s σ H E I hf st hg
    subst hP hw hK
    obtain ⟨xs, x, ha, hx⟩ := hg
    obtain ⟨⟨old, q1⟩, q2⟩ := st
    obtain ⟨its, rv, p, _⟩ := I.list ha
    obtain ⟨ux, hux, rx⟩ := rv.get hx
    refine wpAny_pyNext_enum_item q1 q2 (show s.heap.IsList a its.toArray from p.isList) (x := ux) (by simpa using hux) hei fun h' z1 v1 pr sz all => ?_
    refine ⟨_, rfl, wpAny_letOwnedTupleGo_enum z1 fun h'' z2 sb => ?_⟩
    have nz : ∀ c o, c ≠ e → h'.get? c = some o → h''.get? c = some o := fun c o n e => sb.extBut c o n e
    have zl : e < s.heap.objs.size := Heap.lt_size q1
    have hT : H s.heap.objs.size = none := I.hok.fresh (Nat.le_refl _)
    have prT := nz _ _ (Nat.ne_of_gt zl) pr
    have kept : ∀ c o, c ∉ [e, it] → s.heap.get? c = some o → h''.get? c = some o := fun c o n e => by
      simp only [List.mem_cons, List.not_mem_nil, or_false, not_or] at n
      exact nz c o n.1 (all c o n.1 n.2 e)
    have trk : ∀ c u, H c = some u → c ∉ [e, it] := fun c u e n => by
      have := (hf c n).1
      rw [e] at this; cases this
    refine ⟨.ref s.heap.objs.size, upd H s.heap.objs.size (.tup [.int (i : Nat), x]), ?_, rfl, fun xs' x' ha' hx' => ?_, ⟨⟨_, by simpa using z2⟩, v1.at fun o e => nz _ o (Ne.symm hei) e⟩, fun c hc => ?_⟩
    · refine Inv.step (s := s) (h' := h'') (g' := s.gens) (d' := s.drawn) (t' := s.toks + 1) (ch := [e, it]) I (fun c n => let q := hf c n; ⟨q.2.2.2.1, q.2.1, q.2.2.2.2.1, q.2.2.2.2.2⟩) (fun c o _ _ n e _ => kept c o n e) (fun c o _ _ n e _ => ⟨o.slots, kept c o n e⟩)
        (fun c o _ e n => by rw [upd_ne (Nat.ne_of_lt (Heap.lt_size e))]; exact n) (fun c o n e => ⟨o, kept c o n e⟩) (fun c zs e => by rw [upd_ne (ne_of_none e hT)]; exact e) (fun c o u e => by rw [upd_ne (ne_of_none e hT)]; exact e) (fun c ps e => ⟨#[], by rw [upd_ne (ne_of_none e hT), e]; simp⟩) (fun m hm => ?_) (fun c u e => ?_) I.bare
      · obtain ⟨o, es, ep, ho, r⟩ := hm
        exact ⟨o, es, ep, kept _ o (fun n => (hf _ n).2.1 rfl) ho, r⟩
      · by_cases q : c = s.heap.objs.size
        · subst q
          rw [upd_same] at e; cases e
          exact ⟨by show 2 ≤ sizeLine; decide, [.int (i : Nat) s.toks, ux], .cons ⟨s.toks, rfl⟩ (.cons rx .nil), ⟨_, prT, rfl, _, rfl⟩⟩
        · rw [upd_ne q] at e
          refine (I.hok c u e).stay (fun c' v hc' e' => kept c' v ?_ e') (fun c' e' => by rw [upd_ne (ne_of_none e' hT)]; exact e') fun c' zs e' => by rw [upd_ne (ne_of_none e' hT)]; exact e'
          rcases hc' with z' | z'
          · rw [z']; exact trk c u e
          · exact trk c' _ z'
    · rw [I.list_inj ha' ha, hx] at hx'
      cases hx'
      exact ⟨_, rfl, hT, rfl⟩
    · have q := hf c hc
      have hl : c ≠ s.heap.objs.size := by
        simp only [List.mem_cons, List.not_mem_nil, or_false] at hc
        obtain ⟨_, e4, _⟩ := q2
        rcases hc with rfl | rfl
        · exact Nat.ne_of_lt zl
        · exact Nat.ne_of_lt (Heap.lt_size e4)
      rw [upd_ne hl]
      exact q.1
  done := by
    intro X hP hw hK hc i pins s σ H E I hf st hg
    subst hP hw hK
    obtain ⟨xs, ha, hx⟩ := hg
    obtain ⟨⟨old, q1⟩, q2⟩ := st
    obtain ⟨its, rv, p, _⟩ := I.list ha
    have hl := rv.length
    refine wpAny_pyNext_enum_end (I.ok.hd hc) q1 q2 (show s.heap.IsList a its.toArray from p.isList) (by simp; omega) fun h' all => ⟨rfl, ?_⟩
    have kept : ∀ c o, c ∉ [e, it] → s.heap.get? c = some o → h'.get? c = some o := fun c o n e => by
      simp only [List.mem_cons, List.not_mem_nil, or_false, not_or] at n
      exact all c o n.2 e
    have trk : ∀ c u, H c = some u → c ∉ [e, it] := fun c u e n => by
      have := (hf c n).1
      rw [e] at this; cases this
    refine Inv.step (s := s) (h' := h') (g' := s.gens) (d' := s.drawn) (t' := s.toks) (ch := [e, it]) I (fun c n => let q := hf c n; ⟨q.2.2.2.1, q.2.1, q.2.2.2.2.1, q.2.2.2.2.2⟩) (fun c o _ _ n e _ => kept c o n e) (fun c o _ _ n e _ => ⟨o.slots, kept c o n e⟩)
        (fun c o _ e n => n) (fun c o n e => ⟨o, kept c o n e⟩) (fun c zs e => e) (fun c o u e => e) (fun c ps e => ⟨#[], by rw [e]; simp⟩) (fun m hm => ?_) (fun c u e => ?_) I.bare
    · obtain ⟨o, es, ep, ho, r⟩ := hm
      exact ⟨o, es, ep, kept _ o (fun n => (hf _ n).2.1 rfl) ho, r⟩
    · refine (I.hok c u e).stay (fun c' v hc' e' => kept c' v ?_ e') (fun c' e' => e') fun c' zs e' => e'
      rcases hc' with z' | z'
      · rw [z']; exact trk c u e
      · exact trk c' _ z'
  self := fun _ _ _ _ _ st h => by
    obtain ⟨⟨old, q1⟩, _⟩ := st
    exact wpAny_pyIter_enum q1 h
def iEnum (K : PySem.W.Frag) (ta : TA) : TI := fun σ H R => ta σ H fun vs H1 => ∃ a xs, vs = [.ref a] ∧ SqL K H1 a xs ∧ R (Ite K a) H1
theorem pi_enum {e1 : Expr} {ta : TA} {p pos : Pos} {elts : List Expr} {x1} {tp : Pos} (hg : Gl X "enumerate") (hm : X.mg "enumerate" = none) (ha : PA X [e1] ta) (hs : starEach [e1] X.env = (false, eval e1 X.env) :: starEach [] X.env := by rfl) (hpl : (backTo pos (starEach [] X.env)).any (·.1) = false := by rfl) :
    PI X (.Tuple elts x1 tp) (.Call (.Name "enumerate" p) [e1] [] pos) (iEnum X.K ta) := by
  intro pins s σ H R I h
  refine Call_ (ld_blt I hg hm PyProof.Rows.boot_enumerate (PyProof.Rows.callWith_type1 (thn (ha pos pins s σ H _ I h) fun us s1 ⟨vs, H1, I1, r1, q1⟩ => ?_) hs hpl))
  obtain ⟨a, xs, e, hqa, q⟩ := q1
  subst e
  cases r1 with
  | cons r rr =>
    cases rr
    cases r
    obtain ⟨its, rv, pl, _⟩ := I1.list hqa
    refine call_enumerate_list (show s1.heap.IsList a its.toArray from pl.isList) fun h' z1 z2 sz z6 => ?_
    have I2 : Inv X pins σ H1 { s1 with heap := h' } := I1.kept (t' := s1.toks) z6
    have la : a < s1.heap.objs.size := by obtain ⟨o, e, _⟩ := pl.isList; exact Heap.lt_size e
    refine wpAny_pyIter_enum z1 ?_
    refine ⟨s1.heap.objs.size + 1, [s1.heap.objs.size + 1, s1.heap.objs.size], _, _, H1, rfl, I2, turn_enum (Nat.ne_of_gt (Nat.lt_succ_self _)) (Nat.ne_of_lt (Nat.lt_succ_of_lt la)) (Nat.ne_of_lt la), ⟨⟨_, z1⟩, z2⟩, fun c hc => ?_, q⟩
    have le : s1.heap.objs.size ≤ c := by
      simp only [List.mem_cons, List.not_mem_nil, or_false] at hc
      rcases hc with h | h <;> rw [h]
      · exact Nat.le_add_right _ _
      · exact Nat.le_refl _
    exact I1.fpOk le (I1.hok.fresh le)
theorem for_enum {K : PySem.W.Frag} {a : Addr} {xs : List V} {g : TG} {tb : TS} {D : Ends} {σ : L2.St} {H : Hp} (Pv : Nat → L2.St → Hp → Prop) (h0 : Pv 0 σ H) (hl : ∀ i σ H, Pv i σ H → SqL K H a xs)
    (hs : ∀ i x σ H, xs[i]? = some x → Pv i σ H → ∀ T, H T = none → g (.ref T) σ (upd H T (.tup [.int (i : Nat), x])) fun σ2 H2 => tb { D with nx := Pv (i + 1), ct := Pv (i + 1), bk := D.nx } σ2 H2) (hd : ∀ σ H, Pv xs.length σ H → D.nx σ H) :
    ∃ W : Nat → Nat → L2.St → Hp → Prop, (∃ m, W 0 m σ H) ∧ ∀ i m σ H, W i m σ H →
      ((Ite K a).stop i H ∧ D.nx σ H) ∨ ((Ite K a).go i H ∧ ∃ N : L2.St → Hp → Prop, (∀ σ' H', N σ' H' → ∃ m', m' < m ∧ W (i + 1) m' σ' H') ∧ ∀ x H', (Ite K a).yld i H x H' → g x σ H' fun σ2 H2 => tb { D with nx := N, ct := N, bk := D.nx } σ2 H2) := by
  refine ⟨fun i m σ H => m = xs.length - i ∧ i ≤ xs.length ∧ Pv i σ H, ⟨xs.length, by simp, Nat.zero_le _, h0⟩, ?_⟩
  rintro i m σ H ⟨rfl, hi, p⟩
  have qa := hl i σ H p
  by_cases hlt : i < xs.length
  · have ex : xs[i]? = some xs[i] := List.getElem?_eq_getElem hlt
    refine .inr ⟨⟨xs, _, qa, ex⟩, Pv (i + 1), fun σ' H' p' => ⟨xs.length - (i + 1), by omega, rfl, hlt, p'⟩, fun x H' y => ?_⟩
    obtain ⟨T, rfl, hT, rfl⟩ := y xs _ qa ex
    exact hs i _ σ H ex p T hT
  · have e : i = xs.length := by omega
    subst e
    exact .inl ⟨⟨xs, qa, Nat.le_refl _⟩, hd σ H p⟩
end
end L2
namespace Ow
open PySem PySem.Spec PyProof.Rows L2
def xW (d : Addr) (fs : List (Str × V)) : HO := .ext fun h => ∃ mA, h.Ns1 d mA ∧ (∀ f, RelO (fs.lookup f) (mA f)) ∧ PySem.Within mA (fs.map (·.1))
theorem xW_ok {P : Program} {w : World} {H : Hp} {h : Heap} {d : Addr} {fs : List (Str × V)} {mA : Str → Option Value} (g : h.Ns1 d mA) (r : ∀ f, RelO (fs.lookup f) (mA f)) (wi : PySem.Within mA (fs.map (·.1))) : ObjOk P w H h d (xW d fs) :=
  ⟨⟨mA, g, r, wi⟩, (by obtain ⟨o, es, ep, e, _⟩ := g; exact ⟨o, e⟩), fun h1 h2 ⟨m, n, q⟩ k => ⟨m, n.at k, q⟩⟩
def XAt (H : Hp) (e C : Addr) (fs : List (Str × V)) : Prop := ∃ t d, H e = some (xO e C t (some d)) ∧ H d = some (xW d fs)
def XOf (H : Hp) (e C : Addr) : Prop := ∃ t od, H e = some (xO e C t od)
theorem XAt.of {H : Hp} {e C : Addr} {fs : List (Str × V)} (x : XAt H e C fs) : XOf H e C := by
  obtain ⟨t, d, a, b⟩ := x
  exact ⟨t, _, a⟩
theorem XOf.same {H H' : Hp} {e C : Addr} (x : XOf H e C) (s : Same H H') : XOf H' e C := by
  obtain ⟨t, d, a⟩ := x
  exact ⟨t, d, s _ _ a⟩
section
variable {prog : Program} {w : World} {A : Around} {E : Value → Shared → Prop} {s : Shared} {K : PySem.W.Frag} {x C N : Addr} {fs : Array Value} {sl : Array (Option Value)} {name : Str} {v : Value}
variable {nm qn : Str} {bs bm : List Value} {sn : List Str} {sub : List Value} {ab : Bool} {col : Option Bool} {dd : Option Addr} {k0 k1 k2 k3 k5 : Option Value} {nid : String}
theorem set_exc2 {D : Addr} {mA : Str → Option Value} {ns : List Str} {Q : Unit → Shared → Prop} (X : K.In s.heap) (hx : s.heap.get? x = some ⟨.ref C, some D, .fields fs, sl⟩) (hC : s.heap.get? C = some (excClassObj nm qn C N bs bm true sn sub ab col dd k0 k1 k2 k3 k5 nid)) (T : OwnTail s.heap VE bm)
    (sa : PySem.W.findIn K (.ref C) "__setattr__" = some (some (.builtin "object.__setattr__"))) (na : PySem.W.findIn K (.ref C) name = some none) (mo : PySem.W.mroIn K C (.type "object") = some true)
    (n1 : s.heap.Ns1 D mA) (hw : PySem.Within mA ns) (hsz : ns.length ≤ 100)
    (k : ∀ h' t', h'.Ns1 D (fun y => if y = name then some v else mA y) → Heap.SameBut D s.heap h' → Q () { s with heap := h', toks := t' }) :
    wpAny (model prog w) A (setAttr (.ref x) name v) Q E s := by
  obtain ⟨oD0, es0, ep0, gD0, hd0, r0⟩ := id n1
  have I : PySem.W.InstAt s.heap x ⟨.ref C, some D, .fields fs, sl⟩ C (some oD0) := ⟨hx, rfl, rfl, gD0⟩
  have SF := PySem.F.store_object
  have su : PySem.W.Looks (model prog w) s.heap (isInstance (.ref x) (.type "object")) true := I.type.andThen (PySem.W.looks_mroIn X mo)
  refine PySem.W.set_plain X I sa (codeAny_call_builtin SF.slot.plain SF.entry (@PySem.W.check_slot (model prog w) _ _ { s with toks := s.toks + 1 } "object.__setattr__" "object" "__setattr__" (.ref x) [.str name s.toks, v] [] _ SF.kind SF.split su (SF.args (.ref x) (.str name s.toks) v) ?_))
  rw [PySem.W.osa_eq, refuse_eq]
  refine wpAny_bind (wpAny_bind (PySem.W.Looks.here (s := { s with toks := s.toks + 1 }) I.type (wpAny_bind (wpAny_mroOf_exc hC ?_))))
  rw [refuseLoop_ref, refuse_tail _ T]
  refine wpAny_pure (wpAny_bind (PySem.W.Looks.here (s := { s with toks := s.toks + 1 }) I.type (wpAny_bind (PySem.W.Looks.here (s := { s with toks := s.toks + 1 }) (PySem.W.looks_findIn X na) (wpAny_bind (wpAny_pure ?_))))))
  show wpAny _ _ (Builtin.ObjectAttr.storeInOwnDict (.ref x) (.ref C) (.str name s.toks) name v false) _ _ _
  have L1 : PySem.W.Looks (model prog w) s.heap (classData C) _ := (PySem.W.Looks.ld (part := none) hC).andThen .now
  refine wpAny_bind (wpAny_pure (wpAny_bind (wpAny_bind (wpAny_loadPart hx (wpAny_bind (PySem.W.Looks.here (s := { s with toks := s.toks + 1 }) L1 ?_))))))
  refine wpAny_pure (a := some D) (wpAny_bind (wpAny_pure (wpAny_bind ?_)))
  refine wpAny_nsSet1 (s := { s with toks := s.toks + 1 }) n1 fun h' hn2 hs2 => ?_
  obtain ⟨oD, esD, epD, hoD, hdD, hcD⟩ := hn2.count (PySem.Within.cons name v hw)
  refine wpAny_bind (wpAny_lookBehind hoD (by rw [hdD]; exact pastItsLine_dict (Nat.le_trans hcD (by rw [List.length_cons, sizeLine_eq]; omega))) ?_)
  exact wpAny_pure (k _ _ hn2 hs2)
end
section
variable {prog : Program} {w : World} {A : Around} {E : Value → Shared → Prop} {h : Heap} {g : Array GenState} {d : Drawn} {t : Nat} {os : OsState} {C N fI : Addr} {us : List Value} {oI : Obj} {mN : Str → Option Value}
variable {nm qn : Str} {bs bm : List Value} {hdc : Bool} {sn : List Str} {sub : List Value} {ab : Bool} {col : Option Bool} {dd : Option Addr} {k0 k1 k2 k3 k5 : Option Value}
abbrev exTN (us : List Value) : Obj := { cls := .type "tuple", data := .seq us.toArray }
theorem made_excN {Q : Fin → Shared → Prop} (T : OwnTail h VE bm) (hC : h.get? C = some (excClassObj nm qn C N bs bm hdc sn sub ab col dd k0 k1 k2 k3 k5 "ValueError.__new__")) (hn : h.Ns N mN) (hi : mN "__init__" = some (.ref fI))
    (gf : h.get? fI = some oI) (cf : oI.cls = .type "function") (hz : us.length ≤ sizeLine)
    (k : wpAny (model prog w) A (call (.ref fI) (.ref (h.objs.size + 1) :: us)) (fun r s' => r = .none ∧ Q (.done (.ret (.ref (h.objs.size + 1)))) s') E ⟨(h.push (exTN us)).push { cls := .ref C, data := .fields (exF h.objs.size) }, g, d, t, os⟩) :
    wpAny (model prog w) A (Builtin.«type.__call__» ⟨.ref C :: us, []⟩) Q E ⟨h, g, d, t, os⟩ := by
  have F := PySem.F.excBase_ValueError
  have st : ∀ b o, h.get? b = some o → ((h.push (exTN us)).push { cls := .ref C, data := .fields (exF h.objs.size) }).get? b = some o := fun b o e => Heap.get?_push_of_some _ (Heap.get?_push_of_some _ e)
  have ge : ((h.push (exTN us)).push { cls := .ref C, data := .fields (exF h.objs.size) }).get? (h.objs.size + 1) = some { cls := .ref C, data := .fields (exF h.objs.size) } := by
    have z := Heap.get?_push_size (h.push (exTN us)) (o := { cls := .ref C, data := .fields (exF h.objs.size) }) rfl
    rwa [Heap.size_push] at z
  have cc : (Value.ref C :: bm).contains (.ref C) = true := by rw [List.contains_cons, beq_self_eq_true, Bool.true_or]
  repeat (first | with_reducible refine wpAny_loadPart_at hC ?_ | with_reducible refine wpAny_madeBy_exc hC ?_ | wp_step)
  refine codeAny_call_builtin_code (Code.quiet_builtin _ F.quiet) (wpAny_check_new_subT F T hC (codeAny_exc_new_subT F T hC (rest := us) (hrest := hz) ?_))
  show wpAny _ _ _ _ _ _
  unfold isInstance
  repeat (first | with_reducible refine wpAny_loadPart_at ge ?_ | (with_reducible refine wpAny_isSubtype_exc (st _ _ hC) ?_; rw [cc]) | wp_step)
  show wpAny _ _ (typeLookup (.ref C) _) _ _ _
  refine wpAny_typeLookup_tail (st _ _ hC) (hn.keeps st) (T.keeps st) F.mroIs F.init.lookup ?_
  rw [hi]
  refine wpAny_holding (wpAny_bind ?_)
  unfold bindSpecial
  refine wpAny_bind (wpAny_typeOf (T := "function") ⟨_, st _ _ gf, cf⟩ ?_)
  rw [if_pos (by decide)]
  refine wpAny_pure (wpAny_bind (wpAny_mono k (fun r s' q => ?_) fun _ _ z => z))
  obtain ⟨rfl, q⟩ := q
  wp_walk
  exact q
theorem call_excN {Q : Value → Shared → Prop} (T : OwnTail h VE bm) (hC : h.get? C = some (excClassObj nm qn C N bs bm hdc sn sub ab col dd k0 k1 k2 k3 k5 "ValueError.__new__")) (hn : h.Ns N mN) (hi : mN "__init__" = some (.ref fI))
    (gf : h.get? fI = some oI) (cf : oI.cls = .type "function") (hz : us.length ≤ sizeLine)
    (k : wpAny (model prog w) (A.under (.builtin "type.__call__" ⟨.ref C :: us, []⟩)) (call (.ref fI) (.ref (h.objs.size + 1) :: us)) (fun r s' => r = .none ∧ Q (.ref (h.objs.size + 1)) s') E ⟨(h.push (exTN us)).push { cls := .ref C, data := .fields (exF h.objs.size) }, g, d, t, os⟩) :
    wpAny (model prog w) A (call (.ref C) us) Q E ⟨h, g, d, t, os⟩ := by
  have f1 := tc_lookup
  have f2 := tc_bind (.ref C)
  have tT : (⟨h, g, d, t, os⟩ : Shared).TypeIs (.ref C) "type" := ⟨_, hC, rfl⟩
  refine wpAny_call (codeAny_of_tree ?_)
  show wpAny _ _ (callAny (.ref C) _) _ _ _
  repeat (any_goals (first | assumption | with_reducible refine wpAny_loadPart_at hC ?_ | wp_step))
  exact ⟨rfl, codeAny_call_builtin_at (Code.quiet_builtin _ (by decide +kernel)) entry_typeCall (wpAny_check_type_call_sub hC (made_excN T hC hn hi gf cf hz k))⟩
theorem made_excU {Q : Fin → Shared → Prop} (T : OwnTail h VE bm) (hC : h.get? C = some (excClassObj nm qn C N bs bm hdc sn sub ab col dd k0 k1 k2 k3 k5 "ValueError.__new__")) (hn : h.Ns N mN) (hi : mN "__init__" = none) (hz : us.length ≤ sizeLine)
    (k : ∀ h', (∀ b o, h.get? b = some o → h'.get? b = some o) → (∃ u, h'.get? (h.objs.size + 1) = some ⟨.ref C, none, .fields (exF u), #[]⟩) → Q (.done (.ret (.ref (h.objs.size + 1)))) ⟨h', g, d, t, os⟩) :
    wpAny (model prog w) A (Builtin.«type.__call__» ⟨.ref C :: us, []⟩) Q E ⟨h, g, d, t, os⟩ := by
  have F := PySem.F.excBase_ValueError
  have st : ∀ b o, h.get? b = some o → ((h.push (exTN us)).push { cls := .ref C, data := .fields (exF h.objs.size) }).get? b = some o := fun b o e => Heap.get?_push_of_some _ (Heap.get?_push_of_some _ e)
  have ge : ((h.push (exTN us)).push { cls := .ref C, data := .fields (exF h.objs.size) }).get? (h.objs.size + 1) = some { cls := .ref C, data := .fields (exF h.objs.size) } := by
    have z := Heap.get?_push_size (h.push (exTN us)) (o := { cls := .ref C, data := .fields (exF h.objs.size) }) rfl
    rwa [Heap.size_push] at z
  have cc : (Value.ref C :: bm).contains (.ref C) = true := by rw [List.contains_cons, beq_self_eq_true, Bool.true_or]
  repeat (first | with_reducible refine wpAny_loadPart_at hC ?_ | with_reducible refine wpAny_madeBy_exc hC ?_ | wp_step)
  refine codeAny_call_builtin_code (Code.quiet_builtin _ F.quiet) (wpAny_check_new_subT F T hC (codeAny_exc_new_subT F T hC (rest := us) (hrest := hz) ?_))
  show wpAny _ _ _ _ _ _
  unfold isInstance
  repeat (first | with_reducible refine wpAny_loadPart_at ge ?_ | (with_reducible refine wpAny_isSubtype_exc (st _ _ hC) ?_; rw [cc]) | wp_step)
  show wpAny _ _ (typeLookup (.ref C) _) _ _ _
  refine wpAny_typeLookup_tail (st _ _ hC) (hn.keeps st) (T.keeps st) F.mroIs F.init.lookup ?_
  rw [hi]
  refine wpAny_holding (wpAny_bind (wpAny_of_eq (F.init.bind _) ?_))
  refine wpAny_bind (wpAny_call (codeAny_call_builtin F.init.plain F.initEntry (wpAny_check_init_subU F (T.keeps st) (st _ _ hC) ge rfl ?_)))
  wp_walk
  refine k _ (fun b o hb => ?_) ⟨h.objs.size + 2, ?_⟩
  · rw [Heap.get?_update_other _ _ (Nat.ne_of_gt (Nat.lt_succ_of_lt (Heap.lt_size hb)))]
    exact Heap.get?_push_of_some _ (Heap.get?_push_of_some _ (Heap.get?_push_of_some _ hb))
  · rw [Heap.get?_update_self _ (Heap.get?_push_of_some _ ge) rfl]
    simp only [Heap.size_push]
    rfl
theorem call_excU {Q : Value → Shared → Prop} (T : OwnTail h VE bm) (hC : h.get? C = some (excClassObj nm qn C N bs bm hdc sn sub ab col dd k0 k1 k2 k3 k5 "ValueError.__new__")) (hn : h.Ns N mN) (hi : mN "__init__" = none) (hz : us.length ≤ sizeLine)
    (k : ∀ h', (∀ b o, h.get? b = some o → h'.get? b = some o) → (∃ u, h'.get? (h.objs.size + 1) = some ⟨.ref C, none, .fields (exF u), #[]⟩) → Q (.ref (h.objs.size + 1)) ⟨h', g, d, t, os⟩) :
    wpAny (model prog w) A (call (.ref C) us) Q E ⟨h, g, d, t, os⟩ := by
  have f1 := tc_lookup
  have f2 := tc_bind (.ref C)
  have tT : (⟨h, g, d, t, os⟩ : Shared).TypeIs (.ref C) "type" := ⟨_, hC, rfl⟩
  refine wpAny_call (codeAny_of_tree ?_)
  show wpAny _ _ (callAny (.ref C) _) _ _ _
  repeat (any_goals (first | assumption | with_reducible refine wpAny_loadPart_at hC ?_ | wp_step))
  exact ⟨rfl, codeAny_call_builtin_at (Code.quiet_builtin _ (by decide +kernel)) entry_typeCall (wpAny_check_type_call_sub hC (made_excU T hC hn hi hz k))⟩
end
structure XCl (K : PySem.W.Frag) (C fI : Addr) : Prop where
  ef : excFn K C fI = true
  sa : PySem.W.findIn K (.ref C) "__setattr__" = some (some (.builtin "object.__setattr__"))
  mo : PySem.W.mroIn K C (.type "object") = some true
  fn : PySem.W.typeIn K (.ref fI) = some (.type "function")
  kp : PySem.W.keepIn K (.ref C) = true
def sXs1 (K : PySem.W.Frag) (ta tv : TE) (f : Str) : TS := fun D σ H => tv σ H fun y H1 => ta σ H1 fun x H2 => ∃ e C t fI, x = .ref e ∧ H2 e = some (xO e C t none) ∧ XCl K C fI ∧ NoAttr K C f ∧ ∀ d, H2 d = none → d ≠ e → D.nx σ (upd (upd H2 d (xW d [(f, y)])) e (xO e C t (some d)))
def sXs2 (K : PySem.W.Frag) (ta tv : TE) (f : Str) : TS := fun D σ H => tv σ H fun y H1 => ta σ H1 fun x H2 => ∃ e C t fI d fs, x = .ref e ∧ H2 e = some (xO e C t (some d)) ∧ H2 d = some (xW d fs) ∧ XCl K C fI ∧ NoAttr K C f ∧ fs.length ≤ 100 ∧ D.nx σ (upd H2 d (xW d ((f, y) :: fs)))
section
variable {X : Cx} {f : Str} {o value : Expr} {ta tv : TE} {pos pos' : Pos}
theorem ps_xs1 (ha : PE X o ta) (hv : PE X value tv) (hs : swapsWith value (some (.Attribute o f pos')) pos.line X.env = pure false) : PS X (.Assign [.Attribute o f pos'] value pos) (sXs1 X.K ta tv f) := by
  intro pins s σ H D I h
  refine plainObj_wpAny_Assign_Attribute (thn (hv pins s σ H _ I h) fun u s1 ⟨y, H1, I1, ry, q⟩ => thn (ha pins s1 σ H1 _ I1 q) fun ov s2 ⟨x, H2, I2, rx, e, C, t, fI, ex, he, c, na, q2⟩ => ?_) hs
  subst ex
  obtain rfl : ov = Value.ref e := rx
  have ge : s2.heap.get? e = some ⟨.ref C, none, .fields (exF t), #[]⟩ := (I2.hok e _ he).1
  obtain ⟨bm, N, nm, qn, bs, sn, sub, ab, col, dd, k0, k1, k2, k3, k5, mN, gC, _, _, T⟩ := exc_fn I2.kIn c.ef
  refine set_exc I2.kIn ge gC T c.sa na c.mo fun h' t' g1 n1 kp => ?_
  have hd : H2 s2.heap.objs.size = none := I2.hok.fresh (Nat.le_refl _)
  have dne : s2.heap.objs.size ≠ e := fun z => by rw [z, he] at hd; cases hd
  obtain ⟨od, es, ep, gd, hda, rest⟩ := n1
  have gd1 : (s2.heap.push od).get? s2.heap.objs.size = some od := Heap.get?_push_size _ (by
    obtain ⟨c1, c2, c3, c4⟩ := od
    cases (show c3 = .dict es ep from hda)
    rfl)
  have I3 := I2.laid (a := s2.heap.objs.size) (o := xW s2.heap.objs.size [(f, y)]) (h' := s2.heap.push od) (t' := s2.toks) (fun b u q => Heap.get?_push_of_some _ q) (Nat.le_refl _) (xW_ok ⟨od, es, ep, gd1, hda, rest⟩ (fun g => by
    by_cases hg : g = f
    · subst hg
      rw [if_pos rfl, List.lookup_cons_self]
      exact ry
    · rw [if_neg hg, List.lookup_cons, beq_eq_false_iff_ne.mpr hg]
      exact True.intro) (PySem.Within.cons f u PySem.Within.nil))
  have I4 := I3.write (x := e) (e := e) (o := xO e C t (some s2.heap.objs.size)) (h' := h') (t' := t') (by rw [upd_ne (Ne.symm dne), he]; exact True.intro) (.inl rfl) (fun b v hb z => by
    by_cases hz : b = s2.heap.objs.size
    · subst hz
      have z1 := gd1.symm.trans z
      cases z1
      exact gd
    · rw [Heap.get?_push_ne _ _ _ hz] at z
      exact kp b v hb z) ⟨_, g1⟩ (xO_ok g1)
  exact ⟨σ, _, I4, q2 _ hd dne⟩
theorem ps_xs2 (ha : PE X o ta) (hv : PE X value tv) (hs : swapsWith value (some (.Attribute o f pos')) pos.line X.env = pure false) : PS X (.Assign [.Attribute o f pos'] value pos) (sXs2 X.K ta tv f) := by
  intro pins s σ H D I h
  refine plainObj_wpAny_Assign_Attribute (thn (hv pins s σ H _ I h) fun u s1 ⟨y, H1, I1, ry, q⟩ => thn (ha pins s1 σ H1 _ I1 q) fun ov s2 ⟨x, H2, I2, rx, e, C, t, fI, d, fs, ex, he, hd, c, na, hl, q2⟩ => ?_) hs
  subst ex
  obtain rfl : ov = Value.ref e := rx
  have ge : s2.heap.get? e = some ⟨.ref C, some d, .fields (exF t), #[]⟩ := (I2.hok e _ he).1
  obtain ⟨mA, n1, r, wi⟩ : ∃ mA, s2.heap.Ns1 d mA ∧ (∀ f, RelO (fs.lookup f) (mA f)) ∧ PySem.Within mA (fs.map (·.1)) := (I2.hok d _ hd).1
  obtain ⟨bm, N, nm, qn, bs, sn, sub, ab, col, dd, k0, k1, k2, k3, k5, mN, gC, _, _, T⟩ := exc_fn I2.kIn c.ef
  refine set_exc2 I2.kIn ge gC T c.sa na c.mo n1 wi (by rw [List.length_map]; exact hl) fun h' t' n2 sb => ?_
  have I3 := I2.write (x := d) (e := d) (o := xW d ((f, y) :: fs)) (h' := h') (t' := t') (by rw [hd]; exact True.intro) (.inl rfl) (fun b v hb z => (sb.2 b hb).trans z) (by obtain ⟨o, es, ep, e', _⟩ := n2; exact ⟨o, e'⟩) (xW_ok n2 (fun g => by
    by_cases hg : g = f
    · subst hg
      rw [if_pos rfl, List.lookup_cons_self]
      exact ry
    · rw [if_neg hg, List.lookup_cons, beq_eq_false_iff_ne.mpr hg]
      exact r g) (PySem.Within.cons f u wi))
  exact ⟨σ, _, I3, q2⟩
def tXfO (K : PySem.W.Frag) (ta : TE) (f : Str) : TE := fun σ H Q => ta σ H fun x H1 => ∃ a C fs v, x = .ref a ∧ XAt H1 a C fs ∧ ExF K C ∧ PySem.W.hasDictIn K C = true ∧ NoAttr K C f ∧ fs.lookup f = some v ∧ Q v H1
theorem pe_xfO {e : Expr} (he : PE X e ta) (hb : attributeBase e f X.env (eval e X.env) = eval e X.env) : PE X (.Attribute e f pos) (tXfO X.K ta f) := by
  intro pins s σ H Q I h
  refine attr_of hb (thn (he pins s σ H _ I h) fun u s1 ⟨x, H1, I1, rx, a, C, fs, v, ex, ⟨t0, D, ha, hD⟩, f1, f2, f3, hl, q⟩ => ?_)
  subst ex
  obtain rfl : u = Value.ref a := rx
  have ga : s1.heap.get? a = some ⟨.ref C, some D, .fields (exF t0), #[]⟩ := (I1.hok a _ ha).1
  obtain ⟨mA, ns, r, _⟩ : ∃ mA, s1.heap.Ns1 D mA ∧ (∀ f, RelO (fs.lookup f) (mA f)) ∧ PySem.Within mA (fs.map (·.1)) := (I1.hok D _ hD).1
  obtain ⟨od, gd, hlk⟩ := lookIn_ns ns
  obtain ⟨v', hv, rv⟩ := RelO.some_of (v := v) (o := mA f) (by rw [← hl]; exact r f)
  obtain ⟨hh, g, d, t, os⟩ := s1
  exact getx I1.kIn f1 (xat ga rfl rfl rfl gd) (PySem.W.findObj_own f2 f3 rfl (by rw [hlk, hv])) (handed_of rv) ⟨v, H1, I1.tok _, rv, q⟩
theorem call_isinstO : CallR X (.builtin "isinstance") (fun xs H Q => ∃ (a C : Addr) (c : V) (cv : Value) (b : Bool), xs = [.ref a, c] ∧ XOf H a C ∧ ExF X.K C ∧ clsV c = some cv ∧ PySem.W.kitOne X.K (.ref C) cv = some b ∧ Q (.bl b) H) := by
  intro pins s σ H xs us Q I r h
  obtain ⟨a, C, c, cv, b, rfl, ⟨t0, od, ha⟩, f, hcv, e, q⟩ := h
  obtain ⟨u, u', rfl, rx, rc⟩ := vals2 r
  cases clsV_rel rc hcv
  cases (show u = Value.ref a from rx)
  exact PySem.W.kia_one (kitx_exc f) I.kIn ⟨_, (I.hok a _ ha).1, rfl⟩ e (fun z => nomatch z) fun tk => ⟨.bl b, H, I.tok _, rfl, q⟩
end
def spXN (fl : List Str) (C : Addr) : Sp := fun vs H Q _ => ∃ (e t : Addr) (us : List V), vs = .ref e :: us ∧ us.length = fl.length ∧ H e = some (xO e C t none) ∧ ∀ d fs H', H d = none → d ≠ e → H' d = some (xW d fs) → (∀ g, fs.lookup g = (fl.zip us).lookup g) → H' e = some (xO e C t (some d)) → (∀ b, b ≠ d → b ≠ e → H' b = H b) → Q .non H'
structure XMk (P : Program) (w : World) (K : PySem.W.Frag) (mg : Str → Option Value) (base : Heap) (k : Nat) (x : Str) (C : Addr) (ps fl : List Str) : Prop where
  ex : ∃ (fI : Addr) (fd : FuncData), FnOk P w K mg base CX0 k fI fd ps (spXN fl C) ∧ Binds K fd ps [] ∧ XCl K C fI ∧ mg x = some (.ref C) ∧ ps.length = fl.length + 1
def tMkX (C : Addr) (fl : List Str) (ta : TA) : TE := fun σ H Q => ta σ H fun vs H1 => vs.length = fl.length ∧ vs.length ≤ 100 ∧ ∀ (e : Addr) (fs : List (Str × V)) (H' : Hp), Same H1 H' → XAt H' e C fs → (∀ g, fs.lookup g = (fl.zip vs).lookup g) → Q (.ref e) H'
section
variable {X : Cx}
theorem pe_mkX {k : Nat} {x : Str} {C : Addr} {ps fl : List Str} {p pos : Pos} {e1 : Expr} {es : List Expr} {ta : TA} (h : XMk X.prog X.w X.K X.mg X.base k x C ps fl) (hr : Room (k + 1) X.A) (hg : Gl X x) (ha : PA X (e1 :: es) ta) (hdb : (x == ("__debug__" : Str)) = false := by decide)
    (he : starEach (e1 :: es) X.env = (false, eval e1 X.env) :: starEach es X.env := by rfl) (hpl : (backTo pos (starEach es X.env)).any (·.1) = false := by rfl) :
    PE X (.Call (.Name x p) (e1 :: es) [] pos) (tMkX C fl ta) := by
  intro pins s σ H Q I ht
  obtain ⟨fI, fd, F, hb, c, hm, hps⟩ := h.ex
  obtain ⟨bm, N', nm, qn, bs, sn, sub, ab, col, dd, k0, k1, k2, k3, k5, mN, gC, gN, gi, T⟩ := exc_fn I.ok.mod.kin c.ef
  refine wpAny_Call_Name_kw (ld_glob I hg hm ?_ hdb)
  refine PySem.W.callWith_K (h₀ := X.base) I.ok.mod.kin c.kp (thn (ha pos pins s σ H _ I ht) fun us s1 ⟨vs, H1, I1, r1, hl, hz, q1⟩ => ⟨I1.kIn, ?_⟩) he hpl
  have st1 := I1.bk
  obtain ⟨oI, gf, cf⟩ : ∃ oI, s1.heap.get? fI = some oI ∧ oI.cls = .type "function" := by
    obtain ⟨oI, e1, e2⟩ := Option.map_eq_some_iff.mp c.fn
    exact ⟨oI, I1.kIn _ _ e1, e2⟩
  obtain ⟨hh, g, dr, tk, os⟩ := s1
  have ge : ((hh.push (exTN us)).push { cls := .ref C, data := .fields (exF hh.objs.size) }).get? (hh.objs.size + 1) = some { cls := .ref C, data := .fields (exF hh.objs.size) } := by
    have z := Heap.get?_push_size (hh.push (exTN us)) (o := { cls := .ref C, data := .fields (exF hh.objs.size) }) rfl
    rwa [Heap.size_push] at z
  have He : H1 (hh.objs.size + 1) = none := I1.hok.fresh (Nat.le_succ _)
  have I2 := I1.laid (a := hh.objs.size + 1) (o := xO (hh.objs.size + 1) C hh.objs.size none) (h' := (hh.push (exTN us)).push { cls := .ref C, data := .fields (exF hh.objs.size) }) (t' := tk) (fun b o q => Heap.get?_push_of_some _ (Heap.get?_push_of_some _ q)) (Nat.le_succ _) (xO_ok ge)
  have lus : us.length = fl.length := by rw [← r1.length]; exact hl
  have bd := hb _ (.ref (hh.objs.size + 1) :: us) I2.kIn (by rw [List.append_nil, List.length_cons, lus, hps])
  rw [List.append_nil] at bd
  refine call_excN (us := us) (T.keeps st1) (st1 _ _ gC) (gN.keeps st1) gi gf cf (by rw [sizeLine_eq]; have := r1.length; omega) (wpAny_call (codeAny_mono (F.run _ X.stack _ _ ⟨.ref (hh.objs.size + 1) :: us, []⟩ (.ref (hh.objs.size + 1) :: us) (.ref (hh.objs.size + 1) :: vs)
    (fun y H3 => y = .non ∧ Q (.ref (hh.objs.size + 1)) H3) E0 (hr.make C us [])
    (I2.env0.make C us []) bd (.cons rfl r1) ⟨_, _, vs, rfl, hl, upd_same .., fun d fs H' hd ne h1 h2 h3 h4 => ⟨rfl, q1 _ fs _ (fun b o q => ?_) ⟨_, d, h3, h1⟩ h2⟩⟩) fun r s' hq => ?_))
  · have b1 : b ≠ hh.objs.size + 1 := fun z => by rw [z, He] at q; cases q
    have b2 : b ≠ d := fun z => by rw [upd_ne ne] at hd; rw [z, hd] at q; cases q
    rw [h4 b b2 b1, upd_ne b1]
    exact q
  cases r with
  | error e => exact False.elim hq
  | ok fl =>
    cases fl with
    | ret u' =>
      obtain ⟨y, H3, I3, ry, rfl, q3⟩ := I2.after hq
      exact ⟨ry, .ref _, H3, I3, rfl, q3⟩
    | next => exact False.elim hq
    | brk => exact False.elim hq
    | cont => exact False.elim hq
def tMkX0 (C : Addr) : TE := fun _ H Q => ∀ (e : Addr) (H' : Hp), Same H H' → XOf H' e C → Q (.ref e) H'
def tMkX1 (C : Addr) (ta : TA) : TE := fun σ H Q => ta σ H fun vs H1 => vs.length ≤ 100 ∧ ∀ (e : Addr) (H' : Hp), Same H1 H' → XOf H' e C → Q (.ref e) H'
theorem pe_mkX0 {x : Str} {C : Addr} {p pos : Pos} (hg : Gl X x) (hm : X.mg x = some (.ref C)) (hC : PySem.W.excIn X.K C VE "ValueError.__new__" = true) (hk : PySem.W.keepIn X.K (.ref C) = true) (hdb : (x == ("__debug__" : Str)) = false := by decide) :
    PE X (.Call (.Name x p) [] [] pos) (tMkX0 C) := by
  intro pins s σ H Q I ht
  obtain ⟨bm, N', nm, qn, bs, hd, sn, sub, ab, col, dd, k0, k1, k2, k3, k5, mN, eC, eN, ni, T⟩ := exc_obj I.kIn hC
  refine wpAny_Call_Name_kw (ld_glob I hg hm ?_ hdb)
  refine PySem.W.callWith_K0 I.kIn hk ?_
  obtain ⟨hh, g, dr, tk, os⟩ := s
  have He : H (hh.objs.size + 1) = none := I.hok.fresh (Nat.le_succ _)
  refine call_excU T eC eN ni (Nat.zero_le _) fun h' kp ⟨u, ge⟩ => ?_
  have I2 := I.laid (a := hh.objs.size + 1) (o := xO (hh.objs.size + 1) C u none) (h' := h') (t' := tk) kp (Nat.le_succ _) (xO_ok ge)
  exact ⟨.ref _, _, I2, rfl, ht _ _ (same_new He _) ⟨u, none, upd_same⟩⟩
theorem pe_mkX1 {x : Str} {C : Addr} {p pos : Pos} {e1 : Expr} {es : List Expr} {ta : TA} (hg : Gl X x) (hm : X.mg x = some (.ref C)) (hC : PySem.W.excIn X.K C VE "ValueError.__new__" = true) (hk : PySem.W.keepIn X.K (.ref C) = true) (ha : PA X (e1 :: es) ta) (hdb : (x == ("__debug__" : Str)) = false := by decide)
    (he : starEach (e1 :: es) X.env = (false, eval e1 X.env) :: starEach es X.env := by rfl) (hpl : (backTo pos (starEach es X.env)).any (·.1) = false := by rfl) :
    PE X (.Call (.Name x p) (e1 :: es) [] pos) (tMkX1 C ta) := by
  intro pins s σ H Q I ht
  refine wpAny_Call_Name_kw (ld_glob I hg hm ?_ hdb)
  refine PySem.W.callWith_K (h₀ := X.base) I.ok.mod.kin hk (thn (ha pos pins s σ H _ I ht) fun us s1 ⟨vs, H1, I1, r1, hz, q1⟩ => ⟨I1.kIn, ?_⟩) he hpl
  obtain ⟨bm, N', nm, qn, bs, hd, sn, sub, ab, col, dd, k0, k1, k2, k3, k5, mN, eC, eN, ni, T⟩ := exc_obj I1.kIn hC
  obtain ⟨hh, g, dr, tk, os⟩ := s1
  have He : H1 (hh.objs.size + 1) = none := I1.hok.fresh (Nat.le_succ _)
  refine call_excU (us := us) T eC eN ni (by rw [sizeLine_eq]; have := r1.length; omega) fun h' kp ⟨u, ge⟩ => ?_
  have I2 := I1.laid (a := hh.objs.size + 1) (o := xO (hh.objs.size + 1) C u none) (h' := h') (t' := tk) kp (Nat.le_succ _) (xO_ok ge)
  exact ⟨.ref _, _, I2, rfl, q1 _ _ (same_new He _) ⟨u, none, upd_same⟩⟩
theorem boot_any : bootBuiltins "any" = some (.builtin "any") := by decide +kernel
theorem call_any_bl (hc : X.calm = true) : CallR X (.builtin "any") (fun xs H Q => ∃ (a : Addr) (bs : List Bool), xs = [.ref a] ∧ SqL X.K H a (bs.map V.bl) ∧ Q (.bl (bs.any id)) H) := by
  intro pins s σ H xs us Q I r h
  obtain ⟨a, bs, rfl, hq, q⟩ := h
  obtain ⟨u, rfl, rx⟩ := vals1 r
  cases rx
  obtain ⟨its, rv, pl, hz⟩ := I.list hq
  have hl := rv.length
  rw [List.length_map] at hl
  refine call_any_walk (wpAny_pyIter_list pl.isList ?_)
  have hne : a ≠ s.heap.objs.size := by
    obtain ⟨o, ho, _⟩ := pl.isList
    exact Nat.ne_of_lt (Heap.lt_size ho)
  refine ⟨s.heap.objs.size, _, _, _, _, _, fun j => bs.getD j false, rfl, Walks.list (A := X.A.in1) (I.ok.hd hc) s.heap.objs.size a hne its.toArray, ⟨⟨_, Heap.get?_push_size _ rfl, rfl, rfl⟩, Heap.IsList.push pl.isList _⟩, ?_, ?_⟩
  · intro i v s' Q' E' hP hQ'
    have hP' : its[i]? = some v := by simpa using hP
    have hi : i < its.length := (List.getElem?_eq_some_iff.mp hP').1
    have hb : (bs.map V.bl)[i]? = some (V.bl (bs.getD i false)) := by
      rw [List.getElem?_map, List.getD_eq_getElem?_getD, List.getElem?_eq_getElem (by omega)]
      rfl
    obtain ⟨u', hu', ru'⟩ := rv.get hb
    rw [hP'] at hu'
    cases hu'
    cases ru'
    exact wpAny_truthy_bool hQ'
  · intro h' tk hk
    refine ⟨.bl _, H, I.kept (t' := tk) fun b o e => hk b o (fun z => ?_) (Heap.get?_push_of_some _ e), ?_, q⟩
    · have z' : b = s.heap.objs.size := by simpa using z
      exact absurd (Heap.lt_size e) (by rw [z']; exact Nat.lt_irrefl _)
    · have e1 : (List.range its.toArray.size).any (fun j => bs.getD j false) = bs.any id := by
        rw [List.size_toArray, ← hl]
        rw [Bool.eq_iff_iff, List.any_eq_true, List.any_eq_true]
        constructor
        · rintro ⟨j, hj, e⟩
          have hj' := List.mem_range.mp hj
          rw [List.getD_eq_getElem?_getD, List.getElem?_eq_getElem hj'] at e
          exact ⟨_, List.getElem_mem hj', e⟩
        · rintro ⟨x, hx, e⟩
          obtain ⟨j, hj, e2⟩ := List.getElem_of_mem hx
          refine ⟨j, List.mem_range.mpr hj, ?_⟩
          rw [List.getD_eq_getElem?_getD, List.getElem?_eq_getElem hj, e2]
          exact e
      rw [e1]
      rfl
end
end Ow
namespace Ow
open PySem PySem.Spec PyProof.Rows L2
def xAll (K : PySem.W.Frag) (cs : List Addr) : Bool := (List.range 23).all fun i =>
  (PySem.W.isClsIn K (cs.getD i 0) && (PySem.W.typeIn K (.ref (cs.getD i 0)) == some (.type "type") && (PySem.W.mroIn K (cs.getD i 0) (.type "ValueError") == some true && (PySem.W.mroIn K (cs.getD i 0) (.type "object") == some true && (PySem.W.mroIn K (cs.getD i 0) (.type "BaseException") == some true &&
  (PySem.W.findIn K (.ref (cs.getD i 0)) "__getattribute__" == some (some (.builtin "BaseException.__getattribute__")) && (PySem.W.findIn K (.ref (cs.getD i 0)) "__getattr__" == some none && (PySem.W.findIn K (.ref (cs.getD i 0)) "__class__" == some (some (.builtin "object.__class__")) &&
  (PySem.W.hasDictIn K (cs.getD i 0) && ((["found", "line", "name", "place"] : List Str).all (fun f => PySem.W.findIn K (.ref (cs.getD i 0)) f == some none) && (List.range 23).all fun j => PySem.W.mroIn K (cs.getD i 0) (.ref (cs.getD j 0)) == some (i == j || j == 22)))))))))))
theorem xAll_at {K : PySem.W.Frag} {cs : List Addr} (h : xAll K cs = true) {i : Nat} (hi : i < 23) :
    (PySem.W.isClsIn K (cs.getD i 0) = true ∧ PySem.W.typeIn K (.ref (cs.getD i 0)) = some (.type "type") ∧ PySem.W.mroIn K (cs.getD i 0) (.type "ValueError") = some true) ∧ ExF K (cs.getD i 0) ∧ PySem.W.hasDictIn K (cs.getD i 0) = true ∧
      (∀ f ∈ (["found", "line", "name", "place"] : List Str), NoAttr K (cs.getD i 0) f) ∧ ∀ j, j < 23 → PySem.W.mroIn K (cs.getD i 0) (.ref (cs.getD j 0)) = some (i == j || j == 22) := by
  have h1 := List.all_eq_true.mp h i (List.mem_range.mpr hi)
  simp only [Bool.and_eq_true, beq_iff_eq, List.all_eq_true, List.mem_range] at h1
  obtain ⟨a1, a2, a3, a4, a5, a6, a7, a8, a9, a10, a11⟩ := h1
  exact ⟨⟨a1, a2, a3⟩, ⟨a6, a7, a8, a4, a5⟩, a9, a10, a11⟩
theorem lk1 {f : Str} {x : V} : ([f].zip [x]).lookup f = some x := List.lookup_cons_self
theorem lk21 {f g : Str} {x y : V} : ([f, g].zip [x, y]).lookup f = some x := List.lookup_cons_self
theorem lk22 {f g : Str} {x y : V} (h : g ≠ f) : ([f, g].zip [x, y]).lookup g = some y := by
  show List.lookup g [(f, x), (g, y)] = some y
  rw [List.lookup_cons, beq_eq_false_iff_ne.mpr h]
  exact List.lookup_cons_self
theorem lk_swap {f g : Str} {x y : V} (h : g ≠ f) (z : Str) : [(g, y), (f, x)].lookup z = ([f, g].zip [x, y]).lookup z := by
  show List.lookup z [(g, y), (f, x)] = List.lookup z [(f, x), (g, y)]
  by_cases a : z = g
  · subst a
    rw [List.lookup_cons_self, List.lookup_cons, beq_eq_false_iff_ne.mpr h]
    exact List.lookup_cons_self.symm
  · rw [List.lookup_cons, beq_eq_false_iff_ne.mpr a]
    by_cases b : z = f
    · subst b
      show List.lookup z [(z, x)] = _
      rw [List.lookup_cons_self, List.lookup_cons_self]
    · show List.lookup z [(f, x)] = List.lookup z [(f, x), (g, y)]
      rw [List.lookup_cons, List.lookup_cons, beq_eq_false_iff_ne.mpr b]
      show none = List.lookup z [(g, y)]
      rw [List.lookup_cons, beq_eq_false_iff_ne.mpr a]
      rfl
end Ow
namespace Ow
open PySem PySem.Spec PyProof.Rows L2
open Builtin.Int (intBits)
def top (i : Nat) : Stmt := PySem.Challenge.pw_overwise_k06_refusals_apart.main.body.getD i (.Pass ⟨0, 0, 0, 0⟩)
abbrev s_NoWidth___init__ : Stmt := inClass (top 2) 0
theorem sc_NoWidth___init__ : FnScope ["self", "found"] ["self", "found"] (defScope s_NoWidth___init__) := ⟨rfl, rfl, rfl, by decide +kernel, rfl, by decide +kernel, by decide +kernel⟩
abbrev s_NoWord___init__ : Stmt := inClass (top 3) 0
theorem sc_NoWord___init__ : FnScope ["self", "found"] ["self", "found"] (defScope s_NoWord___init__) := ⟨rfl, rfl, rfl, by decide +kernel, rfl, by decide +kernel, by decide +kernel⟩
abbrev s_NoKind___init__ : Stmt := inClass (top 4) 0
theorem sc_NoKind___init__ : FnScope ["self", "found"] ["self", "found"] (defScope s_NoKind___init__) := ⟨rfl, rfl, rfl, by decide +kernel, rfl, by decide +kernel, by decide +kernel⟩
abbrev s_NoText___init__ : Stmt := inClass (top 5) 0
theorem sc_NoText___init__ : FnScope ["self", "found"] ["self", "found"] (defScope s_NoText___init__) := ⟨rfl, rfl, rfl, by decide +kernel, rfl, by decide +kernel, by decide +kernel⟩
abbrev s_NoWay___init__ : Stmt := inClass (top 6) 0
theorem sc_NoWay___init__ : FnScope ["self", "found"] ["self", "found"] (defScope s_NoWay___init__) := ⟨rfl, rfl, rfl, by decide +kernel, rfl, by decide +kernel, by decide +kernel⟩
abbrev s_NoFraction___init__ : Stmt := inClass (top 7) 0
theorem sc_NoFraction___init__ : FnScope ["self", "found"] ["self", "found"] (defScope s_NoFraction___init__) := ⟨rfl, rfl, rfl, by decide +kernel, rfl, by decide +kernel, by decide +kernel⟩
abbrev s_NoDivisor___init__ : Stmt := inClass (top 8) 0
theorem sc_NoDivisor___init__ : FnScope ["self", "found"] ["self", "found"] (defScope s_NoDivisor___init__) := ⟨rfl, rfl, rfl, by decide +kernel, rfl, by decide +kernel, by decide +kernel⟩
abbrev s_NoForm___init__ : Stmt := inClass (top 9) 0
theorem sc_NoForm___init__ : FnScope ["self", "found"] ["self", "found"] (defScope s_NoForm___init__) := ⟨rfl, rfl, rfl, by decide +kernel, rfl, by decide +kernel, by decide +kernel⟩
abbrev s_NoLine___init__ : Stmt := inClass (top 10) 0
theorem sc_NoLine___init__ : FnScope ["self", "found"] ["self", "found"] (defScope s_NoLine___init__) := ⟨rfl, rfl, rfl, by decide +kernel, rfl, by decide +kernel, by decide +kernel⟩
abbrev s_NoLong___init__ : Stmt := inClass (top 11) 0
theorem sc_NoLong___init__ : FnScope ["self", "found"] ["self", "found"] (defScope s_NoLong___init__) := ⟨rfl, rfl, rfl, by decide +kernel, rfl, by decide +kernel, by decide +kernel⟩
abbrev s_NoPrices___init__ : Stmt := inClass (top 12) 0
theorem sc_NoPrices___init__ : FnScope ["self", "found"] ["self", "found"] (defScope s_NoPrices___init__) := ⟨rfl, rfl, rfl, by decide +kernel, rfl, by decide +kernel, by decide +kernel⟩
abbrev s_NoDesk___init__ : Stmt := inClass (top 13) 0
theorem sc_NoDesk___init__ : FnScope ["self", "found"] ["self", "found"] (defScope s_NoDesk___init__) := ⟨rfl, rfl, rfl, by decide +kernel, rfl, by decide +kernel, by decide +kernel⟩
abbrev s_NoProgram___init__ : Stmt := inClass (top 14) 0
theorem sc_NoProgram___init__ : FnScope ["self", "line"] ["self", "line"] (defScope s_NoProgram___init__) := ⟨rfl, rfl, rfl, by decide +kernel, rfl, by decide +kernel, by decide +kernel⟩
abbrev s_TooMuch___init__ : Stmt := inClass (top 15) 0
theorem sc_TooMuch___init__ : FnScope ["self", "line"] ["self", "line"] (defScope s_TooMuch___init__) := ⟨rfl, rfl, rfl, by decide +kernel, rfl, by decide +kernel, by decide +kernel⟩
abbrev s_Unknown___init__ : Stmt := inClass (top 16) 0
theorem sc_Unknown___init__ : FnScope ["self", "line", "name"] ["self", "line", "name"] (defScope s_Unknown___init__) := ⟨rfl, rfl, rfl, by decide +kernel, rfl, by decide +kernel, by decide +kernel⟩
abbrev s_WrongKind___init__ : Stmt := inClass (top 17) 0
theorem sc_WrongKind___init__ : FnScope ["self", "line", "name"] ["self", "line", "name"] (defScope s_WrongKind___init__) := ⟨rfl, rfl, rfl, by decide +kernel, rfl, by decide +kernel, by decide +kernel⟩
abbrev s_Twice___init__ : Stmt := inClass (top 18) 0
theorem sc_Twice___init__ : FnScope ["self", "line", "name"] ["self", "line", "name"] (defScope s_Twice___init__) := ⟨rfl, rfl, rfl, by decide +kernel, rfl, by decide +kernel, by decide +kernel⟩
abbrev s_NoInput___init__ : Stmt := inClass (top 19) 0
theorem sc_NoInput___init__ : FnScope ["self", "name"] ["self", "name"] (defScope s_NoInput___init__) := ⟨rfl, rfl, rfl, by decide +kernel, rfl, by decide +kernel, by decide +kernel⟩
abbrev s_NoRegister___init__ : Stmt := inClass (top 20) 0
theorem sc_NoRegister___init__ : FnScope ["self", "name"] ["self", "name"] (defScope s_NoRegister___init__) := ⟨rfl, rfl, rfl, by decide +kernel, rfl, by decide +kernel, by decide +kernel⟩
abbrev s_NoRow___init__ : Stmt := inClass (top 21) 0
theorem sc_NoRow___init__ : FnScope ["self", "place"] ["self", "place"] (defScope s_NoRow___init__) := ⟨rfl, rfl, rfl, by decide +kernel, rfl, by decide +kernel, by decide +kernel⟩
abbrev s__law_cell : Stmt := top 25
theorem sc__law_cell : FnScope ["_law_script", "_law_k"] ["_law_script", "_law_k"] (defScope s__law_cell) := ⟨rfl, rfl, rfl, by decide +kernel, rfl, by decide +kernel, by decide +kernel⟩
abbrev s__law_box : Stmt := top 26
theorem sc__law_box : FnScope ["_law_cell_here"] ["_law_cell_here"] (defScope s__law_box) := ⟨rfl, rfl, rfl, by decide +kernel, rfl, by decide +kernel, by decide +kernel⟩
abbrev s__law_take : Stmt := top 27
theorem sc__law_take : FnScope ["_law_box_here", "_law_many", "_law_digit", "_law_number"] ["_law_box_here", "_law_many"] (defScope s__law_take) := ⟨rfl, rfl, rfl, by decide +kernel, rfl, by decide +kernel, by decide +kernel⟩
abbrev s__law_made : Stmt := top 28
theorem sc__law_made : FnScope ["_law_one", "_law_other", "_law_some"] ["_law_one", "_law_other"] (defScope s__law_made) := ⟨rfl, rfl, rfl, by decide +kernel, rfl, by decide +kernel, by decide +kernel⟩
abbrev s__law_kinds : Stmt := top 29
theorem sc__law_kinds : FnScope ["_law_e", "_law_some"] ["_law_e"] (defScope s__law_kinds) := ⟨rfl, rfl, rfl, by decide +kernel, rfl, by decide +kernel, by decide +kernel⟩
abbrev s__law_fields : Stmt := top 30
theorem sc__law_fields : FnScope ["_law_one", "_law_other", "_law_some"] ["_law_one", "_law_other"] (defScope s__law_fields) := ⟨rfl, rfl, rfl, by decide +kernel, rfl, by decide +kernel, by decide +kernel⟩
abbrev s__law_names : Stmt := top 31
theorem sc__law_names : FnScope ["_law_one", "_law_other"] ["_law_one", "_law_other"] (defScope s__law_names) := ⟨rfl, rfl, rfl, by decide +kernel, rfl, by decide +kernel, by decide +kernel⟩
abbrev s__law_alike : Stmt := top 32
theorem sc__law_alike : FnScope ["_law_found", "_law_due"] ["_law_found", "_law_due"] (defScope s__law_alike) := ⟨rfl, rfl, rfl, by decide +kernel, rfl, by decide +kernel, by decide +kernel⟩
abbrev s__law_thing : Stmt := top 33
theorem sc__law_thing : FnScope ["_law_box_here", "_law_number", "_law_some"] ["_law_box_here"] (defScope s__law_thing) := ⟨rfl, rfl, rfl, by decide +kernel, rfl, by decide +kernel, by decide +kernel⟩
abbrev s__law_right : Stmt := top 34
theorem sc__law_right : FnScope ["_law_one", "_law_other", "_law_k", "_law_error", "_law_field"] ["_law_one", "_law_other"] (defScope s__law_right) := ⟨rfl, rfl, rfl, by decide +kernel, rfl, by decide +kernel, by decide +kernel⟩
abbrev s_law : Stmt := top 35
theorem sc_law : FnScope ["_law_script", "_law_k", "_law_box_here", "_law_one", "_law_other", "_law_base"] ["_law_script"] (defScope s_law) := ⟨rfl, rfl, rfl, by decide +kernel, rfl, by decide +kernel, by decide +kernel⟩
structure Ad where
  NoWidth : Addr
  NoWord : Addr
  NoKind : Addr
  NoText : Addr
  NoWay : Addr
  NoFraction : Addr
  NoDivisor : Addr
  NoForm : Addr
  NoLine : Addr
  NoLong : Addr
  NoPrices : Addr
  NoDesk : Addr
  NoProgram : Addr
  TooMuch : Addr
  Unknown : Addr
  WrongKind : Addr
  Twice : Addr
  NoInput : Addr
  NoRegister : Addr
  NoRow : Addr
  Lesser : Addr
  NothingBy : Addr
  WiseError : Addr
structure Txt (K : PySem.W.Frag) (mg : Str → Option Value) (c : Ad) : Prop where
  n_isinstance : mg "isinstance" = none
  n_int : mg "int" = none
  n_bool : mg "bool" = none
  n_str : mg "str" = none
  n_list : mg "list" = none
  n_len : mg "len" = none
  n_max : mg "max" = none
  n_min : mg "min" = none
  n_range : mg "range" = none
  n_enumerate : mg "enumerate" = none
  n_any : mg "any" = none
  n_ValueError : mg "ValueError" = none
  g_NoWidth : mg "NoWidth" = some (.ref c.NoWidth)
  g_NoWord : mg "NoWord" = some (.ref c.NoWord)
  g_NoKind : mg "NoKind" = some (.ref c.NoKind)
  g_NoText : mg "NoText" = some (.ref c.NoText)
  g_NoWay : mg "NoWay" = some (.ref c.NoWay)
  g_NoFraction : mg "NoFraction" = some (.ref c.NoFraction)
  g_NoDivisor : mg "NoDivisor" = some (.ref c.NoDivisor)
  g_NoForm : mg "NoForm" = some (.ref c.NoForm)
  g_NoLine : mg "NoLine" = some (.ref c.NoLine)
  g_NoLong : mg "NoLong" = some (.ref c.NoLong)
  g_NoPrices : mg "NoPrices" = some (.ref c.NoPrices)
  g_NoDesk : mg "NoDesk" = some (.ref c.NoDesk)
  g_NoProgram : mg "NoProgram" = some (.ref c.NoProgram)
  g_TooMuch : mg "TooMuch" = some (.ref c.TooMuch)
  g_Unknown : mg "Unknown" = some (.ref c.Unknown)
  g_WrongKind : mg "WrongKind" = some (.ref c.WrongKind)
  g_Twice : mg "Twice" = some (.ref c.Twice)
  g_NoInput : mg "NoInput" = some (.ref c.NoInput)
  g_NoRegister : mg "NoRegister" = some (.ref c.NoRegister)
  g_NoRow : mg "NoRow" = some (.ref c.NoRow)
  g_Lesser : mg "Lesser" = some (.ref c.Lesser)
  g_NothingBy : mg "NothingBy" = some (.ref c.NothingBy)
  g_WiseError : mg "WiseError" = some (.ref c.WiseError)
  kf_exc_Lesser : PySem.W.excIn K c.Lesser [.type "ValueError", .type "Exception", .type "BaseException", .type "object"] "ValueError.__new__" = true
  kf_kp_Lesser : PySem.W.keepIn K (.ref c.Lesser) = true
  kf_exc_NothingBy : PySem.W.excIn K c.NothingBy [.type "ValueError", .type "Exception", .type "BaseException", .type "object"] "ValueError.__new__" = true
  kf_kp_NothingBy : PySem.W.keepIn K (.ref c.NothingBy) = true
  kf_exc_WiseError : PySem.W.excIn K c.WiseError [.type "ValueError", .type "Exception", .type "BaseException", .type "object"] "ValueError.__new__" = true
  kf_kp_WiseError : PySem.W.keepIn K (.ref c.WiseError) = true
  kf_kr_all : xAll K [c.NoWidth, c.NoWord, c.NoKind, c.NoText, c.NoWay, c.NoFraction, c.NoDivisor, c.NoForm, c.NoLine, c.NoLong, c.NoPrices, c.NoDesk, c.NoProgram, c.TooMuch, c.Unknown, c.WrongKind, c.Twice, c.NoInput, c.NoRegister, c.NoRow, c.Lesser, c.NothingBy, c.WiseError] = true
theorem cmul_mod {x y m : Int} (h0 : 0 < m) (h : m ≤ 2 ^ 64) : CMul (x % m) y := by
  have a := Int.emod_nonneg x (show m ≠ 0 by omega)
  have b := Int.emod_lt_of_pos x h0
  exact .inl ⟨by omega, by omega⟩
theorem log_small {m : Int} (h0 : 0 < m) (h : m < 2 ^ 64) : m.natAbs.log2 < 9000 := by
  have h1 : m.natAbs ≠ 0 := by omega
  have h2 : m.natAbs < 2 ^ 64 := by
    have : (2 : Int) ^ 64 = 18446744073709551616 := by decide
    rw [this] at h
    have : (2 : Nat) ^ 64 = 18446744073709551616 := by decide
    omega
  have := (Nat.log2_lt h1).mpr h2
  omega
def spCell (K : PySem.W.Frag) : Sp := fun vs H Q _ => ∃ (a : Addr) (ns : List Int) (k : Int), vs = [.ref a, .int k] ∧ SqL K H a (ns.map V.int) ∧ 0 ≤ k ∧ ∀ c : Int, Q (.int c) H
def spBox : Sp := fun vs H Q _ => ∃ c : Int, vs = [.int c] ∧ ∀ p H', H p = none → Box H' p → Same H H' → Q (.ref p) H'
def spTake : Sp := fun vs H Q _ => ∃ (p : Addr) (m : Int), vs = [.ref p, .int m] ∧ Box H p ∧ 0 < m ∧ m < 2 ^ 64 ∧ ∀ (d : Int) H', 0 ≤ d → d < m → Box H' p → SameX p H H' → Q (.int d) H'
def spLaw (K : PySem.W.Frag) : Sp := fun vs H Q _ => ∃ (a : Addr) (ns : List Int), vs = [.ref a] ∧ SqL K H a (ns.map V.int) ∧ ns.length ≤ 63 ∧ ∀ H', Q (.bl true) H'
local macro_rules | `(tactic| walk_at "s") => `(tactic| first
  | omega | assumption | exact ty_int | exact rfl | (dsimp only; omega) | exact cpow1 (by omega) (by omega) | exact ⟨by decide, by decide⟩ | exact ⟨by omega, log_small (by omega) (by omega)⟩
  | exact .inr ⟨by decide, by decide⟩ | exact .inl ⟨by decide, by decide⟩ | exact .inl ⟨by omega, by omega⟩ | exact .inr ⟨by omega, by omega⟩ | exact ⟨b200 (by omega) (by omega), b200 (by omega) (by omega)⟩
  | exact ⟨by decide, by decide, by decide⟩ | exact Nat.le_of_ble_eq_true rfl)
local macro_rules | `(tactic| walk_at "q") => `(tactic| first | exact SqT.of (by first | assumption | exact upd_same) | exact SqL.of (by first | assumption | exact upd_same) | assumption)
local macro_rules | `(tactic| walk_at "o") => `(tactic| repeat (first
  | refine ⟨_, rfl, ?_⟩ | refine ⟨_, _, rfl, rfl, ?_⟩ | with_reducible refine iteF ?_ | with_reducible refine iteT ?_
  | refine ⟨_, _, _, _, rfl, rfl, (by walk_at "q"), rfl, ?_⟩
  | refine And.intro (by walk_at "s") ?_
  | refine ⟨_, _, rfl, ?_⟩ | refine ⟨_, _, _, rfl, ?_⟩
  | refine ⟨_, _, _, _, _, rfl, rfl, TyOf.int _, kit_int_int _, ?_⟩ | refine ⟨_, _, _, _, _, rfl, rfl, TyOf.int _, kit_int_bool _, ?_⟩
  | refine ⟨_, _, _, _, _, rfl, rfl, TyOf.bl _, rfl, ?_⟩
  | refine ⟨_, _, _, _, _, rfl, rfl, TyOf.tup (by assumption), rfl, ?_⟩
  | refine ⟨_, _, rfl, .inr (SqT.of (by assumption)), ?_⟩ | refine ⟨_, _, rfl, .inl (SqL.of (by assumption)), ?_⟩
  | with_reducible refine iteD (by omega) ?_ | with_reducible refine iteDN (by omega) ?_ | with_reducible refine iteN (by omega) ?_ | with_reducible refine iteNS (by omega) ?_
  | with_reducible refine iteNS rfl ?_))
local macro_rules | `(tactic| walk_at "c") => `(tactic| first | with_reducible refine iteI ?_ ?_ | with_reducible refine iteIN ?_ ?_ | with_reducible refine iteC ?_ ?_ | with_reducible refine iteCN ?_ ?_ | refine ite2 ?_ ?_)
local macro_rules | `(tactic| walk_at "n") => `(tactic| (intro z; injection z with z; revert z; decide +kernel))
def isB : V → Bool
  | .bl _ => true
  | _ => false
theorem kit_str_bl (K : PySem.W.Frag) : PySem.W.kitOne K (.type "str") (.type "bool") = some false := by with_unfolding_all rfl
theorem kit_non_bl (K : PySem.W.Frag) : PySem.W.kitOne K (.type "NoneType") (.type "bool") = some false := by with_unfolding_all rfl
theorem kit_lst_bl (K : PySem.W.Frag) : PySem.W.kitOne K (.type "list") (.type "bool") = some false := by with_unfolding_all rfl
theorem kit_tup_bl (K : PySem.W.Frag) : PySem.W.kitOne K (.type "tuple") (.type "bool") = some false := by with_unfolding_all rfl
theorem kit_dct_bl (K : PySem.W.Frag) : PySem.W.kitOne K (.type "dict") (.type "bool") = some false := by with_unfolding_all rfl
theorem Th.isbl {K : PySem.W.Frag} {H : Hp} {x : V} (t : Th H x) : ∃ ty, TyOf K H x ty ∧ PySem.W.kitOne K ty (.type "bool") = some (isB x) := by
  cases t with
  | int i => exact ⟨_, TyOf.int _, kit_int_bool _⟩
  | bl b => exact ⟨_, TyOf.bl _, kit_bl_bl _⟩
  | str x => exact ⟨_, TyOf.str _, kit_str_bl _⟩
  | non => exact ⟨_, TyOf.non, kit_non_bl _⟩
  | lst h => exact ⟨_, TyOf.lst h, kit_lst_bl _⟩
  | tup h => exact ⟨_, TyOf.tup h, kit_tup_bl _⟩
  | dct h => exact ⟨_, TyOf.dK h, kit_dct_bl _⟩
theorem Th.eqd {K : PySem.W.Frag} {H : Hp} {x : V} (t : Th H x) : EqD K H 0 x x true := by
  have fl : ∀ v : V, flatV v = true → eqV v v = true → EqD K H 0 v v true := fun v h1 h2 => by
    have := EqD.flat (K := K) (H := H) (d := 0) (x := v) (y := v) h1 h1
    rwa [h2] at this
  cases t with
  | int i => exact fl _ rfl (by simp [eqV])
  | bl b => exact fl _ rfl (by simp [eqV])
  | str x => exact fl _ rfl (by simp [eqV])
  | non => exact fl _ rfl rfl
  | lst h => exact EqD.same
  | tup h => exact EqD.same
  | dct h => exact EqD.same
theorem boot_ValueError : bootBuiltins "ValueError" = some (.type "ValueError") := by decide +kernel
theorem len1 {us : List V} (h : us.length = 1) : ∃ v, us = [v] := List.length_eq_one_iff.mp h
theorem len2 {us : List V} (h : us.length = 2) : ∃ v u, us = [v, u] := by
  match us, h with
  | [v, u], _ => exact ⟨v, u, rfl⟩
def cl (c : Ad) : List Addr := [c.NoWidth, c.NoWord, c.NoKind, c.NoText, c.NoWay, c.NoFraction, c.NoDivisor, c.NoForm, c.NoLine, c.NoLong, c.NoPrices, c.NoDesk, c.NoProgram, c.TooMuch, c.Unknown, c.WrongKind, c.Twice, c.NoInput, c.NoRegister, c.NoRow, c.Lesser, c.NothingBy, c.WiseError]
def cOf (c : Ad) (i : Nat) : Addr := (cl c).getD i 0
structure XMs (P : Program) (w : World) (K : PySem.W.Frag) (mg : Str → Option Value) (base : Heap) (c : Ad) : Prop where
  NoWidth : XMk P w K mg base 1 "NoWidth" c.NoWidth ["self", "found"] ["found"]
  NoWord : XMk P w K mg base 1 "NoWord" c.NoWord ["self", "found"] ["found"]
  NoKind : XMk P w K mg base 1 "NoKind" c.NoKind ["self", "found"] ["found"]
  NoText : XMk P w K mg base 1 "NoText" c.NoText ["self", "found"] ["found"]
  NoWay : XMk P w K mg base 1 "NoWay" c.NoWay ["self", "found"] ["found"]
  NoFraction : XMk P w K mg base 1 "NoFraction" c.NoFraction ["self", "found"] ["found"]
  NoDivisor : XMk P w K mg base 1 "NoDivisor" c.NoDivisor ["self", "found"] ["found"]
  NoForm : XMk P w K mg base 1 "NoForm" c.NoForm ["self", "found"] ["found"]
  NoLine : XMk P w K mg base 1 "NoLine" c.NoLine ["self", "found"] ["found"]
  NoLong : XMk P w K mg base 1 "NoLong" c.NoLong ["self", "found"] ["found"]
  NoPrices : XMk P w K mg base 1 "NoPrices" c.NoPrices ["self", "found"] ["found"]
  NoDesk : XMk P w K mg base 1 "NoDesk" c.NoDesk ["self", "found"] ["found"]
  NoProgram : XMk P w K mg base 1 "NoProgram" c.NoProgram ["self", "line"] ["line"]
  TooMuch : XMk P w K mg base 1 "TooMuch" c.TooMuch ["self", "line"] ["line"]
  Unknown : XMk P w K mg base 1 "Unknown" c.Unknown ["self", "line", "name"] ["line", "name"]
  WrongKind : XMk P w K mg base 1 "WrongKind" c.WrongKind ["self", "line", "name"] ["line", "name"]
  Twice : XMk P w K mg base 1 "Twice" c.Twice ["self", "line", "name"] ["line", "name"]
  NoInput : XMk P w K mg base 1 "NoInput" c.NoInput ["self", "name"] ["name"]
  NoRegister : XMk P w K mg base 1 "NoRegister" c.NoRegister ["self", "name"] ["name"]
  NoRow : XMk P w K mg base 1 "NoRow" c.NoRow ["self", "place"] ["place"]
theorem Txt.ex {K : PySem.W.Frag} {mg : Str → Option Value} {c : Ad} (T : Txt K mg c) (i : Nat) (hi : i < 23) : ExF K (cOf c i) := (xAll_at T.kf_kr_all hi).2.1
theorem Txt.hasD {K : PySem.W.Frag} {mg : Str → Option Value} {c : Ad} (T : Txt K mg c) (i : Nat) (hi : i < 23) : PySem.W.hasDictIn K (cOf c i) = true := (xAll_at T.kf_kr_all hi).2.2.1
theorem Txt.noA {K : PySem.W.Frag} {mg : Str → Option Value} {c : Ad} (T : Txt K mg c) (i : Nat) (hi : i < 23) (f : Str) (hf : f ∈ (["found", "line", "name", "place"] : List Str)) : NoAttr K (cOf c i) f := (xAll_at T.kf_kr_all hi).2.2.2.1 f hf
theorem Txt.kit {K : PySem.W.Frag} {mg : Str → Option Value} {c : Ad} (T : Txt K mg c) (i j : Nat) (hi : i < 23) (hj : j < 23) : PySem.W.kitOne K (.ref (cOf c i)) (.ref (cOf c j)) = some (i == j || j == 22) := by
  obtain ⟨⟨a1, a2, a3⟩, b, d, e, f⟩ := xAll_at T.kf_kr_all hi
  obtain ⟨⟨c1, c2, c3⟩, c4, c5, c6, c7⟩ := xAll_at T.kf_kr_all hj
  have m := f j hj
  have m2 := c7 j hj
  rw [beq_self_eq_true, Bool.true_or] at m2
  cases h : (i == j || j == 22) with
  | true => rw [h] at m; exact kit_of c1 c2 m
  | false => rw [h] at m; exact kit_apart c1 c2 m m2
theorem kit_ty {K : PySem.W.Frag} {C : Addr} {T : String} (h1 : PySem.W.kitMeta T = true) (h : PySem.W.mroIn K C (.type T) = some true) : PySem.W.kitOne K (.ref C) (.type T) = some true := by
  unfold PySem.W.kitOne
  rw [if_neg (by intro z; exact absurd (eq_of_beq z) (fun e => by cases e))]
  unfold PySem.W.kitCls
  show (if PySem.W.kitMeta T = true then _ else _) = _
  rw [if_pos h1]
  exact h
theorem Txt.kitV {K : PySem.W.Frag} {mg : Str → Option Value} {c : Ad} (T : Txt K mg c) (i : Nat) (hi : i < 23) : PySem.W.kitOne K (.ref (cOf c i)) (.type "ValueError") = some true := kit_ty (by decide +kernel) (xAll_at T.kf_kr_all hi).1.2.2
def knd (i : Nat) : List V := [.bl (i == 0 || 0 == 22), .bl (i == 1 || 1 == 22), .bl (i == 2 || 2 == 22), .bl (i == 3 || 3 == 22), .bl (i == 4 || 4 == 22), .bl (i == 5 || 5 == 22), .bl (i == 6 || 6 == 22), .bl (i == 7 || 7 == 22), .bl (i == 8 || 8 == 22), .bl (i == 9 || 9 == 22), .bl (i == 10 || 10 == 22), .bl (i == 11 || 11 == 22), .bl (i == 12 || 12 == 22), .bl (i == 13 || 13 == 22), .bl (i == 14 || 14 == 22), .bl (i == 15 || 15 == 22), .bl (i == 16 || 16 == 22), .bl (i == 17 || 17 == 22), .bl (i == 18 || 18 == 22), .bl (i == 19 || 19 == 22), .bl (i == 20 || 20 == 22), .bl (i == 21 || 21 == 22)]
def spMade (c : Ad) : Sp := fun vs H Q _ => ∃ x y : V, vs = [x, y] ∧ ∀ (l : Addr) (es : List V) (H' : Hp), Same H H' → H' l = some (.lst es) → es.length = 22 → (∀ i, i < 22 → ∃ e, es[i]? = some (.ref e) ∧ XOf H' e (cOf c i)) → Q (.ref l) H'
def spKinds (c : Ad) : Sp := fun vs H Q _ => ∃ (e : Addr) (i : Nat), vs = [.ref e] ∧ i < 23 ∧ XOf H e (cOf c i) ∧ ∀ (l : Addr) (H' : Hp), Same H H' → H' l = some (.lst (knd i)) → Q (.ref l) H'
def spFields : Sp := fun vs H Q _ => ∃ x y : V, vs = [x, y] ∧ ∀ (l : Addr) (H' : Hp), Same H H' → H' l = some (.lst (List.replicate 20 x)) → Q (.ref l) H'
def spNames : Sp := fun vs H Q _ => ∃ x y : V, vs = [x, y] ∧ ∀ (l : Addr) (H' : Hp), Same H H' → H' l = some (.lst (List.replicate 3 y)) → Q (.ref l) H'
def spAlike : Sp := fun vs H Q _ => ∃ x : V, vs = [x, x] ∧ Th H x ∧ Sm1 H x ∧ Q (.bl true) H
def spThing : Sp := fun vs H Q _ => ∃ p : Addr, vs = [.ref p] ∧ Box H p ∧ ∀ (x : V) (H' : Hp), Th H' x → Sm1 H' x → Box H' p → SameX p H H' → Q x H'
def spRight : Sp := fun vs H Q _ => ∃ x y : V, vs = [x, y] ∧ Th H x ∧ Sm1 H x ∧ Th H y ∧ Sm1 H y ∧ ∀ H', Same H H' → Q (.bl true) H'
theorem Th1.same {H H' : Hp} {x : V} (t : Th H x) (s : Sm1 H x) (q : Same H H') : Sm1 H' x := by
  intro a kvs e h
  subst e
  cases t with
  | lst h1 => rw [q _ _ h1] at h; cases h
  | tup h1 => rw [q _ _ h1] at h; cases h
  | dct h1 => rw [q _ _ h1] at h; cases h; exact s a _ rfl h1
theorem Th1.exc {H H' : Hp} {x : V} {p : Addr} (t : Th H x) (s : Sm1 H x) (q : SameX p H H') (b : Box H' p) : Sm1 H' x := by
  intro a kvs e h
  subst e
  by_cases z : a = p
  · obtain ⟨u1, u2, u3, hb⟩ := b
    rw [z, hb] at h
    cases h
  cases t with
  | lst h1 => rw [q _ _ z h1] at h; cases h
  | tup h1 => rw [q _ _ z h1] at h; cases h
  | dct h1 => rw [q _ _ z h1] at h; cases h; exact s a _ rfl h1
theorem Box.lst {H : Hp} {p : Addr} (b : Box H p) : ∃ xs, H p = some (.lst xs) := by
  obtain ⟨u1, u2, u3, hb⟩ := b
  exact ⟨_, hb⟩
theorem Same.updL {H H' : Hp} {l : Addr} {o : HO} (s : Same H H') (hl : H l = none) : Same H (upd H' l o) := fun b u e => by rw [upd_ne (ne_of_none e hl)]; exact s b u e
theorem Same_thenX {p : Addr} {H H1 H2 : Hp} (hp : H p = none) (s : Same H H1) (x : SameX p H1 H2) : Same H H2 := fun b o h => x b o (ne_of_none h hp) (s b o h)
section
variable {P : Program} {w : World} {K : PySem.W.Frag} {mg : Str → Option Value} {base : Heap} {c : Ad}
theorem ok_NoWidth___init__ {f : Addr} {fd : FuncData} (F : Fun K "__init__" "NoWidth.__init__" s_NoWidth___init__ f fd) (T : Txt K mg c)  (xc : XCl K c.NoWidth f) (na0 : NoAttr K c.NoWidth "found") : FnOk P w K mg base CX0 1 f fd ["self", "found"] (spXN ["found"] c.NoWidth) := by
  refine F.ok sc_NoWidth___init__ (fun vs H Q E h => ?_) (fun cdv A outer s H vs Q E hr h => ?_)
  · obtain ⟨e, t, us, rfl, hl, _⟩ := h
    rw [List.length_cons, hl]
    rfl
  obtain ⟨e, t, us, rfl, hl, he, q⟩ := h
  obtain ⟨v, rfl⟩ := len1 hl
  refine ⟨_, (pss_one (ps_xs1 (pv 0) (pv 1) rfl)), ?_⟩
  exact ⟨_, rfl, _, rfl, e, c.NoWidth, t, _, rfl, he, xc, na0, fun d hd hne => q d _ _ hd hne (by rw [upd_ne hne]; exact upd_same) (fun _ => rfl) upd_same (fun b b1 b2 => by rw [upd_ne b2, upd_ne b1])⟩
theorem ok_NoWord___init__ {f : Addr} {fd : FuncData} (F : Fun K "__init__" "NoWord.__init__" s_NoWord___init__ f fd) (T : Txt K mg c)  (xc : XCl K c.NoWord f) (na0 : NoAttr K c.NoWord "found") : FnOk P w K mg base CX0 1 f fd ["self", "found"] (spXN ["found"] c.NoWord) := by
  refine F.ok sc_NoWord___init__ (fun vs H Q E h => ?_) (fun cdv A outer s H vs Q E hr h => ?_)
  · obtain ⟨e, t, us, rfl, hl, _⟩ := h
    rw [List.length_cons, hl]
    rfl
  obtain ⟨e, t, us, rfl, hl, he, q⟩ := h
  obtain ⟨v, rfl⟩ := len1 hl
  refine ⟨_, (pss_one (ps_xs1 (pv 0) (pv 1) rfl)), ?_⟩
  exact ⟨_, rfl, _, rfl, e, c.NoWord, t, _, rfl, he, xc, na0, fun d hd hne => q d _ _ hd hne (by rw [upd_ne hne]; exact upd_same) (fun _ => rfl) upd_same (fun b b1 b2 => by rw [upd_ne b2, upd_ne b1])⟩
theorem ok_NoKind___init__ {f : Addr} {fd : FuncData} (F : Fun K "__init__" "NoKind.__init__" s_NoKind___init__ f fd) (T : Txt K mg c)  (xc : XCl K c.NoKind f) (na0 : NoAttr K c.NoKind "found") : FnOk P w K mg base CX0 1 f fd ["self", "found"] (spXN ["found"] c.NoKind) := by
  refine F.ok sc_NoKind___init__ (fun vs H Q E h => ?_) (fun cdv A outer s H vs Q E hr h => ?_)
  · obtain ⟨e, t, us, rfl, hl, _⟩ := h
    rw [List.length_cons, hl]
    rfl
  obtain ⟨e, t, us, rfl, hl, he, q⟩ := h
  obtain ⟨v, rfl⟩ := len1 hl
  refine ⟨_, (pss_one (ps_xs1 (pv 0) (pv 1) rfl)), ?_⟩
  exact ⟨_, rfl, _, rfl, e, c.NoKind, t, _, rfl, he, xc, na0, fun d hd hne => q d _ _ hd hne (by rw [upd_ne hne]; exact upd_same) (fun _ => rfl) upd_same (fun b b1 b2 => by rw [upd_ne b2, upd_ne b1])⟩
theorem ok_NoText___init__ {f : Addr} {fd : FuncData} (F : Fun K "__init__" "NoText.__init__" s_NoText___init__ f fd) (T : Txt K mg c)  (xc : XCl K c.NoText f) (na0 : NoAttr K c.NoText "found") : FnOk P w K mg base CX0 1 f fd ["self", "found"] (spXN ["found"] c.NoText) := by
  refine F.ok sc_NoText___init__ (fun vs H Q E h => ?_) (fun cdv A outer s H vs Q E hr h => ?_)
  · obtain ⟨e, t, us, rfl, hl, _⟩ := h
    rw [List.length_cons, hl]
    rfl
  obtain ⟨e, t, us, rfl, hl, he, q⟩ := h
  obtain ⟨v, rfl⟩ := len1 hl
  refine ⟨_, (pss_one (ps_xs1 (pv 0) (pv 1) rfl)), ?_⟩
  exact ⟨_, rfl, _, rfl, e, c.NoText, t, _, rfl, he, xc, na0, fun d hd hne => q d _ _ hd hne (by rw [upd_ne hne]; exact upd_same) (fun _ => rfl) upd_same (fun b b1 b2 => by rw [upd_ne b2, upd_ne b1])⟩
theorem ok_NoWay___init__ {f : Addr} {fd : FuncData} (F : Fun K "__init__" "NoWay.__init__" s_NoWay___init__ f fd) (T : Txt K mg c)  (xc : XCl K c.NoWay f) (na0 : NoAttr K c.NoWay "found") : FnOk P w K mg base CX0 1 f fd ["self", "found"] (spXN ["found"] c.NoWay) := by
  refine F.ok sc_NoWay___init__ (fun vs H Q E h => ?_) (fun cdv A outer s H vs Q E hr h => ?_)
  · obtain ⟨e, t, us, rfl, hl, _⟩ := h
    rw [List.length_cons, hl]
    rfl
  obtain ⟨e, t, us, rfl, hl, he, q⟩ := h
  obtain ⟨v, rfl⟩ := len1 hl
  refine ⟨_, (pss_one (ps_xs1 (pv 0) (pv 1) rfl)), ?_⟩
  exact ⟨_, rfl, _, rfl, e, c.NoWay, t, _, rfl, he, xc, na0, fun d hd hne => q d _ _ hd hne (by rw [upd_ne hne]; exact upd_same) (fun _ => rfl) upd_same (fun b b1 b2 => by rw [upd_ne b2, upd_ne b1])⟩
theorem ok_NoFraction___init__ {f : Addr} {fd : FuncData} (F : Fun K "__init__" "NoFraction.__init__" s_NoFraction___init__ f fd) (T : Txt K mg c)  (xc : XCl K c.NoFraction f) (na0 : NoAttr K c.NoFraction "found") : FnOk P w K mg base CX0 1 f fd ["self", "found"] (spXN ["found"] c.NoFraction) := by
  refine F.ok sc_NoFraction___init__ (fun vs H Q E h => ?_) (fun cdv A outer s H vs Q E hr h => ?_)
  · obtain ⟨e, t, us, rfl, hl, _⟩ := h
    rw [List.length_cons, hl]
    rfl
  obtain ⟨e, t, us, rfl, hl, he, q⟩ := h
  obtain ⟨v, rfl⟩ := len1 hl
  refine ⟨_, (pss_one (ps_xs1 (pv 0) (pv 1) rfl)), ?_⟩
  exact ⟨_, rfl, _, rfl, e, c.NoFraction, t, _, rfl, he, xc, na0, fun d hd hne => q d _ _ hd hne (by rw [upd_ne hne]; exact upd_same) (fun _ => rfl) upd_same (fun b b1 b2 => by rw [upd_ne b2, upd_ne b1])⟩
theorem ok_NoDivisor___init__ {f : Addr} {fd : FuncData} (F : Fun K "__init__" "NoDivisor.__init__" s_NoDivisor___init__ f fd) (T : Txt K mg c)  (xc : XCl K c.NoDivisor f) (na0 : NoAttr K c.NoDivisor "found") : FnOk P w K mg base CX0 1 f fd ["self", "found"] (spXN ["found"] c.NoDivisor) := by
  refine F.ok sc_NoDivisor___init__ (fun vs H Q E h => ?_) (fun cdv A outer s H vs Q E hr h => ?_)
  · obtain ⟨e, t, us, rfl, hl, _⟩ := h
    rw [List.length_cons, hl]
    rfl
  obtain ⟨e, t, us, rfl, hl, he, q⟩ := h
  obtain ⟨v, rfl⟩ := len1 hl
  refine ⟨_, (pss_one (ps_xs1 (pv 0) (pv 1) rfl)), ?_⟩
  exact ⟨_, rfl, _, rfl, e, c.NoDivisor, t, _, rfl, he, xc, na0, fun d hd hne => q d _ _ hd hne (by rw [upd_ne hne]; exact upd_same) (fun _ => rfl) upd_same (fun b b1 b2 => by rw [upd_ne b2, upd_ne b1])⟩
theorem ok_NoForm___init__ {f : Addr} {fd : FuncData} (F : Fun K "__init__" "NoForm.__init__" s_NoForm___init__ f fd) (T : Txt K mg c)  (xc : XCl K c.NoForm f) (na0 : NoAttr K c.NoForm "found") : FnOk P w K mg base CX0 1 f fd ["self", "found"] (spXN ["found"] c.NoForm) := by
  refine F.ok sc_NoForm___init__ (fun vs H Q E h => ?_) (fun cdv A outer s H vs Q E hr h => ?_)
  · obtain ⟨e, t, us, rfl, hl, _⟩ := h
    rw [List.length_cons, hl]
    rfl
  obtain ⟨e, t, us, rfl, hl, he, q⟩ := h
  obtain ⟨v, rfl⟩ := len1 hl
  refine ⟨_, (pss_one (ps_xs1 (pv 0) (pv 1) rfl)), ?_⟩
  exact ⟨_, rfl, _, rfl, e, c.NoForm, t, _, rfl, he, xc, na0, fun d hd hne => q d _ _ hd hne (by rw [upd_ne hne]; exact upd_same) (fun _ => rfl) upd_same (fun b b1 b2 => by rw [upd_ne b2, upd_ne b1])⟩
theorem ok_NoLine___init__ {f : Addr} {fd : FuncData} (F : Fun K "__init__" "NoLine.__init__" s_NoLine___init__ f fd) (T : Txt K mg c)  (xc : XCl K c.NoLine f) (na0 : NoAttr K c.NoLine "found") : FnOk P w K mg base CX0 1 f fd ["self", "found"] (spXN ["found"] c.NoLine) := by
  refine F.ok sc_NoLine___init__ (fun vs H Q E h => ?_) (fun cdv A outer s H vs Q E hr h => ?_)
  · obtain ⟨e, t, us, rfl, hl, _⟩ := h
    rw [List.length_cons, hl]
    rfl
  obtain ⟨e, t, us, rfl, hl, he, q⟩ := h
  obtain ⟨v, rfl⟩ := len1 hl
  refine ⟨_, (pss_one (ps_xs1 (pv 0) (pv 1) rfl)), ?_⟩
  exact ⟨_, rfl, _, rfl, e, c.NoLine, t, _, rfl, he, xc, na0, fun d hd hne => q d _ _ hd hne (by rw [upd_ne hne]; exact upd_same) (fun _ => rfl) upd_same (fun b b1 b2 => by rw [upd_ne b2, upd_ne b1])⟩
theorem ok_NoLong___init__ {f : Addr} {fd : FuncData} (F : Fun K "__init__" "NoLong.__init__" s_NoLong___init__ f fd) (T : Txt K mg c)  (xc : XCl K c.NoLong f) (na0 : NoAttr K c.NoLong "found") : FnOk P w K mg base CX0 1 f fd ["self", "found"] (spXN ["found"] c.NoLong) := by
  refine F.ok sc_NoLong___init__ (fun vs H Q E h => ?_) (fun cdv A outer s H vs Q E hr h => ?_)
  · obtain ⟨e, t, us, rfl, hl, _⟩ := h
    rw [List.length_cons, hl]
    rfl
  obtain ⟨e, t, us, rfl, hl, he, q⟩ := h
  obtain ⟨v, rfl⟩ := len1 hl
  refine ⟨_, (pss_one (ps_xs1 (pv 0) (pv 1) rfl)), ?_⟩
  exact ⟨_, rfl, _, rfl, e, c.NoLong, t, _, rfl, he, xc, na0, fun d hd hne => q d _ _ hd hne (by rw [upd_ne hne]; exact upd_same) (fun _ => rfl) upd_same (fun b b1 b2 => by rw [upd_ne b2, upd_ne b1])⟩
theorem ok_NoPrices___init__ {f : Addr} {fd : FuncData} (F : Fun K "__init__" "NoPrices.__init__" s_NoPrices___init__ f fd) (T : Txt K mg c)  (xc : XCl K c.NoPrices f) (na0 : NoAttr K c.NoPrices "found") : FnOk P w K mg base CX0 1 f fd ["self", "found"] (spXN ["found"] c.NoPrices) := by
  refine F.ok sc_NoPrices___init__ (fun vs H Q E h => ?_) (fun cdv A outer s H vs Q E hr h => ?_)
  · obtain ⟨e, t, us, rfl, hl, _⟩ := h
    rw [List.length_cons, hl]
    rfl
  obtain ⟨e, t, us, rfl, hl, he, q⟩ := h
  obtain ⟨v, rfl⟩ := len1 hl
  refine ⟨_, (pss_one (ps_xs1 (pv 0) (pv 1) rfl)), ?_⟩
  exact ⟨_, rfl, _, rfl, e, c.NoPrices, t, _, rfl, he, xc, na0, fun d hd hne => q d _ _ hd hne (by rw [upd_ne hne]; exact upd_same) (fun _ => rfl) upd_same (fun b b1 b2 => by rw [upd_ne b2, upd_ne b1])⟩
theorem ok_NoDesk___init__ {f : Addr} {fd : FuncData} (F : Fun K "__init__" "NoDesk.__init__" s_NoDesk___init__ f fd) (T : Txt K mg c)  (xc : XCl K c.NoDesk f) (na0 : NoAttr K c.NoDesk "found") : FnOk P w K mg base CX0 1 f fd ["self", "found"] (spXN ["found"] c.NoDesk) := by
  refine F.ok sc_NoDesk___init__ (fun vs H Q E h => ?_) (fun cdv A outer s H vs Q E hr h => ?_)
  · obtain ⟨e, t, us, rfl, hl, _⟩ := h
    rw [List.length_cons, hl]
    rfl
  obtain ⟨e, t, us, rfl, hl, he, q⟩ := h
  obtain ⟨v, rfl⟩ := len1 hl
  refine ⟨_, (pss_one (ps_xs1 (pv 0) (pv 1) rfl)), ?_⟩
  exact ⟨_, rfl, _, rfl, e, c.NoDesk, t, _, rfl, he, xc, na0, fun d hd hne => q d _ _ hd hne (by rw [upd_ne hne]; exact upd_same) (fun _ => rfl) upd_same (fun b b1 b2 => by rw [upd_ne b2, upd_ne b1])⟩
theorem ok_NoProgram___init__ {f : Addr} {fd : FuncData} (F : Fun K "__init__" "NoProgram.__init__" s_NoProgram___init__ f fd) (T : Txt K mg c)  (xc : XCl K c.NoProgram f) (na0 : NoAttr K c.NoProgram "line") : FnOk P w K mg base CX0 1 f fd ["self", "line"] (spXN ["line"] c.NoProgram) := by
  refine F.ok sc_NoProgram___init__ (fun vs H Q E h => ?_) (fun cdv A outer s H vs Q E hr h => ?_)
  · obtain ⟨e, t, us, rfl, hl, _⟩ := h
    rw [List.length_cons, hl]
    rfl
  obtain ⟨e, t, us, rfl, hl, he, q⟩ := h
  obtain ⟨v, rfl⟩ := len1 hl
  refine ⟨_, (pss_one (ps_xs1 (pv 0) (pv 1) rfl)), ?_⟩
  exact ⟨_, rfl, _, rfl, e, c.NoProgram, t, _, rfl, he, xc, na0, fun d hd hne => q d _ _ hd hne (by rw [upd_ne hne]; exact upd_same) (fun _ => rfl) upd_same (fun b b1 b2 => by rw [upd_ne b2, upd_ne b1])⟩
theorem ok_TooMuch___init__ {f : Addr} {fd : FuncData} (F : Fun K "__init__" "TooMuch.__init__" s_TooMuch___init__ f fd) (T : Txt K mg c)  (xc : XCl K c.TooMuch f) (na0 : NoAttr K c.TooMuch "line") : FnOk P w K mg base CX0 1 f fd ["self", "line"] (spXN ["line"] c.TooMuch) := by
  refine F.ok sc_TooMuch___init__ (fun vs H Q E h => ?_) (fun cdv A outer s H vs Q E hr h => ?_)
  · obtain ⟨e, t, us, rfl, hl, _⟩ := h
    rw [List.length_cons, hl]
    rfl
  obtain ⟨e, t, us, rfl, hl, he, q⟩ := h
  obtain ⟨v, rfl⟩ := len1 hl
  refine ⟨_, (pss_one (ps_xs1 (pv 0) (pv 1) rfl)), ?_⟩
  exact ⟨_, rfl, _, rfl, e, c.TooMuch, t, _, rfl, he, xc, na0, fun d hd hne => q d _ _ hd hne (by rw [upd_ne hne]; exact upd_same) (fun _ => rfl) upd_same (fun b b1 b2 => by rw [upd_ne b2, upd_ne b1])⟩
theorem ok_Unknown___init__ {f : Addr} {fd : FuncData} (F : Fun K "__init__" "Unknown.__init__" s_Unknown___init__ f fd) (T : Txt K mg c)  (xc : XCl K c.Unknown f) (na0 : NoAttr K c.Unknown "line") (na1 : NoAttr K c.Unknown "name") : FnOk P w K mg base CX0 1 f fd ["self", "line", "name"] (spXN ["line", "name"] c.Unknown) := by
  refine F.ok sc_Unknown___init__ (fun vs H Q E h => ?_) (fun cdv A outer s H vs Q E hr h => ?_)
  · obtain ⟨e, t, us, rfl, hl, _⟩ := h
    rw [List.length_cons, hl]
    rfl
  obtain ⟨e, t, us, rfl, hl, he, q⟩ := h
  obtain ⟨v, u, rfl⟩ := len2 hl
  refine ⟨_, (pss_cons (ps_xs1 (pv 0) (pv 1) rfl)
    (pss_one (ps_xs2 (pv 0) (pv 2) rfl))), ?_⟩
  refine ⟨_, rfl, _, rfl, e, c.Unknown, t, _, rfl, he, xc, na0, fun d hd hne => ?_⟩
  exact ⟨_, rfl, _, rfl, e, c.Unknown, t, _, d, _, rfl, upd_same, (by rw [upd_ne hne]; exact upd_same), xc, na1, (by show 1 ≤ 100; decide), q d _ _ hd hne upd_same (fun z => lk_swap (by decide +kernel) z) (by rw [upd_ne (Ne.symm hne)]; exact upd_same) (fun b b1 b2 => by rw [upd_ne b1, upd_ne b2, upd_ne b1])⟩
theorem ok_WrongKind___init__ {f : Addr} {fd : FuncData} (F : Fun K "__init__" "WrongKind.__init__" s_WrongKind___init__ f fd) (T : Txt K mg c)  (xc : XCl K c.WrongKind f) (na0 : NoAttr K c.WrongKind "line") (na1 : NoAttr K c.WrongKind "name") : FnOk P w K mg base CX0 1 f fd ["self", "line", "name"] (spXN ["line", "name"] c.WrongKind) := by
  refine F.ok sc_WrongKind___init__ (fun vs H Q E h => ?_) (fun cdv A outer s H vs Q E hr h => ?_)
  · obtain ⟨e, t, us, rfl, hl, _⟩ := h
    rw [List.length_cons, hl]
    rfl
  obtain ⟨e, t, us, rfl, hl, he, q⟩ := h
  obtain ⟨v, u, rfl⟩ := len2 hl
  refine ⟨_, (pss_cons (ps_xs1 (pv 0) (pv 1) rfl)
    (pss_one (ps_xs2 (pv 0) (pv 2) rfl))), ?_⟩
  refine ⟨_, rfl, _, rfl, e, c.WrongKind, t, _, rfl, he, xc, na0, fun d hd hne => ?_⟩
  exact ⟨_, rfl, _, rfl, e, c.WrongKind, t, _, d, _, rfl, upd_same, (by rw [upd_ne hne]; exact upd_same), xc, na1, (by show 1 ≤ 100; decide), q d _ _ hd hne upd_same (fun z => lk_swap (by decide +kernel) z) (by rw [upd_ne (Ne.symm hne)]; exact upd_same) (fun b b1 b2 => by rw [upd_ne b1, upd_ne b2, upd_ne b1])⟩
theorem ok_Twice___init__ {f : Addr} {fd : FuncData} (F : Fun K "__init__" "Twice.__init__" s_Twice___init__ f fd) (T : Txt K mg c)  (xc : XCl K c.Twice f) (na0 : NoAttr K c.Twice "line") (na1 : NoAttr K c.Twice "name") : FnOk P w K mg base CX0 1 f fd ["self", "line", "name"] (spXN ["line", "name"] c.Twice) := by
  refine F.ok sc_Twice___init__ (fun vs H Q E h => ?_) (fun cdv A outer s H vs Q E hr h => ?_)
  · obtain ⟨e, t, us, rfl, hl, _⟩ := h
    rw [List.length_cons, hl]
    rfl
  obtain ⟨e, t, us, rfl, hl, he, q⟩ := h
  obtain ⟨v, u, rfl⟩ := len2 hl
  refine ⟨_, (pss_cons (ps_xs1 (pv 0) (pv 1) rfl)
    (pss_one (ps_xs2 (pv 0) (pv 2) rfl))), ?_⟩
  refine ⟨_, rfl, _, rfl, e, c.Twice, t, _, rfl, he, xc, na0, fun d hd hne => ?_⟩
  exact ⟨_, rfl, _, rfl, e, c.Twice, t, _, d, _, rfl, upd_same, (by rw [upd_ne hne]; exact upd_same), xc, na1, (by show 1 ≤ 100; decide), q d _ _ hd hne upd_same (fun z => lk_swap (by decide +kernel) z) (by rw [upd_ne (Ne.symm hne)]; exact upd_same) (fun b b1 b2 => by rw [upd_ne b1, upd_ne b2, upd_ne b1])⟩
theorem ok_NoInput___init__ {f : Addr} {fd : FuncData} (F : Fun K "__init__" "NoInput.__init__" s_NoInput___init__ f fd) (T : Txt K mg c)  (xc : XCl K c.NoInput f) (na0 : NoAttr K c.NoInput "name") : FnOk P w K mg base CX0 1 f fd ["self", "name"] (spXN ["name"] c.NoInput) := by
  refine F.ok sc_NoInput___init__ (fun vs H Q E h => ?_) (fun cdv A outer s H vs Q E hr h => ?_)
  · obtain ⟨e, t, us, rfl, hl, _⟩ := h
    rw [List.length_cons, hl]
    rfl
  obtain ⟨e, t, us, rfl, hl, he, q⟩ := h
  obtain ⟨v, rfl⟩ := len1 hl
  refine ⟨_, (pss_one (ps_xs1 (pv 0) (pv 1) rfl)), ?_⟩
  exact ⟨_, rfl, _, rfl, e, c.NoInput, t, _, rfl, he, xc, na0, fun d hd hne => q d _ _ hd hne (by rw [upd_ne hne]; exact upd_same) (fun _ => rfl) upd_same (fun b b1 b2 => by rw [upd_ne b2, upd_ne b1])⟩
theorem ok_NoRegister___init__ {f : Addr} {fd : FuncData} (F : Fun K "__init__" "NoRegister.__init__" s_NoRegister___init__ f fd) (T : Txt K mg c)  (xc : XCl K c.NoRegister f) (na0 : NoAttr K c.NoRegister "name") : FnOk P w K mg base CX0 1 f fd ["self", "name"] (spXN ["name"] c.NoRegister) := by
  refine F.ok sc_NoRegister___init__ (fun vs H Q E h => ?_) (fun cdv A outer s H vs Q E hr h => ?_)
  · obtain ⟨e, t, us, rfl, hl, _⟩ := h
    rw [List.length_cons, hl]
    rfl
  obtain ⟨e, t, us, rfl, hl, he, q⟩ := h
  obtain ⟨v, rfl⟩ := len1 hl
  refine ⟨_, (pss_one (ps_xs1 (pv 0) (pv 1) rfl)), ?_⟩
  exact ⟨_, rfl, _, rfl, e, c.NoRegister, t, _, rfl, he, xc, na0, fun d hd hne => q d _ _ hd hne (by rw [upd_ne hne]; exact upd_same) (fun _ => rfl) upd_same (fun b b1 b2 => by rw [upd_ne b2, upd_ne b1])⟩
theorem ok_NoRow___init__ {f : Addr} {fd : FuncData} (F : Fun K "__init__" "NoRow.__init__" s_NoRow___init__ f fd) (T : Txt K mg c)  (xc : XCl K c.NoRow f) (na0 : NoAttr K c.NoRow "place") : FnOk P w K mg base CX0 1 f fd ["self", "place"] (spXN ["place"] c.NoRow) := by
  refine F.ok sc_NoRow___init__ (fun vs H Q E h => ?_) (fun cdv A outer s H vs Q E hr h => ?_)
  · obtain ⟨e, t, us, rfl, hl, _⟩ := h
    rw [List.length_cons, hl]
    rfl
  obtain ⟨e, t, us, rfl, hl, he, q⟩ := h
  obtain ⟨v, rfl⟩ := len1 hl
  refine ⟨_, (pss_one (ps_xs1 (pv 0) (pv 1) rfl)), ?_⟩
  exact ⟨_, rfl, _, rfl, e, c.NoRow, t, _, rfl, he, xc, na0, fun d hd hne => q d _ _ hd hne (by rw [upd_ne hne]; exact upd_same) (fun _ => rfl) upd_same (fun b b1 b2 => by rw [upd_ne b2, upd_ne b1])⟩
theorem ok__law_cell {f : Addr} {fd : FuncData} (F : Fun K "_law_cell" "_law_cell" s__law_cell f fd) (T : Txt K mg c)  : FnOk P w K mg base CX0 1 f fd ["_law_script", "_law_k"] (spCell K) := by
  refine F.ok sc__law_cell (fun vs H Q E h => ?_) (fun cdv A outer s H vs Q E hr h => ?_)
  · obtain ⟨a, ns, k, rfl, _⟩ := h
    rfl
  obtain ⟨a, ns, k, rfl, hS, h0, q⟩ := h
  refine ⟨_, (pss_cons (ps_if (pt_cmpR op_lt (pv 1) (pe_callB call_len_seq rfl T.n_len boot_len (pa_cons (pv 0) pa_nil)) (nomark _))
      (pss_one (ps_ret (pe_ix ix_list (pv 0) (pv 1) (fun _ _ => rfl))))
      pss_nil)
    (pss_one (ps_ret (pe_op op_add (pe_op op_mul pe_int (pv 1)) pe_int)))), ?_⟩
  have hl : (ns.map V.int).length = ns.length := List.length_map _
  refine ⟨_, rfl, _, rfl, a, _, rfl, .inl hS, _, _, rfl, rfl, _, rfl, ?_⟩
  by_cases hc : k < (((ns.map V.int).length : Nat) : Int)
  · refine iteD hc ?_
    rw [hl] at hc
    have e : k = ((k.toNat : Nat) : Int) := by omega
    have g := getI ns k.toNat (by omega)
    rw [← e] at g
    exact ⟨_, rfl, _, rfl, a, _, _, _, rfl, rfl, hS, g, q _⟩
  · refine iteDN hc ?_
    exact ⟨_, rfl, _, _, rfl, rfl, .inl ⟨by decide, by decide⟩, _, _, rfl, rfl, q _⟩
theorem ok__law_box {f : Addr} {fd : FuncData} (F : Fun K "_law_box" "_law_box" s__law_box f fd) (T : Txt K mg c)  : FnOk P w K mg base CX0 1 f fd ["_law_cell_here"] spBox := by
  refine F.ok sc__law_box (fun vs H Q E h => ?_) (fun cdv A outer s H vs Q E hr h => ?_)
  · obtain ⟨c, rfl, _⟩ := h
    rfl
  obtain ⟨c, rfl, q⟩ := h
  refine ⟨_, (pss_one (ps_ret (pe_lst (pa_cons (pe_callB (call_max2 rfl) rfl T.n_max boot_max (pa_cons pe_int (pa_cons (pe_op op_sub (pv 0) (pe_op op_pow pe_int pe_int)) pa_nil))) (pa_cons (pe_op op_mod (pv 0) pe_int) (pa_cons pe_int pa_nil)))))), ?_⟩
  refine ⟨_, rfl, _, _, rfl, rfl, ⟨by decide, by decide, by decide⟩, _, _, rfl, rfl, _, _, rfl, ?_⟩
  refine ⟨_, rfl, _, _, rfl, rfl, (by show (0 : Int) < 2147483647; decide), (by show 3 ≤ sizeLine; decide), fun p hp => ?_⟩
  exact q p _ hp ⟨_, _, _, upd_same⟩ (same_new hp _)
theorem ok__law_take {f : Addr} {fd : FuncData} (F : Fun K "_law_take" "_law_take" s__law_take f fd) (T : Txt K mg c)  : FnOk P w K mg base CX0 1 f fd ["_law_box_here", "_law_many"] spTake := by
  refine F.ok sc__law_take (fun vs H Q E h => ?_) (fun cdv A outer s H vs Q E hr h => ?_)
  · obtain ⟨p, m, rfl, _⟩ := h
    rfl
  obtain ⟨p, m, rfl, ⟨r, s1, c, hp⟩, h1, h2, q⟩ := h
  refine ⟨_, (pss_cons (ps_if (pt_cmpR op_gt (pe_ix ix_list (pv 0) pe_int (fun _ _ => rfl)) pe_int (nomark _))
      (pss_cons (ps_set (i := 2) sc__law_take.nd rfl (Or.inl rfl) (pe_op op_mod (pe_ix ix_list (pv 0) pe_int (fun _ _ => rfl)) (pv 1)))
      (pss_cons (ps_asg (pe_op op_fdivB (pe_ix ix_list (pv 0) pe_int (fun _ _ => rfl)) (pv 1)) (pg_sub (pv 0) pe_int set_list))
      (pss_one (ps_ret (pv 2)))))
      pss_nil)
    (pss_cons (ps_asg (pe_op op_add (pe_ix ix_list (pv 0) pe_int (fun _ _ => rfl)) pe_int) (pg_sub (pv 0) pe_int set_list))
    (pss_cons (ps_set (i := 3) sc__law_take.nd rfl (Or.inl rfl) (pe_op op_mod (pe_op op_mul (pe_op op_add (pe_op op_add (pe_ix ix_list (pv 0) pe_int (fun _ _ => rfl)) (pe_op op_mul pe_int (pe_ix ix_list (pv 0) pe_int (fun _ _ => rfl)))) pe_int) pe_int) pe_int))
    (pss_cons (ps_set (i := 3) sc__law_take.nd rfl (Or.inl rfl) (pe_op op_mod (pe_op op_add (pe_op op_add (pe_op op_mul (pv 3) (pv 3)) (pe_op op_mul pe_int (pe_ix ix_list (pv 0) pe_int (fun _ _ => rfl)))) pe_int) pe_int))
    (pss_one (ps_ret (pe_op op_mod (pe_op op_fdivB (pe_op op_mod (pe_op op_mul (pv 3) (pe_op op_add (pv 3) pe_int)) pe_int) pe_int) (pv 1)))))))), ?_⟩
  refine ⟨_, rfl, p, _, _, _, rfl, rfl, SqL.of hp, rfl, _, _, rfl, rfl, _, rfl, ?_⟩
  by_cases hc : 0 < r
  · refine iteD hc ?_
    refine ⟨_, rfl, p, _, _, _, rfl, rfl, SqL.of hp, rfl, _, rfl, _, _, rfl, rfl, h1, ?_⟩
    refine ⟨_, rfl, p, _, _, _, rfl, rfl, SqL.of hp, rfl, _, rfl, _, _, rfl, rfl, ⟨h1, log_small h1 h2⟩, ?_⟩
    refine ⟨_, rfl, p, _, _, _, rfl, rfl, hp, rfl, ?_⟩
    refine ⟨_, rfl, ?_⟩
    exact q _ _ (Int.emod_nonneg _ (by omega)) (Int.emod_lt_of_pos _ h1) ⟨_, _, _, upd_same⟩ SameX.upd
  · refine iteDN hc ?_
    refine ⟨_, rfl, p, _, _, _, rfl, rfl, SqL.of hp, rfl, _, _, rfl, rfl, ?_⟩
    refine ⟨_, rfl, p, _, _, _, rfl, rfl, hp, rfl, ?_⟩
    refine ⟨_, rfl, p, _, _, _, rfl, rfl, SqL.of upd_same, rfl, _, rfl, p, _, _, _, rfl, rfl, SqL.of upd_same, rfl, _, _, rfl, rfl, .inl ⟨by decide, by decide⟩, _, _, rfl, rfl, _, _, rfl, rfl, _, _, rfl, rfl, .inr ⟨by decide, by decide⟩, _, _, rfl, rfl, (by show (0 : Int) < 2147483629; decide), ?_⟩
    refine ⟨_, rfl, _, rfl, _, _, rfl, rfl, cmul_mod (by decide) (by decide), _, rfl, p, _, _, _, rfl, rfl, SqL.of upd_same, rfl, _, _, rfl, rfl, .inl ⟨by decide, by decide⟩, _, _, rfl, rfl, _, _, rfl, rfl, _, _, rfl, rfl, (by show (0 : Int) < 2147483587; decide), ?_⟩
    refine ⟨_, rfl, _, rfl, _, _, rfl, rfl, _, _, rfl, rfl, cmul_mod (by decide) (by decide), _, _, rfl, rfl, (by show (0 : Int) < 2147483647; decide), _, _, rfl, rfl, ⟨by decide, by decide⟩, _, rfl, _, _, rfl, rfl, h1, ?_⟩
    exact q _ _ (Int.emod_nonneg _ (by omega)) (Int.emod_lt_of_pos _ h1) ⟨_, _, _, upd_same⟩ SameX.upd
theorem ok__law_made {f : Addr} {fd : FuncData} (F : Fun K "_law_made" "_law_made" s__law_made f fd) (T : Txt K mg c)  (XS : XMs P w K mg base c) : FnOk P w K mg base CX0 3 f fd ["_law_one", "_law_other"] (spMade c) := by
  refine F.ok sc__law_made (fun vs H Q E h => ?_) (fun cdv A outer s H vs Q E hr h => ?_)
  · obtain ⟨x, y, rfl, _⟩ := h
    rfl
  obtain ⟨x, y, rfl, q⟩ := h
  refine ⟨_, (pss_cons (ps_set (i := 2) sc__law_made.nd rfl (Or.inl rfl) (pe_lst (pa_consN (pe_mkX XS.NoWidth (hr.mono (by omega)) rfl (pa_cons (pv 0) pa_nil)) (pa_consN (pe_mkX XS.NoWord (hr.mono (by omega)) rfl (pa_cons (pv 0) pa_nil)) (pa_consN (pe_mkX XS.NoKind (hr.mono (by omega)) rfl (pa_cons (pv 0) pa_nil)) (pa_consN (pe_mkX XS.NoText (hr.mono (by omega)) rfl (pa_cons (pv 0) pa_nil)) (pa_consN (pe_mkX XS.NoWay (hr.mono (by omega)) rfl (pa_cons (pv 0) pa_nil)) (pa_consN (pe_mkX XS.NoFraction (hr.mono (by omega)) rfl (pa_cons (pv 0) pa_nil)) (pa_consN (pe_mkX XS.NoDivisor (hr.mono (by omega)) rfl (pa_cons (pv 0) pa_nil)) pa_nil)))))))))
    (pss_cons (ps_set (i := 2) sc__law_made.nd rfl (Or.inl rfl) (pe_op op_addL (pv 2) (pe_lst (pa_consN (pe_mkX XS.NoForm (hr.mono (by omega)) rfl (pa_cons (pv 0) pa_nil)) (pa_consN (pe_mkX XS.NoLine (hr.mono (by omega)) rfl (pa_cons (pv 0) pa_nil)) (pa_consN (pe_mkX XS.NoLong (hr.mono (by omega)) rfl (pa_cons (pv 0) pa_nil)) (pa_consN (pe_mkX XS.NoPrices (hr.mono (by omega)) rfl (pa_cons (pv 0) pa_nil)) (pa_consN (pe_mkX XS.NoDesk (hr.mono (by omega)) rfl (pa_cons (pv 0) pa_nil)) (pa_consN (pe_mkX XS.NoProgram (hr.mono (by omega)) rfl (pa_cons (pv 0) pa_nil)) (pa_consN (pe_mkX XS.TooMuch (hr.mono (by omega)) rfl (pa_cons (pv 0) pa_nil)) pa_nil))))))))))
    (pss_cons (ps_set (i := 2) sc__law_made.nd rfl (Or.inl rfl) (pe_op op_addL (pv 2) (pe_lst (pa_cons (pe_mkX XS.Unknown (hr.mono (by omega)) rfl (pa_cons (pv 0) (pa_cons (pv 1) pa_nil))) (pa_cons (pe_mkX XS.WrongKind (hr.mono (by omega)) rfl (pa_cons (pv 0) (pa_cons (pv 1) pa_nil))) (pa_cons (pe_mkX XS.Twice (hr.mono (by omega)) rfl (pa_cons (pv 0) (pa_cons (pv 1) pa_nil))) (pa_cons (pe_mkX XS.NoInput (hr.mono (by omega)) rfl (pa_cons (pv 0) pa_nil)) (pa_cons (pe_mkX XS.NoRegister (hr.mono (by omega)) rfl (pa_cons (pv 0) pa_nil)) pa_nil))))))))
    (pss_one (ps_ret (pe_op op_addL (pv 2) (pe_lst (pa_cons (pe_mkX XS.NoRow (hr.mono (by omega)) rfl (pa_cons (pv 0) pa_nil)) (pa_cons (pe_mkX0 rfl T.g_Lesser T.kf_exc_Lesser T.kf_kp_Lesser) (pa_cons (pe_mkX0 rfl T.g_NothingBy T.kf_exc_NothingBy T.kf_kp_NothingBy) pa_nil)))))))))), ?_⟩
  refine ⟨_, rfl, rfl, (by show 1 ≤ 100; decide), fun e0 g0 H0 s0 x0 l0 => ?_⟩
  refine ⟨_, rfl, rfl, (by show 1 ≤ 100; decide), fun e1 g1 H1 s1 x1 l1 => ?_⟩
  refine ⟨_, rfl, rfl, (by show 1 ≤ 100; decide), fun e2 g2 H2 s2 x2 l2 => ?_⟩
  refine ⟨_, rfl, rfl, (by show 1 ≤ 100; decide), fun e3 g3 H3 s3 x3 l3 => ?_⟩
  refine ⟨_, rfl, rfl, (by show 1 ≤ 100; decide), fun e4 g4 H4 s4 x4 l4 => ?_⟩
  refine ⟨_, rfl, rfl, (by show 1 ≤ 100; decide), fun e5 g5 H5 s5 x5 l5 => ?_⟩
  refine ⟨_, rfl, rfl, (by show 1 ≤ 100; decide), fun e6 g6 H6 s6 x6 l6 => ?_⟩
  refine ⟨(by show 7 ≤ sizeLine; decide), fun p0 hp0 => ?_⟩
  have t0 := same_new hp0 (.lst [.ref e0, .ref e1, .ref e2, .ref e3, .ref e4, .ref e5, .ref e6])
  have f0 : upd H6 p0 (.lst [.ref e0, .ref e1, .ref e2, .ref e3, .ref e4, .ref e5, .ref e6]) p0 = some (.lst [.ref e0, .ref e1, .ref e2, .ref e3, .ref e4, .ref e5, .ref e6]) := upd_same
  generalize upd H6 p0 (.lst [.ref e0, .ref e1, .ref e2, .ref e3, .ref e4, .ref e5, .ref e6]) = G0 at t0 f0 ⊢
  refine ⟨_, rfl, ?_⟩
  refine ⟨_, rfl, rfl, (by show 1 ≤ 100; decide), fun e7 g7 H7 s7 x7 l7 => ?_⟩
  refine ⟨_, rfl, rfl, (by show 1 ≤ 100; decide), fun e8 g8 H8 s8 x8 l8 => ?_⟩
  refine ⟨_, rfl, rfl, (by show 1 ≤ 100; decide), fun e9 g9 H9 s9 x9 l9 => ?_⟩
  refine ⟨_, rfl, rfl, (by show 1 ≤ 100; decide), fun e10 g10 H10 s10 x10 l10 => ?_⟩
  refine ⟨_, rfl, rfl, (by show 1 ≤ 100; decide), fun e11 g11 H11 s11 x11 l11 => ?_⟩
  refine ⟨_, rfl, rfl, (by show 1 ≤ 100; decide), fun e12 g12 H12 s12 x12 l12 => ?_⟩
  refine ⟨_, rfl, rfl, (by show 1 ≤ 100; decide), fun e13 g13 H13 s13 x13 l13 => ?_⟩
  refine ⟨(by show 7 ≤ sizeLine; decide), fun p1 hp1 => ?_⟩
  have t1 := same_new hp1 (.lst [.ref e7, .ref e8, .ref e9, .ref e10, .ref e11, .ref e12, .ref e13])
  have f1 : upd H13 p1 (.lst [.ref e7, .ref e8, .ref e9, .ref e10, .ref e11, .ref e12, .ref e13]) p1 = some (.lst [.ref e7, .ref e8, .ref e9, .ref e10, .ref e11, .ref e12, .ref e13]) := upd_same
  generalize upd H13 p1 (.lst [.ref e7, .ref e8, .ref e9, .ref e10, .ref e11, .ref e12, .ref e13]) = G1 at t1 f1 ⊢
  have u1 := (((((((s7).trans s8).trans s9).trans s10).trans s11).trans s12).trans s13).trans t1
  refine ⟨p0, p1, _, _, rfl, rfl, SqL.of (u1 _ _ f0), SqL.of f1, (by show 14 ≤ sizeLine; decide), fun b1 hb1 => ?_⟩
  have w1 := same_new hb1 (.lst [.ref e0, .ref e1, .ref e2, .ref e3, .ref e4, .ref e5, .ref e6, .ref e7, .ref e8, .ref e9, .ref e10, .ref e11, .ref e12, .ref e13])
  have h1 : upd G1 b1 (.lst [.ref e0, .ref e1, .ref e2, .ref e3, .ref e4, .ref e5, .ref e6, .ref e7, .ref e8, .ref e9, .ref e10, .ref e11, .ref e12, .ref e13]) b1 = some (.lst [.ref e0, .ref e1, .ref e2, .ref e3, .ref e4, .ref e5, .ref e6, .ref e7, .ref e8, .ref e9, .ref e10, .ref e11, .ref e12, .ref e13]) := upd_same
  replace w1 : Same G1 (upd G1 b1 (.lst ([.ref e0, .ref e1, .ref e2, .ref e3, .ref e4, .ref e5, .ref e6] ++ [.ref e7, .ref e8, .ref e9, .ref e10, .ref e11, .ref e12, .ref e13]))) := w1
  replace h1 : upd G1 b1 (.lst ([.ref e0, .ref e1, .ref e2, .ref e3, .ref e4, .ref e5, .ref e6] ++ [.ref e7, .ref e8, .ref e9, .ref e10, .ref e11, .ref e12, .ref e13])) b1 = some (.lst [.ref e0, .ref e1, .ref e2, .ref e3, .ref e4, .ref e5, .ref e6, .ref e7, .ref e8, .ref e9, .ref e10, .ref e11, .ref e12, .ref e13]) := h1
  generalize upd G1 b1 (.lst ([.ref e0, .ref e1, .ref e2, .ref e3, .ref e4, .ref e5, .ref e6] ++ [.ref e7, .ref e8, .ref e9, .ref e10, .ref e11, .ref e12, .ref e13])) = K1 at w1 h1 ⊢
  refine ⟨_, rfl, ?_⟩
  refine ⟨_, rfl, _, rfl, rfl, (by show 2 ≤ 100; decide), fun e14 g14 H14 s14 x14 l14 => ?_⟩
  refine ⟨_, rfl, _, rfl, rfl, (by show 2 ≤ 100; decide), fun e15 g15 H15 s15 x15 l15 => ?_⟩
  refine ⟨_, rfl, _, rfl, rfl, (by show 2 ≤ 100; decide), fun e16 g16 H16 s16 x16 l16 => ?_⟩
  refine ⟨_, rfl, rfl, (by show 1 ≤ 100; decide), fun e17 g17 H17 s17 x17 l17 => ?_⟩
  refine ⟨_, rfl, rfl, (by show 1 ≤ 100; decide), fun e18 g18 H18 s18 x18 l18 => ?_⟩
  refine ⟨(by show 5 ≤ sizeLine; decide), fun p2 hp2 => ?_⟩
  have t2 := same_new hp2 (.lst [.ref e14, .ref e15, .ref e16, .ref e17, .ref e18])
  have f2 : upd H18 p2 (.lst [.ref e14, .ref e15, .ref e16, .ref e17, .ref e18]) p2 = some (.lst [.ref e14, .ref e15, .ref e16, .ref e17, .ref e18]) := upd_same
  generalize upd H18 p2 (.lst [.ref e14, .ref e15, .ref e16, .ref e17, .ref e18]) = G2 at t2 f2 ⊢
  have u2 := (((((s14).trans s15).trans s16).trans s17).trans s18).trans t2
  refine ⟨b1, p2, _, _, rfl, rfl, SqL.of (u2 _ _ h1), SqL.of f2, (by show 19 ≤ sizeLine; decide), fun b2 hb2 => ?_⟩
  have w2 := same_new hb2 (.lst [.ref e0, .ref e1, .ref e2, .ref e3, .ref e4, .ref e5, .ref e6, .ref e7, .ref e8, .ref e9, .ref e10, .ref e11, .ref e12, .ref e13, .ref e14, .ref e15, .ref e16, .ref e17, .ref e18])
  have h2 : upd G2 b2 (.lst [.ref e0, .ref e1, .ref e2, .ref e3, .ref e4, .ref e5, .ref e6, .ref e7, .ref e8, .ref e9, .ref e10, .ref e11, .ref e12, .ref e13, .ref e14, .ref e15, .ref e16, .ref e17, .ref e18]) b2 = some (.lst [.ref e0, .ref e1, .ref e2, .ref e3, .ref e4, .ref e5, .ref e6, .ref e7, .ref e8, .ref e9, .ref e10, .ref e11, .ref e12, .ref e13, .ref e14, .ref e15, .ref e16, .ref e17, .ref e18]) := upd_same
  replace w2 : Same G2 (upd G2 b2 (.lst ([.ref e0, .ref e1, .ref e2, .ref e3, .ref e4, .ref e5, .ref e6, .ref e7, .ref e8, .ref e9, .ref e10, .ref e11, .ref e12, .ref e13] ++ [.ref e14, .ref e15, .ref e16, .ref e17, .ref e18]))) := w2
  replace h2 : upd G2 b2 (.lst ([.ref e0, .ref e1, .ref e2, .ref e3, .ref e4, .ref e5, .ref e6, .ref e7, .ref e8, .ref e9, .ref e10, .ref e11, .ref e12, .ref e13] ++ [.ref e14, .ref e15, .ref e16, .ref e17, .ref e18])) b2 = some (.lst [.ref e0, .ref e1, .ref e2, .ref e3, .ref e4, .ref e5, .ref e6, .ref e7, .ref e8, .ref e9, .ref e10, .ref e11, .ref e12, .ref e13, .ref e14, .ref e15, .ref e16, .ref e17, .ref e18]) := h2
  generalize upd G2 b2 (.lst ([.ref e0, .ref e1, .ref e2, .ref e3, .ref e4, .ref e5, .ref e6, .ref e7, .ref e8, .ref e9, .ref e10, .ref e11, .ref e12, .ref e13] ++ [.ref e14, .ref e15, .ref e16, .ref e17, .ref e18])) = K2 at w2 h2 ⊢
  refine ⟨_, rfl, ?_⟩
  refine ⟨_, rfl, rfl, (by show 1 ≤ 100; decide), fun e19 g19 H19 s19 x19 l19 => ?_⟩
  refine fun e20 H20 s20 x20 => ?_
  refine fun e21 H21 s21 x21 => ?_
  refine ⟨(by show 3 ≤ sizeLine; decide), fun p3 hp3 => ?_⟩
  have t3 := same_new hp3 (.lst [.ref e19, .ref e20, .ref e21])
  have f3 : upd H21 p3 (.lst [.ref e19, .ref e20, .ref e21]) p3 = some (.lst [.ref e19, .ref e20, .ref e21]) := upd_same
  generalize upd H21 p3 (.lst [.ref e19, .ref e20, .ref e21]) = G3 at t3 f3 ⊢
  have u3 := (((s19).trans s20).trans s21).trans t3
  refine ⟨b2, p3, _, _, rfl, rfl, SqL.of (u3 _ _ h2), SqL.of f3, (by show 22 ≤ sizeLine; decide), fun b3 hb3 => ?_⟩
  have w3 := same_new hb3 (.lst [.ref e0, .ref e1, .ref e2, .ref e3, .ref e4, .ref e5, .ref e6, .ref e7, .ref e8, .ref e9, .ref e10, .ref e11, .ref e12, .ref e13, .ref e14, .ref e15, .ref e16, .ref e17, .ref e18, .ref e19, .ref e20, .ref e21])
  have h3 : upd G3 b3 (.lst [.ref e0, .ref e1, .ref e2, .ref e3, .ref e4, .ref e5, .ref e6, .ref e7, .ref e8, .ref e9, .ref e10, .ref e11, .ref e12, .ref e13, .ref e14, .ref e15, .ref e16, .ref e17, .ref e18, .ref e19, .ref e20, .ref e21]) b3 = some (.lst [.ref e0, .ref e1, .ref e2, .ref e3, .ref e4, .ref e5, .ref e6, .ref e7, .ref e8, .ref e9, .ref e10, .ref e11, .ref e12, .ref e13, .ref e14, .ref e15, .ref e16, .ref e17, .ref e18, .ref e19, .ref e20, .ref e21]) := upd_same
  replace w3 : Same G3 (upd G3 b3 (.lst ([.ref e0, .ref e1, .ref e2, .ref e3, .ref e4, .ref e5, .ref e6, .ref e7, .ref e8, .ref e9, .ref e10, .ref e11, .ref e12, .ref e13, .ref e14, .ref e15, .ref e16, .ref e17, .ref e18] ++ [.ref e19, .ref e20, .ref e21]))) := w3
  replace h3 : upd G3 b3 (.lst ([.ref e0, .ref e1, .ref e2, .ref e3, .ref e4, .ref e5, .ref e6, .ref e7, .ref e8, .ref e9, .ref e10, .ref e11, .ref e12, .ref e13, .ref e14, .ref e15, .ref e16, .ref e17, .ref e18] ++ [.ref e19, .ref e20, .ref e21])) b3 = some (.lst [.ref e0, .ref e1, .ref e2, .ref e3, .ref e4, .ref e5, .ref e6, .ref e7, .ref e8, .ref e9, .ref e10, .ref e11, .ref e12, .ref e13, .ref e14, .ref e15, .ref e16, .ref e17, .ref e18, .ref e19, .ref e20, .ref e21]) := h3
  generalize upd G3 b3 (.lst ([.ref e0, .ref e1, .ref e2, .ref e3, .ref e4, .ref e5, .ref e6, .ref e7, .ref e8, .ref e9, .ref e10, .ref e11, .ref e12, .ref e13, .ref e14, .ref e15, .ref e16, .ref e17, .ref e18] ++ [.ref e19, .ref e20, .ref e21])) = K3 at w3 h3 ⊢
  have z28 := w3
  have z27 := (t3).trans z28
  have z26 := (s21).trans z27
  have z25 := (s20).trans z26
  have z24 := (s19).trans z25
  have z23 := (w2).trans z24
  have z22 := (t2).trans z23
  have z21 := (s18).trans z22
  have z20 := (s17).trans z21
  have z19 := (s16).trans z20
  have z18 := (s15).trans z19
  have z17 := (s14).trans z18
  have z16 := (w1).trans z17
  have z15 := (t1).trans z16
  have z14 := (s13).trans z15
  have z13 := (s12).trans z14
  have z12 := (s11).trans z13
  have z11 := (s10).trans z12
  have z10 := (s9).trans z11
  have z9 := (s8).trans z10
  have z8 := (s7).trans z9
  have z7 := (t0).trans z8
  have z6 := (s6).trans z7
  have z5 := (s5).trans z6
  have z4 := (s4).trans z5
  have z3 := (s3).trans z4
  have z2 := (s2).trans z3
  have z1 := (s1).trans z2
  have z0 := (s0).trans z1
  refine q b3 _ _ z0 h3 rfl fun i hi => ?_
  rcases (by omega : i = 0 ∨ i = 1 ∨ i = 2 ∨ i = 3 ∨ i = 4 ∨ i = 5 ∨ i = 6 ∨ i = 7 ∨ i = 8 ∨ i = 9 ∨ i = 10 ∨ i = 11 ∨ i = 12 ∨ i = 13 ∨ i = 14 ∨ i = 15 ∨ i = 16 ∨ i = 17 ∨ i = 18 ∨ i = 19 ∨ i = 20 ∨ i = 21) with rfl | rfl | rfl | rfl | rfl | rfl | rfl | rfl | rfl | rfl | rfl | rfl | rfl | rfl | rfl | rfl | rfl | rfl | rfl | rfl | rfl | rfl
  · exact ⟨e0, rfl, x0.of.same z1⟩
  · exact ⟨e1, rfl, x1.of.same z2⟩
  · exact ⟨e2, rfl, x2.of.same z3⟩
  · exact ⟨e3, rfl, x3.of.same z4⟩
  · exact ⟨e4, rfl, x4.of.same z5⟩
  · exact ⟨e5, rfl, x5.of.same z6⟩
  · exact ⟨e6, rfl, x6.of.same z7⟩
  · exact ⟨e7, rfl, x7.of.same z9⟩
  · exact ⟨e8, rfl, x8.of.same z10⟩
  · exact ⟨e9, rfl, x9.of.same z11⟩
  · exact ⟨e10, rfl, x10.of.same z12⟩
  · exact ⟨e11, rfl, x11.of.same z13⟩
  · exact ⟨e12, rfl, x12.of.same z14⟩
  · exact ⟨e13, rfl, x13.of.same z15⟩
  · exact ⟨e14, rfl, x14.of.same z18⟩
  · exact ⟨e15, rfl, x15.of.same z19⟩
  · exact ⟨e16, rfl, x16.of.same z20⟩
  · exact ⟨e17, rfl, x17.of.same z21⟩
  · exact ⟨e18, rfl, x18.of.same z22⟩
  · exact ⟨e19, rfl, x19.of.same z25⟩
  · exact ⟨e20, rfl, x20.same z26⟩
  · exact ⟨e21, rfl, x21.same z27⟩
theorem ok__law_kinds {f : Addr} {fd : FuncData} (F : Fun K "_law_kinds" "_law_kinds" s__law_kinds f fd) (T : Txt K mg c)  : FnOk P w K mg base CX0 1 f fd ["_law_e"] (spKinds c) := by
  refine F.ok sc__law_kinds (fun vs H Q E h => ?_) (fun cdv A outer s H vs Q E hr h => ?_)
  · obtain ⟨e, i, rfl, _⟩ := h
    rfl
  obtain ⟨e, i, rfl, hi, xo, q⟩ := h
  refine ⟨_, (pss_cons (ps_set (i := 1) sc__law_kinds.nd rfl (Or.inl rfl) (pe_lst (pa_cons (pe_callB call_isinstO rfl T.n_isinstance boot_isinstance (pa_cons (pv 0) (pa_cons (pe_cls rfl T.g_NoWidth) pa_nil))) (pa_cons (pe_callB call_isinstO rfl T.n_isinstance boot_isinstance (pa_cons (pv 0) (pa_cons (pe_cls rfl T.g_NoWord) pa_nil))) (pa_cons (pe_callB call_isinstO rfl T.n_isinstance boot_isinstance (pa_cons (pv 0) (pa_cons (pe_cls rfl T.g_NoKind) pa_nil))) (pa_cons (pe_callB call_isinstO rfl T.n_isinstance boot_isinstance (pa_cons (pv 0) (pa_cons (pe_cls rfl T.g_NoText) pa_nil))) pa_nil))))))
    (pss_cons (ps_set (i := 1) sc__law_kinds.nd rfl (Or.inl rfl) (pe_op op_addL (pv 1) (pe_lst (pa_cons (pe_callB call_isinstO rfl T.n_isinstance boot_isinstance (pa_cons (pv 0) (pa_cons (pe_cls rfl T.g_NoWay) pa_nil))) (pa_cons (pe_callB call_isinstO rfl T.n_isinstance boot_isinstance (pa_cons (pv 0) (pa_cons (pe_cls rfl T.g_NoFraction) pa_nil))) (pa_cons (pe_callB call_isinstO rfl T.n_isinstance boot_isinstance (pa_cons (pv 0) (pa_cons (pe_cls rfl T.g_NoDivisor) pa_nil))) (pa_cons (pe_callB call_isinstO rfl T.n_isinstance boot_isinstance (pa_cons (pv 0) (pa_cons (pe_cls rfl T.g_NoForm) pa_nil))) pa_nil)))))))
    (pss_cons (ps_set (i := 1) sc__law_kinds.nd rfl (Or.inl rfl) (pe_op op_addL (pv 1) (pe_lst (pa_cons (pe_callB call_isinstO rfl T.n_isinstance boot_isinstance (pa_cons (pv 0) (pa_cons (pe_cls rfl T.g_NoLine) pa_nil))) (pa_cons (pe_callB call_isinstO rfl T.n_isinstance boot_isinstance (pa_cons (pv 0) (pa_cons (pe_cls rfl T.g_NoLong) pa_nil))) (pa_cons (pe_callB call_isinstO rfl T.n_isinstance boot_isinstance (pa_cons (pv 0) (pa_cons (pe_cls rfl T.g_NoPrices) pa_nil))) (pa_cons (pe_callB call_isinstO rfl T.n_isinstance boot_isinstance (pa_cons (pv 0) (pa_cons (pe_cls rfl T.g_NoDesk) pa_nil))) pa_nil)))))))
    (pss_cons (ps_set (i := 1) sc__law_kinds.nd rfl (Or.inl rfl) (pe_op op_addL (pv 1) (pe_lst (pa_cons (pe_callB call_isinstO rfl T.n_isinstance boot_isinstance (pa_cons (pv 0) (pa_cons (pe_cls rfl T.g_NoProgram) pa_nil))) (pa_cons (pe_callB call_isinstO rfl T.n_isinstance boot_isinstance (pa_cons (pv 0) (pa_cons (pe_cls rfl T.g_TooMuch) pa_nil))) (pa_cons (pe_callB call_isinstO rfl T.n_isinstance boot_isinstance (pa_cons (pv 0) (pa_cons (pe_cls rfl T.g_Unknown) pa_nil))) (pa_cons (pe_callB call_isinstO rfl T.n_isinstance boot_isinstance (pa_cons (pv 0) (pa_cons (pe_cls rfl T.g_WrongKind) pa_nil))) pa_nil)))))))
    (pss_cons (ps_set (i := 1) sc__law_kinds.nd rfl (Or.inl rfl) (pe_op op_addL (pv 1) (pe_lst (pa_cons (pe_callB call_isinstO rfl T.n_isinstance boot_isinstance (pa_cons (pv 0) (pa_cons (pe_cls rfl T.g_Twice) pa_nil))) (pa_cons (pe_callB call_isinstO rfl T.n_isinstance boot_isinstance (pa_cons (pv 0) (pa_cons (pe_cls rfl T.g_NoInput) pa_nil))) (pa_cons (pe_callB call_isinstO rfl T.n_isinstance boot_isinstance (pa_cons (pv 0) (pa_cons (pe_cls rfl T.g_NoRegister) pa_nil))) (pa_cons (pe_callB call_isinstO rfl T.n_isinstance boot_isinstance (pa_cons (pv 0) (pa_cons (pe_cls rfl T.g_NoRow) pa_nil))) pa_nil)))))))
    (pss_one (ps_ret (pe_op op_addL (pv 1) (pe_lst (pa_cons (pe_callB call_isinstO rfl T.n_isinstance boot_isinstance (pa_cons (pv 0) (pa_cons (pe_cls rfl T.g_Lesser) pa_nil))) (pa_cons (pe_callB call_isinstO rfl T.n_isinstance boot_isinstance (pa_cons (pv 0) (pa_cons (pe_cls rfl T.g_NothingBy) pa_nil))) pa_nil))))))))))), ?_⟩
  have ex := T.ex i hi
  refine ⟨_, rfl, e, cOf c i, _, _, _, rfl, xo, ex, rfl, T.kit i 0 hi (by decide), ?_⟩
  refine ⟨_, rfl, e, cOf c i, _, _, _, rfl, xo, ex, rfl, T.kit i 1 hi (by decide), ?_⟩
  refine ⟨_, rfl, e, cOf c i, _, _, _, rfl, xo, ex, rfl, T.kit i 2 hi (by decide), ?_⟩
  refine ⟨_, rfl, e, cOf c i, _, _, _, rfl, xo, ex, rfl, T.kit i 3 hi (by decide), ?_⟩
  refine ⟨(by show 4 ≤ sizeLine; decide), fun p0 hp0 => ?_⟩
  have t0 := same_new hp0 (.lst [.bl (i == 0 || 0 == 22), .bl (i == 1 || 1 == 22), .bl (i == 2 || 2 == 22), .bl (i == 3 || 3 == 22)])
  have f0 : upd H p0 (.lst [.bl (i == 0 || 0 == 22), .bl (i == 1 || 1 == 22), .bl (i == 2 || 2 == 22), .bl (i == 3 || 3 == 22)]) p0 = some (.lst [.bl (i == 0 || 0 == 22), .bl (i == 1 || 1 == 22), .bl (i == 2 || 2 == 22), .bl (i == 3 || 3 == 22)]) := upd_same
  generalize upd H p0 (.lst [.bl (i == 0 || 0 == 22), .bl (i == 1 || 1 == 22), .bl (i == 2 || 2 == 22), .bl (i == 3 || 3 == 22)]) = G0 at t0 f0 ⊢
  replace xo := xo.same t0
  have z0 := t0
  refine ⟨_, rfl, ?_⟩
  refine ⟨_, rfl, e, cOf c i, _, _, _, rfl, xo, ex, rfl, T.kit i 4 hi (by decide), ?_⟩
  refine ⟨_, rfl, e, cOf c i, _, _, _, rfl, xo, ex, rfl, T.kit i 5 hi (by decide), ?_⟩
  refine ⟨_, rfl, e, cOf c i, _, _, _, rfl, xo, ex, rfl, T.kit i 6 hi (by decide), ?_⟩
  refine ⟨_, rfl, e, cOf c i, _, _, _, rfl, xo, ex, rfl, T.kit i 7 hi (by decide), ?_⟩
  refine ⟨(by show 4 ≤ sizeLine; decide), fun p1 hp1 => ?_⟩
  have t1 := same_new hp1 (.lst [.bl (i == 4 || 4 == 22), .bl (i == 5 || 5 == 22), .bl (i == 6 || 6 == 22), .bl (i == 7 || 7 == 22)])
  have f1 : upd G0 p1 (.lst [.bl (i == 4 || 4 == 22), .bl (i == 5 || 5 == 22), .bl (i == 6 || 6 == 22), .bl (i == 7 || 7 == 22)]) p1 = some (.lst [.bl (i == 4 || 4 == 22), .bl (i == 5 || 5 == 22), .bl (i == 6 || 6 == 22), .bl (i == 7 || 7 == 22)]) := upd_same
  generalize upd G0 p1 (.lst [.bl (i == 4 || 4 == 22), .bl (i == 5 || 5 == 22), .bl (i == 6 || 6 == 22), .bl (i == 7 || 7 == 22)]) = G1 at t1 f1 ⊢
  refine ⟨p0, p1, _, _, rfl, rfl, SqL.of (t1 _ _ f0), SqL.of f1, (by show 8 ≤ sizeLine; decide), fun b1 hb1 => ?_⟩
  have w1 := same_new hb1 (.lst ([.bl (i == 0 || 0 == 22), .bl (i == 1 || 1 == 22), .bl (i == 2 || 2 == 22), .bl (i == 3 || 3 == 22)] ++ [.bl (i == 4 || 4 == 22), .bl (i == 5 || 5 == 22), .bl (i == 6 || 6 == 22), .bl (i == 7 || 7 == 22)]))
  have h1 : upd G1 b1 (.lst ([.bl (i == 0 || 0 == 22), .bl (i == 1 || 1 == 22), .bl (i == 2 || 2 == 22), .bl (i == 3 || 3 == 22)] ++ [.bl (i == 4 || 4 == 22), .bl (i == 5 || 5 == 22), .bl (i == 6 || 6 == 22), .bl (i == 7 || 7 == 22)])) b1 = some (.lst [.bl (i == 0 || 0 == 22), .bl (i == 1 || 1 == 22), .bl (i == 2 || 2 == 22), .bl (i == 3 || 3 == 22), .bl (i == 4 || 4 == 22), .bl (i == 5 || 5 == 22), .bl (i == 6 || 6 == 22), .bl (i == 7 || 7 == 22)]) := upd_same
  generalize upd G1 b1 (.lst ([.bl (i == 0 || 0 == 22), .bl (i == 1 || 1 == 22), .bl (i == 2 || 2 == 22), .bl (i == 3 || 3 == 22)] ++ [.bl (i == 4 || 4 == 22), .bl (i == 5 || 5 == 22), .bl (i == 6 || 6 == 22), .bl (i == 7 || 7 == 22)])) = K1 at w1 h1 ⊢
  replace xo := xo.same (t1.trans w1)
  have z1 := z0.trans (t1.trans w1)
  refine ⟨_, rfl, ?_⟩
  refine ⟨_, rfl, e, cOf c i, _, _, _, rfl, xo, ex, rfl, T.kit i 8 hi (by decide), ?_⟩
  refine ⟨_, rfl, e, cOf c i, _, _, _, rfl, xo, ex, rfl, T.kit i 9 hi (by decide), ?_⟩
  refine ⟨_, rfl, e, cOf c i, _, _, _, rfl, xo, ex, rfl, T.kit i 10 hi (by decide), ?_⟩
  refine ⟨_, rfl, e, cOf c i, _, _, _, rfl, xo, ex, rfl, T.kit i 11 hi (by decide), ?_⟩
  refine ⟨(by show 4 ≤ sizeLine; decide), fun p2 hp2 => ?_⟩
  have t2 := same_new hp2 (.lst [.bl (i == 8 || 8 == 22), .bl (i == 9 || 9 == 22), .bl (i == 10 || 10 == 22), .bl (i == 11 || 11 == 22)])
  have f2 : upd K1 p2 (.lst [.bl (i == 8 || 8 == 22), .bl (i == 9 || 9 == 22), .bl (i == 10 || 10 == 22), .bl (i == 11 || 11 == 22)]) p2 = some (.lst [.bl (i == 8 || 8 == 22), .bl (i == 9 || 9 == 22), .bl (i == 10 || 10 == 22), .bl (i == 11 || 11 == 22)]) := upd_same
  generalize upd K1 p2 (.lst [.bl (i == 8 || 8 == 22), .bl (i == 9 || 9 == 22), .bl (i == 10 || 10 == 22), .bl (i == 11 || 11 == 22)]) = G2 at t2 f2 ⊢
  refine ⟨b1, p2, _, _, rfl, rfl, SqL.of (t2 _ _ h1), SqL.of f2, (by show 12 ≤ sizeLine; decide), fun b2 hb2 => ?_⟩
  have w2 := same_new hb2 (.lst ([.bl (i == 0 || 0 == 22), .bl (i == 1 || 1 == 22), .bl (i == 2 || 2 == 22), .bl (i == 3 || 3 == 22), .bl (i == 4 || 4 == 22), .bl (i == 5 || 5 == 22), .bl (i == 6 || 6 == 22), .bl (i == 7 || 7 == 22)] ++ [.bl (i == 8 || 8 == 22), .bl (i == 9 || 9 == 22), .bl (i == 10 || 10 == 22), .bl (i == 11 || 11 == 22)]))
  have h2 : upd G2 b2 (.lst ([.bl (i == 0 || 0 == 22), .bl (i == 1 || 1 == 22), .bl (i == 2 || 2 == 22), .bl (i == 3 || 3 == 22), .bl (i == 4 || 4 == 22), .bl (i == 5 || 5 == 22), .bl (i == 6 || 6 == 22), .bl (i == 7 || 7 == 22)] ++ [.bl (i == 8 || 8 == 22), .bl (i == 9 || 9 == 22), .bl (i == 10 || 10 == 22), .bl (i == 11 || 11 == 22)])) b2 = some (.lst [.bl (i == 0 || 0 == 22), .bl (i == 1 || 1 == 22), .bl (i == 2 || 2 == 22), .bl (i == 3 || 3 == 22), .bl (i == 4 || 4 == 22), .bl (i == 5 || 5 == 22), .bl (i == 6 || 6 == 22), .bl (i == 7 || 7 == 22), .bl (i == 8 || 8 == 22), .bl (i == 9 || 9 == 22), .bl (i == 10 || 10 == 22), .bl (i == 11 || 11 == 22)]) := upd_same
  generalize upd G2 b2 (.lst ([.bl (i == 0 || 0 == 22), .bl (i == 1 || 1 == 22), .bl (i == 2 || 2 == 22), .bl (i == 3 || 3 == 22), .bl (i == 4 || 4 == 22), .bl (i == 5 || 5 == 22), .bl (i == 6 || 6 == 22), .bl (i == 7 || 7 == 22)] ++ [.bl (i == 8 || 8 == 22), .bl (i == 9 || 9 == 22), .bl (i == 10 || 10 == 22), .bl (i == 11 || 11 == 22)])) = K2 at w2 h2 ⊢
  replace xo := xo.same (t2.trans w2)
  have z2 := z1.trans (t2.trans w2)
  refine ⟨_, rfl, ?_⟩
  refine ⟨_, rfl, e, cOf c i, _, _, _, rfl, xo, ex, rfl, T.kit i 12 hi (by decide), ?_⟩
  refine ⟨_, rfl, e, cOf c i, _, _, _, rfl, xo, ex, rfl, T.kit i 13 hi (by decide), ?_⟩
  refine ⟨_, rfl, e, cOf c i, _, _, _, rfl, xo, ex, rfl, T.kit i 14 hi (by decide), ?_⟩
  refine ⟨_, rfl, e, cOf c i, _, _, _, rfl, xo, ex, rfl, T.kit i 15 hi (by decide), ?_⟩
  refine ⟨(by show 4 ≤ sizeLine; decide), fun p3 hp3 => ?_⟩
  have t3 := same_new hp3 (.lst [.bl (i == 12 || 12 == 22), .bl (i == 13 || 13 == 22), .bl (i == 14 || 14 == 22), .bl (i == 15 || 15 == 22)])
  have f3 : upd K2 p3 (.lst [.bl (i == 12 || 12 == 22), .bl (i == 13 || 13 == 22), .bl (i == 14 || 14 == 22), .bl (i == 15 || 15 == 22)]) p3 = some (.lst [.bl (i == 12 || 12 == 22), .bl (i == 13 || 13 == 22), .bl (i == 14 || 14 == 22), .bl (i == 15 || 15 == 22)]) := upd_same
  generalize upd K2 p3 (.lst [.bl (i == 12 || 12 == 22), .bl (i == 13 || 13 == 22), .bl (i == 14 || 14 == 22), .bl (i == 15 || 15 == 22)]) = G3 at t3 f3 ⊢
  refine ⟨b2, p3, _, _, rfl, rfl, SqL.of (t3 _ _ h2), SqL.of f3, (by show 16 ≤ sizeLine; decide), fun b3 hb3 => ?_⟩
  have w3 := same_new hb3 (.lst ([.bl (i == 0 || 0 == 22), .bl (i == 1 || 1 == 22), .bl (i == 2 || 2 == 22), .bl (i == 3 || 3 == 22), .bl (i == 4 || 4 == 22), .bl (i == 5 || 5 == 22), .bl (i == 6 || 6 == 22), .bl (i == 7 || 7 == 22), .bl (i == 8 || 8 == 22), .bl (i == 9 || 9 == 22), .bl (i == 10 || 10 == 22), .bl (i == 11 || 11 == 22)] ++ [.bl (i == 12 || 12 == 22), .bl (i == 13 || 13 == 22), .bl (i == 14 || 14 == 22), .bl (i == 15 || 15 == 22)]))
  have h3 : upd G3 b3 (.lst ([.bl (i == 0 || 0 == 22), .bl (i == 1 || 1 == 22), .bl (i == 2 || 2 == 22), .bl (i == 3 || 3 == 22), .bl (i == 4 || 4 == 22), .bl (i == 5 || 5 == 22), .bl (i == 6 || 6 == 22), .bl (i == 7 || 7 == 22), .bl (i == 8 || 8 == 22), .bl (i == 9 || 9 == 22), .bl (i == 10 || 10 == 22), .bl (i == 11 || 11 == 22)] ++ [.bl (i == 12 || 12 == 22), .bl (i == 13 || 13 == 22), .bl (i == 14 || 14 == 22), .bl (i == 15 || 15 == 22)])) b3 = some (.lst [.bl (i == 0 || 0 == 22), .bl (i == 1 || 1 == 22), .bl (i == 2 || 2 == 22), .bl (i == 3 || 3 == 22), .bl (i == 4 || 4 == 22), .bl (i == 5 || 5 == 22), .bl (i == 6 || 6 == 22), .bl (i == 7 || 7 == 22), .bl (i == 8 || 8 == 22), .bl (i == 9 || 9 == 22), .bl (i == 10 || 10 == 22), .bl (i == 11 || 11 == 22), .bl (i == 12 || 12 == 22), .bl (i == 13 || 13 == 22), .bl (i == 14 || 14 == 22), .bl (i == 15 || 15 == 22)]) := upd_same
  generalize upd G3 b3 (.lst ([.bl (i == 0 || 0 == 22), .bl (i == 1 || 1 == 22), .bl (i == 2 || 2 == 22), .bl (i == 3 || 3 == 22), .bl (i == 4 || 4 == 22), .bl (i == 5 || 5 == 22), .bl (i == 6 || 6 == 22), .bl (i == 7 || 7 == 22), .bl (i == 8 || 8 == 22), .bl (i == 9 || 9 == 22), .bl (i == 10 || 10 == 22), .bl (i == 11 || 11 == 22)] ++ [.bl (i == 12 || 12 == 22), .bl (i == 13 || 13 == 22), .bl (i == 14 || 14 == 22), .bl (i == 15 || 15 == 22)])) = K3 at w3 h3 ⊢
  replace xo := xo.same (t3.trans w3)
  have z3 := z2.trans (t3.trans w3)
  refine ⟨_, rfl, ?_⟩
  refine ⟨_, rfl, e, cOf c i, _, _, _, rfl, xo, ex, rfl, T.kit i 16 hi (by decide), ?_⟩
  refine ⟨_, rfl, e, cOf c i, _, _, _, rfl, xo, ex, rfl, T.kit i 17 hi (by decide), ?_⟩
  refine ⟨_, rfl, e, cOf c i, _, _, _, rfl, xo, ex, rfl, T.kit i 18 hi (by decide), ?_⟩
  refine ⟨_, rfl, e, cOf c i, _, _, _, rfl, xo, ex, rfl, T.kit i 19 hi (by decide), ?_⟩
  refine ⟨(by show 4 ≤ sizeLine; decide), fun p4 hp4 => ?_⟩
  have t4 := same_new hp4 (.lst [.bl (i == 16 || 16 == 22), .bl (i == 17 || 17 == 22), .bl (i == 18 || 18 == 22), .bl (i == 19 || 19 == 22)])
  have f4 : upd K3 p4 (.lst [.bl (i == 16 || 16 == 22), .bl (i == 17 || 17 == 22), .bl (i == 18 || 18 == 22), .bl (i == 19 || 19 == 22)]) p4 = some (.lst [.bl (i == 16 || 16 == 22), .bl (i == 17 || 17 == 22), .bl (i == 18 || 18 == 22), .bl (i == 19 || 19 == 22)]) := upd_same
  generalize upd K3 p4 (.lst [.bl (i == 16 || 16 == 22), .bl (i == 17 || 17 == 22), .bl (i == 18 || 18 == 22), .bl (i == 19 || 19 == 22)]) = G4 at t4 f4 ⊢
  refine ⟨b3, p4, _, _, rfl, rfl, SqL.of (t4 _ _ h3), SqL.of f4, (by show 20 ≤ sizeLine; decide), fun b4 hb4 => ?_⟩
  have w4 := same_new hb4 (.lst ([.bl (i == 0 || 0 == 22), .bl (i == 1 || 1 == 22), .bl (i == 2 || 2 == 22), .bl (i == 3 || 3 == 22), .bl (i == 4 || 4 == 22), .bl (i == 5 || 5 == 22), .bl (i == 6 || 6 == 22), .bl (i == 7 || 7 == 22), .bl (i == 8 || 8 == 22), .bl (i == 9 || 9 == 22), .bl (i == 10 || 10 == 22), .bl (i == 11 || 11 == 22), .bl (i == 12 || 12 == 22), .bl (i == 13 || 13 == 22), .bl (i == 14 || 14 == 22), .bl (i == 15 || 15 == 22)] ++ [.bl (i == 16 || 16 == 22), .bl (i == 17 || 17 == 22), .bl (i == 18 || 18 == 22), .bl (i == 19 || 19 == 22)]))
  have h4 : upd G4 b4 (.lst ([.bl (i == 0 || 0 == 22), .bl (i == 1 || 1 == 22), .bl (i == 2 || 2 == 22), .bl (i == 3 || 3 == 22), .bl (i == 4 || 4 == 22), .bl (i == 5 || 5 == 22), .bl (i == 6 || 6 == 22), .bl (i == 7 || 7 == 22), .bl (i == 8 || 8 == 22), .bl (i == 9 || 9 == 22), .bl (i == 10 || 10 == 22), .bl (i == 11 || 11 == 22), .bl (i == 12 || 12 == 22), .bl (i == 13 || 13 == 22), .bl (i == 14 || 14 == 22), .bl (i == 15 || 15 == 22)] ++ [.bl (i == 16 || 16 == 22), .bl (i == 17 || 17 == 22), .bl (i == 18 || 18 == 22), .bl (i == 19 || 19 == 22)])) b4 = some (.lst [.bl (i == 0 || 0 == 22), .bl (i == 1 || 1 == 22), .bl (i == 2 || 2 == 22), .bl (i == 3 || 3 == 22), .bl (i == 4 || 4 == 22), .bl (i == 5 || 5 == 22), .bl (i == 6 || 6 == 22), .bl (i == 7 || 7 == 22), .bl (i == 8 || 8 == 22), .bl (i == 9 || 9 == 22), .bl (i == 10 || 10 == 22), .bl (i == 11 || 11 == 22), .bl (i == 12 || 12 == 22), .bl (i == 13 || 13 == 22), .bl (i == 14 || 14 == 22), .bl (i == 15 || 15 == 22), .bl (i == 16 || 16 == 22), .bl (i == 17 || 17 == 22), .bl (i == 18 || 18 == 22), .bl (i == 19 || 19 == 22)]) := upd_same
  generalize upd G4 b4 (.lst ([.bl (i == 0 || 0 == 22), .bl (i == 1 || 1 == 22), .bl (i == 2 || 2 == 22), .bl (i == 3 || 3 == 22), .bl (i == 4 || 4 == 22), .bl (i == 5 || 5 == 22), .bl (i == 6 || 6 == 22), .bl (i == 7 || 7 == 22), .bl (i == 8 || 8 == 22), .bl (i == 9 || 9 == 22), .bl (i == 10 || 10 == 22), .bl (i == 11 || 11 == 22), .bl (i == 12 || 12 == 22), .bl (i == 13 || 13 == 22), .bl (i == 14 || 14 == 22), .bl (i == 15 || 15 == 22)] ++ [.bl (i == 16 || 16 == 22), .bl (i == 17 || 17 == 22), .bl (i == 18 || 18 == 22), .bl (i == 19 || 19 == 22)])) = K4 at w4 h4 ⊢
  replace xo := xo.same (t4.trans w4)
  have z4 := z3.trans (t4.trans w4)
  refine ⟨_, rfl, ?_⟩
  refine ⟨_, rfl, e, cOf c i, _, _, _, rfl, xo, ex, rfl, T.kit i 20 hi (by decide), ?_⟩
  refine ⟨_, rfl, e, cOf c i, _, _, _, rfl, xo, ex, rfl, T.kit i 21 hi (by decide), ?_⟩
  refine ⟨(by show 2 ≤ sizeLine; decide), fun p5 hp5 => ?_⟩
  have t5 := same_new hp5 (.lst [.bl (i == 20 || 20 == 22), .bl (i == 21 || 21 == 22)])
  have f5 : upd K4 p5 (.lst [.bl (i == 20 || 20 == 22), .bl (i == 21 || 21 == 22)]) p5 = some (.lst [.bl (i == 20 || 20 == 22), .bl (i == 21 || 21 == 22)]) := upd_same
  generalize upd K4 p5 (.lst [.bl (i == 20 || 20 == 22), .bl (i == 21 || 21 == 22)]) = G5 at t5 f5 ⊢
  refine ⟨b4, p5, _, _, rfl, rfl, SqL.of (t5 _ _ h4), SqL.of f5, (by show 22 ≤ sizeLine; decide), fun b5 hb5 => ?_⟩
  have w5 := same_new hb5 (.lst ([.bl (i == 0 || 0 == 22), .bl (i == 1 || 1 == 22), .bl (i == 2 || 2 == 22), .bl (i == 3 || 3 == 22), .bl (i == 4 || 4 == 22), .bl (i == 5 || 5 == 22), .bl (i == 6 || 6 == 22), .bl (i == 7 || 7 == 22), .bl (i == 8 || 8 == 22), .bl (i == 9 || 9 == 22), .bl (i == 10 || 10 == 22), .bl (i == 11 || 11 == 22), .bl (i == 12 || 12 == 22), .bl (i == 13 || 13 == 22), .bl (i == 14 || 14 == 22), .bl (i == 15 || 15 == 22), .bl (i == 16 || 16 == 22), .bl (i == 17 || 17 == 22), .bl (i == 18 || 18 == 22), .bl (i == 19 || 19 == 22)] ++ [.bl (i == 20 || 20 == 22), .bl (i == 21 || 21 == 22)]))
  have h5 : upd G5 b5 (.lst ([.bl (i == 0 || 0 == 22), .bl (i == 1 || 1 == 22), .bl (i == 2 || 2 == 22), .bl (i == 3 || 3 == 22), .bl (i == 4 || 4 == 22), .bl (i == 5 || 5 == 22), .bl (i == 6 || 6 == 22), .bl (i == 7 || 7 == 22), .bl (i == 8 || 8 == 22), .bl (i == 9 || 9 == 22), .bl (i == 10 || 10 == 22), .bl (i == 11 || 11 == 22), .bl (i == 12 || 12 == 22), .bl (i == 13 || 13 == 22), .bl (i == 14 || 14 == 22), .bl (i == 15 || 15 == 22), .bl (i == 16 || 16 == 22), .bl (i == 17 || 17 == 22), .bl (i == 18 || 18 == 22), .bl (i == 19 || 19 == 22)] ++ [.bl (i == 20 || 20 == 22), .bl (i == 21 || 21 == 22)])) b5 = some (.lst [.bl (i == 0 || 0 == 22), .bl (i == 1 || 1 == 22), .bl (i == 2 || 2 == 22), .bl (i == 3 || 3 == 22), .bl (i == 4 || 4 == 22), .bl (i == 5 || 5 == 22), .bl (i == 6 || 6 == 22), .bl (i == 7 || 7 == 22), .bl (i == 8 || 8 == 22), .bl (i == 9 || 9 == 22), .bl (i == 10 || 10 == 22), .bl (i == 11 || 11 == 22), .bl (i == 12 || 12 == 22), .bl (i == 13 || 13 == 22), .bl (i == 14 || 14 == 22), .bl (i == 15 || 15 == 22), .bl (i == 16 || 16 == 22), .bl (i == 17 || 17 == 22), .bl (i == 18 || 18 == 22), .bl (i == 19 || 19 == 22), .bl (i == 20 || 20 == 22), .bl (i == 21 || 21 == 22)]) := upd_same
  generalize upd G5 b5 (.lst ([.bl (i == 0 || 0 == 22), .bl (i == 1 || 1 == 22), .bl (i == 2 || 2 == 22), .bl (i == 3 || 3 == 22), .bl (i == 4 || 4 == 22), .bl (i == 5 || 5 == 22), .bl (i == 6 || 6 == 22), .bl (i == 7 || 7 == 22), .bl (i == 8 || 8 == 22), .bl (i == 9 || 9 == 22), .bl (i == 10 || 10 == 22), .bl (i == 11 || 11 == 22), .bl (i == 12 || 12 == 22), .bl (i == 13 || 13 == 22), .bl (i == 14 || 14 == 22), .bl (i == 15 || 15 == 22), .bl (i == 16 || 16 == 22), .bl (i == 17 || 17 == 22), .bl (i == 18 || 18 == 22), .bl (i == 19 || 19 == 22)] ++ [.bl (i == 20 || 20 == 22), .bl (i == 21 || 21 == 22)])) = K5 at w5 h5 ⊢
  replace xo := xo.same (t5.trans w5)
  have z5 := z4.trans (t5.trans w5)
  exact q b5 _ z5 h5
theorem ok__law_fields {f : Addr} {fd : FuncData} (F : Fun K "_law_fields" "_law_fields" s__law_fields f fd) (T : Txt K mg c)  (XS : XMs P w K mg base c) : FnOk P w K mg base CX0 3 f fd ["_law_one", "_law_other"] spFields := by
  refine F.ok sc__law_fields (fun vs H Q E h => ?_) (fun cdv A outer s H vs Q E hr h => ?_)
  · obtain ⟨x, y, rfl, _⟩ := h
    rfl
  obtain ⟨x, y, rfl, q⟩ := h
  refine ⟨_, (pss_cons (ps_set (i := 2) sc__law_fields.nd rfl (Or.inl rfl) (pe_lst (pa_cons (pe_xfO (pe_mkX XS.NoWidth (hr.mono (by omega)) rfl (pa_cons (pv 0) pa_nil)) rfl) (pa_cons (pe_xfO (pe_mkX XS.NoWord (hr.mono (by omega)) rfl (pa_cons (pv 0) pa_nil)) rfl) (pa_cons (pe_xfO (pe_mkX XS.NoKind (hr.mono (by omega)) rfl (pa_cons (pv 0) pa_nil)) rfl) (pa_cons (pe_xfO (pe_mkX XS.NoText (hr.mono (by omega)) rfl (pa_cons (pv 0) pa_nil)) rfl) (pa_cons (pe_xfO (pe_mkX XS.NoWay (hr.mono (by omega)) rfl (pa_cons (pv 0) pa_nil)) rfl) pa_nil)))))))
    (pss_cons (ps_set (i := 2) sc__law_fields.nd rfl (Or.inl rfl) (pe_op op_addL (pv 2) (pe_lst (pa_cons (pe_xfO (pe_mkX XS.NoFraction (hr.mono (by omega)) rfl (pa_cons (pv 0) pa_nil)) rfl) (pa_cons (pe_xfO (pe_mkX XS.NoDivisor (hr.mono (by omega)) rfl (pa_cons (pv 0) pa_nil)) rfl) (pa_cons (pe_xfO (pe_mkX XS.NoForm (hr.mono (by omega)) rfl (pa_cons (pv 0) pa_nil)) rfl) (pa_cons (pe_xfO (pe_mkX XS.NoLine (hr.mono (by omega)) rfl (pa_cons (pv 0) pa_nil)) rfl) pa_nil)))))))
    (pss_cons (ps_set (i := 2) sc__law_fields.nd rfl (Or.inl rfl) (pe_op op_addL (pv 2) (pe_lst (pa_cons (pe_xfO (pe_mkX XS.NoLong (hr.mono (by omega)) rfl (pa_cons (pv 0) pa_nil)) rfl) (pa_cons (pe_xfO (pe_mkX XS.NoPrices (hr.mono (by omega)) rfl (pa_cons (pv 0) pa_nil)) rfl) (pa_cons (pe_xfO (pe_mkX XS.NoDesk (hr.mono (by omega)) rfl (pa_cons (pv 0) pa_nil)) rfl) (pa_cons (pe_xfO (pe_mkX XS.NoProgram (hr.mono (by omega)) rfl (pa_cons (pv 0) pa_nil)) rfl) (pa_cons (pe_xfO (pe_mkX XS.TooMuch (hr.mono (by omega)) rfl (pa_cons (pv 0) pa_nil)) rfl) pa_nil))))))))
    (pss_cons (ps_set (i := 2) sc__law_fields.nd rfl (Or.inl rfl) (pe_op op_addL (pv 2) (pe_lst (pa_cons (pe_xfO (pe_mkX XS.Unknown (hr.mono (by omega)) rfl (pa_cons (pv 0) (pa_cons (pv 1) pa_nil))) rfl) (pa_cons (pe_xfO (pe_mkX XS.WrongKind (hr.mono (by omega)) rfl (pa_cons (pv 0) (pa_cons (pv 1) pa_nil))) rfl) (pa_cons (pe_xfO (pe_mkX XS.Twice (hr.mono (by omega)) rfl (pa_cons (pv 0) (pa_cons (pv 1) pa_nil))) rfl) (pa_cons (pe_xfO (pe_mkX XS.NoInput (hr.mono (by omega)) rfl (pa_cons (pv 0) pa_nil)) rfl) pa_nil)))))))
    (pss_one (ps_ret (pe_op op_addL (pv 2) (pe_lst (pa_cons (pe_xfO (pe_mkX XS.NoRegister (hr.mono (by omega)) rfl (pa_cons (pv 0) pa_nil)) rfl) (pa_cons (pe_xfO (pe_mkX XS.NoRow (hr.mono (by omega)) rfl (pa_cons (pv 0) pa_nil)) rfl) pa_nil)))))))))), ?_⟩
  refine ⟨_, rfl, rfl, (by show 1 ≤ 100; decide), fun e0 g0 H0 s0 x0 l0 => ⟨e0, cOf c 0, g0, _, rfl, x0, T.ex 0 (by decide), T.hasD 0 (by decide), T.noA 0 (by decide) "found" (by decide +kernel), (l0 _).trans (lk1), ?_⟩⟩
  refine ⟨_, rfl, rfl, (by show 1 ≤ 100; decide), fun e1 g1 H1 s1 x1 l1 => ⟨e1, cOf c 1, g1, _, rfl, x1, T.ex 1 (by decide), T.hasD 1 (by decide), T.noA 1 (by decide) "found" (by decide +kernel), (l1 _).trans (lk1), ?_⟩⟩
  refine ⟨_, rfl, rfl, (by show 1 ≤ 100; decide), fun e2 g2 H2 s2 x2 l2 => ⟨e2, cOf c 2, g2, _, rfl, x2, T.ex 2 (by decide), T.hasD 2 (by decide), T.noA 2 (by decide) "found" (by decide +kernel), (l2 _).trans (lk1), ?_⟩⟩
  refine ⟨_, rfl, rfl, (by show 1 ≤ 100; decide), fun e3 g3 H3 s3 x3 l3 => ⟨e3, cOf c 3, g3, _, rfl, x3, T.ex 3 (by decide), T.hasD 3 (by decide), T.noA 3 (by decide) "found" (by decide +kernel), (l3 _).trans (lk1), ?_⟩⟩
  refine ⟨_, rfl, rfl, (by show 1 ≤ 100; decide), fun e4 g4 H4 s4 x4 l4 => ⟨e4, cOf c 4, g4, _, rfl, x4, T.ex 4 (by decide), T.hasD 4 (by decide), T.noA 4 (by decide) "found" (by decide +kernel), (l4 _).trans (lk1), ?_⟩⟩
  refine ⟨(by show 5 ≤ sizeLine; decide), fun p0 hp0 => ?_⟩
  have t0 := same_new hp0 (.lst [x, x, x, x, x])
  have f0 : upd H4 p0 (.lst [x, x, x, x, x]) p0 = some (.lst [x, x, x, x, x]) := upd_same
  generalize upd H4 p0 (.lst [x, x, x, x, x]) = G0 at t0 f0 ⊢
  have u0 := (((((s0).trans s1).trans s2).trans s3).trans s4).trans t0
  have z0 := u0
  refine ⟨_, rfl, ?_⟩
  refine ⟨_, rfl, rfl, (by show 1 ≤ 100; decide), fun e5 g5 H5 s5 x5 l5 => ⟨e5, cOf c 5, g5, _, rfl, x5, T.ex 5 (by decide), T.hasD 5 (by decide), T.noA 5 (by decide) "found" (by decide +kernel), (l5 _).trans (lk1), ?_⟩⟩
  refine ⟨_, rfl, rfl, (by show 1 ≤ 100; decide), fun e6 g6 H6 s6 x6 l6 => ⟨e6, cOf c 6, g6, _, rfl, x6, T.ex 6 (by decide), T.hasD 6 (by decide), T.noA 6 (by decide) "found" (by decide +kernel), (l6 _).trans (lk1), ?_⟩⟩
  refine ⟨_, rfl, rfl, (by show 1 ≤ 100; decide), fun e7 g7 H7 s7 x7 l7 => ⟨e7, cOf c 7, g7, _, rfl, x7, T.ex 7 (by decide), T.hasD 7 (by decide), T.noA 7 (by decide) "found" (by decide +kernel), (l7 _).trans (lk1), ?_⟩⟩
  refine ⟨_, rfl, rfl, (by show 1 ≤ 100; decide), fun e8 g8 H8 s8 x8 l8 => ⟨e8, cOf c 8, g8, _, rfl, x8, T.ex 8 (by decide), T.hasD 8 (by decide), T.noA 8 (by decide) "found" (by decide +kernel), (l8 _).trans (lk1), ?_⟩⟩
  refine ⟨(by show 4 ≤ sizeLine; decide), fun p1 hp1 => ?_⟩
  have t1 := same_new hp1 (.lst [x, x, x, x])
  have f1 : upd H8 p1 (.lst [x, x, x, x]) p1 = some (.lst [x, x, x, x]) := upd_same
  generalize upd H8 p1 (.lst [x, x, x, x]) = G1 at t1 f1 ⊢
  have u1 := ((((s5).trans s6).trans s7).trans s8).trans t1
  refine ⟨p0, p1, _, _, rfl, rfl, SqL.of (u1 _ _ f0), SqL.of f1, (by show 9 ≤ sizeLine; decide), fun b1 hb1 => ?_⟩
  have w1 := same_new hb1 (.lst ([x, x, x, x, x] ++ [x, x, x, x]))
  have h1 : upd G1 b1 (.lst ([x, x, x, x, x] ++ [x, x, x, x])) b1 = some (.lst [x, x, x, x, x, x, x, x, x]) := upd_same
  generalize upd G1 b1 (.lst ([x, x, x, x, x] ++ [x, x, x, x])) = K1 at w1 h1 ⊢
  have z1 := (z0.trans u1).trans w1
  refine ⟨_, rfl, ?_⟩
  refine ⟨_, rfl, rfl, (by show 1 ≤ 100; decide), fun e9 g9 H9 s9 x9 l9 => ⟨e9, cOf c 9, g9, _, rfl, x9, T.ex 9 (by decide), T.hasD 9 (by decide), T.noA 9 (by decide) "found" (by decide +kernel), (l9 _).trans (lk1), ?_⟩⟩
  refine ⟨_, rfl, rfl, (by show 1 ≤ 100; decide), fun e10 g10 H10 s10 x10 l10 => ⟨e10, cOf c 10, g10, _, rfl, x10, T.ex 10 (by decide), T.hasD 10 (by decide), T.noA 10 (by decide) "found" (by decide +kernel), (l10 _).trans (lk1), ?_⟩⟩
  refine ⟨_, rfl, rfl, (by show 1 ≤ 100; decide), fun e11 g11 H11 s11 x11 l11 => ⟨e11, cOf c 11, g11, _, rfl, x11, T.ex 11 (by decide), T.hasD 11 (by decide), T.noA 11 (by decide) "found" (by decide +kernel), (l11 _).trans (lk1), ?_⟩⟩
  refine ⟨_, rfl, rfl, (by show 1 ≤ 100; decide), fun e12 g12 H12 s12 x12 l12 => ⟨e12, cOf c 12, g12, _, rfl, x12, T.ex 12 (by decide), T.hasD 12 (by decide), T.noA 12 (by decide) "line" (by decide +kernel), (l12 _).trans (lk1), ?_⟩⟩
  refine ⟨_, rfl, rfl, (by show 1 ≤ 100; decide), fun e13 g13 H13 s13 x13 l13 => ⟨e13, cOf c 13, g13, _, rfl, x13, T.ex 13 (by decide), T.hasD 13 (by decide), T.noA 13 (by decide) "line" (by decide +kernel), (l13 _).trans (lk1), ?_⟩⟩
  refine ⟨(by show 5 ≤ sizeLine; decide), fun p2 hp2 => ?_⟩
  have t2 := same_new hp2 (.lst [x, x, x, x, x])
  have f2 : upd H13 p2 (.lst [x, x, x, x, x]) p2 = some (.lst [x, x, x, x, x]) := upd_same
  generalize upd H13 p2 (.lst [x, x, x, x, x]) = G2 at t2 f2 ⊢
  have u2 := (((((s9).trans s10).trans s11).trans s12).trans s13).trans t2
  refine ⟨b1, p2, _, _, rfl, rfl, SqL.of (u2 _ _ h1), SqL.of f2, (by show 14 ≤ sizeLine; decide), fun b2 hb2 => ?_⟩
  have w2 := same_new hb2 (.lst ([x, x, x, x, x, x, x, x, x] ++ [x, x, x, x, x]))
  have h2 : upd G2 b2 (.lst ([x, x, x, x, x, x, x, x, x] ++ [x, x, x, x, x])) b2 = some (.lst [x, x, x, x, x, x, x, x, x, x, x, x, x, x]) := upd_same
  generalize upd G2 b2 (.lst ([x, x, x, x, x, x, x, x, x] ++ [x, x, x, x, x])) = K2 at w2 h2 ⊢
  have z2 := (z1.trans u2).trans w2
  refine ⟨_, rfl, ?_⟩
  refine ⟨_, rfl, _, rfl, rfl, (by show 2 ≤ 100; decide), fun e14 g14 H14 s14 x14 l14 => ⟨e14, cOf c 14, g14, _, rfl, x14, T.ex 14 (by decide), T.hasD 14 (by decide), T.noA 14 (by decide) "line" (by decide +kernel), (l14 _).trans (lk21), ?_⟩⟩
  refine ⟨_, rfl, _, rfl, rfl, (by show 2 ≤ 100; decide), fun e15 g15 H15 s15 x15 l15 => ⟨e15, cOf c 15, g15, _, rfl, x15, T.ex 15 (by decide), T.hasD 15 (by decide), T.noA 15 (by decide) "line" (by decide +kernel), (l15 _).trans (lk21), ?_⟩⟩
  refine ⟨_, rfl, _, rfl, rfl, (by show 2 ≤ 100; decide), fun e16 g16 H16 s16 x16 l16 => ⟨e16, cOf c 16, g16, _, rfl, x16, T.ex 16 (by decide), T.hasD 16 (by decide), T.noA 16 (by decide) "line" (by decide +kernel), (l16 _).trans (lk21), ?_⟩⟩
  refine ⟨_, rfl, rfl, (by show 1 ≤ 100; decide), fun e17 g17 H17 s17 x17 l17 => ⟨e17, cOf c 17, g17, _, rfl, x17, T.ex 17 (by decide), T.hasD 17 (by decide), T.noA 17 (by decide) "name" (by decide +kernel), (l17 _).trans (lk1), ?_⟩⟩
  refine ⟨(by show 4 ≤ sizeLine; decide), fun p3 hp3 => ?_⟩
  have t3 := same_new hp3 (.lst [x, x, x, x])
  have f3 : upd H17 p3 (.lst [x, x, x, x]) p3 = some (.lst [x, x, x, x]) := upd_same
  generalize upd H17 p3 (.lst [x, x, x, x]) = G3 at t3 f3 ⊢
  have u3 := ((((s14).trans s15).trans s16).trans s17).trans t3
  refine ⟨b2, p3, _, _, rfl, rfl, SqL.of (u3 _ _ h2), SqL.of f3, (by show 18 ≤ sizeLine; decide), fun b3 hb3 => ?_⟩
  have w3 := same_new hb3 (.lst ([x, x, x, x, x, x, x, x, x, x, x, x, x, x] ++ [x, x, x, x]))
  have h3 : upd G3 b3 (.lst ([x, x, x, x, x, x, x, x, x, x, x, x, x, x] ++ [x, x, x, x])) b3 = some (.lst [x, x, x, x, x, x, x, x, x, x, x, x, x, x, x, x, x, x]) := upd_same
  generalize upd G3 b3 (.lst ([x, x, x, x, x, x, x, x, x, x, x, x, x, x] ++ [x, x, x, x])) = K3 at w3 h3 ⊢
  have z3 := (z2.trans u3).trans w3
  refine ⟨_, rfl, ?_⟩
  refine ⟨_, rfl, rfl, (by show 1 ≤ 100; decide), fun e18 g18 H18 s18 x18 l18 => ⟨e18, cOf c 18, g18, _, rfl, x18, T.ex 18 (by decide), T.hasD 18 (by decide), T.noA 18 (by decide) "name" (by decide +kernel), (l18 _).trans (lk1), ?_⟩⟩
  refine ⟨_, rfl, rfl, (by show 1 ≤ 100; decide), fun e19 g19 H19 s19 x19 l19 => ⟨e19, cOf c 19, g19, _, rfl, x19, T.ex 19 (by decide), T.hasD 19 (by decide), T.noA 19 (by decide) "place" (by decide +kernel), (l19 _).trans (lk1), ?_⟩⟩
  refine ⟨(by show 2 ≤ sizeLine; decide), fun p4 hp4 => ?_⟩
  have t4 := same_new hp4 (.lst [x, x])
  have f4 : upd H19 p4 (.lst [x, x]) p4 = some (.lst [x, x]) := upd_same
  generalize upd H19 p4 (.lst [x, x]) = G4 at t4 f4 ⊢
  have u4 := ((s18).trans s19).trans t4
  refine ⟨b3, p4, _, _, rfl, rfl, SqL.of (u4 _ _ h3), SqL.of f4, (by show 20 ≤ sizeLine; decide), fun b4 hb4 => ?_⟩
  have w4 := same_new hb4 (.lst ([x, x, x, x, x, x, x, x, x, x, x, x, x, x, x, x, x, x] ++ [x, x]))
  have h4 : upd G4 b4 (.lst ([x, x, x, x, x, x, x, x, x, x, x, x, x, x, x, x, x, x] ++ [x, x])) b4 = some (.lst [x, x, x, x, x, x, x, x, x, x, x, x, x, x, x, x, x, x, x, x]) := upd_same
  generalize upd G4 b4 (.lst ([x, x, x, x, x, x, x, x, x, x, x, x, x, x, x, x, x, x] ++ [x, x])) = K4 at w4 h4 ⊢
  have z4 := (z3.trans u4).trans w4
  exact q b4 _ z4 h4
theorem ok__law_names {f : Addr} {fd : FuncData} (F : Fun K "_law_names" "_law_names" s__law_names f fd) (T : Txt K mg c)  (XS : XMs P w K mg base c) : FnOk P w K mg base CX0 3 f fd ["_law_one", "_law_other"] spNames := by
  refine F.ok sc__law_names (fun vs H Q E h => ?_) (fun cdv A outer s H vs Q E hr h => ?_)
  · obtain ⟨x, y, rfl, _⟩ := h
    rfl
  obtain ⟨x, y, rfl, q⟩ := h
  refine ⟨_, (pss_one (ps_ret (pe_lst (pa_cons (pe_xfO (pe_mkX XS.Unknown (hr.mono (by omega)) rfl (pa_cons (pv 0) (pa_cons (pv 1) pa_nil))) rfl) (pa_cons (pe_xfO (pe_mkX XS.WrongKind (hr.mono (by omega)) rfl (pa_cons (pv 0) (pa_cons (pv 1) pa_nil))) rfl) (pa_cons (pe_xfO (pe_mkX XS.Twice (hr.mono (by omega)) rfl (pa_cons (pv 0) (pa_cons (pv 1) pa_nil))) rfl) pa_nil)))))), ?_⟩
  refine ⟨_, rfl, _, rfl, rfl, (by show 2 ≤ 100; decide), fun e0 g0 H0 s0 x0 l0 => ⟨e0, cOf c 14, g0, _, rfl, x0, T.ex 14 (by decide), T.hasD 14 (by decide), T.noA 14 (by decide) "name" (by decide +kernel), (l0 _).trans (lk22 (by decide +kernel)), ?_⟩⟩
  refine ⟨_, rfl, _, rfl, rfl, (by show 2 ≤ 100; decide), fun e1 g1 H1 s1 x1 l1 => ⟨e1, cOf c 15, g1, _, rfl, x1, T.ex 15 (by decide), T.hasD 15 (by decide), T.noA 15 (by decide) "name" (by decide +kernel), (l1 _).trans (lk22 (by decide +kernel)), ?_⟩⟩
  refine ⟨_, rfl, _, rfl, rfl, (by show 2 ≤ 100; decide), fun e2 g2 H2 s2 x2 l2 => ⟨e2, cOf c 16, g2, _, rfl, x2, T.ex 16 (by decide), T.hasD 16 (by decide), T.noA 16 (by decide) "name" (by decide +kernel), (l2 _).trans (lk22 (by decide +kernel)), ?_⟩⟩
  refine ⟨(by show 3 ≤ sizeLine; decide), fun p0 hp0 => ?_⟩
  have t0 := same_new hp0 (.lst [y, y, y])
  have f0 : upd H2 p0 (.lst [y, y, y]) p0 = some (.lst [y, y, y]) := upd_same
  generalize upd H2 p0 (.lst [y, y, y]) = G0 at t0 f0 ⊢
  have u0 := (((s0).trans s1).trans s2).trans t0
  have z0 := u0
  exact q p0 _ z0 f0
theorem ok__law_alike {f : Addr} {fd : FuncData} (F : Fun K "_law_alike" "_law_alike" s__law_alike f fd) (T : Txt K mg c)  : FnOk P w K mg base CX0 1 f fd ["_law_found", "_law_due"] spAlike := by
  refine F.ok sc__law_alike (fun vs H Q E h => ?_) (fun cdv A outer s H vs Q E hr h => ?_)
  · obtain ⟨x, rfl, _⟩ := h
    rfl
  obtain ⟨x, rfl, th, sm, q⟩ := h
  refine ⟨_, (pss_one (ps_ret (pe_and (pe_cmpR op_eq (pe_callB call_isinst rfl T.n_isinstance boot_isinstance (pa_cons (pv 0) (pa_cons (pe_ty rfl T.n_bool boot_bool) pa_nil))) (pe_callB call_isinst rfl T.n_isinstance boot_isinstance (pa_cons (pv 1) (pa_cons (pe_ty rfl T.n_bool boot_bool) pa_nil))) (nomark _)) (pe_one (pe_cmpR (op_eqM (by have := hu0 hr; exact this)) (pv 0) (pv 1) (nomark _)))))), ?_⟩
  obtain ⟨ty, t1, t2⟩ := th.isbl (K := K)
  refine ⟨_, rfl, _, _, ty, _, _, rfl, rfl, t1, t2, _, rfl, _, _, ty, _, _, rfl, rfl, t1, t2, ?_⟩
  refine ⟨by cases isB x <;> rfl, _, rfl, iteD rfl ?_⟩
  exact ⟨_, rfl, _, rfl, rfl, th, sm, q⟩
theorem ten_at {H : Hp} {l t dd : Addr} {d : Int} {z : Str} (h1 : H l = some (.lst [.int d])) (h2 : H t = some (.tup [.int d, .str "b"])) (h3 : H dd = some (.dK [(.inr "c", .int d)])) {k : Int} (k0 : 0 ≤ k) (k1 : k < 10) :
    ∃ x, atI [.int d, .int (0 - d), .str "a", .str z, .bl true, .bl false, .non, .ref l, .ref t, .ref dd] k = some x ∧ Th H x ∧ Sm1 H x := by
  have seq : ∀ a o, H a = some o → (∀ kvs, o ≠ .dK kvs) → Sm1 H (.ref a) := by
    intro a o e hn b kvs' e1 e2
    cases e1
    rw [e] at e2
    cases e2
    exact absurd rfl (hn kvs')
  rcases (by omega : k = 0 ∨ k = 1 ∨ k = 2 ∨ k = 3 ∨ k = 4 ∨ k = 5 ∨ k = 6 ∨ k = 7 ∨ k = 8 ∨ k = 9) with rfl | rfl | rfl | rfl | rfl | rfl | rfl | rfl | rfl | rfl
  · exact ⟨_, rfl, .int _, fun a kvs e => nomatch e⟩
  · exact ⟨_, rfl, .int _, fun a kvs e => nomatch e⟩
  · exact ⟨_, rfl, .str _, fun a kvs e => nomatch e⟩
  · exact ⟨_, rfl, .str _, fun a kvs e => nomatch e⟩
  · exact ⟨_, rfl, .bl _, fun a kvs e => nomatch e⟩
  · exact ⟨_, rfl, .bl _, fun a kvs e => nomatch e⟩
  · exact ⟨_, rfl, .non, fun a kvs e => nomatch e⟩
  · exact ⟨_, rfl, .lst h1, seq _ _ h1 (fun _ z => nomatch z)⟩
  · exact ⟨_, rfl, .tup h2, seq _ _ h2 (fun _ z => nomatch z)⟩
  · refine ⟨_, rfl, .dct h3, fun a kvs e h => ?_⟩
    cases e
    rw [h3] at h
    cases h
    exact Nat.le_refl 1
theorem ok__law_thing {f : Addr} {fd : FuncData} (F : Fun K "_law_thing" "_law_thing" s__law_thing f fd) (T : Txt K mg c) (H__law_take : Has P w K mg base 1 "_law_take" ["_law_box_here", "_law_many"] spTake) : FnOk P w K mg base CX0 2 f fd ["_law_box_here"] spThing := by
  refine F.ok sc__law_thing (fun vs H Q E h => ?_) (fun cdv A outer s H vs Q E hr h => ?_)
  · obtain ⟨p, rfl, _⟩ := h
    rfl
  obtain ⟨p, rfl, bx, q⟩ := h
  refine ⟨_, (pss_cons (ps_set (i := 1) sc__law_thing.nd rfl (Or.inl rfl) (pe_fn H__law_take (hr.mono (by omega)) rfl (pa_cons (pv 0) (pa_cons (pe_op op_pow pe_int pe_int) pa_nil))))
    (pss_cons (ps_set (i := 2) sc__law_thing.nd rfl (Or.inl rfl) (pe_lst (pa_consN (pv 1) (pa_consN (pe_op op_sub pe_int (pv 1)) (pa_consN pe_str (pa_consN (pe_callTy call_strI rfl T.n_str boot_str (pa_cons (pv 1) pa_nil)) (pa_consN pe_bl (pa_consN pe_bl (pa_consN pe_non (pa_consN (pe_lst (pa_cons (pv 1) pa_nil)) (pa_consN (pe_tup (pa_cons (pv 1) (pa_cons pe_str pa_nil))) (pa_consN (pe_disp1 pe_str (pv 1)) pa_nil))))))))))))
    (pss_one (ps_ret (pe_ix ix_list (pv 2) (pe_fn H__law_take (hr.mono (by omega)) rfl (pa_cons (pv 0) (pa_cons pe_int pa_nil))) (fun _ _ => rfl)))))), ?_⟩
  refine ⟨_, rfl, _, _, rfl, rfl, ⟨by decide, by decide, by decide⟩, p, _, rfl, bx, by decide, by decide, fun d H1 d0 d1 b1 x1 => ?_⟩
  have d2 : d < 1000000 := by
    have : (10 : Int) ^ (6 : Int).toNat = 1000000 := by decide
    omega
  refine ⟨_, rfl, _, rfl, _, _, rfl, rfl, _, rfl, _, rfl, by omega, by omega, ?_⟩
  refine ⟨_, rfl, (by show 1 ≤ sizeLine; decide), fun l hl => ?_⟩
  have s1 := same_new hl (.lst [.int d])
  have f1 : upd H1 l (.lst [.int d]) l = some (.lst [.int d]) := upd_same
  generalize upd H1 l (.lst [.int d]) = H2 at s1 f1 ⊢
  refine ⟨_, rfl, (by show 2 ≤ sizeLine; decide), fun t ht => ?_⟩
  have s2 := same_new ht (.tup [.int d, .str "b"])
  have f2 : upd H2 t (.tup [.int d, .str "b"]) t = some (.tup [.int d, .str "b"]) := upd_same
  generalize upd H2 t (.tup [.int d, .str "b"]) = H3 at s2 f2 ⊢
  refine fun dd hdd => ⟨_, rfl, _, rfl, upd_same, ?_⟩
  have s3 : Same H3 (upd (upd H3 dd (.dK [])) dd (.dK [(.inr "c", .int d)])) := fun b o h => by rw [upd_ne (ne_of_none h hdd), upd_ne (ne_of_none h hdd)]; exact h
  have f3 : upd (upd H3 dd (.dK [])) dd (.dK [(.inr "c", .int d)]) dd = some (.dK [(.inr "c", .int d)]) := upd_same
  generalize upd (upd H3 dd (.dK [])) dd (.dK [(.inr "c", .int d)]) = H4 at s3 f3 ⊢
  refine ⟨(by show 10 ≤ sizeLine; decide), fun L hL => ?_⟩
  have s4 := same_new hL (.lst [.int d, .int (0 - d), .str "a", .str (Str.ofString (toString d)), .bl true, .bl false, .non, .ref l, .ref t, .ref dd])
  have f4 : upd H4 L (.lst [.int d, .int (0 - d), .str "a", .str (Str.ofString (toString d)), .bl true, .bl false, .non, .ref l, .ref t, .ref dd]) L = some (.lst [.int d, .int (0 - d), .str "a", .str (Str.ofString (toString d)), .bl true, .bl false, .non, .ref l, .ref t, .ref dd]) := upd_same
  generalize upd H4 L (.lst [.int d, .int (0 - d), .str "a", .str (Str.ofString (toString d)), .bl true, .bl false, .non, .ref l, .ref t, .ref dd]) = H5 at s4 f4 ⊢
  have s15 := ((s1.trans s2).trans s3).trans s4
  have ne : ∀ {A B : Hp} {y : Addr}, Same A B → Box A p → B y = none → y ≠ p := fun {A B y} s b h z => by
    obtain ⟨u1, u2, u3, hb⟩ := b
    rw [z, s _ _ hb] at h
    cases h
  have rf : ∀ A : Hp, Same A A := fun A b o h => h
  have n1 := ne (rf _) b1 hl
  have n2 := ne s1 b1 ht
  have n3 := ne (s1.trans s2) b1 hdd
  have n4 := ne ((s1.trans s2).trans s3) b1 hL
  refine ⟨_, rfl, _, rfl, p, _, rfl, b1.same s15, by decide, by decide, fun k H6 k0 k1 b6 x6 => ?_⟩
  have g1 := x6 _ _ n1 (s4 _ _ (s3 _ _ (s2 _ _ f1)))
  have g2 := x6 _ _ n2 (s4 _ _ (s3 _ _ f2))
  have g3 := x6 _ _ n3 (s4 _ _ f3)
  obtain ⟨x, hx, th, sm⟩ := ten_at (z := Str.ofString (toString d)) g1 g2 g3 k0 k1
  exact ⟨L, _, _, _, rfl, rfl, SqL.of (x6 _ _ n4 f4), hx, q x H6 th sm b6 ((x1.trans (SameX.of s15)).trans x6)⟩
theorem knd_eq {i : Nat} (hi : i < 22) : ((List.range 22).map fun k : Nat => V.bl (decide (V.int (0 + (k : Int)) = V.int (i : Int)))) = knd i := by
  rcases (by omega : i = 0 ∨ i = 1 ∨ i = 2 ∨ i = 3 ∨ i = 4 ∨ i = 5 ∨ i = 6 ∨ i = 7 ∨ i = 8 ∨ i = 9 ∨ i = 10 ∨ i = 11 ∨ i = 12 ∨ i = 13 ∨ i = 14 ∨ i = 15 ∨ i = 16 ∨ i = 17 ∨ i = 18 ∨ i = 19 ∨ i = 20 ∨ i = 21) with rfl | rfl | rfl | rfl | rfl | rfl | rfl | rfl | rfl | rfl | rfl | rfl | rfl | rfl | rfl | rfl | rfl | rfl | rfl | rfl | rfl | rfl <;> decide +kernel
theorem knd_bl {i j : Nat} (hj : j < 22) : ∃ b, (knd i).getD j .non = .bl b := by
  rcases (by omega : j = 0 ∨ j = 1 ∨ j = 2 ∨ j = 3 ∨ j = 4 ∨ j = 5 ∨ j = 6 ∨ j = 7 ∨ j = 8 ∨ j = 9 ∨ j = 10 ∨ j = 11 ∨ j = 12 ∨ j = 13 ∨ j = 14 ∨ j = 15 ∨ j = 16 ∨ j = 17 ∨ j = 18 ∨ j = 19 ∨ j = 20 ∨ j = 21) with rfl | rfl | rfl | rfl | rfl | rfl | rfl | rfl | rfl | rfl | rfl | rfl | rfl | rfl | rfl | rfl | rfl | rfl | rfl | rfl | rfl | rfl <;> exact ⟨_, rfl⟩
theorem ok__law_right {f : Addr} {fd : FuncData} (F : Fun K "_law_right" "_law_right" s__law_right f fd) (T : Txt K mg c) (H__law_fields : Has P w K mg base 3 "_law_fields" ["_law_one", "_law_other"] spFields) (H__law_names : Has P w K mg base 3 "_law_names" ["_law_one", "_law_other"] spNames) (H__law_made : Has P w K mg base 3 "_law_made" ["_law_one", "_law_other"] (spMade c)) (H__law_kinds : Has P w K mg base 1 "_law_kinds" ["_law_e"] (spKinds c)) (H__law_alike : Has P w K mg base 1 "_law_alike" ["_law_found", "_law_due"] spAlike) : FnOk P w K mg base CX0 4 f fd ["_law_one", "_law_other"] spRight := by
  refine F.ok sc__law_right (fun vs H Q E h => ?_) (fun cdv A outer s H vs Q E hr h => ?_)
  · obtain ⟨x, y, rfl, _⟩ := h
    rfl
  obtain ⟨x, y, rfl, tx, sx, ty, sy, q⟩ := h
  refine ⟨_, (pss_cons (ps_for PassesOwn.never rfl (pi_enum rfl T.n_enumerate (pa_cons (pe_fn H__law_made (hr.mono (by omega)) rfl (pa_cons (pv 0) (pa_cons (pv 1) pa_nil))) pa_nil)) (pg_tup rfl (pgs_cons (pg_name (i := 2) sc__law_right.nd rfl (Or.inr rfl)) (pgs_cons (pg_name (i := 3) sc__law_right.nd rfl (Or.inl rfl)) pgs_nil)))
      (pss_cons (ps_if (PW.pt (pw_or (pt_not (pt_val (pe_callB call_isinstO rfl T.n_isinstance boot_isinstance (pa_cons (pv 3) (pa_cons (pe_cls rfl T.g_WiseError) pa_nil))))) (pw_or1 (pt_not (pt_val (pe_callB call_isinstO rfl T.n_isinstance boot_isinstance (pa_cons (pv 3) (pa_cons (pe_ty rfl T.n_ValueError boot_ValueError) pa_nil))))))))
        (pss_one (ps_ret pe_bl))
        pss_nil)
      (pss_one (ps_if (pt_cmpR (op_neLD (d := 0) (hu_of hr)) (pe_fn H__law_kinds (hr.mono (by omega)) rfl (pa_cons (pv 3) pa_nil)) (pe_compC [2] ["_law_k"] rfl (by first | rfl | with_unfolding_all rfl) (by rfl) (by exact (List.forall_mem_cons.mpr ⟨rfl, (fun _ h => nomatch h)⟩)) (by decide +kernel) rfl (by decide +kernel) rfl (by decide +kernel) (by exact (List.forall_mem_cons.mpr ⟨⟨by first | exact Or.inl rfl | exact Or.inr rfl, rfl⟩, (fun _ h => nomatch h)⟩)) rfl (by rfl) (pi_range1 rfl T.n_range (pa_cons pe_int pa_nil)) (fun C s2 H2 fp => (pe_cmpR op_eq (pv 0) (pv 1) (nomark _)))) (nomark _))
        (pss_one (ps_ret pe_bl))
        pss_nil))))
    (pss_cons (ps_for PassesOwn.never rfl (pi_list (pe_fn H__law_fields (hr.mono (by omega)) rfl (pa_cons (pv 0) (pa_cons (pv 1) pa_nil)))) (pg_name (i := 4) sc__law_right.nd rfl (Or.inl rfl))
      (pss_one (ps_if (pt_not (pt_val (pe_fn H__law_alike (hr.mono (by omega)) rfl (pa_cons (pv 4) (pa_cons (pv 0) pa_nil)))))
        (pss_one (ps_ret pe_bl))
        pss_nil)))
    (pss_cons (ps_for PassesOwn.never rfl (pi_list (pe_fn H__law_names (hr.mono (by omega)) rfl (pa_cons (pv 0) (pa_cons (pv 1) pa_nil)))) (pg_name (i := 4) sc__law_right.nd rfl (Or.inl rfl))
      (pss_one (ps_if (pt_not (pt_val (pe_fn H__law_alike (hr.mono (by omega)) rfl (pa_cons (pv 4) (pa_cons (pv 1) pa_nil)))))
        (pss_one (ps_ret pe_bl))
        pss_nil)))
    (pss_one (ps_ret pe_bl))))), ?_⟩
  refine ⟨_, rfl, _, rfl, x, y, rfl, fun l es H1 s1 hl he hm => ?_⟩
  refine ⟨l, es, rfl, SqL.of hl, for_enum (xs := es) (fun i σ G => ∃ z2 z3 z4 : Option V, σ = [some x, some y, z2, z3, z4] ∧ Same H1 G) ⟨_, _, _, rfl, fun b o h => h⟩ ?_ ?_ ?_⟩
  · rintro i σ G ⟨z2, z3, z4, rfl, sG⟩
    exact SqL.of (sG _ _ hl)
  · rintro i v σ G hv ⟨z2, z3, z4, rfl, sG⟩ T' hT
    have hi : i < 22 := by rw [← he]; exact (List.getElem?_eq_some_iff.mp hv).1
    obtain ⟨e, e1, xo⟩ := hm i hi
    rw [hv] at e1
    cases e1
    have sT := same_new hT (.tup [.int (i : Nat), .ref e])
    refine ⟨T', _, rfl, SqT.of upd_same, rfl, _, _, rfl, _, _, rfl, rfl, ?_⟩
    have xG := (xo.same sG).same sT
    have ex := T.ex i (by omega)
    have kw : PySem.W.kitOne K (.ref (cOf c i)) (.ref c.WiseError) = some true := by
      have := T.kit i 22 (by omega) (by decide)
      rwa [show (i == 22 || (22 : Nat) == 22) = true by simp] at this
    refine ⟨_, rfl, e, cOf c i, _, _, _, rfl, xG, ex, rfl, kw, _, rfl, iteF ?_⟩
    refine ⟨_, rfl, e, cOf c i, _, _, _, rfl, xG, ex, rfl, T.kitV i (by omega), _, rfl, iteF ?_⟩
    refine ⟨_, rfl, e, i, rfl, by omega, xG, fun lk H2 s2 hk => ?_⟩
    refine ⟨22, rfl, by decide, by decide, fun D hD => ?_⟩
    refine comp_rng (fun j HJ => HJ D = some (.lst ((List.range j).map fun k : Nat => V.bl (decide (V.int (0 + (k : Int)) = V.int (i : Int))))) ∧ Same H2 HJ) ⟨upd_same, same_new hD _⟩ ?_ ?_
    · rintro j HJ hj ⟨hy, sJ⟩
      refine ⟨_, rfl, _, rfl, rfl, _, hy, (by rw [List.length_map, List.length_range]; exact Nat.lt_of_lt_of_le hj (by decide)), 22 - (j + 1), (by omega), rfl, (by omega), ?_, Same.updL sJ hD⟩
      rw [upd_same, List.range_succ, List.map_append]
      rfl
    rintro H3 ⟨hy, s3⟩
    rw [show (22 : Int).toNat = 22 from rfl, knd_eq hi] at hy
    refine ⟨lk, D, knd i, knd i, fun _ => true, rfl, rfl, SqL.of (s3 _ _ hk), SqL.of hy, rfl, fun j hj => ?_, ?_⟩
    · obtain ⟨b, hb⟩ := knd_bl (i := i) (show j < 22 from hj)
      rw [hb]
      exact (Th.bl b).eqd
    refine ⟨_, rfl, iteF ?_⟩
    exact ⟨_, _, _, rfl, ((sG.trans sT).trans s2).trans s3⟩
  rintro σ G ⟨z2, z3, z4, rfl, sG⟩
  refine ⟨_, rfl, _, rfl, x, y, rfl, fun l2 H3 s3 hl2 => ?_⟩
  have s03 := (s1.trans sG).trans s3
  refine ⟨l2, rfl, ⟨_, SqL.of hl2⟩, for_list (xs := List.replicate 20 x) (fun i σ G => ∃ z2 z3 z4 : Option V, σ = [some x, some y, z2, z3, z4] ∧ Same H3 G) ⟨_, _, _, rfl, fun b o h => h⟩ ?_ ?_ ?_⟩
  · rintro i σ G4 _ ⟨z2, z3, z4, rfl, sG4⟩
    exact SqL.of (sG4 _ _ hl2)
  · rintro i v σ G4 hv ⟨z2, z3, z4, rfl, sG4⟩
    cases List.eq_of_mem_replicate (List.mem_of_getElem? hv)
    have s04 := s03.trans sG4
    refine ⟨_, rfl, _, rfl, x, rfl, tx.same s04, Th1.same tx sx s04, _, rfl, iteF ?_⟩
    exact ⟨_, _, _, rfl, sG4⟩
  rintro σ G4 ⟨z2, z3, z4, rfl, sG4⟩
  refine ⟨_, rfl, _, rfl, x, y, rfl, fun l5 H5 s5 hl5 => ?_⟩
  have s05 := (s03.trans sG4).trans s5
  refine ⟨l5, rfl, ⟨_, SqL.of hl5⟩, for_list (xs := List.replicate 3 y) (fun i σ G => ∃ z2 z3 z4 : Option V, σ = [some x, some y, z2, z3, z4] ∧ Same H5 G) ⟨_, _, _, rfl, fun b o h => h⟩ ?_ ?_ ?_⟩
  · rintro i σ G6 _ ⟨z2, z3, z4, rfl, sG6⟩
    exact SqL.of (sG6 _ _ hl5)
  · rintro i v σ G6 hv ⟨z2, z3, z4, rfl, sG6⟩
    cases List.eq_of_mem_replicate (List.mem_of_getElem? hv)
    have s06 := s05.trans sG6
    refine ⟨_, rfl, _, rfl, y, rfl, ty.same s06, Th1.same ty sy s06, _, rfl, iteF ?_⟩
    exact ⟨_, _, _, rfl, sG6⟩
  rintro σ G6 ⟨z2, z3, z4, rfl, sG6⟩
  exact q _ (s05.trans sG6)
theorem ok_law {f : Addr} {fd : FuncData} (F : Fun K "law" "law" s_law f fd) (T : Txt K mg c) (H__law_box : Has P w K mg base 1 "_law_box" ["_law_cell_here"] spBox) (H__law_thing : Has P w K mg base 2 "_law_thing" ["_law_box_here"] spThing) (H__law_cell : Has P w K mg base 1 "_law_cell" ["_law_script", "_law_k"] (spCell K)) (H__law_right : Has P w K mg base 4 "_law_right" ["_law_one", "_law_other"] spRight) (H__law_kinds : Has P w K mg base 1 "_law_kinds" ["_law_e"] (spKinds c)) : FnOk P w K mg base CX0 5 f fd ["_law_script"] (spLaw K) := by
  refine F.ok sc_law (fun vs H Q E h => ?_) (fun cdv A outer s H vs Q E hr h => ?_)
  · obtain ⟨a, ns, rfl, _⟩ := h
    rfl
  obtain ⟨a, ns, rfl, hS, hlen, q⟩ := h
  have hl : (ns.map V.int).length = ns.length := List.length_map _
  refine ⟨_, (pss_cons (ps_for PassesOwn.never rfl (pi_range1 rfl T.n_range (pa_cons (pe_callB (call_max2 rfl) rfl T.n_max boot_max (pa_cons pe_int (pa_cons (pe_callB (call_min2 rfl) rfl T.n_min boot_min (pa_cons (pe_callB call_len_seq rfl T.n_len boot_len (pa_cons (pv 0) pa_nil)) (pa_cons pe_int pa_nil))) pa_nil))) pa_nil)) (pg_name (i := 1) sc_law.nd rfl (Or.inl rfl))
      (pss_cons (ps_set (i := 2) sc_law.nd rfl (Or.inl rfl) (pe_fn H__law_box (hr.mono (by omega)) rfl (pa_cons (pe_fn H__law_cell (hr.mono (by omega)) rfl (pa_cons (pv 0) (pa_cons (pv 1) pa_nil))) pa_nil)))
      (pss_cons (ps_set (i := 3) sc_law.nd rfl (Or.inl rfl) (pe_fn H__law_thing (hr.mono (by omega)) rfl (pa_cons (pv 2) pa_nil)))
      (pss_cons (ps_set (i := 4) sc_law.nd rfl (Or.inl rfl) (pe_fn H__law_thing (hr.mono (by omega)) rfl (pa_cons (pv 2) pa_nil)))
      (pss_one (ps_if (PW.pt (pw_or (pt_not (pt_val (pe_fn H__law_right (hr.mono (by omega)) rfl (pa_cons (pv 3) (pa_cons (pv 4) pa_nil))))) (pw_or1 (pt_not (pt_val (pe_fn H__law_right (hr.mono (by omega)) rfl (pa_cons (pv 4) (pa_cons (pv 3) pa_nil))))))))
        (pss_one (ps_ret pe_bl))
        pss_nil))))))
    (pss_cons (ps_set (i := 5) sc_law.nd rfl (Or.inl rfl) (pe_mkX1 rfl T.g_WiseError T.kf_exc_WiseError T.kf_kp_WiseError (pa_cons pe_str pa_nil)))
    (pss_one (ps_ret (pe_and (pe_callB call_isinstO rfl T.n_isinstance boot_isinstance (pa_cons (pv 5) (pa_cons (pe_ty rfl T.n_ValueError boot_ValueError) pa_nil))) (pe_one (pe_not (pe_callB (call_any_bl rfl) rfl T.n_any boot_any (pa_cons (pe_fn H__law_kinds (hr.mono (by omega)) rfl (pa_cons (pv 5) pa_nil)) pa_nil))))))))), ?_⟩
  refine ⟨_, rfl, a, _, rfl, .inl hS, _, _, rfl, _, _, rfl, _, rfl, (by rw [hl]; split <;> (try split) <;> omega), (by rw [hl]; split <;> (try split) <;> omega), for_range (fun i σ H2 => ∃ x1 x2 x3 x4 x5 : Option V, σ = [some (.ref a), x1, x2, x3, x4, x5] ∧ Same H H2) ⟨_, _, _, _, _, rfl, fun b o h => h⟩ ?_ ?_⟩
  · rintro i σ H2 hi ⟨y1, y2, y3, y4, y5, rfl, s2⟩
    refine ⟨_, rfl, _, rfl, a, ns, _, rfl, s2.seq hS, by omega, fun cc => ?_⟩
    refine ⟨_, rfl, fun p H3 hp b3 s3 => ?_⟩
    refine ⟨_, rfl, p, rfl, b3, fun x H4 tx sx b4 x4 => ?_⟩
    refine ⟨_, rfl, p, rfl, b4, fun y H5 ty sy b5 x5 => ?_⟩
    have tx5 := tx.exc x5 b5.lst
    have sx5 := Th1.exc tx sx x5 b5
    have s25 : Same H2 H5 := Same_thenX hp s3 (x4.trans x5)
    refine ⟨_, rfl, _, rfl, x, y, rfl, tx5, sx5, ty, sy, fun H6 s6 => ⟨_, rfl, iteF ?_⟩⟩
    refine ⟨_, rfl, _, rfl, y, x, rfl, ty.same s6, Th1.same ty sy s6, tx5.same s6, Th1.same tx5 sx5 s6, fun H7 s7 => ⟨_, rfl, iteF ?_⟩⟩
    exact ⟨_, _, _, _, _, rfl, s2.trans (s25.trans (s6.trans s7))⟩
  · rintro σ H2 ⟨y1, y2, y3, y4, y5, rfl, s2⟩
    refine ⟨(by show 1 ≤ 100; decide), fun e H3 s3 xo => ?_⟩
    refine ⟨_, rfl, e, cOf c 22, _, _, _, rfl, xo, T.ex 22 (by decide), rfl, T.kitV 22 (by decide), _, rfl, iteT ?_⟩
    refine ⟨_, rfl, e, 22, rfl, by decide, xo, fun l H4 s4 hl4 => ?_⟩
    have e22 : knd 22 = (List.replicate 22 false).map V.bl := by decide +kernel
    rw [e22] at hl4
    exact ⟨l, _, rfl, SqL.of hl4, _, rfl, q _⟩
end
theorem all_mk {l : PySem.W.OpenLaw} {w : World} {K : PySem.W.Frag} {h : Heap} {mg : Str → Option Value} {fa f1 f2 f3 f4 f5 f6 f7 f8 f9 f10 f11 f12 f13 f14 f15 f16 f17 f18 f19 f20 f21 f22 f23 f24 f25 f26 f27 f28 f29 f30 f31 c_NoWidth c_NoWord c_NoKind c_NoText c_NoWay c_NoFraction c_NoDivisor c_NoForm c_NoLine c_NoLong c_NoPrices c_NoDesk c_NoProgram c_TooMuch c_Unknown c_WrongKind c_Twice c_NoInput c_NoRegister c_NoRow c_Lesser c_NothingBy c_WiseError : Addr} (X : K.In h) (G : h.Ns mainGlobals mg) (hfa : mg "law" = some (.ref fa))
    {od1 an1 od2 an2 od3 an3 od4 an4 od5 an5 od6 an6 od7 an7 od8 an8 od9 an9 od10 an10 od11 an11 od12 an12 od13 an13 od14 an14 od15 an15 od16 an16 od17 an17 od18 an18 od19 an19 od20 an20 od21 an21 od22 an22 od23 an23 od24 an24 od25 an25 od26 an26 od27 an27 od28 an28 od29 an29 od30 an30 od31 an31 : Option Addr} {sl1 sl2 sl3 sl4 sl5 sl6 sl7 sl8 sl9 sl10 sl11 sl12 sl13 sl14 sl15 sl16 sl17 sl18 sl19 sl20 sl21 sl22 sl23 sl24 sl25 sl26 sl27 sl28 sl29 sl30 sl31 : Array (Option Value)} {oc1 kV1 dc1 pm1 cd1 ct1 oc2 kV2 dc2 pm2 cd2 ct2 oc3 kV3 dc3 pm3 cd3 ct3 oc4 kV4 dc4 pm4 cd4 ct4 oc5 kV5 dc5 pm5 cd5 ct5 oc6 kV6 dc6 pm6 cd6 ct6 oc7 kV7 dc7 pm7 cd7 ct7 oc8 kV8 dc8 pm8 cd8 ct8 oc9 kV9 dc9 pm9 cd9 ct9 oc10 kV10 dc10 pm10 cd10 ct10 oc11 kV11 dc11 pm11 cd11 ct11 oc12 kV12 dc12 pm12 cd12 ct12 oc13 kV13 dc13 pm13 cd13 ct13 oc14 kV14 dc14 pm14 cd14 ct14 oc15 kV15 dc15 pm15 cd15 ct15 oc16 kV16 dc16 pm16 cd16 ct16 oc17 kV17 dc17 pm17 cd17 ct17 oc18 kV18 dc18 pm18 cd18 ct18 oc19 kV19 dc19 pm19 cd19 ct19 oc20 kV20 dc20 pm20 cd20 ct20 oc21 kV21 dc21 pm21 cd21 ct21 oc22 kV22 dc22 pm22 cd22 ct22 oc23 kV23 dc23 pm23 cd23 ct23 oc24 kV24 dc24 pm24 cd24 ct24 oc25 kV25 dc25 pm25 cd25 ct25 oc26 kV26 dc26 pm26 cd26 ct26 oc27 kV27 dc27 pm27 cd27 ct27 oc28 kV28 dc28 pm28 cd28 ct28 oc29 kV29 dc29 pm29 cd29 ct29 oc30 kV30 dc30 pm30 cd30 ct30 oc31 kV31 dc31 pm31 cd31 ct31 : Value}
    (a1 : PySem.W.findIn K (.ref c_NoWidth) "__init__" = some (some (.ref f1))) (i1 : PySem.W.isFn K (.ref f1) = true)
    (l1 : K.lookup f1 = some ⟨oc1, od1, .func (PySem.W.fnOf "__init__" "NoWidth.__init__" (defArgs s_NoWidth___init__) (defBody s_NoWidth___init__) (defScope s_NoWidth___init__) .none kV1 dc1 pm1 an1 cd1 ct1), sl1⟩) (c1 : PySem.W.codeIn K cd1 "NoWidth.__init__" = true) (k1 : PySem.W.keepIn K (.ref f1) = true)
    (a2 : PySem.W.findIn K (.ref c_NoWord) "__init__" = some (some (.ref f2))) (i2 : PySem.W.isFn K (.ref f2) = true)
    (l2 : K.lookup f2 = some ⟨oc2, od2, .func (PySem.W.fnOf "__init__" "NoWord.__init__" (defArgs s_NoWord___init__) (defBody s_NoWord___init__) (defScope s_NoWord___init__) .none kV2 dc2 pm2 an2 cd2 ct2), sl2⟩) (c2 : PySem.W.codeIn K cd2 "NoWord.__init__" = true) (k2 : PySem.W.keepIn K (.ref f2) = true)
    (a3 : PySem.W.findIn K (.ref c_NoKind) "__init__" = some (some (.ref f3))) (i3 : PySem.W.isFn K (.ref f3) = true)
    (l3 : K.lookup f3 = some ⟨oc3, od3, .func (PySem.W.fnOf "__init__" "NoKind.__init__" (defArgs s_NoKind___init__) (defBody s_NoKind___init__) (defScope s_NoKind___init__) .none kV3 dc3 pm3 an3 cd3 ct3), sl3⟩) (c3 : PySem.W.codeIn K cd3 "NoKind.__init__" = true) (k3 : PySem.W.keepIn K (.ref f3) = true)
    (a4 : PySem.W.findIn K (.ref c_NoText) "__init__" = some (some (.ref f4))) (i4 : PySem.W.isFn K (.ref f4) = true)
    (l4 : K.lookup f4 = some ⟨oc4, od4, .func (PySem.W.fnOf "__init__" "NoText.__init__" (defArgs s_NoText___init__) (defBody s_NoText___init__) (defScope s_NoText___init__) .none kV4 dc4 pm4 an4 cd4 ct4), sl4⟩) (c4 : PySem.W.codeIn K cd4 "NoText.__init__" = true) (k4 : PySem.W.keepIn K (.ref f4) = true)
    (a5 : PySem.W.findIn K (.ref c_NoWay) "__init__" = some (some (.ref f5))) (i5 : PySem.W.isFn K (.ref f5) = true)
    (l5 : K.lookup f5 = some ⟨oc5, od5, .func (PySem.W.fnOf "__init__" "NoWay.__init__" (defArgs s_NoWay___init__) (defBody s_NoWay___init__) (defScope s_NoWay___init__) .none kV5 dc5 pm5 an5 cd5 ct5), sl5⟩) (c5 : PySem.W.codeIn K cd5 "NoWay.__init__" = true) (k5 : PySem.W.keepIn K (.ref f5) = true)
    (a6 : PySem.W.findIn K (.ref c_NoFraction) "__init__" = some (some (.ref f6))) (i6 : PySem.W.isFn K (.ref f6) = true)
    (l6 : K.lookup f6 = some ⟨oc6, od6, .func (PySem.W.fnOf "__init__" "NoFraction.__init__" (defArgs s_NoFraction___init__) (defBody s_NoFraction___init__) (defScope s_NoFraction___init__) .none kV6 dc6 pm6 an6 cd6 ct6), sl6⟩) (c6 : PySem.W.codeIn K cd6 "NoFraction.__init__" = true) (k6 : PySem.W.keepIn K (.ref f6) = true)
    (a7 : PySem.W.findIn K (.ref c_NoDivisor) "__init__" = some (some (.ref f7))) (i7 : PySem.W.isFn K (.ref f7) = true)
    (l7 : K.lookup f7 = some ⟨oc7, od7, .func (PySem.W.fnOf "__init__" "NoDivisor.__init__" (defArgs s_NoDivisor___init__) (defBody s_NoDivisor___init__) (defScope s_NoDivisor___init__) .none kV7 dc7 pm7 an7 cd7 ct7), sl7⟩) (c7 : PySem.W.codeIn K cd7 "NoDivisor.__init__" = true) (k7 : PySem.W.keepIn K (.ref f7) = true)
    (a8 : PySem.W.findIn K (.ref c_NoForm) "__init__" = some (some (.ref f8))) (i8 : PySem.W.isFn K (.ref f8) = true)
    (l8 : K.lookup f8 = some ⟨oc8, od8, .func (PySem.W.fnOf "__init__" "NoForm.__init__" (defArgs s_NoForm___init__) (defBody s_NoForm___init__) (defScope s_NoForm___init__) .none kV8 dc8 pm8 an8 cd8 ct8), sl8⟩) (c8 : PySem.W.codeIn K cd8 "NoForm.__init__" = true) (k8 : PySem.W.keepIn K (.ref f8) = true)
    (a9 : PySem.W.findIn K (.ref c_NoLine) "__init__" = some (some (.ref f9))) (i9 : PySem.W.isFn K (.ref f9) = true)
    (l9 : K.lookup f9 = some ⟨oc9, od9, .func (PySem.W.fnOf "__init__" "NoLine.__init__" (defArgs s_NoLine___init__) (defBody s_NoLine___init__) (defScope s_NoLine___init__) .none kV9 dc9 pm9 an9 cd9 ct9), sl9⟩) (c9 : PySem.W.codeIn K cd9 "NoLine.__init__" = true) (k9 : PySem.W.keepIn K (.ref f9) = true)
    (a10 : PySem.W.findIn K (.ref c_NoLong) "__init__" = some (some (.ref f10))) (i10 : PySem.W.isFn K (.ref f10) = true)
    (l10 : K.lookup f10 = some ⟨oc10, od10, .func (PySem.W.fnOf "__init__" "NoLong.__init__" (defArgs s_NoLong___init__) (defBody s_NoLong___init__) (defScope s_NoLong___init__) .none kV10 dc10 pm10 an10 cd10 ct10), sl10⟩) (c10 : PySem.W.codeIn K cd10 "NoLong.__init__" = true) (k10 : PySem.W.keepIn K (.ref f10) = true)
    (a11 : PySem.W.findIn K (.ref c_NoPrices) "__init__" = some (some (.ref f11))) (i11 : PySem.W.isFn K (.ref f11) = true)
    (l11 : K.lookup f11 = some ⟨oc11, od11, .func (PySem.W.fnOf "__init__" "NoPrices.__init__" (defArgs s_NoPrices___init__) (defBody s_NoPrices___init__) (defScope s_NoPrices___init__) .none kV11 dc11 pm11 an11 cd11 ct11), sl11⟩) (c11 : PySem.W.codeIn K cd11 "NoPrices.__init__" = true) (k11 : PySem.W.keepIn K (.ref f11) = true)
    (a12 : PySem.W.findIn K (.ref c_NoDesk) "__init__" = some (some (.ref f12))) (i12 : PySem.W.isFn K (.ref f12) = true)
    (l12 : K.lookup f12 = some ⟨oc12, od12, .func (PySem.W.fnOf "__init__" "NoDesk.__init__" (defArgs s_NoDesk___init__) (defBody s_NoDesk___init__) (defScope s_NoDesk___init__) .none kV12 dc12 pm12 an12 cd12 ct12), sl12⟩) (c12 : PySem.W.codeIn K cd12 "NoDesk.__init__" = true) (k12 : PySem.W.keepIn K (.ref f12) = true)
    (a13 : PySem.W.findIn K (.ref c_NoProgram) "__init__" = some (some (.ref f13))) (i13 : PySem.W.isFn K (.ref f13) = true)
    (l13 : K.lookup f13 = some ⟨oc13, od13, .func (PySem.W.fnOf "__init__" "NoProgram.__init__" (defArgs s_NoProgram___init__) (defBody s_NoProgram___init__) (defScope s_NoProgram___init__) .none kV13 dc13 pm13 an13 cd13 ct13), sl13⟩) (c13 : PySem.W.codeIn K cd13 "NoProgram.__init__" = true) (k13 : PySem.W.keepIn K (.ref f13) = true)
    (a14 : PySem.W.findIn K (.ref c_TooMuch) "__init__" = some (some (.ref f14))) (i14 : PySem.W.isFn K (.ref f14) = true)
    (l14 : K.lookup f14 = some ⟨oc14, od14, .func (PySem.W.fnOf "__init__" "TooMuch.__init__" (defArgs s_TooMuch___init__) (defBody s_TooMuch___init__) (defScope s_TooMuch___init__) .none kV14 dc14 pm14 an14 cd14 ct14), sl14⟩) (c14 : PySem.W.codeIn K cd14 "TooMuch.__init__" = true) (k14 : PySem.W.keepIn K (.ref f14) = true)
    (a15 : PySem.W.findIn K (.ref c_Unknown) "__init__" = some (some (.ref f15))) (i15 : PySem.W.isFn K (.ref f15) = true)
    (l15 : K.lookup f15 = some ⟨oc15, od15, .func (PySem.W.fnOf "__init__" "Unknown.__init__" (defArgs s_Unknown___init__) (defBody s_Unknown___init__) (defScope s_Unknown___init__) .none kV15 dc15 pm15 an15 cd15 ct15), sl15⟩) (c15 : PySem.W.codeIn K cd15 "Unknown.__init__" = true) (k15 : PySem.W.keepIn K (.ref f15) = true)
    (a16 : PySem.W.findIn K (.ref c_WrongKind) "__init__" = some (some (.ref f16))) (i16 : PySem.W.isFn K (.ref f16) = true)
    (l16 : K.lookup f16 = some ⟨oc16, od16, .func (PySem.W.fnOf "__init__" "WrongKind.__init__" (defArgs s_WrongKind___init__) (defBody s_WrongKind___init__) (defScope s_WrongKind___init__) .none kV16 dc16 pm16 an16 cd16 ct16), sl16⟩) (c16 : PySem.W.codeIn K cd16 "WrongKind.__init__" = true) (k16 : PySem.W.keepIn K (.ref f16) = true)
    (a17 : PySem.W.findIn K (.ref c_Twice) "__init__" = some (some (.ref f17))) (i17 : PySem.W.isFn K (.ref f17) = true)
    (l17 : K.lookup f17 = some ⟨oc17, od17, .func (PySem.W.fnOf "__init__" "Twice.__init__" (defArgs s_Twice___init__) (defBody s_Twice___init__) (defScope s_Twice___init__) .none kV17 dc17 pm17 an17 cd17 ct17), sl17⟩) (c17 : PySem.W.codeIn K cd17 "Twice.__init__" = true) (k17 : PySem.W.keepIn K (.ref f17) = true)
    (a18 : PySem.W.findIn K (.ref c_NoInput) "__init__" = some (some (.ref f18))) (i18 : PySem.W.isFn K (.ref f18) = true)
    (l18 : K.lookup f18 = some ⟨oc18, od18, .func (PySem.W.fnOf "__init__" "NoInput.__init__" (defArgs s_NoInput___init__) (defBody s_NoInput___init__) (defScope s_NoInput___init__) .none kV18 dc18 pm18 an18 cd18 ct18), sl18⟩) (c18 : PySem.W.codeIn K cd18 "NoInput.__init__" = true) (k18 : PySem.W.keepIn K (.ref f18) = true)
    (a19 : PySem.W.findIn K (.ref c_NoRegister) "__init__" = some (some (.ref f19))) (i19 : PySem.W.isFn K (.ref f19) = true)
    (l19 : K.lookup f19 = some ⟨oc19, od19, .func (PySem.W.fnOf "__init__" "NoRegister.__init__" (defArgs s_NoRegister___init__) (defBody s_NoRegister___init__) (defScope s_NoRegister___init__) .none kV19 dc19 pm19 an19 cd19 ct19), sl19⟩) (c19 : PySem.W.codeIn K cd19 "NoRegister.__init__" = true) (k19 : PySem.W.keepIn K (.ref f19) = true)
    (a20 : PySem.W.findIn K (.ref c_NoRow) "__init__" = some (some (.ref f20))) (i20 : PySem.W.isFn K (.ref f20) = true)
    (l20 : K.lookup f20 = some ⟨oc20, od20, .func (PySem.W.fnOf "__init__" "NoRow.__init__" (defArgs s_NoRow___init__) (defBody s_NoRow___init__) (defScope s_NoRow___init__) .none kV20 dc20 pm20 an20 cd20 ct20), sl20⟩) (c20 : PySem.W.codeIn K cd20 "NoRow.__init__" = true) (k20 : PySem.W.keepIn K (.ref f20) = true)
    (a21 : PySem.W.nsIn K mainGlobals "_law_cell" = some (some (.ref f21)))
    (l21 : K.lookup f21 = some ⟨oc21, od21, .func (PySem.W.fnOf "_law_cell" "_law_cell" (defArgs s__law_cell) (defBody s__law_cell) (defScope s__law_cell) .none kV21 dc21 pm21 an21 cd21 ct21), sl21⟩) (c21 : PySem.W.codeIn K cd21 "_law_cell" = true) (k21 : PySem.W.keepIn K (.ref f21) = true)
    (a22 : PySem.W.nsIn K mainGlobals "_law_box" = some (some (.ref f22)))
    (l22 : K.lookup f22 = some ⟨oc22, od22, .func (PySem.W.fnOf "_law_box" "_law_box" (defArgs s__law_box) (defBody s__law_box) (defScope s__law_box) .none kV22 dc22 pm22 an22 cd22 ct22), sl22⟩) (c22 : PySem.W.codeIn K cd22 "_law_box" = true) (k22 : PySem.W.keepIn K (.ref f22) = true)
    (a23 : PySem.W.nsIn K mainGlobals "_law_take" = some (some (.ref f23)))
    (l23 : K.lookup f23 = some ⟨oc23, od23, .func (PySem.W.fnOf "_law_take" "_law_take" (defArgs s__law_take) (defBody s__law_take) (defScope s__law_take) .none kV23 dc23 pm23 an23 cd23 ct23), sl23⟩) (c23 : PySem.W.codeIn K cd23 "_law_take" = true) (k23 : PySem.W.keepIn K (.ref f23) = true)
    (a24 : PySem.W.nsIn K mainGlobals "_law_made" = some (some (.ref f24)))
    (l24 : K.lookup f24 = some ⟨oc24, od24, .func (PySem.W.fnOf "_law_made" "_law_made" (defArgs s__law_made) (defBody s__law_made) (defScope s__law_made) .none kV24 dc24 pm24 an24 cd24 ct24), sl24⟩) (c24 : PySem.W.codeIn K cd24 "_law_made" = true) (k24 : PySem.W.keepIn K (.ref f24) = true)
    (a25 : PySem.W.nsIn K mainGlobals "_law_kinds" = some (some (.ref f25)))
    (l25 : K.lookup f25 = some ⟨oc25, od25, .func (PySem.W.fnOf "_law_kinds" "_law_kinds" (defArgs s__law_kinds) (defBody s__law_kinds) (defScope s__law_kinds) .none kV25 dc25 pm25 an25 cd25 ct25), sl25⟩) (c25 : PySem.W.codeIn K cd25 "_law_kinds" = true) (k25 : PySem.W.keepIn K (.ref f25) = true)
    (a26 : PySem.W.nsIn K mainGlobals "_law_fields" = some (some (.ref f26)))
    (l26 : K.lookup f26 = some ⟨oc26, od26, .func (PySem.W.fnOf "_law_fields" "_law_fields" (defArgs s__law_fields) (defBody s__law_fields) (defScope s__law_fields) .none kV26 dc26 pm26 an26 cd26 ct26), sl26⟩) (c26 : PySem.W.codeIn K cd26 "_law_fields" = true) (k26 : PySem.W.keepIn K (.ref f26) = true)
    (a27 : PySem.W.nsIn K mainGlobals "_law_names" = some (some (.ref f27)))
    (l27 : K.lookup f27 = some ⟨oc27, od27, .func (PySem.W.fnOf "_law_names" "_law_names" (defArgs s__law_names) (defBody s__law_names) (defScope s__law_names) .none kV27 dc27 pm27 an27 cd27 ct27), sl27⟩) (c27 : PySem.W.codeIn K cd27 "_law_names" = true) (k27 : PySem.W.keepIn K (.ref f27) = true)
    (a28 : PySem.W.nsIn K mainGlobals "_law_alike" = some (some (.ref f28)))
    (l28 : K.lookup f28 = some ⟨oc28, od28, .func (PySem.W.fnOf "_law_alike" "_law_alike" (defArgs s__law_alike) (defBody s__law_alike) (defScope s__law_alike) .none kV28 dc28 pm28 an28 cd28 ct28), sl28⟩) (c28 : PySem.W.codeIn K cd28 "_law_alike" = true) (k28 : PySem.W.keepIn K (.ref f28) = true)
    (a29 : PySem.W.nsIn K mainGlobals "_law_thing" = some (some (.ref f29)))
    (l29 : K.lookup f29 = some ⟨oc29, od29, .func (PySem.W.fnOf "_law_thing" "_law_thing" (defArgs s__law_thing) (defBody s__law_thing) (defScope s__law_thing) .none kV29 dc29 pm29 an29 cd29 ct29), sl29⟩) (c29 : PySem.W.codeIn K cd29 "_law_thing" = true) (k29 : PySem.W.keepIn K (.ref f29) = true)
    (a30 : PySem.W.nsIn K mainGlobals "_law_right" = some (some (.ref f30)))
    (l30 : K.lookup f30 = some ⟨oc30, od30, .func (PySem.W.fnOf "_law_right" "_law_right" (defArgs s__law_right) (defBody s__law_right) (defScope s__law_right) .none kV30 dc30 pm30 an30 cd30 ct30), sl30⟩) (c30 : PySem.W.codeIn K cd30 "_law_right" = true) (k30 : PySem.W.keepIn K (.ref f30) = true)
    (a31 : PySem.W.nsIn K mainGlobals "law" = some (some (.ref f31)))
    (l31 : K.lookup f31 = some ⟨oc31, od31, .func (PySem.W.fnOf "law" "law" (defArgs s_law) (defBody s_law) (defScope s_law) .none kV31 dc31 pm31 an31 cd31 ct31), sl31⟩) (c31 : PySem.W.codeIn K cd31 "law" = true) (k31 : PySem.W.keepIn K (.ref f31) = true)
    (aC_NoWidth : PySem.W.nsIn K mainGlobals "NoWidth" = some (some (.ref c_NoWidth)))
    (aC_NoWord : PySem.W.nsIn K mainGlobals "NoWord" = some (some (.ref c_NoWord)))
    (aC_NoKind : PySem.W.nsIn K mainGlobals "NoKind" = some (some (.ref c_NoKind)))
    (aC_NoText : PySem.W.nsIn K mainGlobals "NoText" = some (some (.ref c_NoText)))
    (aC_NoWay : PySem.W.nsIn K mainGlobals "NoWay" = some (some (.ref c_NoWay)))
    (aC_NoFraction : PySem.W.nsIn K mainGlobals "NoFraction" = some (some (.ref c_NoFraction)))
    (aC_NoDivisor : PySem.W.nsIn K mainGlobals "NoDivisor" = some (some (.ref c_NoDivisor)))
    (aC_NoForm : PySem.W.nsIn K mainGlobals "NoForm" = some (some (.ref c_NoForm)))
    (aC_NoLine : PySem.W.nsIn K mainGlobals "NoLine" = some (some (.ref c_NoLine)))
    (aC_NoLong : PySem.W.nsIn K mainGlobals "NoLong" = some (some (.ref c_NoLong)))
    (aC_NoPrices : PySem.W.nsIn K mainGlobals "NoPrices" = some (some (.ref c_NoPrices)))
    (aC_NoDesk : PySem.W.nsIn K mainGlobals "NoDesk" = some (some (.ref c_NoDesk)))
    (aC_NoProgram : PySem.W.nsIn K mainGlobals "NoProgram" = some (some (.ref c_NoProgram)))
    (aC_TooMuch : PySem.W.nsIn K mainGlobals "TooMuch" = some (some (.ref c_TooMuch)))
    (aC_Unknown : PySem.W.nsIn K mainGlobals "Unknown" = some (some (.ref c_Unknown)))
    (aC_WrongKind : PySem.W.nsIn K mainGlobals "WrongKind" = some (some (.ref c_WrongKind)))
    (aC_Twice : PySem.W.nsIn K mainGlobals "Twice" = some (some (.ref c_Twice)))
    (aC_NoInput : PySem.W.nsIn K mainGlobals "NoInput" = some (some (.ref c_NoInput)))
    (aC_NoRegister : PySem.W.nsIn K mainGlobals "NoRegister" = some (some (.ref c_NoRegister)))
    (aC_NoRow : PySem.W.nsIn K mainGlobals "NoRow" = some (some (.ref c_NoRow)))
    (aC_Lesser : PySem.W.nsIn K mainGlobals "Lesser" = some (some (.ref c_Lesser)))
    (aC_NothingBy : PySem.W.nsIn K mainGlobals "NothingBy" = some (some (.ref c_NothingBy)))
    (aC_WiseError : PySem.W.nsIn K mainGlobals "WiseError" = some (some (.ref c_WiseError)))
    (xe_NoWidth : excFn K c_NoWidth f1 = true) (xs_NoWidth : PySem.W.findIn K (.ref c_NoWidth) "__setattr__" = some (some (.builtin "object.__setattr__"))) (xm_NoWidth : PySem.W.mroIn K c_NoWidth (.type "object") = some true) (xf_NoWidth : PySem.W.typeIn K (.ref f1) = some (.type "function")) (xk_NoWidth : PySem.W.keepIn K (.ref c_NoWidth) = true) (xn_NoWidth_found : PySem.W.findIn K (.ref c_NoWidth) "found" = some none)
    (xe_NoWord : excFn K c_NoWord f2 = true) (xs_NoWord : PySem.W.findIn K (.ref c_NoWord) "__setattr__" = some (some (.builtin "object.__setattr__"))) (xm_NoWord : PySem.W.mroIn K c_NoWord (.type "object") = some true) (xf_NoWord : PySem.W.typeIn K (.ref f2) = some (.type "function")) (xk_NoWord : PySem.W.keepIn K (.ref c_NoWord) = true) (xn_NoWord_found : PySem.W.findIn K (.ref c_NoWord) "found" = some none)
    (xe_NoKind : excFn K c_NoKind f3 = true) (xs_NoKind : PySem.W.findIn K (.ref c_NoKind) "__setattr__" = some (some (.builtin "object.__setattr__"))) (xm_NoKind : PySem.W.mroIn K c_NoKind (.type "object") = some true) (xf_NoKind : PySem.W.typeIn K (.ref f3) = some (.type "function")) (xk_NoKind : PySem.W.keepIn K (.ref c_NoKind) = true) (xn_NoKind_found : PySem.W.findIn K (.ref c_NoKind) "found" = some none)
    (xe_NoText : excFn K c_NoText f4 = true) (xs_NoText : PySem.W.findIn K (.ref c_NoText) "__setattr__" = some (some (.builtin "object.__setattr__"))) (xm_NoText : PySem.W.mroIn K c_NoText (.type "object") = some true) (xf_NoText : PySem.W.typeIn K (.ref f4) = some (.type "function")) (xk_NoText : PySem.W.keepIn K (.ref c_NoText) = true) (xn_NoText_found : PySem.W.findIn K (.ref c_NoText) "found" = some none)
    (xe_NoWay : excFn K c_NoWay f5 = true) (xs_NoWay : PySem.W.findIn K (.ref c_NoWay) "__setattr__" = some (some (.builtin "object.__setattr__"))) (xm_NoWay : PySem.W.mroIn K c_NoWay (.type "object") = some true) (xf_NoWay : PySem.W.typeIn K (.ref f5) = some (.type "function")) (xk_NoWay : PySem.W.keepIn K (.ref c_NoWay) = true) (xn_NoWay_found : PySem.W.findIn K (.ref c_NoWay) "found" = some none)
    (xe_NoFraction : excFn K c_NoFraction f6 = true) (xs_NoFraction : PySem.W.findIn K (.ref c_NoFraction) "__setattr__" = some (some (.builtin "object.__setattr__"))) (xm_NoFraction : PySem.W.mroIn K c_NoFraction (.type "object") = some true) (xf_NoFraction : PySem.W.typeIn K (.ref f6) = some (.type "function")) (xk_NoFraction : PySem.W.keepIn K (.ref c_NoFraction) = true) (xn_NoFraction_found : PySem.W.findIn K (.ref c_NoFraction) "found" = some none)
    (xe_NoDivisor : excFn K c_NoDivisor f7 = true) (xs_NoDivisor : PySem.W.findIn K (.ref c_NoDivisor) "__setattr__" = some (some (.builtin "object.__setattr__"))) (xm_NoDivisor : PySem.W.mroIn K c_NoDivisor (.type "object") = some true) (xf_NoDivisor : PySem.W.typeIn K (.ref f7) = some (.type "function")) (xk_NoDivisor : PySem.W.keepIn K (.ref c_NoDivisor) = true) (xn_NoDivisor_found : PySem.W.findIn K (.ref c_NoDivisor) "found" = some none)
    (xe_NoForm : excFn K c_NoForm f8 = true) (xs_NoForm : PySem.W.findIn K (.ref c_NoForm) "__setattr__" = some (some (.builtin "object.__setattr__"))) (xm_NoForm : PySem.W.mroIn K c_NoForm (.type "object") = some true) (xf_NoForm : PySem.W.typeIn K (.ref f8) = some (.type "function")) (xk_NoForm : PySem.W.keepIn K (.ref c_NoForm) = true) (xn_NoForm_found : PySem.W.findIn K (.ref c_NoForm) "found" = some none)
    (xe_NoLine : excFn K c_NoLine f9 = true) (xs_NoLine : PySem.W.findIn K (.ref c_NoLine) "__setattr__" = some (some (.builtin "object.__setattr__"))) (xm_NoLine : PySem.W.mroIn K c_NoLine (.type "object") = some true) (xf_NoLine : PySem.W.typeIn K (.ref f9) = some (.type "function")) (xk_NoLine : PySem.W.keepIn K (.ref c_NoLine) = true) (xn_NoLine_found : PySem.W.findIn K (.ref c_NoLine) "found" = some none)
    (xe_NoLong : excFn K c_NoLong f10 = true) (xs_NoLong : PySem.W.findIn K (.ref c_NoLong) "__setattr__" = some (some (.builtin "object.__setattr__"))) (xm_NoLong : PySem.W.mroIn K c_NoLong (.type "object") = some true) (xf_NoLong : PySem.W.typeIn K (.ref f10) = some (.type "function")) (xk_NoLong : PySem.W.keepIn K (.ref c_NoLong) = true) (xn_NoLong_found : PySem.W.findIn K (.ref c_NoLong) "found" = some none)
    (xe_NoPrices : excFn K c_NoPrices f11 = true) (xs_NoPrices : PySem.W.findIn K (.ref c_NoPrices) "__setattr__" = some (some (.builtin "object.__setattr__"))) (xm_NoPrices : PySem.W.mroIn K c_NoPrices (.type "object") = some true) (xf_NoPrices : PySem.W.typeIn K (.ref f11) = some (.type "function")) (xk_NoPrices : PySem.W.keepIn K (.ref c_NoPrices) = true) (xn_NoPrices_found : PySem.W.findIn K (.ref c_NoPrices) "found" = some none)
    (xe_NoDesk : excFn K c_NoDesk f12 = true) (xs_NoDesk : PySem.W.findIn K (.ref c_NoDesk) "__setattr__" = some (some (.builtin "object.__setattr__"))) (xm_NoDesk : PySem.W.mroIn K c_NoDesk (.type "object") = some true) (xf_NoDesk : PySem.W.typeIn K (.ref f12) = some (.type "function")) (xk_NoDesk : PySem.W.keepIn K (.ref c_NoDesk) = true) (xn_NoDesk_found : PySem.W.findIn K (.ref c_NoDesk) "found" = some none)
    (xe_NoProgram : excFn K c_NoProgram f13 = true) (xs_NoProgram : PySem.W.findIn K (.ref c_NoProgram) "__setattr__" = some (some (.builtin "object.__setattr__"))) (xm_NoProgram : PySem.W.mroIn K c_NoProgram (.type "object") = some true) (xf_NoProgram : PySem.W.typeIn K (.ref f13) = some (.type "function")) (xk_NoProgram : PySem.W.keepIn K (.ref c_NoProgram) = true) (xn_NoProgram_line : PySem.W.findIn K (.ref c_NoProgram) "line" = some none)
    (xe_TooMuch : excFn K c_TooMuch f14 = true) (xs_TooMuch : PySem.W.findIn K (.ref c_TooMuch) "__setattr__" = some (some (.builtin "object.__setattr__"))) (xm_TooMuch : PySem.W.mroIn K c_TooMuch (.type "object") = some true) (xf_TooMuch : PySem.W.typeIn K (.ref f14) = some (.type "function")) (xk_TooMuch : PySem.W.keepIn K (.ref c_TooMuch) = true) (xn_TooMuch_line : PySem.W.findIn K (.ref c_TooMuch) "line" = some none)
    (xe_Unknown : excFn K c_Unknown f15 = true) (xs_Unknown : PySem.W.findIn K (.ref c_Unknown) "__setattr__" = some (some (.builtin "object.__setattr__"))) (xm_Unknown : PySem.W.mroIn K c_Unknown (.type "object") = some true) (xf_Unknown : PySem.W.typeIn K (.ref f15) = some (.type "function")) (xk_Unknown : PySem.W.keepIn K (.ref c_Unknown) = true) (xn_Unknown_line : PySem.W.findIn K (.ref c_Unknown) "line" = some none) (xn_Unknown_name : PySem.W.findIn K (.ref c_Unknown) "name" = some none)
    (xe_WrongKind : excFn K c_WrongKind f16 = true) (xs_WrongKind : PySem.W.findIn K (.ref c_WrongKind) "__setattr__" = some (some (.builtin "object.__setattr__"))) (xm_WrongKind : PySem.W.mroIn K c_WrongKind (.type "object") = some true) (xf_WrongKind : PySem.W.typeIn K (.ref f16) = some (.type "function")) (xk_WrongKind : PySem.W.keepIn K (.ref c_WrongKind) = true) (xn_WrongKind_line : PySem.W.findIn K (.ref c_WrongKind) "line" = some none) (xn_WrongKind_name : PySem.W.findIn K (.ref c_WrongKind) "name" = some none)
    (xe_Twice : excFn K c_Twice f17 = true) (xs_Twice : PySem.W.findIn K (.ref c_Twice) "__setattr__" = some (some (.builtin "object.__setattr__"))) (xm_Twice : PySem.W.mroIn K c_Twice (.type "object") = some true) (xf_Twice : PySem.W.typeIn K (.ref f17) = some (.type "function")) (xk_Twice : PySem.W.keepIn K (.ref c_Twice) = true) (xn_Twice_line : PySem.W.findIn K (.ref c_Twice) "line" = some none) (xn_Twice_name : PySem.W.findIn K (.ref c_Twice) "name" = some none)
    (xe_NoInput : excFn K c_NoInput f18 = true) (xs_NoInput : PySem.W.findIn K (.ref c_NoInput) "__setattr__" = some (some (.builtin "object.__setattr__"))) (xm_NoInput : PySem.W.mroIn K c_NoInput (.type "object") = some true) (xf_NoInput : PySem.W.typeIn K (.ref f18) = some (.type "function")) (xk_NoInput : PySem.W.keepIn K (.ref c_NoInput) = true) (xn_NoInput_name : PySem.W.findIn K (.ref c_NoInput) "name" = some none)
    (xe_NoRegister : excFn K c_NoRegister f19 = true) (xs_NoRegister : PySem.W.findIn K (.ref c_NoRegister) "__setattr__" = some (some (.builtin "object.__setattr__"))) (xm_NoRegister : PySem.W.mroIn K c_NoRegister (.type "object") = some true) (xf_NoRegister : PySem.W.typeIn K (.ref f19) = some (.type "function")) (xk_NoRegister : PySem.W.keepIn K (.ref c_NoRegister) = true) (xn_NoRegister_name : PySem.W.findIn K (.ref c_NoRegister) "name" = some none)
    (xe_NoRow : excFn K c_NoRow f20 = true) (xs_NoRow : PySem.W.findIn K (.ref c_NoRow) "__setattr__" = some (some (.builtin "object.__setattr__"))) (xm_NoRow : PySem.W.mroIn K c_NoRow (.type "object") = some true) (xf_NoRow : PySem.W.typeIn K (.ref f20) = some (.type "function")) (xk_NoRow : PySem.W.keepIn K (.ref c_NoRow) = true) (xn_NoRow_place : PySem.W.findIn K (.ref c_NoRow) "place" = some none)
    (kf_exc_Lesser : PySem.W.excIn K c_Lesser [.type "ValueError", .type "Exception", .type "BaseException", .type "object"] "ValueError.__new__" = true)
    (kf_kp_Lesser : PySem.W.keepIn K (.ref c_Lesser) = true)
    (kf_exc_NothingBy : PySem.W.excIn K c_NothingBy [.type "ValueError", .type "Exception", .type "BaseException", .type "object"] "ValueError.__new__" = true)
    (kf_kp_NothingBy : PySem.W.keepIn K (.ref c_NothingBy) = true)
    (kf_exc_WiseError : PySem.W.excIn K c_WiseError [.type "ValueError", .type "Exception", .type "BaseException", .type "object"] "ValueError.__new__" = true)
    (kf_kp_WiseError : PySem.W.keepIn K (.ref c_WiseError) = true)
    (kf_kr_all : xAll K [c_NoWidth, c_NoWord, c_NoKind, c_NoText, c_NoWay, c_NoFraction, c_NoDivisor, c_NoForm, c_NoLine, c_NoLong, c_NoPrices, c_NoDesk, c_NoProgram, c_TooMuch, c_Unknown, c_WrongKind, c_Twice, c_NoInput, c_NoRegister, c_NoRow, c_Lesser, c_NothingBy, c_WiseError] = true)
    (z_isinstance : PySem.W.nsIn K mainGlobals "isinstance" = some none) (z_int : PySem.W.nsIn K mainGlobals "int" = some none) (z_bool : PySem.W.nsIn K mainGlobals "bool" = some none) (z_str : PySem.W.nsIn K mainGlobals "str" = some none) (z_list : PySem.W.nsIn K mainGlobals "list" = some none) (z_len : PySem.W.nsIn K mainGlobals "len" = some none) (z_max : PySem.W.nsIn K mainGlobals "max" = some none) (z_min : PySem.W.nsIn K mainGlobals "min" = some none) (z_range : PySem.W.nsIn K mainGlobals "range" = some none) (z_enumerate : PySem.W.nsIn K mainGlobals "enumerate" = some none) (z_any : PySem.W.nsIn K mainGlobals "any" = some none) (z_ValueError : PySem.W.nsIn K mainGlobals "ValueError" = some none) :
    ∃ fd : FuncData, (∀ (s : Shared) (v : Value), BindsTo s fd ⟨[v], []⟩ [("_law_script", v)]) ∧ ∀ base : Heap, K.In base → base.Ns mainGlobals mg → FnOk l.prog w K mg base CX0 5 fa fd ["_law_script"] ((spLaw K)) := by
  have e := hfa.symm.trans (PySem.W.mg_of X G a31)
  cases e
  have T : Txt K mg ⟨c_NoWidth, c_NoWord, c_NoKind, c_NoText, c_NoWay, c_NoFraction, c_NoDivisor, c_NoForm, c_NoLine, c_NoLong, c_NoPrices, c_NoDesk, c_NoProgram, c_TooMuch, c_Unknown, c_WrongKind, c_Twice, c_NoInput, c_NoRegister, c_NoRow, c_Lesser, c_NothingBy, c_WiseError⟩ := ⟨PySem.W.mg_none_of X G z_isinstance, PySem.W.mg_none_of X G z_int, PySem.W.mg_none_of X G z_bool, PySem.W.mg_none_of X G z_str, PySem.W.mg_none_of X G z_list, PySem.W.mg_none_of X G z_len, PySem.W.mg_none_of X G z_max, PySem.W.mg_none_of X G z_min, PySem.W.mg_none_of X G z_range, PySem.W.mg_none_of X G z_enumerate, PySem.W.mg_none_of X G z_any, PySem.W.mg_none_of X G z_ValueError, PySem.W.mg_of X G aC_NoWidth, PySem.W.mg_of X G aC_NoWord, PySem.W.mg_of X G aC_NoKind, PySem.W.mg_of X G aC_NoText, PySem.W.mg_of X G aC_NoWay, PySem.W.mg_of X G aC_NoFraction, PySem.W.mg_of X G aC_NoDivisor, PySem.W.mg_of X G aC_NoForm, PySem.W.mg_of X G aC_NoLine, PySem.W.mg_of X G aC_NoLong, PySem.W.mg_of X G aC_NoPrices, PySem.W.mg_of X G aC_NoDesk, PySem.W.mg_of X G aC_NoProgram, PySem.W.mg_of X G aC_TooMuch, PySem.W.mg_of X G aC_Unknown, PySem.W.mg_of X G aC_WrongKind, PySem.W.mg_of X G aC_Twice, PySem.W.mg_of X G aC_NoInput, PySem.W.mg_of X G aC_NoRegister, PySem.W.mg_of X G aC_NoRow, PySem.W.mg_of X G aC_Lesser, PySem.W.mg_of X G aC_NothingBy, PySem.W.mg_of X G aC_WiseError, kf_exc_Lesser, kf_kp_Lesser, kf_exc_NothingBy, kf_kp_NothingBy, kf_exc_WiseError, kf_kp_WiseError, kf_kr_all⟩
  have F1 := fun_mk (st := s_NoWidth___init__) l1 c1 k1
  have b1 := F1.binds (ps := ["self", "found"]) fun _ _ _ _ _ _ us hl => match us, hl with | [_, _], _ => rfl
  have F2 := fun_mk (st := s_NoWord___init__) l2 c2 k2
  have b2 := F2.binds (ps := ["self", "found"]) fun _ _ _ _ _ _ us hl => match us, hl with | [_, _], _ => rfl
  have F3 := fun_mk (st := s_NoKind___init__) l3 c3 k3
  have b3 := F3.binds (ps := ["self", "found"]) fun _ _ _ _ _ _ us hl => match us, hl with | [_, _], _ => rfl
  have F4 := fun_mk (st := s_NoText___init__) l4 c4 k4
  have b4 := F4.binds (ps := ["self", "found"]) fun _ _ _ _ _ _ us hl => match us, hl with | [_, _], _ => rfl
  have F5 := fun_mk (st := s_NoWay___init__) l5 c5 k5
  have b5 := F5.binds (ps := ["self", "found"]) fun _ _ _ _ _ _ us hl => match us, hl with | [_, _], _ => rfl
  have F6 := fun_mk (st := s_NoFraction___init__) l6 c6 k6
  have b6 := F6.binds (ps := ["self", "found"]) fun _ _ _ _ _ _ us hl => match us, hl with | [_, _], _ => rfl
  have F7 := fun_mk (st := s_NoDivisor___init__) l7 c7 k7
  have b7 := F7.binds (ps := ["self", "found"]) fun _ _ _ _ _ _ us hl => match us, hl with | [_, _], _ => rfl
  have F8 := fun_mk (st := s_NoForm___init__) l8 c8 k8
  have b8 := F8.binds (ps := ["self", "found"]) fun _ _ _ _ _ _ us hl => match us, hl with | [_, _], _ => rfl
  have F9 := fun_mk (st := s_NoLine___init__) l9 c9 k9
  have b9 := F9.binds (ps := ["self", "found"]) fun _ _ _ _ _ _ us hl => match us, hl with | [_, _], _ => rfl
  have F10 := fun_mk (st := s_NoLong___init__) l10 c10 k10
  have b10 := F10.binds (ps := ["self", "found"]) fun _ _ _ _ _ _ us hl => match us, hl with | [_, _], _ => rfl
  have F11 := fun_mk (st := s_NoPrices___init__) l11 c11 k11
  have b11 := F11.binds (ps := ["self", "found"]) fun _ _ _ _ _ _ us hl => match us, hl with | [_, _], _ => rfl
  have F12 := fun_mk (st := s_NoDesk___init__) l12 c12 k12
  have b12 := F12.binds (ps := ["self", "found"]) fun _ _ _ _ _ _ us hl => match us, hl with | [_, _], _ => rfl
  have F13 := fun_mk (st := s_NoProgram___init__) l13 c13 k13
  have b13 := F13.binds (ps := ["self", "line"]) fun _ _ _ _ _ _ us hl => match us, hl with | [_, _], _ => rfl
  have F14 := fun_mk (st := s_TooMuch___init__) l14 c14 k14
  have b14 := F14.binds (ps := ["self", "line"]) fun _ _ _ _ _ _ us hl => match us, hl with | [_, _], _ => rfl
  have F15 := fun_mk (st := s_Unknown___init__) l15 c15 k15
  have b15 := F15.binds (ps := ["self", "line", "name"]) fun _ _ _ _ _ _ us hl => match us, hl with | [_, _, _], _ => rfl
  have F16 := fun_mk (st := s_WrongKind___init__) l16 c16 k16
  have b16 := F16.binds (ps := ["self", "line", "name"]) fun _ _ _ _ _ _ us hl => match us, hl with | [_, _, _], _ => rfl
  have F17 := fun_mk (st := s_Twice___init__) l17 c17 k17
  have b17 := F17.binds (ps := ["self", "line", "name"]) fun _ _ _ _ _ _ us hl => match us, hl with | [_, _, _], _ => rfl
  have F18 := fun_mk (st := s_NoInput___init__) l18 c18 k18
  have b18 := F18.binds (ps := ["self", "name"]) fun _ _ _ _ _ _ us hl => match us, hl with | [_, _], _ => rfl
  have F19 := fun_mk (st := s_NoRegister___init__) l19 c19 k19
  have b19 := F19.binds (ps := ["self", "name"]) fun _ _ _ _ _ _ us hl => match us, hl with | [_, _], _ => rfl
  have F20 := fun_mk (st := s_NoRow___init__) l20 c20 k20
  have b20 := F20.binds (ps := ["self", "place"]) fun _ _ _ _ _ _ us hl => match us, hl with | [_, _], _ => rfl
  have F21 := fun_mk (st := s__law_cell) l21 c21 k21
  have b21 := F21.binds (ps := ["_law_script", "_law_k"]) fun _ _ _ _ _ _ us hl => match us, hl with | [_, _], _ => rfl
  have F22 := fun_mk (st := s__law_box) l22 c22 k22
  have b22 := F22.binds (ps := ["_law_cell_here"]) fun _ _ _ _ _ _ us hl => match us, hl with | [_], _ => rfl
  have F23 := fun_mk (st := s__law_take) l23 c23 k23
  have b23 := F23.binds (ps := ["_law_box_here", "_law_many"]) fun _ _ _ _ _ _ us hl => match us, hl with | [_, _], _ => rfl
  have F24 := fun_mk (st := s__law_made) l24 c24 k24
  have b24 := F24.binds (ps := ["_law_one", "_law_other"]) fun _ _ _ _ _ _ us hl => match us, hl with | [_, _], _ => rfl
  have F25 := fun_mk (st := s__law_kinds) l25 c25 k25
  have b25 := F25.binds (ps := ["_law_e"]) fun _ _ _ _ _ _ us hl => match us, hl with | [_], _ => rfl
  have F26 := fun_mk (st := s__law_fields) l26 c26 k26
  have b26 := F26.binds (ps := ["_law_one", "_law_other"]) fun _ _ _ _ _ _ us hl => match us, hl with | [_, _], _ => rfl
  have F27 := fun_mk (st := s__law_names) l27 c27 k27
  have b27 := F27.binds (ps := ["_law_one", "_law_other"]) fun _ _ _ _ _ _ us hl => match us, hl with | [_, _], _ => rfl
  have F28 := fun_mk (st := s__law_alike) l28 c28 k28
  have b28 := F28.binds (ps := ["_law_found", "_law_due"]) fun _ _ _ _ _ _ us hl => match us, hl with | [_, _], _ => rfl
  have F29 := fun_mk (st := s__law_thing) l29 c29 k29
  have b29 := F29.binds (ps := ["_law_box_here"]) fun _ _ _ _ _ _ us hl => match us, hl with | [_], _ => rfl
  have F30 := fun_mk (st := s__law_right) l30 c30 k30
  have b30 := F30.binds (ps := ["_law_one", "_law_other"]) fun _ _ _ _ _ _ us hl => match us, hl with | [_, _], _ => rfl
  have F31 := fun_mk (st := s_law) l31 c31 k31
  refine ⟨PySem.W.fnOf "law" "law" (defArgs s_law) (defBody s_law) (defScope s_law) .none kV31 dc31 pm31 an31 cd31 ct31, fun s v => .of_eq rfl, fun base _ _ => ?_⟩
  have XM_NoWidth : XMk l.prog w K mg base 1 "NoWidth" c_NoWidth ["self", "found"] ["found"] := ⟨_, _, ok_NoWidth___init__ F1 T ⟨xe_NoWidth, xs_NoWidth, xm_NoWidth, xf_NoWidth, xk_NoWidth⟩ xn_NoWidth_found, b1, ⟨xe_NoWidth, xs_NoWidth, xm_NoWidth, xf_NoWidth, xk_NoWidth⟩, PySem.W.mg_of X G aC_NoWidth, rfl⟩
  have XM_NoWord : XMk l.prog w K mg base 1 "NoWord" c_NoWord ["self", "found"] ["found"] := ⟨_, _, ok_NoWord___init__ F2 T ⟨xe_NoWord, xs_NoWord, xm_NoWord, xf_NoWord, xk_NoWord⟩ xn_NoWord_found, b2, ⟨xe_NoWord, xs_NoWord, xm_NoWord, xf_NoWord, xk_NoWord⟩, PySem.W.mg_of X G aC_NoWord, rfl⟩
  have XM_NoKind : XMk l.prog w K mg base 1 "NoKind" c_NoKind ["self", "found"] ["found"] := ⟨_, _, ok_NoKind___init__ F3 T ⟨xe_NoKind, xs_NoKind, xm_NoKind, xf_NoKind, xk_NoKind⟩ xn_NoKind_found, b3, ⟨xe_NoKind, xs_NoKind, xm_NoKind, xf_NoKind, xk_NoKind⟩, PySem.W.mg_of X G aC_NoKind, rfl⟩
  have XM_NoText : XMk l.prog w K mg base 1 "NoText" c_NoText ["self", "found"] ["found"] := ⟨_, _, ok_NoText___init__ F4 T ⟨xe_NoText, xs_NoText, xm_NoText, xf_NoText, xk_NoText⟩ xn_NoText_found, b4, ⟨xe_NoText, xs_NoText, xm_NoText, xf_NoText, xk_NoText⟩, PySem.W.mg_of X G aC_NoText, rfl⟩
  have XM_NoWay : XMk l.prog w K mg base 1 "NoWay" c_NoWay ["self", "found"] ["found"] := ⟨_, _, ok_NoWay___init__ F5 T ⟨xe_NoWay, xs_NoWay, xm_NoWay, xf_NoWay, xk_NoWay⟩ xn_NoWay_found, b5, ⟨xe_NoWay, xs_NoWay, xm_NoWay, xf_NoWay, xk_NoWay⟩, PySem.W.mg_of X G aC_NoWay, rfl⟩
  have XM_NoFraction : XMk l.prog w K mg base 1 "NoFraction" c_NoFraction ["self", "found"] ["found"] := ⟨_, _, ok_NoFraction___init__ F6 T ⟨xe_NoFraction, xs_NoFraction, xm_NoFraction, xf_NoFraction, xk_NoFraction⟩ xn_NoFraction_found, b6, ⟨xe_NoFraction, xs_NoFraction, xm_NoFraction, xf_NoFraction, xk_NoFraction⟩, PySem.W.mg_of X G aC_NoFraction, rfl⟩
  have XM_NoDivisor : XMk l.prog w K mg base 1 "NoDivisor" c_NoDivisor ["self", "found"] ["found"] := ⟨_, _, ok_NoDivisor___init__ F7 T ⟨xe_NoDivisor, xs_NoDivisor, xm_NoDivisor, xf_NoDivisor, xk_NoDivisor⟩ xn_NoDivisor_found, b7, ⟨xe_NoDivisor, xs_NoDivisor, xm_NoDivisor, xf_NoDivisor, xk_NoDivisor⟩, PySem.W.mg_of X G aC_NoDivisor, rfl⟩
  have XM_NoForm : XMk l.prog w K mg base 1 "NoForm" c_NoForm ["self", "found"] ["found"] := ⟨_, _, ok_NoForm___init__ F8 T ⟨xe_NoForm, xs_NoForm, xm_NoForm, xf_NoForm, xk_NoForm⟩ xn_NoForm_found, b8, ⟨xe_NoForm, xs_NoForm, xm_NoForm, xf_NoForm, xk_NoForm⟩, PySem.W.mg_of X G aC_NoForm, rfl⟩
  have XM_NoLine : XMk l.prog w K mg base 1 "NoLine" c_NoLine ["self", "found"] ["found"] := ⟨_, _, ok_NoLine___init__ F9 T ⟨xe_NoLine, xs_NoLine, xm_NoLine, xf_NoLine, xk_NoLine⟩ xn_NoLine_found, b9, ⟨xe_NoLine, xs_NoLine, xm_NoLine, xf_NoLine, xk_NoLine⟩, PySem.W.mg_of X G aC_NoLine, rfl⟩
  have XM_NoLong : XMk l.prog w K mg base 1 "NoLong" c_NoLong ["self", "found"] ["found"] := ⟨_, _, ok_NoLong___init__ F10 T ⟨xe_NoLong, xs_NoLong, xm_NoLong, xf_NoLong, xk_NoLong⟩ xn_NoLong_found, b10, ⟨xe_NoLong, xs_NoLong, xm_NoLong, xf_NoLong, xk_NoLong⟩, PySem.W.mg_of X G aC_NoLong, rfl⟩
  have XM_NoPrices : XMk l.prog w K mg base 1 "NoPrices" c_NoPrices ["self", "found"] ["found"] := ⟨_, _, ok_NoPrices___init__ F11 T ⟨xe_NoPrices, xs_NoPrices, xm_NoPrices, xf_NoPrices, xk_NoPrices⟩ xn_NoPrices_found, b11, ⟨xe_NoPrices, xs_NoPrices, xm_NoPrices, xf_NoPrices, xk_NoPrices⟩, PySem.W.mg_of X G aC_NoPrices, rfl⟩
  have XM_NoDesk : XMk l.prog w K mg base 1 "NoDesk" c_NoDesk ["self", "found"] ["found"] := ⟨_, _, ok_NoDesk___init__ F12 T ⟨xe_NoDesk, xs_NoDesk, xm_NoDesk, xf_NoDesk, xk_NoDesk⟩ xn_NoDesk_found, b12, ⟨xe_NoDesk, xs_NoDesk, xm_NoDesk, xf_NoDesk, xk_NoDesk⟩, PySem.W.mg_of X G aC_NoDesk, rfl⟩
  have XM_NoProgram : XMk l.prog w K mg base 1 "NoProgram" c_NoProgram ["self", "line"] ["line"] := ⟨_, _, ok_NoProgram___init__ F13 T ⟨xe_NoProgram, xs_NoProgram, xm_NoProgram, xf_NoProgram, xk_NoProgram⟩ xn_NoProgram_line, b13, ⟨xe_NoProgram, xs_NoProgram, xm_NoProgram, xf_NoProgram, xk_NoProgram⟩, PySem.W.mg_of X G aC_NoProgram, rfl⟩
  have XM_TooMuch : XMk l.prog w K mg base 1 "TooMuch" c_TooMuch ["self", "line"] ["line"] := ⟨_, _, ok_TooMuch___init__ F14 T ⟨xe_TooMuch, xs_TooMuch, xm_TooMuch, xf_TooMuch, xk_TooMuch⟩ xn_TooMuch_line, b14, ⟨xe_TooMuch, xs_TooMuch, xm_TooMuch, xf_TooMuch, xk_TooMuch⟩, PySem.W.mg_of X G aC_TooMuch, rfl⟩
  have XM_Unknown : XMk l.prog w K mg base 1 "Unknown" c_Unknown ["self", "line", "name"] ["line", "name"] := ⟨_, _, ok_Unknown___init__ F15 T ⟨xe_Unknown, xs_Unknown, xm_Unknown, xf_Unknown, xk_Unknown⟩ xn_Unknown_line xn_Unknown_name, b15, ⟨xe_Unknown, xs_Unknown, xm_Unknown, xf_Unknown, xk_Unknown⟩, PySem.W.mg_of X G aC_Unknown, rfl⟩
  have XM_WrongKind : XMk l.prog w K mg base 1 "WrongKind" c_WrongKind ["self", "line", "name"] ["line", "name"] := ⟨_, _, ok_WrongKind___init__ F16 T ⟨xe_WrongKind, xs_WrongKind, xm_WrongKind, xf_WrongKind, xk_WrongKind⟩ xn_WrongKind_line xn_WrongKind_name, b16, ⟨xe_WrongKind, xs_WrongKind, xm_WrongKind, xf_WrongKind, xk_WrongKind⟩, PySem.W.mg_of X G aC_WrongKind, rfl⟩
  have XM_Twice : XMk l.prog w K mg base 1 "Twice" c_Twice ["self", "line", "name"] ["line", "name"] := ⟨_, _, ok_Twice___init__ F17 T ⟨xe_Twice, xs_Twice, xm_Twice, xf_Twice, xk_Twice⟩ xn_Twice_line xn_Twice_name, b17, ⟨xe_Twice, xs_Twice, xm_Twice, xf_Twice, xk_Twice⟩, PySem.W.mg_of X G aC_Twice, rfl⟩
  have XM_NoInput : XMk l.prog w K mg base 1 "NoInput" c_NoInput ["self", "name"] ["name"] := ⟨_, _, ok_NoInput___init__ F18 T ⟨xe_NoInput, xs_NoInput, xm_NoInput, xf_NoInput, xk_NoInput⟩ xn_NoInput_name, b18, ⟨xe_NoInput, xs_NoInput, xm_NoInput, xf_NoInput, xk_NoInput⟩, PySem.W.mg_of X G aC_NoInput, rfl⟩
  have XM_NoRegister : XMk l.prog w K mg base 1 "NoRegister" c_NoRegister ["self", "name"] ["name"] := ⟨_, _, ok_NoRegister___init__ F19 T ⟨xe_NoRegister, xs_NoRegister, xm_NoRegister, xf_NoRegister, xk_NoRegister⟩ xn_NoRegister_name, b19, ⟨xe_NoRegister, xs_NoRegister, xm_NoRegister, xf_NoRegister, xk_NoRegister⟩, PySem.W.mg_of X G aC_NoRegister, rfl⟩
  have XM_NoRow : XMk l.prog w K mg base 1 "NoRow" c_NoRow ["self", "place"] ["place"] := ⟨_, _, ok_NoRow___init__ F20 T ⟨xe_NoRow, xs_NoRow, xm_NoRow, xf_NoRow, xk_NoRow⟩ xn_NoRow_place, b20, ⟨xe_NoRow, xs_NoRow, xm_NoRow, xf_NoRow, xk_NoRow⟩, PySem.W.mg_of X G aC_NoRow, rfl⟩
  have XS : XMs l.prog w K mg base ⟨c_NoWidth, c_NoWord, c_NoKind, c_NoText, c_NoWay, c_NoFraction, c_NoDivisor, c_NoForm, c_NoLine, c_NoLong, c_NoPrices, c_NoDesk, c_NoProgram, c_TooMuch, c_Unknown, c_WrongKind, c_Twice, c_NoInput, c_NoRegister, c_NoRow, c_Lesser, c_NothingBy, c_WiseError⟩ := ⟨XM_NoWidth, XM_NoWord, XM_NoKind, XM_NoText, XM_NoWay, XM_NoFraction, XM_NoDivisor, XM_NoForm, XM_NoLine, XM_NoLong, XM_NoPrices, XM_NoDesk, XM_NoProgram, XM_TooMuch, XM_Unknown, XM_WrongKind, XM_Twice, XM_NoInput, XM_NoRegister, XM_NoRow⟩
  have H__law_box : Has l.prog w K mg base 1 "_law_box" ["_law_cell_here"] spBox := ⟨_, _, ok__law_box F22 T , b22, k22, PySem.W.mg_of X G a22⟩
  have H__law_take : Has l.prog w K mg base 1 "_law_take" ["_law_box_here", "_law_many"] spTake := ⟨_, _, ok__law_take F23 T , b23, k23, PySem.W.mg_of X G a23⟩
  have H__law_thing : Has l.prog w K mg base 2 "_law_thing" ["_law_box_here"] spThing := ⟨_, _, ok__law_thing F29 T H__law_take, b29, k29, PySem.W.mg_of X G a29⟩
  have H__law_cell : Has l.prog w K mg base 1 "_law_cell" ["_law_script", "_law_k"] (spCell K) := ⟨_, _, ok__law_cell F21 T , b21, k21, PySem.W.mg_of X G a21⟩
  have H__law_fields : Has l.prog w K mg base 3 "_law_fields" ["_law_one", "_law_other"] spFields := ⟨_, _, ok__law_fields F26 T  XS, b26, k26, PySem.W.mg_of X G a26⟩
  have H__law_names : Has l.prog w K mg base 3 "_law_names" ["_law_one", "_law_other"] spNames := ⟨_, _, ok__law_names F27 T  XS, b27, k27, PySem.W.mg_of X G a27⟩
  have H__law_made : Has l.prog w K mg base 3 "_law_made" ["_law_one", "_law_other"] (spMade ⟨c_NoWidth, c_NoWord, c_NoKind, c_NoText, c_NoWay, c_NoFraction, c_NoDivisor, c_NoForm, c_NoLine, c_NoLong, c_NoPrices, c_NoDesk, c_NoProgram, c_TooMuch, c_Unknown, c_WrongKind, c_Twice, c_NoInput, c_NoRegister, c_NoRow, c_Lesser, c_NothingBy, c_WiseError⟩) := ⟨_, _, ok__law_made F24 T  XS, b24, k24, PySem.W.mg_of X G a24⟩
  have H__law_kinds : Has l.prog w K mg base 1 "_law_kinds" ["_law_e"] (spKinds ⟨c_NoWidth, c_NoWord, c_NoKind, c_NoText, c_NoWay, c_NoFraction, c_NoDivisor, c_NoForm, c_NoLine, c_NoLong, c_NoPrices, c_NoDesk, c_NoProgram, c_TooMuch, c_Unknown, c_WrongKind, c_Twice, c_NoInput, c_NoRegister, c_NoRow, c_Lesser, c_NothingBy, c_WiseError⟩) := ⟨_, _, ok__law_kinds F25 T , b25, k25, PySem.W.mg_of X G a25⟩
  have H__law_alike : Has l.prog w K mg base 1 "_law_alike" ["_law_found", "_law_due"] spAlike := ⟨_, _, ok__law_alike F28 T , b28, k28, PySem.W.mg_of X G a28⟩
  have H__law_right : Has l.prog w K mg base 4 "_law_right" ["_law_one", "_law_other"] spRight := ⟨_, _, ok__law_right F30 T H__law_fields H__law_names H__law_made H__law_kinds H__law_alike, b30, k30, PySem.W.mg_of X G a30⟩
  exact ok_law F31 T H__law_box H__law_thing H__law_cell H__law_right H__law_kinds
theorem walk {l : PySem.W.OpenLaw} {q : Program} {loose : List Str} {XP : (Str → Option Value) → Heap → Prop} {YP : World → Heap → Prop} {d : DefRec} {K : Params → PySem.W.Frag} (hn : l.most = some 63) (hdf : d.params.defaults = [])
    (hY : ∀ (w : World) (h : Heap), YP w h → (K w.params).In h)
    (F : ∀ (w : World) (mg : Str → Option Value) (fa : Addr) (h : Heap), (K w.params).In h → h.Ns mainGlobals mg → mg d.name = some (.ref fa) →
      ∃ fd : FuncData, (∀ (s : Shared) (u : Value), BindsTo s fd ⟨[u], []⟩ [("_law_script", u)]) ∧ ∀ base : Heap, (K w.params).In base → base.Ns mainGlobals mg → FnOk l.prog w (K w.params) mg base CX0 5 fa fd ["_law_script"] (spLaw (K w.params))) :
    PySem.W.WalkO q loose XP YP l.row.toRowW d [] (fun f vs => PySem.call f vs) :=
  L2.walk_of (n := 63) (k := 5) (x := "_law_script") (CX := fun _ => CX0) (sp := fun w => spLaw (K w.params)) hn (by decide) hdf ⟨rfl, by decide, by decide, rfl⟩ hY F (fun _ _ a ns hl _ hS => ⟨a, ns, rfl, hS, hl, fun _ => rfl⟩) fun _ _ _ _ _ z => z
end Ow
open PySem PySem.W PyProof.Rows
def PySem.W.Fast.tw5391323142352217125 : Nat := 0
def PySem.W.Fast.tw10615800100302487244 : Nat := 0
def PySem.W.Fast.tw15760348275268148993 : Nat := 0
def PySem.W.Fast.tw12497551899613213783 : Nat := 0
def PySem.W.Fast.tw4731757336902807209 : Nat := 0
def PySem.W.Fast.tw7795080770202515597 : Nat := 0
def PySem.W.Fast.tw16834899082285720873 : Nat := 0
def PySem.W.Fast.tw11955698275309554519 : Nat := 0
def PySem.W.Fast.tw7767538146390003433 : Nat := 0
def PySem.W.Fast.tw9494941345088882513 : Nat := 0
def PySem.W.Fast.tw17543792362402010839 : Nat := 0
def PySem.W.Fast.tw11314066829700095741 : Nat := 0
def PySem.W.Fast.tw1683038038688168143 : Nat := 0
def PySem.W.Fast.tw17219034729846102570 : Nat := 0
def PySem.W.Fast.tw1684031715250054510 : Nat := 0
def PySem.W.Fast.tw16787542017851955209 : Nat := 0
def PySem.W.Fast.tw11855953300866960174 : Nat := 0
def PySem.W.Fast.tw18087609944372649631 : Nat := 0
def PySem.W.Fast.tw16891218017800479113 : Nat := 0
def PySem.W.Fast.tw5423669941973715096 : Nat := 0
def PySem.W.Fast.tw4843208095746287730 : Nat := 0
def PySem.W.Fast.tw7926545185253015752 : Nat := 0
def PySem.W.Fast.tw6038051379042669773 : Nat := 0
def PySem.W.Fast.tw6163026283425711171 : Nat := 0
def PySem.W.Fast.tw18432721081383229483 : Nat := 0
def PySem.W.Fast.tw8347457120445518428 : Nat := 0
def PySem.W.Fast.tw8896706708220552022 : Nat := 0
def PySem.W.Fast.tw17153304363263444510 : Nat := 0
def PySem.W.Fast.tw10531621531720390065 : Nat := 0
def PySem.W.Fast.tw9926635388021804027 : Nat := 0
def PySem.W.Fast.tw781022673846648727 : Nat := 0
def PySem.W.Fast.tw14921642544508810662 : Nat := 0
def PySem.W.Fast.tw17431709166569874258 : Nat := 0
def PySem.W.Fast.tw1063058884306553539 : Nat := 0
def PySem.W.Fast.tw5184771518340064534 : Nat := 0
def PySem.W.Fast.tw16341069137192508686 : Nat := 0
def PySem.W.Fast.tw5312261363761566912 : Nat := 0
def PySem.W.Fast.tw11387794469825976460 : Nat := 0
def PySem.W.Fast.tw2659022856061061185 : Nat := 0
def PySem.W.Fast.tw10376896187488855893 : Nat := 0
def PySem.W.Fast.tw7400083221337685461 : Nat := 0
def PySem.W.Fast.tw15087643339279808203 : Nat := 0
def PySem.W.Fast.tw4735188623464307605 : Nat := 0
def PySem.W.Fast.tw15250337762577483620 : Nat := 0
def PySem.W.Fast.tw2913742052963851568 : Nat := 0
def PySem.W.Fast.tw16356154780039560060 : Nat := 0
def PySem.W.Fast.tw8863060996737020269 : Nat := 0
def PySem.W.Fast.tw17798221580370450681 : Nat := 0
def PySem.W.Fast.tw568960873005330436 : Nat := 0
def PySem.W.Fast.tw9220560484656788596 : Nat := 0
def PySem.W.Fast.tw13372169472073852942 : Nat := 0
def PySem.W.Fast.tw15981403338796982852 : Nat := 0
def PySem.W.Fast.tw12066085114902542672 : Nat := 0
def PySem.W.Fast.tw9941063285031941158 : Nat := 0
set_option maxRecDepth 100000 in
set_option maxHeartbeats 0 in
theorem PySem.Challenge.cw_overwise_k06_refusals_apart_holds : PySem.Challenge.rw_overwise_k06_refusals_apart.Holds := by
  w_on; o_law; k_head; (case hw => w_witness2)
  k_fill
  refine Ow.walk (l := PySem.Challenge.rw_overwise_k06_refusals_apart) rfl rfl (fun w h Y => PySem.W.kIn_of Y) ?F
  case F =>
    intro w mg fa h KX G hmg
    refine' Ow.all_mk KX G hmg ?a1 ?i1 ?l1 ?c1 ?k1 ?a2 ?i2 ?l2 ?c2 ?k2 ?a3 ?i3 ?l3 ?c3 ?k3 ?a4 ?i4 ?l4 ?c4 ?k4 ?a5 ?i5 ?l5 ?c5 ?k5 ?a6 ?i6 ?l6 ?c6 ?k6 ?a7 ?i7 ?l7 ?c7 ?k7 ?a8 ?i8 ?l8 ?c8 ?k8 ?a9 ?i9 ?l9 ?c9 ?k9 ?a10 ?i10 ?l10 ?c10 ?k10 ?a11 ?i11 ?l11 ?c11 ?k11 ?a12 ?i12 ?l12 ?c12 ?k12 ?a13 ?i13 ?l13 ?c13 ?k13 ?a14 ?i14 ?l14 ?c14 ?k14 ?a15 ?i15 ?l15 ?c15 ?k15 ?a16 ?i16 ?l16 ?c16 ?k16 ?a17 ?i17 ?l17 ?c17 ?k17 ?a18 ?i18 ?l18 ?c18 ?k18 ?a19 ?i19 ?l19 ?c19 ?k19 ?a20 ?i20 ?l20 ?c20 ?k20 ?a21 ?l21 ?c21 ?k21 ?a22 ?l22 ?c22 ?k22 ?a23 ?l23 ?c23 ?k23 ?a24 ?l24 ?c24 ?k24 ?a25 ?l25 ?c25 ?k25 ?a26 ?l26 ?c26 ?k26 ?a27 ?l27 ?c27 ?k27 ?a28 ?l28 ?c28 ?k28 ?a29 ?l29 ?c29 ?k29 ?a30 ?l30 ?c30 ?k30 ?a31 ?l31 ?c31 ?k31  ?aC_NoWidth ?aC_NoWord ?aC_NoKind ?aC_NoText ?aC_NoWay ?aC_NoFraction ?aC_NoDivisor ?aC_NoForm ?aC_NoLine ?aC_NoLong ?aC_NoPrices ?aC_NoDesk ?aC_NoProgram ?aC_TooMuch ?aC_Unknown ?aC_WrongKind ?aC_Twice ?aC_NoInput ?aC_NoRegister ?aC_NoRow ?aC_Lesser ?aC_NothingBy ?aC_WiseError  ?xe_NoWidth ?xs_NoWidth ?xm_NoWidth ?xf_NoWidth ?xk_NoWidth ?xn_NoWidth_found ?xe_NoWord ?xs_NoWord ?xm_NoWord ?xf_NoWord ?xk_NoWord ?xn_NoWord_found ?xe_NoKind ?xs_NoKind ?xm_NoKind ?xf_NoKind ?xk_NoKind ?xn_NoKind_found ?xe_NoText ?xs_NoText ?xm_NoText ?xf_NoText ?xk_NoText ?xn_NoText_found ?xe_NoWay ?xs_NoWay ?xm_NoWay ?xf_NoWay ?xk_NoWay ?xn_NoWay_found ?xe_NoFraction ?xs_NoFraction ?xm_NoFraction ?xf_NoFraction ?xk_NoFraction ?xn_NoFraction_found ?xe_NoDivisor ?xs_NoDivisor ?xm_NoDivisor ?xf_NoDivisor ?xk_NoDivisor ?xn_NoDivisor_found ?xe_NoForm ?xs_NoForm ?xm_NoForm ?xf_NoForm ?xk_NoForm ?xn_NoForm_found ?xe_NoLine ?xs_NoLine ?xm_NoLine ?xf_NoLine ?xk_NoLine ?xn_NoLine_found ?xe_NoLong ?xs_NoLong ?xm_NoLong ?xf_NoLong ?xk_NoLong ?xn_NoLong_found ?xe_NoPrices ?xs_NoPrices ?xm_NoPrices ?xf_NoPrices ?xk_NoPrices ?xn_NoPrices_found ?xe_NoDesk ?xs_NoDesk ?xm_NoDesk ?xf_NoDesk ?xk_NoDesk ?xn_NoDesk_found ?xe_NoProgram ?xs_NoProgram ?xm_NoProgram ?xf_NoProgram ?xk_NoProgram ?xn_NoProgram_line ?xe_TooMuch ?xs_TooMuch ?xm_TooMuch ?xf_TooMuch ?xk_TooMuch ?xn_TooMuch_line ?xe_Unknown ?xs_Unknown ?xm_Unknown ?xf_Unknown ?xk_Unknown ?xn_Unknown_line ?xn_Unknown_name ?xe_WrongKind ?xs_WrongKind ?xm_WrongKind ?xf_WrongKind ?xk_WrongKind ?xn_WrongKind_line ?xn_WrongKind_name ?xe_Twice ?xs_Twice ?xm_Twice ?xf_Twice ?xk_Twice ?xn_Twice_line ?xn_Twice_name ?xe_NoInput ?xs_NoInput ?xm_NoInput ?xf_NoInput ?xk_NoInput ?xn_NoInput_name ?xe_NoRegister ?xs_NoRegister ?xm_NoRegister ?xf_NoRegister ?xk_NoRegister ?xn_NoRegister_name ?xe_NoRow ?xs_NoRow ?xm_NoRow ?xf_NoRow ?xk_NoRow ?xn_NoRow_place   ?kf_exc_Lesser ?kf_kp_Lesser ?kf_exc_NothingBy ?kf_kp_NothingBy ?kf_exc_WiseError ?kf_kp_WiseError ?kf_kr_all ?z_isinstance ?z_int ?z_bool ?z_str ?z_list ?z_len ?z_max ?z_min ?z_range ?z_enumerate ?z_any ?z_ValueError
    (case aC_NoWidth => k_is)
    (case aC_NoWord => k_is)
    (case aC_NoKind => k_is)
    (case aC_NoText => k_is)
    (case aC_NoWay => k_is)
    (case aC_NoFraction => k_is)
    (case aC_NoDivisor => k_is)
    (case aC_NoForm => k_is)
    (case aC_NoLine => k_is)
    (case aC_NoLong => k_is)
    (case aC_NoPrices => k_is)
    (case aC_NoDesk => k_is)
    (case aC_NoProgram => k_is)
    (case aC_TooMuch => k_is)
    (case aC_Unknown => k_is)
    (case aC_WrongKind => k_is)
    (case aC_Twice => k_is)
    (case aC_NoInput => k_is)
    (case aC_NoRegister => k_is)
    (case aC_NoRow => k_is)
    (case aC_Lesser => k_is)
    (case aC_NothingBy => k_is)
    (case aC_WiseError => k_is)
    (case a1 => k_is); (case i1 => k_is); (case l1 => k_is); (case c1 => k_is); (case k1 => k_is)
    (case a2 => k_is); (case i2 => k_is); (case l2 => k_is); (case c2 => k_is); (case k2 => k_is)
    (case a3 => k_is); (case i3 => k_is); (case l3 => k_is); (case c3 => k_is); (case k3 => k_is)
    (case a4 => k_is); (case i4 => k_is); (case l4 => k_is); (case c4 => k_is); (case k4 => k_is)
    (case a5 => k_is); (case i5 => k_is); (case l5 => k_is); (case c5 => k_is); (case k5 => k_is)
    (case a6 => k_is); (case i6 => k_is); (case l6 => k_is); (case c6 => k_is); (case k6 => k_is)
    (case a7 => k_is); (case i7 => k_is); (case l7 => k_is); (case c7 => k_is); (case k7 => k_is)
    (case a8 => k_is); (case i8 => k_is); (case l8 => k_is); (case c8 => k_is); (case k8 => k_is)
    (case a9 => k_is); (case i9 => k_is); (case l9 => k_is); (case c9 => k_is); (case k9 => k_is)
    (case a10 => k_is); (case i10 => k_is); (case l10 => k_is); (case c10 => k_is); (case k10 => k_is)
    (case a11 => k_is); (case i11 => k_is); (case l11 => k_is); (case c11 => k_is); (case k11 => k_is)
    (case a12 => k_is); (case i12 => k_is); (case l12 => k_is); (case c12 => k_is); (case k12 => k_is)
    (case a13 => k_is); (case i13 => k_is); (case l13 => k_is); (case c13 => k_is); (case k13 => k_is)
    (case a14 => k_is); (case i14 => k_is); (case l14 => k_is); (case c14 => k_is); (case k14 => k_is)
    (case a15 => k_is); (case i15 => k_is); (case l15 => k_is); (case c15 => k_is); (case k15 => k_is)
    (case a16 => k_is); (case i16 => k_is); (case l16 => k_is); (case c16 => k_is); (case k16 => k_is)
    (case a17 => k_is); (case i17 => k_is); (case l17 => k_is); (case c17 => k_is); (case k17 => k_is)
    (case a18 => k_is); (case i18 => k_is); (case l18 => k_is); (case c18 => k_is); (case k18 => k_is)
    (case a19 => k_is); (case i19 => k_is); (case l19 => k_is); (case c19 => k_is); (case k19 => k_is)
    (case a20 => k_is); (case i20 => k_is); (case l20 => k_is); (case c20 => k_is); (case k20 => k_is)
    (case a21 => k_is); (case l21 => k_is); (case c21 => k_is); (case k21 => k_is)
    (case a22 => k_is); (case l22 => k_is); (case c22 => k_is); (case k22 => k_is)
    (case a23 => k_is); (case l23 => k_is); (case c23 => k_is); (case k23 => k_is)
    (case a24 => k_is); (case l24 => k_is); (case c24 => k_is); (case k24 => k_is)
    (case a25 => k_is); (case l25 => k_is); (case c25 => k_is); (case k25 => k_is)
    (case a26 => k_is); (case l26 => k_is); (case c26 => k_is); (case k26 => k_is)
    (case a27 => k_is); (case l27 => k_is); (case c27 => k_is); (case k27 => k_is)
    (case a28 => k_is); (case l28 => k_is); (case c28 => k_is); (case k28 => k_is)
    (case a29 => k_is); (case l29 => k_is); (case c29 => k_is); (case k29 => k_is)
    (case a30 => k_is); (case l30 => k_is); (case c30 => k_is); (case k30 => k_is)
    (case a31 => k_is); (case l31 => k_is); (case c31 => k_is); (case k31 => k_is)
    (case xe_NoWidth => kernel_rfl); (case xs_NoWidth => k_is); (case xm_NoWidth => k_is); (case xf_NoWidth => k_is); (case xk_NoWidth => k_is); (case xn_NoWidth_found => k_is)
    (case xe_NoWord => kernel_rfl); (case xs_NoWord => k_is); (case xm_NoWord => k_is); (case xf_NoWord => k_is); (case xk_NoWord => k_is); (case xn_NoWord_found => k_is)
    (case xe_NoKind => kernel_rfl); (case xs_NoKind => k_is); (case xm_NoKind => k_is); (case xf_NoKind => k_is); (case xk_NoKind => k_is); (case xn_NoKind_found => k_is)
    (case xe_NoText => kernel_rfl); (case xs_NoText => k_is); (case xm_NoText => k_is); (case xf_NoText => k_is); (case xk_NoText => k_is); (case xn_NoText_found => k_is)
    (case xe_NoWay => kernel_rfl); (case xs_NoWay => k_is); (case xm_NoWay => k_is); (case xf_NoWay => k_is); (case xk_NoWay => k_is); (case xn_NoWay_found => k_is)
    (case xe_NoFraction => kernel_rfl); (case xs_NoFraction => k_is); (case xm_NoFraction => k_is); (case xf_NoFraction => k_is); (case xk_NoFraction => k_is); (case xn_NoFraction_found => k_is)
    (case xe_NoDivisor => kernel_rfl); (case xs_NoDivisor => k_is); (case xm_NoDivisor => k_is); (case xf_NoDivisor => k_is); (case xk_NoDivisor => k_is); (case xn_NoDivisor_found => k_is)
    (case xe_NoForm => kernel_rfl); (case xs_NoForm => k_is); (case xm_NoForm => k_is); (case xf_NoForm => k_is); (case xk_NoForm => k_is); (case xn_NoForm_found => k_is)
    (case xe_NoLine => kernel_rfl); (case xs_NoLine => k_is); (case xm_NoLine => k_is); (case xf_NoLine => k_is); (case xk_NoLine => k_is); (case xn_NoLine_found => k_is)
    (case xe_NoLong => kernel_rfl); (case xs_NoLong => k_is); (case xm_NoLong => k_is); (case xf_NoLong => k_is); (case xk_NoLong => k_is); (case xn_NoLong_found => k_is)
    (case xe_NoPrices => kernel_rfl); (case xs_NoPrices => k_is); (case xm_NoPrices => k_is); (case xf_NoPrices => k_is); (case xk_NoPrices => k_is); (case xn_NoPrices_found => k_is)
    (case xe_NoDesk => kernel_rfl); (case xs_NoDesk => k_is); (case xm_NoDesk => k_is); (case xf_NoDesk => k_is); (case xk_NoDesk => k_is); (case xn_NoDesk_found => k_is)
    (case xe_NoProgram => kernel_rfl); (case xs_NoProgram => k_is); (case xm_NoProgram => k_is); (case xf_NoProgram => k_is); (case xk_NoProgram => k_is); (case xn_NoProgram_line => k_is)
    (case xe_TooMuch => kernel_rfl); (case xs_TooMuch => k_is); (case xm_TooMuch => k_is); (case xf_TooMuch => k_is); (case xk_TooMuch => k_is); (case xn_TooMuch_line => k_is)
    (case xe_Unknown => kernel_rfl); (case xs_Unknown => k_is); (case xm_Unknown => k_is); (case xf_Unknown => k_is); (case xk_Unknown => k_is); (case xn_Unknown_line => k_is); (case xn_Unknown_name => k_is)
    (case xe_WrongKind => kernel_rfl); (case xs_WrongKind => k_is); (case xm_WrongKind => k_is); (case xf_WrongKind => k_is); (case xk_WrongKind => k_is); (case xn_WrongKind_line => k_is); (case xn_WrongKind_name => k_is)
    (case xe_Twice => kernel_rfl); (case xs_Twice => k_is); (case xm_Twice => k_is); (case xf_Twice => k_is); (case xk_Twice => k_is); (case xn_Twice_line => k_is); (case xn_Twice_name => k_is)
    (case xe_NoInput => kernel_rfl); (case xs_NoInput => k_is); (case xm_NoInput => k_is); (case xf_NoInput => k_is); (case xk_NoInput => k_is); (case xn_NoInput_name => k_is)
    (case xe_NoRegister => kernel_rfl); (case xs_NoRegister => k_is); (case xm_NoRegister => k_is); (case xf_NoRegister => k_is); (case xk_NoRegister => k_is); (case xn_NoRegister_name => k_is)
    (case xe_NoRow => kernel_rfl); (case xs_NoRow => k_is); (case xm_NoRow => k_is); (case xf_NoRow => k_is); (case xk_NoRow => k_is); (case xn_NoRow_place => k_is)
    (case kf_exc_Lesser => k_exc)
    (case kf_kp_Lesser => k_is)
    (case kf_exc_NothingBy => k_exc)
    (case kf_kp_NothingBy => k_is)
    (case kf_exc_WiseError => k_exc)
    (case kf_kp_WiseError => k_is)
    (case kf_kr_all => kernel_rfl)
    (case z_isinstance => k_is)
    (case z_int => k_is)
    (case z_bool => k_is)
    (case z_str => k_is)
    (case z_list => k_is)
    (case z_len => k_is)
    (case z_max => k_is)
    (case z_min => k_is)
    (case z_range => k_is)
    (case z_enumerate => k_is)
    (case z_any => k_is)
    (case z_ValueError => k_is)
