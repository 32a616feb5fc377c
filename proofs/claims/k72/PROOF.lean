import PyProof.Rows.All
import Wide.All
import OpenK.AllK
import Wide.FinOn
import Lean
import PyProof.EqAt
import PyProof.EqKinds
import PyProof.TupleCall
import KE.BitLaws
import KE.IntBitsLaws
import KE.KIntText
import PySem.Challenge.RW_overwise_k72_rows_in_a_list
set_option Elab.async false
set_option linter.all false
set_option maxRecDepth 100000
namespace L2
open PySem PySem.Spec PyProof.Rows
abbrev Key:=Sum Int Str
def keyIs:Key→Value→Bool
 | .inl k,v=>Value.isInt k v
 | .inr x,v=>Value.isStrOf x v
def keyH (w:World):Key→Int
 | .inl k=>hashInt k
 | .inr x=>hashStr w x
theorem keyIs_shape:∀ {k:Key} {v:Value},keyIs k v = true→(∃ i t,k = Sum.inl i∧v = Value.int i t)∨(∃ x t,k = Sum.inr x∧v = Value.str x t)
 | .inl i,v,h=>by
  obtain ⟨t,e⟩:=Value.isInt_shape (k:=i) (v:=v) h
  exact .inl ⟨i,t,rfl,e⟩
 | .inr x,v,h=>by
  obtain ⟨t,e⟩:=Value.isStrOf_shape (x:=x) (v:=v) h
  exact .inr ⟨x,t,rfl,e⟩
theorem keyIs_int (i:Int) (t:Tok):keyIs (.inl i) (.int i t) = true:=by simp [keyIs,Value.isInt]
theorem keyIs_str (x:Str) (t:Tok):keyIs (.inr x) (.str x t) = true:=by simp [keyIs,Value.isStrOf]
theorem key_ll (a b:Int):decide ((Sum.inl a:Key) = Sum.inl b) = (a == b):=by
 by_cases e:a = b
 ·subst e; simp
 ·have h:¬ (Sum.inl a:Key) = Sum.inl b:=fun q=>e (Sum.inl.inj q)
  rw [decide_eq_false h]
  exact (beq_eq_false_iff_ne.mpr e).symm
theorem key_rr (a b:Str):decide ((Sum.inr a:Key) = Sum.inr b) = decide (a = b):=by
 by_cases e:a = b
 ·subst e; simp
 ·have h:¬ (Sum.inr a:Key) = Sum.inr b:=fun q=>e (Sum.inr.inj q)
  rw [decide_eq_false h,decide_eq_false e]
theorem key_lr (a:Int) (b:Str):decide ((Sum.inl a:Key) = Sum.inr b) = false:=decide_eq_false (fun q=>nomatch q)
theorem key_rl (a:Str) (b:Int):decide ((Sum.inr a:Key) = Sum.inl b) = false:=decide_eq_false (fun q=>nomatch q)
def mixKind (prog:Program) (w:World):PySem.KeyKind prog w Key where
 is:=keyIs
 hash:=keyH w
 inj:=fun v a b ha hb=>by
  rcases keyIs_shape ha with ⟨i,t,rfl,rfl⟩ | ⟨x,t,rfl,rfl⟩
  ·rcases keyIs_shape hb with ⟨j,u,rfl,e⟩ | ⟨y,u,rfl,e⟩
   ·injection e with e1 _; rw [e1]
   ·exact nomatch e
  ·rcases keyIs_shape hb with ⟨j,u,rfl,e⟩ | ⟨y,u,rfl,e⟩
   ·exact nomatch e
   ·injection e with e1 _; rw [e1]
 byValue:=fun k v h=>by
  rcases keyIs_shape h with ⟨i,t,rfl,rfl⟩ | ⟨x,t,rfl,rfl⟩ <;> rfl
 pyHash:=fun hv h=>by
  rcases keyIs_shape hv with ⟨i,t,rfl,rfl⟩ | ⟨x,t,rfl,rfl⟩
  ·exact wpAny_pyHash_int h
  ·exact wpAny_pyHash_str h
 eqBool:=fun hu hv h=>by
  rcases keyIs_shape hu with ⟨i,t,rfl,rfl⟩ | ⟨x,t,rfl,rfl⟩
  ·rcases keyIs_shape hv with ⟨j,u,rfl,rfl⟩ | ⟨y,u,rfl,rfl⟩
   ·rw [key_ll] at h; exact wpAny_eqBool_int h
   ·rw [key_lr] at h; exact SeqAt.EqAt.int_str i t y u _ _ _ _ h
  ·rcases keyIs_shape hv with ⟨j,u,rfl,rfl⟩ | ⟨y,u,rfl,rfl⟩
   ·rw [key_rl] at h; exact SeqAt.EqAt.str_int x t j u _ _ _ _ h
   ·rw [key_rr] at h; exact wpAny_eqBool_str h
 «strs»:=fun k x t v h=>by
  rcases keyIs_shape h with ⟨i,u,rfl,e⟩ | ⟨y,u,rfl,e⟩
  ·exact nomatch e
  ·injection e with e1 _
   subst e1
   cases v <;> rfl
theorem mixKind_int (prog:Program) (w:World) (i:Int) (t:Tok):(mixKind prog w).is (.inl i) (.int i t) = true:=keyIs_int i t
theorem mixKind_str (prog:Program) (w:World) (x:Str) (t:Tok):(mixKind prog w).is (.inr x) (.str x t) = true:=keyIs_str x t
end L2
namespace L2
open PySem PySem.Spec PyProof.Rows
inductive V where
 | non | bl (b:Bool) | int (i:Int) | str (x:Str) | byt (b:Array UInt8) | flt (b:UInt64) | ref (a:Addr) | ty (n:String)
 deriving DecidableEq
def RelV:V→Value→Prop
 | .non,u=>u = Value.none
 | .bl b,u=>u = Value.bool b
 | .int i,u=>∃ t,u = Value.int i t
 | .str x,u=>∃ t,u = Value.str x t
 | .byt b,u=>∃ t,u = Value.bytes b t
 | .flt b,u=>∃ t,u = Value.float b t
 | .ref a,u=>u = Value.ref a
 | .ty n,u=>u = Value.type n
abbrev Vals:List V→List Value→Prop:=Paired RelV
theorem Vals.length {xs:List V} {us:List Value} (r:Vals xs us):xs.length = us.length:=Paired.length r
theorem Vals.get:∀ {xs:List V} {us:List Value} {i:Nat} {x:V},Vals xs us→xs[i]? = some x→∃ u,us[i]? = some u∧RelV x u
 | _,_,_,_,.nil,e=>by simp at e
 | _,_,0,_,.cons r _,e=>by simp at e; subst e; exact ⟨_,rfl,r⟩
 | _,_,i + 1,x,.cons _ t,e=>by
  obtain ⟨u,h1,h2⟩:=Vals.get (i:=i) (x:=x) t (by simpa using e)
  exact ⟨u,by simpa using h1,h2⟩
theorem Vals.set {x:V} {u:Value} (r:RelV x u):∀ {xs:List V} {us:List Value} (i:Nat),Vals xs us→Vals (xs.set i x) (us.set i u)
 | _,_,_,.nil=>.nil
 | _,_,0,.cons _ t=>.cons r t
 | _,_,i + 1,.cons q t=>.cons q (Vals.set r i t)
theorem Vals.append:∀ {xs ys:List V} {us ws:List Value},Vals xs us→Vals ys ws→Vals (xs ++ ys) (us ++ ws)
 | _,_,_,_,.nil,s=>s
 | _,_,_,_,.cons r t,s=>.cons r (Vals.append t s)
theorem Vals.take:∀ {xs:List V} {us:List Value} (n:Nat),Vals xs us→Vals (xs.take n) (us.take n)
 | _,_,0,_=>.nil
 | _,_,_ + 1,.nil=>.nil
 | _,_,n + 1,.cons r t=>.cons r (Vals.take n t)
theorem Vals.drop:∀ {xs:List V} {us:List Value} (n:Nat),Vals xs us→Vals (xs.drop n) (us.drop n)
 | _,_,0,r=>r
 | _,_,_ + 1,.nil=>.nil
 | _,_,n + 1,.cons _ t=>Vals.drop n t
def RelO:Option V→Option Value→Prop
 | some v,some u=>RelV v u
 | none,none=>True
 | _,_=>False
def KV {κ:Type}:List (κ × V)→List (κ × Value)→Prop:=Paired fun (p:κ × V) (q:κ × Value)=>p.1 = q.1∧RelV p.2 q.2
def kV:Key→V
 | .inl i=>.int i
 | .inr x=>.str x
inductive HO where
 /-- a list -/
 | lst (xs:List V)
 /-- a tuple (never changes) -/
 | tup (xs:List V)
 /-- a dict whose keys are ints and texts; one whose keys are tuples of ints and texts (the empty one is both) -/
 | dK (kvs:List (Key × V)) | dT (kvs:List (List Key × V))
 /-- a set of ints: its members,its size -/
 | set (S:Int→Bool) (n:Nat)
 /-- an instance of the class at C,its dict at dx,its attributes -/
 | ins (C dx:Addr) (fs:List (Str × V))
 /-- the dict of the instance at x -/
 | own (x:Addr)
 /-- the dict of an exception -/
 | xd (fs:List (Str × V))
 /-- a bound method,f of x -/
 | met (f x:Addr)
 /-- a range object lo,lo + 1,.. below hi -/
 | rng (lo hi:Int)
 /-- a thing that is known to the object (the script; a dict while a loop walks it): read,never written while it is so -/
 | frz (o:Obj) (u:HO)
 /-- a code object's table -/
 | tbl (ps:Array Value)
 /-- any other thing,by what is true of its one object (a def of one's own: SetO a S n:=HO.ext fun h=>..) -/
 | ext (φ:Heap→Prop)
abbrev Hp:=Addr→Option HO
def upd (H:Hp) (a:Addr) (o:HO):Hp:=fun b=>if b = a then some o else H b
theorem upd_same {H:Hp} {a:Addr} {o:HO}:upd H a o a = some o:=by unfold upd; rw [if_pos rfl]
theorem upd_ne {H:Hp} {a b:Addr} {o:HO} (h:b ≠ a):upd H a o b = H b:=by unfold upd; rw [if_neg h]
theorem ne_of {H:Hp} {a b:Addr} {o u:HO} (h:H a = some o) (h':H b = some u) (d:o ≠ u):a ≠ b:=by
 intro e; subst e; rw [h] at h'; exact d (Option.some.inj h')
theorem ne_of_none {H:Hp} {a b:Addr} {o:HO} (h:H a = some o) (h':H b = none):a ≠ b:=by
 intro e; subst e; rw [h] at h'; cases h'
section
variable (P:Program) (w:World)
def ObjOk (H:Hp) (h:Heap) (a:Addr):HO→Prop
 | .lst xs=>xs.length≤sizeLine∧∃ (its:List Value) (n:Nat),Vals xs its∧h.get? a = some { cls:=.type "list",data:=.seq its.toArray n }
 | .tup xs=>xs.length≤sizeLine∧∃ its:List Value,Vals xs its∧IsTup h a its.toArray
 | .dK kvs=>kvs.length≤sizeLine∧(a == sysModules) = false∧∃ vs,KV kvs vs∧h.DictOf (mixKind P w) a vs
 | .dT kvs=>kvs.length≤sizeLine∧(a == sysModules) = false∧∃ xs:List (List Key × Addr × Value),
   Paired (fun (p:List Key × V) (q:List Key × Addr × Value)=>p.1 = q.1∧H q.2.1 = some (.tup (p.1.map kV))∧RelV p.2 q.2.2) kvs xs ∧
   ∃ o es ep,h.get? a = some o∧o.ExactDict∧o.data = .dict es ep∧es.toList = xs.map (entryOfKey (tupleKind (mixKind P w)))∧(xs.map (·.1)).Nodup
 | .set S n=>h.SetOf (intKind P w) a S n
 | .ins C dx fs=>H dx = some (.own a)∧fs.length≤1000∧dx ≠ a∧h.get? a = some (PySem.W.instObj C dx) ∧
   ∃ mA,h.Ns1 dx mA∧(∀ f,RelO (fs.lookup f) (mA f))∧PySem.Within mA (fs.map (·.1))
 | .own _=>∃ o,h.get? a = some o
 | .xd fs=>∃ mA,h.Ns1 a mA∧∀ f,RelO (fs.lookup f) (mA f)
 | .rng lo hi=>∃ t u v,h.get? a = some { cls:=.type "range",data:=.fields #[.int lo t,.int hi u,.int 1 v] }
 | .frz o u=>h.get? a = some o∧ObjOk H h a u
 | .tbl ps=>h.get? a = some { cls:=.none,data:=.fields ps }
 | .met f x=>h.get? a = some (PySem.W.methodObj (.ref f) (.ref x))
 | .ext φ=>φ h∧(∃ o,h.get? a = some o)∧∀ h1 h2:Heap,φ h1→(∀ o,h1.get? a = some o→h2.get? a = some o)→φ h2
def HOk (H:Hp) (h:Heap):Prop:=∀ a o,H a = some o→ObjOk P w H h a o
end
section
variable {P:Program} {w:World} {H H':Hp} {h h':Heap} {a:Addr} {o:HO}
theorem ObjOk.lt (x:ObjOk P w H h a o):a < h.objs.size:=by
 cases o with
 | lst xs=>obtain ⟨_,_,_,_,e⟩:=x; exact Heap.lt_size e
 | tup xs=>obtain ⟨_,_,_,p⟩:=x; exact p.lt
 | dK kvs=>obtain ⟨_,_,_,_,o,_,_,e,_⟩:=x; exact Heap.lt_size e
 | dT kvs=>obtain ⟨_,_,_,_,o,_,_,e,_⟩:=x; exact Heap.lt_size e
 | set S n=>obtain ⟨o,_,_,_,e,_⟩:=x; exact Heap.lt_size e
 | ins C dx fs=>obtain ⟨_,_,_,e,_⟩:=x; exact Heap.lt_size e
 | own y=>obtain ⟨_,e⟩:=x; exact Heap.lt_size e
 | xd fs=>obtain ⟨_,⟨_,_,_,e,_⟩,_⟩:=x; exact Heap.lt_size e
 | rng lo hi=>obtain ⟨_,_,_,e⟩:=x; exact Heap.lt_size e
 | frz ob u=>obtain ⟨e,_⟩:=x; exact Heap.lt_size e
 | tbl ps=>exact Heap.lt_size (show h.get? a = some _ from x)
 | met f y=>exact Heap.lt_size (show h.get? a = some _ from x)
 | ext φ=>obtain ⟨_,⟨_,e⟩,_⟩:=x; exact Heap.lt_size e
theorem Paired.mapP {α β:Type} {F G:α→β→Prop}:∀ {l₁:List α} {l₂:List β},Paired F l₁ l₂→(∀ a b,F a b→G a b)→Paired G l₁ l₂
 | _,_,.nil,_=>.nil
 | _,_,.cons r t,f=>.cons (f _ _ r) (Paired.mapP t f)
theorem ObjOk.stay (x:ObjOk P w H h a o) (k:∀ b u,(b = a∨H b = some (.own a))→h.get? b = some u→h'.get? b = some u)
  (ho:∀ b,H b = some (.own a)→H' b = some (.own a)) (ht:∀ b xs,H b = some (.tup xs)→H' b = some (.tup xs)):ObjOk P w H' h' a o:=by
 induction o with
 | lst xs=>obtain ⟨z,its,n,r,e⟩:=x; exact ⟨z,its,n,r,k _ _ (.inl rfl) e⟩
 | tup xs=>obtain ⟨z,its,r,ob,e,c⟩:=x; exact ⟨z,its,r,ob,k _ _ (.inl rfl) e,c⟩
 | dK kvs=>obtain ⟨z,y,vs,r,ob,es,ep,e,c⟩:=x; exact ⟨z,y,vs,r,ob,es,ep,k _ _ (.inl rfl) e,c⟩
 | dT kvs =>
  obtain ⟨z,y,xs,r,ob,es,ep,e,c⟩:=x
  exact ⟨z,y,xs,Paired.mapP r fun p q z=>⟨z.1,ht _ _ z.2.1,z.2.2⟩,ob,es,ep,k _ _ (.inl rfl) e,c⟩
 | set S n=>obtain ⟨ob,es,ep,t,e,c⟩:=x; exact ⟨ob,es,ep,t,k _ _ (.inl rfl) e,c⟩
 | ins C dx fs =>
  obtain ⟨d,z,ne,e,mA,⟨od,es,ep,e2,c⟩,r⟩:=x
  exact ⟨ho _ d,z,ne,k _ _ (.inl rfl) e,mA,⟨od,es,ep,k _ _ (.inr d) e2,c⟩,r⟩
 | own y=>obtain ⟨ob,e⟩:=x; exact ⟨ob,k _ _ (.inl rfl) e⟩
 | xd fs=>obtain ⟨mA,⟨od,es,ep,e,c⟩,r⟩:=x; exact ⟨mA,⟨od,es,ep,k _ _ (.inl rfl) e,c⟩,r⟩
 | rng lo hi=>obtain ⟨t,u,v,e⟩:=x; exact ⟨t,u,v,k _ _ (.inl rfl) e⟩
 | frz ob u ih=>obtain ⟨e,q⟩:=x; exact ⟨k _ _ (.inl rfl) e,ih q⟩
 | tbl ps =>
  have e:h.get? a = some { cls:=.none,data:=.fields ps }:=x
  show h'.get? a = some { cls:=.none,data:=.fields ps }
  exact k a _ (.inl rfl) e
 | met f y =>
  have e:h.get? a = some (PySem.W.methodObj (.ref f) (.ref y)):=x
  show h'.get? a = some (PySem.W.methodObj (.ref f) (.ref y))
  exact k a _ (.inl rfl) e
 | ext φ=>obtain ⟨p,⟨o,e⟩,st⟩:=x; exact ⟨st _ _ p fun o q=>k _ _ (.inl rfl) q,⟨o,k _ _ (.inl rfl) e⟩,st⟩
theorem HOk.lt (x:HOk P w H h) (e:H a = some o):a < h.objs.size:=(x a o e).lt
theorem HOk.fresh (x:HOk P w H h) (e:h.objs.size≤a):H a = none:=by
 cases q:H a with
 | none=>rfl
 | some u=>exact absurd (Nat.lt_of_lt_of_le (x.lt q) e) (Nat.lt_irrefl _)
theorem HOk.kept (x:HOk P w H h) (k:∀ b u,h.get? b = some u→h'.get? b = some u):HOk P w H h':=fun a o e =>
 (x a o e).stay (fun b u _ q=>k b u q) (fun _ q=>q) fun _ _ q=>q
theorem HOk.laid (x:HOk P w H h) (k:∀ b u,h.get? b = some u→h'.get? b = some u) (hp:h.objs.size≤a) (new:ObjOk P w (upd H a o) h' a o):HOk P w (upd H a o) h':=fun b u e=>by
 have hn:=x.fresh hp
 by_cases hb:b = a
 ·subst hb; rw [upd_same] at e; cases e; exact new
 ·rw [upd_ne hb] at e
  exact (x b u e).stay (fun c v _ q=>k c v q) (fun c q=>by rw [upd_ne (ne_of_none q hn)]; exact q) fun c xs q=>by rw [upd_ne (ne_of_none q hn)]; exact q
end
def Rd (H:Hp) (a:Addr) (u:HO):Prop:=H a = some u∨∃ o,H a = some (.frz o u)
theorem Rd.ok {P:Program} {w:World} {H:Hp} {h:Heap} {a:Addr} {u:HO} (r:Rd H a u) (x:HOk P w H h):ObjOk P w H h a u:=by
 rcases r with r | ⟨o,r⟩
 ·exact x a u r
 ·obtain ⟨_,q⟩:=x a _ r
  exact q
def Mut:Option HO→Prop
 | some (.lst _)=>True
 | some (.dK _)=>True
 | some (.dT _)=>True
 | some (.set _ _)=>True
 | some (.ins _ _ _)=>True
 | some (.ext _)=>True
 | _=>False
section
variable {P:Program} {w:World} {H:Hp} {h h':Heap} {x e:Addr} {o':HO}
theorem HOk.write (ok:HOk P w H h) (mu:Mut (H x)) (he:e = x∨H e = some (.own x)) (k:∀ b u,b ≠ e→h.get? b = some u→h'.get? b = some u) (heo:∃ u,h'.get? e = some u)
  (new:ObjOk P w (upd H x o') h' x o'):HOk P w (upd H x o') h':=fun b u q=>by
 have nown:∀ c y,H c = some (.own y)→c ≠ x:=fun c y r z=>by subst z; rw [r] at mu; exact mu
 have ntup:∀ c xs,H c = some (.tup xs)→c ≠ x:=fun c xs r z=>by subst z; rw [r] at mu; exact mu
 by_cases hb:b = x
 ·subst hb; rw [upd_same] at q; cases q; exact new
 ·rw [upd_ne hb] at q
  by_cases hbe:b = e
  ·have q':H b = some (.own x):=by
    rcases he with z | z
    ·exact absurd (hbe.trans z) hb
    ·rw [hbe]; exact z
   rw [q] at q'; cases q'
   obtain ⟨v,hv⟩:=heo
   exact ⟨v,by rw [hbe]; exact hv⟩
  ·refine (ok b u q).stay (fun c v hc r=>k c v ?_ r) (fun c r=>by rw [upd_ne (nown c b r)]; exact r) fun c xs r=>by rw [upd_ne (ntup c xs r)]; exact r
   rcases hc with rfl | hc
   ·exact hbe
   ·rintro rfl
    rcases he with z | z
    ·exact nown c b hc z
    ·rw [hc] at z; cases z; exact hb rfl
end
structure Un (fs ex:List Addr) (H H':Hp) (h h':Heap):Prop where
 keep:∀ b o,h.get? b = some o→H b = none→b ∉ fs→b ∉ ex→h'.get? b = some o
 slot:∀ b o,h.get? b = some o→H b = none→b ∈ fs→b ∉ ex→∃ sl,h'.get? b = some { o with slots:=sl }
 free:∀ b o,h.get? b = some o→H b = none→b ∉ ex→H' b = none
 there:∀ b o,h.get? b = some o→b ∉ ex→∃ o',h'.get? b = some o'
 tups:∀ b xs,H b = some (.tup xs)→H' b = some (.tup xs)
 frzs:∀ b o u,H b = some (.frz o u)→H' b = some (.frz o u)
 tbls:∀ b ps,H b = some (.tbl ps)→∃ more,H' b = some (.tbl (ps ++ more))
section
variable {fs fs' ex ex':List Addr} {H H1 H2:Hp} {h h1 h2 h':Heap} {a x e:Addr} {o:HO}
theorem Un.any (u:Un fs ex H H1 h h1) {b:Addr} {ob:Obj} (q:h.get? b = some ob) (n:H b = none) (hx:b ∉ ex):∃ sl,h1.get? b = some { ob with slots:=sl }:=by
 by_cases hb:b ∈ fs
 ·exact u.slot b ob q n hb hx
 ·exact ⟨ob.slots,u.keep b ob q n hb hx⟩
theorem Un.kept (k:∀ b u,h.get? b = some u→h'.get? b = some u):Un fs ex H H h h' :=
 ⟨fun b ob q _ _ _=>k b ob q,fun b ob q _ _ _=>⟨ob.slots,k b ob q⟩,fun _ _ _ n _=>n,fun b ob q _=>⟨ob,k b ob q⟩,fun _ _ q=>q,fun _ _ _ q=>q,fun _ ps q=>⟨#[],by rw [q]; simp⟩⟩
theorem Un.refl:Un fs ex H H h h:=Un.kept fun _ _ q=>q
theorem Un.laid (k:∀ b u,h.get? b = some u→h'.get? b = some u) (hp:h.objs.size≤a) (hn:H a = none):Un fs ex H (upd H a o) h h' where
 keep:=fun b u q _ _ _=>k b u q
 slot:=fun b u q _ _ _=>⟨u.slots,k b u q⟩
 free:=fun b u q n _=>by rw [upd_ne (Nat.ne_of_lt (Nat.lt_of_lt_of_le (Heap.lt_size q) hp))]; exact n
 there:=fun b u q _=>⟨u,k b u q⟩
 tups:=fun b xs q=>by rw [upd_ne (ne_of_none q hn)]; exact q
 frzs:=fun b u xs q=>by rw [upd_ne (ne_of_none q hn)]; exact q
 tbls:=fun b ps q=>⟨#[],by rw [upd_ne (ne_of_none q hn),q]; simp⟩
theorem Un.write (mu:Mut (H x)) (he:e = x∨H e = some (.own x)) (k:∀ b u,b ≠ e→h.get? b = some u→h'.get? b = some u) (heo:∃ u,h'.get? e = some u):Un fs ex H (upd H x o) h h':=by
 have hx:∀ b,H b = none→b ≠ x:=fun b n z=>by subst z; rw [n] at mu; exact mu
 have hb:∀ b,H b = none→b ≠ e:=fun b n z=>by
  subst z
  rcases he with r | r
  ·exact hx b n r
  ·rw [n] at r; cases r
 have hm:∀ b u,H b = some u→¬ Mut (some u)→b ≠ x:=fun b u q nm z=>by subst z; rw [q] at mu; exact nm mu
 refine ⟨fun b u q n _ _=>k b u (hb b n) q,fun b u q n _ _=>⟨u.slots,k b u (hb b n) q⟩,fun b u q n _=>by rw [upd_ne (hx b n)]; exact n,fun b u q _=>?_,
  fun b xs q=>by rw [upd_ne (hm b _ q fun z=>z)]; exact q,fun b u xs q=>by rw [upd_ne (hm b _ q fun z=>z)]; exact q,fun b ps q=>⟨#[],by rw [upd_ne (hm b _ q fun z=>z),q]; simp⟩⟩
 by_cases hbe:b = e
 ·subst hbe; exact heo
 ·exact ⟨u,k b u hbe q⟩
end
def trk (h:Heap) (H:Hp):List Addr:=(List.range h.objs.size).filter fun a=>(H a).isSome
def hidT (h:Heap) (H:Hp):Heap:=PySem.W.hideAll h (trk h H)
theorem hidT_size (h:Heap) (H:Hp):(hidT h H).objs.size = h.objs.size:=PySem.W.hideAll_size _ _
theorem hidT_get {h:Heap} {H:Hp} {b:Addr} {o:Obj} (e:h.get? b = some o) (n:H b = none):(hidT h H).get? b = some o :=
 PySem.W.hideAll_get _ e fun hm=>by
  have q:(H b).isSome = true:=(List.mem_filter.mp hm).2
  rw [n] at q; simp at q
theorem of_hidT {h:Heap} {H:Hp} {b:Addr} {o:Obj} (e:(hidT h H).get? b = some o):h.get? b = some o∧H b = none:=by
 have e':h.get? b = some o:=PySem.W.of_hideAll (trk h H) e
 refine ⟨e',?_⟩
 cases q:H b with
 | none=>rfl
 | some x =>
  have hm:b ∈ trk h H:=List.mem_filter.mpr ⟨List.mem_range.mpr (Heap.lt_size e'),by simp [q]⟩
  have z:(hidT h H).get? b = none:=PySem.W.hideAll_none (trk h H) hm
  rw [z] at e; cases e
end L2
namespace L2
open PySem PySem.Spec PyProof.Rows
structure Mod (K:PySem.W.Frag) (mg:Str→Option Value) (base:Heap):Prop where
 kin:K.In base
 glob:base.Ns mainGlobals mg
 blt:∃ mb,base.Ns builtinsNs mb∧∀ x:Str,x ≠ "__name__"→mb x = bootBuiltins x
 nolimit:base.NoLimit
structure Cx where
 prog:Program
 w:World
 K:PySem.W.Frag
 mg:Str→Option Value
 base:Heap
 A:Around
 N:List Str
 s₀:Shared
 H₀:Hp
 env:Env
 outer:List Env
 stack:List Env
 ex:List Addr
 fn:Str→Bool
 calm:Bool
 pn:List (Addr × Obj)
 xe:Value→Shared→Prop
def frs (l:List Env):List Addr:=l.filterMap (·.frame)
abbrev Cx.fs (X:Cx):List Addr:=frs X.outer
def Vis (sc:Scope) (x:Str):Prop:=sc.names.lookup x = some .local∨sc.names.lookup x = some .cell∨sc.names.lookup x = some .free
def Loc (sc:Scope) (x:Str):Prop:=sc.names.lookup x = some .local∨sc.names.lookup x = some .cell
def Look (env:Env) (h:Heap) (m:Str→Option Value) (x:Str) (u:Value):Prop :=
 (env.kindOf x = some .local∧m x = some u)∨((env.kindOf x = some .cell∨env.kindOf x = some .free)∧∃ c,env.cells.lookup x = some c∧h.IsCell c (some u))
structure Cx.Ok (X:Cx):Prop where
 mod:Mod X.K X.mg X.base
 kind:X.env.scope.kind = .function
 glob:X.env.globals = mainGlobals
 blt:X.env.builtins = builtinsNs
 above:X.s₀.heap.objs.size≤X.env.locals
 inj:∀ x y c,X.env.cells.lookup x = some c→X.env.cells.lookup y = some c→x = y
 has:∀ x,(X.env.kindOf x = some .cell∨X.env.kindOf x = some .free)→∃ c,X.env.cells.lookup x = some c
 cab:∀ x c,X.fn x = true→X.env.cells.lookup x = some c→X.s₀.heap.objs.size≤c
 hd:X.calm = true→X.A.handled = none
 frames:X.A.frames = some X.stack
 stk:X.stack = X.outer∨(X.stack = X.env :: X.outer∧X.env.frame = some X.env.locals)
 exf:∀ b ∈ X.ex,b ≠ X.env.locals∧∀ x c,X.env.cells.lookup x = some c→c ≠ b
 bs:∀ b o,X.base.get? b = some o→X.s₀.heap.get? b = some o∧X.H₀ b = none
 bsz:X.base.objs.size≤X.s₀.heap.objs.size
 noex:∀ b o,X.base.get? b = some o→b ∉ X.ex
 exfs:∀ b ∈ X.ex,b ∉ X.fs
 funs:X.s₀.heap.FunFrames X.base X.outer
 frf:∀ b ∈ X.fs,X.H₀ b = none
structure Inv (X:Cx) (pins:List (Addr × Obj)) (σ:List (Option V)) (H:Hp) (s:Shared):Prop where
 ok:X.Ok
 os:s.os = X.s₀.os
 bare:AllBare s.gens
 base:Un X.fs X.ex X.H₀ H X.s₀.heap s.heap
 loc:∃ m,s.heap.Ns X.env.locals m∧∀ (i:Nat) (x:Str) (v:V),X.N[i]? = some x→σ[i]? = some (some v)→Vis X.env.scope x→∃ u,RelV v u∧Look X.env s.heap m x u
 cell:∀ x c,X.env.cells.lookup x = some c→∃ v,s.heap.IsCell c v
 free:H X.env.locals = none
 freeC:∀ x c,X.env.cells.lookup x = some c→H c = none
 pin:∀ p ∈ X.pn ++ pins,s.heap.get? p.1 = some p.2∧H p.1 = none∧p.1 ≠ X.env.locals∧p.1 ∉ X.fs∧∀ v,p.2.data ≠ .cell v
 hok:HOk X.prog X.w H s.heap
 len:σ.length = X.N.length
section
variable {X:Cx} {pins:List (Addr × Obj)} {σ:List (Option V)} {H H':Hp} {s:Shared} {h':Heap}
theorem Cx.Ok.nofr (ok:X.Ok) {b:Addr} {o:Obj} (e:X.base.get? b = some o):b ∉ X.fs:=fun hb=>by
 have:=(ok.funs.mem hb).1
 rw [e] at this; cases this
theorem Inv.bs (I:Inv X pins σ H s):∀ b o,X.base.get? b = some o→s.heap.get? b = some o∧H b = none:=fun b o e =>
 ⟨I.base.keep b o (I.ok.bs b o e).1 (I.ok.bs b o e).2 (I.ok.nofr e) (I.ok.noex b o e),I.base.free b o (I.ok.bs b o e).1 (I.ok.bs b o e).2 (I.ok.noex b o e)⟩
theorem Inv.bk (I:Inv X pins σ H s):∀ b o,X.base.get? b = some o→s.heap.get? b = some o:=fun b o e=>(I.bs b o e).1
theorem Inv.mod (I:Inv X pins σ H s):Mod X.K X.mg X.base:=I.ok.mod
theorem Inv.kIn (I:Inv X pins σ H s):X.K.In s.heap:=I.ok.mod.kin.keeps I.bk
theorem Inv.lt (I:Inv X pins σ H s):X.env.locals < s.heap.objs.size:=let ⟨_,hn,_⟩:=I.loc; hn.lt
theorem Inv.sz (I:Inv X pins σ H s):X.s₀.heap.objs.size≤s.heap.objs.size:=Nat.le_trans I.ok.above (Nat.le_of_lt I.lt)
theorem Inv.nofs (I:Inv X pins σ H s) {a:Addr} (h:s.heap.objs.size≤a):a ∉ X.fs:=fun hb=>by
 obtain ⟨_,o,ho,_⟩:=I.ok.funs.mem hb
 exact absurd (Nat.lt_of_lt_of_le (Heap.lt_size ho) (Nat.le_trans I.sz h)) (Nat.lt_irrefl _)
theorem Inv.cne (I:Inv X pins σ H s):∀ x c,X.env.cells.lookup x = some c→c ≠ X.env.locals:=fun x c e z=>by
 obtain ⟨v,o,ho,hd⟩:=I.cell x c e
 obtain ⟨m,⟨o',es,ep,ho',hd',_⟩,_⟩:=I.loc
 rw [z,ho'] at ho; cases ho; rw [hd'] at hd; cases hd
theorem Inv.funs (I:Inv X pins σ H s):s.heap.FunFrames X.base X.outer:=by
 have all:∀ (l:List Env),(∀ b ∈ frs l,b ∈ X.fs)→X.s₀.heap.FunFrames X.base l→s.heap.FunFrames X.base l:=by
  intro l
  induction l with
  | nil=>intro _ _; trivial
  | cons env r ih =>
   intro hs hl
   obtain ⟨hk,⟨L,o,hf,hn,ho,hd⟩,hr⟩:=hl
   have hL:L ∈ X.fs:=hs L (by unfold frs; rw [List.filterMap_cons,hf]; exact List.mem_cons_self)
   obtain ⟨sl,e⟩:=I.base.slot L o ho (I.ok.frf L hL) hL fun z=>I.ok.exfs L z hL
   exact ⟨hk,⟨L,_,hf,hn,e,hd⟩,ih (fun b hb=>hs b (by unfold frs; rw [List.filterMap_cons,hf]; exact List.mem_cons_of_mem _ hb)) hr⟩
 exact all X.outer (fun _ hb=>hb) I.ok.funs
theorem Inv.stack (I:Inv X pins σ H s):s.heap.FunFrames X.base X.stack:=by
 rcases I.ok.stk with e | ⟨e,hf⟩
 ·rw [e]; exact I.funs
 ·rw [e]
  obtain ⟨m,hn,_⟩:=I.loc
  refine .cons (by rw [I.ok.kind]; decide) hf hn ?_ I.funs
  exact Heap.get?_none_of_le (Nat.le_trans I.ok.bsz I.ok.above)
theorem Inv.stkSub (I:Inv X pins σ H s):∀ b ∈ frs X.stack,b ∈ X.env.locals :: X.fs:=fun b hb=>by
 rcases I.ok.stk with e | ⟨e,hf⟩
 ·rw [e] at hb; exact List.mem_cons_of_mem _ hb
 ·rw [e] at hb
  unfold frs at hb
  rw [List.filterMap_cons,hf] at hb
  exact hb
theorem Inv.stkFree (I:Inv X pins σ H s):∀ b ∈ frs X.stack,H b = none:=fun b hb=>by
 rcases List.mem_cons.mp (I.stkSub b hb) with e | hb
 ·rw [e]; exact I.free
 ·obtain ⟨_,o,ho,_⟩:=I.ok.funs.mem hb
  exact I.base.free b o ho (I.ok.frf b hb) fun z=>I.ok.exfs b z hb
theorem Inv.step {g':Array GenState} {t':Nat} {d':Drawn} {ch:List Addr} (I:Inv X pins σ H s)
  (hch:∀ b ∈ ch,(b ∈ X.ex∨X.s₀.heap.objs.size≤b)∧b ≠ X.env.locals∧(∀ x c,X.env.cells.lookup x = some c→c ≠ b)∧∀ p ∈ X.pn ++ pins,p.1 ≠ b)
  (keep:∀ b o,b ≠ X.env.locals→b ∉ X.fs→b ∉ ch→s.heap.get? b = some o→H b = none→h'.get? b = some o)
  (slot:∀ b o,b ≠ X.env.locals→b ∈ X.fs→b ∉ ch→s.heap.get? b = some o→H b = none→∃ sl,h'.get? b = some { o with slots:=sl }) (free:∀ b o,b ∉ ch→s.heap.get? b = some o→H b = none→H' b = none)
  (there:∀ b o,b ∉ ch→s.heap.get? b = some o→∃ o',h'.get? b = some o')
  (tups:∀ b xs,H b = some (.tup xs)→H' b = some (.tup xs)) (frzs:∀ b o u,H b = some (.frz o u)→H' b = some (.frz o u)) (tbls:∀ b ps,H b = some (.tbl ps)→∃ more,H' b = some (.tbl (ps ++ more)))
  (ns:∀ m,s.heap.Ns X.env.locals m→h'.Ns X.env.locals m) (hok:HOk X.prog X.w H' h') (hg:AllBare g') :
  Inv X pins σ H' { s with heap:=h',gens:=g',drawn:=d',toks:=t' }:=by
 have neL:∀ b o,X.s₀.heap.get? b = some o→b ≠ X.env.locals:=fun b o e=>Nat.ne_of_lt (Nat.lt_of_lt_of_le (Heap.lt_size e) I.ok.above)
 have neC:∀ b o,X.s₀.heap.get? b = some o→b ∉ X.ex→b ∉ ch:=fun b o e hx hb=>by
  rcases (hch b hb).1 with z | z
  ·exact hx z
  ·exact absurd (Nat.lt_of_lt_of_le (Heap.lt_size e) z) (Nat.lt_irrefl _)
 have cellK:∀ x c,X.env.cells.lookup x = some c→∀ v,s.heap.IsCell c v→h'.IsCell c v:=fun x c e v ⟨o,ho,hd⟩=>by
  have nch:c ∉ ch:=fun z=>(hch c z).2.2.1 x c e rfl
  by_cases hc:c ∈ X.fs
  ·obtain ⟨sl,q⟩:=slot c o (I.cne x c e) hc nch ho (I.freeC x c e)
   exact ⟨_,q,hd⟩
  ·exact ⟨o,keep c o (I.cne x c e) hc nch ho (I.freeC x c e),hd⟩
 refine ⟨I.ok,I.os,hg,⟨fun b o e n hb hx=>?_,fun b o e n hb hx=>?_,fun b o e n hx=>?_,fun b o e hx=>?_,fun b xs e=>tups b xs (I.base.tups b xs e),fun b o xs e=>frzs b o xs (I.base.frzs b o xs e),fun b ps e=>?_⟩,?_,fun x c e=>?_,?_,fun x c e=>?_,fun p hp=>?_,hok,I.len⟩
 ·exact keep b o (neL b o e) hb (neC b o e hx) (I.base.keep b o e n hb hx) (I.base.free b o e n hx)
 ·obtain ⟨sl,e1⟩:=I.base.slot b o e n hb hx
  obtain ⟨sl',e2⟩:=slot b _ (neL b o e) hb (neC b o e hx) e1 (I.base.free b o e n hx)
  exact ⟨sl',e2⟩
 ·obtain ⟨o',e1⟩:=I.base.there b o e hx
  exact free b o' (neC b o e hx) e1 (I.base.free b o e n hx)
 ·obtain ⟨o',e1⟩:=I.base.there b o e hx
  exact there b o' (neC b o e hx) e1
 ·obtain ⟨m1,e1⟩:=I.base.tbls b ps e
  obtain ⟨m2,e2⟩:=tbls b _ e1
  exact ⟨m1 ++ m2,by rw [e2,Array.append_assoc]⟩
 ·obtain ⟨m,hn,hl⟩:=I.loc
  refine ⟨m,ns m hn,fun i x v e1 e2 e3=>?_⟩
  obtain ⟨u,r,l⟩:=hl i x v e1 e2 e3
  refine ⟨u,r,?_⟩
  rcases l with l | ⟨k,c,e,z⟩
  ·exact .inl l
  ·exact .inr ⟨k,c,e,cellK x c e _ z⟩
 ·obtain ⟨v,z⟩:=I.cell x c e
  exact ⟨v,cellK x c e v z⟩
 ·obtain ⟨m,⟨o,_,_,ho,_⟩,_⟩:=I.loc
  exact free _ o (fun z=>(hch _ z).2.1 rfl) ho I.free
 ·obtain ⟨v,o,ho,hd⟩:=I.cell x c e
  exact free c o (fun z=>(hch c z).2.2.1 x c e rfl) ho (I.freeC x c e)
 ·obtain ⟨e,n,ne,nf,d⟩:=I.pin p hp
  have nch:p.1 ∉ ch:=fun z=>(hch p.1 z).2.2.2 p hp rfl
  exact ⟨keep p.1 p.2 ne nf nch e n,free p.1 p.2 nch e n,ne,nf,d⟩
theorem Inv.un {t':Nat} (I:Inv X pins σ H s) (u:Un X.fs [] H H' s.heap h') (hok:HOk X.prog X.w H' h'):Inv X pins σ H' { s with heap:=h',toks:=t' }:=by
 obtain ⟨m,⟨o,es,ep,ho,r⟩,_⟩:=id I.loc
 obtain ⟨sl,hL⟩:=u.any ho I.free (by simp)
 exact I.step (g':=s.gens) (d':=s.drawn) (ch:=[]) (fun _ z=>nomatch z) (fun b o _ hb _ e n=>u.keep b o e n hb (by simp)) (fun b o _ hb _ e n=>u.slot b o e n hb (by simp)) (fun b o _ e n=>u.free b o e n (by simp)) (fun b o _ e=>u.there b o e (by simp)) u.tups u.frzs u.tbls (fun m' hm=>by
  obtain ⟨o',es',ep',ho',r'⟩:=hm
  rw [ho] at ho'; cases ho'
  exact ⟨_,es',ep',hL,r'⟩) hok I.bare
theorem Inv.call {g':Array GenState} {t':Nat} {d':Drawn} {ch:List Addr} (I:Inv X pins σ H s) (u:Un (frs X.stack) ch H H' s.heap h') (hok:HOk X.prog X.w H' h') (hg:AllBare g')
  (hch:∀ b ∈ ch,(b ∈ X.ex∨X.s₀.heap.objs.size≤b)∧b ≠ X.env.locals∧(∀ x c,X.env.cells.lookup x = some c→c ≠ b)∧∀ p ∈ X.pn ++ pins,p.1 ≠ b) :
  Inv X pins σ H' { s with heap:=h',gens:=g',drawn:=d',toks:=t' }:=by
 obtain ⟨m,⟨o,es,ep,ho,r⟩,_⟩:=id I.loc
 obtain ⟨sl,hL⟩:=u.any ho I.free fun z=>(hch _ z).2.1 rfl
 exact I.step (ch:=ch) hch (fun b o hL hb hc e n=>u.keep b o e n (fun z=>(List.mem_cons.mp (I.stkSub b z)).elim hL hb) hc) (fun b o _ _ hc e n=>u.any e n hc) (fun b o hc e n=>u.free b o e n hc) (fun b o hc e=>u.there b o e hc) u.tups u.frzs u.tbls (fun m' hm=>by
  obtain ⟨o',es',ep',ho',r'⟩:=hm
  rw [ho] at ho'; cases ho'
  exact ⟨_,es',ep',hL,r'⟩) hok hg
theorem Inv.turned {t':Nat} {it:Addr} (I:Inv X pins σ H s) (k:∀ b o,b ≠ it→s.heap.get? b = some o→h'.get? b = some o) (hn:H it = none) (hL:it ≠ X.env.locals)
  (h1:it ∈ X.ex∨X.s₀.heap.objs.size≤it) (h2:∀ x c,X.env.cells.lookup x = some c→c ≠ it) (h3:∀ p ∈ X.pn ++ pins,p.1 ≠ it):Inv X pins σ H { s with heap:=h',toks:=t' }:=by
 have nit:∀ b u,H b = some u→b ≠ it:=fun b u e z=>by rw [z,hn] at e; cases e
 refine I.step (g':=s.gens) (d':=s.drawn) (ch:=[it]) (fun b hb=>?_) (fun b o _ _ hc e _=>k b o (fun z=>hc (by simp [z])) e) (fun b o _ _ hc e _=>⟨o.slots,k b o (fun z=>hc (by simp [z])) e⟩) (fun _ _ _ _ n=>n)
  (fun b o hc e=>⟨o,k b o (fun z=>hc (by simp [z])) e⟩) (fun _ _ e=>e) (fun _ _ _ e=>e) (fun b ps e=>⟨#[],by rw [e]; simp⟩) (fun m hm=>?_) (fun b u e=>?_) I.bare
 ·have e:b = it:=by simpa using hb
  subst e
  exact ⟨h1,hL,h2,h3⟩
 ·obtain ⟨o,es,ep,ho,r⟩:=hm
  exact ⟨o,es,ep,k _ o (Ne.symm hL) ho,r⟩
 ·refine (I.hok b u e).stay (fun c v hc q=>k c v ?_ q) (fun _ q=>q) fun _ _ q=>q
  rcases hc with z | z
  ·rw [z]; exact nit b u e
  ·exact nit c _ z
theorem Inv.tok (I:Inv X pins σ H s) (t:Nat):Inv X pins σ H { s with toks:=t }:=I.un (h':=s.heap) (t':=t) Un.refl I.hok
theorem Inv.kept {t':Nat} (I:Inv X pins σ H s) (k:∀ b u,s.heap.get? b = some u→h'.get? b = some u):Inv X pins σ H { s with heap:=h',toks:=t' }:=I.un (Un.kept k) (I.hok.kept k)
theorem Inv.laid {a:Addr} {o:HO} {t':Nat} (I:Inv X pins σ H s) (k:∀ b u,s.heap.get? b = some u→h'.get? b = some u) (hp:s.heap.objs.size≤a) (new:ObjOk X.prog X.w (upd H a o) h' a o) :
  Inv X pins σ (upd H a o) { s with heap:=h',toks:=t' }:=I.un (Un.laid k hp (I.hok.fresh hp)) (I.hok.laid k hp new)
theorem Inv.write {x e:Addr} {o:HO} {t':Nat} (I:Inv X pins σ H s) (mu:Mut (H x)) (he:e = x∨H e = some (.own x)) (k:∀ b u,b ≠ e→s.heap.get? b = some u→h'.get? b = some u) (heo:∃ u,h'.get? e = some u)
  (new:ObjOk X.prog X.w (upd H x o) h' x o):Inv X pins σ (upd H x o) { s with heap:=h',toks:=t' }:=I.un (Un.write mu he k heo) (I.hok.write mu he k heo new)
theorem Inv.pins_of {pins':List (Addr × Obj)} (I:Inv X pins σ H s) (h:∀ p ∈ pins',s.heap.get? p.1 = some p.2∧H p.1 = none∧p.1 ≠ X.env.locals∧p.1 ∉ X.fs∧∀ v,p.2.data ≠ .cell v):Inv X pins' σ H s :=
 ⟨I.ok,I.os,I.bare,I.base,I.loc,I.cell,I.free,I.freeC,fun p hp=>(List.mem_append.mp hp).elim (fun z=>I.pin p (List.mem_append_left _ z)) (h p),I.hok,I.len⟩
theorem nodup_ix {N:List Str} (hN:N.Nodup) {i j:Nat} {x:Str} (a:N[i]? = some x) (b:N[j]? = some x):i = j:=by
 obtain ⟨h1,e1⟩:=List.getElem?_eq_some_iff.mp a
 obtain ⟨h2,e2⟩:=List.getElem?_eq_some_iff.mp b
 exact (List.getElem_inj hN).mp (e1.trans e2.symm)
theorem store_ok2 {M:Model} {A:Around} {E:Value→Shared→Prop} {i:Nat} {x:Str} {v:V} {u:Value} {Q:Unit→Shared→Prop} (I:Inv X pins σ H s) (hN:X.N.Nodup) (hi:X.N[i]? = some x) (hx:Loc X.env.scope x) (r:RelV v u)
  (h:∀ s',Inv X pins (σ.set i (some v)) H s'→(∃ a,Heap.SameBut a s.heap s'.heap∧(a = X.env.locals∨X.env.cells.lookup x = some a))→Q () s') (hf:X.fn x = true∨X.env.scope.names.lookup x = some .local:=by first | exact .inl rfl | exact .inr rfl | assumption):wpAny M A (storeName X.env x u) Q E s:=by
 obtain ⟨m,hn,hl⟩:=id I.loc
 have hcls:(X.env.scope.kind == .class || (X.env.scope.kind == .module && X.env.locals != X.env.globals)) = false:=by rw [I.ok.kind]; rfl
 have hiσ:i < σ.length:=by rw [I.len]; exact (List.getElem?_eq_some_iff.mp hi).1
 have cne:=I.cne
 have tracked:∀ {a:Addr} {h':Heap},(∃ o,s.heap.get? a = some o∧H a = none)→Heap.SameBut a s.heap h'→HOk X.prog X.w H h':=fun {a h'} ha hs b ob e=>by
  obtain ⟨_,_,hfree⟩:=ha
  refine (I.hok b ob e).stay (fun c w' hc q=>(hs.2 c ?_).trans q) (fun _ q=>q) fun _ _ q=>q
  rintro rfl
  rcases hc with rfl | hc
  ·rw [hfree] at e; cases e
  ·rw [hfree] at hc; cases hc
 rcases hx with hk | hk
 ·refine wpAny_storeName_local hk hn (fun h' hn' hs=>?_) hcls
  obtain ⟨oL,_,_,hoL,_⟩:=id hn
  refine h _ ⟨I.ok,I.os,I.bare,⟨fun b o e n hb hx=>?_,fun b o e n hb hx=>?_,I.base.free,fun b o e hx=>?_,I.base.tups,I.base.frzs,I.base.tbls⟩,⟨_,hn',fun j y v' e1 e2 e3=>?_⟩,fun y c e=>?_,I.free,I.freeC,fun p hp=>?_,tracked ⟨oL,hoL,I.free⟩ hs,by simpa using I.len⟩ ⟨_,hs,.inl rfl⟩
  ·exact (hs.2 b (Nat.ne_of_lt (Nat.lt_of_lt_of_le (Heap.lt_size e) I.ok.above))).trans (I.base.keep b o e n hb hx)
  ·obtain ⟨sl,e1⟩:=I.base.slot b o e n hb hx
   exact ⟨sl,(hs.2 b (Nat.ne_of_lt (Nat.lt_of_lt_of_le (Heap.lt_size e) I.ok.above))).trans e1⟩
  ·obtain ⟨o',e1⟩:=I.base.there b o e hx
   exact ⟨o',(hs.2 b (Nat.ne_of_lt (Nat.lt_of_lt_of_le (Heap.lt_size e) I.ok.above))).trans e1⟩
  ·by_cases hj:j = i
   ·subst hj
    rw [hi] at e1; cases e1
    rw [List.getElem?_set_self hiσ] at e2
    cases e2
    exact ⟨u,r,.inl ⟨hk,by simp⟩⟩
   ·rw [List.getElem?_set_ne (Ne.symm hj)] at e2
    obtain ⟨u',r',q⟩:=hl j y v' e1 e2 e3
    refine ⟨u',r',?_⟩
    rcases q with ⟨k,e⟩ | ⟨k,c,e,z⟩
    ·refine .inl ⟨k,?_⟩
     have:y ≠ x:=fun e=>hj (nodup_ix hN e1 (e ▸ hi))
     simp [this,e]
    ·exact .inr ⟨k,c,e,z.sameBut hs (cne y c e)⟩
  ·obtain ⟨w',z⟩:=I.cell y c e
   exact ⟨w',z.sameBut hs (cne y c e)⟩
  ·obtain ⟨e,n,ne,nf,d⟩:=I.pin p hp
   exact ⟨(hs.2 p.1 ne).trans e,n,ne,nf,d⟩
 ·have hfn:X.fn x = true:=by
   rcases hf with z | z
   ·exact z
   ·rw [z] at hk; cases hk
  obtain ⟨c,hc⟩:=I.ok.has x (.inl hk)
  obtain ⟨w',z⟩:=I.cell x c hc
  refine wpAny_storeName_cell I.ok.kind hk hc z (fun h' hc' hs=>?_)
  obtain ⟨oc,hoc,hocd⟩:=id z
  refine h { s with heap:=h' } ⟨I.ok,I.os,I.bare,⟨fun b o e n hb hx=>?_,fun b o e n hb hx=>?_,I.base.free,fun b o e hx=>?_,I.base.tups,I.base.frzs,I.base.tbls⟩,⟨m,hn.sameBut hs (Ne.symm (cne x c hc)),fun j y v' e1 e2 e3=>?_⟩,fun y c' e=>?_,I.free,I.freeC,fun p hp=>?_,tracked ⟨oc,hoc,I.freeC x c hc⟩ hs,by simpa using I.len⟩ ⟨c,hs,.inr hc⟩
  ·exact (hs.2 b (Nat.ne_of_lt (Nat.lt_of_lt_of_le (Heap.lt_size e) (I.ok.cab x c hfn hc)))).trans (I.base.keep b o e n hb hx)
  ·obtain ⟨sl,e1⟩:=I.base.slot b o e n hb hx
   exact ⟨sl,(hs.2 b (Nat.ne_of_lt (Nat.lt_of_lt_of_le (Heap.lt_size e) (I.ok.cab x c hfn hc)))).trans e1⟩
  ·obtain ⟨o',e1⟩:=I.base.there b o e hx
   exact ⟨o',(hs.2 b (Nat.ne_of_lt (Nat.lt_of_lt_of_le (Heap.lt_size e) (I.ok.cab x c hfn hc)))).trans e1⟩
  ·by_cases hj:j = i
   ·subst hj
    rw [hi] at e1; cases e1
    rw [List.getElem?_set_self hiσ] at e2
    cases e2
    exact ⟨u,r,.inr ⟨.inl hk,c,hc,hc'⟩⟩
   ·rw [List.getElem?_set_ne (Ne.symm hj)] at e2
    obtain ⟨u',r',q⟩:=hl j y v' e1 e2 e3
    refine ⟨u',r',?_⟩
    rcases q with q | ⟨k,c',e,z'⟩
    ·exact .inl q
    ·refine .inr ⟨k,c',e,z'.sameBut hs ?_⟩
     rintro rfl
     exact hj (nodup_ix hN e1 (I.ok.inj _ _ _ e hc ▸ hi))
  ·by_cases hcc:c' = c
   ·subst hcc; exact ⟨_,hc'⟩
   ·obtain ⟨w2,z2⟩:=I.cell y c' e
    exact ⟨w2,z2.sameBut hs hcc⟩
  ·obtain ⟨e,n,ne,nf,d⟩:=I.pin p hp
   refine ⟨(hs.2 p.1 ?_).trans e,n,ne,nf,d⟩
   intro q
   rw [q,hoc] at e
   have q':oc = p.2:=Option.some.inj e
   exact d w' (by rw [← q']; exact hocd)
theorem store_ok {M:Model} {A:Around} {E:Value→Shared→Prop} {i:Nat} {x:Str} {v:V} {u:Value} {Q:Unit→Shared→Prop} (I:Inv X pins σ H s) (hN:X.N.Nodup) (hi:X.N[i]? = some x) (hx:Loc X.env.scope x) (r:RelV v u)
  (h:∀ s',Inv X pins (σ.set i (some v)) H s'→Q () s') (hf:X.fn x = true∨X.env.scope.names.lookup x = some .local:=by first | exact .inl rfl | exact .inr rfl | assumption):wpAny M A (storeName X.env x u) Q E s :=
 store_ok2 I hN hi hx r (fun s' I' _=>h s' I') hf
theorem Inv.call' {s':Shared} {ch:List Addr} (I:Inv X pins σ H s) (ho:s'.os = s.os) (u:Un (frs X.stack) ch H H' s.heap s'.heap) (hok:HOk X.prog X.w H' s'.heap) (hg:AllBare s'.gens)
  (hch:∀ b ∈ ch,(b ∈ X.ex∨X.s₀.heap.objs.size≤b)∧b ≠ X.env.locals∧(∀ x c,X.env.cells.lookup x = some c→c ≠ b)∧∀ p ∈ X.pn ++ pins,p.1 ≠ b):Inv X pins σ H' s':=by
 obtain ⟨h',g',d',t',o'⟩:=s'
 have e:o' = s.os:=ho
 subst e
 exact I.call (g':=g') (t':=t') (d':=d') u hok hg hch
end
abbrev XK:=Value→Option Addr→Hp→Prop
abbrev St:=List (Option V)
abbrev VK:=V→Hp→Prop
abbrev TE:=St→Hp→VK→Prop
abbrev TT:=St→Hp→(Bool→Hp→Prop)→Prop
abbrev TA:=St→Hp→(List V→Hp→Prop)→Prop
structure Ends where
 nx:St→Hp→Prop
 rt:VK
 bk:St→Hp→Prop:=fun _ _=>False
 ct:St→Hp→Prop:=fun _ _=>False
abbrev TS:=Ends→St→Hp→Prop
def EP (X:Cx) (pins:List (Addr × Obj)) (σ:St) (Q:VK) (u:Value) (s':Shared):Prop:=∃ v H',Inv X pins σ H' s'∧RelV v u∧Q v H'
def TP (X:Cx) (pins:List (Addr × Obj)) (σ:St) (Q:Bool→Hp→Prop) (b:Bool) (s':Shared):Prop:=∃ H',Inv X pins σ H' s'∧Q b H'
def AP (X:Cx) (pins:List (Addr × Obj)) (σ:St) (Q:List V→Hp→Prop) (us:List Value) (s':Shared):Prop:=∃ vs H',Inv X pins σ H' s'∧Vals vs us∧Q vs H'
def SP (X:Cx) (pins:List (Addr × Obj)) (D:Ends) (f:Flow) (s':Shared):Prop :=
 match f with
 | .next=>∃ σ' H',Inv X pins σ' H' s'∧D.nx σ' H'
 | .brk=>∃ σ' H',Inv X pins σ' H' s'∧D.bk σ' H'
 | .cont=>∃ σ' H',Inv X pins σ' H' s'∧D.ct σ' H'
 | .ret u=>∃ v σ' H',Inv X pins σ' H' s'∧RelV v u∧D.rt v H'
def PE (X:Cx) (e:Expr) (t:TE):Prop :=
 ∀ (pins:List (Addr × Obj)) (s:Shared) (σ:St) (H:Hp) (Q:VK),Inv X pins σ H s→t σ H Q→wpAny (model X.prog X.w) X.A (eval e X.env) (EP X pins σ Q) X.xe s
def PT (X:Cx) (e:Expr) (t:TT):Prop :=
 ∀ (pins:List (Addr × Obj)) (s:Shared) (σ:St) (H:Hp) (Q:Bool→Hp→Prop),Inv X pins σ H s→t σ H Q→wpAny (model X.prog X.w) X.A (isTrue e X.env (eval e X.env)) (TP X pins σ Q) X.xe s
def PW (X:Cx) (e:Expr) (t:TT):Prop :=
 ∀ (whole:Sem Value) (pins:List (Addr × Obj)) (s:Shared) (σ:St) (H:Hp) (Q:Bool→Hp→Prop),Inv X pins σ H s→t σ H Q→wpAny (model X.prog X.w) X.A (isTrue e X.env whole) (TP X pins σ Q) X.xe s
theorem PW.pt {X:Cx} {e:Expr} {t:TT} (h:PW X e t):PT X e t:=h _
def PA (X:Cx) (es:List Expr) (t:TA):Prop :=
 ∀ (pos:Pos) (pins:List (Addr × Obj)) (s:Shared) (σ:St) (H:Hp) (Q:List V→Hp→Prop),Inv X pins σ H s→t σ H Q→wpAny (model X.prog X.w) X.A (spliced (backTo pos (starEach es X.env))) (AP X pins σ Q) X.xe s
def PS (X:Cx) (st:Stmt) (t:TS):Prop :=
 ∀ (pins:List (Addr × Obj)) (s:Shared) (σ:St) (H:Hp) (D:Ends),Inv X pins σ H s→t D σ H→wpAny (model X.prog X.w) X.A (exec st X.env) (SP X pins D) X.xe s
def PSs (X:Cx) (st:List Stmt) (t:TS):Prop :=
 ∀ (pins:List (Addr × Obj)) (s:Shared) (σ:St) (H:Hp) (D:Ends),Inv X pins σ H s→t D σ H→wpAny (model X.prog X.w) X.A (execs st X.env) (SP X pins D) X.xe s
theorem thn {α:Type} {t:Sem α} {Q Q':α→Shared→Prop} {M:Model} {A:Around} {E:Value→Shared→Prop} {s:Shared} (h:wpAny M A t Q E s) (hQ:∀ a s,Q a s→Q' a s):wpAny M A t Q' E s:=wpAny_mono h hQ fun _ _ x=>x
end L2
namespace L2
open PySem PySem.Spec PyProof.Rows
section
variable {X:Cx}
def tVar (i:Nat):TE:=fun σ H Q=>∃ v,σ[i]? = some (some v)∧Q v H
def tC (v:V):TE:=fun _ H Q=>Q v H
theorem pe_var {i:Nat} {x:Str} {pos:Pos} (hN:X.N[i]? = some x) (hv:Vis X.env.scope x) (hd:(x == ("__debug__":Str)) = false:=by decide) (hcd:(x == ("__classdict__":Str)) = false:=by decide):PE X (.Name x pos) (tVar i):=by
 intro pins s σ H Q I h
 obtain ⟨v,e,h⟩:=h
 obtain ⟨m,hn,hl⟩:=I.loc
 obtain ⟨u,r,l⟩:=hl i x v hN e hv
 have fin:EP X pins σ Q u s:=⟨v,H,I,r,h⟩
 rcases l with ⟨hk,hm⟩ | ⟨hk,c,hc,hcell⟩
 ·exact wpAny_Name (wpAny_loadName_local I.ok.kind hk hn hm fin) hd
 ·rcases hk with hk | hk
  ·exact wpAny_Name (wpAny_loadName_cell I.ok.kind hk hc hcell fin) hd
  ·exact wpAny_Name (wpAny_loadName_free I.ok.kind hk hc hcell fin hcd) hd
theorem pe_int {i j pos}:PE X (.Constant (.int i) j pos) (tC (.int i)):=fun _ _ _ H _ I h=>wpAny_Constant_int ⟨.int i,H,I.tok _,⟨_,rfl⟩,h⟩
theorem pe_bl {b j pos}:PE X (.Constant (.bool b) j pos) (tC (.bl b)):=fun _ _ _ H _ I h=>Constant_bool ⟨.bl b,H,I,rfl,h⟩
theorem pe_non {j pos}:PE X (.Constant .none j pos) (tC .non):=fun _ _ _ H _ I h=>Constant_none ⟨.non,H,I,rfl,h⟩
theorem pe_str {x j pos}:PE X (.Constant (.str x) j pos) (tC (.str x)):=fun _ _ _ H _ I h=>Calls.Constant_str ⟨.str x,H,I.tok _,⟨_,rfl⟩,h⟩
def Gl (X:Cx) (x:Str):Prop:=X.env.kindOf x = some .globalImplicit
theorem ld_glob {E:Value→Shared→Prop} {pins:List (Addr × Obj)} {s:Shared} {σ:St} {H:Hp} {x:Str} {u:Value} {pos:Pos} {Q:Value→Shared→Prop} (I:Inv X pins σ H s) (hg:Gl X x) (hm:X.mg x = some u) (h:Q u s)
  (hd:(x == ("__debug__":Str)) = false:=by decide):wpAny (model X.prog X.w) X.A (eval (.Name x pos) X.env) Q E s :=
 Calls.Name_function_global I.ok.kind hg (Calls.loadGlobal_global (by rw [I.ok.glob]; exact I.mod.glob.keeps I.bk) hm h) hd
theorem ld_blt {E:Value→Shared→Prop} {pins:List (Addr × Obj)} {s:Shared} {σ:St} {H:Hp} {x:Str} {u:Value} {pos:Pos} {Q:Value→Shared→Prop} (I:Inv X pins σ H s) (hg:Gl X x) (hm:X.mg x = none) (hv:bootBuiltins x = some u) (h:Q u s)
  (hn:x ≠ "__name__":=by decide) (hd:(x == ("__debug__":Str)) = false:=by decide):wpAny (model X.prog X.w) X.A (eval (.Name x pos) X.env) Q E s:=by
 obtain ⟨mb,h1,h2⟩:=I.mod.blt
 exact Calls.Name_function_global I.ok.kind hg (Calls.loadGlobal_builtin (by rw [I.ok.glob]; exact I.mod.glob.keeps I.bk) hm (by rw [I.ok.blt]; exact h1.keeps I.bk) ((h2 x hn).trans hv) h) hd
theorem pe_glob {x:Str} {v:V} {u:Value} {pos:Pos} (hg:Gl X x) (hm:X.mg x = some u) (r:RelV v u) (hd:(x == ("__debug__":Str)) = false:=by decide):PE X (.Name x pos) (tC v) :=
 fun _ _ _ H _ I h=>ld_glob I hg hm ⟨v,H,I,r,h⟩ hd
theorem pe_bltn {x:Str} {v:V} {u:Value} {pos:Pos} (hg:Gl X x) (hm:X.mg x = none) (hv:bootBuiltins x = some u) (r:RelV v u) (hn:x ≠ "__name__":=by decide) (hd:(x == ("__debug__":Str)) = false:=by decide):PE X (.Name x pos) (tC v) :=
 fun _ _ _ H _ I h=>ld_blt I hg hm hv ⟨v,H,I,r,h⟩ hn hd
variable {a b:Expr} {ta tb:TE} {pos:Pos}
def tB (t:TE):TT:=fun σ H Q=>t σ H fun x H1=>∃ c,x = .bl c∧Q c H1
theorem pt_val {e:Expr} {t:TE} (h:PE X e t) (he:∀ whole,isTrue e X.env whole = (do let v ← whole; standAt e.pos; holding [v] (truthy v)):=by intro _; rfl):PT X e (tB t):=by
 intro pins s σ H Q I hw
 refine isTrue_plain (thn (h pins s σ H _ I hw) fun v s1 ⟨x,H1,I1,r1,q1⟩=>?_) (he _)
 obtain ⟨d,rfl,q⟩:=q1
 cases r1
 exact wpAny_truthy_bool ⟨H1,I1,q⟩
variable {tA tB':TT} {rest:List Expr}
def tOr (t u:TT):TT:=fun σ H Q=>t σ H fun c H1=>if c = true then Q true H1 else u σ H1 Q
def tNot (t:TT):TT:=fun σ H Q=>t σ H fun c H1=>Q (!c) H1
theorem pw_or1 (ha:PT X a tA):PW X (.BoolOp .Or [a] pos) tA:=by
 intro wh pins s σ H Q I h
 refine isTrue_or (thn (ha pins s σ H Q I h) fun c s1 e=>?_)
 cases c with
 | false=>exact isTrue_or_nil e
 | true=>exact e
theorem pw_or (ha:PT X a tA) (hb:PW X (.BoolOp .Or (b :: rest) pos) tB'):PW X (.BoolOp .Or (a :: b :: rest) pos) (tOr tA tB'):=by
 intro wh pins s σ H Q I h
 refine isTrue_or (thn (ha pins s σ H _ I h) fun c s1 ⟨H1,I1,q1⟩=>?_)
 cases c with
 | true=>exact ⟨H1,I1,q1⟩
 | false=>exact hb wh pins s1 σ H1 Q I1 q1
theorem pt_not (ha:PT X a tA):PT X (.UnaryOp .Not a pos) (tNot tA):=by
 intro pins s σ H Q I h
 exact isTrue_not (ha pins s σ H (fun c H1=>Q (!c) H1) I h)
def tAndV (ta tb:TE):TE:=fun σ H Q=>ta σ H fun x H1=>∃ c,x = .bl c∧if c = true then tb σ H1 Q else Q (.bl false) H1
def tOrV (ta tb:TE):TE:=fun σ H Q=>ta σ H fun x H1=>∃ c,x = .bl c∧if c = true then Q (.bl true) H1 else tb σ H1 Q
def tNotV (ta:TE):TE:=fun σ H Q=>ta σ H fun x H1=>∃ c,x = .bl c∧Q (.bl (!c)) H1
theorem pe_one {op} {t:TE} (h:PE X a t):PE X (.BoolOp op [a] pos) t:=fun pins s σ H Q I hw=>BoolOp_one (h pins s σ H Q I hw)
theorem pe_and (ha:PE X a ta) (hb:PE X (.BoolOp .And (b :: rest) pos) tb):PE X (.BoolOp .And (a :: b :: rest) pos) (tAndV ta tb):=by
 intro pins s σ H Q I h
 refine BoolOp_and (thn (ha pins s σ H _ I h) fun v s1 ⟨x,H1,I1,r1,q1⟩=>?_)
 obtain ⟨c,rfl,q1⟩:=q1
 cases r1
 refine wpAny_truthy_bool ?_
 cases c with
 | true=>exact hb pins s1 σ H1 Q I1 q1
 | false=>exact ⟨.bl false,H1,I1,rfl,q1⟩
theorem pe_or (ha:PE X a ta) (hb:PE X (.BoolOp .Or (b :: rest) pos) tb):PE X (.BoolOp .Or (a :: b :: rest) pos) (tOrV ta tb):=by
 intro pins s σ H Q I h
 refine BoolOp_or (thn (ha pins s σ H _ I h) fun v s1 ⟨x,H1,I1,r1,q1⟩=>?_)
 obtain ⟨c,rfl,q1⟩:=q1
 cases r1
 refine wpAny_truthy_bool ?_
 cases c with
 | false=>exact hb pins s1 σ H1 Q I1 q1
 | true=>exact ⟨.bl true,H1,I1,rfl,q1⟩
theorem pe_not (ha:PE X a ta):PE X (.UnaryOp .Not a pos) (tNotV ta):=by
 intro pins s σ H Q I h
 refine UnaryOp_ (thn (ha pins s σ H _ I h) fun v s1 ⟨x,H1,I1,r1,q1⟩=>?_)
 obtain ⟨c,rfl,q1⟩:=q1
 cases r1
 exact not_of (wpAny_truthy_bool ⟨.bl (!c),H1,I1,rfl,q1⟩)
def tIf (t:TT) (ta tb:TE):TE:=fun σ H Q=>t σ H fun c H1=>if c = true then ta σ H1 Q else tb σ H1 Q
theorem pe_ifExp {c:Expr} (hc:PT X c tA) (ha:PE X a ta) (hb:PE X b tb):PE X (.IfExp c a b pos) (tIf tA ta tb):=by
 intro pins s σ H Q I h
 refine wpAny_IfExp (thn (hc pins s σ H _ I h) fun d s1 ⟨H1,I1,q1⟩=>?_)
 cases d with
 | true=>exact ha pins s1 σ H1 Q I1 q1
 | false=>exact hb pins s1 σ H1 Q I1 q1
end
end L2
namespace L2
open PySem PySem.Spec PyProof.Rows
def SqL (K:PySem.W.Frag) (H:Hp) (a:Addr) (xs:List V):Prop :=
 Rd H a (.lst xs) ∨
  ∃ (o:Obj) (its:Array Value) (n:Nat),K.lookup a = some o∧o.cls = .type "list"∧o.dict = none∧o.data = .seq its n∧its.size≤sizeLine∧Vals xs its.toList
def SqT (K:PySem.W.Frag) (H:Hp) (a:Addr) (xs:List V):Prop :=
 Rd H a (.tup xs) ∨
  ∃ (o:Obj) (its:Array Value) (n:Nat),K.lookup a = some o∧o.cls = .type "tuple"∧o.data = .seq its n∧its.size≤sizeLine∧Vals xs its.toList
def absV:Value→Option V
 | .none=>some .non
 | .bool b=>some (.bl b)
 | .int i _=>some (.int i)
 | .str x _=>some (.str x)
 | .bytes b _=>some (.byt b)
 | .float b _=>some (.flt b)
 | .ref a=>some (.ref a)
 | .type n=>some (.ty n)
 | _=>none
theorem RelV.abs {x:V} {u:Value} (r:RelV x u):absV u = some x:=by
 cases x with
 | non=>cases r; rfl
 | bl _=>cases r; rfl
 | int _=>obtain ⟨t,rfl⟩:=r; rfl
 | str _=>obtain ⟨t,rfl⟩:=r; rfl
 | byt _=>obtain ⟨t,rfl⟩:=r; rfl
 | flt _=>obtain ⟨t,rfl⟩:=r; rfl
 | ref _=>cases r; rfl
 | ty _=>cases r; rfl
theorem RelV.inj {x y:V} {u:Value} (r:RelV x u) (q:RelV y u):x = y:=Option.some.inj (r.abs.symm.trans q.abs)
theorem Vals.inj:∀ {xs ys:List V} {us:List Value},Vals xs us→Vals ys us→xs = ys
 | _,_,_,.nil,.nil=>rfl
 | _,_,_,.cons r t,.cons r' t'=>by rw [r.inj r',Vals.inj t t']
section
variable {X:Cx} {pins:List (Addr × Obj)} {σ:St} {H:Hp} {s:Shared} {a:Addr} {xs ys:List V}
theorem SqL.of {K:PySem.W.Frag} (h:H a = some (.lst xs)):SqL K H a xs:=.inl (.inl h)
theorem SqT.of {K:PySem.W.Frag} (h:H a = some (.tup xs)):SqT K H a xs:=.inl (.inl h)
theorem Inv.list (I:Inv X pins σ H s) (h:SqL X.K H a xs):∃ its:List Value,Vals xs its∧PlainL s.heap a its.toArray∧xs.length≤sizeLine:=by
 rcases h with h | ⟨o,its,n,hk,hc,hd,hs,hz,r⟩
 ·obtain ⟨z,its,n,r,e⟩:=h.ok I.hok
  exact ⟨its,r,⟨_,n,e,rfl,rfl,rfl⟩,z⟩
 ·refine ⟨its.toList,r,⟨o,n,I.kIn a o hk,hc,hd,by simpa using hs⟩,?_⟩
  have e:=r.length
  simp only [Array.length_toList] at e
  omega
theorem Inv.tuple (I:Inv X pins σ H s) (h:SqT X.K H a xs):∃ its:List Value,Vals xs its∧IsTup s.heap a its.toArray∧xs.length≤sizeLine:=by
 rcases h with h | ⟨o,its,n,hk,hc,hs,hz,r⟩
 ·obtain ⟨z,its,r,p⟩:=h.ok I.hok
  exact ⟨its,r,p,z⟩
 ·refine ⟨its.toList,r,⟨o,I.kIn a o hk,hc,n,by simpa using hs⟩,?_⟩
  have e:=r.length
  simp only [Array.length_toList] at e
  omega
theorem Inv.list_inj (I:Inv X pins σ H s) (h:SqL X.K H a xs) (h':SqL X.K H a ys):xs = ys:=by
 obtain ⟨its,r,⟨o,n,e,_,_,d⟩,_⟩:=I.list h
 obtain ⟨its',r',⟨o',n',e',_,_,d'⟩,_⟩:=I.list h'
 rw [e] at e'; cases e'
 rw [d] at d'
 injection d' with d1 _
 have:its = its':=by simpa using congrArg Array.toList d1
 subst this
 exact r.inj r'
end
abbrev Cx.wish (X:Cx) (E:Value→Shared→Prop):Cx:={ X with xe:=E }
abbrev Cx.nox (X:Cx):Cx:=X.wish fun _ _=>False
theorem Cx.Ok.wish {X:Cx} (ok:X.Ok) (E:Value→Shared→Prop):(X.wish E).Ok :=
 ⟨ok.mod,ok.kind,ok.glob,ok.blt,ok.above,ok.inj,ok.has,ok.cab,ok.hd,ok.frames,ok.stk,ok.exf,ok.bs,ok.bsz,ok.noex,ok.exfs,ok.funs,ok.frf⟩
theorem Cx.Ok.unwish {X:Cx} {E:Value→Shared→Prop} (ok:(X.wish E).Ok):X.Ok :=
 ⟨ok.mod,ok.kind,ok.glob,ok.blt,ok.above,ok.inj,ok.has,ok.cab,ok.hd,ok.frames,ok.stk,ok.exf,ok.bs,ok.bsz,ok.noex,ok.exfs,ok.funs,ok.frf⟩
section
variable {X:Cx} {pins:List (Addr × Obj)} {σ:St} {H:Hp} {s:Shared} {E:Value→Shared→Prop}
theorem Inv.wish (I:Inv X pins σ H s) (E:Value→Shared→Prop):Inv (X.wish E) pins σ H s:=⟨I.ok.wish E,I.os,I.bare,I.base,I.loc,I.cell,I.free,I.freeC,I.pin,I.hok,I.len⟩
theorem Inv.unwish (I:Inv (X.wish E) pins σ H s):Inv X pins σ H s:=⟨I.ok.unwish,I.os,I.bare,I.base,I.loc,I.cell,I.free,I.freeC,I.pin,I.hok,I.len⟩
theorem SP.unwish {D:Ends} {f:Flow} {s':Shared} (h:SP (X.wish E) pins D f s'):SP X pins D f s':=by
 cases f with
 | next=>obtain ⟨σ',H',I,q⟩:=h; exact ⟨σ',H',I.unwish,q⟩
 | brk=>obtain ⟨σ',H',I,q⟩:=h; exact ⟨σ',H',I.unwish,q⟩
 | cont=>obtain ⟨σ',H',I,q⟩:=h; exact ⟨σ',H',I.unwish,q⟩
 | ret u=>obtain ⟨v,σ',H',I,r,q⟩:=h; exact ⟨v,σ',H',I.unwish,r,q⟩
theorem PSs.nox {st:List Stmt} {t:TS} (h:PSs X.nox st t):PSs X st t:=fun pins s σ H D I hw =>
 wpAny_mono (h pins s σ H D (I.wish _) hw) (fun _ _ q=>q.unwish) fun _ _ z=>False.elim z
end
section
variable {X:Cx} {st:Stmt} {rest:List Stmt} {t u:TS} {e:Expr} {te:TE} {pos:Pos}
def tNext:TS:=fun D σ H=>D.nx σ H
def tSeq (t u:TS):TS:=fun D σ H=>t { D with nx:=u D } σ H
theorem pss_nil:PSs X [] tNext:=fun _ _ σ H _ I h=>wpAny_execs_nil ⟨σ,H,I,h⟩
theorem pss_cons (h1:PS X st t) (h2:PSs X rest u):PSs X (st :: rest) (tSeq t u):=by
 intro pins s σ H D I h
 refine wpAny_execs_cons (thn (h1 pins s σ H { D with nx:=u D } I h) fun f s1 q=>?_)
 cases f with
 | next =>
  obtain ⟨σ',H',I',q⟩:=q
  exact h2 pins s1 σ' H' D I' q
 | ret v=>exact q
 | brk=>exact q
 | cont=>exact q
theorem pss_one (h1:PS X st t):PSs X [st] t:=by
 intro pins s σ H D I h
 refine wpAny_execs_cons (thn (h1 pins s σ H D I h) fun f s1 q=>?_)
 cases f with
 | next=>exact wpAny_execs_nil q
 | ret v=>exact q
 | brk=>exact q
 | cont=>exact q
theorem Inv.quiet {pins:List (Addr × Obj)} {σ:St} {H:Hp} {s:Shared} (I:Inv X pins σ H s):interactive X.env = false:=by simp [interactive,I.ok.kind]
def tDrop (te:TE):TS:=fun D σ H=>te σ H fun _ H1=>D.nx σ H1
theorem ps_expr (he:PE X e te) (hs:swapsWith e none pos.line X.env = pure false:=by rfl):PS X (.Expr e pos) (tDrop te):=by
 intro pins s σ H D I h
 exact wpAny_Expr_any (thn (he pins s σ H _ I h) fun v s1 ⟨x,H1,I1,r1,q1⟩=>⟨σ,H1,I1,q1⟩) I.quiet hs
def tRet (te:TE):TS:=fun D σ H=>te σ H D.rt
theorem ps_ret (he:PE X e te):PS X (.Return (some e) pos) (tRet te):=by
 intro pins s σ H D I h
 exact wpAny_Return_some (thn (he pins s σ H _ I h) fun v s1 ⟨x,H1,I1,r1,q1⟩=>⟨x,σ,H1,I1,r1,q1⟩)
def tIfS (c:TT) (t u:TS):TS:=fun D σ H=>c σ H fun b H1=>if b = true then t D σ H1 else u D σ H1
theorem ps_if {c:Expr} {a b:List Stmt} {tc:TT} (hc:PT X c tc) (ha:PSs X a t) (hb:PSs X b u):PS X (.If c a b pos) (tIfS tc t u):=by
 intro pins s σ H D I h
 refine wpAny_If (thn (hc pins s σ H _ I h) fun d s1 ⟨H1,I1,q1⟩=>?_)
 cases d with
 | true=>exact ha pins s1 σ H1 D I1 q1
 | false=>exact hb pins s1 σ H1 D I1 q1
def tNever:TS:=fun _ _ _=>False
theorem ps_never:PS X st tNever:=fun _ _ _ _ _ _ h=>h.elim
theorem pss_never {sts:List Stmt}:PSs X sts tNever:=fun _ _ _ _ _ _ h=>h.elim
end
abbrev TG:=V→St→Hp→(St→Hp→Prop)→Prop
abbrev TGs:=List V→St→Hp→(St→Hp→Prop)→Prop
def PG (X:Cx) (target:Expr) (t:TG):Prop :=
 ∀ (pins:List (Addr × Obj)) (s:Shared) (σ:St) (H:Hp) (v:V) (u:Value) (Q:St→Hp→Prop),Inv X pins σ H s→RelV v u→t v σ H Q →
  wpAny (model X.prog X.w) X.A (assign target X.env u) (fun _ s'=>∃ σ' H',Inv X pins σ' H' s'∧Q σ' H') X.xe s
def PGs (X:Cx) (ts:List Expr) (t:TGs):Prop :=
 ∀ (pins:List (Addr × Obj)) (s:Shared) (σ:St) (H:Hp) (vs:List V) (us:List Value) (Q:St→Hp→Prop),Inv X pins σ H s→Vals vs us→t vs σ H Q →
  wpAny (model X.prog X.w) X.A (assignInOrder ((assignEach ts X.env).map (·.2)) us) (fun _ s'=>∃ σ' H',Inv X pins σ' H' s'∧Q σ' H') X.xe s
abbrev TSet:=V→V→V→Hp→(Hp→Prop)→Prop
def PSet (X:Cx) (t:TSet):Prop :=
 ∀ (pins:List (Addr × Obj)) (s:Shared) (σ:St) (H:Hp) (o i v:V) (ov iv u:Value) (Q:Hp→Prop),Inv X pins σ H s→RelV o ov→RelV i iv→RelV v u→t o i v H Q →
  wpAny (model X.prog X.w) X.A (setItem ov iv u) (fun _ s'=>∃ H',Inv X pins σ H' s'∧Q H') X.xe s
section
variable {X:Cx} {pos:Pos}
def gName (i:Nat):TG:=fun v σ H Q=>Q (σ.set i (some v)) H
theorem pg_name {i:Nat} {x:Str} (hN:X.N.Nodup) (hi:X.N[i]? = some x) (hx:Loc X.env.scope x) (hf:X.fn x = true∨X.env.scope.names.lookup x = some .local:=by first | exact .inl rfl | exact .inr rfl | assumption):PG X (.Name x pos) (gName i):=by
 intro pins s σ H v u Q I r h
 exact wpAny_assign_Name (store_ok I hN hi hx r (fun s' I'=>⟨_,H,I',h⟩) hf)
def gNil:TGs:=fun vs σ H Q=>vs = []∧Q σ H
def gCons (t:TG) (u:TGs):TGs:=fun vs σ H Q=>∃ v r,vs = v :: r∧t v σ H fun σ' H'=>u r σ' H' Q
theorem pgs_nil:PGs X [] gNil:=by
 intro pins s σ H vs us Q I r h
 obtain ⟨e,h⟩:=h
 subst e
 cases r
 exact assignInOrder_nil ⟨σ,H,I,h⟩
theorem pgs_cons {e:Expr} {es:List Expr} {t:TG} {u:TGs} (h1:PG X e t) (h2:PGs X es u)
  (hs:(assignEach (e :: es) X.env).map (·.2) = assign e X.env :: (assignEach es X.env).map (·.2):=by rfl):PGs X (e :: es) (gCons t u):=by
 intro pins s σ H vs us Q I r h
 obtain ⟨v,vr,e1,h⟩:=h
 subst e1
 cases r with
 | cons r rr =>
  rw [hs]
  refine assignInOrder_cons (thn (h1 pins s σ H _ _ _ I r h) fun _ s1 ⟨σ1,H1,I1,q1⟩=>?_)
  exact h2 pins s1 σ1 H1 _ _ Q I1 rr q1
def gSub (to ti:TE) (t:TSet):TG:=fun v σ H Q=>to σ H fun o H1=>ti σ H1 fun i H2=>t o i v H2 fun H3=>Q σ H3
theorem pg_sub {o i:Expr} {to ti:TE} {t:TSet} (ho:PE X o to) (hi:PE X i ti) (hs:PSet X t)
  (ha:∀ v,assign (.Subscript o i pos) X.env v = (do
   let ov ← holding [v] (eval o X.env)
   let iv ← holding [v,ov] (eval i X.env)
   standAt pos
   holding [v,ov,iv] (setItem ov iv v)
   release [v,ov,iv] []):=by intro _; rfl):PG X (.Subscript o i pos) (gSub to ti t):=by
 intro pins s σ H v u Q I r h
 rw [ha]
 refine wpAny_bind (wpAny_holding (thn (ho pins s σ H _ I h) fun ov s1 ⟨x,H1,I1,r1,q1⟩=>?_))
 refine wpAny_bind (wpAny_holding (thn (hi pins s1 σ H1 _ I1 q1) fun iv s2 ⟨y,H2,I2,r2,q2⟩=>?_))
 refine wpAny_bind (wpAny_standAt (wpAny_bind (wpAny_holding (thn (hs pins s2 σ H2 x y v ov iv u _ I2 r1 r2 r q2) fun _ s3 ⟨H3,I3,q3⟩=>?_))))
 exact wpAny_release ⟨σ,H3,I3,q3⟩
def tAsg (te:TE) (g:TG):TS:=fun D σ H=>te σ H fun x H1=>g x σ H1 D.nx
theorem ps_asg {tg e:Expr} {te:TE} {g:TG} (he:PE X e te) (hg:PG X tg g) (hs:swapsWithSole [tg] e pos.line X.env = pure false:=by rfl) (hw:swappedStores [tg] e X.env = pure none:=by rfl)
  (h1:(assignEach [tg] X.env).map (·.2) = [assign tg X.env]:=by rfl):PS X (.Assign [tg] e pos) (tAsg te g):=by
 intro pins s σ H D I h
 refine wpAny_Assign_stores (thn (he pins s σ H _ I h) fun v s1 ⟨x,H1,I1,r1,q1⟩=>?_) hs hw
 rw [h1]
 exact thn (hg pins s1 σ H1 x v _ I1 r1 q1) fun _ s2 q=>q
theorem ps_set {i:Nat} {x:Str} {e:Expr} {te:TE} {pos':Pos} (hN:X.N.Nodup) (hi:X.N[i]? = some x) (hx:Loc X.env.scope x) (he:PE X e te) (hs:swapsWith e (some (.Name x pos')) pos.line X.env = pure false:=by rfl) (hf:X.fn x = true∨X.env.scope.names.lookup x = some .local:=by first | exact .inl rfl | exact .inr rfl | assumption) :
  PS X (.Assign [.Name x pos'] e pos) (tAsg te (gName i)):=by
 intro pins s σ H D I h
 refine wpAny_Assign_Name (thn (he pins s σ H _ I h) fun v s1 ⟨y,H1,I1,r1,q1⟩=>?_) hs
 exact store_ok I1 hN hi hx r1 (fun s2 I2=>⟨_,H1,I2,q1⟩) hf
end
section
variable {X:Cx} {pos:Pos}
end
structure It where
 go:Nat→Hp→Prop
 yld:Nat→Hp→V→Hp→Prop
 stop:Nat→Hp→Prop
def FpOk (X:Cx) (pins:List (Addr × Obj)) (H:Hp) (b:Addr):Prop :=
 H b = none∧b ≠ X.env.locals∧b ∉ X.fs∧(b ∈ X.ex∨X.s₀.heap.objs.size≤b)∧(∀ x c,X.env.cells.lookup x = some c→c ≠ b)∧∀ p ∈ X.pn ++ pins,p.1 ≠ b
theorem Inv.fpOk {X:Cx} {pins:List (Addr × Obj)} {σ:St} {H H':Hp} {s:Shared} {b:Addr} (I:Inv X pins σ H s) (hb:s.heap.objs.size≤b) (hn:H' b = none):FpOk X pins H' b:=by
 refine ⟨hn,Nat.ne_of_gt (Nat.lt_of_lt_of_le I.lt hb),I.nofs hb,.inr (Nat.le_trans I.sz hb),fun x c e z=>?_,fun p hp z=>?_⟩
 ·obtain ⟨v,q⟩:=I.cell x c e
  exact absurd (Nat.lt_of_lt_of_le q.lt (by rw [z]; exact hb)) (Nat.lt_irrefl _)
 ·exact absurd (Nat.lt_of_lt_of_le (Heap.lt_size (I.pin p hp).1) (by rw [z]; exact hb)) (Nat.lt_irrefl _)
structure Turn (P:Program) (w:World) (K:PySem.W.Frag) (tg:Expr) (J:It) (fp:List Addr) (it:Addr) (tn:Nat→Heap→Prop):Prop where
 mem:it ∈ fp
 obj:∀ i h,tn i h→∀ b ∈ fp,∃ o,h.get? b = some o∧∀ v,o.data ≠ .cell v
 keep:∀ i h h',tn i h→(∀ b ∈ fp,∀ o,h.get? b = some o→h'.get? b = some o)→tn i h'
 item:∀ (X:Cx),X.prog = P→X.w = w→X.K = K→X.calm = true→∀ (i:Nat) (pins:List (Addr × Obj)) (s:Shared) (σ:St) (H:Hp) (E:Value→Shared→Prop),Inv X pins σ H s→(∀ b ∈ fp,FpOk X pins H b)→tn i s.heap→J.go i H →
  wpAny (model P w) X.A (pyNext (.ref it)) (fun r s1=>∃ u,r = some u ∧
   wpAny (model P w) X.A (letOwnedTupleGo tg (.ref it) u) (fun _ s2=>∃ x H',Inv X pins σ H' s2∧RelV x u∧J.yld i H x H'∧tn (i + 1) s2.heap∧∀ b ∈ fp,H' b = none) E s1) E s
 done:∀ (X:Cx),X.prog = P→X.w = w→X.K = K→X.calm = true→∀ (i:Nat) (pins:List (Addr × Obj)) (s:Shared) (σ:St) (H:Hp) (E:Value→Shared→Prop),Inv X pins σ H s→(∀ b ∈ fp,FpOk X pins H b)→tn i s.heap→J.stop i H →
  wpAny (model P w) X.A (pyNext (.ref it)) (fun r s1=>r = none∧Inv X pins σ H s1) E s
 self:∀ (A:Around) (i:Nat) (s:Shared) (Q:Value→Shared→Prop) (E:Value→Shared→Prop),tn i s.heap→Q (.ref it) s→wpAny (model P w) A (pyIter (.ref it)) Q E s
abbrev TI:=St→Hp→(It→Hp→Prop)→Prop
def PIE (X:Cx) (pins:List (Addr × Obj)) (σ:St) (tg:Expr) (R:It→Hp→Prop) (itv:Value) (s2:Shared):Prop :=
 ∃ (it:Addr) (fp:List Addr) (tn:Nat→Heap→Prop) (J:It) (H':Hp),itv = .ref it∧Inv X pins σ H' s2∧Turn X.prog X.w X.K tg J fp it tn∧tn 0 s2.heap∧(∀ b ∈ fp,FpOk X pins H' b)∧R J H'
def PI (X:Cx) (tg iter:Expr) (wi:TI):Prop :=
 ∀ (pins:List (Addr × Obj)) (s:Shared) (σ:St) (H:Hp) (R:It→Hp→Prop),Inv X pins σ H s→wi σ H R →
  wpAny (model X.prog X.w) X.A (eval iter X.env) (fun v s1=>wpAny (model X.prog X.w) X.A (pyIter v) (PIE X pins σ tg R) X.xe s1) X.xe s
theorem go_of {M:Model} {A:Around} {E:Value→Shared→Prop} {s:Shared} {tg:Expr} {it:Addr} {u:Value} {o:Obj} {n:String} {vs:Array Value} {Q:Unit→Shared→Prop} (ho:s.heap.get? it = some o) (hc:o.cls = .type n) (hd:o.data = .fields vs)
  (hn:["enumerate", "zip", "dict_itemiterator", "dict_reverseitemiterator", "odict_iterator", "itertools.zip_longest", "itertools.pairwise"].contains n = false) (hQ:Q () s):wpAny M A (letOwnedTupleGo tg (.ref it) u) Q E s:=by
 unfold letOwnedTupleGo
 cases tg <;> first
  | exact wpAny_pure hQ
  | (cases u <;> first
    | exact wpAny_pure hQ
    | (refine wpAny_bind (wpAny_load ho ?_)
       rw [hc,hd]
       show wpAny M A (if (["enumerate", "zip", "dict_itemiterator", "dict_reverseitemiterator", "odict_iterator", "itertools.zip_longest", "itertools.pairwise"].contains n && vs[0]? == some (rawInt _)) = true then _ else _) Q E s
       rw [if_neg (by intro h; rw [hn,Bool.false_and] at h; cases h)]
       exact wpAny_pure hQ))
def Itl (K:PySem.W.Frag) (a:Addr):It :=
 ⟨fun i H=>∃ xs x,SqL K H a xs∧xs[i]? = some x,fun i H x H'=>H' = H∧∀ xs,SqL K H a xs→xs[i]? = some x,fun i H=>∃ xs,SqL K H a xs∧xs.length≤i⟩
def Itr (lo:Int) (n:Nat):It:=⟨fun i _=>i < n,fun i H x H'=>H' = H∧x = .int (lo + i),fun i _=>n≤i⟩
theorem turn_list {P:Program} {w:World} {K:PySem.W.Frag} {tg:Expr} (a it:Addr):Turn P w K tg (Itl K a) [it] it (fun i h=>h.IsListIter it a i) where
 mem:=by simp
 obj:=fun i h st b hb=>by
  have e:b = it:=by simpa using hb
  subst e
  obtain ⟨o,e,c,d⟩:=st
  exact ⟨o,e,fun v z=>by rw [d] at z; cases z⟩
 keep:=fun i h h' st k=>st.at fun o e=>k it (by simp) o e
 item:=by
  intro X hP hw hK hc i pins s σ H E I hf st hg
  subst hP hw hK
  obtain ⟨xs,x,hq,hx⟩:=hg
  obtain ⟨its,rv,p,hz⟩:=I.list hq
  obtain ⟨u,hu,ru⟩:=rv.get hx
  obtain ⟨f0,f1,f2,f3,f4,f5⟩:=hf it (by simp)
  refine wpAny_pyNext_list_item st p.isList (x:=u) (by simpa using hu) fun h' st' sb=>?_
  have I1:Inv X pins σ H { s with heap:=h' }:=I.turned (t':=s.toks) (fun b o hb e=>(sb.2 b hb).trans e) f0 f1 f3 f4 f5
  obtain ⟨o,e,c,d⟩:=id st'
  exact ⟨u,rfl,go_of (s:={ s with heap:=h' }) e c d (by decide) ⟨x,H,I1,ru,⟨rfl,fun ys hy=>by rw [I.list_inj hy hq]; exact hx⟩,st',fun b hb=>(hf b hb).1⟩⟩
 done:=by
  intro X hP hw hK hc i pins s σ H E I hf st hg
  subst hP hw hK
  obtain ⟨xs,hq,hx⟩:=hg
  obtain ⟨its,rv,p,hz⟩:=I.list hq
  obtain ⟨f0,f1,f2,f3,f4,f5⟩:=hf it (by simp)
  have hl:=rv.length
  exact wpAny_pyNext_list_end (I.ok.hd hc) st p.isList (by simp; omega) fun h' eb=>⟨rfl,I.turned (t':=s.toks) (fun b o hb e=>eb b o hb e) f0 f1 f3 f4 f5⟩
 self:=fun _ _ _ _ _ st h=>wpAny_pyIter_listiter st h
theorem turn_range {P:Program} {w:World} {K:PySem.W.Frag} {tg:Expr} (it:Addr) (lo:Int) (n:Nat):Turn P w K tg (Itr lo n) [it] it (fun i h=>IsRangeIter h it (lo + (i:Nat) * 1) ((n:Int) - (i:Nat)) 1) where
 mem:=by simp
 obj:=fun i h st b hb=>by
  have e:b = it:=by simpa using hb
  subst e
  exact ⟨_,st,fun v z=>by
   have z':Data.fields _ = Data.cell v:=z
   cases z'⟩
 keep:=fun i h h' st k=>k it (by simp) _ st
 item:=by
  intro X hP hw hK hc i pins s σ H E I hf st hg
  subst hP hw hK
  obtain ⟨f0,f1,f2,f3,f4,f5⟩:=hf it (by simp)
  have W:=Walks.range (prog:=X.prog) (w:=X.w) (I.ok.hd hc) it lo 1 n
  refine W.item i s _ _ hg st fun v h' tk hv st' kk=>?_
  obtain ⟨t,rfl⟩:=hv
  have I1:Inv X pins σ H { s with heap:=h',toks:=tk }:=I.turned (fun b o hb e=>kk b o (by simpa using hb) e) f0 f1 f3 f4 f5
  refine ⟨_,rfl,go_of (s:={ s with heap:=h',toks:=tk }) (n:="range_iterator") st' rfl rfl (by decide) ⟨.int (lo + i),H,I1,⟨t,?_⟩,⟨rfl,rfl⟩,st',fun b hb=>(hf b hb).1⟩⟩
  rw [Int.mul_one]
 done:=by
  intro X hP hw hK hc i pins s σ H E I hf st hg
  subst hP hw hK
  obtain ⟨f0,f1,f2,f3,f4,f5⟩:=hf it (by simp)
  exact wpAny_pyNext_range_end (I.ok.hd hc) st (by have:n≤i:=hg; omega) fun h' eb=>⟨rfl,I.turned (t':=s.toks) (fun b o hb e=>eb b o hb e) f0 f1 f3 f4 f5⟩
 self:=fun _ _ _ _ _ st h=>wpAny_pyIter_rangeiter st h
end L2
namespace L2
open PySem PySem.Spec PyProof.Rows
section
variable {X:Cx} {tg:Expr}
def iList (K:PySem.W.Frag) (tl:TE):TI:=fun σ H R=>tl σ H fun x H1=>∃ a,x = .ref a∧(∃ xs,SqL K H1 a xs)∧R (Itl K a) H1
theorem pi_list {l:Expr} {tl:TE} (hl:PE X l tl):PI X tg l (iList X.K tl):=by
 intro pins s σ H R I h
 refine thn (hl pins s σ H _ I h) fun v s1 ⟨x,H1,I1,r1,q1⟩=>?_
 obtain ⟨a,e,⟨xs,hq⟩,q⟩:=q1
 subst e
 cases r1
 obtain ⟨its,rv,p,hz⟩:=I1.list hq
 refine wpAny_pyIter_list p.isList ?_
 refine ⟨s1.heap.objs.size,[s1.heap.objs.size],_,_,H1,rfl,I1.kept (t':=s1.toks) fun b o e=>Heap.get?_push_of_some _ e,turn_list a _,⟨_,Heap.get?_push_size _ rfl,rfl,rfl⟩,fun b hb=>?_,q⟩
 have e:b = s1.heap.objs.size:=by simpa using hb
 subst e
 exact I1.fpOk (Nat.le_refl _) (I1.hok.fresh (Nat.le_refl _))
theorem range_it {pins:List (Addr × Obj)} {σ:St} {H:Hp} {s:Shared} {R:It→Hp→Prop} {E:Value→Shared→Prop} {lo hi:Int} {t u v:Tok} {tk:Nat} (I:Inv X pins σ H s) (h1:-(2 ^ 62)≤lo) (h2:lo < 2 ^ 62) (h3:-(2 ^ 62)≤hi) (h4:hi < 2 ^ 62)
  (q:R (Itr lo (hi - lo).toNat) H):wpAny (model X.prog X.w) X.A (pyIter (.ref s.heap.objs.size)) (PIE X pins σ tg R) E { s with heap:=s.heap.push { cls:=.type "range",data:=.fields #[.int lo t,.int hi u,.int 1 v] },toks:=tk }:=by
 refine wpAny_pyIter_range (IsRange.new ..) (small_one h1 h2 h3 h4) ?_
 have I1:Inv X pins σ H { s with heap:=s.heap.push { cls:=.type "range",data:=.fields #[.int lo t,.int hi u,.int 1 v] },toks:=tk }:=I.kept fun b o e=>Heap.get?_push_of_some _ e
 refine ⟨(s.heap.push { cls:=.type "range",data:=.fields #[.int lo t,.int hi u,.int 1 v] }).objs.size,[(s.heap.push { cls:=.type "range",data:=.fields #[.int lo t,.int hi u,.int 1 v] }).objs.size],_,_,H,rfl,
  I1.kept (t':=tk) fun b o e=>Heap.get?_push_of_some _ e,turn_range _ lo (hi - lo).toNat,?_,fun b hb=>?_,q⟩
 ·have e1:lo + ((0:Nat):Int) * 1 = lo:=by simp
  have e2:(((hi - lo).toNat:Nat):Int) - ((0:Nat):Int) = Builtin.Range.rangeSize lo hi 1:=by rw [rangeSize_one]; split <;> omega
  show IsRangeIter _ _ (lo + ((0:Nat):Int) * 1) ((((hi - lo).toNat:Nat):Int) - ((0:Nat):Int)) 1
  rw [e1,e2]
  exact Heap.get?_push_size _ rfl
 ·have e:b = (s.heap.push { cls:=.type "range",data:=.fields #[.int lo t,.int hi u,.int 1 v] }).objs.size:=by simpa using hb
  subst e
  exact I1.fpOk (Nat.le_refl _) (I1.hok.fresh (Nat.le_refl _))
def iRng1 (ta:TA):TI:=fun σ H R=>ta σ H fun vs H1=>∃ j:Int,vs = [.int j]∧-(2 ^ 62)≤j∧j < 2 ^ 62∧R (Itr 0 j.toNat) H1
theorem pi_range1 {a:Expr} {ta:TA} {p pos:Pos} (hg:Gl X "range") (hm:X.mg "range" = none) (ha:PA X [a] ta) (hs:starEach [a] X.env = [(false,eval a X.env)]:=by rfl):PI X tg (.Call (.Name "range" p) [a] [] pos) (iRng1 ta):=by
 intro pins s σ H R I h
 refine Call_ (ld_blt I hg hm boot_range (PyProof.Rows.callWith_type1 (thn (ha pos pins s σ H _ I h) fun us s1 ⟨vs,H1,I1,r1,q1⟩=>?_) hs rfl))
 obtain ⟨j,e,q1,q2,q⟩:=q1
 subst e
 cases r1 with
 | cons r rr =>
  cases rr
  obtain ⟨t,rfl⟩:=r
  exact call_range_1 (range_it I1 (by omega) (by omega) q1 q2 (by simpa using q))
def tFor (wi:TI) (g:TG) (tb:TS):TS:=fun D σ H=>wi σ H fun J H1=>∃ W:Nat→Nat→St→Hp→Prop,(∃ m,W 0 m σ H1)∧∀ i m σ H,W i m σ H →
 (J.stop i H∧D.nx σ H)∨(J.go i H∧∃ N:St→Hp→Prop,(∀ σ' H',N σ' H'→∃ m',m' < m∧W (i + 1) m' σ' H')∧∀ x H',J.yld i H x H'→g x σ H' fun σ2 H2=>tb { D with nx:=N,ct:=N,bk:=D.nx } σ2 H2)
def pinsAt (fp:List Addr) (h:Heap):List (Addr × Obj):=fp.filterMap fun b=>(h.get? b).map fun o=>(b,o)
theorem mem_pinsAt {fp:List Addr} {h:Heap} {b:Addr} {o:Obj} (hb:b ∈ fp) (e:h.get? b = some o):(b,o) ∈ pinsAt fp h:=List.mem_filterMap.mpr ⟨b,hb,by rw [e]; rfl⟩
theorem of_pinsAt {fp:List Addr} {h:Heap} {p:Addr × Obj} (hp:p ∈ pinsAt fp h):p.1 ∈ fp∧h.get? p.1 = some p.2:=by
 obtain ⟨b,hb,e⟩:=List.mem_filterMap.mp hp
 cases q:h.get? b with
 | none=>rw [q] at e; cases e
 | some o =>
  rw [q] at e
  have e':(b,o) = p:=Option.some.inj e
  subst e'
  exact ⟨hb,q⟩
theorem Inv.pinned {pins:List (Addr × Obj)} {σ:St} {H:Hp} {s:Shared} {fp:List Addr} (I:Inv X pins σ H s) (hf:∀ b ∈ fp,FpOk X pins H b) (ho:∀ b ∈ fp,∃ o,s.heap.get? b = some o∧∀ v,o.data ≠ .cell v):Inv X (pins ++ pinsAt fp s.heap) σ H s :=
 I.pins_of fun p hp=>(List.mem_append.mp hp).elim (fun z=>I.pin p (List.mem_append_right _ z)) fun z=>by
  obtain ⟨hb,e⟩:=of_pinsAt z
  obtain ⟨f0,f1,f2,_⟩:=hf p.1 hb
  obtain ⟨o,e',d⟩:=ho p.1 hb
  rw [e] at e'; cases e'
  exact ⟨e,f0,f1,f2,d⟩
theorem Inv.unpinned {pins pl:List (Addr × Obj)} {σ:St} {H:Hp} {s:Shared} (I:Inv X (pins ++ pl) σ H s):Inv X pins σ H s:=I.pins_of fun p hp=>I.pin p (List.mem_append_right _ (List.mem_append_left _ hp))
theorem ps_for {iter:Expr} {body:List Stmt} {wi:TI} {g:TG} {tb:TS} {pos:Pos} (hp:PassesOwn (model X.prog X.w) X.A X.env X.xe) (hc:X.calm = true) (hi:PI X tg iter wi) (hg:PG X tg g) (hb:PSs X body tb)
  (hs:∀ x,foldedSetIterable iter X.env x = pure x:=by intro _; rfl):PS X (.For tg iter body [] pos) (tFor wi g tb):=by
 intro pins s σ H D I h
 refine wpAny_For (thn (hi pins s σ H _ I h) fun v s1 h1=>thn h1 fun itv s2 h2=>?_) hs
 obtain ⟨it,fp,tn,J,H2,e,I2,T,st2,f2,W,⟨m0,w0⟩,turn⟩:=h2
 subst e
 have stat:∀ {H':Hp},(∀ b ∈ fp,H' b = none)→∀ b ∈ fp,FpOk X pins H' b:=fun hn b hb=>⟨hn b hb,(f2 b hb).2⟩
 refine codeAny_forLoop_any (fun n s'=>∃ i σ' H',Inv X pins σ' H' s'∧tn i s'.heap∧(∀ b ∈ fp,H' b = none)∧W i n σ' H') ?_ m0 ⟨0,σ,H2,I2,st2,fun b hb=>(f2 b hb).1,w0⟩
 rintro n s3 ⟨i,σ3,H3,I3,st3,fr3,w3⟩
 rcases turn i n σ3 H3 w3 with ⟨stop,qn⟩ | ⟨go,N,hN,step⟩
 ·refine wpAny_passesOwn hp (thn (T.done X rfl rfl rfl hc i pins s3 σ3 H3 X.xe I3 (stat fr3) st3 stop) fun r s4 ⟨hr,I4⟩=>?_)
  subst hr
  exact wpAny_execs_nil ⟨σ3,H3,I4,qn⟩
 ·refine wpAny_passesOwn hp (thn (T.item X rfl rfl rfl hc i pins s3 σ3 H3 X.xe I3 (stat fr3) st3 go) fun r s4 ⟨u,hr,h4⟩=>?_)
  subst hr
  refine wpAny_passesOwn hp (thn h4 fun _ s5 ⟨x,H5,I5,r5,y5,st5,fr5⟩=>?_)
  have I5':=I5.pinned (stat fr5) (T.obj _ _ st5)
  refine wpAny_passesOwn hp (thn (hg _ s5 σ3 H5 x u _ I5' r5 (step x H5 y5)) fun _ s6 ⟨σ6,H6,I6,q6⟩=>?_)
  refine wpAny_passesOwn hp (thn (hb _ s6 σ6 H6 _ I6 q6) fun f s7 q7=>?_)
  have again:∀ {σ7:St} {H7:Hp},Inv X (pins ++ pinsAt fp s5.heap) σ7 H7 s7→N σ7 H7→∃ m,m < n∧∃ i σ' H',Inv X pins σ' H' s7∧tn i s7.heap∧(∀ b ∈ fp,H' b = none)∧W i m σ' H':=fun {σ7 H7} I7 n7=>by
   obtain ⟨m',hm,w7⟩:=hN σ7 H7 n7
   refine ⟨m',hm,i + 1,σ7,H7,I7.unpinned,T.keep _ _ _ st5 fun b hb o e=>(I7.pin (b,o) (List.mem_append_right _ (List.mem_append_right _ (mem_pinsAt hb e)))).1,fun b hb=>?_,w7⟩
   obtain ⟨o,e,d⟩:=T.obj _ _ st5 b hb
   exact (I7.pin (b,o) (List.mem_append_right _ (List.mem_append_right _ (mem_pinsAt hb e)))).2.1
  cases f with
  | next=>obtain ⟨σ7,H7,I7,n7⟩:=q7; exact again I7 n7
  | cont=>obtain ⟨σ7,H7,I7,n7⟩:=q7; exact again I7 n7
  | brk=>obtain ⟨σ7,H7,I7,q7⟩:=q7; exact ⟨σ7,H7,I7.unpinned,q7⟩
  | ret v=>obtain ⟨x7,σ7,H7,I7,r7,q7⟩:=q7; exact ⟨x7,σ7,H7,I7.unpinned,r7,q7⟩
end
theorem for_list {K:PySem.W.Frag} {a:Addr} {xs:List V} {g:TG} {tb:TS} {D:Ends} {σ:St} {H:Hp} (Pv:Nat→St→Hp→Prop) (h0:Pv 0 σ H) (hl:∀ i σ H,i≤xs.length→Pv i σ H→SqL K H a xs)
  (hs:∀ i x σ H,xs[i]? = some x→Pv i σ H→g x σ H fun σ2 H2=>tb { D with nx:=Pv (i + 1),ct:=Pv (i + 1),bk:=D.nx } σ2 H2) (hd:∀ σ H,Pv xs.length σ H→D.nx σ H) :
  ∃ W:Nat→Nat→St→Hp→Prop,(∃ m,W 0 m σ H)∧∀ i m σ H,W i m σ H →
   ((Itl K a).stop i H∧D.nx σ H)∨((Itl K a).go i H∧∃ N:St→Hp→Prop,(∀ σ' H',N σ' H'→∃ m',m' < m∧W (i + 1) m' σ' H')∧∀ x H',(Itl K a).yld i H x H'→g x σ H' fun σ2 H2=>tb { D with nx:=N,ct:=N,bk:=D.nx } σ2 H2):=by
 refine ⟨fun i m σ H=>m = xs.length - i∧i≤xs.length∧Pv i σ H,⟨xs.length,by simp,Nat.zero_le _,h0⟩,?_⟩
 rintro i m σ H ⟨rfl,hi,p⟩
 have q:=hl i σ H hi p
 by_cases hlt:i < xs.length
 ·refine .inr ⟨⟨xs,xs[i],q,by simp [hlt]⟩,Pv (i + 1),fun σ' H' p'=>⟨xs.length - (i + 1),by omega,rfl,hlt,p'⟩,fun x H' y=>?_⟩
  obtain ⟨e,y⟩:=y
  subst e
  exact hs i x σ _ (y xs q) p
 ·have e:i = xs.length:=by omega
  subst e
  exact .inl ⟨⟨xs,q,Nat.le_refl _⟩,hd σ H p⟩
theorem for_range {lo:Int} {n:Nat} {g:TG} {tb:TS} {D:Ends} {σ:St} {H:Hp} (Pv:Nat→St→Hp→Prop) (h0:Pv 0 σ H)
  (hs:∀ i σ H,i < n→Pv i σ H→g (.int (lo + i)) σ H fun σ2 H2=>tb { D with nx:=Pv (i + 1),ct:=Pv (i + 1),bk:=D.nx } σ2 H2) (hd:∀ σ H,Pv n σ H→D.nx σ H) :
  ∃ W:Nat→Nat→St→Hp→Prop,(∃ m,W 0 m σ H)∧∀ i m σ H,W i m σ H →
   ((Itr lo n).stop i H∧D.nx σ H)∨((Itr lo n).go i H∧∃ N:St→Hp→Prop,(∀ σ' H',N σ' H'→∃ m',m' < m∧W (i + 1) m' σ' H')∧∀ x H',(Itr lo n).yld i H x H'→g x σ H' fun σ2 H2=>tb { D with nx:=N,ct:=N,bk:=D.nx } σ2 H2):=by
 refine ⟨fun i m σ H=>m = n - i∧i≤n∧Pv i σ H,⟨n,by simp,Nat.zero_le _,h0⟩,?_⟩
 rintro i m σ H ⟨rfl,hi,p⟩
 by_cases hlt:i < n
 ·refine .inr ⟨hlt,Pv (i + 1),fun σ' H' p'=>⟨n - (i + 1),by omega,rfl,hlt,p'⟩,fun x H' y=>?_⟩
  obtain ⟨e,y⟩:=y
  subst e y
  exact hs i σ _ hlt p
 ·have e:i = n:=by omega
  subst e
  exact .inl ⟨Nat.le_refl _,hd σ H p⟩
end L2
namespace L2
open PySem PySem.Spec PyProof.Rows
abbrev R2:=V→V→Hp→VK→Prop
def OpR (X:Cx) (f:Value→Value→Sem Value) (r:R2):Prop :=
 ∀ (pins:List (Addr × Obj)) (s:Shared) (σ:St) (H:Hp) (x y:V) (v u:Value) (Q:VK),Inv X pins σ H s→RelV x v→RelV y u→r x y H Q →
  wpAny (model X.prog X.w) X.A (f v u) (EP X pins σ Q) X.xe s
def CallR (X:Cx) (f:Value) (r:List V→Hp→VK→Prop):Prop :=
 ∀ (pins:List (Addr × Obj)) (s:Shared) (σ:St) (H:Hp) (xs:List V) (us:List Value) (Q:VK),Inv X pins σ H s→Vals xs us→r xs H Q →
  wpAny (model X.prog X.w) X.A (call f us) (EP X pins σ Q) X.xe s
def tOp (r:R2) (ta tb:TE):TE:=fun σ H Q=>ta σ H fun x H1=>tb σ H1 fun y H2=>r x y H2 Q
def rI (C:Int→Int→Prop) (g:Int→Int→V):R2:=fun x y H Q=>∃ i j,x = .int i∧y = .int j∧C i j∧Q (g i j) H
def rI0 (g:Int→Int→V):R2:=fun x y H Q=>∃ i j,x = .int i∧y = .int j∧Q (g i j) H
section
variable {X:Cx} {a b c:Expr} {ta tb tc:TE} {pos:Pos}
theorem binT (ha:PE X a ta) (hb:PE X b tb) {pins:List (Addr × Obj)} {s:Shared} {σ:St} {H:Hp} {R:V→V→Hp→Prop} (I:Inv X pins σ H s)
  (h:ta σ H fun x H1=>tb σ H1 fun y H2=>R x y H2) {Q:Value→Shared→Prop} {f:Value→Value→Sem Value}
  (hf:∀ v u s2 x y H2,Inv X pins σ H2 s2→RelV x v→RelV y u→R x y H2→wpAny (model X.prog X.w) X.A (f v u) Q X.xe s2) :
  wpAny (model X.prog X.w) X.A (eval a X.env) (fun v s₁=>wpAny (model X.prog X.w) X.A (eval b X.env) (fun u s₂=>wpAny (model X.prog X.w) X.A (f v u) Q X.xe s₂) X.xe s₁) X.xe s:=by
 refine thn (ha pins s σ H _ I h) fun v s1 ⟨x,H1,I1,r1,q1⟩=>?_
 refine thn (hb pins s1 σ H1 _ I1 q1) fun u s2 ⟨y,H2,I2,r2,q2⟩=>?_
 exact hf v u s2 x y H2 I2 r1 r2 q2
theorem pe_op {op:Operator} {r:R2} (ho:OpR X (binaryOp op) r) (ha:PE X a ta) (hb:PE X b tb):PE X (.BinOp a op b pos) (tOp r ta tb):=by
 intro pins s σ H Q I h
 exact wpAny_BinOp (binT ha hb I h fun v u s2 x y H2 I2 rx ry q=>ho pins s2 σ H2 x y v u Q I2 rx ry q)
theorem opI {f:Value→Value→Sem Value} {C:Int→Int→Prop} {g:Int→Int→Int}
  (rule:∀ (i j:Int) (t u:Tok) (s:Shared) (Q:Value→Shared→Prop) (E:Value→Shared→Prop),C i j→Q (.int (g i j) s.toks) { s with toks:=s.toks + 1 }→wpAny (model X.prog X.w) X.A (f (.int i t) (.int j u)) Q E s) :
  OpR X f (rI C fun i j=>.int (g i j)):=by
 intro pins s σ H x y v u Q I rx ry h
 obtain ⟨i,j,rfl,rfl,hc,q⟩:=h
 obtain ⟨t,rfl⟩:=rx
 obtain ⟨t',rfl⟩:=ry
 exact rule i j t t' s _ _ hc ⟨.int (g i j),H,I.tok _,⟨_,rfl⟩,q⟩
theorem opI0 {f:Value→Value→Sem Value} {g:Int→Int→Int}
  (rule:∀ (i j:Int) (t u:Tok) (s:Shared) (Q:Value→Shared→Prop) (E:Value→Shared→Prop),Q (.int (g i j) s.toks) { s with toks:=s.toks + 1 }→wpAny (model X.prog X.w) X.A (f (.int i t) (.int j u)) Q E s) :
  OpR X f (rI0 fun i j=>.int (g i j)):=by
 intro pins s σ H x y v u Q I rx ry h
 obtain ⟨i,j,rfl,rfl,q⟩:=h
 obtain ⟨t,rfl⟩:=rx
 obtain ⟨t',rfl⟩:=ry
 exact rule i j t t' s _ _ ⟨.int (g i j),H,I.tok _,⟨_,rfl⟩,q⟩
theorem opB0 {f:Value→Value→Sem Value} {g:Int→Int→Bool}
  (rule:∀ (i j:Int) (t u:Tok) (s:Shared) (Q:Value→Shared→Prop) (E:Value→Shared→Prop),Q (.bool (g i j)) s→wpAny (model X.prog X.w) X.A (f (.int i t) (.int j u)) Q E s) :
  OpR X f (rI0 fun i j=>.bl (g i j)):=by
 intro pins s σ H x y v u Q I rx ry h
 obtain ⟨i,j,rfl,rfl,q⟩:=h
 obtain ⟨t,rfl⟩:=rx
 obtain ⟨t',rfl⟩:=ry
 exact rule i j t t' s _ _ ⟨.bl (g i j),H,I,rfl,q⟩
def CPow (i j:Int):Prop:=0≤j∧j≤1000000∧i.natAbs < 2 ^ 64
def CMul (i j:Int):Prop:=(-(2 ^ 64) < i∧i < 2 ^ 64)∨(-(2 ^ 64) < j∧j < 2 ^ 64)
theorem CMul.ok {i j:Int} (h:CMul i j):IntMulOk i j:=by
 rcases h with ⟨h1,h2⟩ | ⟨h1,h2⟩
 ·exact .of_left (intBits_le_64 h1 h2)
 ·exact .of_right (intBits_le_64 h1 h2)
theorem two_pow_nn (k:Nat):(0:Int)≤2 ^ k:=by
 rw [two_pow_cast]
 exact Int.natCast_nonneg _
theorem op_add:OpR X (binaryOp .Add) (rI0 fun i j=>.int (i + j)):=opI0 fun _ _ _ _ _ _ _ q=>add_int q
theorem op_sub:OpR X (binaryOp .Sub) (rI0 fun i j=>.int (i - j)):=opI0 fun _ _ _ _ _ _ _ q=>sub_int q
theorem op_mul:OpR X (binaryOp .Mult) (rI CMul fun i j=>.int (i * j)):=opI fun _ _ _ _ _ _ _ hc q=>mul_int q hc.ok
theorem op_mod:OpR X (binaryOp .Mod) (rI (fun _ j=>0 < j) fun i j=>.int (i % j)):=opI fun i j _ _ _ _ _ hc q=>by
 have h1:(0:Int) < j:=hc
 exact mod_int' (by omega) (by rw [Int.fmod_eq_emod_of_nonneg i (by omega)]; exact q)
theorem op_pow:OpR X (binaryOp .Pow) (rI CPow fun i j=>.int (i ^ j.toNat)):=opI fun _ _ _ _ _ _ _ hc q=>pow_int_small hc.1 hc.2.1 hc.2.2 q
theorem op_shl:OpR X (binaryOp .LShift) (rI CPow fun i j=>.int (i * 2 ^ j.toNat)):=opI fun _ _ _ _ _ _ _ hc q=>lshift_int_small hc.1 hc.2.1 hc.2.2 q
theorem op_shr:OpR X (binaryOp .RShift) (rI (fun _ j=>0≤j) fun i j=>.int (i / 2 ^ j.toNat)):=opI fun i j _ _ _ _ _ hc q =>
 rshift_int hc (by rw [Int.fdiv_eq_ediv_of_nonneg i (two_pow_nn _)]; exact q)
theorem op_and:OpR X (binaryOp .BitAnd) (rI0 fun i j=>.int (Builtin.bitAnd i j)):=opI0 fun _ _ _ _ _ _ _ q=>and_int q
theorem op_or:OpR X (binaryOp .BitOr) (rI0 fun i j=>.int (Builtin.bitOr i j)):=opI0 fun _ _ _ _ _ _ _ q=>or_int q
theorem op_xor:OpR X (binaryOp .BitXor) (rI0 fun i j=>.int (Builtin.bitXor i j)):=opI0 fun _ _ _ _ _ _ _ q=>xor_int q
end
def scal:V→V→Bool
 | .non,.non=>true | .non,.int _=>true | .int _,.non=>true | .non,.bl _=>true | .bl _,.non=>true | .non,.str _=>true | .str _,.non=>true
 | .int _,.int _=>true | .bl _,.bl _=>true | .str _,.str _=>true | .byt _,.byt _=>true
 | .int _,.str _=>true | .str _,.int _=>true | .bl _,.str _=>true | .str _,.bl _=>true
 | _,_=>false
def rEq:R2:=fun x y H Q=>scal x y = true∧Q (.bl (decide (x = y))) H
def rNe:R2:=fun x y H Q=>scal x y = true∧Q (.bl (!decide (x = y))) H
theorem dec_int {i j:Int}:decide (V.int i = V.int j) = (i == j):=by
 rw [Bool.eq_iff_iff]
 simp
theorem dec_bl {i j:Bool}:decide (V.bl i = V.bl j) = (i == j):=by
 rw [Bool.eq_iff_iff]
 simp
theorem dec_str {i j:Str}:decide (V.str i = V.str j) = (i == j):=by
 rw [Bool.eq_iff_iff]
 simp
theorem dec_byt {i j:Array UInt8}:decide (V.byt i = V.byt j) = (i.toList == j.toList):=by
 rw [Bool.eq_iff_iff]
 cases i
 cases j
 simp
section
variable {X:Cx} {a b c:Expr} {ta tb tc:TE} {pos:Pos}
theorem fin_bl {pins:List (Addr × Obj)} {σ:St} {H:Hp} {s:Shared} {Q:VK} {k k':Bool} (I:Inv X pins σ H s) (q:Q (.bl k) H) (e:k = k'):EP X pins σ Q (.bool k') s:=by
 subst e
 exact ⟨.bl k,H,I,rfl,q⟩
theorem op_eq:OpR X (compareOp .Eq) rEq:=by
 intro pins s σ H x y v u Q I rx ry h
 obtain ⟨hs,q⟩:=h
 cases x with
 | non =>
  cases rx
  cases y with
  | non=>cases ry; exact PySem.EqNone.eq_none_none (fin_bl I q (by simp))
  | bl j=>cases ry; exact PySem.EqNone.eq_none_bool (fin_bl I q (by simp))
  | int j=>obtain ⟨t',rfl⟩:=ry; exact PySem.EqNone.eq_none_int (fin_bl I q (by simp))
  | str j=>obtain ⟨t',rfl⟩:=ry; exact PySem.EqNone.eq_none_str (fin_bl I q (by simp))
  | _=>exact absurd (show false = true from hs) Bool.false_ne_true
 | bl i =>
  cases rx
  cases y with
  | non=>cases ry; exact PySem.EqNone.eq_bool_none (fin_bl I q (by simp))
  | bl j=>cases ry; exact eq_bool (fin_bl I q dec_bl)
  | str j=>obtain ⟨t',rfl⟩:=ry; exact PySem.EqMixed.eq_bool_str (fin_bl I q (by simp))
  | _=>exact absurd (show false = true from hs) Bool.false_ne_true
 | int i =>
  obtain ⟨t,rfl⟩:=rx
  cases y with
  | non=>cases ry; exact PySem.EqNone.eq_int_none (fin_bl I q (by simp))
  | int j=>obtain ⟨t',rfl⟩:=ry; exact eq_int (fin_bl I q dec_int)
  | str j=>obtain ⟨t',rfl⟩:=ry; exact PySem.EqMixed.eq_int_str (fin_bl I q (by simp))
  | _=>exact absurd (show false = true from hs) Bool.false_ne_true
 | str i =>
  obtain ⟨t,rfl⟩:=rx
  cases y with
  | non=>cases ry; exact PySem.EqNone.eq_str_none (fin_bl I q (by simp))
  | bl j=>cases ry; exact PySem.EqMixed.eq_str_bool (fin_bl I q (by simp))
  | int j=>obtain ⟨t',rfl⟩:=ry; exact PySem.EqMixed.eq_str_int (fin_bl I q (by simp))
  | str j=>obtain ⟨t',rfl⟩:=ry; exact eq_str (fin_bl I q dec_str)
  | _=>exact absurd (show false = true from hs) Bool.false_ne_true
 | byt i =>
  obtain ⟨t,rfl⟩:=rx
  cases y with
  | byt j=>obtain ⟨t',rfl⟩:=ry; exact PySem.W.eq_bytes (fin_bl I q dec_byt)
  | _=>exact absurd (show false = true from hs) Bool.false_ne_true
 | _=>cases y <;> exact absurd (show false = true from hs) Bool.false_ne_true
theorem op_ne:OpR X (compareOp .NotEq) rNe:=by
 intro pins s σ H x y v u Q I rx ry h
 obtain ⟨hs,q⟩:=h
 cases x with
 | non =>
  cases rx
  cases y with
  | non=>cases ry; exact PySem.EqNone.ne_none_none (fin_bl I q (by simp))
  | bl j=>cases ry; exact PySem.EqNone.ne_none_bool (fin_bl I q (by simp))
  | int j=>obtain ⟨t',rfl⟩:=ry; exact PySem.EqNone.ne_none_int (fin_bl I q (by simp))
  | str j=>obtain ⟨t',rfl⟩:=ry; exact PySem.EqNone.ne_none_str (fin_bl I q (by simp))
  | _=>exact absurd (show false = true from hs) Bool.false_ne_true
 | bl i =>
  cases rx
  cases y with
  | non=>cases ry; exact PySem.EqNone.ne_bool_none (fin_bl I q (by simp))
  | bl j=>cases ry; exact ne_bool (fin_bl I q (congrArg not dec_bl))
  | str j=>obtain ⟨t',rfl⟩:=ry; exact PySem.EqMixed.ne_bool_str (fin_bl I q (by simp))
  | _=>exact absurd (show false = true from hs) Bool.false_ne_true
 | int i =>
  obtain ⟨t,rfl⟩:=rx
  cases y with
  | non=>cases ry; exact PySem.EqNone.ne_int_none (fin_bl I q (by simp))
  | int j=>obtain ⟨t',rfl⟩:=ry; exact ne_int (fin_bl I q (congrArg not dec_int))
  | str j=>obtain ⟨t',rfl⟩:=ry; exact PySem.EqMixed.ne_int_str (fin_bl I q (by simp))
  | _=>exact absurd (show false = true from hs) Bool.false_ne_true
 | str i =>
  obtain ⟨t,rfl⟩:=rx
  cases y with
  | non=>cases ry; exact PySem.EqNone.ne_str_none (fin_bl I q (by simp))
  | bl j=>cases ry; exact PySem.EqMixed.ne_str_bool (fin_bl I q (by simp))
  | int j=>obtain ⟨t',rfl⟩:=ry; exact PySem.EqMixed.ne_str_int (fin_bl I q (by simp))
  | str j=>obtain ⟨t',rfl⟩:=ry; exact ne_str (fin_bl I q (congrArg not dec_str))
  | _=>exact absurd (show false = true from hs) Bool.false_ne_true
 | byt i =>
  obtain ⟨t,rfl⟩:=rx
  cases y with
  | byt j=>obtain ⟨t',rfl⟩:=ry; exact PySem.W.ne_bytes (fin_bl I q (congrArg not dec_byt))
  | _=>exact absurd (show false = true from hs) Bool.false_ne_true
 | _=>cases y <;> exact absurd (show false = true from hs) Bool.false_ne_true
theorem op_lt:OpR X (compareOp .Lt) (rI0 fun i j=>.bl (decide (i < j))):=opB0 fun _ _ _ _ _ _ _ q=>lt_int q
theorem op_le:OpR X (compareOp .LtE) (rI0 fun i j=>.bl (decide (i≤j))):=opB0 fun _ _ _ _ _ _ _ q=>le_int q
theorem op_gt:OpR X (compareOp .Gt) (rI0 fun i j=>.bl (decide (j < i))):=opB0 fun _ _ _ _ _ _ _ q=>gt_int q
theorem op_ge:OpR X (compareOp .GtE) (rI0 fun i j=>.bl (decide (j≤i))):=opB0 fun _ _ _ _ _ _ _ q=>ge_int q
theorem op_in_str:OpR X (compareOp .In) (fun x y H Q=>∃ i j,x = .str i∧y = .str j∧Q (.bl (!(Builtin.Str.occurrences j i 0 j.length 1).isEmpty)) H):=by
 intro pins s σ H x y v u Q I rx ry h
 obtain ⟨i,j,rfl,rfl,q⟩:=h
 obtain ⟨t,rfl⟩:=rx
 obtain ⟨t',rfl⟩:=ry
 exact in_str (fin_bl I q rfl)
theorem op_isN:OpR X (compareOp .Is) (fun x y H Q=>y = .non∧Q (.bl (decide (x = .non))) H):=by
 intro pins s σ H x y v u Q I rx ry h
 obtain ⟨rfl,q⟩:=h
 cases ry
 refine is_none_gen (fin_bl I q ?_)
 cases x <;> first
  | (cases rx; rfl)
  | (obtain ⟨t,rfl⟩:=rx; rfl)
theorem op_notN:OpR X (compareOp .IsNot) (fun x y H Q=>y = .non∧Q (.bl (!decide (x = .non))) H):=by
 intro pins s σ H x y v u Q I rx ry h
 obtain ⟨rfl,q⟩:=h
 cases ry
 refine isnot_none_gen (fin_bl I q ?_)
 cases x <;> first
  | (cases rx; rfl)
  | (obtain ⟨t,rfl⟩:=rx; rfl)
theorem nomark (b:Expr) {op:CmpOp} (h:op ≠ .In:=by decide) (h2:op ≠ .NotIn:=by decide):behindInMarks op b = false:=by
 have e1:(op == CmpOp.In) = false:=by cases op <;> first | rfl | exact absurd rfl h
 have e2:(op == CmpOp.NotIn) = false:=by cases op <;> first | rfl | exact absurd rfl h2
 cases b <;> simp [behindInMarks,e1,e2]
theorem pe_cmpR {op:CmpOp} {r:R2} (ho:OpR X (compareOp op) r) (ha:PE X a ta) (hb:PE X b tb) (hm:behindInMarks op b = false):PE X (.Compare a [op] [b] pos) (tOp r ta tb):=by
 intro pins s σ H Q I h
 exact wpAny_Compare1 (binT ha hb I h fun v u s2 x y H2 I2 rx ry q=>ho pins s2 σ H2 x y v u Q I2 rx ry q) hm
def tTest (t:TE):TT:=fun σ H Q=>t σ H fun x H'=>∃ k,x = .bl k∧Q k H'
theorem pt_cmpR {op:CmpOp} {r:R2} (ho:OpR X (compareOp op) r) (ha:PE X a ta) (hb:PE X b tb) (hm:behindInMarks op b = false):PT X (.Compare a [op] [b] pos) (tTest (tOp r ta tb)):=by
 intro pins s σ H Q I h
 refine wpAny_isTrue_Compare1 (thn (ha pins s σ H _ I h) fun v s1 ⟨x,H1,I1,r1,q1⟩=>thn (hb pins s1 σ H1 _ I1 q1) fun u s2 ⟨y,H2,I2,r2,q2⟩ =>
  thn (ho pins s2 σ H2 x y v u _ I2 r1 r2 q2) fun c s3 ⟨z,H3,I3,r3,k,e,q3⟩=>?_) hm
 subst e
 cases r3
 exact wpAny_truthy_bool ⟨H3,I3,q3⟩
def tChain (r r':R2) (ta tb tc:TE):TE:=fun σ H Q=>ta σ H fun x H1=>tb σ H1 fun y H2=>r x y H2 fun z H3=>∃ k,z = .bl k ∧
 (if k = true then tc σ H3 fun w' H4=>r' y w' H4 Q else Q (.bl false) H3)
theorem pe_chain {op op':CmpOp} {r r':R2} (ho:OpR X (compareOp op) r) (ho':OpR X (compareOp op') r') (ha:PE X a ta) (hb:PE X b tb) (hc:PE X c tc)
  (hm:lastMarks [op,op'] [b,c] = false:=by with_unfolding_all rfl):PE X (.Compare a [op,op'] [b,c] pos) (tChain r r' ta tb tc):=by
 intro pins s σ H Q I h
 refine Compare_chain (thn (ha pins s σ H _ I h) fun v s1 ⟨x,H1,I1,r1,q1⟩=>chain_link (thn (hb pins s1 σ H1 _ I1 q1) fun u s2 ⟨y,H2,I2,r2,q2⟩ =>
  thn (ho pins s2 σ H2 x y v u _ I2 r1 r2 q2) fun d s3 ⟨z,H3,I3,r3,k,e,q3⟩=>?_)) hm
 subst e
 cases r3
 refine wpAny_truthy_bool ?_
 cases k with
 | false=>exact ite_ff ⟨.bl false,H3,I3,rfl,q3⟩
 | true=>exact ite_tt (chain_last (thn (hc pins s3 σ H3 _ I3 q3) fun w' s4 ⟨z',H4,I4,r4,q4⟩=>ho' pins s4 σ H4 y z' u w' Q I4 r2 r4 q4))
theorem pt_chain {op op':CmpOp} {r r':R2} (ho:OpR X (compareOp op) r) (ho':OpR X (compareOp op') r') (ha:PE X a ta) (hb:PE X b tb) (hc:PE X c tc)
  (hm:lastMarks [op,op'] [b,c] = false:=by with_unfolding_all rfl):PT X (.Compare a [op,op'] [b,c] pos) (tTest (tChain r r' ta tb tc)):=by
 intro pins s σ H Q I h
 refine isTrue_chain (thn (ha pins s σ H _ I h) fun v s1 ⟨x,H1,I1,r1,q1⟩=>test_link (thn (hb pins s1 σ H1 _ I1 q1) fun u s2 ⟨y,H2,I2,r2,q2⟩ =>
  thn (ho pins s2 σ H2 x y v u _ I2 r1 r2 q2) fun d s3 ⟨z,H3,I3,r3,k,e,q3⟩=>?_)) hm
 subst e
 cases r3
 refine wpAny_truthy_bool ?_
 cases k with
 | false =>
  obtain ⟨k',e',q'⟩:=q3
  cases e'
  exact ite_ff ⟨H3,I3,q'⟩
 | true =>
  refine ite_tt (test_last (thn (hc pins s3 σ H3 _ I3 q3) fun w' s4 ⟨z',H4,I4,r4,q4⟩=>thn (ho' pins s4 σ H4 y z' u w' _ I4 r2 r4 q4) fun d' s5 ⟨z2,H5,I5,r5,k2,e2,q5⟩=>?_))
  subst e2
  cases r5
  exact wpAny_truthy_bool ⟨H5,I5,q5⟩
theorem line63:(sizeLine:Nat) < 2 ^ 63:=by rw [sizeLine_eq]; decide
theorem op_add_str:OpR X (binaryOp .Add) (fun x y H Q=>∃ i j,x = .str i∧y = .str j∧i.length + j.length≤sizeLine∧Q (.str (i ++ j)) H):=by
 intro pins s σ H x y v u Q I rx ry h
 obtain ⟨i,j,rfl,rfl,hz,q⟩:=h
 obtain ⟨t,rfl⟩:=rx
 obtain ⟨t',rfl⟩:=ry
 exact add_str (fun t' tk=>⟨.str (i ++ j),H,I.tok _,⟨_,rfl⟩,q⟩) hz
theorem vals1 {x:V} {us:List Value} (r:Vals [x] us):∃ u,us = [u]∧RelV x u:=by
 cases r with
 | cons r1 r2=>cases r2; exact ⟨_,rfl,r1⟩
theorem vals2 {x y:V} {us:List Value} (r:Vals [x,y] us):∃ u w',us = [u,w']∧RelV x u∧RelV y w':=by
 cases r with
 | cons r1 r2 =>
  cases r2 with
  | cons r3 r4=>cases r4; exact ⟨_,_,rfl,r1,r3⟩
theorem call_max2 (hc:X.calm = true):CallR X (.builtin "max") (fun xs H Q=>∃ i j,xs = [.int i,.int j]∧Q (.int (if j > i then j else i)) H):=by
 intro pins s σ H xs us Q I r h
 obtain ⟨i,j,rfl,q⟩:=h
 obtain ⟨u,w',rfl,⟨t,rfl⟩,⟨t',rfl⟩⟩:=vals2 r
 refine max_two_ints (I.ok.hd hc) fun h' tk k=>⟨_,H,I.kept k,?_,q⟩
 by_cases hj:j > i
 ·rw [if_pos hj,if_pos hj]; exact ⟨_,rfl⟩
 ·rw [if_neg hj,if_neg hj]; exact ⟨_,rfl⟩
theorem call_min2 (hc:X.calm = true):CallR X (.builtin "min") (fun xs H Q=>∃ i j,xs = [.int i,.int j]∧Q (.int (if j < i then j else i)) H):=by
 intro pins s σ H xs us Q I r h
 obtain ⟨i,j,rfl,q⟩:=h
 obtain ⟨u,w',rfl,⟨t,rfl⟩,⟨t',rfl⟩⟩:=vals2 r
 refine min_two_ints (I.ok.hd hc) fun h' tk k=>⟨_,H,I.kept k,?_,q⟩
 by_cases hj:j < i
 ·rw [if_pos hj,if_pos hj]; exact ⟨_,rfl⟩
 ·rw [if_neg hj,if_neg hj]; exact ⟨_,rfl⟩
theorem call_int1:CallR X (.type "int") (fun xs H Q=>(∃ i,xs = [.int i]∧Q (.int i) H)∨∃ k,xs = [.bl k]∧Q (.int (if k then 1 else 0)) H):=by
 intro pins s σ H xs us Q I r h
 rcases h with ⟨i,rfl,q⟩ | ⟨k,rfl,q⟩
 ·obtain ⟨u,rfl,t,rfl⟩:=vals1 r
  exact call_int_int ⟨.int i,H,I,⟨_,rfl⟩,q⟩
 ·obtain ⟨u,rfl,r1⟩:=vals1 r
  cases r1
  exact call_int_bool ⟨.int (if k then 1 else 0),H,I.tok _,⟨_,rfl⟩,q⟩
end
end L2
namespace L2
open PySem PySem.Spec PyProof.Rows
structure ObjM (h:Heap) (x dx C:Addr) (mA:Str→Option Value):Prop where
 obj:h.get? x = some (PySem.W.instObj C dx)
 ns:h.Ns1 dx mA
 ne:dx ≠ x
theorem lookIn_ns {h:Heap} {dx:Addr} {mA:Str→Option Value} (n:h.Ns1 dx mA):∃ od,h.get? dx = some od∧∀ name,PySem.W.lookIn name od = some (mA name):=by
 obtain ⟨o,es,ep,ho,hd,hk,_,hm⟩:=n
 refine ⟨o,ho,fun name=>?_⟩
 have e:=hm name
 unfold nsFind findBy at e
 rw [← Array.find?_toList] at e
 unfold PySem.W.lookIn
 rw [hd]
 dsimp only
 split
 ·rename_i y q
  rw [q] at e
  exact congrArg some e
 ·rename_i q
  rw [q] at e
  have a:es.toList.any (·.refKey) = false:=by
   rw [List.any_eq_false]
   intro y hy
   obtain ⟨z,t,hkey⟩:=hk y (Array.mem_toList_iff.mp hy)
   simp [DictEntry.refKey,hkey]
  have a':¬ es.toList.any (·.refKey) = true:=by rw [a]; exact Bool.false_ne_true
  rw [if_neg a']
  exact congrArg some e
theorem ObjM.look {h:Heap} {x dx C:Addr} {mA:Str→Option Value} (I:ObjM h x dx C mA):∃ od,PySem.W.InstAt h x (PySem.W.instObj C dx) C (some od)∧∀ name,PySem.W.lookIn name od = some (mA name) :=
 let ⟨od,ho,hl⟩:=lookIn_ns I.ns
 ⟨od,⟨I.obj,rfl,rfl,ho⟩,hl⟩
section
variable {prog:Program} {w:World} {A:Around} {E:Value→Shared→Prop} {s:Shared} {K:PySem.W.Frag} {x dx C f:Addr} {mA:Str→Option Value} {name:Str} {v:Value}
theorem get_map {expr:Bool} {Q:Value→Shared→Prop} (X:K.In s.heap) (I:ObjM s.heap x dx C mA) (hg:PySem.W.plainGet K C name = true) (hh:PySem.W.hasDictIn K C = true)
  (ha:PySem.W.findIn K (.ref C) name = some none) (hv:mA name = some v) (hv':PySem.W.handedIn v = true) (h:Q v { s with toks:=s.toks + 1 }) :
  wpAny (model prog w) A (getAttr (.ref x) name expr) Q E s:=by
 obtain ⟨od,J,hl⟩:=I.look
 exact PySem.W.get_value X J (PySem.W.plainGet_of hg).1 (PySem.W.findObj_own hh ha rfl (by rw [hl,hv])) hv' h
theorem get_meth {pl:Sem Bool} {Q:Value × List Value→Shared→Prop} (X:K.In s.heap) (I:ObjM s.heap x dx C mA) (hg:PySem.W.plainGet K C name = true)
  (hf:PySem.W.findIn K (.ref C) name = some (some (.ref f))) (ht:PySem.W.isFn K (.ref f) = true) (hv:mA name = none) (h:Q (.ref f,[.ref x]) s) :
  wpAny (model prog w) A (getMethod (.ref x) name pl) Q E s:=by
 obtain ⟨od,J,hl⟩:=I.look
 exact PySem.W.method_fn X J (PySem.W.plainGet_of hg).1 (PySem.W.plainGet_of hg).2 hf (beq_iff_eq.mp ht) (by show (PySem.W.lookIn name od).map (·.isSome) = some false; rw [hl,hv]; rfl) h
theorem set_map {ns:List Str} {Q:Unit→Shared→Prop} (X:K.In s.heap) (I:ObjM s.heap x dx C mA)
  (hs:PySem.W.findIn K (.ref C) "__setattr__" = some (some (.builtin "object.__setattr__"))) (hp:PySem.W.plainOver K C = true) (ht:PySem.W.takerIn K C name = some none) (hh:PySem.W.hasDictIn K C = true)
  (hw:PySem.Within mA ns) (hsz:ns.length≤sizeLine)
  (h:∀ h',ObjM h' x dx C (fun y=>if y = name then some v else mA y)→Heap.SameBut dx s.heap h'→Q () { s with heap:=h',toks:=s.toks + 2 }) :
  wpAny (model prog w) A (setAttr (.ref x) name v) Q E s:=by
 obtain ⟨od,J,hl⟩:=I.look
 refine PySem.W.set_plain X J hs (PySem.W.osa_open (s:={ s with toks:=s.toks + 1 }) (r:=none) X J hp ht fun b=>?_)
 obtain ⟨cd,hc,hd'⟩:=PySem.W.any_some hh
 have hx:s.heap.get? x = some ⟨.ref C,some dx,.plain,#[]⟩:=I.obj
 refine wpAny_bind (wpAny_pure (wpAny_bind (wpAny_bind (wpAny_loadPart hx (wpAny_bind (PySem.W.Looks.here (s:={ s with toks:=s.toks + 1 }) (PySem.W.looks_clsIn X hc) ?_))))))
 rw [hd']
 refine wpAny_pure (a:=some dx) (wpAny_bind (wpAny_pure (wpAny_bind ?_)))
 refine wpAny_nsSet1 (s:={ s with toks:=s.toks + 1 }) I.ns fun h' hn2 hs2=>?_
 obtain ⟨oD,esD,epD,hoD,hdD,hcD⟩:=hn2.count (PySem.Within.cons name v hw)
 refine wpAny_bind (wpAny_lookBehind hoD (by rw [hdD]; exact pastItsLine_dict (Nat.le_trans hcD (by rw [List.length_cons]; omega))) ?_)
 exact wpAny_pure (h _ ⟨(hs2.2 _ (Ne.symm I.ne)).trans I.obj,hn2,I.ne⟩ hs2)
theorem make_map {R:Result→Shared→Prop} {vs:List Value} {kw:List (Str × Value)} (X:K.In s.heap) (hm:PySem.W.makesIn K C = true)
  (hi:PySem.W.findIn K (.ref C) "__init__" = some (some (.ref f))) (hf:PySem.W.typeIn K (.ref f) = some (.type "function"))
  (h:codeAny (model prog w) (A.under (.builtin "type.__call__" ⟨.ref C :: vs,kw⟩)) (.call (.ref f) ⟨.ref (s.heap.objs.size + 1) :: vs,kw⟩) (PySem.W.InitBack (s.heap.objs.size + 1) R)
   { s with heap:=(s.heap.push PySem.W.emptyDict).push (PySem.W.instObj C s.heap.objs.size) }) :
  codeAny (model prog w) A (.call (.ref C) ⟨vs,kw⟩) R s:=by
 obtain ⟨hh,g,d,t,os⟩:=s
 exact PySem.W.make_core (PySem.W.makes_of X hm) (PySem.W.looks_findIn X hi) (fun self=>PySem.W.bind_fn X self hf) (.inl rfl) h
end
def putF (f:Str) (v:V):List (Str × V)→List (Str × V)
 | []=>[(f,v)]
 | (g,x) :: r=>if g = f then (g,v) :: r else (g,x) :: putF f v r
theorem lookup_putF (f g:Str) (v:V):∀ fs:List (Str × V),(putF f v fs).lookup g = if g = f then some v else fs.lookup g
 | []=>by
  show List.lookup g [(f,v)] = _
  by_cases h:g = f
  ·have hb:(g == f) = true:=beq_iff_eq.mpr h
   simp only [List.lookup,hb,if_pos h]
  ·have hb:(g == f) = false:=beq_eq_false_iff_ne.mpr h
   simp only [List.lookup,hb,if_neg h]
 | (k,x) :: r=>by
  have ih:=lookup_putF f g v r
  rw [show putF f v ((k,x) :: r) = (if k = f then (k,v) :: r else (k,x) :: putF f v r) from rfl]
  by_cases hk:k = f
  ·rw [if_pos hk]
   by_cases h:g = k
   ·have hb:(g == k) = true:=beq_iff_eq.mpr h
    simp only [List.lookup,hb,if_pos (h.trans hk)]
   ·have hb:(g == k) = false:=beq_eq_false_iff_ne.mpr h
    simp only [List.lookup,hb,if_neg (fun e:g = f=>h (e.trans hk.symm))]
  ·rw [if_neg hk]
   by_cases h:g = k
   ·have hb:(g == k) = true:=beq_iff_eq.mpr h
    simp only [List.lookup,hb,if_neg (fun e:g = f=>hk (h.symm.trans e))]
   ·have hb:(g == k) = false:=beq_eq_false_iff_ne.mpr h
    simp only [List.lookup,hb]
    exact ih
theorem keys_putF (f:Str) (v:V):∀ fs:List (Str × V),f ∈ (putF f v fs).map (·.1)∧∀ g,g ∈ fs.map (·.1)→g ∈ (putF f v fs).map (·.1)
 | []=>⟨by simp [putF],fun g h=>by simp at h⟩
 | (k,x) :: r=>by
  obtain ⟨i1,i2⟩:=keys_putF f v r
  rw [show putF f v ((k,x) :: r) = (if k = f then (k,v) :: r else (k,x) :: putF f v r) from rfl]
  by_cases hk:k = f
  ·rw [if_pos hk]
   subst hk
   exact ⟨by simp,fun g h=>by simpa using h⟩
  ·rw [if_neg hk]
   refine ⟨?_,fun g h=>?_⟩
   ·rw [List.map_cons]
    exact List.mem_cons_of_mem _ i1
   ·rw [List.map_cons] at h ⊢
    rcases List.mem_cons.mp h with e | e
    ·exact List.mem_cons.mpr (.inl e)
    ·exact List.mem_cons_of_mem _ (i2 g e)
theorem length_putF (f:Str) (v:V):∀ fs:List (Str × V),(putF f v fs).length≤fs.length + 1
 | []=>by simp [putF]
 | (k,x) :: r=>by
  have ih:=length_putF f v r
  rw [show putF f v ((k,x) :: r) = (if k = f then (k,v) :: r else (k,x) :: putF f v r) from rfl]
  by_cases hk:k = f
  ·rw [if_pos hk,List.length_cons,List.length_cons]; omega
  ·rw [if_neg hk,List.length_cons,List.length_cons]; omega
theorem RelO.some_of {v:V} {o:Option Value} (r:RelO (some v) o):∃ u,o = some u∧RelV v u:=by
 cases o with
 | none=>exact (show False from r).elim
 | some u=>exact ⟨u,rfl,r⟩
theorem RelO.none_of {o:Option Value} (r:RelO none o):o = none:=by
 cases o with
 | none=>rfl
 | some u=>exact (show False from r).elim
theorem handed_of {v:V} {u:Value} (r:RelV v u):PySem.W.handedIn u = true:=by
 cases v with
 | non=>cases (show u = Value.none from r); rfl
 | bl b=>cases (show u = Value.bool b from r); rfl
 | int i=>obtain ⟨t,e⟩:=(show ∃ t,u = Value.int i t from r); cases e; rfl
 | str x=>obtain ⟨t,e⟩:=(show ∃ t,u = Value.str x t from r); cases e; rfl
 | byt b=>obtain ⟨t,e⟩:=(show ∃ t,u = Value.bytes b t from r); cases e; rfl
 | flt b=>obtain ⟨t,e⟩:=(show ∃ t,u = Value.float b t from r); cases e; rfl
 | ref a=>cases (show u = Value.ref a from r); rfl
 | ty n=>cases (show u = Value.type n from r); rfl
section
variable {P:Program} {w:World} {H H':Hp} {h h':Heap} {a C dx:Addr} {fs fs':List (Str × V)}
theorem ins_get (hok:HOk P w H h) (e:H a = some (.ins C dx fs)):∃ mA,ObjM h a dx C mA∧(∀ f,RelO (fs.lookup f) (mA f))∧PySem.Within mA (fs.map (·.1))∧fs.length≤1000∧H dx = some (.own a):=by
 obtain ⟨d,z,ne,ob,mA,n,r,q⟩:=(show ObjOk P w H h a (.ins C dx fs) from hok a _ e)
 exact ⟨mA,⟨ob,n,ne⟩,r,q,z,d⟩
end
structure Cls (K:PySem.W.Frag) (C:Addr):Prop where
 pg:PySem.W.plainGet K C Str.empty = true
 hd:PySem.W.hasDictIn K C = true
 po:PySem.W.plainOver K C = true
 sa:PySem.W.findIn K (.ref C) "__setattr__" = some (some (.builtin "object.__setattr__"))
theorem Cls.get {K:PySem.W.Frag} {C:Addr} (c:Cls K C) (f:Str):PySem.W.plainGet K C f = true:=c.pg
def NoAttr (K:PySem.W.Frag) (C:Addr) (f:Str):Prop:=PySem.W.findIn K (.ref C) f = some none
theorem NoAttr.taker {K:PySem.W.Frag} {C:Addr} {f:Str} (n:NoAttr K C f):PySem.W.takerIn K C f = some none:=by
 unfold PySem.W.takerIn
 rw [show PySem.W.findIn K (.ref C) f = some none from n]
 rfl
structure Meth (K:PySem.W.Frag) (C:Addr) (m:Str) (f:Addr):Prop where
 at_:PySem.W.findIn K (.ref C) m = some (some (.ref f))
 fn:PySem.W.isFn K (.ref f) = true
 kp:PySem.W.keepIn K (.ref f) = true
section
variable {X:Cx} {pins:List (Addr × Obj)} {σ:St} {H:Hp} {s:Shared} {a C dx:Addr} {fs:List (Str × V)} {f:Str} {v:V} {A:Around} {E:Value→Shared→Prop}
theorem getattr_ok {b:Bool} {Q:Value→Shared→Prop} (I:Inv X pins σ H s) (e:H a = some (.ins C dx fs)) (c:Cls X.K C) (n:NoAttr X.K C f) (l:fs.lookup f = some v)
  (h:∀ u s',Inv X pins σ H s'→RelV v u→Q u s'):wpAny (model X.prog X.w) A (getAttr (.ref a) f b) Q E s:=by
 obtain ⟨mA,O,r,_,_,_⟩:=ins_get I.hok e
 obtain ⟨u,hu,ru⟩:=RelO.some_of (v:=v) (o:=mA f) (by rw [← l]; exact r f)
 exact get_map I.kIn O (c.get f) c.hd n hu (handed_of ru) (h u _ (I.tok _) ru)
theorem getmeth_ok {m:Str} {g:Addr} {pl:Sem Bool} {Q:Value × List Value→Shared→Prop} (I:Inv X pins σ H s) (e:H a = some (.ins C dx fs)) (c:Cls X.K C) (k:Meth X.K C m g) (l:fs.lookup m = none)
  (h:Q (.ref g,[.ref a]) s):wpAny (model X.prog X.w) A (getMethod (.ref a) m pl) Q E s:=by
 obtain ⟨mA,O,r,_,_,_⟩:=ins_get I.hok e
 have hn:mA m = none:=RelO.none_of (by rw [← l]; exact r m)
 exact get_meth I.kIn O (c.get m) k.at_ k.fn hn h
theorem setattr_ok {y:V} {u:Value} {Q:Unit→Shared→Prop} (I:Inv X pins σ H s) (e:H a = some (.ins C dx fs)) (c:Cls X.K C) (n:NoAttr X.K C f) (hl:fs.length < 1000) (ry:RelV y u)
  (h:∀ s',Inv X pins σ (upd H a (.ins C dx (putF f y fs))) s'→Q () s'):wpAny (model X.prog X.w) A (setAttr (.ref a) f u) Q E s:=by
 obtain ⟨mA,O,r,wi,_,ho⟩:=ins_get I.hok e
 have hz:(fs.map (·.1)).length≤sizeLine:=by rw [List.length_map,sizeLine_eq]; omega
 refine set_map I.kIn O c.sa c.po n.taker c.hd wi hz fun h' O' sb=>h _ ?_
 have hd:∃ o,h'.get? dx = some o:=let ⟨o,_,_,e',_⟩:=O'.ns; ⟨o,e'⟩
 refine I.write (x:=a) (e:=dx) (by rw [e]; exact True.intro) (.inr ho) (fun b q hb z=>(sb.2 b hb).trans z) hd ?_
 refine ⟨by rw [upd_ne O.ne]; exact ho,?_,O.ne,O'.obj,_,O'.ns,fun g=>?_,fun g hg=>?_⟩
 ·have:=length_putF f y fs; omega
 ·show RelO ((putF f y fs).lookup g) (if g = f then some u else mA g)
  rw [lookup_putF]
  by_cases q:g = f
  ·rw [if_pos q,if_pos q]; exact ry
  ·rw [if_neg q,if_neg q]; exact r g
 ·by_cases q:g = f
  ·rw [q]; exact (keys_putF f y fs).1
  ·refine (keys_putF f y fs).2 g (wi g fun z=>hg ?_)
   show (if g = f then some u else mA g) = none
   rw [if_neg q]; exact z
theorem Inv.made (I:Inv X pins σ H s):Inv X pins σ (upd (upd H s.heap.objs.size (.own (s.heap.objs.size + 1))) (s.heap.objs.size + 1) (.ins C s.heap.objs.size []))
  { s with heap:=(s.heap.push PySem.W.emptyDict).push (PySem.W.instObj C s.heap.objs.size) }:=by
 have e1:(s.heap.push PySem.W.emptyDict).get? s.heap.objs.size = some PySem.W.emptyDict:=Heap.get?_push_size s.heap rfl
 have e2:((s.heap.push PySem.W.emptyDict).push (PySem.W.instObj C s.heap.objs.size)).get? (s.heap.objs.size + 1) = some (PySem.W.instObj C s.heap.objs.size):=by
  have:=Heap.get?_push_size (s.heap.push PySem.W.emptyDict) (o:=PySem.W.instObj C s.heap.objs.size) rfl
  rwa [Heap.size_push] at this
 have e3:(s.heap.push PySem.W.emptyDict).Ns s.heap.objs.size (fun _=>none):=⟨PySem.W.emptyDict,#[],_,e1,rfl,(fun e he=>absurd he (by simp)),fun _=>rfl⟩
 have I1:=I.laid (a:=s.heap.objs.size) (o:=.own (s.heap.objs.size + 1)) (h':=s.heap.push PySem.W.emptyDict) (t':=s.toks) (fun b u q=>Heap.get?_push_of_some _ q) (Nat.le_refl _) ⟨_,e1⟩
 refine I1.laid (a:=s.heap.objs.size + 1) (o:=.ins C s.heap.objs.size []) (t':=s.toks) (fun b u q=>Heap.get?_push_of_some _ q) (Nat.le_of_eq (Heap.size_push _ _)) ?_
 have ne:s.heap.objs.size ≠ s.heap.objs.size + 1:=Nat.ne_of_lt (Nat.lt_succ_self _)
 refine ⟨by rw [upd_ne ne,upd_same],Nat.zero_le _,ne,e2,fun _=>none,(Heap.Ns1.of_empty e3).at fun o q=>Heap.get?_push_of_some _ q,fun _=>True.intro,fun y hy=>absurd rfl hy⟩
theorem attr_of {prog:Program} {w:World} {env:Env} {e:Expr} {f:Str} {pos:Pos} {s:Shared} {Q:Value→Shared→Prop} (hb:attributeBase e f env (eval e env) = eval e env)
  (h:wpAny (model prog w) A (eval e env) (fun o s₁=>wpAny (model prog w) A (getAttr o f true) Q E s₁) E s):wpAny (model prog w) A (eval (.Attribute e f pos) env) Q E s :=
 Attribute_any_ h (by rw [arm_eval_Attribute,hb])
end
def tFld (K:PySem.W.Frag) (ta:TE) (f:Str):TE:=fun σ H Q=>ta σ H fun x H1=>∃ a C dx fs v,x = .ref a∧H1 a = some (.ins C dx fs)∧Cls K C∧NoAttr K C f∧fs.lookup f = some v∧Q v H1
def sFld (K:PySem.W.Frag) (ta tv:TE) (f:Str):TS:=fun D σ H=>tv σ H fun y H1=>ta σ H1 fun x H2=>∃ a C dx fs,x = .ref a∧H2 a = some (.ins C dx fs)∧Cls K C∧NoAttr K C f∧fs.length < 1000 ∧
 D.nx σ (upd H2 a (.ins C dx (putF f y fs)))
section
variable {X:Cx} {o e value:Expr} {f:Str} {pos pos' tpos:Pos} {ta tv:TE}
theorem pe_fld (he:PE X e ta) (hb:attributeBase e f X.env (eval e X.env) = eval e X.env):PE X (.Attribute e f pos) (tFld X.K ta f):=by
 intro pins s σ H Q I h
 refine attr_of hb (thn (he pins s σ H _ I h) fun u s1 ⟨x,H1,I1,rx,a,C,dx,fs,v,ex,ea,c,n,l,q⟩=>?_)
 subst ex
 obtain rfl:u = Value.ref a:=rx
 exact getattr_ok I1 ea c n l fun u' s2 I2 ru=>⟨v,H1,I2,ru,q⟩
theorem ps_fld (ha:PE X o ta) (hv:PE X value tv) (hs:swapsWith value (some (.Attribute o f pos')) pos.line X.env = pure false):PS X (.Assign [.Attribute o f pos'] value pos) (sFld X.K ta tv f):=by
 intro pins s σ H D I h
 refine plainObj_wpAny_Assign_Attribute (thn (hv pins s σ H _ I h) fun u s1 ⟨y,H1,I1,ry,q⟩=>thn (ha pins s1 σ H1 _ I1 q) fun ov s2 ⟨x,H2,I2,rx,a,C,dx,fs,ex,ea,c,n,l,q2⟩=>?_) hs
 subst ex
 obtain rfl:ov = Value.ref a:=rx
 exact setattr_ok I2 ea c n l ry fun s3 I3=>⟨σ,_,I3,q2⟩
end
section
variable {X:Cx} {pins:List (Addr × Obj)} {σ:St} {H:Hp} {s:Shared} {A:Around} {E:Value→Shared→Prop} {Q:Value→Shared→Prop} {c:Value} {b:Bool}
inductive TyOf (K:PySem.W.Frag) (H:Hp):V→Value→Prop where
 | non:TyOf K H .non (.type "NoneType")
 | bl (x:Bool):TyOf K H (.bl x) (.type "bool")
 | int (i:Int):TyOf K H (.int i) (.type "int")
 | str (x:Str):TyOf K H (.str x) (.type "str")
 | flt (x:UInt64):TyOf K H (.flt x) (.type "float")
 | lst {a:Addr} {xs:List V} (e:H a = some (.lst xs)):TyOf K H (.ref a) (.type "list")
 | frz {a:Addr} {o:Obj} {xs:List V} (e:H a = some (.frz o (.lst xs))):TyOf K H (.ref a) (.type "list")
 | tup {a:Addr} {xs:List V} (e:H a = some (.tup xs)):TyOf K H (.ref a) (.type "tuple")
 | dK {a:Addr} {kvs:List (Key × V)} (e:H a = some (.dK kvs)):TyOf K H (.ref a) (.type "dict")
 | dT {a:Addr} {kvs:List (List Key × V)} (e:H a = some (.dT kvs)):TyOf K H (.ref a) (.type "dict")
 | ins {a C dx:Addr} {fs:List (Str × V)} (e:H a = some (.ins C dx fs)) (cl:Cls K C) (ha:PySem.W.findIn K (.ref C) "__class__" = some (some (.builtin "object.__class__")))
   (hn:PySem.W.specialIn K (.builtin "object.__class__") "__get__" = some (some (.builtin "getset_descriptor.__get__"))) (htk:PySem.W.takesIn K (.builtin "object.__class__") = some true)
   (hm:PySem.W.mroIn K C (.type "object") = some true):TyOf K H (.ref a) (.ref C)
theorem isinst_ok {x:V} {u t:Value} (I:Inv X pins σ H s) (rx:RelV x u) (ty:TyOf X.K H x t) (e:PySem.W.kitOne X.K t c = some b) (h:∀ tk,Q (.bool b) { s with toks:=tk }) :
  wpAny (model X.prog X.w) A (call (.builtin "isinstance") [u,c]) Q E s:=by
 cases ty with
 | non=>cases (show u = Value.none from rx); exact PySem.W.kia_one PySem.W.kitx_none I.kIn True.intro e (fun z=>nomatch z) h
 | bl y=>cases (show u = Value.bool y from rx); exact PySem.W.kia_one PySem.W.kitx_bool I.kIn True.intro e (fun z=>nomatch z) h
 | int i=>obtain ⟨t,q⟩:=(show ∃ t,u = Value.int i t from rx); cases q; exact PySem.W.kia_one PySem.W.kitx_int I.kIn True.intro e (fun z=>nomatch z) h
 | str y=>obtain ⟨t,q⟩:=(show ∃ t,u = Value.str y t from rx); cases q; exact PySem.W.kia_one PySem.W.kitx_str I.kIn True.intro e (fun z=>nomatch z) h
 | flt y=>obtain ⟨t,q⟩:=(show ∃ t,u = Value.float y t from rx); cases q; exact PySem.W.kia_one PySem.W.kitx_float I.kIn True.intro e (fun z=>nomatch z) h
 | @lst a xs ea =>
  cases (show u = Value.ref a from rx)
  obtain ⟨_,_,n,_,h1⟩:=(show ObjOk X.prog X.w H s.heap a (.lst xs) from I.hok a _ ea)
  exact PySem.W.kia_one PySem.W.kitx_list I.kIn ⟨_,h1,rfl⟩ e (fun z=>nomatch z) h
 | @frz a ob xs ea =>
  cases (show u = Value.ref a from rx)
  obtain ⟨_,_,_,n,_,h1⟩:=(show ObjOk X.prog X.w H s.heap a (.frz ob (.lst xs)) from I.hok a _ ea)
  exact PySem.W.kia_one PySem.W.kitx_list I.kIn ⟨_,h1,rfl⟩ e (fun z=>nomatch z) h
 | @tup a xs ea =>
  cases (show u = Value.ref a from rx)
  obtain ⟨_,_,_,p⟩:=(show ObjOk X.prog X.w H s.heap a (.tup xs) from I.hok a _ ea)
  obtain ⟨o,h1,h2,_⟩:=p
  exact PySem.W.kia_one PySem.W.kitx_tuple I.kIn ⟨o,h1,h2⟩ e (fun z=>nomatch z) h
 | @dK a kvs ea =>
  cases (show u = Value.ref a from rx)
  obtain ⟨_,_,vs,_,p⟩:=(show ObjOk X.prog X.w H s.heap a (.dK kvs) from I.hok a _ ea)
  obtain ⟨o,es,ep,h1,h2,_⟩:=p
  exact PySem.W.kia_one PySem.W.kitx_dict I.kIn ⟨o,h1,h2.1⟩ e (fun z=>nomatch z) h
 | @dT a kvs ea =>
  cases (show u = Value.ref a from rx)
  obtain ⟨_,_,xs,_,o,es,ep,h1,h2,_⟩:=(show ObjOk X.prog X.w H s.heap a (.dT kvs) from I.hok a _ ea)
  exact PySem.W.kia_one PySem.W.kitx_dict I.kIn ⟨o,h1,h2.1⟩ e (fun z=>nomatch z) h
 | @ins a C dx fs ea cl ha hn htk hm =>
  cases (show u = Value.ref a from rx)
  obtain ⟨mA,O,_⟩:=ins_get I.hok ea
  obtain ⟨od,J,_⟩:=O.look
  exact PySem.W.kia_one (PySem.W.kitx_own (cl.get _) cl.hd ha hn htk hm) I.kIn J e (fun z=>nomatch z) h
end
end L2
namespace L2
open PySem PySem.Spec PyProof.Rows
structure Room (k:Nat) (A:Around):Prop where
 hd:A.handled = none
 dp:A.depth + 3 * k + 5 < recursionLimit
 un:A.units + 16 * k + 200 < cLine
 gd:A.guards = some []
theorem Room.mono {j k:Nat} {A:Around} (r:Room k A) (h:j≤k):Room j A:=⟨r.hd,by have:=r.dp; omega,by have:=r.un; omega,r.gd⟩
theorem Room.deeper {k:Nat} {A:Around} (r:Room (k + 1) A) (env:Env):Room k (A.deeper env) :=
 ⟨r.hd,by have:=r.dp; show A.depth + 1 + 3 * k + 5 < _; omega,by have:=r.un; show A.units + 3 + 16 * k + 200 < _; omega,r.gd⟩
theorem make_depth {A:Around} {C:Addr} {us:List Value} {kw:List (Str × Value)}:(A.under (.builtin "type.__call__" ⟨.ref C :: us,kw⟩)).depth = A.depth + 1:=by
 first | rfl | simp [Around.under,Code.weight,Code.isCreation,Code.isGuard,Code.isCaller,Code.frames,Code.isFrame,guardIds]
theorem make_units {A:Around} {C:Addr} {us:List Value} {kw:List (Str × Value)}:(A.under (.builtin "type.__call__" ⟨.ref C :: us,kw⟩)).units = A.units + 1:=by
 first | rfl | simp [Around.under,Code.cUnits,Code.frames,Code.isFrame]
theorem Room.make {k:Nat} {A:Around} (r:Room (k + 1) A) (C:Addr) (us:List Value) (kw:List (Str × Value)):Room k (A.under (.builtin "type.__call__" ⟨.ref C :: us,kw⟩)) :=
 ⟨r.hd,by have:=r.dp; rw [make_depth]; omega,by have:=r.un; rw [make_units]; omega,r.gd⟩
theorem Room.depth {k:Nat} {A:Around} (r:Room k A):A.depth < recursionLimit:=by have:=r.dp; omega
theorem Room.units {k:Nat} {A:Around} (r:Room k A):A.units + 64 < cLine:=by have:=r.un; omega
def tNil:TA:=fun _ H Q=>Q [] H
def tCons (ta:TE) (tr:TA):TA:=fun σ H Q=>ta σ H fun x H1=>tr σ H1 fun xs H2=>Q (x :: xs) H2
section
variable {X:Cx} {e:Expr} {es:List Expr} {te:TE} {t:TA} {pos:Pos}
theorem pa_nil:PA X [] tNil:=fun _ _ _ _ H Q I h=>Calls.spliced_nil ⟨[],H,I,.nil,h⟩
theorem pa_cons (ha:PE X e te) (hr:PA X es t) (hs:starEach (e :: es) X.env = (false,eval e X.env) :: starEach es X.env:=by rfl):PA X (e :: es) (tCons te t):=by
 intro pos pins s σ H Q I h
 rw [hs]
 show wpAny _ _ (spliced ((false,eval e X.env) :: backTo pos (starEach es X.env))) _ _ s
 refine Calls.spliced_cons (thn (ha pins s σ H _ I h) fun u s1 ⟨x,H1,I1,r1,q1⟩=>?_)
 exact thn (hr pos pins s1 σ H1 _ I1 q1) fun us s2 ⟨xs,H2,I2,r2,q2⟩=>⟨x :: xs,H2,I2,.cons r1 r2,q2⟩
def tTup (t:TA):TE:=fun σ H Q=>t σ H fun xs H1=>xs.length≤sizeLine∧∀ p,H1 p = none→Q (.ref p) (upd H1 p (.tup xs))
def tLst (t:TA):TE:=fun σ H Q=>t σ H fun xs H1=>xs.length≤sizeLine∧∀ p,H1 p = none→Q (.ref p) (upd H1 p (.lst xs))
theorem pe_tup {x1} (h:PA X es t):PE X (.Tuple es x1 pos) (tTup t):=by
 intro pins s σ H Q I hq
 refine wpAny_Tuple_spliced (thn (h pos pins s σ H _ I hq) fun us s1 ⟨xs,H1,I1,r,z,q⟩=>⟨by rw [← r.length]; exact z,?_⟩)
 have hf:H1 s1.heap.objs.size = none:=I1.hok.fresh (Nat.le_refl _)
 refine ⟨.ref s1.heap.objs.size,upd H1 s1.heap.objs.size (.tup xs),I1.laid (t':=s1.toks) (fun b u e=>Heap.get?_push_of_some _ e) (Nat.le_refl _) ?_,rfl,q _ hf⟩
 exact ⟨z,us,r,⟨_,Heap.get?_push_size _ rfl,rfl,_,rfl⟩⟩
theorem pe_lst (h:PA X es t):PE X (.List es pos) (tLst t):=by
 intro pins s σ H Q I hq
 refine wpAny_List_spliced (thn (h pos pins s σ H _ I hq) fun us s1 ⟨xs,H1,I1,r,z,q⟩=>⟨by rw [← r.length]; exact z,?_⟩)
 have hf:H1 s1.heap.objs.size = none:=I1.hok.fresh (Nat.le_refl _)
 refine ⟨.ref s1.heap.objs.size,upd H1 s1.heap.objs.size (.lst xs),I1.laid (t':=s1.toks) (fun b u e=>Heap.get?_push_of_some _ e) (Nat.le_refl _) ?_,rfl,q _ hf⟩
 exact ⟨z,us,0,r,Heap.get?_push_size _ rfl⟩
end
abbrev Sp:=List V→Hp→VK→XK→Prop
abbrev CXT:=List Env→Hp→Shared→XK→Value→Shared→Prop
structure Env0 (P:Program) (w:World) (K:PySem.W.Frag) (mg:Str→Option Value) (base:Heap) (A:Around) (outer:List Env) (s:Shared) (H:Hp):Prop where
 frames:A.frames = some outer
 mod:Mod K mg base
 bs:∀ b o,base.get? b = some o→s.heap.get? b = some o∧H b = none
 bsz:base.objs.size≤s.heap.objs.size
 funs:s.heap.FunFrames base outer
 frf:∀ b ∈ frs outer,H b = none
 hok:HOk P w H s.heap
 bare:AllBare s.gens
def CE (outer:List Env) (P:Program) (w:World) (H:Hp) (s:Shared) (Q:VK) (u:Value) (s':Shared):Prop :=
 ∃ v H',s'.os = s.os∧AllBare s'.gens∧Un (frs outer) [] H H' s.heap s'.heap∧HOk P w H' s'.heap∧RelV v u∧Q v H'
def CR (CX:CXT) (outer:List Env) (P:Program) (w:World) (H:Hp) (s:Shared) (Q:VK) (E:XK) (r:Result) (s':Shared):Prop :=
 match r with
 | .ok (.ret u)=>CE outer P w H s Q u s'
 | .ok _=>False
 | .error e=>CX outer H s E e s'
structure FnOk (P:Program) (w:World) (K:PySem.W.Frag) (mg:Str→Option Value) (base:Heap) (CX:CXT) (k:Nat) (f:Addr) (fd:FuncData) (ps:List Str) (sp:Sp):Prop where
 len:∀ vs H Q E,sp vs H Q E→vs.length = ps.length
 run:∀ (A:Around) (outer:List Env) (s:Shared) (H:Hp) (args:Args) (us:List Value) (vs:List V) (Q:VK) (E:XK),Room k A→Env0 P w K mg base A outer s H→BindsTo s fd args (ps.zip us)→Vals vs us→sp vs H Q E →
  codeAny (model P w) A (.call (.ref f) args) (CR CX outer P w H s Q E) s
theorem FnOk.mono {P:Program} {w:World} {K:PySem.W.Frag} {mg:Str→Option Value} {base:Heap} {CX:CXT} {j k:Nat} {f:Addr} {fd:FuncData} {ps:List Str} {sp:Sp} (F:FnOk P w K mg base CX j f fd ps sp) (h:j≤k) :
  FnOk P w K mg base CX k f fd ps sp:=⟨F.len,fun A outer s H args us vs Q E hr=>F.run A outer s H args us vs Q E (hr.mono h)⟩
theorem FnOk.imp {P:Program} {w:World} {K:PySem.W.Frag} {mg:Str→Option Value} {base:Heap} {CX:CXT} {k:Nat} {f:Addr} {fd:FuncData} {ps:List Str} {sp sp':Sp} (F:FnOk P w K mg base CX k f fd ps sp)
  (h:∀ vs H Q E,sp' vs H Q E→sp vs H Q E):FnOk P w K mg base CX k f fd ps sp' :=
 ⟨fun vs H Q E q=>F.len vs H Q E (h _ _ _ _ q),fun A outer s H args us vs Q E hr he hb hv hs=>F.run A outer s H args us vs Q E hr he hb hv (h _ _ _ _ hs)⟩
theorem Env0.make {P:Program} {w:World} {K:PySem.W.Frag} {mg:Str→Option Value} {base:Heap} {A:Around} {outer:List Env} {s:Shared} {H:Hp} (e:Env0 P w K mg base A outer s H) (C:Addr) (us:List Value) (kw:List (Str × Value)) :
  Env0 P w K mg base (A.under (.builtin "type.__call__" ⟨.ref C :: us,kw⟩)) outer s H:=⟨by first | exact e.frames | (simpa [Around.under,Code.envs,Code.isFrame,pushEnvs] using e.frames),e.mod,e.bs,e.bsz,e.funs,e.frf,e.hok,e.bare⟩
section
variable {X:Cx} {pins:List (Addr × Obj)} {σ:St} {H:Hp} {s s':Shared}
theorem Inv.env0 (I:Inv X pins σ H s):Env0 X.prog X.w X.K X.mg X.base X.A X.stack s H :=
 ⟨I.ok.frames,I.ok.mod,I.bs,Nat.le_trans I.ok.bsz I.sz,I.stack,I.stkFree,I.hok,I.bare⟩
theorem Inv.after {Q:VK} {u:Value} (I:Inv X pins σ H s) (h:CE X.stack X.prog X.w H s Q u s'):EP X pins σ Q u s':=by
 obtain ⟨v,H',os,bare,un,hok,r,q⟩:=h
 obtain ⟨hh,g,d,t,os'⟩:=s'
 obtain rfl:os' = s.os:=os
 exact ⟨v,H',I.call (h':=hh) (g':=g) (d':=d) (t':=t) (ch:=[]) un hok bare (fun b z=>absurd z (by simp)),r,q⟩
end
def tCall (sp:Sp) (dvs:List V) (E:XK) (t:TA):TE:=fun σ H Q=>t σ H fun vs H1=>sp (vs ++ dvs) H1 Q E
def tMake (C:Addr) (sp:Sp) (dvs:List V) (E:XK) (t:TA):TE:=fun σ H Q=>t σ H fun vs H1=>∀ x dx,H1 x = none→H1 dx = none→dx ≠ x →
 sp (.ref x :: (vs ++ dvs)) (upd (upd H1 dx (.own x)) x (.ins C dx [])) (fun v H2=>v = .non∧Q (.ref x) H2) E
def Binds (K:PySem.W.Frag) (fd:FuncData) (ps:List Str) (ds:List Value):Prop :=
 ∀ (s:Shared) (us:List Value),K.In s.heap→(us ++ ds).length = ps.length→BindsTo s fd ⟨us,[]⟩ (ps.zip (us ++ ds))
theorem Binds.all {K:PySem.W.Frag} {fd:FuncData} {ps:List Str} (h:∀ us:List Value,us.length = ps.length→bindArgs fd ⟨us,[]⟩ = pure (ps.zip us)):Binds K fd ps []:=fun s us _ hl=>by
 rw [List.append_nil] at hl ⊢
 exact .of_eq (h us hl)
def Passes (CX:CXT) (X:Cx) (E:XK):Prop:=∀ (pins:List (Addr × Obj)) (σ:St) (H:Hp) (s:Shared) (e:Value) (s':Shared),Inv X pins σ H s→CX X.stack H s E e s'→X.xe e s'
section
variable {X:Cx} {CX:CXT} {k:Nat} {f C:Addr} {fd:FuncData} {ps:List Str} {sp:Sp} {dvs:List V} {ds:List Value} {E:XK} {x m:Str} {p pos apos:Pos} {e o:Expr} {es:List Expr} {ta:TE} {t:TA}
theorem run_fn {pins:List (Addr × Obj)} {σ:St} {H:Hp} {s:Shared} {Q:VK} {us:List Value} {vs:List V} (F:FnOk X.prog X.w X.K X.mg X.base CX k f fd ps sp) (hr:Room k X.A) (hb:Binds X.K fd ps ds) (hd:Vals dvs ds) (hx:Passes CX X E)
  (I:Inv X pins σ H s) (r:Vals vs us) (h:sp (vs ++ dvs) H Q E):wpAny (model X.prog X.w) X.A (call (.ref f) us) (EP X pins σ Q) X.xe s:=by
 have r2:Vals (vs ++ dvs) (us ++ ds):=r.append hd
 have hl:(us ++ ds).length = ps.length:=by rw [← r2.length]; exact F.len _ _ _ _ h
 refine wpAny_call (codeAny_mono (F.run X.A X.stack s H ⟨us,[]⟩ (us ++ ds) (vs ++ dvs) Q E hr I.env0 (hb s us I.kIn hl) r2 h) fun r s' hq=>?_)
 cases r with
 | error e=>exact hx pins σ H s e s' I hq
 | ok fl =>
  cases fl with
  | ret u=>exact I.after hq
  | next=>exact False.elim hq
  | brk=>exact False.elim hq
  | cont=>exact False.elim hq
theorem pe_call (F:FnOk X.prog X.w X.K X.mg X.base CX k f fd ps sp) (hr:Room k X.A) (hg:Gl X x) (hm:X.mg x = some (.ref f)) (hk:PySem.W.keepIn X.K (.ref f) = true) (hb:Binds X.K fd ps ds) (hd:Vals dvs ds) (hx:Passes CX X E)
  (ha:PA X (e :: es) t) (hdb:(x == ("__debug__":Str)) = false:=by decide) (he:starEach (e :: es) X.env = (false,eval e X.env) :: starEach es X.env:=by rfl) (hpl:(backTo pos (starEach es X.env)).any (·.1) = false:=by rfl) :
  PE X (.Call (.Name x p) (e :: es) [] pos) (tCall sp dvs E t):=by
 intro pins s σ H Q I h
 refine wpAny_Call_Name_kw (ld_glob I hg hm ?_ hdb)
 refine PySem.W.callWith_K (h₀:=X.base) I.ok.mod.kin hk (thn (ha pos pins s σ H _ I h) fun us s1 ⟨vs,H1,I1,r,q⟩=>⟨I1.kIn,?_⟩) he hpl
 exact run_fn F hr hb hd hx I1 r q
theorem pe_call0 (F:FnOk X.prog X.w X.K X.mg X.base CX k f fd ps sp) (hr:Room k X.A) (hg:Gl X x) (hm:X.mg x = some (.ref f)) (hk:PySem.W.keepIn X.K (.ref f) = true) (hb:Binds X.K fd ps ds) (hd:Vals dvs ds) (hx:Passes CX X E)
  (hdb:(x == ("__debug__":Str)) = false:=by decide):PE X (.Call (.Name x p) [] [] pos) (tCall sp dvs E tNil):=by
 intro pins s σ H Q I h
 refine wpAny_Call_Name_kw (ld_glob I hg hm ?_ hdb)
 exact PySem.W.callWith_K0 I.kIn hk (run_fn (us:=[]) F hr hb hd hx I .nil h)
structure Mk (K:PySem.W.Frag) (C f:Addr):Prop where
 makes:PySem.W.makesIn K C = true
 init:PySem.W.findIn K (.ref C) "__init__" = some (some (.ref f))
 fn:PySem.W.isFn K (.ref f) = true
 kp:PySem.W.keepIn K (.ref C) = true
theorem run_make {pins:List (Addr × Obj)} {σ:St} {H:Hp} {s:Shared} {Q:VK} {us:List Value} {vs:List V} (M:Mk X.K C f) (F:FnOk X.prog X.w X.K X.mg X.base CX k f fd ps sp) (hr:Room (k + 1) X.A) (hb:Binds X.K fd ps ds) (hd:Vals dvs ds)
  (hx:Passes CX X E) (I:Inv X pins σ H s) (r:Vals vs us)
  (h:∀ x dx,H x = none→H dx = none→dx ≠ x→sp (.ref x :: (vs ++ dvs)) (upd (upd H dx (.own x)) x (.ins C dx [])) (fun v H2=>v = .non∧Q (.ref x) H2) E) :
  wpAny (model X.prog X.w) X.A (call (.ref C) us) (EP X pins σ Q) X.xe s:=by
 have hq:=h (s.heap.objs.size + 1) s.heap.objs.size (I.hok.fresh (Nat.le_succ _)) (I.hok.fresh (Nat.le_refl _)) (Nat.ne_of_lt (Nat.lt_succ_self _))
 have I2:=Inv.made (C:=C) I
 have r2:Vals (V.ref (s.heap.objs.size + 1) :: (vs ++ dvs)) (Value.ref (s.heap.objs.size + 1) :: (us ++ ds)):=.cons rfl (r.append hd)
 have hl:(Value.ref (s.heap.objs.size + 1) :: us ++ ds).length = ps.length:=by
  have e:=r2.length
  rw [F.len _ _ _ _ hq] at e
  exact e.symm
 refine wpAny_call (make_map (f:=f) I.kIn M.makes M.init (beq_iff_eq.mp M.fn) (codeAny_mono (F.run _ X.stack _ _ ⟨Value.ref (s.heap.objs.size + 1) :: us,[]⟩ (Value.ref (s.heap.objs.size + 1) :: (us ++ ds)) _ _ E (hr.make C us [])
  (I2.env0.make C us []) (hb _ (Value.ref (s.heap.objs.size + 1) :: us) I2.kIn hl) r2 hq) fun r s' hq'=>?_))
 cases r with
 | error e=>exact hx pins σ _ _ e s' I2 hq'
 | ok fl =>
  cases fl with
  | ret u =>
   obtain ⟨v,H',I3,rv,ev,q3⟩:=I2.after hq'
   subst ev
   exact ⟨rv,⟨V.ref (s.heap.objs.size + 1),H',I3,rfl,q3⟩⟩
  | next=>exact False.elim hq'
  | brk=>exact False.elim hq'
  | cont=>exact False.elim hq'
theorem pe_make (M:Mk X.K C f) (F:FnOk X.prog X.w X.K X.mg X.base CX k f fd ps sp) (hr:Room (k + 1) X.A) (hg:Gl X x) (hm:X.mg x = some (.ref C)) (hb:Binds X.K fd ps ds) (hd:Vals dvs ds) (hx:Passes CX X E)
  (ha:PA X (e :: es) t) (hdb:(x == ("__debug__":Str)) = false:=by decide) (he:starEach (e :: es) X.env = (false,eval e X.env) :: starEach es X.env:=by rfl) (hpl:(backTo pos (starEach es X.env)).any (·.1) = false:=by rfl) :
  PE X (.Call (.Name x p) (e :: es) [] pos) (tMake C sp dvs E t):=by
 intro pins s σ H Q I h
 refine wpAny_Call_Name_kw (ld_glob I hg hm ?_ hdb)
 refine PySem.W.callWith_K (h₀:=X.base) I.ok.mod.kin M.kp (thn (ha pos pins s σ H _ I h) fun us s1 ⟨vs,H1,I1,r,q⟩=>⟨I1.kIn,?_⟩) he hpl
 exact run_make M F hr hb hd hx I1 r q
end
section
variable {X:Cx} {CX:CXT} {k:Nat} {f C:Addr} {fd:FuncData} {ps ks:List Str} {sp:Sp} {E:XK} {x m:Str} {p pos apos kpos:Pos} {e o:Expr} {es:List Expr} {kws:List Keyword} {te ta:TE} {t tk:TA} {nm:Option Str}
variable {g:List Value→List Value→List Value} {gV:List V→List V→List V}
end
structure FnScope (N P:List Str) (sc:Scope):Prop where
 kind:sc.kind = .function
 co:sc.isCoroutine = false
 gen:sc.isGenerator = false
 nd:N.Nodup
 pre:N.take P.length = P
 par:∀ x ∈ P,sc.names.lookup x = some .local∨sc.names.lookup x = some .cell
 nofree:∀ y ∈ sc.names,y.2 ≠ .free
theorem bindL_out {kindOf:Str→Option NameKind} {x:Str}:∀ {binds:List (Str × Value)} {m:Str→Option Value},(∀ v,(x,v) ∉ binds)→bindL kindOf binds m x = m x
 | [],_,_=>rfl
 | (n,v) :: r,m,h=>by
  unfold bindL
  rw [bindL_out fun w hw=>h w (List.mem_cons_of_mem _ hw)]
  split
  ·have:x ≠ n:=by rintro rfl; exact h v List.mem_cons_self
   simp [this]
  ·rfl
theorem bindC_out {kindOf:Str→Option NameKind} {x:Str}:∀ {binds:List (Str × Value)} {m:Str→Option Value},(∀ v,(x,v) ∉ binds)→bindC kindOf binds m x = m x
 | [],_,_=>rfl
 | (n,v) :: r,m,h=>by
  unfold bindC
  rw [bindC_out fun w hw=>h w (List.mem_cons_of_mem _ hw)]
  split
  ·rfl
  ·have:x ≠ n:=by rintro rfl; exact h v List.mem_cons_self
   simp [this]
theorem bindL_get {kindOf:Str→Option NameKind} {x:Str} {v:Value}:∀ {P:List Str} {vs:List Value} {i:Nat} {m:Str→Option Value},P.Nodup→P[i]? = some x→vs[i]? = some v→kindOf x = some .local →
  bindL kindOf (P.zip vs) m x = some v
 | [],_,_,_,_,h,_,_=>by simp at h
 | _ :: _,[],_,_,_,_,h,_=>by simp at h
 | p :: P,w :: vs,0,m,nd,h1,h2,hk=>by
  simp at h1 h2; subst h1; subst h2
  show bindL kindOf ((p,w) :: P.zip vs) m p = _
  unfold bindL
  rw [bindL_out fun v hv=>(List.nodup_cons.mp nd).1 (List.of_mem_zip hv).1,if_pos hk]
  simp
 | p :: P,w :: vs,i + 1,m,nd,h1,h2,hk=>by
  show bindL kindOf ((p,w) :: P.zip vs) m x = _
  unfold bindL
  exact bindL_get (i:=i) (List.nodup_cons.mp nd).2 (by simpa using h1) (by simpa using h2) hk
theorem bindC_get {kindOf:Str→Option NameKind} {x:Str} {v:Value}:∀ {P:List Str} {vs:List Value} {i:Nat} {m:Str→Option Value},P.Nodup→P[i]? = some x→vs[i]? = some v→kindOf x ≠ some .local →
  bindC kindOf (P.zip vs) m x = some v
 | [],_,_,_,_,h,_,_=>by simp at h
 | _ :: _,[],_,_,_,_,h,_=>by simp at h
 | p :: P,w :: vs,0,m,nd,h1,h2,hk=>by
  simp at h1 h2; subst h1; subst h2
  show bindC kindOf ((p,w) :: P.zip vs) m p = _
  unfold bindC
  rw [bindC_out fun v hv=>(List.nodup_cons.mp nd).1 (List.of_mem_zip hv).1,if_neg hk]
  simp
 | p :: P,w :: vs,i + 1,m,nd,h1,h2,hk=>by
  show bindC kindOf ((p,w) :: P.zip vs) m x = _
  unfold bindC
  exact bindC_get (i:=i) (List.nodup_cons.mp nd).2 (by simpa using h1) (by simpa using h2) hk
def start (N:List Str) (vs:List V):St:=vs.map some ++ List.replicate (N.length - vs.length) none
def cxOf (CX:CXT) (P:Program) (w:World) (K:PySem.W.Frag) (mg:Str→Option Value) (base:Heap) (N:List Str) (qual:Str) (scope:Scope) (f:Addr) (cd:Value) (A:Around) (outer:List Env) (s:Shared) (H:Hp) (E:XK):Cx where
 prog:=P
 w:=w
 K:=K
 mg:=mg
 base:=base
 A:=A.deeper (envOfC qual scope s.heap.objs.size f cd)
 N:=N
 s₀:=s
 H₀:=H
 env:=envOfC qual scope s.heap.objs.size f cd
 outer:=outer
 stack:=envOfC qual scope s.heap.objs.size f cd :: outer
 ex:=[]
 calm:=true
 fn:=fun _=>true
 pn:=[]
 xe:=fun e s'=>wpAny (model P w) (A.deeper (envOfC qual scope s.heap.objs.size f cd)) (leaving (envOfC qual scope s.heap.objs.size f cd) e) (fun _ s''=>CX outer H s E e s'') (fun e' s''=>CX outer H s E e' s'') s'
theorem cell_has {sc:Scope} {n:Nat} {x:Str} (h:sc.names.lookup x = some .cell):∃ c,(cellsFrom n sc.names []).lookup x = some c:=by
 have q:=PySem.W.cellsFrom_some sc.names n [] (.inl h)
 exact Option.isSome_iff_exists.mp q
theorem inv_start {CX:CXT} {P:Program} {w:World} {K:PySem.W.Frag} {mg:Str→Option Value} {base:Heap} {N ps:List Str} {qual:Str} {scope:Scope} {f:Addr} {cd:Value} {A:Around} {outer:List Env} {s s1:Shared} {H:Hp} {E:XK} {us:List Value} {vs:List V}
  (S:FnScope N ps scope) (hd:A.handled = none) (e0:Env0 P w K mg base A outer s H) (hl:vs.length = ps.length) (r:Vals vs us)
  (x:InCallC s s.heap.objs.size (bindL (envOfC qual scope s.heap.objs.size f cd).kindOf (ps.zip us) fun _=>none) (cellsFrom (s.heap.objs.size + 1) scope.names []) (bindC (envOfC qual scope s.heap.objs.size f cd).kindOf (ps.zip us) fun _=>none) s1) :
  Inv (cxOf CX P w K mg base N qual scope f cd A outer s H E) [] (start N vs) H s1:=by
 have hpl:ps.length≤N.length:=by have:=congrArg List.length S.pre; rw [List.length_take] at this; omega
 obtain ⟨h1,tk,rfl,hk⟩:=x.done
 have noA:∀ b:Addr,b ∉ (cxOf CX P w K mg base N qual scope f cd A outer s H E).ex:=fun b z=>absurd (show b ∈ ([]:List Addr) from z) (by simp)
 refine ⟨⟨e0.mod,S.kind,rfl,rfl,Nat.le_refl _,fun y z c h1 h2=>?_,fun y hy=>?_,fun y c _ h=>?_,fun _=>hd,Around.frames_deeper e0.frames,.inr ⟨rfl,rfl⟩,fun b z=>absurd z (noA b),e0.bs,e0.bsz,fun b _ _=>noA b,fun b z=>absurd z (noA b),e0.funs,e0.frf⟩,
  rfl,e0.bare,Un.kept hk,⟨_,x.toInCall.ns,fun i y v h1 h2 h3=>?_⟩,fun y c h=>⟨_,x.cell y c h⟩,e0.hok.fresh (Nat.le_refl _),fun y c h=>?_,fun p hp=>absurd (show p ∈ ([]:List (Addr × Obj)) from hp) (by simp),e0.hok.kept hk,?_⟩
 ·exact name_of_addr x.apart (PySem.mem_of_lookup h1) (PySem.mem_of_lookup h2)
 ·have hy:scope.names.lookup y = some .cell∨scope.names.lookup y = some .free:=hy
  rcases hy with hy | hy
  ·exact cell_has hy
  ·exact absurd rfl (S.nofree _ (PySem.mem_of_lookup hy))
 ·exact Nat.le_of_lt (x.above y c (PySem.mem_of_lookup h))
 ·have hi:i < vs.length:=by
   unfold start at h2
   by_cases hi:i < vs.length
   ·exact hi
   ·rw [List.getElem?_append_right (by simpa using hi)] at h2
    rw [List.getElem?_replicate] at h2
    split at h2 <;> cases h2
  have ha:vs[i]? = some v:=by
   unfold start at h2
   rw [List.getElem?_append_left (by simpa using hi),List.getElem?_map] at h2
   cases e:vs[i]? with
   | none=>rw [e] at h2; cases h2
   | some a=>rw [e] at h2; cases h2; rfl
  obtain ⟨u,hu,rv⟩:=r.get ha
  have hp:ps[i]? = some y:=by
   rw [← S.pre,List.getElem?_take_of_lt (by omega)]; exact h1
  have ndP:ps.Nodup:=by rw [← S.pre]; exact S.nd.sublist (List.take_sublist _ _)
  refine ⟨u,rv,?_⟩
  rcases S.par y (List.mem_of_getElem? hp) with k | k
  ·exact .inl ⟨k,bindL_get ndP hp hu k⟩
  ·obtain ⟨c,e⟩:=cell_has (n:=s.heap.objs.size + 1) k
   refine .inr ⟨.inl k,c,e,?_⟩
   have q:=x.cell y c e
   rw [bindC_get ndP hp hu (by show scope.names.lookup y ≠ _; rw [k]; decide)] at q
   exact q
 ·exact e0.hok.fresh (Nat.le_of_lt (x.above y c (PySem.mem_of_lookup h)))
 ·unfold start
  show _ = N.length
  rw [List.length_append,List.length_map,List.length_replicate]
  omega
theorem fn_of {CX:CXT} {P:Program} {w:World} {K:PySem.W.Frag} {mg:Str→Option Value} {base:Heap} {k:Nat} {f:Addr} {name qual:Str} {params:Arguments} {body:List Stmt} {scope:Scope} {dV kV doc pm cdv ct oc:Value} {an od:Option Addr}
  {osl:Array (Option Value)} {N ps:List Str} {sp:Sp} (lk:K.lookup f = some ⟨oc,od,.func (PySem.W.fnOf name qual params body scope dV kV doc pm an cdv ct),osl⟩) (hcd:PySem.W.codeIn K cdv qual = true) (S:FnScope N ps scope)
  (len:∀ vs H Q E,sp vs H Q E→vs.length = ps.length)
  (hbody:∀ (A:Around) (outer:List Env) (s:Shared) (H:Hp) (vs:List V) (Q:VK) (E:XK),Room k (A.deeper (envOfC qual scope s.heap.objs.size f cdv))→sp vs H Q E →
   ∃ t,PSs (cxOf CX P w K mg base N qual scope f cdv A outer s H E) body t∧t { nx:=fun _ H'=>Q .non H',rt:=Q } (start N vs) H) :
  FnOk P w K mg base CX (k + 1) f (PySem.W.fnOf name qual params body scope dV kV doc pm an cdv ct) ps sp:=by
 refine ⟨len,fun A outer s H args us vs Q E hr e0 hb r hsp=>?_⟩
 have hl:=len _ _ _ _ hsp
 have KX:K.In s.heap:=e0.mod.kin.keeps fun b o e=>(e0.bs b o e).1
 have lim:s.heap.NoLimit:=e0.mod.nolimit.keeps fun b o e=>(e0.bs b o e).1
 have hkind:∀ y ∈ ps.zip us,scope.names.lookup y.1 = some .local∨(scope.names.lookup y.1 = some .cell∧((cellsFrom (s.heap.objs.size + 1) scope.names []).lookup y.1).isSome = true):=fun ⟨n,v⟩ hy=>by
  rcases S.par n (List.of_mem_zip hy).1 with q | q
  ·exact .inl q
  ·exact .inr ⟨q,PySem.W.cellsFrom_some _ _ _ (.inl q)⟩
 refine codeAny_call_function hr.depth (KX _ _ lk) rfl S.co S.gen rfl (PySem.W.codeRec_of KX hcd) (hb _ _ _ _ ?_)
 refine wpAny_newFunctionEnv_cells S.kind hkind fun env he s1 x=>?_
 subst he
 refine ⟨lim.keeps x.toInCall.keep,codeAny_func ?_⟩
 obtain ⟨t,ht,hq⟩:=hbody A outer s H vs Q E (hr.deeper _) hsp
 have I:Inv (cxOf CX P w K mg base N qual scope f cdv A outer s H E) [] (start N vs) H s1:=inv_start S hr.hd e0 hl r x
 refine wpAny_mono (ht [] s1 (start N vs) H _ I hq) (fun fl s' hs=>?_) fun e s' hs=>hs
 have fin:∀ {σ':St} {H':Hp} {v:V} {u:Value},Inv (cxOf CX P w K mg base N qual scope f cdv A outer s H E) [] σ' H' s'→RelV v u→Q v H'→CE outer P w H s Q u s' :=
  fun {σ' H' v u} J rv q=>⟨v,H',J.os,J.bare,J.base,J.hok,rv,q⟩
 cases fl with
 | ret u =>
  obtain ⟨v,σ',H',J,rv,q⟩:=hs
  exact fin J rv q
 | next =>
  obtain ⟨σ',H',J,q⟩:=hs
  exact fin (v:=V.non) (u:=Value.none) J rfl q
 | brk =>
  obtain ⟨_,_,_,q⟩:=hs
  exact False.elim q
 | cont =>
  obtain ⟨_,_,_,q⟩:=hs
  exact False.elim q
end L2
namespace L2
open PySem PySem.Spec PyProof.Rows
section
variable {X:Cx} {x:Str} {p pos:Pos} {e:Expr} {es:List Expr} {t:TA} {id T:String} {r:List V→Hp→VK→Prop}
def tCB (r:List V→Hp→VK→Prop) (t:TA):TE:=fun σ H Q=>t σ H fun vs H1=>r vs H1 Q
theorem pe_callB (hc:CallR X (.builtin id) r) (hg:Gl X x) (hm:X.mg x = none) (hv:bootBuiltins x = some (.builtin id)) (ha:PA X (e :: es) t) (hn:x ≠ "__name__":=by decide) (hdb:(x == ("__debug__":Str)) = false:=by decide)
  (he:starEach (e :: es) X.env = (false,eval e X.env) :: starEach es X.env:=by rfl) (hpl:(backTo pos (starEach es X.env)).any (·.1) = false:=by rfl):PE X (.Call (.Name x p) (e :: es) [] pos) (tCB r t):=by
 intro pins s σ H Q I h
 refine wpAny_Call_Name_kw (ld_blt I hg hm hv ?_ hn hdb)
 exact PyProof.Rows.callWith_builtin1 (thn (ha pos pins s σ H _ I h) fun us s1 ⟨vs,H1,I1,r1,q1⟩=>hc pins s1 σ H1 vs us Q I1 r1 q1) he hpl
theorem pe_callTy (hc:CallR X (.type T) r) (hg:Gl X x) (hm:X.mg x = none) (hv:bootBuiltins x = some (.type T)) (ha:PA X (e :: es) t) (hn:x ≠ "__name__":=by decide) (hdb:(x == ("__debug__":Str)) = false:=by decide)
  (he:starEach (e :: es) X.env = (false,eval e X.env) :: starEach es X.env:=by rfl) (hpl:(backTo pos (starEach es X.env)).any (·.1) = false:=by rfl):PE X (.Call (.Name x p) (e :: es) [] pos) (tCB r t):=by
 intro pins s σ H Q I h
 refine wpAny_Call_Name_kw (ld_blt I hg hm hv ?_ hn hdb)
 exact PyProof.Rows.callWith_type1 (thn (ha pos pins s σ H _ I h) fun us s1 ⟨vs,H1,I1,r1,q1⟩=>hc pins s1 σ H1 vs us Q I1 r1 q1) he hpl
end
end L2
namespace HT
open PySem PyProof.Rows
section
open PySem.SeqAt
open PySem.AutoSeq1 (wpAny_loadPart')
open PySem.MeetsSeq PySem.MeetsSeq2 PySem.MeetsSeq3
end
section
variable {prog:Program} {w:World} {A:Around} {E:Value→Shared→Prop} {s:Shared}
def sIx (n d:Nat):Option Int→Nat
 | none=>d
 | some v=>if v < 0 then (v + (n:Int)).toNat else min v.toNat n
theorem sIx_none (n d:Nat):sIx n d none = d:=rfl
theorem sIx_nat (n d k:Nat):sIx n d (some (k:Int)) = min k n:=by
 show (if (k:Int) < 0 then ((k:Int) + (n:Int)).toNat else min (k:Int).toNat n) = min k n
 rw [if_neg (by omega),Int.toNat_natCast]
end
end HT
namespace L2
open PySem PySem.Spec PyProof.Rows
abbrev TO:=St→Hp→(Option Int→Hp→Prop)→Prop
def PO (X:Cx) (e:Option Expr) (t:TO):Prop :=
 ∀ (pins:List (Addr × Obj)) (s:Shared) (σ:St) (H:Hp) (Q:Option Int→Hp→Prop),Inv X pins σ H s→t σ H Q →
  wpAny (model X.prog X.w) X.A (evalPart e X.env) (fun u s'=>∃ o H',Inv X pins σ H' s'∧IsPart u o∧Q o H') X.xe s
def tNoPart:TO:=fun _ H Q=>Q none H
def tPart (t:TE):TO:=fun σ H Q=>t σ H fun x H1=>∃ i,x = .int i∧Q (some i) H1
section
variable {X:Cx} {e:Expr} {te:TE} {lo hi:Option Expr} {tl th:TO} {pos p2:Pos}
theorem po_none:PO X none tNoPart:=by
 intro pins s σ H Q I h
 rw [evalPart_none]
 exact wpAny_pure ⟨none,H,I,.none,h⟩
theorem po_some (h:PE X e te):PO X (some e) (tPart te):=by
 intro pins s σ H Q I hw
 rw [evalPart_some]
 refine thn (h pins s σ H _ I hw) fun u s1 ⟨x,H1,I1,r1,q1⟩=>?_
 obtain ⟨i,rfl,q⟩:=q1
 obtain ⟨t,rfl⟩:=r1
 exact ⟨some i,H1,I1,.int i t,q⟩
def SlR (X:Cx) (r:V→Option Int→Option Int→Hp→VK→Prop):Prop :=
 ∀ (pins:List (Addr × Obj)) (s:Shared) (σ:St) (H:Hp) (x:V) (v vl vu:Value) (lo hi:Option Int) (sl:Addr) (Q:VK),Inv X pins σ H s→RelV x v→s.heap.IsSliceOf sl vl vu .none→IsPart vl lo→IsPart vu hi→r x lo hi H Q →
  ∃ T id,typeLookup (.type T) "__getitem__" = pure (some (.builtin id))∧s.TypeIs v T∧wpAny (model X.prog X.w) X.A (getItem v (.ref sl)) (EP X pins σ Q) X.xe s
def tSl (r:V→Option Int→Option Int→Hp→VK→Prop) (te:TE) (tl th:TO):TE:=fun σ H Q=>te σ H fun x H1=>tl σ H1 fun l H2=>th σ H2 fun u H3=>r x l u H3 Q
theorem pe_slice {r:V→Option Int→Option Int→Hp→VK→Prop} (hr:SlR X r) (he:PE X e te) (hl:PO X lo tl) (hu:PO X hi th):PE X (.Subscript e (.Slice lo hi none p2) pos) (tSl r te tl th):=by
 intro pins s σ H Q I h
 refine Subscript_ (thn (he pins s σ H _ I h) fun v s1 ⟨x,H1,I1,r1,q1⟩=>?_)
 refine wpAny_Slice (thn (hl pins s1 σ H1 _ I1 q1) fun vl s2 ⟨l,H2,I2,pl,q2⟩=>thn (hu pins s2 σ H2 _ I2 q2) fun vu s3 ⟨u,H3,I3,pu,q3⟩=>?_)
 rw [evalPart_none]
 refine wpAny_pure ?_
 have I4:Inv X pins σ H3 { s3 with heap:=s3.heap.push { cls:=.type "slice",data:=.fields #[vl,vu,.none] } }:=I3.kept (t':=s3.toks) fun b ob q=>Heap.get?_push_of_some _ q
 obtain ⟨T,id,hT,ht,hg⟩:=hr pins { s3 with heap:=s3.heap.push { cls:=.type "slice",data:=.fields #[vl,vu,.none] } } σ H3 x v vl vu l u s3.heap.objs.size Q I4 r1 (Heap.IsSliceOf.new ..) pl pu q3
 show wpAny (model X.prog X.w) X.A (subscriptTail e (.Slice lo hi none p2) v (.ref s3.heap.objs.size)) (EP X pins σ Q) X.xe { s3 with heap:=s3.heap.push { cls:=.type "slice",data:=.fields #[vl,vu,.none] } }
 exact tail_any (ops:=[.ref s3.heap.objs.size,v]) ht hT hg (by with_unfolding_all rfl)
def cutV (xs:List V) (lo hi:Option Int):List V:=(xs.drop (HT.sIx xs.length 0 lo)).take (HT.sIx xs.length xs.length hi - HT.sIx xs.length 0 lo)
theorem cutV_length (xs:List V) (lo hi:Option Int):(cutV xs lo hi).length≤xs.length:=by
 unfold cutV
 rw [List.length_take,List.length_drop]
 omega
end
end L2
namespace L2
open PySem PySem.Spec PyProof.Rows
def ixN (n:Nat) (i:Int):Option Nat:=if 0≤i then (if i < n then some i.toNat else none) else if -(n:Int)≤i then some (i + n).toNat else none
def atI {α:Type} (xs:List α) (i:Int):Option α:=(ixN xs.length i).bind fun j=>xs[j]?
theorem ixN_seq {n:Nat} {i:Int} {j:Nat} (h:ixN n i = some j):seqIndex? i n = some j∧j < n∧-(n:Int)≤i∧i < n:=by
 unfold ixN at h
 by_cases h0:0≤i
 ·rw [if_pos h0] at h
  by_cases h1:i < n
  ·rw [if_pos h1] at h
   have e:i.toNat = j:=Option.some.inj h
   exact ⟨by rw [seqIndex_of h0 h1,e],by omega,by omega,h1⟩
  ·rw [if_neg h1] at h; cases h
 ·rw [if_neg h0] at h
  by_cases h1:-(n:Int)≤i
  ·rw [if_pos h1] at h
   have e:(i + n).toNat = j:=Option.some.inj h
   exact ⟨by rw [seqIndex_neg (by omega) h1,e],by omega,h1,by omega⟩
  ·rw [if_neg h1] at h; cases h
theorem atI_get {α:Type} {xs:List α} {i:Int} {v:α} (h:atI xs i = some v):∃ j,seqIndex? i xs.length = some j∧xs[j]? = some v∧j < xs.length∧-(xs.length:Int)≤i∧i < xs.length:=by
 unfold atI at h
 cases e:ixN xs.length i with
 | none=>rw [e] at h; cases h
 | some j =>
  rw [e] at h
  obtain ⟨h1,h2,h3,h4⟩:=ixN_seq e
  exact ⟨j,h1,h,h2,h3,h4⟩
theorem atI_nat {α:Type} {xs:List α} {j:Nat} {v:α} (h:xs[j]? = some v):atI xs (j:Int) = some v:=by
 have hj:j < xs.length:=(List.getElem?_eq_some_iff.mp h).1
 have e:ixN xs.length (j:Int) = some j:=by
  unfold ixN
  rw [if_pos (by omega),if_pos (by omega)]; simp
 unfold atI; rw [e]; exact h
def PlainIx (b:Expr):Prop:=∀ o i,subscripted b false o i = operate [o,i] (getItem o i)
def IxR (X:Cx) (r:R2):Prop :=
 ∀ (value slice:Expr) (pins:List (Addr × Obj)) (s:Shared) (σ:St) (H:Hp) (x y:V) (v u:Value) (Q:VK),Inv X pins σ H s→RelV x v→RelV y u→r x y H Q →
  subscripted slice false v u = operate [v,u] (getItem v u)→wpAny (model X.prog X.w) X.A (subscriptTail value slice v u) (EP X pins σ Q) X.xe s
def MtR (X:Cx) (id:String) (r:V→List V→Hp→VK→Prop):Prop :=
 ∀ (pins:List (Addr × Obj)) (s:Shared) (σ:St) (H:Hp) (x:V) (xs:List V) (v:Value) (us:List Value) (Q:VK),Inv X pins σ H s→RelV x v→Vals xs us→r x xs H Q →
  wpAny (model X.prog X.w) X.A (call (.builtin id) (v :: us)) (EP X pins σ Q) X.xe s
section
variable {X:Cx} {a b:Expr} {ta tb:TE} {pos:Pos}
theorem pe_ix {r:R2} (hr:IxR X r) (ha:PE X a ta) (hb:PE X b tb) (hs:PlainIx b):PE X (.Subscript a b pos) (tOp r ta tb):=by
 intro pins s σ H Q I h
 exact Subscript_ (binT ha hb I h fun v u s2 x y H2 I2 rx ry q=>hr a b pins s2 σ H2 x y v u Q I2 rx ry q (hs _ _))
def rIxL (K:PySem.W.Frag):R2:=fun x y H Q=>∃ p xs i v,x = .ref p∧y = .int i∧SqL K H p xs∧atI xs i = some v∧Q v H
def rIxT (K:PySem.W.Frag):R2:=fun x y H Q=>∃ p xs i v,x = .ref p∧y = .int i∧SqT K H p xs∧atI xs i = some v∧Q v H
def rIxS:R2:=fun x y H Q=>∃ z i c,x = .str z∧y = .int i∧z.length≤sizeLine∧atI z.cps.toList i = some c∧Q (.str ⟨#[c]⟩) H
theorem ix_list:IxR X (rIxL X.K):=by
 intro value slice pins s σ H x y v u Q I rx ry h hs
 obtain ⟨p,xs,i,z,rfl,rfl,hq,he,q⟩:=h
 cases rx
 obtain ⟨t,rfl⟩:=ry
 obtain ⟨its,r,pl,hz⟩:=I.list hq
 obtain ⟨j,h1,h2,h3,h4,h5⟩:=atI_get he
 obtain ⟨w,ew,rw'⟩:=r.get h2
 have hl:=r.length
 have hn:=line63
 have fin:EP X pins σ Q w s:=⟨z,H,I,rw',q⟩
 by_cases h0:0≤i
 ·have hj:i.toNat = j:=by
   rw [seqIndex_of h0 h5] at h1
   exact Option.some.inj h1
  exact item_listR pl.isList h0 (by omega) (by rw [hj]; simpa using ew) fin hs
 ·have hj:(i + (its.toArray.size:Int)).toNat = j:=by
   rw [seqIndex_neg (by omega) h4] at h1
   rw [List.size_toArray,← hl]
   exact Option.some.inj h1
  exact subscriptTail_builtinR (x:=w) pl.isList.typeIs slot_list_getitem.lookup
   (wpAny_getItem_list_neg (Q:=fun r s'=>r = w∧EP X pins σ Q r s') pl.isList (by omega) (by rw [List.size_toArray] <;> omega) (by omega) (by rw [hj]; simpa using ew) ⟨rfl,fin⟩) hs
theorem ix_tup:IxR X (rIxT X.K):=by
 intro value slice pins s σ H x y v u Q I rx ry h hs
 obtain ⟨p,xs,i,z,rfl,rfl,hq,he,q⟩:=h
 cases rx
 obtain ⟨t,rfl⟩:=ry
 obtain ⟨its,r,pl,hz⟩:=I.tuple hq
 obtain ⟨j,h1,h2,h3,h4,h5⟩:=atI_get he
 obtain ⟨w,ew,rw'⟩:=r.get h2
 have hl:=r.length
 have hn:=line63
 have fin:EP X pins σ Q w s:=⟨z,H,I,rw',q⟩
 exact subscriptTail_builtinR (x:=w) pl.typeIs slot_tuple_getitem.lookup
  (getItem_tuple (j:=j) (Q:=fun r s'=>r = w∧EP X pins σ Q r s') pl (by omega) (by omega) (by rw [List.size_toArray,← hl]; exact h1) (by simpa using ew) ⟨rfl,fin⟩) hs
theorem ix_str:IxR X rIxS:=by
 intro value slice pins s σ H x y v u Q I rx ry h hs
 obtain ⟨z,i,c,rfl,rfl,hz,he,q⟩:=h
 obtain ⟨t,rfl⟩:=rx
 obtain ⟨t',rfl⟩:=ry
 obtain ⟨j,h1,h2,h3,h4,h5⟩:=atI_get he
 have hl:z.cps.toList.length = z.length:=by simp [Str.length]
 rw [hl] at h1 h4 h5
 have hn:=line63
 exact tail_any (typeIs_str s z t) slot_str_getitem.lookup (getItem_str (c:=c) (by
  have e1:decide (i < -(2 ^ 63:Int)) = false:=decide_eq_false (by omega)
  have e2:decide (i ≥ 2 ^ 63) = false:=decide_eq_false (by omega)
  rw [e1,e2,Bool.or_false]) (by rw [h1]; simpa using h2) ⟨.str ⟨#[c]⟩,H,I.tok _,⟨_,rfl⟩,q⟩) hs
theorem mapSeq_set (its:List Value) (n j:Nat) (u:Value):Obj.mapSeq (·.setIfInBounds j u) { cls:=.type "list",data:=.seq its.toArray n } = { cls:=.type "list",data:=.seq (its.set j u).toArray n }:=by
 simp [Obj.mapSeq]
theorem Inv.lst {pins:List (Addr × Obj)} {σ:St} {H:Hp} {s:Shared} {p:Addr} {xs:List V} (I:Inv X pins σ H s) (h:H p = some (.lst xs)) :
  ∃ (its:List Value) (n:Nat),Vals xs its∧s.heap.get? p = some { cls:=.type "list",data:=.seq its.toArray n }∧xs.length≤sizeLine:=by
 obtain ⟨z,its,n,r,e⟩:=I.hok p _ h
 exact ⟨its,n,r,e,z⟩
theorem Inv.lstUpd {pins:List (Addr × Obj)} {σ:St} {H:Hp} {s:Shared} {p:Addr} {xs ys:List V} {its its':List Value} {n n':Nat} {f:Obj→Obj} (I:Inv X pins σ H s) (h:H p = some (.lst xs))
  (ho:s.heap.get? p = some { cls:=.type "list",data:=.seq its.toArray n }) (hf:f { cls:=.type "list",data:=.seq its.toArray n } = { cls:=.type "list",data:=.seq its'.toArray n' }) (r:Vals ys its') (hz:ys.length≤sizeLine) (t:Nat) :
  Inv X pins σ (upd H p (.lst ys)) { s with heap:=s.heap.update p f,toks:=t }:=by
 have e:(s.heap.update p f).get? p = some { cls:=.type "list",data:=.seq its'.toArray n' }:=by
  rw [Heap.get?_update_self f ho (by rw [hf] <;> rfl),hf]
 refine I.write (x:=p) (e:=p) (by rw [h]; trivial) (.inl rfl) (fun b u hb q=>(Heap.get?_update_other _ _ (Ne.symm hb)).trans q) ⟨_,e⟩ ?_
 exact ⟨hz,its',n',r,e⟩
def rSetL:V→V→V→Hp→(Hp→Prop)→Prop:=fun o i v H Q=>∃ p xs k j,o = .ref p∧i = .int k∧H p = some (.lst xs)∧ixN xs.length k = some j∧Q (upd H p (.lst (xs.set j v)))
theorem set_list:PSet X rSetL:=by
 intro pins s σ H o i v ov iv u Q I ro ri rv h
 obtain ⟨p,xs,k,j,rfl,rfl,hp,hj,q⟩:=h
 cases ro
 obtain ⟨t,rfl⟩:=ri
 obtain ⟨its,n,r,ho,hz⟩:=I.lst hp
 obtain ⟨h1,h2,h3,h4⟩:=ixN_seq hj
 have hl:=r.length
 have hn:=line63
 have I':Inv X pins σ (upd H p (.lst (xs.set j v))) { s with heap:=s.heap.update p (Obj.mapSeq (·.setIfInBounds j u)) } :=
  I.lstUpd hp ho (mapSeq_set its n j u) (r.set rv j) (by rw [List.length_set]; exact hz) s.toks
 by_cases h0:0≤k
 ·have hk:k.toNat = j:=by
   rw [seqIndex_of h0 h4] at h1
   exact Option.some.inj h1
  exact PySem.W.ki_setAt ho h0 (by omega) (by rw [List.size_toArray,← hl]; exact h4) (by rw [hk]; exact ⟨_,I',q⟩)
 ·have hk:(k + (its.toArray.size:Int)).toNat = j:=by
   rw [seqIndex_neg (by omega) h3] at h1
   rw [List.size_toArray,← hl]
   exact Option.some.inj h1
  exact PySem.W.ki_setBack ho (by omega) (by rw [List.size_toArray,← hl]; exact h3) (by omega) (by rw [hk]; exact ⟨_,I',q⟩)
theorem slice_bounds (lo hi:Option Int) (n:Nat):(sliceBounds lo hi none n).1 = ((HT.sIx n 0 lo:Nat):Int)∧(sliceBounds lo hi none n).2.1 = ((HT.sIx n n hi:Nat):Int)∧(sliceBounds lo hi none n).2.2 = 1:=by
 refine ⟨?_,?_,rfl⟩
 ·cases lo with
  | none=>simp [sliceBounds,HT.sIx]
  | some i =>
   simp only [sliceBounds,HT.sIx,Option.getD_none,show (1:Int) > 0 by decide,if_true]
   by_cases h:i < 0
   ·simp only [h,if_true] <;> omega
   ·simp only [h,if_false] <;> omega
 ·cases hi with
  | none=>simp [sliceBounds,HT.sIx]
  | some i =>
   simp only [sliceBounds,HT.sIx,Option.getD_none,show (1:Int) > 0 by decide,if_true]
   by_cases h:i < 0
   ·simp only [h,if_true] <;> omega
   ·simp only [h,if_false] <;> omega
theorem slicePick_cut (its:List Value) (lo hi:Option Int):slicePick its.toArray lo hi none = ((its.drop (HT.sIx its.length 0 lo)).take (HT.sIx its.length its.length hi - HT.sIx its.length 0 lo)).toArray:=by
 obtain ⟨h1,h2,h3⟩:=slice_bounds lo hi its.toArray.size
 unfold slicePick
 rw [h1,h2,h3]
 simp only [sliceRange_one,pick_run,List.size_toArray] <;> rfl
def rSlL (K:PySem.W.Frag):V→Option Int→Option Int→Hp→VK→Prop:=fun x lo hi H Q=>∃ a xs,x = .ref a∧SqL K H a xs∧∀ p,H p = none→Q (.ref p) (upd H p (.lst (cutV xs lo hi)))
theorem sl_list:SlR X (rSlL X.K):=by
 intro pins s σ H x v vl vu lo hi sl Q I rx hs pl pu h
 obtain ⟨a,xs,rfl,hx,q⟩:=h
 cases rx
 obtain ⟨its,r,ht,hz⟩:=I.list hx
 have hlen:=r.length
 refine ⟨"list",_,slot_list_getitem.lookup,ht.isList.typeIs,?_⟩
 refine wpAny_getItem_list_slice ht.isList hs pl pu .none (by simp) ?_ (by rw [List.size_toArray] <;> omega)
 rw [slicePick_cut,← hlen]
 refine ⟨.ref s.heap.objs.size,_,I.laid (t':=s.toks) (o:=.lst (cutV xs lo hi)) (fun b ob q=>Heap.get?_push_of_some _ q) (Nat.le_refl _) ?_,rfl,q _ (I.hok.fresh (Nat.le_refl _))⟩
 exact ⟨Nat.le_trans (cutV_length xs lo hi) hz,_,0,(r.drop (HT.sIx xs.length 0 lo)).take (HT.sIx xs.length xs.length hi - HT.sIx xs.length 0 lo),Heap.get?_push_size _ rfl⟩
def flatV:V→Bool
 | .non=>true
 | .bl _=>true
 | .int _=>true
 | .str _=>true
 | _=>false
def eqV:V→V→Bool
 | .non,.non=>true
 | .bl a,.bl b=>a == b
 | .bl a,.int b=>(if a then 1 else 0) == b
 | .int a,.bl b=>a == (if b then 1 else 0)
 | .int a,.int b=>a == b
 | .str a,.str b=>a == b
 | _,_=>false
theorem eqAt_V {A:Around} {s:Shared} {y x:V} {u v:Value} (ry:RelV y u) (rx:RelV x v) (fy:flatV y = true) (fx:flatV x = true):SeqAt.EqAt A s u v (eqV y x):=by
 cases y with
 | non =>
  cases ry
  cases x with
  | non=>cases rx; exact SeqAt.EqAt.same _
  | bl b=>cases rx; exact SeqAt.EqAt.none_bool b
  | int b=>obtain ⟨t,rfl⟩:=rx; exact SeqAt.EqAt.none_int b t
  | str b=>obtain ⟨t,rfl⟩:=rx; exact SeqAt.EqAt.none_str b t
  | _=>exact absurd (show false = true from fx) Bool.false_ne_true
 | bl a =>
  cases ry
  cases x with
  | non=>cases rx; exact SeqAt.EqAt.bool_none a
  | bl b=>cases rx; exact SeqAt.EqAt.bool_bool a b
  | int b=>obtain ⟨t,rfl⟩:=rx; exact SeqAt.EqAt.bool_int a b t
  | str b=>obtain ⟨t,rfl⟩:=rx; exact SeqAt.EqAt.bool_str a b t
  | _=>exact absurd (show false = true from fx) Bool.false_ne_true
 | int a =>
  obtain ⟨t',rfl⟩:=ry
  cases x with
  | non=>cases rx; exact SeqAt.EqAt.int_none a t'
  | bl b=>cases rx; exact SeqAt.EqAt.int_bool a t' b
  | int b=>obtain ⟨t,rfl⟩:=rx; exact SeqAt.EqAt.int_int a t' b t
  | str b=>obtain ⟨t,rfl⟩:=rx; exact SeqAt.EqAt.int_str a t' b t
  | _=>exact absurd (show false = true from fx) Bool.false_ne_true
 | str a =>
  obtain ⟨t',rfl⟩:=ry
  cases x with
  | non=>cases rx; exact SeqAt.EqAt.str_none a t'
  | bl b=>cases rx; exact SeqAt.EqAt.str_bool a t' b
  | int b=>obtain ⟨t,rfl⟩:=rx; exact SeqAt.EqAt.str_int a t' b t
  | str b=>obtain ⟨t,rfl⟩:=rx; exact SeqAt.EqAt.str_str a t' b t
  | _=>exact absurd (show false = true from fx) Bool.false_ne_true
 | _=>exact absurd (show false = true from fy) Bool.false_ne_true
def eqU (x:V) (u:Value):Bool:=match u with
 | .none=>eqV .non x
 | .bool b=>eqV (.bl b) x
 | .int i _=>eqV (.int i) x
 | .str z _=>eqV (.str z) x
 | _=>false
theorem eqU_of {x y:V} {u:Value} (r:RelV y u) (f:flatV y = true):eqU x u = eqV y x:=by
 cases y with
 | non=>cases r; rfl
 | bl b=>cases r; rfl
 | int i=>obtain ⟨t,rfl⟩:=r; rfl
 | str z=>obtain ⟨t,rfl⟩:=r; rfl
 | _=>exact absurd (show false = true from f) Bool.false_ne_true
theorem any_eqU {x:V}:∀ {xs:List V} {us:List Value},Vals xs us→xs.all flatV = true→us.any (eqU x) = xs.any fun y=>eqV y x
 | _,_,.nil,_=>rfl
 | y :: xs,u :: us,.cons r t,f=>by
  rw [List.all_cons,Bool.and_eq_true] at f
  rw [List.any_cons,List.any_cons,eqU_of r f.1,any_eqU t f.2]
theorem mem_eqAt {A:Around} {s:Shared} {x:V} {v:Value} (rx:RelV x v) (fx:flatV x = true):∀ {xs:List V} {us:List Value},Vals xs us→xs.all flatV = true→∀ u ∈ us,SeqAt.EqAt A s u v (eqU x u)
 | _,_,.nil,_=>fun u hu=>by cases hu
 | y :: xs,u :: us,.cons r t,f=>fun u' hu=>by
  rw [List.all_cons,Bool.and_eq_true] at f
  rcases List.mem_cons.mp hu with rfl | hu
  ·rw [eqU_of r f.1]; exact eqAt_V r rx f.1 fx
  ·exact mem_eqAt rx fx t f.2 u' hu
def inV (x:V) (xs:List V):Bool:=xs.any fun y=>eqV y x
def rIn (K:PySem.W.Frag) (neg:Bool):R2:=fun x y H Q=>∃ p xs,y = .ref p∧(SqL K H p xs∨SqT K H p xs)∧flatV x = true∧xs.all flatV = true∧Q (.bl (if neg then !inV x xs else inV x xs)) H
theorem op_in_seq:OpR X (compareOp .In) (rIn X.K false):=by
 intro pins s σ H x y v u Q I rx ry h
 obtain ⟨p,xs,rfl,hq,fx,fs,q⟩:=h
 cases ry
 rcases hq with hq | hq
 ·obtain ⟨its,r,pl,hz⟩:=I.list hq
  refine SeqAt.in_listAt (eqU x) pl.isList (fun w hw=>mem_eqAt rx fx r fs w (by simpa using hw)) ⟨.bl _,H,I,rfl,?_⟩
  rw [show its.toArray.any (eqU x) = its.any (eqU x) by simp,any_eqU r fs]
  exact q
 ·obtain ⟨its,r,pl,hz⟩:=I.tuple hq
  refine SeqAt.in_tupleAt (eqU x) pl (fun w hw=>mem_eqAt rx fx r fs w (by simpa using hw)) ⟨.bl _,H,I,rfl,?_⟩
  rw [show its.toArray.any (eqU x) = its.any (eqU x) by simp,any_eqU r fs]
  exact q
theorem op_notIn_str:OpR X (compareOp .NotIn) (fun x y H Q=>∃ i j,x = .str i∧y = .str j∧Q (.bl (!(!(Builtin.Str.occurrences j i 0 j.length 1).isEmpty))) H):=by
 intro pins s σ H x y v u Q I rx ry h
 obtain ⟨i,j,rfl,rfl,q⟩:=h
 obtain ⟨t,rfl⟩:=rx
 obtain ⟨t',rfl⟩:=ry
 exact notIn_str ⟨.bl _,H,I,rfl,q⟩
theorem call_len_seq:CallR X (.builtin "len") (fun xs H Q=>∃ p ys,xs = [.ref p]∧(SqL X.K H p ys∨SqT X.K H p ys)∧Q (.int ys.length) H):=by
 intro pins s σ H xs us Q I r h
 obtain ⟨p,ys,rfl,hq,q⟩:=h
 obtain ⟨u,rfl,rx⟩:=vals1 r
 cases rx
 have hn:=line63
 rcases hq with hq | hq
 ·obtain ⟨its,r',pl,hz⟩:=I.list hq
  have hlen:=r'.length
  exact Calls.call_len_list pl.isList (by simp only [List.size_toArray] <;> omega) ⟨.int ys.length,H,I.tok _,⟨s.toks + 1,by rw [List.size_toArray,hlen]⟩,q⟩
 ·obtain ⟨its,r',pl,hz⟩:=I.tuple hq
  have hlen:=r'.length
  exact len_tuple pl (by simp only [List.size_toArray] <;> omega) ⟨.int ys.length,H,I.tok _,⟨s.toks + 1,by rw [List.size_toArray,hlen]⟩,q⟩
theorem call_len_str:CallR X (.builtin "len") (fun xs H Q=>∃ z,xs = [.str z]∧z.length≤sizeLine∧Q (.int z.length) H):=by
 intro pins s σ H xs us Q I r h
 obtain ⟨z,rfl,hz,q⟩:=h
 obtain ⟨u,rfl,t,rfl⟩:=vals1 r
 have hn:=line63
 exact len_str (by omega) ⟨.int z.length,H,I.tok _,⟨_,rfl⟩,q⟩
theorem call_list_of:CallR X (.type "list") (fun xs H Q=>∃ p ys,xs = [.ref p]∧(SqL X.K H p ys∨SqT X.K H p ys)∧∀ l,H l = none→Q (.ref l) (upd H l (.lst ys))):=by
 intro pins s σ H xs us Q I r h
 obtain ⟨p,ys,rfl,hq,q⟩:=h
 obtain ⟨u,rfl,rx⟩:=vals1 r
 cases rx
 have fin:∀ (its:List Value),Vals ys its→ys.length≤sizeLine→∀ (h':Heap) (c':Nat),(∀ b o',s.heap.get? b = some o'→h'.get? b = some o') →
   h'.get? s.heap.objs.size = some { cls:=.type "list",dict:=none,data:=.seq its.toArray c',slots:=#[] }→EP X pins σ Q (.ref s.heap.objs.size) { s with heap:=h' }:=fun its r' hz h' c' kp e =>
  ⟨.ref s.heap.objs.size,_,I.laid (t':=s.toks) kp (Nat.le_refl _) (show ObjOk X.prog X.w _ h' _ (.lst ys) from ⟨hz,its,c',r',e⟩),rfl,q _ (I.hok.fresh (Nat.le_refl _))⟩
 rcases hq with hq | hq
 ·obtain ⟨its,r',pl,hz⟩:=I.list hq
  have hlen:=r'.length
  obtain ⟨o,ho,hc,n,hd⟩:=pl.isList
  exact call_list_seq p (.inl rfl) ho hc hd (fun h' c' kp e=>fin its r' hz h' c' kp e) (by simp only [List.size_toArray] <;> omega)
 ·obtain ⟨its,r',pl,hz⟩:=I.tuple hq
  have hlen:=r'.length
  obtain ⟨o,ho,hc,n,hd⟩:=pl
  exact call_list_seq p (.inr rfl) ho hc hd (fun h' c' kp e=>fin its r' hz h' c' kp e) (by simp only [List.size_toArray] <;> omega)
def tyV (K:PySem.W.Frag) (T:String) (x:V) (H:Hp):Prop:=match x with
 | .str _=>T = "str"
 | .int _=>T = "int"
 | .ref p=>(T = "list"∧∃ xs,SqL K H p xs)∨(T = "tuple"∧∃ o,K.lookup p = some o∧o.cls = .type "tuple"∧o.dict = none) ∨
   (T = "dict"∧((∃ kvs,H p = some (.dK kvs))∨∃ kvs,H p = some (.dT kvs)))∨(T = "set"∧∃ S n,H p = some (.set S n))
 | _=>False
theorem tyV_is {pins:List (Addr × Obj)} {σ:St} {H:Hp} {s:Shared} {T:String} {x:V} {v:Value} (I:Inv X pins σ H s) (r:RelV x v) (ty:tyV X.K T x H) :
  s.TypeIs v T∧∀ a,v = .ref a→∃ ob,s.heap.get? a = some ob∧ob.dict = none:=by
 cases x with
 | str z =>
  obtain ⟨t,rfl⟩:=r
  cases (show T = "str" from ty)
  exact ⟨typeIs_str s z t,fun _ e=>nomatch e⟩
 | int i =>
  obtain ⟨t,rfl⟩:=r
  cases (show T = "int" from ty)
  exact ⟨typeIs_int s i t,fun _ e=>nomatch e⟩
 | ref p =>
  cases r
  rcases ty with ⟨rfl,xs,hq⟩ | ⟨rfl,o,hk,hc,hd⟩ | ⟨rfl,hk⟩ | ⟨rfl,S,n,hk⟩
  ·obtain ⟨its,_,pl,_⟩:=I.list hq
   refine ⟨pl.isList.typeIs,fun a e=>?_⟩
   cases e
   obtain ⟨o,n,e,c,hd,_⟩:=pl
   exact ⟨o,e,hd⟩
  ·refine ⟨⟨o,I.kIn p o hk,hc⟩,fun a e=>?_⟩
   cases e
   exact ⟨o,I.kIn _ o hk,hd⟩
  ·have z:∃ o,s.heap.get? p = some o∧o.ExactDict:=by
    rcases hk with ⟨kvs,hk⟩ | ⟨kvs,hk⟩
    ·obtain ⟨_,_,_,_,o,_,_,e,ex,_⟩:=I.hok p _ hk
     exact ⟨o,e,ex⟩
    ·obtain ⟨_,_,_,_,o,_,_,e,ex,_⟩:=I.hok p _ hk
     exact ⟨o,e,ex⟩
   obtain ⟨o,e,ex⟩:=z
   refine ⟨⟨o,e,ex.1⟩,fun a e2=>?_⟩
   cases e2
   exact ⟨o,e,ex.2.1⟩
  ·obtain ⟨o,_,_,_,e,ex,_⟩:=I.hok p _ hk
   refine ⟨⟨o,e,ex.1⟩,fun a e2=>?_⟩
   cases e2
   exact ⟨o,e,ex.2.1⟩
 | _=>exact False.elim ty
def tBM0 (K:PySem.W.Frag) (T:String) (r:V→List V→Hp→VK→Prop) (to:TE):TE:=fun σ H Q=>to σ H fun x H1=>tyV K T x H1∧r x [] H1 Q
def tBM (K:PySem.W.Frag) (T:String) (r:V→List V→Hp→VK→Prop) (to:TE) (t:TA):TE:=fun σ H Q=>to σ H fun x H1=>tyV K T x H1∧t σ H1 fun xs H2=>r x xs H2 Q
variable {o e:Expr} {es:List Expr} {to:TE} {t:TA} {name:Str} {apos cpos:Pos} {T id:String} {r:V→List V→Hp→VK→Prop}
theorem pe_bm0 (pa:PlainAttrs T) (slot:Slot T name id) (hty:typeOf (.builtin id) = pure (.type "method_descriptor")) (hm:MtR X id r) (ho:PE X o to)
  (hbase:attributeBase o name X.env (eval o X.env) = eval o X.env:=by rfl) (hline:(apos.endLine == cpos.line) = true:=by rfl):PE X (.Call (.Attribute o name apos) [] [] cpos) (tBM0 X.K T r to):=by
 intro pins s σ H Q I h
 refine wpAny_Call_method0_late hbase hline (thn (ho pins s σ H _ I h) fun v s1 ⟨x,H1,I1,r1,ty,q1⟩=>?_)
 obtain ⟨h1,h2⟩:=tyV_is I1 r1 ty
 exact ⟨T,id,pa,slot,hty,h1,h2,Calls.callWith_builtin rfl (PySem.evalArgs_none (hm pins s1 σ H1 x [] v [] Q I1 r1 .nil q1))⟩
theorem pe_bm (pa:PlainAttrs T) (slot:Slot T name id) (hty:typeOf (.builtin id) = pure (.type "method_descriptor")) (hm:MtR X id r) (ho:PE X o to) (ha:PA X (e :: es) t)
  (hbase:attributeBase o name X.env (eval o X.env) = eval o X.env:=by rfl)
  (hfew:((backTo cpos (starEach (e :: es) X.env)).all (fun x=>!x.1) && (backToKw cpos (keywordEach [] X.env)).all (fun x=>x.1.isSome)
   && decide ((e :: es).length + ([]:List Keyword).length + (if ([]:List Keyword).isEmpty then 0 else 1) < 30)) = true:=by rfl)
  (hline:(apos.endLine == cpos.line) = true:=by rfl) (hs:starEach (e :: es) X.env = (false,eval e X.env) :: starEach es X.env:=by rfl) (hplain:(backTo cpos (starEach es X.env)).any (·.1) = false:=by rfl) :
  PE X (.Call (.Attribute o name apos) (e :: es) [] cpos) (tBM X.K T r to t):=by
 intro pins s σ H Q I h
 refine wpAny_Call_method_late hbase hfew hline rfl (thn (ho pins s σ H _ I h) fun v s1 ⟨x,H1,I1,r1,ty,q1⟩=>?_)
 obtain ⟨h1,h2⟩:=tyV_is I1 r1 ty
 refine ⟨T,id,pa,slot,hty,h1,h2,?_⟩
 have hA:=ha cpos pins s1 σ H1 _ I1 q1
 rw [hs] at hA ⊢
 refine Calls.callWith_builtin (by show (false || (backTo cpos (starEach es X.env)).any (·.1)) = false; rw [hplain] <;> rfl) (Calls.evalArgs_plain ?_)
 exact thn hA fun us s2 ⟨vs,H2,I2,r2,q2⟩=>hm pins s2 σ H2 x vs v us Q I2 r1 r2 q2
/- xs.append(e),list.index on a module's tuple .. are MtR facts of 06m -/
end
end L2
namespace L2
open PySem PySem.Spec PyProof.Rows
def MtM (X:Cx) (id:String) (r:V→List V→Hp→VK→Prop):Prop :=
 ∀ (pins:List (Addr × Obj)) (s:Shared) (σ:St) (H:Hp) (x:V) (xs:List V) (v:Value) (us:List Value) (Q:VK),Inv X pins σ H s→RelV x v→Vals xs us→r x xs H Q →
  wpAny (model X.prog X.w) X.A (call (.builtin id) (v :: us)) (EP X pins σ Q) X.xe s
theorem Vals.one:∀ {x:V} {us:List Value},Vals [x] us→∃ u,us = [u]∧RelV x u
 | _,_,.cons r .nil=>⟨_,rfl,r⟩
section
variable {X:Cx} {pins:List (Addr × Obj)} {σ:St} {H:Hp} {s:Shared} {l b:Addr} {xs ys zs:List V}
theorem Inv.lset {its its':List Value} {n:Nat} {f:Array Value→Array Value} {t':Nat} (I:Inv X pins σ H s) (hH:H l = some (.lst xs))
  (e:s.heap.get? l = some { cls:=.type "list",data:=.seq its.toArray n }) (hf:f its.toArray = its'.toArray) (hv:Vals ys its') (hz:ys.length≤sizeLine) :
  Inv X pins σ (upd H l (.lst ys)) { s with heap:=s.heap.update l (Obj.mapSeq f),toks:=t' }:=by
 have q:=PySem.IsL.update e f
 rw [hf] at q
 refine I.write (x:=l) (e:=l) (by rw [hH]; exact trivial) (.inl rfl) (fun b' u hb hu=>(Heap.get?_update_other s.heap (Obj.mapSeq f) (Ne.symm hb)).trans hu) ⟨_,q⟩ ?_
 exact ⟨hz,its',_,hv,q⟩
theorem Inv.lnew {its:List Value} {t':Nat} (I:Inv X pins σ H s) (hv:Vals ys its) (hz:ys.length≤sizeLine) :
  Inv X pins σ (upd H s.heap.objs.size (.lst ys)) { s with heap:=s.heap.push { cls:=.type "list",data:=.seq its.toArray },toks:=t' } :=
 I.laid (fun _ _ q=>Heap.get?_push_of_some _ q) (Nat.le_refl _) ⟨hz,its,0,hv,Heap.get?_push_size _ rfl⟩
theorem Inv.fresh (I:Inv X pins σ H s):H s.heap.objs.size = none:=I.hok.fresh (Nat.le_refl _)
theorem Inv.lstM (I:Inv X pins σ H s) (hH:H l = some (.lst xs)):xs.length≤sizeLine∧∃ (its:List Value) (n:Nat),Vals xs its∧xs.length = its.length∧s.heap.get? l = some { cls:=.type "list",data:=.seq its.toArray n }:=by
 obtain ⟨z,its,n,r,e⟩:=I.hok l _ hH
 exact ⟨z,its,n,r,r.length,e⟩
end
section
variable {X:Cx}
def rAppend:V→List V→Hp→VK→Prop:=fun x vs H Q=>∃ l xs y,x = .ref l∧vs = [y]∧H l = some (.lst xs)∧xs.length < sizeLine∧Q .non (upd H l (.lst (xs ++ [y])))
theorem mt_append:MtM X "list.append" rAppend:=by
 intro pins s σ H x vs v us Q I rx rv h
 obtain ⟨l,xs,y,rfl,rfl,hH,hz,q⟩:=h
 cases rx
 obtain ⟨u,rfl,ru⟩:=rv.one
 obtain ⟨z,its,n,r,hl,e⟩:=I.lstM hH
 refine call_meets F.slot_list_append ⟨_,e,rfl⟩ F.entry_list_append (F.args_list_append_2 _ _) (PySem.list_append l its.toArray n u (by rw [List.size_toArray]; omega)) ⟨e,?_⟩
 refine ⟨.non,_,I.lset (its':=its ++ [u]) hH e (by simp) (r.append (.cons ru .nil)) ?_,rfl,q⟩
 rw [List.length_append,List.length_singleton]
 omega
end
section
variable {prog:Program} {w:World} {A:Around} {E:Value→Shared→Prop} {s:Shared}
set_option maxRecDepth 100000 in
end
section
variable {X:Cx}
end
end L2
namespace Att
open PySem PySem.W PySem.Calls PyProof.Rows
theorem ints_of_wellAll {P:Params} {h:Heap}:∀ (ns:List Int) (vs:List Value),WellAll P h vs (ns.map WData.int)→IntsAre vs ns:=by
 intro ns
 induction ns with
 | nil =>
  intro vs w
  rw [List.map_nil] at w
  cases w
  exact .nil
 | cons n ns ih =>
  intro vs w
  rw [List.map_cons] at w
  cases w with
  | cons a b =>
   cases a
   exact .cons _ _ (ih _ b)
theorem script_of {l:OpenLaw} {n:Nat} (hn:l.most = some n) {P:Params} {h:Heap} {args:List WData} {vals:List Value}
  (hpre:l.row.toRowW.claim.pre args = true) (hwl:WellAll P h vals args) :
  ∃ a vs ns,vals = [Value.ref a]∧args = [WData.list (ns.map WData.int)]∧h.get? a = some { cls:=.type "list",data:=.seq vs.toArray }∧IntsAre vs ns∧ns.length≤n:=by
 have hsh:WShape.hasAll [] args [.list .int] = true:=(pre_splitW hpre).1
 have hc:l.pre.holds [] { args:=args } = true:=(pre_splitW hpre).2
 obtain ⟨d,r,rfl,h1,h2⟩:=hasAllW_cons hsh
 obtain rfl:=hasAllW_nil h2
 obtain ⟨xs,rfl,h3⟩:=hasW_list h1
 obtain ⟨ns,rfl⟩:=items_int h3
 have hlen:ns.length≤n:=by
  unfold OpenLaw.pre at hc
  have h4:(WTm.not (.lt (.lit (.int (n:Int))) (.len (.arg 0)))).holds [] { args:=[.list (ns.map .int)] } = true:=by
   have h4:=(holds_andW hc).1
   rw [hn] at h4
   exact h4
  have h5:=condW_of h4 (w_not (w_lt w_lit (w_len_list (w_arg rfl))))
  rw [List.length_map] at h5
  refine Nat.le_of_not_lt fun q=>?_
  have q':(n:Int) < ((ns.length:Nat):Int):=by omega
  first
   | (rw [decide_eq_true q'] at h5; exact absurd h5 (by decide))
   | (simp at h5; omega)
 cases hwl with
 | cons w1 w2 =>
  cases w2
  cases w1 with
  | list ho hall=>exact ⟨_,_,ns,rfl,rfl,ho,ints_of_wellAll ns _ hall,hlen⟩
theorem post_true (l:OpenLaw) (args:List WData):l.row.toRowW.claim.post args (.bool true) args = true :=
 postW_of (r:=l.row.toRowW) (X:=(true == true))
  (show WShape.has [] (.bool true) .bool = true by first | rfl | decide | simp [WShape.has,WShape.arms,WShape.armsAll])
  (show (WTm.eq .res (.lit (.bool true))).value [] { args:=args,res:=some (.bool true),after:=args } = some (.bool (true == true)) from w_eq_bool (w_res rfl) w_lit) rfl
theorem attach_call {l:OpenLaw} {n:Nat} {q:Program} {loose:List Str} {XP:(Str→Option Value)→Heap→Prop} {YP:World→Heap→Prop} {d:DefRec}
  (hn:l.most = some n) (hdf:d.params.defaults = [])
  (call:∀ (w:World) (s₀ s₁:Shared) (mg mb:Str→Option Value) (fa:Addr) (o:Obj) (pm cd doc:Value) (a:Addr) (vs:List Value) (ns:List Int),
   Ground q loose [] XP w s₀ mg mb s₁.heap→YP w s₁.heap →
   s₁.heap.get? fa = some o→o.data = .func (docDef d.name d.params d.body d.scope pm cd doc)→s₁.heap.CodeRec cd d.name→mg d.name = some (.ref fa) →
   s₁.heap.get? a = some { cls:=.type "list",data:=.seq vs.toArray }→IntsAre vs ns→ns.length≤n→s₁.gens = #[] →
   codeAny (model l.prog w) callerA (.call (.ref fa) ⟨[.ref a],[]⟩) (fun r s'=>r = .ok (.ret (.bool true))∧OldK s₁.heap s'.heap∧s'.os = s₁.os∧AllBare s'.gens) s₁) :
  WalkO q loose XP YP l.row.toRowW d [] (fun f vs=>PySem.call f vs):=by
 intro w s₀ s₁ mg mb G Y fa o pm cd doc dV kV ho hd hcd hD hmg hg args vals as hpre hlay hrd hwl hlo
 obtain rfl:dV = .none:=Dflts.none hD hdf
 obtain rfl:kV = .none:=Dflts.noKw hD
 obtain ⟨a,vs,ns,rfl,rfl,hobj,hints,hlen⟩:=script_of hn hpre hwl
 refine enter_call (codeAny_mono (call w s₀ s₁ mg mb fa o pm cd doc a vs ns G Y ho (fd_plain hd) hcd hmg hobj hints hlen hg) fun r s' hq=>?_)
 obtain ⟨rfl,h2,h3,h4⟩:=hq
 exact ⟨.inl ⟨.bool true,.bool true,[],rfl,fun _=>rfl,.bool true,post_true l _,fun _=>⟨List.Pairwise.nil,fun _ hm=>(nomatch hm)⟩⟩,h2,h3,h4⟩
section
variable {prog:Program} {w:World} {A:Around} {E:Value→Shared→Prop} {s:Shared} {K:Frag}
end
end Att
namespace L2
open PySem PySem.Spec PyProof.Rows
theorem vals_ints:∀ {vs:List Value} {ns:List Int},IntsAre vs ns→Vals (ns.map V.int) vs
 | _,_,.nil=>.nil
 | _,_,.cons n t h=>.cons ⟨t,rfl⟩ (vals_ints h)
def Only (H:Hp):Prop:=∀ b,H b = none∨∃ o xs,H b = some (.frz o (.lst xs))
theorem law_call {P:Program} {w:World} {K:PySem.W.Frag} {mg mb:Str→Option Value} {CX:CXT} {k:Nat} {fa a:Addr} {fd:FuncData} {x:Str} {sp:Sp} {s₁:Shared} {vs:List Value} {ns:List Int}
  (KX:K.In s₁.heap) (hns:s₁.heap.Ns mainGlobals mg) (hb:s₁.heap.Ns builtinsNs mb) (hbb:∀ x:Str,x ≠ "__name__"→mb x = bootBuiltins x) (hlim:s₁.heap.NoLimit) (hg:s₁.gens = #[])
  (ha:s₁.heap.get? a = some { cls:=.type "list",data:=.seq vs.toArray }) (hi:IntsAre vs ns) (hl:ns.length≤sizeLine) (hr:Room k callerA)
  (F:∀ base:Heap,K.In base→base.Ns mainGlobals mg→FnOk P w K mg base CX k fa fd [x] sp) (hbind:∀ (s:Shared) (u:Value),BindsTo s fd ⟨[u],[]⟩ [(x,u)])
  (hsp:∀ H:Hp,Only H→SqL K H a (ns.map V.int)→sp [.ref a] H (fun v _=>v = .bl true) fun _ _ _=>False)
  (hCX:∀ H e s',CX [] H s₁ (fun _ _ _=>False) e s'→False) :
  codeAny (model P w) callerA (.call (.ref fa) ⟨[.ref a],[]⟩) (fun r s'=>r = .ok (.ret (.bool true))∧OldK s₁.heap s'.heap∧s'.os = s₁.os∧AllBare s'.gens) s₁:=by
 have rv:=vals_ints hi
 have lenV:=hi.length
 have core:∀ H:Hp,Only H→SqL K H a (ns.map V.int)→HOk P w H s₁.heap→(∀ b,H b ≠ none→b = a)→(H a ≠ none→K.lookup a = none) →
   codeAny (model P w) callerA (.call (.ref fa) ⟨[.ref a],[]⟩) (fun r s'=>r = .ok (.ret (.bool true))∧OldK s₁.heap s'.heap∧s'.os = s₁.os∧AllBare s'.gens) s₁:=by
  intro H hO hS hok hA hK
  have base_of:∀ {b:Addr} {o:Obj},s₁.heap.get? b = some o→H b = none→(hidT s₁.heap H).get? b = some o:=fun e n=>hidT_get e n
  have noA:∀ {b:Addr} {o:Obj} {es:Array DictEntry} {ep:Nat},s₁.heap.get? b = some o→o.data = .dict es ep→H b = none:=fun {b o es ep} e d=>by
   cases q:H b with
   | none=>rfl
   | some u =>
    have e':b = a:=hA b (by rw [q]; simp)
    subst e'
    rw [ha] at e; cases e
    have d':Data.seq vs.toArray _ = Data.dict es ep:=d
    cases d'
  have nsK:∀ {b:Addr} {m:Str→Option Value},s₁.heap.Ns b m→(hidT s₁.heap H).Ns b m:=fun {b m} ⟨o,es,ep,e,d,r⟩=>⟨o,es,ep,base_of e (noA e d),d,r⟩
  have hKb:K.In (hidT s₁.heap H):=fun b o e=>base_of (KX b o e) (by
   cases q:H b with
   | none=>rfl
   | some u =>
    have e':b = a:=hA b (by rw [q]; simp)
    subst e'
    rw [hK (by rw [q]; simp)] at e; cases e)
  have hM:Mod K mg (hidT s₁.heap H):=⟨hKb,nsK hns,⟨mb,nsK hb,hbb⟩,let ⟨mc,h1,h2⟩:=hlim; ⟨mc,nsK h1,h2⟩⟩
  have e0:Env0 P w K mg (hidT s₁.heap H) callerA [] s₁ H:=⟨rfl,hM,fun b o e=>of_hidT e,Nat.le_of_eq (hidT_size _ _),trivial,fun b hb=>absurd (show b ∈ ([]:List Addr) from hb) (by simp),hok,.of_eq hg⟩
  refine codeAny_mono ((F _ hKb (nsK hns)).run callerA [] s₁ H ⟨[.ref a],[]⟩ [.ref a] [.ref a] _ _ hr e0 (hbind s₁ (.ref a)) (.cons rfl .nil) (hsp H hO hS)) fun r s' h=>?_
  cases r with
  | error e=>exact (hCX H e s' h).elim
  | ok fl =>
   cases fl with
   | next=>exact False.elim h
   | brk=>exact False.elim h
   | cont=>exact False.elim h
   | ret u =>
    obtain ⟨v,H',os,bare,un,hok',r',q⟩:=h
    have q':v = .bl true:=q
    subst q'
    obtain rfl:u = Value.bool true:=r'
    refine ⟨rfl,OldK.of_keep fun b o e=>?_,os,bare⟩
    cases q:H b with
    | none=>exact un.keep b o e q (by intro z; exact absurd (show b ∈ ([]:List Addr) from z) (by simp)) (by simp)
    | some u =>
     rcases hO b with z | ⟨ob,xs,z⟩
     ·rw [q] at z; cases z
     ·have z2:=un.frzs b ob _ z
      obtain ⟨e1,_⟩:=hok b _ z
      obtain ⟨e2,_⟩:=hok' b _ z2
      rw [e] at e1; cases e1
      exact e2
 cases hk:K.lookup a with
 | some o =>
  have e:=KX a o hk
  rw [ha] at e
  cases e
  refine core (fun _=>none) (fun _=>.inl rfl) (.inr ⟨_,vs.toArray,_,hk,rfl,rfl,rfl,by rw [List.size_toArray,lenV]; exact hl,by simpa using rv⟩) (fun b u z=>by have z':(none:Option HO) = some u:=z; cases z') (fun b z=>absurd rfl z) fun z=>absurd rfl z
 | none =>
  refine core (fun b=>if b = a then some (.frz { cls:=.type "list",data:=.seq vs.toArray } (.lst (ns.map V.int))) else none) (fun b=>?_) (.inl (.inr ⟨{ cls:=.type "list",data:=.seq vs.toArray },if_pos rfl⟩)) (fun b u z=>?_) (fun b z=>?_) fun _=>hk
  ·by_cases hb:b = a
   ·exact .inr ⟨_,_,if_pos hb⟩
   ·exact .inl (if_neg hb)
  ·by_cases hb:b = a
   ·have z':=(if_pos hb).symm.trans z
    cases z'
    subst hb
    exact ⟨ha,by rw [List.length_map]; exact hl,vs,_,rv,ha⟩
   ·have z':=(if_neg hb).symm.trans z
    cases z'
  ·by_cases hb:b = a
   ·exact hb
   ·exact absurd (if_neg hb) z
end L2
namespace L2
open PySem PySem.Spec PyProof.Rows
theorem walk_of {l:PySem.W.OpenLaw} {n k:Nat} {q:Program} {loose:List Str} {XP:(Str→Option Value)→Heap→Prop} {YP:World→Heap→Prop} {d:DefRec} {K:Params→PySem.W.Frag} {CX:World→CXT} {sp:World→Sp} {x:Str}
  (hn:l.most = some n) (hn2:n≤sizeLine) (hdf:d.params.defaults = []) (hr:Room k callerA)
  (hY:∀ (w:World) (h:Heap),YP w h→(K w.params).In h)
  (F:∀ (w:World) (mg:Str→Option Value) (fa:Addr) (h:Heap),(K w.params).In h→h.Ns mainGlobals mg→mg d.name = some (.ref fa) →
   ∃ fd:FuncData,(∀ (s:Shared) (u:Value),BindsTo s fd ⟨[u],[]⟩ [(x,u)]) ∧
    ∀ base:Heap,(K w.params).In base→base.Ns mainGlobals mg→FnOk l.prog w (K w.params) mg base (CX w) k fa fd [x] (sp w))
  (hsp:∀ (w:World) (H:Hp) (a:Addr) (ns:List Int),ns.length≤n→Only H→SqL (K w.params) H a (ns.map V.int)→sp w [.ref a] H (fun v _=>v = .bl true) fun _ _ _=>False)
  (hCX:∀ (w:World) (H:Hp) (s:Shared) (e:Value) (s':Shared),CX w [] H s (fun _ _ _=>False) e s'→False) :
  PySem.W.WalkO q loose XP YP l.row.toRowW d [] (fun f vs=>PySem.call f vs):=by
 refine Att.attach_call hn hdf fun w s₀ s₁ mg mb fa o pm cd doc a vs ns G Y ho hd hcd hmg hobj hints hlen hg=>?_
 have KX:=hY w _ Y
 obtain ⟨fd,hb,hF⟩:=F w mg fa _ KX G.T.g hmg
 exact law_call KX G.T.g G.T.b G.T.builtins G.T.nolimit hg hobj hints (Nat.le_trans hlen hn2) hr hF hb (fun H hO hS=>hsp w H a ns hlen hO hS) fun H e s'=>hCX w H s₁ e s'
end L2
namespace L2
open PySem PySem.Spec PyProof.Rows
def inClass (s:Stmt) (j:Nat):Stmt:=match s with
 | .ClassDef _ _ _ body _ _ _ _ _ _ _=>body.getD j (.Pass ⟨0,0,0,0⟩)
 | _=>.Pass ⟨0,0,0,0⟩
def defArgs (s:Stmt):Arguments:=match s with
 | .FunctionDef _ a _ _ _ _ _ _ _ _=>a
 | _=>{ posonlyargs:=[],args:=[],vararg:=none,kwonlyargs:=[],kw_defaults:=[],kwarg:=none,defaults:=[] }
def defBody (s:Stmt):List Stmt:=match s with
 | .FunctionDef _ _ b _ _ _ _ _ _ _=>b
 | _=>[]
def defScope (s:Stmt):Scope:=match s with
 | .FunctionDef _ _ _ _ _ _ sc _ _ _=>sc
 | _=>{ kind:=.function,names:=[],isGenerator:=false,isCoroutine:=false }
abbrev CX0:CXT:=fun _ _ _ _ _ _=>False
abbrev E0:XK:=fun _ _ _=>False
theorem pass0 {X:Cx}:Passes CX0 X E0:=fun _ _ _ _ _ _ _ h=>h.elim
structure Fun (K:PySem.W.Frag) (x qual:Str) (st:Stmt) (f:Addr) (fd:FuncData):Prop where
 ex:∃ (oc:Value) (od:Option Addr) (kV doc pm:Value) (an:Option Addr) (cdv ct:Value) (osl:Array (Option Value)),
  fd = PySem.W.fnOf x qual (defArgs st) (defBody st) (defScope st) .none kV doc pm an cdv ct∧K.lookup f = some ⟨oc,od,.func fd,osl⟩∧PySem.W.codeIn K cdv qual = true
 kp:PySem.W.keepIn K (.ref f) = true
section
variable {P:Program} {w:World} {K:PySem.W.Frag} {mg:Str→Option Value} {base:Heap}
theorem Fun.ok {x qual:Str} {st:Stmt} {f:Addr} {fd:FuncData} {N ps:List Str} {k:Nat} {sp:Sp} (F:Fun K x qual st f fd) (S:FnScope N ps (defScope st)) (len:∀ vs H Q E,sp vs H Q E→vs.length = ps.length)
  (hbody:∀ (cdv:Value) (A:Around) (outer:List Env) (s:Shared) (H:Hp) (vs:List V) (Q:VK) (E:XK),Room k (A.deeper (envOfC qual (defScope st) s.heap.objs.size f cdv))→sp vs H Q E →
   ∃ t,PSs (cxOf CX0 P w K mg base N qual (defScope st) f cdv A outer s H E).nox (defBody st) t∧t { nx:=fun _ H'=>Q .non H',rt:=Q } (start N vs) H):FnOk P w K mg base CX0 (k + 1) f fd ps sp:=by
 obtain ⟨oc,od,kV,doc,pm,an,cdv,ct,osl,rfl,lk,hcd⟩:=F.ex
 refine fn_of lk hcd S len fun A outer s H vs Q E hr hsp=>?_
 obtain ⟨t,h,q⟩:=hbody cdv A outer s H vs Q E hr hsp
 exact ⟨t,h.nox,q⟩
theorem Fun.binds {x qual:Str} {st:Stmt} {f:Addr} {fd:FuncData} {ps:List Str} (F:Fun K x qual st f fd)
  (h:∀ (kV doc pm:Value) (an:Option Addr) (cdv ct:Value) (us:List Value),us.length = ps.length→bindArgs (PySem.W.fnOf x qual (defArgs st) (defBody st) (defScope st) .none kV doc pm an cdv ct) ⟨us,[]⟩ = pure (ps.zip us)):Binds K fd ps []:=by
 obtain ⟨oc,od,kV,doc,pm,an,cdv,ct,osl,rfl,lk,hcd⟩:=F.ex
 exact .all (h kV doc pm an cdv ct)
theorem fun_mk {x qual:Str} {st:Stmt} {f:Addr} {oc:Value} {od an:Option Addr} {osl:Array (Option Value)} {kV doc pm cdv ct:Value} (l:K.lookup f = some ⟨oc,od,.func (PySem.W.fnOf x qual (defArgs st) (defBody st) (defScope st) .none kV doc pm an cdv ct),osl⟩)
  (c:PySem.W.codeIn K cdv qual = true) (k:PySem.W.keepIn K (.ref f) = true):Fun K x qual st f (PySem.W.fnOf x qual (defArgs st) (defBody st) (defScope st) .none kV doc pm an cdv ct):=⟨⟨oc,od,kV,doc,pm,an,cdv,ct,osl,rfl,l,c⟩,k⟩
end
theorem hu_of {A:Around} {k:Nat} (hr:Room k A):A.units + 1 < cLine:=Nat.lt_of_le_of_lt (Nat.add_le_add_left (by decide:1≤64) _) hr.units
section
variable {X:Cx}
theorem pv (i:Nat) {x:Str} {pos:Pos} (hN:X.N[i]? = some x:=by rfl) (hv:Vis X.env.scope x:=by first | exact Or.inl rfl | exact Or.inr (Or.inl rfl) | exact Or.inr (Or.inr rfl)) (hd:(x == ("__debug__":Str)) = false:=by decide)
  (hcd:(x == ("__classdict__":Str)) = false:=by decide):PE X (.Name x pos) (tVar i):=pe_var hN hv hd hcd
end
theorem iteF {A B:Prop} (h:B):if false = true then A else B:=by
 rw [if_neg Bool.false_ne_true]
 exact h
theorem iteT {A B:Prop} (h:A):if true = true then A else B:=by
 rw [if_pos rfl]
 exact h
theorem iteNS {c A B:Prop} [Decidable c] (hc:c) (h:B):if (!decide c) = true then A else B:=by
 rw [decide_eq_true hc]
 exact iteF h
def Same (H H':Hp):Prop:=∀ b o,H b = some o→H' b = some o
theorem Same.refl (H:Hp):Same H H:=fun _ _ h=>h
theorem Same.trans {H H1 H2:Hp} (a:Same H H1) (b:Same H1 H2):Same H H2:=fun c o h=>b c o (a c o h)
theorem Same.seq {K:PySem.W.Frag} {H H':Hp} {a:Addr} {xs:List V} (e:Same H H') (h:SqL K H a xs):SqL K H' a xs:=by
 rcases h with (h | ⟨o,h⟩) | h
 ·exact .inl (.inl (e _ _ h))
 ·exact .inl (.inr ⟨o,e _ _ h⟩)
 ·exact .inr h
end L2
set_option maxHeartbeats 4000000
namespace Ow
open PySem PySem.Spec PyProof.Rows L2
structure Has (P:Program) (w:World) (K:PySem.W.Frag) (mg:Str→Option Value) (base:Heap) (k:Nat) (x:Str) (ps:List Str) (sp:Sp):Prop where
 ex:∃ (f:Addr) (fd:FuncData),FnOk P w K mg base CX0 k f fd ps sp∧Binds K fd ps []∧PySem.W.keepIn K (.ref f) = true∧mg x = some (.ref f)
section
variable {X:Cx} {k:Nat} {x:Str} {ps:List Str} {sp:Sp} {p pos:Pos} {e:Expr} {es:List Expr} {t:TA}
theorem pe_fn (h:Has X.prog X.w X.K X.mg X.base k x ps sp) (hr:Room k X.A) (hg:Gl X x) (ha:PA X (e :: es) t) (hdb:(x == ("__debug__":Str)) = false:=by decide)
  (he:starEach (e :: es) X.env = (false,eval e X.env) :: starEach es X.env:=by rfl) (hpl:(backTo pos (starEach es X.env)).any (·.1) = false:=by rfl) :
  PE X (.Call (.Name x p) (e :: es) [] pos) (tCall sp [] E0 t):=by
 obtain ⟨f,fd,F,b,kp,m⟩:=h.ex
 exact pe_call F hr hg m kp b .nil pass0 ha hdb he hpl
theorem pe_fn0 (h:Has X.prog X.w X.K X.mg X.base k x ps sp) (hr:Room k X.A) (hg:Gl X x) (hdb:(x == ("__debug__":Str)) = false:=by decide) :
  PE X (.Call (.Name x p) [] [] pos) (tCall sp [] E0 tNil):=by
 obtain ⟨f,fd,F,b,kp,m⟩:=h.ex
 exact pe_call0 F hr hg m kp b .nil pass0 hdb
theorem pe_ty {T:String} (hg:Gl X x) (hm:X.mg x = none) (hv:bootBuiltins x = some (.type T)) (hn:x ≠ "__name__":=by decide) (hd:(x == ("__debug__":Str)) = false:=by decide):PE X (.Name x pos) (tC (.ty T)):=pe_bltn (v:=.ty T) hg hm hv rfl hn hd
theorem pe_cls {C:Addr} (hg:Gl X x) (hm:X.mg x = some (.ref C)) (hd:(x == ("__debug__":Str)) = false:=by decide):PE X (.Name x pos) (tC (.ref C)):=pe_glob (v:=.ref C) hg hm rfl hd
def clsV:V→Option Value
 | .ty n=>some (.type n)
 | .ref C=>some (.ref C)
 | _=>none
theorem clsV_rel {c:V} {u cv:Value} (r:RelV c u) (h:clsV c = some cv):u = cv:=by
 cases c with
 | ty n=>cases h; exact r
 | ref C=>cases h; exact r
 | _=>cases h
theorem call_isinst:CallR X (.builtin "isinstance") (fun xs H Q=>∃ x c t cv b,xs = [x,c]∧clsV c = some cv∧TyOf X.K H x t∧PySem.W.kitOne X.K t cv = some b∧Q (.bl b) H):=by
 intro pins s σ H xs us Q I r h
 obtain ⟨x,c,t,cv,b,rfl,hc,ty,e,q⟩:=h
 obtain ⟨u,u',rfl,rx,rc⟩:=vals2 r
 cases clsV_rel rc hc
 exact isinst_ok I rx ty e fun tk=>⟨.bl b,H,I.tok _,rfl,q⟩
theorem op_fdivB:OpR X (binaryOp .FloorDiv) (rI (fun _ j=>0 < j∧j.natAbs.log2 < 9000) fun i j=>.int (i / j)):=opI fun i j _ _ _ _ _ hc q=>by
 have h1:(0:Int) < j:=hc.1
 exact floordiv_int (by omega) (by rw [Int.fdiv_eq_ediv_of_nonneg i (by omega)]; exact q) (.inl (PyProof.noPylong_of_log2 hc.2))
theorem op_mulB:OpR X (binaryOp .Mult) (rI (fun i j=>Builtin.Int.intBits i≤100000∧Builtin.Int.intBits j≤100000) fun i j=>.int (i * j)):=opI fun _ _ _ _ _ _ _ hc q =>
 mul_int q (IntMulOk.of_bits (Nat.le_trans hc.1 (by decide)) (Nat.le_trans hc.2 (by decide)))
theorem op_shlB:OpR X (binaryOp .LShift) (rI (fun i j=>0≤j∧j≤100000∧Builtin.Int.intBits i≤100000) fun i j=>.int (i * 2 ^ j.toNat)):=opI fun i j _ _ _ _ _ hc q =>
 lshift_int hc.1 (by have h1:=hc.2.1; have h2:Builtin.Int.intBits i≤100000:=hc.2.2; have h3:(2:Int) ^ 27 = 134217728:=(by decide); rw [h3]; omega) q
end
theorem kit_int_int (K:PySem.W.Frag):PySem.W.kitOne K (.type "int") (.type "int") = some true:=rfl
theorem kit_int_bool (K:PySem.W.Frag):PySem.W.kitOne K (.type "int") (.type "bool") = some false:=by with_unfolding_all rfl
theorem iteD {c A B:Prop} [Decidable c] (hc:c) (h:A):if decide c = true then A else B:=by
 rw [if_pos (decide_eq_true hc)]
 exact h
theorem iteDN {c A B:Prop} [Decidable c] (hc:¬ c) (h:B):if decide c = true then A else B:=by
 rw [if_neg (by rw [decide_eq_false hc]; decide)]
 exact h
theorem ret_true {Q:VK} {H:Hp} {c:Prop} [Decidable c] (hc:c) (q:Q (.bl true) H):Q (.bl (decide c)) H:=by
 rw [decide_eq_true hc]
 exact q
theorem iteN {c A B:Prop} [Decidable c] (hc:¬ c) (h:A):if (!decide c) = true then A else B:=by
 rw [decide_eq_false hc]
 exact iteT h
theorem p1_pos (n:Nat):(0:Int) < 1 * 2 ^ n:=by
 rw [Int.one_mul]
 exact Int.pow_pos (by decide)
theorem p_pos (n:Nat):(0:Int) < 2 ^ n:=Int.pow_pos (by decide)
theorem p_mono {m n:Nat} (h:m≤n):(2:Int) ^ m≤2 ^ n:=by
 have e:n = m + (n - m):=by omega
 rw [e,Int.pow_add]
 have h1:=p_pos m
 have h2:(1:Int)≤2 ^ (n - m):=p_pos (n - m)
 have h3:=Int.mul_le_mul_of_nonneg_left h2 (Int.le_of_lt h1)
 rw [Int.mul_one] at h3
 exact h3
def SameX (p:Addr) (H H':Hp):Prop:=∀ b o,b ≠ p→H b = some o→H' b = some o
theorem SameX.refl (p:Addr) (H:Hp):SameX p H H:=fun _ _ _ h=>h
theorem SameX.trans {p:Addr} {H H1 H2:Hp} (a:SameX p H H1) (b:SameX p H1 H2):SameX p H H2:=fun c o n h=>b c o n (a c o n h)
theorem SameX.of {p:Addr} {H H':Hp} (a:Same H H'):SameX p H H':=fun c o _ h=>a c o h
theorem SameX.upd {p:Addr} {H:Hp} {o:HO}:SameX p H (upd H p o):=fun c u n h=>by rw [upd_ne n]; exact h
theorem same_new {H:Hp} {p:Addr} (h:H p = none) (o:HO):Same H (L2.upd H p o):=fun b u q=>by rw [upd_ne (ne_of_none q h)]; exact q
theorem SameX.fresh {p:Addr} {H H1:Hp} (h:H p = none) (a:SameX p H H1):Same H H1:=fun b o q=>a b o (ne_of_none q h) q
def Box (H:Hp) (p:Addr):Prop:=∃ r s c:Int,H p = some (.lst [.int r,.int s,.int c])
theorem Box.same {H H':Hp} {p:Addr} (b:Box H p) (s:Same H H'):Box H' p:=by
 obtain ⟨r,s',c,h⟩:=b
 exact ⟨r,s',c,s _ _ h⟩
theorem getI (ns:List Int) (k:Nat) (h:k < ns.length):atI (ns.map V.int) (k:Int) = some (.int ns[k]):=atI_nat (by rw [List.getElem?_map,List.getElem?_eq_getElem h] <;> rfl)
end Ow
namespace Ow
open PySem PySem.Spec PyProof.Rows L2
structure MHas (P:Program) (w:World) (K:PySem.W.Frag) (mg:Str→Option Value) (base:Heap) (k:Nat) (C:Addr) (m:Str) (ps:List Str) (sp:Sp):Prop where
 cl:Cls K C
 ex:∃ (f:Addr) (fd:FuncData),Meth K C m f∧FnOk P w K mg base CX0 k f fd ps sp∧Binds K fd ps []
def tMethP (X:Cx) (k:Nat) (m:Str) (ta:TE) (t:TA):TE:=fun σ H Q=>ta σ H fun x H1=>∃ (a C dx:Addr) (fs:List (Str × V)) (ps:List Str) (sp:Sp),x = .ref a∧H1 a = some (.ins C dx fs)∧fs.lookup m = none ∧
 MHas X.prog X.w X.K X.mg X.base k C m ps sp∧t σ H1 fun vs H2=>sp (x :: (vs ++ [])) H2 Q E0
section
variable {X:Cx} {k:Nat} {x m:Str} {C:Addr} {p pos apos:Pos} {o e:Expr} {es:List Expr} {ta:TE} {t:TA}
theorem pe_methP {pl:Sem Bool} (he:PE X o ta) (hr:Room k X.A) (ha:PA X (e :: es) t)
  (hst:starEach (e :: es) X.env = (false,eval e X.env) :: starEach es X.env:=by rfl) (hpl:(backTo pos (starEach es X.env)).any (·.1) = false:=by rfl)
  (ht:eval (.Call (.Attribute o m apos) (e :: es) [] pos) X.env = (do
   let ov ← eval o X.env
   standAt apos.atName
   let (f,first) ← holding [ov] (getMethod ov m pl)
   callWith pos f first (backTo pos (starEach (e :: es) X.env)) (backToKw pos (keywordEach [] X.env))):=by rfl) :
  PE X (.Call (.Attribute o m apos) (e :: es) [] pos) (tMethP X k m ta t):=by
 intro pins s σ H Q I h
 refine PySem.W.methodCall_KW (pl:=pl) (thn (he pins s σ H _ I h) fun u s1 ⟨x,H1,I1,rx,a,C,dx,fs,ps,sp,ex,ea,l,M,q⟩=>?_) ht
 subst ex
 obtain rfl:u = Value.ref a:=rx
 obtain ⟨f,fd,hm,F,hb⟩:=M.ex
 refine getmeth_ok I1 ea M.cl hm l ?_
 refine PySem.W.callWith_K (first:=[.ref a]) (h₀:=X.base) I.ok.mod.kin hm.kp (thn (ha pos pins s1 σ H1 _ I1 q) fun us s2 ⟨vs,H2,I2,r,q2⟩=>⟨I2.kIn,?_⟩) hst hpl
 exact run_fn (us:=.ref a :: us) (vs:=.ref a :: vs) F hr hb .nil pass0 I2 (.cons rfl r) q2
theorem pe_methP0 {pl:Sem Bool} (he:PE X o ta) (hr:Room k X.A)
  (ht:eval (.Call (.Attribute o m apos) [] [] pos) X.env = (do
   let ov ← eval o X.env
   standAt apos.atName
   let (f,first) ← holding [ov] (getMethod ov m pl)
   callWith pos f first (backTo pos (starEach [] X.env)) (backToKw pos (keywordEach [] X.env))):=by rfl) :
  PE X (.Call (.Attribute o m apos) [] [] pos) (tMethP X k m ta tNil):=by
 intro pins s σ H Q I h
 refine PySem.W.methodCall_KW (pl:=pl) (thn (he pins s σ H _ I h) fun u s1 ⟨x,H1,I1,rx,a,C,dx,fs,ps,sp,ex,ea,l,M,q⟩=>?_) ht
 subst ex
 obtain rfl:u = Value.ref a:=rx
 obtain ⟨f,fd,hm,F,hb⟩:=M.ex
 refine getmeth_ok I1 ea M.cl hm l ?_
 exact PySem.W.callWith_K0 (first:=[.ref a]) I1.kIn hm.kp (run_fn (us:=[.ref a]) (vs:=[.ref a]) F hr hb .nil pass0 I1 (.cons rfl .nil) q)
def gTupL (K:PySem.W.Frag) (n:Nat) (t:TGs):TG:=fun v σ H Q=>∃ a xs,v = .ref a∧SqL K H a xs∧xs.length = n∧t xs σ H Q
theorem pg_tupL {es:List Expr} {k:Nat} {t:TGs} {n:Nat} (hc:X.calm = true) (h:PGs X es t)
  (hn:(assignEach es X.env).length = n:=by rfl) (hst:(assignEach es X.env).findIdx? (·.1) = none:=by rfl):PG X (.Tuple es k pos) (gTupL X.K n t):=by
 intro pins s σ H v u Q I r hw
 obtain ⟨a,xs,e1,hq,hl,hw⟩:=hw
 subst e1
 cases r
 obtain ⟨its,rv,ht,hz⟩:=I.list hq
 rw [assign_Tuple]
 refine wpAny_bind (wpAny_standAt ?_)
 unfold unpack
 have hn':(assignEach es X.env).length = its.toArray.size:=by simp [hn,← hl,rv.length]
 rw [hn',hst]
 refine wpAny_bind (wpAny_holding (PySem.W.kun_itemsOf (I.ok.hd hc) ht.isList fun h' hx=>?_))
 have I1:Inv X pins σ H { s with heap:=h' }:=I.kept (t':=s.toks) fun b o e=>hx b o (Nat.ne_of_lt (Heap.lt_size e)) e
 exact h pins _ σ H xs _ Q I1 (by simpa using rv) hw
end
end Ow
namespace Ow
open PySem PySem.Spec PyProof.Rows L2
def cxComp (X:Cx) (N:List Str) (scope:Scope) (cl:List (Str × Addr)) (C:Addr) (s2:Shared) (H2:Hp) (fp:List Addr):Cx where
 prog:=X.prog
 w:=X.w
 K:=X.K
 mg:=X.mg
 base:=X.base
 A:=X.A
 N:=N
 s₀:=s2
 H₀:=H2
 env:=compEnvC scope cl C X.env
 outer:=X.stack
 stack:=X.stack
 ex:=fp
 calm:=true
 fn:=fun _=>false
 pn:=[]
 xe:=fun _ _=>False
def tComp (wi:TI) (te:TE) (cap:L2.St→L2.St):TE:=fun σ H Q=>wi σ H fun J H1=>∀ D,H1 D = none→∃ W:Nat→Nat→Hp→Prop,(∃ m,W 0 m (upd H1 D (.lst [])))∧∀ i m H,W i m H →
 (J.stop i H∧Q (.ref D) H)∨(J.go i H∧∀ x H',J.yld i H x H'→te (some x :: cap σ) H' fun y H2=>∃ ys,H2 D = some (.lst ys)∧ys.length < sizeLine∧∃ m',m' < m∧W (i + 1) m' (upd H2 D (.lst (ys ++ [y]))))
section
variable {X:Cx} {elt iter:Expr} {x:Str} {px pos:Pos} {scope:Scope} {wi:TI} {te:TE} {N:List Str} {cl:List (Str × Addr)} {cap:L2.St→L2.St}
theorem pe_comp (hc:X.calm = true) (hclos:closureFor scope X.env = pure cl) (hsub:∀ n c,cl.lookup n = some c→X.env.cells.lookup n = some c)
  (hcell:∀ y ∈ scope.names,y.2 ≠ .cell) (hkind:scope.kind = .function) (hnames:∀ y ∈ scope.names,y.2 = .local→scope.names.lookup y.1 = some .local) (hx:scope.names.lookup x = some .local)
  (hhas:∀ y,(Env.kindOf (compEnvC scope cl 0 X.env) y = some .cell∨Env.kindOf (compEnvC scope cl 0 X.env) y = some .free)→∃ c,cl.lookup y = some c)
  (hN:(x :: N).Nodup) (hcapl:∀ σ,(cap σ).length = N.length)
  (hcap:∀ (σ:L2.St) (i:Nat) (y:Str) (v:V),σ.length = X.N.length→N[i]? = some y→(cap σ)[i]? = some (some v)→(Env.kindOf (compEnvC scope cl 0 X.env) y = some .cell∨Env.kindOf (compEnvC scope cl 0 X.env) y = some .free)∧X.env.kindOf y = some .cell∧∃ j:Nat,X.N[j]? = some y∧σ[j]? = some (some v))
  (hi:PI X (.Name x px) iter wi) (he:∀ C s2 H2 fp,PE (cxComp X (x :: N) scope cl C s2 H2 fp) elt te)
  (hs:∀ z,foldedSetIterable iter X.env z = pure z:=by intro _; rfl) :
  PE X (.ListComp elt [⟨.Name x px,iter,[],0⟩] scope pos) (tComp wi te cap):=by
 intro pins s σ H Q I h
 rw [eval_ListComp]
 refine wpAny_comprehension_free (use:=none) rfl hs hclos hkind hnames (thn (hi pins s σ H _ I h) fun xv s1 h1=>thn h1 fun itv s2 h2=>?_)
 obtain ⟨it,fp,tn,J,H2,e,I2,T,st2,f2,hW⟩:=h2
 subst e
 have hD:H2 s2.heap.objs.size = none:=I2.hok.fresh (Nat.le_refl _)
 obtain ⟨W,⟨m0,w0⟩,turn⟩:=hW s2.heap.objs.size hD
 refine wpAny_newObj_type (wpAny_newFunctionEnv hcell (by intro y hy; simp at hy) (fun h4 hns4 hsb4=>?_) hkind) (by show 0≤sizeLine; decide)
 dsimp only at hns4 hsb4 ⊢
 generalize hH3:s2.heap.push { cls:=.type "list",dict:=none,data:=.seq ([]:List Value).toArray } = H3 at hns4 hsb4 ⊢
 have hCz:H3.objs.size = s2.heap.objs.size + 1:=by rw [← hH3,Heap.size_push]
 have old3:∀ b o,s2.heap.get? b = some o→H3.get? b = some o:=fun b o e=>hH3 ▸ Heap.get?_push_of_some _ e
 have eD3:H3.get? s2.heap.objs.size = some { cls:=.type "list",dict:=none,data:=.seq ([]:List Value).toArray }:=hH3 ▸ Heap.get?_push_size _ rfl
 have old4:∀ b o,H3.get? b = some o→h4.get? b = some o:=fun b o e=>hsb4.extBut b o (Nat.ne_of_lt (Heap.lt_size e)) (Heap.get?_push_of_some _ e)
 have old:∀ b o,s2.heap.get? b = some o→h4.get? b = some o:=fun b o e=>old4 b o (old3 b o e)
 have szC:s2.heap.objs.size < H3.objs.size:=by rw [hCz]; exact Nat.lt_succ_self _
 have fpC:∀ b ∈ fp,b ≠ H3.objs.size:=fun b hb=>by
  obtain ⟨o,ho,_⟩:=T.obj 0 _ st2 b hb
  exact Nat.ne_of_lt (Nat.lt_trans (Heap.lt_size ho) szC)
 have ok':(cxComp X (x :: N) scope cl H3.objs.size s2 H2 fp).Ok:=by
  refine ⟨I2.ok.mod,hkind,I2.ok.glob,I2.ok.blt,(Nat.le_of_lt szC),fun a b c e1 e2=>I2.ok.inj a b c (hsub a c e1) (hsub b c e2),fun y hy=>hhas y hy,fun y c z _=>absurd (show false = true from z) (by decide),
   fun _=>I2.ok.hd hc,I2.ok.frames,.inl rfl,fun b hb=>⟨fpC b hb,fun y c e=>(f2 b hb).2.2.2.2.1 y c (hsub y c e)⟩,I2.bs,Nat.le_trans I2.ok.bsz I2.sz,fun b o e hb=>?_,fun b hb z=>?_,I2.stack,I2.stkFree⟩
  ·rcases (f2 b hb).2.2.2.1 with q | q
   ·exact I2.ok.noex b o e q
   ·exact absurd (Nat.lt_of_lt_of_le (Heap.lt_size e) (Nat.le_trans I2.ok.bsz q)) (Nat.lt_irrefl _)
  ·rcases List.mem_cons.mp (I2.stkSub b z) with q | q
   ·exact (f2 b hb).2.1 q
   ·exact (f2 b hb).2.2.1 q
 have okD:ObjOk X.prog X.w (upd H2 s2.heap.objs.size (.lst [])) h4 s2.heap.objs.size (.lst []):=⟨Nat.zero_le _,[],0,.nil,old4 _ _ eD3⟩
 have I4:Inv (cxComp X (x :: N) scope cl H3.objs.size s2 H2 fp) [] (none :: cap σ) (upd H2 s2.heap.objs.size (.lst [])) { s2 with heap:=h4,toks:=s2.toks + ([]:List (Str × Value)).length }:=by
  refine ⟨ok',rfl,I2.bare,Un.laid old (Nat.le_refl _) hD,⟨_,hns4,fun i y v e1 e2 _=>?_⟩,fun y c e=>?_,?_,fun y c e=>?_,fun p hp=>absurd hp (by show p ∉ ([] ++ []:List (Addr × Obj)); simp),I2.hok.laid old (Nat.le_refl _) okD,?_⟩
  ·cases i with
   | zero=>simp at e2
   | succ i =>
    obtain ⟨k1,k2,j,e3,e4⟩:=hcap σ i y v I2.len (show N[i]? = some y from e1) (show (cap σ)[i]? = some (some v) from e2)
    obtain ⟨m,_,hl⟩:=I2.loc
    obtain ⟨u,ru,lk⟩:=hl j y v e3 e4 (.inr (.inl k2))
    refine ⟨u,ru,.inr ⟨k1,?_⟩⟩
    rcases lk with ⟨z,_⟩ | ⟨_,c,e5,hcl⟩
    ·rw [k2] at z; cases z
    ·obtain ⟨c',e6⟩:=hhas y k1
     have:c' = c:=by
      have:=hsub y c' e6
      rw [e5] at this
      exact (Option.some.inj this).symm
     subst this
     obtain ⟨oc,ho,hd⟩:=hcl
     exact ⟨c',e6,oc,old _ _ ho,hd⟩
  ·obtain ⟨v,oc,ho,hd⟩:=I2.cell y c (hsub y c e)
   exact ⟨v,oc,old _ _ ho,hd⟩
  ·show upd H2 s2.heap.objs.size (.lst []) H3.objs.size = none
   rw [upd_ne (Nat.ne_of_gt szC)]
   exact I2.hok.fresh (Nat.le_of_lt szC)
  ·have h1:=I2.freeC y c (hsub y c e)
   obtain ⟨v,oc,ho,_⟩:=I2.cell y c (hsub y c e)
   rw [upd_ne (Nat.ne_of_lt (Heap.lt_size ho))]
   exact h1
  ·show (none :: cap σ).length = (x :: N).length
   simp [hcapl]
 have stat:∀ {H':Hp},(∀ b ∈ fp,H' b = none)→∀ b ∈ fp,FpOk (cxComp X (x :: N) scope cl H3.objs.size s2 H2 fp) [] H' b:=fun {H'} hn b hb =>
  ⟨hn b hb,(ok'.exf b hb).1,ok'.exfs b hb,.inl hb,(ok'.exf b hb).2,fun p hp=>absurd hp (by show p ∉ ([] ++ []:List (Addr × Obj)); simp)⟩
 have loop:codeAny (model X.prog X.w) X.A (.compLoop (.ListComp elt [⟨.Name x px,iter,[],0⟩] scope pos) 0 (.ref it) (.ref s2.heap.objs.size) (compEnvC scope cl H3.objs.size X.env))
   (compPost (model X.prog X.w) X.A X.xe none (EP X pins σ Q) (.ref s2.heap.objs.size) H3.objs.size) { s2 with heap:=h4,toks:=s2.toks + ([]:List (Str × Value)).length }:=by
  refine codeAny_compLoop_list (fun n s'=>∃ (i:Nat) (z0:Option V) (H':Hp),Inv (cxComp X (x :: N) scope cl H3.objs.size s2 H2 fp) [] (z0 :: cap σ) H' s'∧tn i s'.heap∧(∀ b ∈ fp,H' b = none)∧W i n H') ?_ m0
   ⟨0,none,_,I4,T.keep 0 _ _ st2 (fun b _ o e=>old b o e),fun b hb=>?_,w0⟩
  ·rintro n s5 ⟨i,z0,H5,I5,st5,fr5,w5⟩
   rcases turn i n H5 w5 with ⟨stop,qn⟩ | ⟨go,step⟩
   ·refine wpAny_mono (T.done (cxComp X (x :: N) scope cl H3.objs.size s2 H2 fp) rfl rfl rfl rfl i [] s5 _ H5 _ I5 (stat fr5) st5 stop) (fun r s6 ⟨hr,I6⟩=>?_) fun _ _ z=>z
    subst hr
    obtain ⟨m,hn6,_⟩:=id I6.loc
    refine ⟨m,hn6,fun h' sb=>⟨.ref s2.heap.objs.size,H5,?_,rfl,qn⟩⟩
    have kp:∀ b o,b ≠ H3.objs.size→s6.heap.get? b = some o→h'.get? b = some o:=fun b o hb e=>sb.extBut b o hb e
    have nC:∀ b o,s2.heap.get? b = some o→b ≠ H3.objs.size:=fun b o e=>Nat.ne_of_lt (Nat.lt_trans (Heap.lt_size e) szC)
    have fC:H5 H3.objs.size = none:=I6.free
    refine I2.call' (ch:=fp) (s':={ s6 with heap:=h' }) I6.os ?_ ?_ I6.bare fun b hb=>⟨(f2 b hb).2.2.2.1,(f2 b hb).2.1,(f2 b hb).2.2.2.2.1,(f2 b hb).2.2.2.2.2⟩
    ·have U:Un (frs X.stack) fp H2 H5 s2.heap s6.heap:=I6.base
     exact ⟨fun b o e n1 n2 n3=>kp b o (nC b o e) (U.keep b o e n1 n2 n3),fun b o e n1 n2 n3=>by
       obtain ⟨sl,q⟩:=U.slot b o e n1 n2 n3
       exact ⟨sl,kp b _ (nC b o e) q⟩,U.free,fun b o e n3=>by
       obtain ⟨o',q⟩:=U.there b o e n3
       exact ⟨o',kp b _ (nC b o e) q⟩,U.tups,U.frzs,U.tbls⟩
    ·intro b u e
     refine (I6.hok b u e).stay (fun c v hc q=>kp c v (fun z=>?_) q) (fun _ q=>q) fun _ _ q=>q
     rcases hc with y | y
     ·rw [← y,z,fC] at e
      cases e
     ·rw [z,fC] at y
      cases y
   ·refine wpAny_mono (T.item (cxComp X (x :: N) scope cl H3.objs.size s2 H2 fp) rfl rfl rfl rfl i [] s5 _ H5 _ I5 (stat fr5) st5 go) (fun r s6 ⟨u,hr,h6⟩=>?_) fun _ _ z=>z
    subst hr
    have key:(letOwnedTupleGo (.Name x px) (.ref it) u >>= fun _=>assign (.Name x px) (compEnvC scope cl H3.objs.size X.env) u) = assign (.Name x px) (compEnvC scope cl H3.objs.size X.env) u:=by first | rfl | exact pure_bind _ _
    dsimp only
    rw [← key]
    refine wpAny_bind (wpAny_mono h6 (fun _ s7 ⟨v,H7,I7,r7,y7,st7,fr7⟩=>?_) fun _ _ z=>z)
    have I7':=I7.pinned (stat fr7) (T.obj _ _ st7)
    refine wpAny_assign_Name (store_ok (i:=0) I7' hN rfl (.inl (lookup_relabel_local hx)) r7 (fun s8 I8=>?_) (.inr (lookup_relabel_local hx)))
    refine wpAny_mono (he H3.objs.size s2 H2 fp _ s8 (some v :: cap σ) H7 _ I8 (step v H7 y7)) (fun w9 s9 ⟨y,H9,I9,r9,ys,hys,hlt,m',hm,w9'⟩=>?_) fun _ _ z=>z.elim
    refine wpAny_mono (mt_append (X:=cxComp X (x :: N) scope cl H3.objs.size s2 H2 fp) _ s9 _ H9 (.ref s2.heap.objs.size) [y] _ [w9] (fun _ Hn=>Hn = upd H9 s2.heap.objs.size (.lst (ys ++ [y]))) I9 rfl (.cons r9 .nil) ⟨_,ys,y,rfl,rfl,hys,hlt,rfl⟩) (fun _ s10 ⟨_,H10,I10,_,e10⟩=>?_) fun _ _ z=>z.elim
    subst e10
    refine ⟨m',hm,i + 1,some v,_,I10.unpinned,T.keep _ _ _ st7 fun b hb o e=>(I10.pin (b,o) (List.mem_append_right _ (List.mem_append_right _ (mem_pinsAt hb e)))).1,fun b hb=>?_,w9'⟩
    obtain ⟨o,e,d⟩:=T.obj _ _ st7 b hb
    exact (I10.pin (b,o) (List.mem_append_right _ (List.mem_append_right _ (mem_pinsAt hb e)))).2.1
  ·obtain ⟨o,ho,_⟩:=T.obj 0 _ st2 b hb
   rw [upd_ne (Nat.ne_of_lt (Heap.lt_size ho))]
   exact (f2 b hb).1
 exact codeAny_compStart_list loop (T.self X.A 0 _ _ _ (T.keep 0 _ _ st2 (fun b _ o e=>old b o e)) loop)
theorem pe_comp0 (hc:X.calm = true) (hclos:closureFor scope X.env = pure []) (hno:∀ p ∈ scope.names,p.2 ≠ .cell∧p.2 ≠ .free) (hkind:scope.kind = .function)
  (hnames:∀ y ∈ scope.names,y.2 = .local→scope.names.lookup y.1 = some .local) (hx:scope.names.lookup x = some .local)
  (hi:PI X (.Name x px) iter wi) (he:∀ C s2 H2 fp,PE (cxComp X [x] scope [] C s2 H2 fp) elt te)
  (hs:∀ z,foldedSetIterable iter X.env z = pure z:=by intro _; rfl) :
  PE X (.ListComp elt [⟨.Name x px,iter,[],0⟩] scope pos) (tComp wi te fun _=>[]):=by
 refine pe_comp (N:=[]) (cl:=[]) hc hclos (fun _ _ e=>nomatch e) (fun y hy=>(hno y hy).1) hkind hnames hx (fun y hy=>?_) (by simp) (fun _=>rfl) (fun _ i y v _ e _=>by simp at e) hi he hs
 exfalso
 have sub:∀ (l:List (Str × NameKind)),(∀ p ∈ l,p.2 ≠ .cell∧p.2 ≠ .free)→∀ p ∈ (l.map fun (n,k)=>if (k == NameKind.free && X.env.scope.kind == ScopeKind.function && X.env.kindOf n == some NameKind.cell) then (n,NameKind.cell) else (n,k)),p.2 ≠ .cell∧p.2 ≠ .free:=by
  intro l hl p hp
  obtain ⟨q,hq,e⟩:=List.mem_map.mp hp
  have h1:=hl q hq
  obtain ⟨n,k⟩:=q
  have hf:(k == NameKind.free) = false:=by
   cases k <;> first | rfl | exact absurd rfl h1.2
  rw [← e]
  dsimp only
  rw [hf,Bool.false_and,Bool.false_and,if_neg (by decide)]
  exact h1
 have mem:∀ k,Env.kindOf (compEnvC scope [] 0 X.env) y = some k→k ≠ .cell∧k ≠ .free:=fun k e=>sub scope.names hno (y,k) (PySem.mem_of_lookup e)
 rcases hy with z | z
 ·exact (mem _ z).1 rfl
 ·exact (mem _ z).2 rfl
theorem ps_comp {i:Nat} {y:Str} {py spos:Pos} (hNX:X.N.Nodup) (hiy:X.N[i]? = some y) (hly:Loc X.env.scope y) (hsw:swapsWith (.ListComp elt [⟨.Name x px,iter,[],0⟩] scope pos) (some (.Name y py)) spos.line X.env = pure true) (hc:X.calm = true) (hclos:closureFor scope X.env = pure cl) (hsub:∀ n c,cl.lookup n = some c→X.env.cells.lookup n = some c)
  (hcell:∀ y ∈ scope.names,y.2 ≠ .cell) (hkind:scope.kind = .function) (hnames:∀ y ∈ scope.names,y.2 = .local→scope.names.lookup y.1 = some .local) (hx:scope.names.lookup x = some .local)
  (hhas:∀ y,(Env.kindOf (compEnvC scope cl 0 X.env) y = some .cell∨Env.kindOf (compEnvC scope cl 0 X.env) y = some .free)→∃ c,cl.lookup y = some c)
  (hN:(x :: N).Nodup) (hcapl:∀ σ,(cap σ).length = N.length)
  (hcap:∀ (σ:L2.St) (i:Nat) (y:Str) (v:V),σ.length = X.N.length→N[i]? = some y→(cap σ)[i]? = some (some v)→(Env.kindOf (compEnvC scope cl 0 X.env) y = some .cell∨Env.kindOf (compEnvC scope cl 0 X.env) y = some .free)∧X.env.kindOf y = some .cell∧∃ j:Nat,X.N[j]? = some y∧σ[j]? = some (some v))
  (hi:PI X (.Name x px) iter wi) (he:∀ C s2 H2 fp,PE (cxComp X (x :: N) scope cl C s2 H2 fp) elt te)
  (hs:∀ z,foldedSetIterable iter X.env z = pure z:=by intro _; rfl) (hf:X.fn y = true∨X.env.scope.names.lookup y = some .local:=by first | exact .inl rfl | exact .inr rfl | assumption) :
  PS X (.Assign [.Name y py] (.ListComp elt [⟨.Name x px,iter,[],0⟩] scope pos) spos) (tAsg (tComp wi te cap) (gName i)):=by
 intro pins s σ H DD I h
 rw [exec_Assign_Name_used _ _ _ _ hsw]
 refine wpAny_bind (wpAny_standAt (wpAny_bind ?_))
 show wpAny _ X.A (do let _ ← comprehension (.ListComp elt [⟨.Name x px,iter,[],0⟩] scope pos) scope X.env _ (newList []) false (eval iter X.env) (some (assign (.Name y py) X.env))) _ _ s
 refine wpAny_bind (wpAny_mono (wpAny_comprehension_free (use:=some (assign (.Name y py) X.env)) (Q:=fun _ s'=>SP X pins DD .next s') rfl hs hclos hkind hnames (thn (hi pins s σ H _ I h) fun xv s1 h1=>thn h1 fun itv s2 h2=>?_)) (fun _ s' hq=>wpAny_pure (wpAny_pure hq)) fun _ _ e=>e)
 obtain ⟨it,fp,tn,J,H2,e,I2,T,st2,f2,hW⟩:=h2
 subst e
 have hD:H2 s2.heap.objs.size = none:=I2.hok.fresh (Nat.le_refl _)
 obtain ⟨W,⟨m0,w0⟩,turn⟩:=hW s2.heap.objs.size hD
 refine wpAny_newObj_type (wpAny_newFunctionEnv hcell (by intro y hy; simp at hy) (fun h4 hns4 hsb4=>?_) hkind) (by show 0≤sizeLine; decide)
 dsimp only at hns4 hsb4 ⊢
 generalize hH3:s2.heap.push { cls:=.type "list",dict:=none,data:=.seq ([]:List Value).toArray } = H3 at hns4 hsb4 ⊢
 have hCz:H3.objs.size = s2.heap.objs.size + 1:=by rw [← hH3,Heap.size_push]
 have old3:∀ b o,s2.heap.get? b = some o→H3.get? b = some o:=fun b o e=>hH3 ▸ Heap.get?_push_of_some _ e
 have eD3:H3.get? s2.heap.objs.size = some { cls:=.type "list",dict:=none,data:=.seq ([]:List Value).toArray }:=hH3 ▸ Heap.get?_push_size _ rfl
 have old4:∀ b o,H3.get? b = some o→h4.get? b = some o:=fun b o e=>hsb4.extBut b o (Nat.ne_of_lt (Heap.lt_size e)) (Heap.get?_push_of_some _ e)
 have old:∀ b o,s2.heap.get? b = some o→h4.get? b = some o:=fun b o e=>old4 b o (old3 b o e)
 have szC:s2.heap.objs.size < H3.objs.size:=by rw [hCz]; exact Nat.lt_succ_self _
 have fpC:∀ b ∈ fp,b ≠ H3.objs.size:=fun b hb=>by
  obtain ⟨o,ho,_⟩:=T.obj 0 _ st2 b hb
  exact Nat.ne_of_lt (Nat.lt_trans (Heap.lt_size ho) szC)
 have ok':(cxComp X (x :: N) scope cl H3.objs.size s2 H2 fp).Ok:=by
  refine ⟨I2.ok.mod,hkind,I2.ok.glob,I2.ok.blt,(Nat.le_of_lt szC),fun a b c e1 e2=>I2.ok.inj a b c (hsub a c e1) (hsub b c e2),fun y hy=>hhas y hy,fun y c z _=>absurd (show false = true from z) (by decide),
   fun _=>I2.ok.hd hc,I2.ok.frames,.inl rfl,fun b hb=>⟨fpC b hb,fun y c e=>(f2 b hb).2.2.2.2.1 y c (hsub y c e)⟩,I2.bs,Nat.le_trans I2.ok.bsz I2.sz,fun b o e hb=>?_,fun b hb z=>?_,I2.stack,I2.stkFree⟩
  ·rcases (f2 b hb).2.2.2.1 with q | q
   ·exact I2.ok.noex b o e q
   ·exact absurd (Nat.lt_of_lt_of_le (Heap.lt_size e) (Nat.le_trans I2.ok.bsz q)) (Nat.lt_irrefl _)
  ·rcases List.mem_cons.mp (I2.stkSub b z) with q | q
   ·exact (f2 b hb).2.1 q
   ·exact (f2 b hb).2.2.1 q
 have okD:ObjOk X.prog X.w (upd H2 s2.heap.objs.size (.lst [])) h4 s2.heap.objs.size (.lst []):=⟨Nat.zero_le _,[],0,.nil,old4 _ _ eD3⟩
 have I4:Inv (cxComp X (x :: N) scope cl H3.objs.size s2 H2 fp) [] (none :: cap σ) (upd H2 s2.heap.objs.size (.lst [])) { s2 with heap:=h4,toks:=s2.toks + ([]:List (Str × Value)).length }:=by
  refine ⟨ok',rfl,I2.bare,Un.laid old (Nat.le_refl _) hD,⟨_,hns4,fun i y v e1 e2 _=>?_⟩,fun y c e=>?_,?_,fun y c e=>?_,fun p hp=>absurd hp (by show p ∉ ([] ++ []:List (Addr × Obj)); simp),I2.hok.laid old (Nat.le_refl _) okD,?_⟩
  ·cases i with
   | zero=>simp at e2
   | succ i =>
    obtain ⟨k1,k2,j,e3,e4⟩:=hcap σ i y v I2.len (show N[i]? = some y from e1) (show (cap σ)[i]? = some (some v) from e2)
    obtain ⟨m,_,hl⟩:=I2.loc
    obtain ⟨u,ru,lk⟩:=hl j y v e3 e4 (.inr (.inl k2))
    refine ⟨u,ru,.inr ⟨k1,?_⟩⟩
    rcases lk with ⟨z,_⟩ | ⟨_,c,e5,hcl⟩
    ·rw [k2] at z; cases z
    ·obtain ⟨c',e6⟩:=hhas y k1
     have:c' = c:=by
      have:=hsub y c' e6
      rw [e5] at this
      exact (Option.some.inj this).symm
     subst this
     obtain ⟨oc,ho,hd⟩:=hcl
     exact ⟨c',e6,oc,old _ _ ho,hd⟩
  ·obtain ⟨v,oc,ho,hd⟩:=I2.cell y c (hsub y c e)
   exact ⟨v,oc,old _ _ ho,hd⟩
  ·show upd H2 s2.heap.objs.size (.lst []) H3.objs.size = none
   rw [upd_ne (Nat.ne_of_gt szC)]
   exact I2.hok.fresh (Nat.le_of_lt szC)
  ·have h1:=I2.freeC y c (hsub y c e)
   obtain ⟨v,oc,ho,_⟩:=I2.cell y c (hsub y c e)
   rw [upd_ne (Nat.ne_of_lt (Heap.lt_size ho))]
   exact h1
  ·show (none :: cap σ).length = (x :: N).length
   simp [hcapl]
 have stat:∀ {H':Hp},(∀ b ∈ fp,H' b = none)→∀ b ∈ fp,FpOk (cxComp X (x :: N) scope cl H3.objs.size s2 H2 fp) [] H' b:=fun {H'} hn b hb =>
  ⟨hn b hb,(ok'.exf b hb).1,ok'.exfs b hb,.inl hb,(ok'.exf b hb).2,fun p hp=>absurd hp (by show p ∉ ([] ++ []:List (Addr × Obj)); simp)⟩
 have loop:codeAny (model X.prog X.w) X.A (.compLoop (.ListComp elt [⟨.Name x px,iter,[],0⟩] scope pos) 0 (.ref it) (.ref s2.heap.objs.size) (compEnvC scope cl H3.objs.size X.env))
   (compPost (model X.prog X.w) X.A X.xe (some (assign (.Name y py) X.env)) (fun _ s'=>SP X pins DD .next s') (.ref s2.heap.objs.size) H3.objs.size) { s2 with heap:=h4,toks:=s2.toks + ([]:List (Str × Value)).length }:=by
  refine codeAny_compLoop_list (fun n s'=>∃ (i:Nat) (z0:Option V) (H':Hp),Inv (cxComp X (x :: N) scope cl H3.objs.size s2 H2 fp) [] (z0 :: cap σ) H' s'∧tn i s'.heap∧(∀ b ∈ fp,H' b = none)∧W i n H') ?_ m0
   ⟨0,none,_,I4,T.keep 0 _ _ st2 (fun b _ o e=>old b o e),fun b hb=>?_,w0⟩
  ·rintro n s5 ⟨i,z0,H5,I5,st5,fr5,w5⟩
   rcases turn i n H5 w5 with ⟨stop,qn⟩ | ⟨go,step⟩
   ·refine wpAny_mono (T.done (cxComp X (x :: N) scope cl H3.objs.size s2 H2 fp) rfl rfl rfl rfl i [] s5 _ H5 _ I5 (stat fr5) st5 stop) (fun r s6 ⟨hr,I6⟩=>?_) fun _ _ z=>z
    subst hr
    obtain ⟨m,hn6,_⟩:=id I6.loc
    have I6X:Inv X pins σ H5 s6:=I2.call' (ch:=fp) (s':=s6) I6.os I6.base I6.hok I6.bare fun b hb=>⟨(f2 b hb).2.2.2.1,(f2 b hb).2.1,(f2 b hb).2.2.2.2.1,(f2 b hb).2.2.2.2.2⟩
    have fC:H5 H3.objs.size = none:=I6.free
    have nL:H3.objs.size ≠ X.env.locals:=Ne.symm (Nat.ne_of_lt (Nat.lt_trans I2.lt szC))
    have nCl:∀ z c,X.env.cells.lookup z = some c→c ≠ H3.objs.size:=fun z c e=>by
     obtain ⟨v,oc,ho,_⟩:=I2.cell z c e
     exact Nat.ne_of_lt (Nat.lt_trans (Heap.lt_size ho) szC)
    refine wpAny_assign_Name (store_ok2 I6X hNX hiy hly (v:=.ref s2.heap.objs.size) rfl (fun s7 I7 ⟨ad,sb7,had⟩=>?_) hf)
    have nA:H3.objs.size ≠ ad:=by
     rcases had with e | e
     ·rw [e]; exact nL
     ·exact Ne.symm (nCl _ _ e)
    refine ⟨m,hn6.sameBut sb7 nA,fun h' sb=>⟨_,H5,?_,qn⟩⟩
    refine I7.turned (it:=H3.objs.size) (t':=s7.toks) (fun b o hb e=>sb.extBut b o hb e) fC nL (.inr (Nat.le_trans I2.sz (Nat.le_of_lt szC))) nCl fun p hp=>?_
    exact Nat.ne_of_lt (Nat.lt_trans (Heap.lt_size (I2.pin p hp).1) szC)
   ·refine wpAny_mono (T.item (cxComp X (x :: N) scope cl H3.objs.size s2 H2 fp) rfl rfl rfl rfl i [] s5 _ H5 _ I5 (stat fr5) st5 go) (fun r s6 ⟨u,hr,h6⟩=>?_) fun _ _ z=>z
    subst hr
    have key:(letOwnedTupleGo (.Name x px) (.ref it) u >>= fun _=>assign (.Name x px) (compEnvC scope cl H3.objs.size X.env) u) = assign (.Name x px) (compEnvC scope cl H3.objs.size X.env) u:=by first | rfl | exact pure_bind _ _
    dsimp only
    rw [← key]
    refine wpAny_bind (wpAny_mono h6 (fun _ s7 ⟨v,H7,I7,r7,y7,st7,fr7⟩=>?_) fun _ _ z=>z)
    have I7':=I7.pinned (stat fr7) (T.obj _ _ st7)
    refine wpAny_assign_Name (store_ok (i:=0) I7' hN rfl (.inl (lookup_relabel_local hx)) r7 (fun s8 I8=>?_) (.inr (lookup_relabel_local hx)))
    refine wpAny_mono (he H3.objs.size s2 H2 fp _ s8 (some v :: cap σ) H7 _ I8 (step v H7 y7)) (fun w9 s9 ⟨yv,H9,I9,r9,ys,hys,hlt,m',hm,w9'⟩=>?_) fun _ _ z=>z.elim
    refine wpAny_mono (mt_append (X:=cxComp X (x :: N) scope cl H3.objs.size s2 H2 fp) _ s9 _ H9 (.ref s2.heap.objs.size) [yv] _ [w9] (fun _ Hn=>Hn = upd H9 s2.heap.objs.size (.lst (ys ++ [yv]))) I9 rfl (.cons r9 .nil) ⟨_,ys,yv,rfl,rfl,hys,hlt,rfl⟩) (fun _ s10 ⟨_,H10,I10,_,e10⟩=>?_) fun _ _ z=>z.elim
    subst e10
    refine ⟨m',hm,i + 1,some v,_,I10.unpinned,T.keep _ _ _ st7 fun b hb o e=>(I10.pin (b,o) (List.mem_append_right _ (List.mem_append_right _ (mem_pinsAt hb e)))).1,fun b hb=>?_,w9'⟩
    obtain ⟨o,e,d⟩:=T.obj _ _ st7 b hb
    exact (I10.pin (b,o) (List.mem_append_right _ (List.mem_append_right _ (mem_pinsAt hb e)))).2.1
  ·obtain ⟨o,ho,_⟩:=T.obj 0 _ st2 b hb
   rw [upd_ne (Nat.ne_of_lt (Heap.lt_size ho))]
   exact (f2 b hb).1
 exact codeAny_compStart_list loop (T.self X.A 0 _ _ _ (T.keep 0 _ _ st2 (fun b _ o e=>old b o e)) loop)
theorem ps_comp0 {i:Nat} {y:Str} {py spos:Pos} (hNX:X.N.Nodup) (hiy:X.N[i]? = some y) (hly:Loc X.env.scope y) (hsw:swapsWith (.ListComp elt [⟨.Name x px,iter,[],0⟩] scope pos) (some (.Name y py)) spos.line X.env = pure true) (hc:X.calm = true) (hclos:closureFor scope X.env = pure []) (hno:∀ p ∈ scope.names,p.2 ≠ .cell∧p.2 ≠ .free) (hkind:scope.kind = .function)
  (hnames:∀ y ∈ scope.names,y.2 = .local→scope.names.lookup y.1 = some .local) (hx:scope.names.lookup x = some .local)
  (hi:PI X (.Name x px) iter wi) (he:∀ C s2 H2 fp,PE (cxComp X [x] scope [] C s2 H2 fp) elt te)
  (hs:∀ z,foldedSetIterable iter X.env z = pure z:=by intro _; rfl) (hf:X.fn y = true∨X.env.scope.names.lookup y = some .local:=by first | exact .inl rfl | exact .inr rfl | assumption) :
  PS X (.Assign [.Name y py] (.ListComp elt [⟨.Name x px,iter,[],0⟩] scope pos) spos) (tAsg (tComp wi te fun _=>[]) (gName i)):=by
 refine ps_comp hNX hiy hly hsw (N:=[]) (cl:=[]) hc hclos (fun _ _ e=>nomatch e) (fun z hy=>(hno z hy).1) hkind hnames hx (fun z0 hy=>?_) (by simp) (fun _=>rfl) (fun _ i y v _ e _=>by simp at e) hi he hs hf
 exfalso
 have sub:∀ (l:List (Str × NameKind)),(∀ p ∈ l,p.2 ≠ .cell∧p.2 ≠ .free)→∀ p ∈ (l.map fun (n,k)=>if (k == NameKind.free && X.env.scope.kind == ScopeKind.function && X.env.kindOf n == some NameKind.cell) then (n,NameKind.cell) else (n,k)),p.2 ≠ .cell∧p.2 ≠ .free:=by
  intro l hl p hp
  obtain ⟨q,hq,e⟩:=List.mem_map.mp hp
  have h1:=hl q hq
  obtain ⟨n,k⟩:=q
  have hf:(k == NameKind.free) = false:=by
   cases k <;> first | rfl | exact absurd rfl h1.2
  rw [← e]
  dsimp only
  rw [hf,Bool.false_and,Bool.false_and,if_neg (by decide)]
  exact h1
 have mem:∀ k,Env.kindOf (compEnvC scope [] 0 X.env) z0 = some k→k ≠ .cell∧k ≠ .free:=fun k e=>sub scope.names hno (z0,k) (PySem.mem_of_lookup e)
 rcases hy with z | z
 ·exact (mem _ z).1 rfl
 ·exact (mem _ z).2 rfl
theorem comp_list {K:PySem.W.Frag} {a D:Addr} {xs:List V} {te':TE} {tl:L2.St} {G:Hp→Prop} {H1:Hp} (Pv:Nat→Hp→Prop) (h0:Pv 0 (upd H1 D (.lst []))) (hl:∀ i H,i≤xs.length→Pv i H→SqL K H a xs)
  (hs:∀ i x H,xs[i]? = some x→Pv i H→te' (some x :: tl) H fun y H2=>∃ ys,H2 D = some (.lst ys)∧ys.length < sizeLine∧∃ m',m' < xs.length - i∧(m' = xs.length - (i + 1)∧i + 1≤xs.length∧Pv (i + 1) (upd H2 D (.lst (ys ++ [y])))))
  (hd:∀ H,Pv xs.length H→G H) :
  ∃ W:Nat→Nat→Hp→Prop,(∃ m,W 0 m (upd H1 D (.lst [])))∧∀ i m H,W i m H →
   ((Itl K a).stop i H∧G H)∨((Itl K a).go i H∧∀ x H',(Itl K a).yld i H x H'→te' (some x :: tl) H' fun y H2=>∃ ys,H2 D = some (.lst ys)∧ys.length < sizeLine∧∃ m',m' < m∧W (i + 1) m' (upd H2 D (.lst (ys ++ [y])))):=by
 refine ⟨fun i m H=>m = xs.length - i∧i≤xs.length∧Pv i H,⟨xs.length,by simp,Nat.zero_le _,h0⟩,?_⟩
 rintro i m H ⟨rfl,hi,p⟩
 have q:=hl i H hi p
 by_cases hlt:i < xs.length
 ·refine .inr ⟨⟨xs,xs[i],q,by simp [hlt]⟩,fun x H' y=>?_⟩
  obtain ⟨e,y⟩:=y
  subst e
  exact hs i x _ (y xs q) p
 ·have e:i = xs.length:=by omega
  subst e
  exact .inl ⟨⟨xs,q,Nat.le_refl _⟩,hd H p⟩
end
def tJoin (t u:TS):TS:=fun D σ H=>∃ J:L2.St→Hp→Prop,t { D with nx:=J } σ H∧∀ σ' H',J σ' H'→u D σ' H'
theorem pss_join {X:Cx} {st:Stmt} {rest:List Stmt} {t u:TS} (h1:PS X st t) (h2:PSs X rest u):PSs X (st :: rest) (tJoin t u):=by
 intro pins s σ H D I h
 obtain ⟨J,h,hJ⟩:=h
 refine wpAny_execs_cons (thn (h1 pins s σ H { D with nx:=J } I h) fun f s1 q=>?_)
 cases f with
 | next =>
  obtain ⟨σ',H',I',q⟩:=q
  exact h2 pins s1 σ' H' D I' (hJ _ _ q)
 | ret v=>exact q
 | brk=>exact q
 | cont=>exact q
end Ow
namespace Ow
open PySem PySem.Spec PyProof.Rows L2
section
variable {X:Cx}
theorem vals_at {xs:List V} {us:List Value} (r:Vals xs us) {j:Nat} (h1:j < us.length):RelV (xs.getD j .non) us[j]:=by
 have hl:=r.length
 have hj:j < xs.length:=by omega
 obtain ⟨u,hu,ru⟩:=r.get (i:=j) (x:=xs[j]) (List.getElem?_eq_getElem hj)
 rw [List.getElem?_eq_getElem h1] at hu
 rw [List.getD_eq_getElem?_getD,List.getElem?_eq_getElem hj]
 cases hu
 exact ru
end
end Ow
namespace Ow
open PySem PySem.Spec PyProof.Rows L2
section
variable {X:Cx}
def rAddL (K:PySem.W.Frag):R2:=fun x y H Q=>∃ a b xs ys,x = .ref a∧y = .ref b∧SqL K H a xs∧SqL K H b ys∧xs.length + ys.length≤sizeLine∧∀ p,H p = none→Q (.ref p) (upd H p (.lst (xs ++ ys)))
theorem op_addL:OpR X (binaryOp .Add) (rAddL X.K):=by
 intro pins s σ H x y v u Q I rx ry h
 obtain ⟨a,b,xs,ys,rfl,rfl,ha,hb,hz,q⟩:=h
 cases rx
 cases ry
 obtain ⟨its,r,pl,_⟩:=I.list ha
 obtain ⟨its2,r2,pl2,_⟩:=I.list hb
 have hl:=r.length
 have hl2:=r2.length
 obtain ⟨⟨cls,dd,data,sl⟩,ho,hc,n,hd⟩:=id pl.isList
 obtain ⟨⟨cls2,dd2,data2,sl2⟩,ho2,hc2,n2,hd2⟩:=id pl2.isList
 simp only at hc hd hc2 hd2
 subst hc hd hc2 hd2
 have e:its.toArray ++ its2.toArray = (its ++ its2).toArray:=by simp
 refine concat_meets ⟨_,ho,rfl⟩ ⟨_,ho2,rfl⟩ noFill_list_add seq_list_add PySem.F.slot_list_add PySem.F.entry_list_add (PySem.F.args_list_add_2 _ _) (list_addW a b its.toArray its2.toArray n n2 dd dd2 sl sl2 (by simp; omega)) ⟨ho,ho2,?_⟩
 rw [e]
 exact ⟨.ref s.heap.objs.size,_,I.lnew (t':=s.toks) (r.append r2) (by rw [List.length_append]; exact hz),rfl,q _ I.fresh⟩
variable {tg:Expr}
inductive EqD (K:PySem.W.Frag) (H:Hp):Nat→V→V→Bool→Prop where
 | flat {d:Nat} {x y:V} (fx:flatV x = true) (fy:flatV y = true):EqD K H d x y (eqV x y)
 | tup {d:Nat} {p q:Addr} {xs ys:List V} {e:Nat→Bool} (hn:p ≠ q) (hx:SqT K H p xs) (hy:SqT K H q ys) (he:∀ j,j < xs.length→j < ys.length→EqD K H d (xs.getD j .non) (ys.getD j .non) (e j)) :
   EqD K H (d + 1) (.ref p) (.ref q) ((List.range (min xs.length ys.length)).all e && xs.length == ys.length)
 | lst {d:Nat} {p q:Addr} {xs ys:List V} {e:Nat→Bool} (hn:p ≠ q) (hx:SqL K H p xs) (hy:SqL K H q ys) (hl:xs.length = ys.length) (he:∀ j,j < xs.length→EqD K H d (xs.getD j .non) (ys.getD j .non) (e j)) :
   EqD K H (d + 1) (.ref p) (.ref q) ((List.range xs.length).all e)
 | same {d:Nat} {p:Addr}:EqD K H d (.ref p) (.ref p) true
theorem EqD.at {pins:List (Addr × Obj)} {σ:L2.St} {H:Hp} {s:Shared} (I:Inv X pins σ H s):∀ {d:Nat} {x y:V} {b:Bool} {u v:Value} {A:Around},EqD X.K H d x y b→RelV x u→RelV y v→A.units + d < cLine→SeqAt.EqAt A s u v b:=by
 intro d x y b u v A h
 induction h generalizing u v A with
 | flat fx fy=>intro rx ry _; exact eqAt_V rx ry fx fy
 | same=>intro rx ry _; cases rx; cases ry; exact SeqAt.EqAt.same _
 | @tup d p q xs ys e hn hx hy he ih =>
  intro rx ry hu
  cases rx
  cases ry
  obtain ⟨its,r,pl,_⟩:=I.tuple hx
  obtain ⟨its2,r2,pl2,_⟩:=I.tuple hy
  have hl:=r.length
  have hl2:=r2.length
  have:=SeqAt.EqAt.of_refs hn (SeqAt.RcAt.tuples (A:=A) (e:=e) pl pl2 (by omega) (fun j h1 h2=>by
   have h1':j < its.length:=by simpa using h1
   have h2':j < its2.length:=by simpa using h2
   have z:=ih j (by omega) (by omega) (vals_at r h1') (vals_at r2 h2') (A:=A.in1) (by show A.units + 1 + d < _; omega)
   simpa using z))
  simp only [List.size_toArray,← hl,← hl2] at this
  exact this
 | @lst d p q xs ys e hn hx hy hle he ih =>
  intro rx ry hu
  cases rx
  cases ry
  obtain ⟨its,r,pl,_⟩:=I.list hx
  obtain ⟨its2,r2,pl2,_⟩:=I.list hy
  have hl:=r.length
  have hl2:=r2.length
  have:=SeqAt.EqAt.of_refs hn (SeqAt.RcAt.lists (A:=A) (e:=e) pl.isList pl2.isList (by simp only [List.size_toArray]; omega) (by omega) (fun j h1 h2=>by
   have h1':j < its.length:=by simpa using h1
   have h2':j < its2.length:=by simpa using h2
   have z:=ih j (by omega) (vals_at r h1') (vals_at r2 h2') (A:=A.in1) (by show A.units + 1 + d < _; omega)
   simpa using z))
  simp only [List.size_toArray,← hl] at this
  exact this
def rEqLD (K:PySem.W.Frag) (d:Nat) (neg:Bool):R2:=fun x y H Q=>∃ p q xs ys e,x = .ref p∧y = .ref q∧SqL K H p xs∧SqL K H q ys∧xs.length = ys.length∧(∀ j,j < xs.length→EqD K H d (xs.getD j .non) (ys.getD j .non) (e j))∧Q (.bl (if neg = true then !(List.range xs.length).all e else (List.range xs.length).all e)) H
theorem op_neLD {d:Nat} (hu:X.A.units + d + 1 < cLine):OpR X (compareOp .NotEq) (rEqLD X.K d true):=by
 intro pins s σ H x y v u Q I rx ry h
 obtain ⟨p,q,xs,ys,e,rfl,rfl,hp,hq,hle,he,k⟩:=h
 cases rx
 cases ry
 obtain ⟨its,r,pl,_⟩:=I.list hp
 obtain ⟨its2,r2,pl2,_⟩:=I.list hq
 have hl:=r.length
 have hl2:=r2.length
 refine SeqAt.RcNeAt.lists (e:=e) pl.isList pl2.isList (by simp only [List.size_toArray]; omega) (by omega) (fun j h1 h2=>?_) X.prog X.w X.xe _ ⟨.bl _,H,I,rfl,?_⟩
 ·have h1':j < its.length:=by simpa using h1
  have h2':j < its2.length:=by simpa using h2
  have z:=(he j (by omega)).at I (vals_at r h1') (vals_at r2 h2') (A:=X.A.in1) (by show X.A.units + 1 + d < _; omega)
  simpa using z
 ·simp only [List.size_toArray,← hl]
  exact k
end
end Ow
namespace Ow
open PySem PySem.Spec PyProof.Rows L2
section
variable {X:Cx} {tg:Expr}
theorem call_all_bl (hc:X.calm = true):CallR X (.builtin "all") (fun xs H Q=>∃ (a:Addr) (bs:List Bool),xs = [.ref a]∧SqL X.K H a (bs.map V.bl)∧Q (.bl (bs.all id)) H):=by
 intro pins s σ H xs us Q I r h
 obtain ⟨a,bs,rfl,hq,q⟩:=h
 obtain ⟨u,rfl,rx⟩:=vals1 r
 cases rx
 obtain ⟨its,rv,pl,hz⟩:=I.list hq
 have hl:=rv.length
 rw [List.length_map] at hl
 refine call_all_walk (wpAny_pyIter_list pl.isList ?_)
 have hne:a ≠ s.heap.objs.size:=by
  obtain ⟨o,ho,_⟩:=pl.isList
  exact Nat.ne_of_lt (Heap.lt_size ho)
 refine ⟨s.heap.objs.size,_,_,_,_,_,fun j=>bs.getD j false,rfl,Walks.list (A:=X.A.in1) (I.ok.hd hc) s.heap.objs.size a hne its.toArray,⟨⟨_,Heap.get?_push_size _ rfl,rfl,rfl⟩,Heap.IsList.push pl.isList _⟩,?_,?_⟩
 ·intro i v s' Q' E' hP hQ'
  have hP':its[i]? = some v:=by simpa using hP
  have hi:i < its.length:=(List.getElem?_eq_some_iff.mp hP').1
  have hb:(bs.map V.bl)[i]? = some (V.bl (bs.getD i false)):=by
   rw [List.getElem?_map,List.getD_eq_getElem?_getD,List.getElem?_eq_getElem (by omega)]
   rfl
  obtain ⟨u',hu',ru'⟩:=rv.get hb
  rw [hP'] at hu'
  cases hu'
  cases ru'
  exact wpAny_truthy_bool hQ'
 ·intro h' tk hk
  refine ⟨.bl _,H,I.kept (t':=tk) fun b o e=>hk b o (fun z=>?_) (Heap.get?_push_of_some _ e),?_,q⟩
  ·have z':b = s.heap.objs.size:=by simpa using z
   exact absurd (Heap.lt_size e) (by rw [z']; exact Nat.lt_irrefl _)
  ·have e1:(List.range its.toArray.size).all (fun j=>bs.getD j false) = bs.all id:=by
    rw [List.size_toArray,← hl]
    rw [Bool.eq_iff_iff,List.all_eq_true,List.all_eq_true]
    constructor
    ·intro h x hx
     obtain ⟨j,hj,e⟩:=List.getElem_of_mem hx
     have:=h j (List.mem_range.mpr hj)
     rw [List.getD_eq_getElem?_getD,List.getElem?_eq_getElem hj] at this
     show x = true
     rw [← e]
     exact this
    ·intro h j hj
     have hj':=List.mem_range.mp hj
     rw [List.getD_eq_getElem?_getD,List.getElem?_eq_getElem hj']
     exact h _ (List.getElem_mem hj')
   rw [e1]
   rfl
variable {elt iter:Expr} {x:Str} {px pos:Pos} {scope:Scope} {wi:TI} {te:TE} {cl:List (Str × Addr)}
theorem pe_compC (js:List Nat) (ns:List Str) (hc:X.calm = true) (hclos:closureFor scope X.env = pure cl) (hcls:cl.map (·.1) = ns) (hsub:∀ p ∈ cl,X.env.cells.lookup p.1 = some p.2)
  (hno:∀ p ∈ scope.names,p.2 ≠ .cell∧(p.2 = .free→p.1 ∈ ns)) (hkind:scope.kind = .function) (hnames:∀ y ∈ scope.names,y.2 = .local→scope.names.lookup y.1 = some .local) (hx:scope.names.lookup x = some .local)
  (hN:(x :: ns).Nodup) (hkd:∀ y ∈ ns,(Env.kindOf (compEnvC scope cl 0 X.env) y = some .cell∨Env.kindOf (compEnvC scope cl 0 X.env) y = some .free)∧X.env.kindOf y = some .cell)
  (hjl:js.length = ns.length) (hj:js.map (fun j=>X.N[j]?) = ns.map some)
  (hi:PI X (.Name x px) iter wi) (he:∀ C s2 H2 fp,PE (cxComp X (x :: ns) scope cl C s2 H2 fp) elt te)
  (hs:∀ z,foldedSetIterable iter X.env z = pure z:=by intro _; rfl) :
  PE X (.ListComp elt [⟨.Name x px,iter,[],0⟩] scope pos) (tComp wi te fun σ=>js.map fun j=>(σ[j]?).getD none):=by
 refine pe_comp (N:=ns) (cl:=cl) hc hclos (fun n c e=>hsub (n,c) (PySem.mem_of_lookup e)) (fun y hy=>(hno y hy).1) hkind hnames hx (fun y hy=>?_) hN (fun σ=>by rw [List.length_map]; exact hjl) (fun σ i y v _ e1 e2=>?_) hi he hs
 ·have sub:∀ (l:List (Str × NameKind)),(∀ p ∈ l,p.2 ≠ .cell∧(p.2 = .free→p.1 ∈ ns))→∀ p ∈ (l.map fun (n,k)=>if (k == NameKind.free && X.env.scope.kind == ScopeKind.function && X.env.kindOf n == some NameKind.cell) then (n,NameKind.cell) else (n,k)),(p.2 = .cell∨p.2 = .free)→p.1 ∈ ns:=by
   intro l hl p hp hk
   obtain ⟨q,hq,e⟩:=List.mem_map.mp hp
   have h1:=hl q hq
   obtain ⟨n,k⟩:=q
   dsimp only at e
   by_cases hf:k = .free
   ·have h2:=h1.2 hf
    split at e
    ·rw [← e]; exact h2
    ·rw [← e]; exact h2
   ·have hf':(k == NameKind.free) = false:=by
     cases k <;> first | rfl | exact absurd rfl hf
    rw [hf',Bool.false_and,Bool.false_and,if_neg (by decide)] at e
    rw [← e] at hk
    rcases hk with z | z
    ·exact absurd z h1.1
    ·exact absurd z hf
  have hy':y ∈ ns:=by
   rcases hy with z | z
   ·exact sub scope.names hno (y,.cell) (PySem.mem_of_lookup z) (.inl rfl)
   ·exact sub scope.names hno (y,.free) (PySem.mem_of_lookup z) (.inr rfl)
  rw [← hcls] at hy'
  have key:∀ l:List (Str × Addr),y ∈ l.map (·.1)→∃ c,l.lookup y = some c:=by
   intro l
   induction l with
   | nil=>intro h; simp at h
   | cons p r ih =>
    intro h
    by_cases e:y = p.1
    ·exact ⟨p.2,by obtain ⟨p1,p2⟩:=p; dsimp only at e; subst e; simp [List.lookup]⟩
    ·have h':y ∈ r.map (·.1):=by
      rw [List.map_cons] at h
      exact (List.mem_cons.mp h).resolve_left e
     obtain ⟨c,hc'⟩:=ih h'
     refine ⟨c,?_⟩
     obtain ⟨p1,p2⟩:=p
     have:(y == p1) = false:=by simpa using e
     rw [List.lookup_cons,this]
     exact hc'
  exact key cl hy'
 ·have hm:y ∈ ns:=List.mem_of_getElem? e1
  refine ⟨(hkd y hm).1,(hkd y hm).2,?_⟩
  rw [List.getElem?_map] at e2
  cases hji:js[i]? with
  | none=>rw [hji] at e2; cases e2
  | some j =>
   rw [hji] at e2
   have e3:(σ[j]?).getD none = some v:=by
    have:=Option.some.inj e2
    exact this
   have e4:=congrArg (fun l=>l[i]?) hj
   rw [List.getElem?_map,List.getElem?_map,hji,e1] at e4
   have e5:X.N[j]? = some y:=by
    have:=Option.some.inj e4
    exact this
   refine ⟨j,e5,?_⟩
   cases hσ:σ[j]? with
   | none=>rw [hσ] at e3; cases e3
   | some o =>
    rw [hσ] at e3
    have e6:o = some v:=e3
    rw [e6]
structure CHas (P:Program) (w:World) (K:PySem.W.Frag) (mg:Str→Option Value) (base:Heap) (k:Nat) (C:Addr) (x:Str) (ps:List Str) (sp:Sp):Prop where
 ex:∃ (f:Addr) (fd:FuncData),Mk K C f∧FnOk P w K mg base CX0 k f fd ps sp∧Binds K fd ps []∧mg x = some (.ref C)
theorem pe_mkP {k:Nat} {C:Addr} {y:Str} {ps:List Str} {sp:Sp} {p:Pos} {e:Expr} {es:List Expr} {t:TA} (h:CHas X.prog X.w X.K X.mg X.base k C y ps sp) (hr:Room (k + 1) X.A) (hg:Gl X y) (ha:PA X (e :: es) t) (hdb:(y == ("__debug__":Str)) = false:=by decide)
  (he:starEach (e :: es) X.env = (false,eval e X.env) :: starEach es X.env:=by rfl) (hpl:(backTo pos (starEach es X.env)).any (·.1) = false:=by rfl) :
  PE X (.Call (.Name y p) (e :: es) [] pos) (tMake C sp [] E0 t):=by
 obtain ⟨f,fd,M,F,b,m⟩:=h.ex
 exact pe_make M F hr hg m b .nil pass0 ha hdb he hpl
end
end Ow
namespace Ow
open PySem PySem.Spec PyProof.Rows L2
section
variable {X:Cx}
theorem ix_tupK {K:PySem.W.Frag} (h:X.K = K):IxR X (rIxT K):=by
 subst h
 exact ix_tup
variable {elt iter:Expr} {x:Str} {px pos:Pos} {scope:Scope} {wi:TI} {te:TE} {cl:List (Str × Addr)}
end
end Ow
namespace Ow
open PySem PySem.Spec PyProof.Rows L2
section
variable {P:Program} {w:World} {base h h1 h2 B:Heap} {fs:List Addr} {H H':Hp} {l:List Env}
theorem obj_there {a:Addr} {o:HO} (x:ObjOk P w H h a o):∃ ob,h.get? a = some ob:=by
 induction o with
 | lst xs=>obtain ⟨_,_,_,_,e⟩:=x; exact ⟨_,e⟩
 | tup xs=>obtain ⟨_,_,_,o,e,_⟩:=x; exact ⟨_,e⟩
 | dK kvs=>obtain ⟨_,_,_,_,o,_,_,e,_⟩:=x; exact ⟨_,e⟩
 | dT kvs=>obtain ⟨_,_,_,_,o,_,_,e,_⟩:=x; exact ⟨_,e⟩
 | set S n=>obtain ⟨o,_,_,_,e,_⟩:=x; exact ⟨_,e⟩
 | ins C dx fs=>obtain ⟨_,_,_,e,_⟩:=x; exact ⟨_,e⟩
 | own y=>exact x
 | xd fs=>obtain ⟨_,⟨_,_,_,e,_⟩,_⟩:=x; exact ⟨_,e⟩
 | met f y=>exact ⟨_,x⟩
 | rng lo hi=>obtain ⟨_,_,_,e⟩:=x; exact ⟨_,e⟩
 | frz ob u ih=>exact ⟨_,x.1⟩
 | tbl ps=>exact ⟨_,x⟩
 | ext φ=>exact x.2.1
end
section
variable {P:Program} {w:World} {K:PySem.W.Frag} {mg:Str→Option Value} {base:Heap} {N:List Str} {qual:Str} {scope:Scope} {f:Addr} {cdv:Value} {A:Around} {outer:List Env} {s₀:Shared} {H₀:Hp} {E:XK}
end
section
variable {X:Cx} {pins:List (Addr × Obj)} {σ:L2.St} {H:Hp} {s:Shared} {a:Addr} {oe:Obj}
end
section
variable {X:Cx} {k i j:Nat} {f y n c:Str} {ps:List Str} {sp:Sp} {e:Expr} {es:List Expr} {ta:TA} {C₁:Addr} {b₀:Stmt} {suite:List Stmt} {tb:Addr→Obj→TS} {py p pos apos np hpos tpos:Pos}
end
section
variable {prog:Program} {w:World} {A:Around} {E:Value→Shared→Prop} {h:Heap} {g:Array GenState} {d:Drawn} {t:Nat} {os:OsState} {K:PySem.W.Frag} {a C:Addr} {o:Obj}
end
theorem kitc_of {K:PySem.W.Frag} {C D:Addr} {b:Bool} (h1:PySem.W.isClsIn K D = true) (h2:PySem.W.typeIn K (.ref D) = some (.type "type")) (h3:PySem.W.mroIn K C (.ref D) = some b):PySem.W.kitCls K (.ref C) (.ref D) = some b:=by
 unfold PySem.W.kitCls
 have e:((PySem.W.clsIn K D).isSome && PySem.W.typeIn K (.ref D) == some (.type "type")) = true:=by
  rw [h2]
  have h1':(PySem.W.clsIn K D).isSome = true:=h1
  rw [h1',Bool.true_and]
  exact beq_self_eq_true _
 show (if ((PySem.W.clsIn K D).isSome && PySem.W.typeIn K (.ref D) == some (.type "type")) = true then PySem.W.subIn K (.ref C) (.ref D) else none) = _
 rw [if_pos e]
 exact h3
theorem kit_apart {K:PySem.W.Frag} {C D:Addr} (h1:PySem.W.isClsIn K D = true) (h2:PySem.W.typeIn K (.ref D) = some (.type "type")) (h3:PySem.W.mroIn K C (.ref D) = some false) (h4:PySem.W.mroIn K D (.ref D) = some true):PySem.W.kitOne K (.ref C) (.ref D) = some false:=by
 unfold PySem.W.kitOne
 split
 ·next q =>
  have e:C = D:=Value.ref.inj (beq_iff_eq.mp q)
  subst e
  rw [h3] at h4
  cases h4
 ·exact kitc_of h1 h2 h3
end Ow
namespace Ow
open PySem PySem.Spec PyProof.Rows L2
end Ow
namespace Ow
open PySem PySem.Spec PyProof.Rows L2
section
variable {prog:Program} {w:World} {A:Around} {E:Value→Shared→Prop} {s:Shared} {a:Addr} {o:Obj} {ks:List Int} {k:Int} {tk:Tok}
end
end Ow
namespace Ow
open PySem PySem.Spec PyProof.Rows L2
section
variable {prog:Program} {w:World} {A:Around} {R:Result→Shared→Prop} {I:Addr} {fp wr:List Addr} {G:Array GenState→Array GenState→Prop} {n:Nat} {P:Nat→Value→Prop} {St:Nat→Shared→Prop}
end
section
variable {prog:Program} {w:World} {A:Around} {E:Value→Shared→Prop} {s:Shared}
end
end Ow
namespace Ow
open PySem PySem.Spec PyProof.Rows L2
section
variable {prog:Program} {w:World} {A:Around} {E:Value→Shared→Prop} {s:Shared} {S I:Addr} {es:Array (Int × Value)} {ep:Nat} {t:SetTable}
end
end Ow
namespace Ow
open PySem PySem.Spec PyProof.Rows L2
section
variable {prog:Program} {w:World} {A:Around} {E:Value→Shared→Prop} {s:Shared} {S I:Addr} {es:Array (Int × Value)} {ep:Nat} {t:SetTable}
end
end Ow
namespace Ow
open PySem PySem.Spec PyProof.Rows L2
section
variable {prog:Program} {w:World} {A:Around} {E:Value→Shared→Prop} {s:Shared} {S:Addr} {es:Array (Int × Value)} {ep:Nat} {t:SetTable}
end
end Ow
namespace Ow
open PySem PySem.Spec PyProof.Rows L2
section
variable {prog:Program} {w:World} {A:Around} {E:Value→Shared→Prop} {s:Shared} {S:Addr} {es:Array (Int × Value)} {ep:Nat} {t:SetTable}
end
end Ow
namespace Ow
open PySem PySem.Spec PyProof.Rows L2
section
variable {prog:Program} {w:World} {A:Around} {E:Value→Shared→Prop} {s:Shared} {S:Addr} {o:Obj} {ks:List Int}
end
end Ow
namespace Ow
open PySem PySem.Spec PyProof.Rows L2
theorem dk_none {P:Program} {w:World} {H:Hp} (h:Heap) (hb:sysModules < h.objs.size):ObjOk P w H (h.push { cls:=.type "dict",data:=.dict #[] }) h.objs.size (.dK []) :=
 ⟨Nat.zero_le _,beq_eq_false_iff_ne.mpr (Ne.symm (Nat.ne_of_lt hb)),[],.nil,Heap.DictOf.new h⟩
theorem inv_big {X:Cx} {pins:List (Addr × Obj)} {σ:L2.St} {H:Hp} {s:Shared} (I:Inv X pins σ H s):sysModules < s.heap.objs.size:=by
 have h1:=I.ok.mod.glob.lt
 have h2:=Nat.le_trans I.ok.bsz I.sz
 exact Nat.lt_of_lt_of_le (Nat.lt_of_le_of_lt (by decide) h1) h2
def tDNew:TE:=fun _ H Q=>∀ p,H p = none→Q (.ref p) (upd H p (.dK []))
theorem pe_dnewK {X:Cx} {pos:Pos}:PE X (.Dict [] [] pos) tDNew:=fun pins s σ H Q I h =>
 wpAny_Dict_empty ⟨.ref s.heap.objs.size,_,I.laid (a:=s.heap.objs.size) (o:=.dK []) (t':=s.toks) (fun _ _ q=>Heap.get?_push_of_some _ q) (Nat.le_refl _) (dk_none s.heap (inv_big I)),rfl,h _ (I.hok.fresh (Nat.le_refl _))⟩
inductive Th (H:Hp):V→Prop where
 | int (i:Int):Th H (.int i)
 | bl (b:Bool):Th H (.bl b)
 | str (x:Str):Th H (.str x)
 | non:Th H .non
 | lst {a:Addr} {xs:List V} (h:H a = some (.lst xs)):Th H (.ref a)
 | tup {a:Addr} {xs:List V} (h:H a = some (.tup xs)):Th H (.ref a)
 | dct {a:Addr} {kvs:List (Key × V)} (h:H a = some (.dK kvs)):Th H (.ref a)
end Ow
namespace Ow
open PySem PySem.Spec PyProof.Rows L2
def tMethQ (P:Program) (w:World) (K:PySem.W.Frag) (mg:Str→Option Value) (base:Heap) (k:Nat) (m:Str) (ta:TE) (t:TA):TE:=fun σ H Q=>ta σ H fun x H1=>∃ (a C dx:Addr) (fs:List (Str × V)) (ps:List Str) (sp:Sp),x = .ref a∧H1 a = some (.ins C dx fs)∧fs.lookup m = none ∧
 MHas P w K mg base k C m ps sp∧t σ H1 fun vs H2=>sp (x :: (vs ++ [])) H2 Q E0
theorem kit_of {K:PySem.W.Frag} {C D:Addr} (h1:PySem.W.isClsIn K D = true) (h2:PySem.W.typeIn K (.ref D) = some (.type "type")) (h3:PySem.W.mroIn K C (.ref D) = some true):PySem.W.kitOne K (.ref C) (.ref D) = some true:=by
 unfold PySem.W.kitOne
 split
 ·rfl
 ·unfold PySem.W.kitCls
  have e:((PySem.W.clsIn K D).isSome && PySem.W.typeIn K (.ref D) == some (.type "type")) = true:=by
   rw [h2]
   have h1':(PySem.W.clsIn K D).isSome = true:=h1
   rw [h1',Bool.true_and]
   exact beq_self_eq_true _
  show (if ((PySem.W.clsIn K D).isSome && PySem.W.typeIn K (.ref D) == some (.type "type")) = true then PySem.W.subIn K (.ref C) (.ref D) else none) = _
  rw [if_pos e]
  exact h3
end Ow
namespace Ow
open PySem PySem.Spec PyProof.Rows L2
end Ow
namespace Ow
open PySem PySem.Spec PyProof.Rows L2
section
variable {X:Cx}
end
def Its (z:Str):It where
 go:=fun i _=>i < z.cps.size
 yld:=fun i H x H'=>H' = H∧∃ c,z.cps[i]? = some c∧x = .str ⟨#[c]⟩
 stop:=fun i _=>z.cps.size≤i
theorem turn_ascii {P:Program} {w:World} {K:PySem.W.Frag} {tg:Expr} (it:Addr) (z:Str) (t:Tok):Turn P w K tg (Its z) [it] it (fun i h=>h.IsStrIter it "str_ascii_iterator" z t i) where
 mem:=by simp
 obj:=fun i h st b hb=>by
  have e:b = it:=by simpa using hb
  subst e
  obtain ⟨o,e,c,d⟩:=st
  exact ⟨o,e,fun v z=>by rw [d] at z; cases z⟩
 keep:=fun i h h' st k=>let ⟨o,ho,r⟩:=st; ⟨o,k it (by simp) o ho,r⟩
 item:=by
  intro X hP hw hK hc i pins s σ H E I hf st hg
  subst hP hw hK
  obtain ⟨f0,f1,f2,f3,f4,f5⟩:=hf it (by simp)
  have hi:i < z.cps.size:=hg
  refine wpAny_pyNext_ascii_item st (c:=z.cps[i]) (by simp [hi]) fun h' st' sb=>?_
  have I1:Inv X pins σ H { s with heap:=h',toks:=s.toks + 1 }:=I.turned (t':=s.toks + 1) (fun b o hb e=>(sb.2 b hb).trans e) f0 f1 f3 f4 f5
  obtain ⟨o,e,c,d⟩:=id st'
  exact ⟨_,rfl,go_of (s:={ s with heap:=h',toks:=s.toks + 1 }) e c d (by decide) ⟨.str ⟨#[z.cps[i]]⟩,H,I1,⟨_,rfl⟩,⟨rfl,_,by simp [hi],rfl⟩,st',fun b hb=>(hf b hb).1⟩⟩
 done:=by
  intro X hP hw hK hc i pins s σ H E I hf st hg
  subst hP hw hK
  obtain ⟨f0,f1,f2,f3,f4,f5⟩:=hf it (by simp)
  have hi:z.cps.size≤i:=hg
  exact wpAny_pyNext_ascii_end (I.ok.hd hc) st (by simp [hi]) fun h' eb=>⟨rfl,I.turned (t':=s.toks) (fun b o hb e=>eb b o hb e) f0 f1 f3 f4 f5⟩
 self:=fun _ _ _ _ _ st h=>wpAny_pyIter_striter_ascii st h
theorem turn_wide {P:Program} {w:World} {K:PySem.W.Frag} {tg:Expr} (it:Addr) (z:Str) (t:Tok):Turn P w K tg (Its z) [it] it (fun i h=>h.IsStrIter it "str_iterator" z t i) where
 mem:=by simp
 obj:=fun i h st b hb=>by
  have e:b = it:=by simpa using hb
  subst e
  obtain ⟨o,e,c,d⟩:=st
  exact ⟨o,e,fun v z=>by rw [d] at z; cases z⟩
 keep:=fun i h h' st k=>let ⟨o,ho,r⟩:=st; ⟨o,k it (by simp) o ho,r⟩
 item:=by
  intro X hP hw hK hc i pins s σ H E I hf st hg
  subst hP hw hK
  obtain ⟨f0,f1,f2,f3,f4,f5⟩:=hf it (by simp)
  have hi:i < z.cps.size:=hg
  refine wpAny_pyNext_wide_item st (c:=z.cps[i]) (by simp [hi]) fun h' st' sb=>?_
  have I1:Inv X pins σ H { s with heap:=h',toks:=s.toks + 1 }:=I.turned (t':=s.toks + 1) (fun b o hb e=>(sb.2 b hb).trans e) f0 f1 f3 f4 f5
  obtain ⟨o,e,c,d⟩:=id st'
  exact ⟨_,rfl,go_of (s:={ s with heap:=h',toks:=s.toks + 1 }) e c d (by decide) ⟨.str ⟨#[z.cps[i]]⟩,H,I1,⟨_,rfl⟩,⟨rfl,_,by simp [hi],rfl⟩,st',fun b hb=>(hf b hb).1⟩⟩
 done:=by
  intro X hP hw hK hc i pins s σ H E I hf st hg
  subst hP hw hK
  obtain ⟨f0,f1,f2,f3,f4,f5⟩:=hf it (by simp)
  have hi:z.cps.size≤i:=hg
  exact wpAny_pyNext_wide_end (I.ok.hd hc) st (by simp [hi]) fun h' eb=>⟨rfl,I.turned (t':=s.toks) (fun b o hb e=>eb b o hb e) f0 f1 f3 f4 f5⟩
 self:=fun _ _ _ _ _ st h=>wpAny_pyIter_striter_wide st h
def iStr (tl:TE):TI:=fun σ H R=>tl σ H fun x H1=>∃ z,x = .str z∧R (Its z) H1
theorem pi_str {X:Cx} {tg l:Expr} {tl:TE} (hl:PE X l tl):PI X tg l (iStr tl):=by
 intro pins s σ H R I h
 refine thn (hl pins s σ H _ I h) fun v s1 ⟨x,H1,I1,r1,q1⟩=>?_
 obtain ⟨z,e,q⟩:=q1
 subst e
 obtain ⟨t,rfl⟩:=r1
 have ff:∀ b ∈ [s1.heap.objs.size],FpOk X pins H1 b:=fun b hb=>by
  have e:b = s1.heap.objs.size:=by simpa using hb
  subst e
  exact I1.fpOk (Nat.le_refl _) (I1.hok.fresh (Nat.le_refl _))
 cases ha:z.cps.all (· < 128) with
 | true=>exact wpAny_pyIter_ascii ha ⟨s1.heap.objs.size,[s1.heap.objs.size],_,_,H1,rfl,I1.kept (t':=s1.toks) fun b o e=>Heap.get?_push_of_some _ e,turn_ascii _ z t,⟨_,Heap.get?_push_size _ rfl,rfl,rfl⟩,ff,q⟩
 | false=>exact wpAny_pyIter_wide ha ⟨s1.heap.objs.size,[s1.heap.objs.size],_,_,H1,rfl,I1.kept (t':=s1.toks) fun b o e=>Heap.get?_push_of_some _ e,turn_wide _ z t,⟨_,Heap.get?_push_size _ rfl,rfl,rfl⟩,ff,q⟩
end Ow
namespace Ow
open PySem PySem.Spec PyProof.Rows L2
section
variable {prog:Program} {w:World} {K:Type} [DecidableEq K] {knd:KeyKind prog w K} {A:Around} {E:Value→Shared→Prop} {s:Shared}
end
section
variable {prog:Program} {w:World} {A:Around} {E:Value→Shared→Prop} {s:Shared}
end
section
variable {X:Cx}
end
def noStar:Expr→Bool
 | .Starred _ _=>false
 | _=>true
theorem star_cons {e:Expr} (h:noStar e = true) (rest:List Expr) (env:Env):starEach (e :: rest) env = (false,eval e env) :: starEach rest env:=by
 cases e <;> first | rfl | cases h
theorem pa_consN {X:Cx} {e:Expr} {es:List Expr} {te:TE} {t:TA} (ha:PE X e te) (hr:PA X es t) (hn:noStar e = true:=by rfl):PA X (e :: es) (tCons te t):=pa_cons ha hr (star_cons hn es X.env)
structure Sl (p:Prop):Prop where
 out:p
section
variable {X:Cx}
theorem ps_setS {i:Nat} {x:Str} {e:Expr} {te:TE} {pos pos':Pos} (hN:X.N.Nodup) (hi:X.N[i]? = some x) (hx:Loc X.env.scope x) (he:Sl (PE X e te)) (hs:swapsWith e (some (.Name x pos')) pos.line X.env = pure false:=by rfl) (hf:X.fn x = true∨X.env.scope.names.lookup x = some .local:=by first | exact .inl rfl | exact .inr rfl | assumption) :
  Sl (PS X (.Assign [.Name x pos'] e pos) (tAsg te (gName i))):=⟨ps_set hN hi hx he.out hs hf⟩
theorem pe_lstS {es:List Expr} {t:TA} {pos:Pos} (h:Sl (PA X es t)):Sl (PE X (.List es pos) (tLst t)):=⟨pe_lst h.out⟩
theorem pa_consS {e:Expr} {es:List Expr} {te:TE} {t:TA} (ha:PE X e te) (hr:Sl (PA X es t)) (hn:noStar e = true:=by rfl):Sl (PA X (e :: es) (tCons te t)):=⟨pa_consN ha hr.out hn⟩
theorem pa_nilS:Sl (PA X [] tNil):=⟨pa_nil⟩
end
end Ow
namespace L2
open PySem PySem.Spec PyProof.Rows
section
variable {κ:Type} [DecidableEq κ]
def valV (kvs:List (κ × V)) (k:κ):Option V:=(kvs.find? fun kv=>decide (kv.1 = k)).map (·.2)
def putK (kvs:List (κ × V)) (k:κ) (v:V):List (κ × V) :=
 if (kvs.any fun kv=>decide (kv.1 = k)) = true then kvs.map (fun kv=>if kv.1 = k then (kv.1,v) else kv) else kvs ++ [(k,v)]
theorem valV_pos {p:κ × V} {r:List (κ × V)} {k:κ} (e:p.1 = k):valV (p :: r) k = some p.2:=by simp [valV,List.find?_cons,e]
theorem valV_neg {p:κ × V} {r:List (κ × V)} {k:κ} (e:¬ p.1 = k):valV (p :: r) k = valV r k:=by simp [valV,List.find?_cons,e]
theorem valV_any (k:κ):∀ kvs:List (κ × V),(kvs.any fun kv=>decide (kv.1 = k)) = (valV kvs k).isSome
 | []=>rfl
 | p :: r=>by
  rw [List.any_cons]
  by_cases e:p.1 = k
  ·simp only [valV_pos e,decide_eq_true e,Bool.true_or,Option.isSome_some]
  ·rw [valV_neg e,decide_eq_false e,Bool.false_or]; exact valV_any k r
theorem valV_map (k j:κ) (y:V):∀ kvs:List (κ × V),valV (kvs.map fun kv=>if kv.1 = k then (kv.1,y) else kv) j = (valV kvs j).map fun x=>if j = k then y else x
 | []=>rfl
 | p :: r=>by
  have ih:=valV_map k j y r
  rw [List.map_cons]
  by_cases h:p.1 = k
  ·rw [if_pos h]
   by_cases e:p.1 = j
   ·rw [valV_pos (p:=(p.1,y)) e,valV_pos e,Option.map_some,if_pos (e.symm.trans h)]
   ·rw [valV_neg (p:=(p.1,y)) e,valV_neg e,ih]
  ·rw [if_neg h]
   by_cases e:p.1 = j
   ·rw [valV_pos (p:=p) e,valV_pos e,Option.map_some,if_neg (fun z=>h (e.trans z))]
   ·rw [valV_neg (p:=p) e,valV_neg e,ih]
theorem valV_snoc (k j:κ) (y:V):∀ kvs:List (κ × V),valV kvs k = none→valV (kvs ++ [(k,y)]) j = if j = k then some y else valV kvs j
 | [],_=>by
  by_cases e:k = j
  ·rw [if_pos e.symm]; exact valV_pos (p:=(k,y)) e
  ·rw [if_neg (fun z=>e z.symm)]; exact valV_neg (p:=(k,y)) e
 | p :: r,hn=>by
  rw [List.cons_append]
  have hk:¬ p.1 = k:=fun z=>by rw [valV_pos z] at hn; cases hn
  rw [valV_neg hk] at hn
  have ih:=valV_snoc k j y r hn
  by_cases e:p.1 = j
  ·rw [valV_pos e,valV_pos e,if_neg (fun z=>hk (e.trans z))]
  ·rw [valV_neg e,valV_neg e,ih]
theorem valV_put (kvs:List (κ × V)) (k j:κ) (y:V):valV (putK kvs k y) j = if j = k then some y else valV kvs j:=by
 unfold putK
 by_cases a:(kvs.any fun kv=>decide (kv.1 = k)) = true
 ·rw [if_pos a,valV_map]
  rw [valV_any] at a
  by_cases e:j = k
  ·obtain ⟨x,hx⟩:=Option.isSome_iff_exists.mp a
   rw [if_pos e,e,hx,Option.map_some,if_pos rfl]
  ·rw [if_neg e]
   cases valV kvs j with
   | none=>rfl
   | some x=>rw [Option.map_some,if_neg e]
 ·rw [if_neg a]
  refine valV_snoc k j y kvs ?_
  rw [valV_any] at a
  cases q:valV kvs k with
  | none=>rfl
  | some x=>rw [q] at a; exact (a rfl).elim
theorem length_putK (kvs:List (κ × V)) (k:κ) (v:V):(putK kvs k v).length≤kvs.length + 1:=by
 unfold putK
 split
 ·rw [List.length_map]; omega
 ·rw [List.length_append,List.length_cons,List.length_nil]; omega
theorem putK_new {kvs:List (κ × V)} {k:κ} (v:V) (h:valV kvs k = none):putK kvs k v = kvs ++ [(k,v)]:=by
 unfold putK
 rw [valV_any,h]
 exact if_neg (by decide)
theorem RelO.isSome_eq {o:Option V} {u:Option Value} (r:RelO o u):o.isSome = u.isSome:=by
 cases o with
 | none=>cases u with
  | none=>rfl
  | some _=>exact (show False from r).elim
 | some _=>cases u with
  | none=>exact (show False from r).elim
  | some _=>rfl
theorem RelO.getD {o:Option V} {u:Option Value} {d:V} {d':Value} (r:RelO o u) (rd:RelV d d'):RelV (o.getD d) (u.getD d'):=by
 cases o with
 | none=>cases u with
  | none=>exact rd
  | some _=>exact (show False from r).elim
 | some _=>cases u with
  | none=>exact (show False from r).elim
  | some _=>exact r
theorem KV.val {kvs:List (κ × V)} {vs:List (κ × Value)} (r:KV kvs vs) (k:κ):RelO (valV kvs k) (valueAt vs k):=by
 unfold KV at r
 induction r with
 | nil=>exact True.intro
 | @cons p q ps qs h t ih =>
  obtain ⟨h1,h2⟩:=h
  by_cases e:p.1 = k
  ·have e':q.1 = k:=h1.symm.trans e
   have b:valueAt (q :: qs) k = some q.2:=by simp [valueAt,List.find?_cons,e']
   rw [valV_pos e,b]; exact h2
  ·have e':¬ q.1 = k:=fun z=>e (h1.trans z)
   have b:valueAt (q :: qs) k = valueAt qs k:=by simp [valueAt,List.find?_cons,e']
   rw [valV_neg e,b]; exact ih
theorem KV.any {kvs:List (κ × V)} {vs:List (κ × Value)} (r:KV kvs vs) (k:κ):(kvs.any fun kv=>decide (kv.1 = k)) = vs.any fun kv=>decide (kv.1 = k):=by
 unfold KV at r
 induction r with
 | nil=>rfl
 | cons h t ih=>rw [List.any_cons,List.any_cons,ih,h.1]
theorem KV.repl {kvs:List (κ × V)} {vs:List (κ × Value)} (r:KV kvs vs) (k:κ) {y:V} {u:Value} (ry:RelV y u) :
  KV (kvs.map fun kv=>if kv.1 = k then (kv.1,y) else kv) (vs.map fun kv=>if kv.1 = k then (kv.1,u) else kv):=by
 unfold KV at r ⊢
 induction r with
 | nil=>exact .nil
 | @cons p q ps qs h t ih =>
  rw [List.map_cons,List.map_cons]
  refine .cons ?_ ih
  obtain ⟨h1,h2⟩:=h
  by_cases e:p.1 = k
  ·rw [if_pos e,if_pos (h1.symm.trans e)]; exact ⟨h1,ry⟩
  ·rw [if_neg e,if_neg (fun z=>e (h1.trans z))]; exact ⟨h1,h2⟩
theorem KV.put {kvs:List (κ × V)} {vs:List (κ × Value)} (r:KV kvs vs) (k:κ) {y:V} {u:Value} (ry:RelV y u):KV (putK kvs k y) (stored vs k u):=by
 unfold putK stored
 rw [r.any k]
 by_cases e:(vs.any fun kv=>decide (kv.1 = k)) = true
 ·rw [if_pos e,if_pos e]; exact r.repl k ry
 ·rw [if_neg e,if_neg e]; exact Paired.snoc r ⟨rfl,ry⟩
theorem KV.keys {kvs:List (κ × V)} {vs:List (κ × Value)} (r:KV kvs vs):kvs.map (·.1) = vs.map (·.1):=by
 unfold KV at r
 induction r with
 | nil=>rfl
 | cons h t ih=>rw [List.map_cons,List.map_cons,ih,h.1]
theorem KV.length {kvs:List (κ × V)} {vs:List (κ × Value)} (r:KV kvs vs):kvs.length = vs.length:=Paired.length r
end
theorem kV_is {P:Program} {w:World} {k:Key} {u:Value} (r:RelV (kV k) u):(mixKind P w).is k u = true:=by
 cases k with
 | inl i=>obtain ⟨t,e⟩:=(show ∃ t,u = Value.int i t from r); subst e; exact mixKind_int P w i t
 | inr x=>obtain ⟨t,e⟩:=(show ∃ t,u = Value.str x t from r); subst e; exact mixKind_str P w x t
theorem items_are {P:Program} {w:World}:∀ {ks:List Key} {us:List Value},Vals (ks.map kV) us→ItemsAre (mixKind P w) ks us
 | [],_,r=>by rw [List.map_nil] at r; cases r; exact .nil
 | k :: ks,_,r=>by
  rw [List.map_cons] at r
  cases r with
  | cons h t=>exact .cons (kV_is h) (items_are t)
abbrev KT (H:Hp):List (List Key × V)→List (List Key × Addr × Value)→Prop:=Paired fun p q=>p.1 = q.1∧H q.2.1 = some (.tup (p.1.map kV))∧RelV p.2 q.2.2
theorem KT.val {H:Hp} {kvs:List (List Key × V)} {xs:List (List Key × Addr × Value)} (r:KT H kvs xs) (k:List Key):RelO (valV kvs k) ((atKey xs k).map (·.2)):=by
 induction r with
 | nil=>exact True.intro
 | @cons p q ps qs h t ih =>
  obtain ⟨h1,_,h2⟩:=h
  by_cases e:p.1 = k
  ·have e':q.1 = k:=h1.symm.trans e
   have b:atKey (q :: qs) k = some q.2:=by simp [atKey,List.find?_cons,e']
   rw [valV_pos e,b]; exact h2
  ·have e':¬ q.1 = k:=fun z=>e (h1.trans z)
   have b:atKey (q :: qs) k = atKey qs k:=by simp [atKey,List.find?_cons,e']
   rw [valV_neg e,b]; exact ih
theorem KT.repl {H:Hp} {kvs:List (List Key × V)} {xs:List (List Key × Addr × Value)} (r:KT H kvs xs) (k:List Key) {y:V} {u:Value} (ry:RelV y u) :
  KT H (kvs.map fun kv=>if kv.1 = k then (kv.1,y) else kv) (xs.map (putAt k u)):=by
 induction r with
 | nil=>exact .nil
 | @cons p q ps qs h t ih =>
  rw [List.map_cons,List.map_cons]
  refine .cons ?_ ih
  obtain ⟨h1,h2,h3⟩:=h
  unfold putAt
  by_cases e:p.1 = k
  ·rw [if_pos e,if_pos (h1.symm.trans e)]; exact ⟨h1,h2,ry⟩
  ·rw [if_neg e,if_neg (fun z=>e (h1.trans z))]; exact ⟨h1,h2,h3⟩
theorem KT.put {H:Hp} {kvs:List (List Key × V)} {xs:List (List Key × Addr × Value)} (r:KT H kvs xs) (k:List Key) {b:Addr} {y:V} {u:Value} (hb:H b = some (.tup (k.map kV))) (ry:RelV y u) :
  KT H (putK kvs k y) (storedH xs k b u):=by
 have e:(kvs.any fun kv=>decide (kv.1 = k)) = (atKey xs k).isSome:=by
  rw [valV_any,(r.val k).isSome_eq,Option.isSome_map]
 unfold putK storedH
 rw [e]
 by_cases q:(atKey xs k).isSome = true
 ·rw [if_pos q,if_pos q]; exact r.repl k ry
 ·rw [if_neg q,if_neg q]; exact Paired.snoc r ⟨rfl,hb,ry⟩
theorem KT.keeps {H H':Hp} {kvs:List (List Key × V)} {xs:List (List Key × Addr × Value)} (r:KT H kvs xs) (ht:∀ b ys,H b = some (.tup ys)→H' b = some (.tup ys)):KT H' kvs xs :=
 Paired.mapP r fun _ _ z=>⟨z.1,ht _ _ z.2.1,z.2.2⟩
section
variable {P:Program} {w:World} {H:Hp} {h:Heap} {a:Addr}
theorem rd_of {u:HO} (ok:HOk P w H h) (e:Rd H a u):ObjOk P w H h a u:=e.ok ok
theorem dk_rd {kvs:List (Key × V)} (ok:HOk P w H h) (e:Rd H a (.dK kvs)):kvs.length≤sizeLine∧(a == sysModules) = false∧∃ vs,KV kvs vs∧h.DictOf (mixKind P w) a vs :=
 show ObjOk P w H h a (.dK kvs) from rd_of ok e
theorem dk_of {kvs:List (Key × V)} (ok:HOk P w H h) (e:H a = some (.dK kvs)):kvs.length≤sizeLine∧(a == sysModules) = false∧∃ vs,KV kvs vs∧h.DictOf (mixKind P w) a vs:=dk_rd ok (.inl e)
theorem key_of {ks:List Key} (ok:HOk P w H h) (e:H a = some (.tup (ks.map kV))):(tupleKind (mixKind P w)).is h ks a:=by
 obtain ⟨_,its,r,o,h1,h2,n,h3⟩:=(show ObjOk P w H h a (.tup (ks.map kV)) from ok a _ e)
 exact ⟨o,its.toArray,n,h1,h2,h3,by simpa using items_are r⟩
theorem dt_rd {kvs:List (List Key × V)} (ok:HOk P w H h) (e:Rd H a (.dT kvs)):kvs.length≤sizeLine∧(a == sysModules) = false ∧
  ∃ xs,KT H kvs xs∧h.DictOfH (tupleKind (mixKind P w)) a xs:=by
 obtain ⟨z,y,xs,r,o,es,ep,h1,h2,h3,h4,h5⟩:=(show ObjOk P w H h a (.dT kvs) from rd_of ok e)
 refine ⟨z,y,xs,r,o,es,ep,h1,h2,h3,h4,fun x hx=>?_,h5⟩
 have all:∀ {l:List (List Key × V)} {m:List (List Key × Addr × Value)},KT H l m→∀ x ∈ m,(tupleKind (mixKind P w)).is h x.1 x.2.1:=by
  intro l m q
  induction q with
  | nil=>intro x hx; exact nomatch hx
  | @cons p q ps qs hq t ih =>
   intro x hx
   rcases List.mem_cons.mp hx with e | hx
   ·subst e
    exact key_of ok (by rw [← hq.1]; exact hq.2.1)
   ·exact ih x hx
 exact all r x hx
theorem dt_of {kvs:List (List Key × V)} (ok:HOk P w H h) (e:H a = some (.dT kvs)):kvs.length≤sizeLine∧(a == sysModules) = false ∧
  ∃ xs,KT H kvs xs∧h.DictOfH (tupleKind (mixKind P w)) a xs:=dt_rd ok (.inl e)
end
def DGet (H:Hp) (a:Addr) (y:V) (r:Option V):Prop :=
 (∃ kvs k,Rd H a (.dK kvs)∧y = kV k∧r = valV kvs k)∨∃ kvs k b,Rd H a (.dT kvs)∧y = .ref b∧H b = some (.tup (k.map kV))∧r = valV kvs k
def DPut (H:Hp) (a:Addr) (y v:V) (H':Hp):Prop :=
 (∃ kvs k,H a = some (.dK kvs)∧y = kV k∧kvs.length < sizeLine∧H' = upd H a (.dK (putK kvs k v))) ∨
 ∃ kvs k b,H a = some (.dT kvs)∧y = .ref b∧H b = some (.tup (k.map kV))∧kvs.length < sizeLine∧H' = upd H a (.dT (putK kvs k v))
theorem DGet.k {H:Hp} {a:Addr} {kvs:List (Key × V)} {k:Key} (e:H a = some (.dK kvs)):DGet H a (kV k) (valV kvs k):=.inl ⟨kvs,k,.inl e,rfl,rfl⟩
theorem DPut.k {H:Hp} {a:Addr} {kvs:List (Key × V)} {k:Key} {v:V} (e:H a = some (.dK kvs)) (hl:kvs.length < sizeLine):DPut H a (kV k) v (upd H a (.dK (putK kvs k v))):=.inl ⟨kvs,k,e,rfl,hl,rfl⟩
section
variable {X:Cx} {pins:List (Addr × Obj)} {σ:St} {H:Hp} {s:Shared} {a:Addr} {y v:V} {u r:Value} {o:Option V} {A:Around} {E:Value→Shared→Prop}
theorem Inv.big (I:Inv X pins σ H s):sysModules < s.heap.objs.size:=by
 have h:mainGlobals < s.heap.objs.size:=(I.mod.glob.keeps I.bk).lt
 exact Nat.lt_trans (by decide) h
theorem d_getItem {Q:Value→Shared→Prop} (hu:A.units + 1 < cLine) (I:Inv X pins σ H s) (g:DGet H a y (some v)) (ry:RelV y u) (h:∀ w' s',Inv X pins σ H s'→RelV v w'→Q w' s') :
  wpAny (model X.prog X.w) A (getItem (.ref a) u) Q E s:=by
 rcases g with ⟨kvs,k,e,ey,l⟩ | ⟨kvs,k,b,e,ey,eb,l⟩
 ·subst ey
  obtain ⟨z,hd,vs,rel,dd⟩:=dk_rd I.hok e
  obtain ⟨w',hw,rw'⟩:=RelO.some_of (v:=v) (o:=valueAt vs k) (by rw [l]; exact rel.val k)
  exact wpAny_getItem_of (kV_is ry) dd.mapOf hw (h w' _ (I.tok _) rw')
 ·subst ey
  cases (show u = Value.ref b from ry)
  obtain ⟨z,hd,xs,rel,dd⟩:=dt_rd I.hok e
  obtain ⟨w',hw,rw'⟩:=RelO.some_of (v:=v) (o:=(atKey xs k).map (·.2)) (by rw [l]; exact rel.val k)
  obtain ⟨p,hp,hp2⟩:=Option.map_eq_some_iff.mp hw
  refine wpAny_getItem_heap (tupleKind_room_in1 hu) (key_of I.hok eb) dd hp ?_
  rw [hp2]
  exact h w' _ (I.tok _) rw'
theorem d_write {h':Heap} {t':Nat} {ob:HO} (I:Inv X pins σ H s) (mu:Mut (H a)) (hs:Heap.SameBut a s.heap h') (he:∃ q,h'.get? a = some q) (new:ObjOk X.prog X.w (upd H a ob) h' a ob) :
  Inv X pins σ (upd H a ob) { s with heap:=h',toks:=t' } :=
 I.write (x:=a) (e:=a) mu (.inl rfl) (fun b q hb z=>(hs.2 b hb).trans z) he new
theorem dk_new {P:Program} {w:World} {H':Hp} {h':Heap} {kvs:List (Key × V)} {vs:List (Key × Value)} (z:kvs.length≤sizeLine) (hd:(a == sysModules) = false) (rel:KV kvs vs) (dd:h'.DictOf (mixKind P w) a vs) :
  ObjOk P w H' h' a (.dK kvs):=⟨z,hd,vs,rel,dd⟩
theorem d_setItem {H':Hp} {Q:Unit→Shared→Prop} (hu:A.units + 1 < cLine) (I:Inv X pins σ H s) (g:DPut H a y v H') (ry:RelV y u) (rv:RelV v r) (h:∀ s',Inv X pins σ H' s'→Q () s') :
  wpAny (model X.prog X.w) A (setItem (.ref a) u r) Q E s:=by
 rcases g with ⟨kvs,k,e,ey,l,eH⟩ | ⟨kvs,k,b,e,ey,eb,l,eH⟩
 ·subst ey eH
  obtain ⟨z,hd,vs,rel,dd⟩:=dk_of I.hok e
  have hz:vs.length≤sizeLine:=by rw [← rel.length]; exact z
  have hl:(putK kvs k v).length≤sizeLine:=by have:=length_putK kvs k v; omega
  refine wpAny_setItem_pairs (hsz:=hz) (kV_is ry) dd fun h' dd' hs=>h _ ?_
  have he:∃ q,h'.get? a = some q:=let ⟨q,_,_,hq,_⟩:=dd'; ⟨q,hq⟩
  exact d_write I (by rw [e]; exact True.intro) hs he (dk_new hl hd (rel.put k rv) dd')
 ·subst ey eH
  cases (show u = Value.ref b from ry)
  obtain ⟨z,hd,xs,rel,dd⟩:=dt_of I.hok e
  have hz:xs.length≤sizeLine:=by rw [← Paired.length rel]; exact z
  have hl:(putK kvs k v).length≤sizeLine:=by have:=length_putK kvs k v; omega
  refine wpAny_setItem_heap (hsz:=hz) (tupleKind_room_in1 hu) (key_of I.hok eb) dd fun h' dd' hs=>h _ ?_
  obtain ⟨q,es,ep,hq,h2,h3,h4,_,h5⟩:=dd'
  refine d_write I (by rw [e]; exact True.intro) hs ⟨q,hq⟩ ⟨hl,hd,_,(rel.put k eb rv).keeps fun c ys ec=>?_,q,es,ep,hq,h2,h3,h4,h5⟩
  rw [upd_ne (ne_of ec e (fun z=>nomatch z))]
  exact ec
end
section
variable {X:Cx} {pins:List (Addr × Obj)} {σ:St} {H:Hp} {s:Shared} {a:Addr} {kvs:List (Key × V)} {k:Key} {u:Value} {A:Around} {E:Value→Shared→Prop}
end
def NoSl (i:Expr):Prop:=∀ ov iv,subscripted i false ov iv = operate [ov,iv] (getItem ov iv)
theorem subD_of {prog:Program} {w:World} {A:Around} {E:Value→Shared→Prop} {s:Shared} {env:Env} {value slice:Expr} {pos:Pos} {T id:String} {Q:Value→Shared→Prop}
  (hl:typeLookup (.type T) "__getitem__" = pure (some (.builtin id))) (hs:NoSl slice)
  (h:wpAny (model prog w) A (eval value env) (fun o s₁=>wpAny (model prog w) A (eval slice env) (fun i s₂=>s₂.TypeIs o T∧wpAny (model prog w) A (getItem o i) Q E s₂) E s₁) E s) :
  wpAny (model prog w) A (eval (.Subscript value slice pos) env) Q E s:=by
 refine Subscript_ (wpAny_mono h (fun o s₁ h₁=>wpAny_mono h₁ (fun i s₂ h₂=>?_) fun _ _ x=>x) fun _ _ x=>x)
 obtain ⟨hT,h₂⟩:=h₂
 unfold subscriptTail
 refine wpAny_bind ?_
 rw [getitemInPython_of_ne hT.not_modules]
 refine wpAny_bind (wpAny_specialOf hT hl ?_)
 have fin:wpAny (model prog w) A (subscripted slice false o i) (fun r s₃=>wpAny (model prog w) A (letTemporaryGo value o r >>= fun _=>pure r) Q E s₃) E s₂:=by
  rw [hs o i]
  exact wpAny_operating (wpAny_mono h₂ (fun r s₃ h₃=>wpAny_bind (wpAny_letTemporaryGo (wpAny_pure h₃))) fun _ _ x=>x)
 first
  | exact wpAny_pure (wpAny_bind fin)
  | exact wpAny_bind (wpAny_pure (wpAny_bind fin))
  | exact wpAny_bind fin
theorem dict_typeIs {X:Cx} {pins:List (Addr × Obj)} {σ:St} {H:Hp} {s:Shared} {a:Addr} {y:V} {o:Option V} (I:Inv X pins σ H s) (g:DGet H a y o):s.TypeIs (.ref a) "dict":=by
 rcases g with ⟨kvs,k,e,_,_⟩ | ⟨kvs,k,b,e,_,_,_⟩
 ·obtain ⟨_,_,vs,_,dd⟩:=dk_rd I.hok e
  exact dd.typeIs
 ·obtain ⟨_,_,xs,_,dd⟩:=dt_rd I.hok e
  exact dd.typeIs
def tDGet (td ty:TE):TE:=fun σ H Q=>td σ H fun x H1=>ty σ H1 fun y H2=>∃ a v,x = .ref a∧DGet H2 a y (some v)∧Q v H2
def sDPut (td ty tv:TE):TS:=fun D σ H=>tv σ H fun v H1=>td σ H1 fun x H2=>ty σ H2 fun y H3=>∃ a H4,x = .ref a∧DPut H3 a y v H4∧D.nx σ H4
section
variable {X:Cx} {o i e value:Expr} {pos pos' tpos:Pos} {td ty tv:TE}
theorem pe_dget (hu:X.A.units + 1 < cLine) (ho:PE X o td) (hi:PE X i ty) (hs:NoSl i):PE X (.Subscript o i pos) (tDGet td ty):=by
 intro pins s σ H Q I h
 refine subD_of PySem.F.slot_dict_getitem.lookup hs (thn (ho pins s σ H _ I h) fun u s1 ⟨x,H1,I1,rx,q1⟩=>thn (hi pins s1 σ H1 _ I1 q1) fun iv s2 ⟨y,H2,I2,ry,a,v,ex,g,q2⟩=>?_)
 subst ex
 obtain rfl:u = Value.ref a:=rx
 exact ⟨dict_typeIs I2 g,d_getItem hu I2 g ry fun w' s3 I3 rw'=>⟨v,H2,I3,rw',q2⟩⟩
theorem ps_dput (hu:X.A.units + 1 < cLine) (ho:PE X o td) (hi:PE X i ty) (hv:PE X value tv) (hs:swapsWith value (some (.Subscript o i pos')) pos.line X.env = pure false) :
  PS X (.Assign [.Subscript o i pos'] value pos) (sDPut td ty tv):=by
 intro pins s σ H D I h
 refine wpAny_Assign_Subscript (thn (hv pins s σ H _ I h) fun r s1 ⟨v,H1,I1,rv,q1⟩=>thn (ho pins s1 σ H1 _ I1 q1) fun u s2 ⟨x,H2,I2,rx,q2⟩=>thn (hi pins s2 σ H2 _ I2 q2) fun iv s3 ⟨y,H3,I3,ry,a,H4,ex,g,q3⟩=>?_) hs
 subst ex
 obtain rfl:u = Value.ref a:=rx
 exact d_setItem hu I3 g ry rv fun s4 I4=>⟨σ,H4,I4,q3⟩
end
section
variable {X:Cx} {pos:Pos}
end
structure M2 (X:Cx) (o:Expr) (m:Str) (apos:Pos) (e f:Expr) (cpos:Pos):Prop where
 base:attributeBase o m X.env (eval o X.env) = eval o X.env
 few:((backTo cpos (starEach [e,f] X.env)).all (fun x=>!x.1) && (backToKw cpos (keywordEach [] X.env)).all (fun x=>x.1.isSome)
  && decide (([e,f]:List Expr).length + ([]:List Keyword).length + (if ([]:List Keyword).isEmpty then 0 else 1) < 30)) = true
 line:(apos.endLine == cpos.line) = true
 trees:backTo cpos (starEach [e,f] X.env) = [(false,eval e X.env),(false,eval f X.env)]
def IsD (H:Hp) (a:Addr):Prop:=(∃ kvs,Rd H a (.dK kvs))∨∃ kvs,Rd H a (.dT kvs)
theorem isD_at {X:Cx} {pins:List (Addr × Obj)} {σ:St} {H:Hp} {s:Shared} {a:Addr} (I:Inv X pins σ H s) (d:IsD H a) :
  s.TypeIs (.ref a) "dict"∧(∀ b,Value.ref a = .ref b→∃ ob,s.heap.get? b = some ob∧ob.dict = none)∧(a == sysModules) = false:=by
 rcases d with ⟨kvs,e⟩ | ⟨kvs,e⟩
 ·obtain ⟨_,hd,vs,_,dd⟩:=dk_rd I.hok e
  refine ⟨dd.typeIs,fun b q=>?_,hd⟩
  cases q
  obtain ⟨ob,_,_,h1,h2,_⟩:=dd
  exact ⟨ob,h1,h2.2.1⟩
 ·obtain ⟨_,hd,xs,_,dd⟩:=dt_rd I.hok e
  refine ⟨dd.typeIs,fun b q=>?_,hd⟩
  cases q
  obtain ⟨ob,_,_,h1,h2,_⟩:=dd
  exact ⟨ob,h1,h2.2.1⟩
section
variable {X:Cx} {pins:List (Addr × Obj)} {σ:St} {H:Hp} {s:Shared} {a:Addr} {y d:V} {u r:Value} {o:Option V} {A:Around} {E:Value→Shared→Prop}
theorem d_get2 {Q:Value→Shared→Prop} (hu:A.units + 1 < cLine) (I:Inv X pins σ H s) (g:DGet H a y o) (ry:RelV y u) (rd:RelV d r) (h:∀ w' s',Inv X pins σ H s'→RelV (o.getD d) w'→Q w' s') :
  wpAny (model X.prog X.w) A (call (.builtin "dict.get") [.ref a,u,r]) Q E s:=by
 rcases g with ⟨kvs,k,e,ey,l⟩ | ⟨kvs,k,b,e,ey,eb,l⟩
 ·subst ey
  obtain ⟨z,hd,vs,rel,dd⟩:=dk_rd I.hok e
  refine call_meetsIn PySem.F.slot_dict_get dd.typeIs PySem.F.entry_dict_get (PySem.F.args_dict_get_3 _ _ _) (meets_dict_get_default (mixKind X.prog X.w) a (kV_is ry) hd r) ⟨_,dd.mapOf,h _ _ (I.tok _) ?_⟩
  rw [l]
  exact (rel.val k).getD rd
 ·subst ey
  cases (show u = Value.ref b from ry)
  obtain ⟨z,hd,xs,rel,dd⟩:=dt_rd I.hok e
  refine call_meetsIn PySem.F.slot_dict_get dd.typeIs PySem.F.entry_dict_get (PySem.F.args_dict_get_3 _ _ _) (meetsH_dict_get_default (tupleKind (mixKind X.prog X.w)) a b hd r) ⟨tupleKind_room_in1 hu,k,xs,key_of I.hok eb,dd,h _ _ (I.tok _) ?_⟩
  rw [l]
  exact (rel.val k).getD rd
end
section
variable {X:Cx} {o e f:Expr} {apos cpos:Pos} {td ty tx:TE}
end
section
variable {X:Cx} {pins:List (Addr × Obj)} {σ:St} {H:Hp} {s:Shared} {a:Addr} {kvs:List (Key × V)} {A:Around} {E:Value→Shared→Prop}
theorem d_copyOf {Q:Value→Shared→Prop} (I:Inv X pins σ H s) (e:Rd H a (.dK kvs)) (h:∀ p s',H p = none→Inv X pins σ (upd H p (.dK kvs)) s'→Q (.ref p) s'):wpAny (model X.prog X.w) A (call (.type "dict") [.ref a]) Q E s:=by
 obtain ⟨z,hd,vs,rel,dd⟩:=dk_rd I.hok e
 refine kt_call_dict hd dd (by rw [← rel.length]; exact z) fun h' dd' hs=>?_
 refine h _ _ (I.hok.fresh (Nat.le_refl _)) (I.laid (a:=s.heap.objs.size) (o:=.dK kvs) (t':=s.toks) (fun b q hq=>?_) (Nat.le_refl _) (dk_new z (beq_eq_false_iff_ne.mpr (Ne.symm (Nat.ne_of_lt I.big))) rel dd'))
 exact (hs.2 b (Nat.ne_of_lt (Heap.lt_size hq))).trans (Heap.get?_push_of_some _ hq)
end
section
variable {X:Cx} {pins:List (Addr × Obj)} {σ:St} {H:Hp} {s:Shared} {a:Addr} {y:V} {u:Value} {A:Around} {E:Value→Shared→Prop}
end
end L2
namespace L2
open PySem PySem.Spec PyProof.Rows
section
variable {κ:Type} [DecidableEq κ]
theorem valV_not {kvs:List (κ × V)} {k:κ} (h:valV kvs k = none):¬ k ∈ kvs.map (·.1):=by
 intro m
 obtain ⟨p,hp,e⟩:=List.mem_map.mp m
 have q:(kvs.any fun kv=>decide (kv.1 = k)) = true:=List.any_eq_true.mpr ⟨p,hp,decide_eq_true e⟩
 rw [valV_any,h] at q
 exact absurd q (by simp)
theorem nd_snoc:∀ {l:List κ} {k:κ},l.Nodup→¬ k ∈ l→(l ++ [k]).Nodup
 | [],k,_,_=>by simp
 | a :: r,k,h,hk=>by
  obtain ⟨h1,h2⟩:=List.nodup_cons.mp h
  show (a :: (r ++ [k])).Nodup
  refine List.nodup_cons.mpr ⟨fun m=>?_,nd_snoc h2 fun m=>hk (List.mem_cons.mpr (Or.inr m))⟩
  rcases List.mem_append.mp m with q | q
  ·exact h1 q
  ·exact hk (List.mem_cons.mpr (Or.inl (List.mem_singleton.mp q).symm))
theorem nd_putK {kvs:List (κ × V)} {k:κ} (v:V) (hn:(kvs.map (·.1)).Nodup) (h:valV kvs k = none):((putK kvs k v).map (·.1)).Nodup:=by
 rw [putK_new v h,List.map_append]
 exact nd_snoc hn (valV_not h)
end
end L2
namespace Ow
open PySem PySem.Spec PyProof.Rows L2
section
variable {X:Cx} {pins:List (Addr × Obj)} {σ:L2.St} {H:Hp} {s:Shared}
theorem _root_.L2.Inv.freeze {a:Addr} {o:Obj} {kvs:List (Key × V)} (I:Inv X pins σ H s) (e:H a = some (.dK kvs)) (g:s.heap.get? a = some o):Inv X pins σ (upd H a (.frz o (.dK kvs))) s:=by
 have ok:=I.hok a _ e
 exact I.write (x:=a) (e:=a) (o:=.frz o (.dK kvs)) (h':=s.heap) (t':=s.toks) (by rw [e]; exact True.intro) (.inl rfl) (fun b u _ q=>q) ⟨_,g⟩ ⟨g,ok⟩
theorem _root_.L2.Inv.thaw {a:Addr} {o:Obj} {kvs:List (Key × V)} (I:Inv X pins σ H s) (e:H a = some (.frz o (.dK kvs))) (h0:∀ o u,X.H₀ a ≠ some (.frz o u)):Inv X pins σ (upd H a (.dK kvs)) s:=by
 have up:∀ b u,H b = some u→(∀ o u',u ≠ .frz o u')→upd H a (.dK kvs) b = some u:=fun b u q hn=>by
  rw [upd_ne (fun z=>by rw [z,e] at q; cases q; exact hn _ _ rfl)]; exact q
 have upn:∀ b,H b = none→upd H a (.dK kvs) b = none:=fun b q=>by
  rw [upd_ne (fun z=>by rw [z,e] at q; cases q)]; exact q
 refine ⟨I.ok,I.os,I.bare,⟨I.base.keep,I.base.slot,fun b o' q n hx=>upn b (I.base.free b o' q n hx),I.base.there,fun b xs q=>up b _ (I.base.tups b xs q) (fun _ _ z=>nomatch z),fun b o' u q=>?_,fun b ps q=>?_⟩,I.loc,I.cell,upn _ I.free,fun x c q=>upn c (I.freeC x c q),fun p hp=>?_,fun b ob q=>?_,I.len⟩
 ·have:=I.base.frzs b o' u q
  rw [upd_ne (fun z=>h0 _ _ (z ▸ q))]; exact this
 ·obtain ⟨m,z⟩:=I.base.tbls b ps q
  exact ⟨m,up b _ z (fun _ _ z=>nomatch z)⟩
 ·obtain ⟨g,n,r⟩:=I.pin p hp
  exact ⟨g,upn _ n,r⟩
 ·by_cases hb:b = a
  ·subst hb
   rw [upd_same] at q
   cases q
   exact (I.hok b _ e).2
  ·rw [upd_ne hb] at q
   refine (I.hok b ob q).stay (fun c v hc z=>z) (fun c z=>?_) fun c xs z=>?_
   ·exact up c _ z (fun _ _ z=>nomatch z)
   ·exact up c _ z (fun _ _ z=>nomatch z)
end
def Itk (a:Addr) (o:Obj) (kvs:List (Key × V)):It :=
 ⟨fun i H=>H a = some (.frz o (.dK kvs))∧i < kvs.length,fun i H x H'=>H' = H∧∃ kv,kvs[i]? = some kv∧x = kV kv.1,fun i H=>H a = some (.frz o (.dK kvs))∧i = kvs.length⟩
theorem key_rel {P:Program} {w:World} {k:Key} {u:Value} (h:(mixKind P w).is k u = true):RelV (kV k) u:=by
 rcases keyIs_shape h with ⟨i,t,rfl,rfl⟩ | ⟨x,t,rfl,rfl⟩
 ·exact ⟨t,rfl⟩
 ·exact ⟨t,rfl⟩
theorem KV.at' {kvs:List (Key × V)} {vs:List (Key × Value)} (r:KV kvs vs) {i:Nat} (h:i < kvs.length):∃ kv v,kvs[i]? = some kv∧vs[i]? = some (kv.1,v):=by
 have e:=r.keys
 have hl:=r.length
 refine ⟨kvs[i],(vs[i]'(by omega)).2,List.getElem?_eq_getElem h,?_⟩
 have z:=congrArg (fun l=>l[i]?) e
 simp only [List.getElem?_map,List.getElem?_eq_getElem h,List.getElem?_eq_getElem (show i < vs.length by omega),Option.map_some] at z
 rw [List.getElem?_eq_getElem (show i < vs.length by omega),Option.some.inj z]
theorem turn_dict {P:Program} {w:World} {K:PySem.W.Frag} {tg:Expr} (a it:Addr) (o:Obj) (kvs:List (Key × V)) (es:Array DictEntry) (ep:Nat) (ho:o.data = .dict es ep):Turn P w K tg (Itk a o kvs) [it] it (fun i h=>h.IsKeyIter it a i kvs.length ep) where
 mem:=by simp
 obj:=fun i h st b hb=>by
  have e:b = it:=by simpa using hb
  subst e
  obtain ⟨o,e,c,d⟩:=st
  exact ⟨o,e,fun v z=>by rw [d] at z; cases z⟩
 keep:=fun i h h' st k=>st.at fun o e=>k it (by simp) o e
 item:=by
  intro X hP hw hK hc i pins s σ H E I hf st hg
  subst hP hw hK
  obtain ⟨hq,hi⟩:=hg
  obtain ⟨g,hl,hs,vs,kv,o2,es2,ep2,g2,ed,dt,ko,pr,nd⟩:=I.hok a _ hq
  rw [g] at g2
  cases g2
  rw [ho] at dt
  cases dt
  obtain ⟨kx,vx,hk,hv⟩:=KV.at' kv hi
  obtain ⟨f0,f1,f2,f3,f4,f5⟩:=hf it (by simp)
  have hln:=kv.length
  refine wpAny_pyNext_dict_item (knd:=mixKind X.prog X.w) (by rw [← hln]; exact st) ⟨o,es,g,ed,ho,ko,pr,nd⟩ hv fun key h' ke st' sb=>?_
  have I1:Inv X pins σ H { s with heap:=h' }:=I.turned (t':=s.toks) (fun b o hb e=>(sb.2 b hb).trans e) f0 f1 f3 f4 f5
  obtain ⟨o3,e,c,d⟩:=id st'
  exact ⟨key,rfl,go_of (s:={ s with heap:=h' }) e c d (by decide) ⟨kV kx.1,H,I1,key_rel ke,⟨rfl,kx,hk,rfl⟩,by rw [hln]; exact st',fun b hb=>(hf b hb).1⟩⟩
 done:=by
  intro X hP hw hK hc i pins s σ H E I hf st hg
  subst hP hw hK
  obtain ⟨hq,hi⟩:=hg
  obtain ⟨g,hl,hs,vs,kv,o2,es2,ep2,g2,ed,dt,ko,pr,nd⟩:=I.hok a _ hq
  rw [g] at g2
  cases g2
  rw [ho] at dt
  cases dt
  obtain ⟨f0,f1,f2,f3,f4,f5⟩:=hf it (by simp)
  have hln:=kv.length
  exact wpAny_pyNext_dict_end (knd:=mixKind X.prog X.w) (I.ok.hd hc) (by rw [← hln]; exact st) ⟨o,es,g,ed,ho,ko,pr,nd⟩ (List.getElem?_eq_none (by omega)) fun h' eb=>⟨rfl,I.turned (t':=s.toks) (fun b o hb e=>eb b o hb e) f0 f1 f3 f4 f5⟩
 self:=fun _ _ _ _ _ st h=>wpAny_pyIter_keyiter st h
section
variable {X:Cx} {tg:Expr}
def iDict (tl:TE):TI:=fun σ H R=>tl σ H fun x H1=>∃ a kvs,x = .ref a∧H1 a = some (.dK kvs)∧∀ o,R (Itk a o kvs) (upd H1 a (.frz o (.dK kvs)))
theorem pi_dict {l:Expr} {tl:TE} (hl:PE X l tl):PI X tg l (iDict tl):=by
 intro pins s σ H R I h
 refine thn (hl pins s σ H _ I h) fun v s1 ⟨x,H1,I1,r1,q1⟩=>?_
 obtain ⟨a,kvs,e,hq,q⟩:=q1
 subst e
 cases r1
 obtain ⟨hz,hs,vs,kv,o,es,ep,g,ed,dt,ko,pr,nd⟩:=I1.hok a _ hq
 have hln:=kv.length
 refine wpAny_pyIter_dict (knd:=mixKind X.prog X.w) hs ⟨o,es,g,ed,dt,ko,pr,nd⟩ ?_
 have I2:=I1.freeze hq g
 refine ⟨s1.heap.objs.size,[s1.heap.objs.size],_,_,_,rfl,I2.kept (t':=s1.toks) fun b o e=>Heap.get?_push_of_some _ e,turn_dict a _ o kvs es ep dt,⟨_,Heap.get?_push_size _ rfl,rfl,by rw [hln]; rfl⟩,fun b hb=>?_,q o⟩
 have e:b = s1.heap.objs.size:=by simpa using hb
 subst e
 exact I2.fpOk (Nat.le_refl _) (I2.hok.fresh (Nat.le_refl _))
def sThaw (H₀:Hp) (ts:TS):TS:=fun D σ H=>ts { D with nx:=fun σ' H1=>∃ a o kvs,H1 a = some (.frz o (.dK kvs))∧(∀ o u,H₀ a ≠ some (.frz o u))∧D.nx σ' (upd H1 a (.dK kvs)) } σ H
theorem ps_thaw {st:Stmt} {ts:TS} (h:PS X st ts):PS X st (sThaw X.H₀ ts):=by
 intro pins s σ H D I q
 refine wpAny_mono (h pins s σ H _ I q) (fun fl s1 z=>?_) fun _ _ z=>z
 cases fl with
 | next=>obtain ⟨σ',H1,I1,a,o,kvs,hq,h0,q⟩:=z; exact ⟨σ',_,I1.thaw hq h0,q⟩
 | brk=>exact z
 | cont=>exact z
 | ret u=>exact z
end
section
variable {X:Cx}
end
end Ow
namespace Ow
open PySem PySem.Spec PyProof.Rows L2
section
variable {X:Cx}
theorem pe_ixS {a b:Expr} {r:R2} {ta tb:TE} {pos:Pos} (hr:IxR X r) (ha:Sl (PE X a ta)) (hb:PE X b tb) (hs:PlainIx b):Sl (PE X (.Subscript a b pos) (tOp r ta tb)):=⟨pe_ix hr ha.out hb hs⟩
end
end Ow
namespace Ow
open PySem PySem.Spec PyProof.Rows L2
theorem slE {X:Cx} {b:List Stmt} {R:TS→Prop} (h:∃ t,Sl (PSs X b t)∧R t):∃ t,PSs X b t∧R t:=let ⟨t,a,r⟩:=h; ⟨t,a.out,r⟩
end Ow
namespace Ow
open PySem PySem.Spec PyProof.Rows L2
theorem slIn {p:Prop} (h:p):Sl p:=⟨h⟩
section
variable {X:Cx} {st:Stmt} {rest body:List Stmt} {t u tb:TS} {e:Expr} {es:List Expr} {te:TE} {ta:TA} {pos:Pos}
theorem pss_nilZ:Sl (PSs X [] tNext):=⟨pss_nil⟩
theorem pss_oneZ (h:Sl (PS X st t)):Sl (PSs X [st] t):=⟨pss_one h.out⟩
theorem pss_consZ (h1:Sl (PS X st t)) (h2:Sl (PSs X rest u)):Sl (PSs X (st :: rest) (tSeq t u)):=⟨pss_cons h1.out h2.out⟩
theorem pss_joinZ (h1:Sl (PS X st t)) (h2:Sl (PSs X rest u)):Sl (PSs X (st :: rest) (tJoin t u)):=⟨pss_join h1.out h2.out⟩
theorem ps_ifZ {c:Expr} {a b:List Stmt} {tc:TT} (hc:PT X c tc) (ha:Sl (PSs X a t)) (hb:Sl (PSs X b u)):Sl (PS X (.If c a b pos) (tIfS tc t u)):=⟨ps_if hc ha.out hb.out⟩
theorem ps_forZ {tg iter:Expr} {wi:TI} {g:TG} (hp:PassesOwn (model X.prog X.w) X.A X.env X.xe) (hc:X.calm = true) (hi:PI X tg iter wi) (hg:PG X tg g) (hb:Sl (PSs X body tb)) (hs:∀ x,foldedSetIterable iter X.env x = pure x:=by intro _; rfl):Sl (PS X (.For tg iter body [] pos) (tFor wi g tb)):=⟨ps_for hp hc hi hg hb.out hs⟩
theorem ps_exprZ (he:Sl (PE X e te)) (hs:swapsWith e none pos.line X.env = pure false:=by rfl):Sl (PS X (.Expr e pos) (tDrop te)):=⟨ps_expr he.out hs⟩
theorem pe_bmZ {T id:String} {name:Str} {o:Expr} {to:TE} {r:V→List V→Hp→(V→Hp→Prop)→Prop} {cpos apos:Pos} (pa:PlainAttrs T) (slot:Slot T name id) (hty:typeOf (.builtin id) = pure (.type "method_descriptor")) (hm:MtR X id r) (ho:PE X o to) (ha:Sl (PA X (e :: es) ta))
  (hbase:attributeBase o name X.env (eval o X.env) = eval o X.env:=by rfl)
  (hfew:((backTo cpos (starEach (e :: es) X.env)).all (fun x=>!x.1) && (backToKw cpos (keywordEach [] X.env)).all (fun x=>x.1.isSome)
   && decide ((e :: es).length + ([]:List Keyword).length + (if ([]:List Keyword).isEmpty then 0 else 1) < 30)) = true:=by rfl)
  (hline:(apos.endLine == cpos.line) = true:=by rfl) (hs:starEach (e :: es) X.env = (false,eval e X.env) :: starEach es X.env:=by rfl) (hplain:(backTo cpos (starEach es X.env)).any (·.1) = false:=by rfl) :
  Sl (PE X (.Call (.Attribute o name apos) (e :: es) [] cpos) (tBM X.K T r to ta)):=⟨pe_bm pa slot hty hm ho ha.out hbase hfew hline hs hplain⟩
theorem pa_consZ (ha:Sl (PE X e te)) (hr:Sl (PA X es ta)) (hn:noStar e = true:=by rfl):Sl (PA X (e :: es) (tCons te ta)):=⟨pa_consN ha.out hr.out hn⟩
theorem pe_tupZ {x1:Nat} (h:Sl (PA X es ta)):Sl (PE X (.Tuple es x1 pos) (tTup ta)):=⟨pe_tup h.out⟩
end
end Ow
namespace Ow
open PySem PySem.Spec PyProof.Rows L2
theorem comp_str {z:Str} {D:Addr} {te':TE} {tl:L2.St} {G:Hp→Prop} {H1:Hp} (Pv:Nat→Hp→Prop) (h0:Pv 0 (upd H1 D (.lst [])))
  (hs:∀ i c H,z.cps[i]? = some c→Pv i H→te' (some (.str ⟨#[c]⟩) :: tl) H fun y H2=>∃ ys,H2 D = some (.lst ys)∧ys.length < sizeLine∧∃ m',m' < z.cps.size - i∧(m' = z.cps.size - (i + 1)∧i + 1≤z.cps.size∧Pv (i + 1) (upd H2 D (.lst (ys ++ [y])))))
  (hd:∀ H,Pv z.cps.size H→G H) :
  ∃ W:Nat→Nat→Hp→Prop,(∃ m,W 0 m (upd H1 D (.lst [])))∧∀ i m H,W i m H →
   ((Its z).stop i H∧G H)∨((Its z).go i H∧∀ x H',(Its z).yld i H x H'→te' (some x :: tl) H' fun y H2=>∃ ys,H2 D = some (.lst ys)∧ys.length < sizeLine∧∃ m',m' < m∧W (i + 1) m' (upd H2 D (.lst (ys ++ [y])))):=by
 refine ⟨fun i m H=>m = z.cps.size - i∧i≤z.cps.size∧Pv i H,⟨z.cps.size,by simp,Nat.zero_le _,h0⟩,?_⟩
 rintro i m H ⟨rfl,hi,p⟩
 by_cases hlt:i < z.cps.size
 ·refine .inr ⟨hlt,fun x H' y=>?_⟩
  obtain ⟨e,c,hc,ex⟩:=y
  subst e ex
  exact hs i c _ hc p
 ·have e:i = z.cps.size:=by omega
  subst e
  exact .inl ⟨Nat.le_refl _,hd H p⟩
theorem pe_globS {X:Cx} {x v:Str} {pos:Pos} (hg:Gl X x) (hm:∃ t,X.mg x = some (.str v t)) (hd:(x == ("__debug__":Str)) = false:=by decide):PE X (.Name x pos) (tC (.str v)):=by
 obtain ⟨t,h⟩:=hm
 exact pe_glob (v:=.str v) hg h ⟨t,rfl⟩ hd
theorem pe_methQ0 {X:Cx} {P:Program} {w:World} {K:PySem.W.Frag} {mg:Str→Option Value} {base:Heap} {k:Nat} {o:Expr} {m:Str} {ta:TE} {pos apos:Pos} {pl:Sem Bool} (h1:X.prog = P) (h2:X.w = w) (h3:X.K = K) (h4:X.mg = mg) (h5:X.base = base) (he:PE X o ta) (hr:Room k X.A)
  (ht:eval (.Call (.Attribute o m apos) [] [] pos) X.env = (do
   let ov ← eval o X.env
   standAt apos.atName
   let (f,first) ← holding [ov] (getMethod ov m pl)
   callWith pos f first (backTo pos (starEach [] X.env)) (backToKw pos (keywordEach [] X.env))):=by rfl) :
  PE X (.Call (.Attribute o m apos) [] [] pos) (tMethQ P w K mg base k m ta tNil):=by
 subst h1 h2 h3 h4 h5
 exact pe_methP0 he hr ht
end Ow
namespace Ow
open PySem PySem.Spec PyProof.Rows L2
section
variable {X:Cx}
theorem _root_.L2.Inv.many {pins:List (Addr × Obj)} {σ:L2.St} {H H':Hp} {s:Shared} {h':Heap} {t':Nat} (I:Inv X pins σ H s) (k:∀ b u,s.heap.get? b = some u→h'.get? b = some u) (up:∀ b u,H b = some u→H' b = some u) (fr:∀ b o,s.heap.get? b = some o→H b = none→H' b = none) (hok:HOk X.prog X.w H' h') :
  Inv X pins σ H' { s with heap:=h',toks:=t' } :=
 I.step (h':=h') (g':=s.gens) (t':=t') (d':=s.drawn) (ch:=[]) (fun b z=>nomatch z) (fun b ob _ _ _ e _=>k b ob e) (fun b ob _ _ _ e _=>⟨ob.slots,k b ob e⟩) (fun b ob _ e n=>fr b ob e n) (fun b ob _ e=>⟨ob,k b ob e⟩) (fun b xs e=>up b _ e) (fun b o' u e=>up b _ e) (fun b ps e=>⟨#[],by rw [Array.append_empty]; exact up b _ e⟩) (fun m ⟨o,es,ep,g,r⟩=>⟨o,es,ep,k _ _ g,r⟩) hok I.bare
def vwV (r d:Addr):HO:=.ext fun h=>h.IsValuesView r d
def vwI (r d:Addr):HO:=.ext fun h=>h.IsItemsView r d
theorem mt_values:MtM X "dict.values" (fun x vs H Q=>∃ (a:Addr) (kvs:List (Key × V)),x = .ref a∧vs = []∧H a = some (.dK kvs)∧∀ r,H r = none→Q (.ref r) (upd H r (vwV r a))):=by
 intro pins s σ H x vs v us Q I rx rv h
 obtain ⟨a,kvs,rfl,rfl,ha,q⟩:=h
 cases rx
 cases rv
 obtain ⟨z,hd,xs,rel,dd⟩:=dk_of I.hok ha
 refine call_meetsIn PySem.F.slot_dict_values dd.typeIs PySem.F.entry_dict_values (PySem.F.args_dict_values_1 _) (meets_dict_values (mixKind X.prog X.w) a hd) ⟨⟨xs,dd⟩,?_⟩
 refine ⟨.ref s.heap.objs.size,_,I.laid (t':=s.toks) (fun b o e=>Heap.get?_push_of_some _ e) (Nat.le_refl _) ?_,rfl,q _ (I.hok.fresh (Nat.le_refl _))⟩
 exact ⟨⟨_,Heap.get?_push_size _ rfl,rfl,rfl⟩,⟨_,Heap.get?_push_size _ rfl⟩,fun h1 h2 p k=>let ⟨o,e,x⟩:=p; ⟨o,k o e,x⟩⟩
theorem mt_items:MtM X "dict.items" (fun x vs H Q=>∃ (a:Addr) (kvs:List (Key × V)),x = .ref a∧vs = []∧H a = some (.dK kvs)∧∀ r,H r = none→Q (.ref r) (upd H r (vwI r a))):=by
 intro pins s σ H x vs v us Q I rx rv h
 obtain ⟨a,kvs,rfl,rfl,ha,q⟩:=h
 cases rx
 cases rv
 obtain ⟨z,hd,xs,rel,dd⟩:=dk_of I.hok ha
 refine call_meetsIn PySem.F.slot_dict_items dd.typeIs PySem.F.entry_dict_items (PySem.F.args_dict_items_1 _) (meets_dict_items (mixKind X.prog X.w) a hd) ⟨⟨xs,dd⟩,?_⟩
 refine ⟨.ref s.heap.objs.size,_,I.laid (t':=s.toks) (fun b o e=>Heap.get?_push_of_some _ e) (Nat.le_refl _) ?_,rfl,q _ (I.hok.fresh (Nat.le_refl _))⟩
 exact ⟨⟨_,Heap.get?_push_size _ rfl,rfl,rfl⟩,⟨_,Heap.get?_push_size _ rfl⟩,fun h1 h2 p k=>let ⟨o,e,x⟩:=p; ⟨o,k o e,x⟩⟩
theorem kv_vals {kvs:List (Key × V)} {vs:List (Key × Value)} (r:KV kvs vs):Vals (kvs.map (·.2)) (vs.map (·.2)):=by
 unfold KV at r
 induction r with
 | nil=>exact .nil
 | cons h _ ih=>exact .cons h.2 ih
theorem vals_get {xs:List V} {us:List Value} (r:Vals xs us) {i:Nat} {u:Value} (h:us[i]? = some u):∃ x,xs[i]? = some x∧RelV x u:=by
 have hl:=r.length
 have hi:=(List.getElem?_eq_some_iff.mp h).1
 obtain ⟨u',e,ru⟩:=r.get (List.getElem?_eq_getElem (show i < xs.length by omega))
 rw [h] at e
 cases e
 exact ⟨_,List.getElem?_eq_getElem _,ru⟩
theorem valsOfI:∀ {xs:List V} {us:List Value},xs.length = us.length→(∀ (i:Nat) x u,xs[i]? = some x→us[i]? = some u→RelV x u)→Vals xs us
 | [],[],_,_=>.nil
 | _ :: _,_ :: _,hl,h=>.cons (h 0 _ _ rfl rfl) (valsOfI (by simpa using hl) fun i x u a b=>h (i + 1) x u (by simpa using a) (by simpa using b))
 | [],_ :: _,hl,_=>by simp at hl
 | _ :: _,[],hl,_=>by simp at hl
theorem call_sumV (hc:X.calm = true):CallR X (.builtin "sum") (fun xs H Q=>∃ (r a:Addr) (kvs:List (Key × V)) (ns:List Int),xs = [.ref r]∧H r = some (vwV r a)∧H a = some (.dK kvs)∧kvs.map (·.2) = ns.map V.int∧Q (.int ns.sum) H):=by
 intro pins s σ H xs us Q I r h
 obtain ⟨vr,a,kvs,ns,rfl,hv,ha,hn,q⟩:=h
 obtain ⟨u,rfl,ru⟩:=r.one
 cases (show u = Value.ref vr from ru)
 obtain ⟨z,hd,vs,rel,dd⟩:=dk_of I.hok ha
 obtain ⟨ep,dat⟩:=dd.dictAt
 have vw:s.heap.IsValuesView vr a:=(I.hok vr _ hv).1
 have vl:=(kv_vals rel)
 rw [hn] at vl
 have hl:=vl.length
 rw [List.length_map,List.length_map] at hl
 obtain ⟨oI,St,hit,W,st⟩:=(PySem.W.kdl_values (knd:=mixKind X.prog X.w) (r:=vr) (d:=a) (kvs:=vs) (ep:=ep)).iter X.A.in1 s (I.ok.hd hc) ⟨vw,dat⟩
 refine call_sum_walkG (hit _ _ ⟨s.heap.objs.size,_,_,_,_,_,fun j=>ns.getD j 0,rfl,W,st,?_,?_,?_⟩)
 ·intro b hb
  show b < (s.heap.push _).objs.size
  rw [Heap.size_push]
  rcases List.mem_cons.mp hb with rfl | hb
  ·exact Nat.lt_succ_self _
  ·rw [List.mem_singleton.mp hb]
   exact Nat.lt_succ_of_lt dat.lt_size
 ·rintro i v ⟨k,hP⟩
  obtain ⟨x,hx,rx⟩:=vals_get vl (u:=v) (i:=i) (by rw [List.getElem?_map,hP]; rfl)
  rw [List.getElem?_map] at hx
  cases e:ns[i]? with
  | none=>rw [e] at hx; cases hx
  | some m =>
   rw [e] at hx
   cases hx
   obtain ⟨t,rfl⟩:=rx
   exact ⟨t,by show Value.int m t = Value.int (ns.getD i 0) t; rw [List.getD_eq_getElem?_getD,e]; rfl⟩
 ·intro h' tk t' hk
  have e0:∀ (l:List Int) (m:Nat),m≤l.length→preSum (fun j=>l.getD j 0) m = (l.take m).sum:=by
   intro l m
   induction m with
   | zero=>intro _; simp [preSum]
   | succ m ih =>
    intro hm
    rw [List.take_add_one,List.sum_append,← ih (by omega),List.getElem?_eq_getElem (by omega)]
    simp [preSum,List.getD_eq_getElem?_getD,List.getElem?_eq_getElem (show m < l.length by omega)]
  have e1:preSum (fun j=>ns.getD j 0) vs.length = ns.sum:=by rw [← hl,e0 ns ns.length (Nat.le_refl _),List.take_length]
  rw [e1]
  exact ⟨.int _,H,I.kept (t':=tk) fun b o e=>hk b o (fun z=>by
   have z':b = s.heap.objs.size:=by simpa using z
   exact absurd (Heap.lt_size e) (by rw [z']; exact Nat.lt_irrefl _)) (Heap.get?_push_of_some _ e),⟨t',rfl⟩,q⟩
theorem call_listV (hc:X.calm = true):CallR X (.type "list") (fun xs H Q=>∃ (r a:Addr) (kvs:List (Key × V)),xs = [.ref r]∧H r = some (vwV r a)∧H a = some (.dK kvs)∧∀ l,H l = none→Q (.ref l) (upd H l (.lst (kvs.map (·.2))))):=by
 intro pins s σ H xs us Q I r h
 obtain ⟨vr,a,kvs,rfl,hv,ha,q⟩:=h
 obtain ⟨u,rfl,ru⟩:=r.one
 cases (show u = Value.ref vr from ru)
 obtain ⟨z,hd,vs,rel,dd⟩:=dk_of I.hok ha
 obtain ⟨ep,dat⟩:=dd.dictAt
 have vw:s.heap.IsValuesView vr a:=(I.hok vr _ hv).1
 have hl:=rel.length
 refine PySem.W.kdl_call (PySem.W.kdl_values (knd:=mixKind X.prog X.w) (r:=vr) (d:=a) (kvs:=vs) (ep:=ep)) (I.ok.hd hc) ⟨vw,dat⟩ (by rw [← hl]; exact z) fun h' tk acc c kp gl io=>?_
 refine ⟨.ref s.heap.objs.size,_,I.laid (t':=tk) kp (Nat.le_refl _) ?_,rfl,q _ (I.hok.fresh (Nat.le_refl _))⟩
 refine ⟨by rw [List.length_map]; exact z,acc.toList,c,valsOfI (by rw [List.length_map,show acc.toList.length = vs.length from io.1]; exact hl) fun i x u hx hu=>?_,gl⟩
 obtain ⟨k,hk⟩:=io.2 i u (by rw [← Array.getElem?_toList]; exact hu)
 obtain ⟨x',hx',rx⟩:=vals_get (kv_vals rel) (u:=u) (i:=i) (by rw [List.getElem?_map,hk]; rfl)
 rw [hx] at hx'
 cases hx'
 exact rx
theorem call_listI (hc:X.calm = true):CallR X (.type "list") (fun xs H Q=>∃ (r a:Addr) (kvs:List (Key × V)),xs = [.ref r]∧H r = some (vwI r a)∧H a = some (.dK kvs) ∧
  ∀ (l:Addr) (as:List Addr) (H':Hp),H l = none→H' l = some (.lst (as.map V.ref))→as.length = kvs.length→(∀ (j:Nat) b kv,as[j]? = some b→kvs[j]? = some kv→H' b = some (.tup [kV kv.1,kv.2]))→(∀ b u,H b = some u→H' b = some u)→Q (.ref l) H'):=by
 intro pins s σ H xs us Q I r h
 obtain ⟨vr,a,kvs,rfl,hv,ha,q⟩:=h
 obtain ⟨u,rfl,ru⟩:=r.one
 cases (show u = Value.ref vr from ru)
 obtain ⟨z,hd,vs,rel,dd⟩:=dk_of I.hok ha
 obtain ⟨ep,dat⟩:=dd.dictAt
 have vw:s.heap.IsItemsView vr a:=(I.hok vr _ hv).1
 have hl:=rel.length
 refine PySem.W.kdx_call (knd:=mixKind X.prog X.w) (r:=vr) (d:=a) (kvs:=vs) (ep:=ep) (I.ok.hd hc) vw dat (by rw [← hl]; exact z) fun h' tk acc c as kp gl la G ea=>?_
 let H':Hp:=fun b=>if b = s.heap.objs.size then some (.lst (as.map V.ref)) else match (as.idxOf? b).bind (kvs[·]?) with | some kv=>some (.tup [kV kv.1,kv.2]) | none=>H b
 have H1:H' s.heap.objs.size = some (.lst (as.map V.ref)):=if_pos rfl
 have H2:∀ (j:Nat) b kv,as[j]? = some b→kvs[j]? = some kv→H' b = some (.tup [kV kv.1,kv.2]):=fun j b kv hb hkv=>by
  have lt:s.heap.objs.size < b:=G.above b (List.mem_of_getElem? hb)
  have ix:as.idxOf? b = some j:=by
   have hj:=(List.getElem?_eq_some_iff.mp hb)
   rw [List.idxOf?_eq_map_finIdxOf?_val,Option.map_eq_some_iff]
   refine ⟨⟨j,hj.1⟩,?_,rfl⟩
   rw [List.finIdxOf?_eq_some_iff]
   refine ⟨hj.2,fun i hi=>?_⟩
   intro e
   have:=List.pairwise_iff_getElem.mp G.rise i.1 j i.2 hj.1 hi
   rw [hj.2,show as[i.1] = b from e] at this
   exact Nat.lt_irrefl _ this
  show (if b = s.heap.objs.size then _ else _) = _
  rw [if_neg (Nat.ne_of_gt lt),ix]
  show (match kvs[j]? with | some kv=>some (HO.tup [kV kv.1,kv.2]) | none=>H b) = _
  rw [hkv]
 have H3:∀ b,b < s.heap.objs.size→H' b = H b:=fun b lt=>by
  show (if b = s.heap.objs.size then _ else _) = _
  rw [if_neg (Nat.ne_of_lt lt)]
  have:as.idxOf? b = none:=List.idxOf?_eq_none_iff.mpr fun m=>absurd (G.above b m) (Nat.lt_asymm lt)
  rw [this]
  rfl
 have up:∀ b u,H b = some u→H' b = some u:=fun b u e=>by rw [H3 b (I.hok.lt e)]; exact e
 have ok:HOk X.prog X.w H' h':=fun b u e=>by
  by_cases c1:b = s.heap.objs.size
  ·subst c1
   rw [H1] at e
   cases e
   refine ⟨by rw [List.length_map,la,← hl]; exact z,acc.toList,c,?_,gl⟩
   rw [ea]
   exact valsOfI (by rw [List.length_map,List.length_map]) fun i x u hx hu=>by
    rw [List.getElem?_map] at hx hu
    cases e:as[i]? with
    | none=>rw [e] at hx; cases hx
    | some y=>rw [e] at hx hu; cases hx; cases hu; rfl
  ·by_cases c2:b < s.heap.objs.size
   ·rw [H3 b c2] at e
    exact (I.hok b u e).stay (fun x v _ z=>kp x v z) (fun x z=>up x _ z) fun x ys z=>up x _ z
   ·have e':(match (as.idxOf? b).bind (kvs[·]?) with | some kv=>some (HO.tup [kV kv.1,kv.2]) | none=>H b) = some u:=by
     rw [← e]
     exact (if_neg c1).symm
    cases ix:as.idxOf? b with
    | none =>
     rw [ix] at e'
     exact absurd (I.hok.lt (show H b = some u from e')) c2
    | some j =>
     rw [ix] at e'
     have e':(match kvs[j]? with | some kv=>some (HO.tup [kV kv.1,kv.2]) | none=>H b) = some u:=e'
     cases hkv:kvs[j]? with
     | none =>
      rw [hkv] at e'
      exact absurd (I.hok.lt (show H b = some u from e')) c2
     | some kv =>
      rw [hkv] at e'
      cases e'
      have hb:as[j]? = some b:=by
       rw [List.idxOf?_eq_map_finIdxOf?_val,Option.map_eq_some_iff] at ix
       obtain ⟨i,hi,rfl⟩:=ix
       rw [List.finIdxOf?_eq_some_iff] at hi
       exact List.getElem?_eq_some_iff.mpr ⟨i.2,hi.1⟩
      obtain ⟨key,k,x,hx,hkey,hg⟩:=G.pairs j b hb
      obtain ⟨kx,vx,e1,e2⟩:=KV.at' rel (List.getElem?_eq_some_iff.mp hkv).1
      rw [hkv] at e1
      cases e1
      rw [hx] at e2
      cases e2
      obtain ⟨x',hx',rx⟩:=vals_get (kv_vals rel) (u:=x) (i:=j) (by rw [List.getElem?_map,hx]; rfl)
      rw [List.getElem?_map,hkv] at hx'
      cases hx'
      exact ⟨by show 2≤sizeLine; decide,[key,x],.cons (key_rel hkey) (.cons rx .nil),_,hg,rfl,_,rfl⟩
 exact ⟨.ref s.heap.objs.size,H',I.many (t':=tk) kp up (fun b o e n=>by rw [H3 b (Heap.lt_size e)]; exact n) ok,rfl,q _ as H' (I.hok.fresh (Nat.le_refl _)) H1 (by rw [la,hl]) H2 up⟩
theorem call_dict:CallR X (.type "dict") (fun xs H Q=>∃ (a:Addr) (kvs:List (Key × V)),xs = [.ref a]∧H a = some (.dK kvs)∧∀ l,H l = none→Q (.ref l) (upd H l (.dK kvs))):=by
 intro pins s σ H xs us Q I r h
 obtain ⟨a,kvs,rfl,ha,q⟩:=h
 obtain ⟨u,rfl,ru⟩:=r.one
 cases (show u = Value.ref a from ru)
 exact d_copyOf I (.inl ha) fun p s' hp I'=>⟨.ref p,_,I',rfl,q p hp⟩
theorem call_sortedD (hc:X.calm = true):CallR X (.builtin "sorted") (fun xs H Q=>∃ (a:Addr) (kvs:List (Key × V)) (zs:List Str),xs = [.ref a]∧H a = some (.dK kvs)∧kvs.map (·.1) = zs.map Sum.inr∧zs.length < 64∧∀ (l:Addr) (ws:List Str),H l = none→ws.Perm zs→Q (.ref l) (upd H l (.lst (ws.map V.str)))):=by
 intro pins s σ H xs us Q I r h
 obtain ⟨a,kvs,zs,rfl,ha,hk,h64,q⟩:=h
 obtain ⟨u,rfl,ru⟩:=r.one
 cases (show u = Value.ref a from ru)
 obtain ⟨z,hd,vs,rel,dd⟩:=dk_of I.hok ha
 obtain ⟨ep,dat⟩:=dd.dictAt
 have hl:=rel.length
 have ky:=rel.keys
 rw [hk] at ky
 have ln:vs.length = zs.length:=by
  have:=congrArg List.length ky
  rw [List.length_map,List.length_map] at this
  exact this.symm
 refine Calls.call_function_entry kind_sorted plain_sorted entry_sorted (args_sorted1 _) ?_
 unfold Builtin.«sorted»
 refine wpAny_bind (m:=checkCount "sorted" 1 1 _) (wpAny_pure (wpAny_bind (PySem.W.kdu_collect (A:=X.A.in1) (PySem.W.kdl_dict (knd:=mixKind X.prog X.w) (kvs:=vs) (ep:=ep) hd) (I.ok.hd hc) dat (by rw [← hl]; exact z) fun h1 tk acc kp ac=>?_)))
 have al:acc.toList.length = zs.length:=by rw [Array.length_toList,ac.1,ln]
 have sa:StrsAre acc.toList zs:=by
  have all:∀ (i:Nat) (v:Value),acc.toList[i]? = some v→∃ t zz,zs[i]? = some zz∧v = .str zz t:=fun i v hv=>by
   obtain ⟨k,x,hx,kx⟩:=ac.2 i v (by rw [← Array.getElem?_toList]; exact hv)
   have e:=congrArg (fun l=>l[i]?) ky
   simp only [List.getElem?_map,hx,Option.map_some] at e
   cases ez:zs[i]? with
   | none=>rw [ez] at e; cases e
   | some zz =>
    rw [ez] at e
    cases e
    obtain ⟨t,rfl⟩:=key_rel kx
    exact ⟨t,zz,rfl,rfl⟩
  have m:=strsAre_map acc.toList fun v hv=>by
   obtain ⟨i,hi⟩:=List.mem_iff_getElem?.mp hv
   obtain ⟨t,zz,_,rfl⟩:=all i v hi
   exact ⟨zz,t,rfl⟩
  have e:acc.toList.map strOf = zs:=by
   apply List.ext_getElem?
   intro i
   rw [List.getElem?_map]
   cases e:acc.toList[i]? with
   | none=>rw [List.getElem?_eq_none (by have:=List.getElem?_eq_none_iff.mp e; omega)]; rfl
   | some v =>
    obtain ⟨t,zz,ez,rfl⟩:=all i v e
    rw [ez]
    rfl
  rw [e] at m
  exact m
 refine wpAny_bind (wpAny_newList ?_ (by rw [al,sizeLine_eq]; omega))
 have g1:(h1.push (seqObj "list" acc.toList.toArray 0)).get? h1.objs.size = some (seqObj "list" acc.toList.toArray 0):=Heap.get?_push_size _ rfl
 refine wpAny_bind (wpAny_holding (wpAny_call_entry slot_list_sort ⟨_,g1,rfl⟩ entry_list_sort (list_sort_treeK strKind_oneLt g1 sa.keysOf (fun v1 v2 rest e=>keyKind_strs (by rw [← e]; exact sa)) (by omega) fun st' p1 p2=>⟨_,rfl,?_⟩) (args_list_sort _)))
 obtain ⟨ws,s1,s2,_⟩:=sorted_out_str sa p1 p2
 obtain ⟨e,ge⟩:=sortedHeap_at (out:=(arrOf st').map (·.2)) g1
 have nw:∀ b o,s.heap.get? b = some o→b ≠ h1.objs.size:=fun b o eb=>Nat.ne_of_lt (Heap.lt_size (kp b o eb))
 have hn:H h1.objs.size = none:=by
  cases eh:H h1.objs.size with
  | none=>rfl
  | some u=>obtain ⟨o,ho⟩:=obj_there (I.hok _ u eh); exact absurd rfl (nw _ o ho)
 have kp2:∀ b o,s.heap.get? b = some o→(sortedHeap (h1.push (seqObj "list" acc.toList.toArray 0)) h1.objs.size acc.toList ((arrOf st').map (·.2))).get? b = some o:=fun b o eb=>by
  rw [sortedHeap_old (nw b o eb) (by rw [Heap.size_push]; exact Nat.lt_succ_of_lt (Heap.lt_size (kp b o eb)))]
  exact Heap.get?_push_of_some _ (kp b o eb)
 have up:∀ b u,H b = some u→upd H h1.objs.size (.lst (ws.map V.str)) b = some u:=fun b u e=>by rw [upd_ne (ne_of_none e hn)]; exact e
 have wl:ws.length = zs.length:=s2.length_eq
 refine wpAny_pure ⟨_,rfl,.ref h1.objs.size,upd H h1.objs.size (.lst (ws.map V.str)),I.many (t':=tk) kp2 up (fun b o eb n=>by rw [upd_ne (nw b o eb)]; exact n) (fun b u eb=>?_),rfl,q _ ws hn s2⟩
 by_cases cb:b = h1.objs.size
 rotate_left
 ·rw [upd_ne cb] at eb
  exact (I.hok b u eb).stay (fun x v _ z=>kp2 x v z) (fun x z=>up x _ z) fun x ys z=>up x _ z
 ·subst cb
  rw [upd_same] at eb
  cases eb
  refine ⟨by rw [List.length_map,sizeLine_eq]; omega,_,e,?_,ge⟩
  have:∀ {us:List Value} {zs:List Str},StrsAre us zs→Vals (zs.map V.str) us:=fun {us zs} h=>by
   have e:=h.strs
   subst e
   exact valsOfI (by rw [List.length_map,List.length_map]) fun i x u hx hu=>by
    rw [List.getElem?_map,List.getElem?_map,hu] at hx
    cases hx
    obtain ⟨y,t,rfl⟩:=h.all _ (List.mem_of_getElem? hu)
    exact ⟨t,rfl⟩
  exact this s1
def rSmD (neg:Bool):R2:=fun x y H Q=>∃ (a b:Addr) (kvs:List (Key × V)),x = .ref a∧y = .ref b∧H a = some (.dK kvs)∧H b = some (.dK kvs)∧(∀ kv ∈ kvs,∃ i:Int,kv.2 = .int i)∧Q (.bl (!neg)) H
theorem smHits {A:Around} {s:Shared} {kvs:List (Key × V)} {kb:List (Key × Value)} (rb:KV kvs kb) (nd:(kb.map (·.1)).Nodup) (hi:∀ kv ∈ kvs,∃ i:Int,kv.2 = .int i) {ka:List (Key × Value)} (ra:KV kvs ka):PySem.W.KeqHits A s kb ka true:=by
 have ndk:(kvs.map (·.1)).Nodup:=by rw [rb.keys]; exact nd
 have go:∀ (l1 l2:List (Key × V)) (ks:List (Key × Value)),kvs = l1 ++ l2→KV l2 ks→PySem.W.KeqHits A s kb ks true:=by
  intro l1 l2
  induction l2 generalizing l1 with
  | nil=>intro ks _ r; cases r; exact .nil
  | cons p t ih =>
   intro ks e r
   cases r with
   | cons h1 h2 =>
    rename_i y ys
    obtain ⟨k,u⟩:=y
    obtain ⟨k',v⟩:=p
    obtain ⟨ek,ru⟩:=h1
    obtain rfl:k' = k:=ek
    obtain ⟨i,ei⟩:=hi (k',v) (by rw [e]; exact List.mem_append_right _ (List.mem_cons_self ..))
    cases (show v = V.int i from ei)
    obtain ⟨t1,rfl⟩:=(show ∃ t,u = Value.int i t from ru)
    have hv:valV kvs k' = some (.int i):=by
     rw [e] at ndk ⊢
     have nin:¬ k' ∈ l1.map (·.1):=by
      rw [List.map_append,List.map_cons] at ndk
      exact fun m=>(List.nodup_append.mp ndk).2.2 k' m k' (List.mem_cons_self ..) rfl
     clear ih h2 e ru ndk
     induction l1 with
     | nil=>exact valV_pos rfl
     | cons q r ih2 =>
      rw [List.cons_append,valV_neg (fun z=>nin (by rw [List.map_cons,← z]; exact List.mem_cons_self ..))]
      exact ih2 fun m=>nin (List.mem_cons_of_mem _ m)
    have rv:=rb.val k'
    rw [hv] at rv
    cases ev:valueAt kb k' with
    | none=>rw [ev] at rv; exact rv.elim
    | some y =>
     rw [ev] at rv
     obtain ⟨t2,rfl⟩:=(show ∃ t,y = Value.int i t from rv)
     have eq:=SeqAt.EqAt.int_int (A:=A) (s:=s) i t1 i t2
     rw [beq_self_eq_true] at eq
     exact .hit (e:=true) (b:=true) ev eq (ih (l1 ++ [(k',.int i)]) ys (by rw [e,List.append_assoc]; rfl) h2)
 exact go [] kvs ka rfl ra
theorem op_neSD (hu:X.A.units < cLine):OpR X (compareOp .NotEq) (rSmD true):=by
 intro pins s σ H x y v u Q I rx ry h
 obtain ⟨a,b,kvs,rfl,rfl,ha,hb,hi,q⟩:=h
 cases rx
 cases ry
 obtain ⟨za,hda,xs,ra,da⟩:=dk_of I.hok ha
 obtain ⟨zb,hdb,ys,rb,db⟩:=dk_of I.hok hb
 have nd:(ys.map (·.1)).Nodup:=let ⟨_,_,_,_,_,_,_,_,hn⟩:=db; hn
 have fin:EP X pins σ Q (.bool (!(xs.length == ys.length && true))) s:=⟨.bl false,H,I,(by rw [← ra.length,← rb.length,beq_self_eq_true]; rfl),q⟩
 exact PySem.W.keq_ne (prog:=X.prog) (w:=X.w) (K:=Key) (knd:=mixKind X.prog X.w) (A:=X.A) (E:=X.xe) (s:=s) (a:=a) (b:=b) (ka:=xs) (kb:=ys) (r:=true) (Q:=EP X pins σ Q) hda hdb da db hu (fun _=>smHits rb nd hi ra) fin
end
end Ow
namespace Ow
open PySem PySem.Spec PyProof.Rows L2
theorem pe_globI {X:Cx} {x:Str} {v:Int} {pos:Pos} (hg:Gl X x) (hm:∃ t,X.mg x = some (.int v t)) (hd:(x == ("__debug__":Str)) = false:=by decide):PE X (.Name x pos) (tC (.int v)):=by
 obtain ⟨t,h⟩:=hm
 exact pe_glob (v:=.int v) hg h ⟨t,rfl⟩ hd
def tDead:TE:=fun _ _ _=>False
theorem pe_dead {X:Cx} {e:Expr}:PE X e tDead:=fun _ _ _ _ _ _ h=>h.elim
theorem for_dict {a:Addr} {o:Obj} {kvs:List (Key × V)} {g:TG} {tb:TS} {D:Ends} {σ:L2.St} {H:Hp} (Pv:Nat→L2.St→Hp→Prop) (h0:Pv 0 σ H) (hf:∀ i σ H,i≤kvs.length→Pv i σ H→H a = some (.frz o (.dK kvs)))
  (hs:∀ (i:Nat) (kv:Key × V) σ H,kvs[i]? = some kv→Pv i σ H→g (kV kv.1) σ H fun σ2 H2=>tb { D with nx:=Pv (i + 1),ct:=Pv (i + 1),bk:=D.nx } σ2 H2) (hd:∀ σ H,Pv kvs.length σ H→D.nx σ H) :
  ∃ W:Nat→Nat→L2.St→Hp→Prop,(∃ m,W 0 m σ H)∧∀ i m σ H,W i m σ H →
   ((Itk a o kvs).stop i H∧D.nx σ H)∨((Itk a o kvs).go i H∧∃ N:L2.St→Hp→Prop,(∀ σ' H',N σ' H'→∃ m',m' < m∧W (i + 1) m' σ' H')∧∀ x H',(Itk a o kvs).yld i H x H'→g x σ H' fun σ2 H2=>tb { D with nx:=N,ct:=N,bk:=D.nx } σ2 H2):=by
 refine ⟨fun i m σ H=>m = kvs.length - i∧i≤kvs.length∧Pv i σ H,⟨kvs.length,by simp,Nat.zero_le _,h0⟩,?_⟩
 rintro i m σ H ⟨rfl,hi,p⟩
 by_cases hlt:i < kvs.length
 ·refine .inr ⟨⟨hf i σ H hi p,hlt⟩,Pv (i + 1),fun σ' H' p'=>⟨kvs.length - (i + 1),by omega,rfl,by omega,p'⟩,?_⟩
  rintro x H' ⟨rfl,kv,hk,rfl⟩
  exact hs i kv σ _ hk p
 ·have e:i = kvs.length:=by omega
  subst e
  exact .inl ⟨⟨hf _ σ H hi p,rfl⟩,hd σ H p⟩
end Ow
namespace Ow
open PySem PySem.Spec PyProof.Rows L2
def gI (kvs:List (Key × V)) (z:Str):Int:=match valV kvs (.inr z) with
 | some (.int i)=>i
 | _=>0
def IntD (kvs:List (Key × V)):Prop:=∀ kv ∈ kvs,∃ i:Int,kv.2 = .int i
theorem valV_mem {kvs:List (Key × V)} {k:Key} {v:V} (h:valV kvs k = some v):(k,v) ∈ kvs:=by
 induction kvs with
 | nil=>cases h
 | cons p t ih =>
  by_cases e:p.1 = k
  ·rw [valV_pos e] at h
   cases h
   rw [← e]
   exact List.mem_cons_self ..
  ·rw [valV_neg e] at h
   exact List.mem_cons_of_mem _ (ih h)
theorem IntD.get {kvs:List (Key × V)} (h:IntD kvs) (z:Str):(valV kvs (.inr z)).getD (.int 0) = .int (gI kvs z):=by
 unfold gI
 cases e:valV kvs (.inr z) with
 | none=>rfl
 | some v =>
  obtain ⟨i,ei⟩:=h _ (valV_mem e)
  cases (show v = V.int i from ei)
  rfl
def tDGetI (td ty:TE):TE:=fun σ H Q=>td σ H fun x H1=>∃ a,x = .ref a∧(∃ kvs,H1 a = some (.dK kvs))∧ty σ H1 fun y H2=>∃ kvs z,y = .str z∧H2 a = some (.dK kvs)∧IntD kvs∧Q (.int (gI kvs z)) H2
theorem pe_dgetI {X:Cx} {o e f:Expr} {apos cpos:Pos} {td ty:TE} (hu:X.A.units + 1 < cLine) (ho:PE X o td) (he:PE X e ty) (hf:PE X f (tC (.int 0))) (m:M2 X o "get" apos e f cpos):PE X (.Call (.Attribute o "get" apos) [e,f] [] cpos) (tDGetI td ty):=by
 intro pins s σ H Q I h
 refine wpAny_Call_method m.base m.few m.line PySem.F.plainAttrs_dict PySem.F.slot_dict_get PySem.F.type_dict_get (thn (ho pins s σ H _ I h) fun u s1 ⟨x,H1,I1,rx,a,ex,⟨ks,hk⟩,q1⟩=>?_)
 subst ex
 obtain rfl:u = Value.ref a:=rx
 obtain ⟨t1,t2,_⟩:=isD_at I1 (.inl ⟨ks,.inl hk⟩)
 refine ⟨t1,t2,?_⟩
 rw [m.trees]
 refine Calls.callWith_builtin rfl (Calls.evalArgs_plain (Calls.spliced_cons (thn (he pins s1 σ H1 _ I1 q1) fun iv s2 ⟨y,H2,I2,ry,kvs,z,ey,ha,hi,q2⟩=>Calls.spliced_cons (thn (hf pins s2 σ H2 (fun v G=>v = .int 0∧G = H2) I2 ⟨rfl,rfl⟩) fun fv s3 ⟨v0,H3,I3,rz,e0,eH⟩=>Calls.spliced_nil ?_))))
 subst ey e0 eH
 refine d_get2 hu I3 (DGet.k (k:=.inr z) ha) ry rz fun w' s4 I4 rw'=>⟨_,_,I4,?_,q2⟩
 rw [hi.get z] at rw'
 exact rw'
end Ow
namespace Ow
open PySem PySem.Spec PyProof.Rows L2
open Builtin.Int (intBits)
def top (i:Nat):Stmt:=PySem.Challenge.pw_overwise_k72_rows_in_a_list.main.body.getD i (.Pass ⟨0,0,0,0⟩)
abbrev s_is_whole:Stmt:=top 7
theorem sc_is_whole:FnScope ["thing"] ["thing"] (defScope s_is_whole):=⟨rfl,rfl,rfl,by decide +kernel,rfl,by decide +kernel,by decide +kernel⟩
abbrev s_is_between:Stmt:=top 8
theorem sc_is_between:FnScope ["thing", "low", "high"] ["thing", "low", "high"] (defScope s_is_between):=⟨rfl,rfl,rfl,by decide +kernel,rfl,by decide +kernel,by decide +kernel⟩
abbrev s_need_width:Stmt:=top 9
theorem sc_need_width:FnScope ["width"] ["width"] (defScope s_need_width):=⟨rfl,rfl,rfl,by decide +kernel,rfl,by decide +kernel,by decide +kernel⟩
abbrev s_is_word:Stmt:=top 10
theorem sc_is_word:FnScope ["width", "thing"] ["width", "thing"] (defScope s_is_word):=⟨rfl,rfl,rfl,by decide +kernel,rfl,by decide +kernel,by decide +kernel⟩
abbrev s_sum_of:Stmt:=top 11
theorem sc_sum_of:FnScope ["width", "a", "b", "total"] ["width", "a", "b"] (defScope s_sum_of):=⟨rfl,rfl,rfl,by decide +kernel,rfl,by decide +kernel,by decide +kernel⟩
abbrev s_gap_of:Stmt:=top 12
theorem sc_gap_of:FnScope ["width", "a", "b"] ["width", "a", "b"] (defScope s_gap_of):=⟨rfl,rfl,rfl,by decide +kernel,rfl,by decide +kernel,by decide +kernel⟩
abbrev s_low_product:Stmt:=top 13
theorem sc_low_product:FnScope ["width", "a", "b"] ["width", "a", "b"] (defScope s_low_product):=⟨rfl,rfl,rfl,by decide +kernel,rfl,by decide +kernel,by decide +kernel⟩
abbrev s_high_product:Stmt:=top 14
theorem sc_high_product:FnScope ["width", "a", "b"] ["width", "a", "b"] (defScope s_high_product):=⟨rfl,rfl,rfl,by decide +kernel,rfl,by decide +kernel,by decide +kernel⟩
abbrev s_left:Stmt:=top 15
theorem sc_left:FnScope ["width", "a", "k"] ["width", "a", "k"] (defScope s_left):=⟨rfl,rfl,rfl,by decide +kernel,rfl,by decide +kernel,by decide +kernel⟩
abbrev s_right:Stmt:=top 16
theorem sc_right:FnScope ["width", "a", "k"] ["width", "a", "k"] (defScope s_right):=⟨rfl,rfl,rfl,by decide +kernel,rfl,by decide +kernel,by decide +kernel⟩
abbrev s_slide:Stmt:=top 17
theorem sc_slide:FnScope ["width", "a", "k", "count"] ["width", "a", "k"] (defScope s_slide):=⟨rfl,rfl,rfl,by decide +kernel,rfl,by decide +kernel,by decide +kernel⟩
abbrev s_row_words:Stmt:=top 20
theorem sc_row_words:FnScope [] [] (defScope s_row_words):=⟨rfl,rfl,rfl,by decide +kernel,rfl,by decide +kernel,by decide +kernel⟩
abbrev s_is_register:Stmt:=top 25
theorem sc_is_register:FnScope ["thing"] ["thing"] (defScope s_is_register):=⟨rfl,rfl,rfl,by decide +kernel,rfl,by decide +kernel,by decide +kernel⟩
abbrev s_are_registers:Stmt:=top 26
theorem sc_are_registers:FnScope ["things"] ["things"] (defScope s_are_registers):=⟨rfl,rfl,rfl,by decide +kernel,rfl,by decide +kernel,by decide +kernel⟩
abbrev s_Set_word:Stmt:=inClass (top 28) 1
theorem sc_Set_word:FnScope ["self"] ["self"] (defScope s_Set_word):=⟨rfl,rfl,rfl,by decide +kernel,rfl,by decide +kernel,by decide +kernel⟩
abbrev s_Copy_word:Stmt:=inClass (top 29) 1
theorem sc_Copy_word:FnScope ["self"] ["self"] (defScope s_Copy_word):=⟨rfl,rfl,rfl,by decide +kernel,rfl,by decide +kernel,by decide +kernel⟩
abbrev s_Sum_word:Stmt:=inClass (top 31) 0
theorem sc_Sum_word:FnScope ["self"] ["self"] (defScope s_Sum_word):=⟨rfl,rfl,rfl,by decide +kernel,rfl,by decide +kernel,by decide +kernel⟩
abbrev s_Gap_word:Stmt:=inClass (top 32) 0
theorem sc_Gap_word:FnScope ["self"] ["self"] (defScope s_Gap_word):=⟨rfl,rfl,rfl,by decide +kernel,rfl,by decide +kernel,by decide +kernel⟩
abbrev s_Low_word:Stmt:=inClass (top 34) 0
theorem sc_Low_word:FnScope ["self"] ["self"] (defScope s_Low_word):=⟨rfl,rfl,rfl,by decide +kernel,rfl,by decide +kernel,by decide +kernel⟩
abbrev s_High_word:Stmt:=inClass (top 35) 0
theorem sc_High_word:FnScope ["self"] ["self"] (defScope s_High_word):=⟨rfl,rfl,rfl,by decide +kernel,rfl,by decide +kernel,by decide +kernel⟩
abbrev s_Left_word:Stmt:=inClass (top 37) 0
theorem sc_Left_word:FnScope ["self"] ["self"] (defScope s_Left_word):=⟨rfl,rfl,rfl,by decide +kernel,rfl,by decide +kernel,by decide +kernel⟩
abbrev s_Right_word:Stmt:=inClass (top 38) 0
theorem sc_Right_word:FnScope ["self"] ["self"] (defScope s_Right_word):=⟨rfl,rfl,rfl,by decide +kernel,rfl,by decide +kernel,by decide +kernel⟩
abbrev s_Slide_word:Stmt:=inClass (top 39) 0
theorem sc_Slide_word:FnScope ["self"] ["self"] (defScope s_Slide_word):=⟨rfl,rfl,rfl,by decide +kernel,rfl,by decide +kernel,by decide +kernel⟩
abbrev s_And_word:Stmt:=inClass (top 40) 0
theorem sc_And_word:FnScope ["self"] ["self"] (defScope s_And_word):=⟨rfl,rfl,rfl,by decide +kernel,rfl,by decide +kernel,by decide +kernel⟩
abbrev s_Or_word:Stmt:=inClass (top 41) 0
theorem sc_Or_word:FnScope ["self"] ["self"] (defScope s_Or_word):=⟨rfl,rfl,rfl,by decide +kernel,rfl,by decide +kernel,by decide +kernel⟩
abbrev s_Unlike_word:Stmt:=inClass (top 42) 0
theorem sc_Unlike_word:FnScope ["self"] ["self"] (defScope s_Unlike_word):=⟨rfl,rfl,rfl,by decide +kernel,rfl,by decide +kernel,by decide +kernel⟩
abbrev s_Under_word:Stmt:=inClass (top 43) 0
theorem sc_Under_word:FnScope ["self"] ["self"] (defScope s_Under_word):=⟨rfl,rfl,rfl,by decide +kernel,rfl,by decide +kernel,by decide +kernel⟩
abbrev s_Pick_word:Stmt:=inClass (top 44) 1
theorem sc_Pick_word:FnScope ["self"] ["self"] (defScope s_Pick_word):=⟨rfl,rfl,rfl,by decide +kernel,rfl,by decide +kernel,by decide +kernel⟩
abbrev s_Mark_word:Stmt:=inClass (top 45) 1
theorem sc_Mark_word:FnScope ["self"] ["self"] (defScope s_Mark_word):=⟨rfl,rfl,rfl,by decide +kernel,rfl,by decide +kernel,by decide +kernel⟩
abbrev s_Set___init__:Stmt:=inClass (top 28) 0
theorem sc_Set___init__:FnScope ["self", "goal", "bits"] ["self", "goal", "bits"] (defScope s_Set___init__):=⟨rfl,rfl,rfl,by decide +kernel,rfl,by decide +kernel,by decide +kernel⟩
abbrev s_Copy___init__:Stmt:=inClass (top 29) 0
theorem sc_Copy___init__:FnScope ["self", "goal", "one"] ["self", "goal", "one"] (defScope s_Copy___init__):=⟨rfl,rfl,rfl,by decide +kernel,rfl,by decide +kernel,by decide +kernel⟩
abbrev s_Carrying___init__:Stmt:=inClass (top 30) 0
theorem sc_Carrying___init__:FnScope ["self", "goal", "carry", "one", "other"] ["self", "goal", "carry", "one", "other"] (defScope s_Carrying___init__):=⟨rfl,rfl,rfl,by decide +kernel,rfl,by decide +kernel,by decide +kernel⟩
abbrev s_Joining___init__:Stmt:=inClass (top 33) 0
theorem sc_Joining___init__:FnScope ["self", "goal", "one", "other"] ["self", "goal", "one", "other"] (defScope s_Joining___init__):=⟨rfl,rfl,rfl,by decide +kernel,rfl,by decide +kernel,by decide +kernel⟩
abbrev s_Moving___init__:Stmt:=inClass (top 36) 0
theorem sc_Moving___init__:FnScope ["self", "goal", "one", "k"] ["self", "goal", "one", "k"] (defScope s_Moving___init__):=⟨rfl,rfl,rfl,by decide +kernel,rfl,by decide +kernel,by decide +kernel⟩
abbrev s_Pick___init__:Stmt:=inClass (top 44) 0
theorem sc_Pick___init__:FnScope ["self", "goal", "by", "one", "other"] ["self", "goal", "by", "one", "other"] (defScope s_Pick___init__):=⟨rfl,rfl,rfl,by decide +kernel,rfl,by decide +kernel,by decide +kernel⟩
abbrev s_Mark___init__:Stmt:=inClass (top 45) 0
theorem sc_Mark___init__:FnScope ["self", "line", "mark", "by"] ["self", "line", "mark", "by"] (defScope s_Mark___init__):=⟨rfl,rfl,rfl,by decide +kernel,rfl,by decide +kernel,by decide +kernel⟩
abbrev s_Set_told:Stmt:=inClass (top 28) 2
theorem sc_Set_told:FnScope ["self"] ["self"] (defScope s_Set_told):=⟨rfl,rfl,rfl,by decide +kernel,rfl,by decide +kernel,by decide +kernel⟩
abbrev s_Copy_told:Stmt:=inClass (top 29) 2
theorem sc_Copy_told:FnScope ["self"] ["self"] (defScope s_Copy_told):=⟨rfl,rfl,rfl,by decide +kernel,rfl,by decide +kernel,by decide +kernel⟩
abbrev s_Carrying_told:Stmt:=inClass (top 30) 1
theorem sc_Carrying_told:FnScope ["self"] ["self"] (defScope s_Carrying_told):=⟨rfl,rfl,rfl,by decide +kernel,rfl,by decide +kernel,by decide +kernel⟩
abbrev s_Joining_told:Stmt:=inClass (top 33) 1
theorem sc_Joining_told:FnScope ["self"] ["self"] (defScope s_Joining_told):=⟨rfl,rfl,rfl,by decide +kernel,rfl,by decide +kernel,by decide +kernel⟩
abbrev s_Moving_told:Stmt:=inClass (top 36) 1
theorem sc_Moving_told:FnScope ["self"] ["self"] (defScope s_Moving_told):=⟨rfl,rfl,rfl,by decide +kernel,rfl,by decide +kernel,by decide +kernel⟩
abbrev s_Pick_told:Stmt:=inClass (top 44) 2
theorem sc_Pick_told:FnScope ["self"] ["self"] (defScope s_Pick_told):=⟨rfl,rfl,rfl,by decide +kernel,rfl,by decide +kernel,by decide +kernel⟩
abbrev s_Mark_told:Stmt:=inClass (top 45) 2
theorem sc_Mark_told:FnScope ["self"] ["self"] (defScope s_Mark_told):=⟨rfl,rfl,rfl,by decide +kernel,rfl,by decide +kernel,by decide +kernel⟩
abbrev s_Sum_reckoned:Stmt:=inClass (top 31) 1
theorem sc_Sum_reckoned:FnScope ["self", "width", "a", "b"] ["self", "width", "a", "b"] (defScope s_Sum_reckoned):=⟨rfl,rfl,rfl,by decide +kernel,rfl,by decide +kernel,by decide +kernel⟩
abbrev s_Gap_reckoned:Stmt:=inClass (top 32) 1
theorem sc_Gap_reckoned:FnScope ["self", "width", "a", "b"] ["self", "width", "a", "b"] (defScope s_Gap_reckoned):=⟨rfl,rfl,rfl,by decide +kernel,rfl,by decide +kernel,by decide +kernel⟩
abbrev s_Low_reckoned:Stmt:=inClass (top 34) 1
theorem sc_Low_reckoned:FnScope ["self", "width", "a", "b"] ["self", "width", "a", "b"] (defScope s_Low_reckoned):=⟨rfl,rfl,rfl,by decide +kernel,rfl,by decide +kernel,by decide +kernel⟩
abbrev s_High_reckoned:Stmt:=inClass (top 35) 1
theorem sc_High_reckoned:FnScope ["self", "width", "a", "b"] ["self", "width", "a", "b"] (defScope s_High_reckoned):=⟨rfl,rfl,rfl,by decide +kernel,rfl,by decide +kernel,by decide +kernel⟩
abbrev s_And_reckoned:Stmt:=inClass (top 40) 1
theorem sc_And_reckoned:FnScope ["self", "width", "a", "b"] ["self", "width", "a", "b"] (defScope s_And_reckoned):=⟨rfl,rfl,rfl,by decide +kernel,rfl,by decide +kernel,by decide +kernel⟩
abbrev s_Or_reckoned:Stmt:=inClass (top 41) 1
theorem sc_Or_reckoned:FnScope ["self", "width", "a", "b"] ["self", "width", "a", "b"] (defScope s_Or_reckoned):=⟨rfl,rfl,rfl,by decide +kernel,rfl,by decide +kernel,by decide +kernel⟩
abbrev s_Unlike_reckoned:Stmt:=inClass (top 42) 1
theorem sc_Unlike_reckoned:FnScope ["self", "width", "a", "b"] ["self", "width", "a", "b"] (defScope s_Unlike_reckoned):=⟨rfl,rfl,rfl,by decide +kernel,rfl,by decide +kernel,by decide +kernel⟩
abbrev s_Under_reckoned:Stmt:=inClass (top 43) 1
theorem sc_Under_reckoned:FnScope ["self", "width", "a", "b"] ["self", "width", "a", "b"] (defScope s_Under_reckoned):=⟨rfl,rfl,rfl,by decide +kernel,rfl,by decide +kernel,by decide +kernel⟩
abbrev s_Left_moved:Stmt:=inClass (top 37) 1
theorem sc_Left_moved:FnScope ["self", "width", "a"] ["self", "width", "a"] (defScope s_Left_moved):=⟨rfl,rfl,rfl,by decide +kernel,rfl,by decide +kernel,by decide +kernel⟩
abbrev s_Right_moved:Stmt:=inClass (top 38) 1
theorem sc_Right_moved:FnScope ["self", "width", "a"] ["self", "width", "a"] (defScope s_Right_moved):=⟨rfl,rfl,rfl,by decide +kernel,rfl,by decide +kernel,by decide +kernel⟩
abbrev s_Slide_moved:Stmt:=inClass (top 39) 1
theorem sc_Slide_moved:FnScope ["self", "width", "a"] ["self", "width", "a"] (defScope s_Slide_moved):=⟨rfl,rfl,rfl,by decide +kernel,rfl,by decide +kernel,by decide +kernel⟩
abbrev s_Set_good_at:Stmt:=inClass (top 28) 3
theorem sc_Set_good_at:FnScope ["self", "width"] ["self", "width"] (defScope s_Set_good_at):=⟨rfl,rfl,rfl,by decide +kernel,rfl,by decide +kernel,by decide +kernel⟩
abbrev s_Copy_good_at:Stmt:=inClass (top 29) 3
theorem sc_Copy_good_at:FnScope ["self", "width"] ["self", "width"] (defScope s_Copy_good_at):=⟨rfl,rfl,rfl,by decide +kernel,rfl,by decide +kernel,by decide +kernel⟩
abbrev s_Carrying_good_at:Stmt:=inClass (top 30) 2
theorem sc_Carrying_good_at:FnScope ["self", "width"] ["self", "width"] (defScope s_Carrying_good_at):=⟨rfl,rfl,rfl,by decide +kernel,rfl,by decide +kernel,by decide +kernel⟩
abbrev s_Joining_good_at:Stmt:=inClass (top 33) 2
theorem sc_Joining_good_at:FnScope ["self", "width"] ["self", "width"] (defScope s_Joining_good_at):=⟨rfl,rfl,rfl,by decide +kernel,rfl,by decide +kernel,by decide +kernel⟩
abbrev s_Moving_good_at:Stmt:=inClass (top 36) 2
theorem sc_Moving_good_at:FnScope ["self", "width"] ["self", "width"] (defScope s_Moving_good_at):=⟨rfl,rfl,rfl,by decide +kernel,rfl,by decide +kernel,by decide +kernel⟩
abbrev s_Pick_good_at:Stmt:=inClass (top 44) 3
theorem sc_Pick_good_at:FnScope ["self", "width"] ["self", "width"] (defScope s_Pick_good_at):=⟨rfl,rfl,rfl,by decide +kernel,rfl,by decide +kernel,by decide +kernel⟩
abbrev s_Mark_good_at:Stmt:=inClass (top 45) 3
theorem sc_Mark_good_at:FnScope ["self", "width"] ["self", "width"] (defScope s_Mark_good_at):=⟨rfl,rfl,rfl,by decide +kernel,rfl,by decide +kernel,by decide +kernel⟩
abbrev s_Set_act:Stmt:=inClass (top 28) 4
theorem sc_Set_act:FnScope ["self", "width", "words", "marks"] ["self", "width", "words", "marks"] (defScope s_Set_act):=⟨rfl,rfl,rfl,by decide +kernel,rfl,by decide +kernel,by decide +kernel⟩
abbrev s_Copy_act:Stmt:=inClass (top 29) 4
theorem sc_Copy_act:FnScope ["self", "width", "words", "marks"] ["self", "width", "words", "marks"] (defScope s_Copy_act):=⟨rfl,rfl,rfl,by decide +kernel,rfl,by decide +kernel,by decide +kernel⟩
abbrev s_Carrying_act:Stmt:=inClass (top 30) 3
theorem sc_Carrying_act:FnScope ["self", "width", "words", "marks", "pair"] ["self", "width", "words", "marks"] (defScope s_Carrying_act):=⟨rfl,rfl,rfl,by decide +kernel,rfl,by decide +kernel,by decide +kernel⟩
abbrev s_Joining_act:Stmt:=inClass (top 33) 3
theorem sc_Joining_act:FnScope ["self", "width", "words", "marks"] ["self", "width", "words", "marks"] (defScope s_Joining_act):=⟨rfl,rfl,rfl,by decide +kernel,rfl,by decide +kernel,by decide +kernel⟩
abbrev s_Moving_act:Stmt:=inClass (top 36) 3
theorem sc_Moving_act:FnScope ["self", "width", "words", "marks"] ["self", "width", "words", "marks"] (defScope s_Moving_act):=⟨rfl,rfl,rfl,by decide +kernel,rfl,by decide +kernel,by decide +kernel⟩
abbrev s_Pick_act:Stmt:=inClass (top 44) 4
theorem sc_Pick_act:FnScope ["self", "width", "words", "marks"] ["self", "width", "words", "marks"] (defScope s_Pick_act):=⟨rfl,rfl,rfl,by decide +kernel,rfl,by decide +kernel,by decide +kernel⟩
abbrev s_Mark_act:Stmt:=inClass (top 45) 4
theorem sc_Mark_act:FnScope ["self", "width", "words", "marks"] ["self", "width", "words", "marks"] (defScope s_Mark_act):=⟨rfl,rfl,rfl,by decide +kernel,rfl,by decide +kernel,by decide +kernel⟩
abbrev s_is_good:Stmt:=top 50
theorem sc_is_good:FnScope ["width", "thing", "about"] ["width", "thing", "about"] (defScope s_is_good):=⟨rfl,rfl,rfl,by decide +kernel,rfl,by decide +kernel,by decide +kernel⟩
abbrev s_place_behind:Stmt:=top 51
theorem sc_place_behind:FnScope ["width", "steps", "place", "about", "step"] ["width", "steps", "place", "about"] (defScope s_place_behind):=⟨rfl,rfl,rfl,by decide +kernel,rfl,by decide +kernel,by decide +kernel⟩
abbrev s_count_words:Stmt:=top 52
theorem sc_count_words:FnScope ["steps", "times", "counts", "step", "many"] ["steps", "times", "counts"] (defScope s_count_words):=⟨rfl,rfl,rfl,by decide +kernel,rfl,by decide +kernel,by decide +kernel⟩
abbrev s_need_steps:Stmt:=top 53
theorem sc_need_steps:FnScope ["width", "steps", "counts", "word"] ["width", "steps"] (defScope s_need_steps):=⟨rfl,rfl,rfl,by decide +kernel,rfl,by decide +kernel,by decide +kernel⟩
abbrev s_check_steps:Stmt:=top 54
theorem sc_check_steps:FnScope ["width", "steps"] ["width", "steps"] (defScope s_check_steps):=⟨rfl,rfl,rfl,by decide +kernel,rfl,by decide +kernel,by decide +kernel⟩
abbrev s_need_registers:Stmt:=top 55
theorem sc_need_registers:FnScope ["width", "registers", "key", "name"] ["width", "registers"] (defScope s_need_registers):=⟨rfl,rfl,rfl,by decide +kernel,rfl,by decide +kernel,by decide +kernel⟩
abbrev s_run_steps:Stmt:=top 56
theorem sc_run_steps:FnScope ["width", "steps", "registers", "counts", "words", "marks", "step"] ["width", "steps", "registers"] (defScope s_run_steps):=⟨rfl,rfl,rfl,by decide +kernel,rfl,by decide +kernel,by decide +kernel⟩
abbrev s__law_cell:Stmt:=top 58
theorem sc__law_cell:FnScope ["_law_script", "_law_k", "_law_number"] ["_law_script", "_law_k"] (defScope s__law_cell):=⟨rfl,rfl,rfl,by decide +kernel,rfl,by decide +kernel,by decide +kernel⟩
abbrev s__law_begun:Stmt:=top 59
theorem sc__law_begun:FnScope ["_law_cell_here", "_law_rest"] ["_law_cell_here"] (defScope s__law_begun):=⟨rfl,rfl,rfl,by decide +kernel,rfl,by decide +kernel,by decide +kernel⟩
abbrev s__law_draw:Stmt:=top 60
theorem sc__law_draw:FnScope ["_law_state", "_law_many", "_law_found", "_law_number"] ["_law_state", "_law_many"] (defScope s__law_draw):=⟨rfl,rfl,rfl,by decide +kernel,rfl,by decide +kernel,by decide +kernel⟩
abbrev s__law_whole:Stmt:=top 61
theorem sc__law_whole:FnScope ["_law_found"] ["_law_found"] (defScope s__law_whole):=⟨rfl,rfl,rfl,by decide +kernel,rfl,by decide +kernel,by decide +kernel⟩
abbrev s__law_word:Stmt:=top 62
theorem sc__law_word:FnScope ["_law_state", "_law_width", "_law_size", "_law_way"] ["_law_state", "_law_width"] (defScope s__law_word):=⟨rfl,rfl,rfl,by decide +kernel,rfl,by decide +kernel,by decide +kernel⟩
abbrev s__law_names:Stmt:=top 63
theorem sc__law_names:FnScope ["_law_state", "_law_pool", "_law_signs", "_law_at", "_law_names_here", "_law_k", "_law_name_here", "_law_j"] ["_law_state"] (defScope s__law_names):=⟨rfl,rfl,rfl,by decide +kernel,rfl,by decide +kernel,by decide +kernel⟩
abbrev s__law_name:Stmt:=top 64
theorem sc__law_name:FnScope ["_law_state", "_law_names_here"] ["_law_state", "_law_names_here"] (defScope s__law_name):=⟨rfl,rfl,rfl,by decide +kernel,rfl,by decide +kernel,by decide +kernel⟩
abbrev s__law_sorts:Stmt:=top 66
theorem sc__law_sorts:FnScope ["_law_words_here"] [] (defScope s__law_sorts):=⟨rfl,rfl,rfl,by decide +kernel,rfl,by decide +kernel,by decide +kernel⟩
abbrev s__law_row:Stmt:=top 65
theorem sc__law_row:FnScope ["_law_state", "_law_width", "_law_names_here", "_law_word_here", "_law_goal", "_law_one", "_law_other", "_law_line"] ["_law_state", "_law_width", "_law_names_here"] (defScope s__law_row):=⟨rfl,rfl,rfl,by decide +kernel,rfl,by decide +kernel,by decide +kernel⟩
abbrev s__law_made_pair:Stmt:=top 67
theorem sc__law_made_pair:FnScope ["_law_row_here"] ["_law_row_here"] (defScope s__law_made_pair):=⟨rfl,rfl,rfl,by decide +kernel,rfl,by decide +kernel,by decide +kernel⟩
abbrev s__law_made:Stmt:=top 68
theorem sc__law_made:FnScope ["_law_row_here"] ["_law_row_here"] (defScope s__law_made):=⟨rfl,rfl,rfl,by decide +kernel,rfl,by decide +kernel,by decide +kernel⟩
abbrev s__law_pair_word:Stmt:=top 69
theorem sc__law_pair_word:FnScope ["_law_word_here", "_law_a", "_law_b", "_law_size"] ["_law_word_here", "_law_a", "_law_b", "_law_size"] (defScope s__law_pair_word):=⟨rfl,rfl,rfl,by decide +kernel,rfl,by decide +kernel,by decide +kernel⟩
abbrev s__law_moved:Stmt:=top 70
theorem sc__law_moved:FnScope ["_law_word_here", "_law_a", "_law_k", "_law_size"] ["_law_word_here", "_law_a", "_law_k", "_law_size"] (defScope s__law_moved):=⟨rfl,rfl,rfl,by decide +kernel,rfl,by decide +kernel,by decide +kernel⟩
abbrev s__law_done:Stmt:=top 71
theorem sc__law_done:FnScope ["_law_size", "_law_row_here", "_law_held", "_law_marks", "_law_at", "_law_a", "_law_b", "_law_total"] ["_law_size", "_law_row_here", "_law_held", "_law_marks"] (defScope s__law_done):=⟨rfl,rfl,rfl,by decide +kernel,rfl,by decide +kernel,by decide +kernel⟩
abbrev s__law_words:Stmt:=top 72
theorem sc__law_words:FnScope [] [] (defScope s__law_words):=⟨rfl,rfl,rfl,by decide +kernel,rfl,by decide +kernel,by decide +kernel⟩
abbrev s__law_same:Stmt:=top 73
theorem sc__law_same:FnScope ["_law_found", "_law_held", "_law_marks", "_law_counts"] ["_law_found", "_law_held", "_law_marks", "_law_counts"] (defScope s__law_same):=⟨rfl,rfl,rfl,by decide +kernel,rfl,by decide +kernel,by decide +kernel⟩
abbrev s__law_rows:Stmt:=top 74
theorem sc__law_rows:FnScope ["_law_script", "_law_width", "_law_names_here", "_law_rows_here", "_law_k"] ["_law_script", "_law_width", "_law_names_here"] (defScope s__law_rows):=⟨rfl,rfl,rfl,by decide +kernel,rfl,by decide +kernel,by decide +kernel⟩
abbrev s__law_due:Stmt:=top 75
theorem sc__law_due:FnScope ["_law_width", "_law_rows_here", "_law_held", "_law_behind", "_law_marks", "_law_counts", "_law_row_here"] ["_law_width", "_law_rows_here", "_law_held"] (defScope s__law_due):=⟨rfl,rfl,rfl,by decide +kernel,rfl,by decide +kernel,by decide +kernel⟩
abbrev s__law_run:Stmt:=top 76
theorem sc__law_run:FnScope ["_law_width", "_law_rows_here", "_law_held", "_law_handed", "_law_steps", "_law_kept", "_law_found", "_law_behind", "_law_marks", "_law_counts"] ["_law_width", "_law_rows_here", "_law_held"] (defScope s__law_run):=⟨rfl,rfl,rfl,by decide +kernel,rfl,by decide +kernel,by decide +kernel⟩
abbrev s_law:Stmt:=top 77
theorem sc_law:FnScope ["_law_script", "_law_state", "_law_width", "_law_names_here", "_law_held", "_law_name_here", "_law_rows_here", "_law_at", "_law_half", "_law_first", "_law_last", "_law_behind", "_law_marks", "_law_counts"] ["_law_script"] (defScope s_law):=⟨rfl,rfl,rfl,by decide +kernel,rfl,by decide +kernel,by decide +kernel⟩
def kindsAll (K:PySem.W.Frag) (cs:List Addr) (st:Addr):Bool:=PySem.W.isClsIn K st && (PySem.W.typeIn K (.ref st) == some (.type "type")) && (List.range 16).all fun k=>PySem.W.isClsIn K (cs.getD k 0) && (PySem.W.typeIn K (.ref (cs.getD k 0)) == some (.type "type")) && (PySem.W.mroIn K (cs.getD k 0) (.ref st) == some true) && (PySem.W.findIn K (.ref (cs.getD k 0)) "__class__" == some (some (.builtin "object.__class__"))) && (PySem.W.mroIn K (cs.getD k 0) (.type "object") == some true) && (List.range 16).all fun i=>PySem.W.mroIn K (cs.getD k 0) (.ref (cs.getD i 0)) == some (decide (i = k))
structure Ad where
 Set:Addr
 Copy:Addr
 Sum:Addr
 Gap:Addr
 Low:Addr
 High:Addr
 Left:Addr
 Right:Addr
 Slide:Addr
 And:Addr
 Or:Addr
 Unlike:Addr
 Under:Addr
 Pick:Addr
 Mark:Addr
 Turns:Addr
 Step:Addr
 ROW_WORDS:Addr
 MARKS:Addr
structure Txt (K:PySem.W.Frag) (mg:Str→Option Value) (c:Ad):Prop where
 n_isinstance:mg "isinstance" = none
 n_int:mg "int" = none
 n_bool:mg "bool" = none
 n_str:mg "str" = none
 n_list:mg "list" = none
 n_tuple:mg "tuple" = none
 n_dict:mg "dict" = none
 n_len:mg "len" = none
 n_max:mg "max" = none
 n_min:mg "min" = none
 n_range:mg "range" = none
 n_all:mg "all" = none
 n_sum:mg "sum" = none
 n_sorted:mg "sorted" = none
 g_Set:mg "Set" = some (.ref c.Set)
 cl_Set:Cls K c.Set
 na_Set_goal:NoAttr K c.Set "goal"
 na_Set_bits:NoAttr K c.Set "bits"
 g_Copy:mg "Copy" = some (.ref c.Copy)
 cl_Copy:Cls K c.Copy
 na_Copy_goal:NoAttr K c.Copy "goal"
 na_Copy_one:NoAttr K c.Copy "one"
 g_Sum:mg "Sum" = some (.ref c.Sum)
 cl_Sum:Cls K c.Sum
 na_Sum_goal:NoAttr K c.Sum "goal"
 na_Sum_carry:NoAttr K c.Sum "carry"
 na_Sum_one:NoAttr K c.Sum "one"
 na_Sum_other:NoAttr K c.Sum "other"
 g_Gap:mg "Gap" = some (.ref c.Gap)
 cl_Gap:Cls K c.Gap
 na_Gap_goal:NoAttr K c.Gap "goal"
 na_Gap_carry:NoAttr K c.Gap "carry"
 na_Gap_one:NoAttr K c.Gap "one"
 na_Gap_other:NoAttr K c.Gap "other"
 g_Low:mg "Low" = some (.ref c.Low)
 cl_Low:Cls K c.Low
 na_Low_goal:NoAttr K c.Low "goal"
 na_Low_one:NoAttr K c.Low "one"
 na_Low_other:NoAttr K c.Low "other"
 g_High:mg "High" = some (.ref c.High)
 cl_High:Cls K c.High
 na_High_goal:NoAttr K c.High "goal"
 na_High_one:NoAttr K c.High "one"
 na_High_other:NoAttr K c.High "other"
 g_Left:mg "Left" = some (.ref c.Left)
 cl_Left:Cls K c.Left
 na_Left_goal:NoAttr K c.Left "goal"
 na_Left_one:NoAttr K c.Left "one"
 na_Left_k:NoAttr K c.Left "k"
 g_Right:mg "Right" = some (.ref c.Right)
 cl_Right:Cls K c.Right
 na_Right_goal:NoAttr K c.Right "goal"
 na_Right_one:NoAttr K c.Right "one"
 na_Right_k:NoAttr K c.Right "k"
 g_Slide:mg "Slide" = some (.ref c.Slide)
 cl_Slide:Cls K c.Slide
 na_Slide_goal:NoAttr K c.Slide "goal"
 na_Slide_one:NoAttr K c.Slide "one"
 na_Slide_k:NoAttr K c.Slide "k"
 g_And:mg "And" = some (.ref c.And)
 cl_And:Cls K c.And
 na_And_goal:NoAttr K c.And "goal"
 na_And_one:NoAttr K c.And "one"
 na_And_other:NoAttr K c.And "other"
 g_Or:mg "Or" = some (.ref c.Or)
 cl_Or:Cls K c.Or
 na_Or_goal:NoAttr K c.Or "goal"
 na_Or_one:NoAttr K c.Or "one"
 na_Or_other:NoAttr K c.Or "other"
 g_Unlike:mg "Unlike" = some (.ref c.Unlike)
 cl_Unlike:Cls K c.Unlike
 na_Unlike_goal:NoAttr K c.Unlike "goal"
 na_Unlike_one:NoAttr K c.Unlike "one"
 na_Unlike_other:NoAttr K c.Unlike "other"
 g_Under:mg "Under" = some (.ref c.Under)
 cl_Under:Cls K c.Under
 na_Under_goal:NoAttr K c.Under "goal"
 na_Under_one:NoAttr K c.Under "one"
 na_Under_other:NoAttr K c.Under "other"
 g_Pick:mg "Pick" = some (.ref c.Pick)
 cl_Pick:Cls K c.Pick
 na_Pick_goal:NoAttr K c.Pick "goal"
 na_Pick_by:NoAttr K c.Pick "by"
 na_Pick_one:NoAttr K c.Pick "one"
 na_Pick_other:NoAttr K c.Pick "other"
 g_Mark:mg "Mark" = some (.ref c.Mark)
 cl_Mark:Cls K c.Mark
 na_Mark_line:NoAttr K c.Mark "line"
 na_Mark_mark:NoAttr K c.Mark "mark"
 na_Mark_by:NoAttr K c.Mark "by"
 g_Turns:mg "Turns" = some (.ref c.Turns)
 cl_Turns:Cls K c.Turns
 g_Step:mg "Step" = some (.ref c.Step)
 cl_Step:Cls K c.Step
 g_ROW_WORDS:mg "ROW_WORDS" = some (.ref c.ROW_WORDS)
 q_ROW_WORDS:∀ H,SqT K H c.ROW_WORDS [.str "set",.str "copy",.str "sum",.str "gap",.str "low",.str "high",.str "left",.str "right",.str "slide",.str "and",.str "or",.str "unlike",.str "under",.str "pick",.str "mark",.str "turns"]
 g_MARKS:mg "MARKS" = some (.ref c.MARKS)
 q_MARKS:∀ H,SqT K H c.MARKS [.str "round",.str "stop",.str "nothing"]
 g_LETTERS:∃ t,mg "LETTERS" = some (.str "abcdefghijklmnopqrstuvwxyz" t)
 g_LETTERS_AND_FIGURES:∃ t,mg "LETTERS_AND_FIGURES" = some (.str "abcdefghijklmnopqrstuvwxyz0123456789" t)
 g_MOST_DONE:∃ t,mg "MOST_DONE" = some (.int 1000000 t)
 kf_og:PySem.W.specialIn K (.builtin "object.__class__") "__get__" = some (some (.builtin "getset_descriptor.__get__"))
 kf_ot:PySem.W.takesIn K (.builtin "object.__class__") = some true
 kf_kr_kinds:kindsAll K [c.Set,c.Copy,c.Sum,c.Gap,c.Low,c.High,c.Left,c.Right,c.Slide,c.And,c.Or,c.Unlike,c.Under,c.Pick,c.Mark,c.Turns] c.Step = true
theorem pw_bounds {w:Int} (h1:4≤w) (h2:w≤32):16≤(2:Int) ^ w.toNat∧(2:Int) ^ w.toNat≤4294967296:=by
 have a:(2:Int) ^ 4≤2 ^ w.toNat:=p_mono (by omega)
 have b:(2:Int) ^ w.toNat≤2 ^ 32:=p_mono (by omega)
 exact ⟨a,b⟩
theorem log_small {m:Int} (h0:0 < m) (h:m < 2 ^ 80):m.natAbs.log2 < 9000:=by
 have h1:m.natAbs ≠ 0:=by omega
 have h2:m.natAbs < 2 ^ 80:=by omega
 have:=(Nat.log2_lt h1).mpr h2
 omega
theorem cpow1 {w:Int} (h1:0≤w) (h2:w≤100000):CPow 1 w:=⟨h1,by omega,by decide⟩
theorem cmul_mod {x y m:Int} (h0:0 < m) (h:m≤2 ^ 64):CMul (x % m) y:=by
 have a:=Int.emod_nonneg x (show m ≠ 0 by omega)
 have b:=Int.emod_lt_of_pos x h0
 exact .inl ⟨by omega,by omega⟩
theorem cmul_l {x y:Int} (h0:0≤x) (h:x < 2 ^ 64):CMul x y:=.inl ⟨by omega,h⟩
def spWhole:Sp:=fun vs H Q _=>∃ i:Int,vs = [.int i]∧Q (.bl true) H
def spBetween:Sp:=fun vs H Q _=>∃ i lo hi:Int,vs = [.int i,.int lo,.int hi]∧lo≤i∧i≤hi∧Q (.bl true) H
def spNeedW:Sp:=fun vs H Q _=>∃ i:Int,vs = [.int i]∧4≤i∧i≤32∧Q .non H
def spLaw (K:PySem.W.Frag):Sp:=fun vs H Q _=>∃ (a:Addr) (ns:List Int),vs = [.ref a]∧SqL K H a (ns.map V.int)∧ns.length≤63∧∀ H',Q (.bl true) H'
theorem b200 {x:Int} (h1:-(2 ^ 200) < x) (h2:x < 2 ^ 200):intBits x≤100000:=Nat.le_trans (intBits_le_iff.mpr (show x.natAbs < 2 ^ 200 by omega)) (by decide)
def spBox:Sp:=fun vs H Q _=>∃ c:Int,vs = [.int c]∧∀ p H',H p = none→Box H' p→Same H H'→Q (.ref p) H'
def spCell (K:PySem.W.Frag):Sp:=fun vs H Q _=>∃ (a:Addr) (ns:List Int) (k:Int),vs = [.ref a,.int k]∧SqL K H a (ns.map V.int)∧0≤k∧k≤1000∧∀ c:Int,Q (.int c) H
theorem pw_half {w:Int} (h1:4≤w):(2:Int) ^ w.toNat = 2 * 2 ^ (w - 1).toNat:=by
 have e:w.toNat = (w - 1).toNat + 1:=by omega
 rw [e,Int.pow_succ,Int.mul_comm]
def cnt (w a:Int):Int:=if a < 1 * 2 ^ (w - 1).toNat then a else a - 1 * 2 ^ w.toNat
def spSum:Sp:=fun vs H Q _=>∃ w a b:Int,vs = [.int w,.int a,.int b]∧4≤w∧w≤32∧∀ t,H t = none→Q (.ref t) (upd H t (.tup [.int ((a + b) % (1 * 2 ^ w.toNat)),.int ((a + b) / 2 ^ w.toNat)]))
def spGap:Sp:=fun vs H Q _=>∃ w a b:Int,vs = [.int w,.int a,.int b]∧4≤w∧w≤32∧∀ t,H t = none→Q (.ref t) (upd H t (.tup [.int ((a - b) % (1 * 2 ^ w.toNat)),.int (if a < b then 1 else 0)]))
def spLow:Sp:=fun vs H Q _=>∃ w a b:Int,vs = [.int w,.int a,.int b]∧4≤w∧w≤32∧CMul a b∧Q (.int ((a * b) % (1 * 2 ^ w.toNat))) H
def spHigh:Sp:=fun vs H Q _=>∃ w a b:Int,vs = [.int w,.int a,.int b]∧4≤w∧w≤32∧CMul a b∧Q (.int ((a * b) / 2 ^ w.toNat)) H
def spLeft:Sp:=fun vs H Q _=>∃ w a k:Int,vs = [.int w,.int a,.int k]∧4≤w∧w≤32∧CPow a k∧Q (.int ((a * 2 ^ k.toNat) % (1 * 2 ^ w.toNat))) H
def spRight:Sp:=fun vs H Q _=>∃ w a k:Int,vs = [.int w,.int a,.int k]∧4≤w∧w≤32∧0≤k∧Q (.int (a / 2 ^ k.toNat)) H
def spSlide:Sp:=fun vs H Q _=>∃ w a k:Int,vs = [.int w,.int a,.int k]∧4≤w∧w≤32∧0≤k∧Q (.int ((cnt w a / 2 ^ k.toNat) % (1 * 2 ^ w.toNat))) H
theorem iteC {c A B:Prop} [Decidable c] (h1:c→A) (h2:¬ c→B):if decide c = true then A else B:=by
 by_cases h:c
 ·exact iteD h (h1 h)
 ·exact iteDN h (h2 h)
theorem iteI {a b:Int} {A B:Prop} (h1:a = b→A) (h2:a ≠ b→B):if decide (V.int a = V.int b) = true then A else B:=iteC (fun z=>h1 (by injection z)) (fun z=>h2 (fun e=>z (congrArg V.int e)))
local macro_rules | `(tactic| walk_at "s")=>`(tactic| first
 | omega | assumption | exact ty_int | exact rfl | (dsimp only; omega) | exact cpow1 (by omega) (by omega) | exact ⟨by decide,by decide⟩ | exact ⟨by omega,log_small (by omega) (by omega)⟩
 | exact .inr ⟨by decide,by decide⟩ | exact .inl ⟨by decide,by decide⟩ | exact .inl ⟨by omega,by omega⟩ | exact .inr ⟨by omega,by omega⟩ | exact ⟨b200 (by omega) (by omega),b200 (by omega) (by omega)⟩
 | exact ⟨by decide,by decide,by decide⟩ | exact Nat.le_of_ble_eq_true rfl)
local macro_rules | `(tactic| walk_at "q")=>`(tactic| first | exact SqT.of (by first | assumption | exact upd_same) | exact SqL.of (by first | assumption | exact upd_same) | assumption)
local macro_rules | `(tactic| walk_at "o")=>`(tactic| repeat (first
 | refine ⟨_,rfl,?_⟩ | refine ⟨_,_,rfl,rfl,?_⟩ | with_reducible refine iteF ?_ | with_reducible refine iteT ?_
 | refine ⟨_,_,_,_,rfl,rfl,(by walk_at "q"),rfl,?_⟩
 | refine And.intro (by walk_at "s") ?_
 | refine ⟨_,_,rfl,?_⟩ | refine ⟨_,_,_,rfl,?_⟩
 | refine ⟨_,_,_,_,_,rfl,rfl,TyOf.int _,kit_int_int _,?_⟩ | refine ⟨_,_,_,_,_,rfl,rfl,TyOf.int _,kit_int_bool _,?_⟩
 | refine ⟨_,_,_,_,_,rfl,rfl,TyOf.bl _,rfl,?_⟩
 | refine ⟨_,_,_,_,_,rfl,rfl,TyOf.tup (by assumption),rfl,?_⟩
 | refine ⟨_,_,rfl,.inr (SqT.of (by assumption)),?_⟩ | refine ⟨_,_,rfl,.inl (SqL.of (by assumption)),?_⟩
 | with_reducible refine iteD (by omega) ?_ | with_reducible refine iteDN (by omega) ?_ | with_reducible refine iteN (by omega) ?_ | with_reducible refine iteNS (by omega) ?_
 | with_reducible refine iteNS rfl ?_))
local macro_rules | `(tactic| walk_at "c")=>`(tactic| first | with_reducible refine iteI ?_ ?_ | with_reducible refine iteIN ?_ ?_ | with_reducible refine iteC ?_ ?_ | with_reducible refine iteCN ?_ ?_ | refine ite2 ?_ ?_)
local macro_rules | `(tactic| walk_at "n")=>`(tactic| (intro z; injection z with z; revert z; decide +kernel))
def fOf (c:Ad):Nat→Addr
 | 0=>c.Set
 | 1=>c.Copy
 | 2=>c.Sum
 | 3=>c.Gap
 | 4=>c.Low
 | 5=>c.High
 | 6=>c.Left
 | 7=>c.Right
 | 8=>c.Slide
 | 9=>c.And
 | 10=>c.Or
 | 11=>c.Unlike
 | 12=>c.Under
 | 13=>c.Pick
 | 14=>c.Mark
 | 15=>c.Turns
 | _=>0
def wOf:Nat→Str
 | 0=>"set"
 | 1=>"copy"
 | 2=>"sum"
 | 3=>"gap"
 | 4=>"low"
 | 5=>"high"
 | 6=>"left"
 | 7=>"right"
 | 8=>"slide"
 | 9=>"and"
 | 10=>"or"
 | 11=>"unlike"
 | 12=>"under"
 | 13=>"pick"
 | 14=>"mark"
 | 15=>"turns"
 | _=>""
def nOf:Nat→List Str
 | 0=>["goal", "bits"]
 | 1=>["goal", "one"]
 | 2=>["goal", "carry", "one", "other"]
 | 3=>["goal", "carry", "one", "other"]
 | 4=>["goal", "one", "other"]
 | 5=>["goal", "one", "other"]
 | 6=>["goal", "one", "k"]
 | 7=>["goal", "one", "k"]
 | 8=>["goal", "one", "k"]
 | 9=>["goal", "one", "other"]
 | 10=>["goal", "one", "other"]
 | 11=>["goal", "one", "other"]
 | 12=>["goal", "one", "other"]
 | 13=>["goal", "by", "one", "other"]
 | 14=>["line", "mark", "by"]
 | 15=>["times", "steps"]
 | _=>[]
theorem len2 {as:List V} {f g:Str} (h:as.length = [f,g].length):∃ a0 a1,as = [a0,a1]:=by
 match as,h with
 | [a,b],_=>exact ⟨a,b,rfl⟩
theorem len3 {as:List V} {f g i:Str} (h:as.length = [f,g,i].length):∃ a0 a1 a2,as = [a0,a1,a2]:=by
 match as,h with
 | [a,b,d],_=>exact ⟨a,b,d,rfl⟩
theorem len4 {as:List V} {f g i j:Str} (h:as.length = [f,g,i,j].length):∃ a0 a1 a2 a3,as = [a0,a1,a2,a3]:=by
 match as,h with
 | [a,b,d,e],_=>exact ⟨a,b,d,e,rfl⟩
def spWd (s:Str):Sp:=fun vs H Q _=>∃ x:Addr,vs = [.ref x]∧Q (.str s) H
def spInit (K:PySem.W.Frag) (fs:List Str):Sp:=fun vs H Q _=>∃ (x C dx:Addr) (as:List V),vs = .ref x :: as∧as.length = fs.length∧H x = some (.ins C dx [])∧Cls K C∧(∀ f ∈ fs,NoAttr K C f)∧∀ H',H' x = some (.ins C dx (fs.zip as))→SameX x H H'→Q .non H'
def StepAt (c:Ad) (H:Hp) (x:Addr) (k:Nat) (fs:List V):Prop:=∃ dx,H x = some (.ins (fOf c k) dx ((nOf k).zip fs))∧fs.length = (nOf k).length
def spTold (c:Ad) (ks:List Nat):Sp:=fun vs H Q _=>∃ (x:Addr) (k:Nat) (fs:List V),vs = [.ref x]∧k ∈ ks∧StepAt c H x k fs∧∀ r,H r = none→Q (.ref r) (upd H r (.tup (.str (wOf k) :: fs)))
def inS (j i:Str):Bool:=!(Builtin.Str.occurrences j i 0 j.length 1).isEmpty
def LT:Str:="abcdefghijklmnopqrstuvwxyz"
def LF:Str:="abcdefghijklmnopqrstuvwxyz0123456789"
def isReg:V→Bool
 | .str z=>decide (1≤z.length) && decide (z.length≤8) && (match z.cps[0]? with | some n=>inS LT ⟨#[n]⟩ | none=>false) && z.cps.toList.all fun n=>inS LF ⟨#[n]⟩
 | _=>false
def spReg:Sp:=fun vs H Q _=>∃ x:V,vs = [x]∧Th H x∧(∀ z,x = .str z→z.length≤sizeLine)∧∀ H',Same H H'→Q (.bl (isReg x)) H'
theorem kit_int_str (K:PySem.W.Frag):PySem.W.kitOne K (.type "int") (.type "str") = some false:=by with_unfolding_all rfl
theorem kit_bl_str (K:PySem.W.Frag):PySem.W.kitOne K (.type "bool") (.type "str") = some false:=by with_unfolding_all rfl
theorem kit_non_str (K:PySem.W.Frag):PySem.W.kitOne K (.type "NoneType") (.type "str") = some false:=by with_unfolding_all rfl
theorem kit_lst_str (K:PySem.W.Frag):PySem.W.kitOne K (.type "list") (.type "str") = some false:=by with_unfolding_all rfl
theorem kit_tup_str (K:PySem.W.Frag):PySem.W.kitOne K (.type "tuple") (.type "str") = some false:=by with_unfolding_all rfl
theorem kit_dct_str (K:PySem.W.Frag):PySem.W.kitOne K (.type "dict") (.type "str") = some false:=by with_unfolding_all rfl
theorem kit_str_str (K:PySem.W.Frag):PySem.W.kitOne K (.type "str") (.type "str") = some true:=by with_unfolding_all rfl
theorem StepAt.same {c:Ad} {H H':Hp} {x:Addr} {k:Nat} {fs:List V} (h:StepAt c H x k fs) (s:Same H H'):StepAt c H' x k fs:=let ⟨dx,e,l⟩:=h; ⟨dx,s _ _ e,l⟩
theorem nOf_told {k:Nat} {fs:List V} (h:k < 15):((nOf k).zip fs).lookup ("told":Str) = none:=by
 have e:∀ (ns:List Str) (fs:List V),("told":Str) ∉ ns→(ns.zip fs).lookup ("told":Str) = none:=fun ns=>by
  induction ns with
  | nil=>intro fs _; rfl
  | cons a t ih =>
   intro fs hn
   cases fs with
   | nil=>rfl
   | cons b u =>
    show (match ("told":Str) == a with | true=>some b | false=>(t.zip u).lookup ("told":Str)) = none
    rw [show (("told":Str) == a) = false from beq_eq_false_iff_ne.mpr fun z=>hn (by rw [z]; exact List.mem_cons_self ..)]
    exact ih u fun z=>hn (List.mem_cons_of_mem _ z)
 refine e _ _ ?_
 rcases (by omega:k = 0∨k = 1∨k = 2∨k = 3∨k = 4∨k = 5∨k = 6∨k = 7∨k = 8∨k = 9∨k = 10∨k = 11∨k = 12∨k = 13∨k = 14) with rfl | rfl | rfl | rfl | rfl | rfl | rfl | rfl | rfl | rfl | rfl | rfl | rfl | rfl | rfl <;> decide +kernel
theorem Same.updL {H H':Hp} {l:Addr} {o:HO} (s:Same H H') (hl:H l = none):Same H (upd H' l o):=fun b u e=>by rw [upd_ne (ne_of_none e hl)]; exact s b u e
theorem Same.none {H H':Hp} (s:Same H H') {l:Addr} (h:H' l = none):H l = none:=by
 cases e:H l with
 | none=>rfl
 | some o=>rw [s _ _ e] at h; cases h
def spTake3:Sp:=fun vs H Q _=>∃ (p:Addr) (m:Int),vs = [.ref p,.int m]∧Box H p∧0 < m∧m < 2 ^ 80∧∀ (d:Int) H',0≤d→d < m→Box H' p→SameX p H H'→Q (.int d) H'
theorem at0 (v:V) (r:List V):atI (v :: r) 0 = some v:=by
 show atI (v :: r) ((0:Nat):Int) = some v
 rw [atI_nat]
 rfl
theorem pickV {xs:List V} {k:Int} (h0:0≤k) (h1:k < xs.length) {Pr:V→Prop} (ha:∀ x ∈ xs,Pr x):∃ v,Pr v∧atI xs k = some v:=by
 have hk:k.toNat < xs.length:=by omega
 refine ⟨xs[k.toNat]'hk,ha _ (List.getElem_mem hk),?_⟩
 have:=atI_nat (List.getElem?_eq_getElem hk)
 rw [show ((k.toNat:Nat):Int) = k by omega] at this
 exact this
def AllV (Pr:V→Prop):List V→Prop
 | []=>True
 | x :: t=>Pr x∧AllV Pr t
theorem allV {Pr:V→Prop}:∀ {xs:List V},AllV Pr xs→∀ x ∈ xs,Pr x
 | [],_,_,h=>nomatch h
 | _ :: _,⟨a,b⟩,x,h=>(List.mem_cons.mp h).elim (fun e=>e ▸ a) (allV b x)
theorem newO {H:Hp} {p:Addr} (h:H p = none) (o:HO):∃ G,upd H p o = G∧Same H G∧G p = some o:=⟨_,rfl,same_new h _,upd_same⟩
theorem Box.ne {H:Hp} {p l:Addr} (b:Box H p) (h:H l = none):l ≠ p:=fun z=>by
 obtain ⟨r,s1,c,e⟩:=b
 rw [z,e] at h
 cases h
structure RgA (z:Str):Prop where
 n1:1≤z.length
 fst:∀ n,z.cps[0]? = some n→inS LT ⟨#[n]⟩ = true
 al:∀ n ∈ z.cps.toList,inS LF ⟨#[n]⟩ = true
theorem RgA.reg {z:Str} (h:RgA z) (l:z.length≤8):isReg (.str z) = true:=by
 have lz:z.length = z.cps.size:=rfl
 have n1:=h.n1
 have s1:0 < z.cps.size:=by omega
 have e0:z.cps[0]? = some z.cps[0]:=Array.getElem?_eq_getElem s1
 show (decide (1≤z.length) && decide (z.length≤8) && (match z.cps[0]? with | some n=>inS LT ⟨#[n]⟩ | none=>false) && z.cps.toList.all fun n=>inS LF ⟨#[n]⟩) = true
 rw [decide_eq_true n1,decide_eq_true l,e0,List.all_eq_true.mpr h.al]
 show (true && true && inS LT ⟨#[z.cps[0]]⟩ && true) = true
 rw [h.fst _ e0]
 rfl
theorem lfC:∀ i:Nat,i < 36→∃ n,(LF.cps.toList)[i]? = some n∧inS LF ⟨#[n]⟩ = true∧(i < 26→inS LT ⟨#[n]⟩ = true):=by
 have h:∀ i ∈ List.range 36,(match (LF.cps.toList)[i]? with | some n=>inS LF ⟨#[n]⟩ && (decide (26≤i) || inS LT ⟨#[n]⟩) | none=>false) = true:=by decide +kernel
 intro i hi
 have:=h i (List.mem_range.mpr hi)
 cases e:(LF.cps.toList)[i]? with
 | none=>rw [e] at this; cases this
 | some n =>
  rw [e] at this
  have this:(inS LF ⟨#[n]⟩ && (decide (26≤i) || inS LT ⟨#[n]⟩)) = true:=this
  rw [Bool.and_eq_true,Bool.or_eq_true,decide_eq_true_eq] at this
  exact ⟨n,rfl,this.1,fun h=>this.2.resolve_left (by omega)⟩
theorem lfI {k:Int} (h0:0≤k) (h1:k < 36):∃ n,atI LF.cps.toList k = some n∧inS LF ⟨#[n]⟩ = true∧(k < 26→inS LT ⟨#[n]⟩ = true):=by
 obtain ⟨n,e,a,b⟩:=lfC k.toNat (by omega)
 have:=atI_nat e
 rw [show ((k.toNat:Nat):Int) = k by omega] at this
 exact ⟨n,this,a,fun h=>b (by omega)⟩
theorem RgA.one {n:Nat} (h1:inS LT ⟨#[n]⟩ = true) (h2:inS LF ⟨#[n]⟩ = true):RgA ⟨#[n]⟩:=⟨Nat.le_refl 1,fun m e=>by cases e; exact h1,fun m hm=>by rw [List.mem_singleton.mp hm]; exact h2⟩
theorem RgA.snoc {z:Str} {n:Nat} (h:RgA z) (h2:inS LF ⟨#[n]⟩ = true):RgA (z ++ ⟨#[n]⟩)∧(z ++ ⟨#[n]⟩:Str).length = z.length + 1:=by
 have e:(z ++ ⟨#[n]⟩:Str).cps = z.cps ++ #[n]:=rfl
 have lz:z.length = z.cps.size:=rfl
 have n1:=h.n1
 have l1:(z ++ ⟨#[n]⟩:Str).length = z.length + 1:=by show (z.cps ++ #[n]).size = _; rw [Array.size_append]; rfl
 refine ⟨⟨by omega,fun m hm=>?_,fun m hm=>?_⟩,l1⟩
 ·rw [e,Array.getElem?_append_left (by omega)] at hm
  exact h.fst m hm
 ·rw [e,Array.toList_append] at hm
  rcases List.mem_append.mp hm with hm | hm
  ·exact h.al m hm
  ·rw [List.mem_singleton.mp hm]; exact h2
def Rg (z:Str):Prop:=RgA z∧z.length≤8
inductive Rw where
 | set (g:Str) (b:Int)
 | copy (g a:Str)
 | car (k:Nat) (g:Str) (c:Option Str) (a b:Str)
 | jn (k:Nat) (g a b:Str)
 | mv (k:Nat) (g a:Str) (j:Int)
 | pick (g y a b:Str)
 | mark (n:Int) (m:Str) (y:Str)
def oV:Option Str→V
 | none=>.non
 | some z=>.str z
def Rw.k:Rw→Nat
 | .set ..=>0
 | .copy ..=>1
 | .car k ..=>k
 | .jn k ..=>k
 | .mv k ..=>k
 | .pick ..=>13
 | .mark ..=>14
def Rw.fs:Rw→List V
 | .set g b=>[.str g,.int b]
 | .copy g a=>[.str g,.str a]
 | .car _ g c a b=>[.str g,oV c,.str a,.str b]
 | .jn _ g a b=>[.str g,.str a,.str b]
 | .mv _ g a j=>[.str g,.str a,.int j]
 | .pick g y a b=>[.str g,.str y,.str a,.str b]
 | .mark n m y=>[.int n,.str m,.str y]
def Rw.ok (w:Int):Rw→Prop
 | .set g b=>Rg g∧0≤b∧b < 2 ^ w.toNat
 | .copy g a=>Rg g∧Rg a
 | .car k g c a b=>(k = 2∨k = 3)∧Rg g∧(∀ z,c = some z→Rg z)∧Rg a∧Rg b
 | .jn k g a b=>(k = 4∨k = 5∨k = 9∨k = 10∨k = 11∨k = 12)∧Rg g∧Rg a∧Rg b
 | .mv k g a j=>(k = 6∨k = 7∨k = 8)∧Rg g∧Rg a∧0≤j∧j < w
 | .pick g y a b=>Rg g∧Rg y∧Rg a∧Rg b
 | .mark n m y=>0≤n∧n≤9999∧(m = "round"∨m = "stop"∨m = "nothing")∧Rg y
theorem Rw.k15 {w:Int} {r:Rw} (h:r.ok w):r.k < 15:=by
 cases r <;> simp only [Rw.ok] at h <;> simp only [Rw.k] <;> omega
structure Wd (w:Int) (kvs:List (Key × V)):Prop where
 it:∀ kv ∈ kvs,∃ (z:Str) (i:Int),kv = (.inr z,.int i)∧Rg z∧0≤i∧i < 2 ^ w.toNat
 ln:kvs.length≤5
theorem Wd.get {w:Int} {kvs:List (Key × V)} (h:Wd w kvs) (z:Str):(valV kvs (.inr z)).getD (.int 0) = .int (gI kvs z)∧0≤gI kvs z∧gI kvs z < 2 ^ w.toNat:=by
 unfold gI
 cases e:valV kvs (.inr z) with
 | none=>exact ⟨rfl,Int.le_refl _,Int.pow_pos (by decide)⟩
 | some v =>
  obtain ⟨z',i,e',_,i0,i1⟩:=h.it _ (valV_mem e)
  cases e'
  exact ⟨rfl,i0,i1⟩
theorem putK_mem {kvs:List (Key × V)} {k:Key} {v:V} {p:Key × V} (h:p ∈ putK kvs k v):p ∈ kvs∨p = (k,v):=by
 unfold putK at h
 split at h
 ·obtain ⟨q,hq,e⟩:=List.mem_map.mp h
  split at e
  ·rename_i c
   exact .inr (by rw [← e,c])
  ·exact .inl (by rw [← e]; exact hq)
 ·rcases List.mem_append.mp h with h | h
  ·exact .inl h
  ·exact .inr (List.mem_singleton.mp h)
theorem IntD.put {kvs:List (Key × V)} (h:IntD kvs) (k:Key) (i:Int):IntD (putK kvs k (.int i)):=fun kv hk=>by
 rcases putK_mem hk with m | rfl
 ·exact h kv m
 ·exact ⟨i,rfl⟩
theorem Wd.ints {w:Int} {kvs:List (Key × V)} (h:Wd w kvs):IntD kvs:=fun kv hk=>let ⟨_,i,e,_⟩:=h.it kv hk; ⟨i,by rw [e]⟩
def jnV (w:Int) (k:Nat) (a b:Int):Int:=if k = 4 then a * b % (1 * 2 ^ w.toNat) else if k = 5 then a * b / 2 ^ w.toNat else if k = 9 then Builtin.bitAnd a b else if k = 10 then Builtin.bitOr a b else if k = 11 then Builtin.bitXor a b else if a < b then 1 else 0
def cr0 (w:Int) (k:Nat) (a b:Int):Int:=if k = 2 then (a + b) % (1 * 2 ^ w.toNat) else (a - b) % (1 * 2 ^ w.toNat)
def cr1 (w:Int) (k:Nat) (a b:Int):Int:=if k = 2 then (a + b) / 2 ^ w.toNat else if a < b then 1 else 0
def mvV (w:Int) (k:Nat) (a j:Int):Int:=if k = 6 then (a * 2 ^ j.toNat) % (1 * 2 ^ w.toNat) else if k = 7 then a / 2 ^ j.toNat else (cnt w a / 2 ^ j.toNat) % (1 * 2 ^ w.toNat)
def stK (kvs:List (Key × V)) (z:Str) (i:Int):List (Key × V):=putK kvs (.inr z) (.int i)
def Rw.act (w:Int) (kvs:List (Key × V)):Rw→List (Key × V)
 | .set g b=>stK kvs g b
 | .copy g a=>stK kvs g (gI kvs a)
 | .car k g c a b=>match c with
  | none=>stK kvs g (cr0 w k (gI kvs a) (gI kvs b))
  | some z=>stK (stK kvs g (cr0 w k (gI kvs a) (gI kvs b))) z (cr1 w k (gI kvs a) (gI kvs b))
 | .jn k g a b=>stK kvs g (jnV w k (gI kvs a) (gI kvs b))
 | .mv k g a j=>stK kvs g (mvV w k (gI kvs a) j)
 | .pick g y a b=>stK kvs g (gI kvs (if gI kvs y ≠ 0 then a else b))
 | .mark ..=>kvs
def Rw.mk (kvs:List (Key × V)):Rw→Option (V × V)
 | .mark n m y=>if gI kvs y ≠ 0 then some (.int n,.str m) else none
 | _=>none
def Mk1 (H':Hp) (m:Addr) (ms:List V):Option (V × V)→Prop
 | none=>H' m = some (.lst ms)
 | some (a,b)=>∃ t,H' m = some (.lst (ms ++ [.ref t]))∧H' t = some (.tup [a,b])
def spAct (c:Ad) (ks:List Nat):Sp:=fun vs H Q _=>∃ (x d m:Addr) (w:Int) (r:Rw) (kvs:List (Key × V)) (ms:List V),vs = [.ref x,.int w,.ref d,.ref m]∧r.k ∈ ks∧StepAt c H x r.k r.fs∧r.ok w∧4≤w∧w≤32∧H d = some (.dK kvs)∧Wd w kvs∧H m = some (.lst ms)∧ms.length≤1000 ∧
 ∀ H',H' d = some (.dK (r.act w kvs))→Mk1 H' m ms (r.mk kvs)→(∀ b o,b ≠ d→b ≠ m→H b = some o→H' b = some o)→Q .non H'
def spGood (c:Ad) (ks:List Nat):Sp:=fun vs H Q _=>∃ (x:Addr) (w:Int) (r:Rw),vs = [.ref x,.int w]∧r.k ∈ ks∧StepAt c H x r.k r.fs∧r.ok w∧4≤w∧w≤32∧∀ H',Same H H'→Q (.bl true) H'
def spCar (k:Nat):Sp:=fun vs H Q _=>∃ (x:V) (w a b:Int),vs = [x,.int w,.int a,.int b]∧4≤w∧w≤32∧∀ t,H t = none→Q (.ref t) (upd H t (.tup [.int (cr0 w k a b),.int (cr1 w k a b)]))
def spJn (k:Nat):Sp:=fun vs H Q _=>∃ (x:V) (w a b:Int),vs = [x,.int w,.int a,.int b]∧4≤w∧w≤32∧0≤a∧a < 2 ^ w.toNat∧0≤b∧b < 2 ^ w.toNat∧Q (.int (jnV w k a b)) H
def spMv (c:Ad) (k:Nat):Sp:=fun vs H Q _=>∃ (x:Addr) (w a j:Int) (g y:V),vs = [.ref x,.int w,.int a]∧StepAt c H x k [g,y,.int j]∧4≤w∧w≤32∧0≤a∧a < 2 ^ w.toNat∧0≤j∧j < w∧Q (.int (mvV w k a j)) H
def spIsWord:Sp:=fun vs H Q _=>∃ w i:Int,vs = [.int w,.int i]∧4≤w∧w≤32∧0≤i∧i < 2 ^ w.toNat∧Q (.bl true) H
def spRegs:Sp:=fun vs H Q _=>∃ (l:Addr) (zs:List Str),vs = [.ref l]∧H l = some (.lst (zs.map V.str))∧zs.length≤10∧(∀ z ∈ zs,Rg z)∧∀ H',Same H H'→Q (.bl true) H'
def RowsOf (c:Ad) (H:Hp) (xs:List V) (rs:List Rw):Prop:=xs.length = rs.length∧∀ (i:Nat) x r,xs[i]? = some x→rs[i]? = some r→∃ a,x = .ref a∧StepAt c H a r.k r.fs
def cAdd (cf:Nat→Int) (k:Nat) (m:Int):Nat→Int:=fun i=>if i = k then cf i + m else cf i
def cRows (cf:Nat→Int) (m:Int) (rs:List Rw):Nat→Int:=rs.foldl (fun f r=>cAdd f r.k m) cf
def cntK (cf:Nat→Int):List (Key × V):=(List.range 16).map fun i=>(.inr (wOf i),.int (cf i))
def spGoodR (c:Ad):Sp:=fun vs H Q _=>∃ (x:Addr) (w:Int) (n:V) (r:Rw),vs = [.int w,.ref x,n]∧StepAt c H x r.k r.fs∧r.ok w∧4≤w∧w≤32∧∀ H',Same H H'→Q (.bl true) H'
def spPlace (c:Ad):Sp:=fun vs H Q _=>∃ (l:Addr) (w p:Int) (n:V) (xs:List V) (rs:List Rw),vs = [.int w,.ref l,.int p,n]∧H l = some (.lst xs)∧RowsOf c H xs rs∧(∀ r ∈ rs,r.ok w)∧4≤w∧w≤32∧∀ H',Same H H'→Q (.int (p + rs.length)) H'
def spCount (c:Ad):Sp:=fun vs H Q _=>∃ (l d:Addr) (m:Int) (xs:List V) (rs:List Rw) (cf:Nat→Int),vs = [.ref l,.int m,.ref d]∧H l = some (.lst xs)∧RowsOf c H xs rs∧(∀ r ∈ rs,r.k < 15)∧H d = some (.dK (cntK cf))∧∀ H',H' d = some (.dK (cntK (cRows cf m rs)))→SameX d H H'→Q .non H'
def spNeedS (c:Ad):Sp:=fun vs H Q _=>∃ (l:Addr) (w:Int) (xs:List V) (rs:List Rw),vs = [.int w,.ref l]∧H l = some (.lst xs)∧RowsOf c H xs rs∧(∀ r ∈ rs,r.ok w)∧rs.length≤1000∧4≤w∧w≤32∧∀ (d:Addr) H',H d = none→H' d = some (.dK (cntK (cRows (fun _=>0) 1 rs)))→Same H H'→Q (.ref d) H'
def spCheck (c:Ad):Sp:=fun vs H Q _=>∃ (l:Addr) (w:Int) (xs:List V) (rs:List Rw),vs = [.int w,.ref l]∧H l = some (.lst xs)∧RowsOf c H xs rs∧(∀ r ∈ rs,r.ok w)∧rs.length≤1000∧4≤w∧w≤32∧∀ H',Same H H'→Q (.int rs.length) H'
def spNeedR:Sp:=fun vs H Q _=>∃ (d:Addr) (w:Int) (kvs:List (Key × V)),vs = [.int w,.ref d]∧H d = some (.dK kvs)∧Wd w kvs∧4≤w∧w≤32∧∀ H',Same H H'→Q .non H'
theorem wInj {k j:Nat} (hk:k < 16) (hj:j < 16) (h:V.str (wOf k) = V.str (wOf j)):k = j:=by
 have a:∀ k ∈ List.range 16,∀ j ∈ List.range 16,decide (wOf k = wOf j) = decide (k = j):=by decide +kernel
 have:=a k (List.mem_range.mpr hk) j (List.mem_range.mpr hj)
 injection h with h
 rw [decide_eq_true h] at this
 exact of_decide_eq_true this.symm
def sorts15:List Str:=["set", "copy", "sum", "gap", "low", "high", "left", "right", "slide", "and", "or", "unlike", "under", "pick", "mark"]
theorem sorts_at {k:Int} (h0:0≤k) (h1:k < 15):atI (sorts15.map V.str) k = some (.str (wOf k.toNat)):=by
 have a:∀ i ∈ List.range 15,sorts15[i]? = some (wOf i):=by decide +kernel
 have e:=a k.toNat (List.mem_range.mpr (by omega))
 have:=atI_nat (xs:=sorts15.map V.str) (j:=k.toNat) (v:=.str (wOf k.toNat)) (by rw [List.getElem?_map,e]; rfl)
 rw [show ((k.toNat:Nat):Int) = k by omega] at this
 exact this
theorem len_sub {α:Type} [DecidableEq α]:∀ (l m:List α),l.Nodup→(∀ x ∈ l,x ∈ m)→l.length≤m.length
 | [],_,_,_=>Nat.zero_le _
 | x :: t,m,nd,h=>by
  have hx:=h x (List.mem_cons_self ..)
  have e:=List.length_erase_of_mem hx
  have:=len_sub t (m.erase x) (List.nodup_cons.mp nd).2 fun y hy=>(List.mem_erase_of_ne (fun z:y = x=>(List.nodup_cons.mp nd).1 (z ▸ hy))).mpr (h y (List.mem_cons_of_mem _ hy))
  have:0 < m.length:=List.length_pos_of_mem hx
  rw [List.length_cons]
  omega
def Rw.inZ (zs:List Str):Rw→Prop
 | .set g _=>g ∈ zs
 | .copy g _=>g ∈ zs
 | .car _ g c _ _=>g ∈ zs∧∀ z,c = some z→z ∈ zs
 | .jn _ g _ _=>g ∈ zs
 | .mv _ g _ _=>g ∈ zs
 | .pick g _ _ _=>g ∈ zs
 | .mark ..=>True
structure Wz (w:Int) (zs:List Str) (kvs:List (Key × V)):Prop where
 it:∀ kv ∈ kvs,∃ (z:Str) (i:Int),kv = (.inr z,.int i)∧z ∈ zs∧0≤i∧i < 2 ^ w.toNat
 nd:(kvs.map (·.1)).Nodup
def ZOk (zs:List Str):Prop:=zs.length≤5∧∀ z ∈ zs,Rg z
theorem Wz.wd {w:Int} {zs:List Str} {kvs:List (Key × V)} (h:Wz w zs kvs) (ok:ZOk zs):Wd w kvs:=by
 refine ⟨fun kv hk=>let ⟨z,i,e,m,i0,i1⟩:=h.it kv hk; ⟨z,i,e,ok.2 z m,i0,i1⟩,?_⟩
 have:=len_sub (kvs.map (·.1)) (zs.map Sum.inr) h.nd fun x hx=>by
  obtain ⟨kv,hk,rfl⟩:=List.mem_map.mp hx
  obtain ⟨z,i,rfl,m,_⟩:=h.it kv hk
  exact List.mem_map_of_mem m
 rw [List.length_map,List.length_map] at this
 exact Nat.le_trans this ok.1
theorem Wz.nil {w:Int} {zs:List Str}:Wz w zs []:=⟨(fun _ h=>nomatch h),List.nodup_nil⟩
theorem Wz.put {w:Int} {zs:List Str} {kvs:List (Key × V)} (h:Wz w zs kvs) {z:Str} {i:Int} (m:z ∈ zs) (i0:0≤i) (i1:i < 2 ^ w.toNat):Wz w zs (stK kvs z i):=by
 refine ⟨fun kv hk=>?_,?_⟩
 ·rcases putK_mem hk with hm | rfl
  ·exact h.it kv hm
  ·exact ⟨z,i,rfl,m,i0,i1⟩
 ·show ((putK kvs (.inr z) (.int i)).map (·.1)).Nodup
  cases e:valV kvs (.inr z) with
  | none=>exact nd_putK _ h.nd e
  | some v =>
   have:(putK kvs (.inr z) (.int i)).map (·.1) = kvs.map (·.1):=by
    unfold putK
    rw [valV_any,e]
    show (kvs.map _).map _ = _
    rw [List.map_map]
    refine List.map_congr_left fun kv _=>?_
    show (if kv.1 = Sum.inr z then (kv.1,V.int i) else kv).1 = kv.1
    split <;> rfl
   rw [this]
   exact h.nd
theorem and_rg {w a b:Int} (w0:0≤w) (a0:0≤a) (a1:a < 2 ^ w.toNat) (b0:0≤b) (b1:b < 2 ^ w.toNat):∃ x y:Nat,a = (x:Int)∧b = (y:Int)∧x < 2 ^ w.toNat∧y < 2 ^ w.toNat∧Builtin.bitAnd a b = ((x &&& y:Nat):Int):=by
 obtain ⟨x,rfl⟩:=Int.eq_ofNat_of_zero_le a0
 obtain ⟨y,rfl⟩:=Int.eq_ofNat_of_zero_le b0
 refine ⟨x,y,rfl,rfl,by exact_mod_cast a1,by exact_mod_cast b1,?_⟩
 unfold Builtin.bitAnd
 rw [decide_eq_true a0,decide_eq_true b0]
 rfl
theorem or_nat (x y:Nat):Builtin.bitOr (x:Int) (y:Int) = ((x ||| y:Nat):Int):=by
 have hx:Builtin.bitNot (x:Int) = -(x:Int) - 1:=rfl
 have hy:Builtin.bitNot (y:Int) = -(y:Int) - 1:=rfl
 unfold Builtin.bitOr Builtin.bitAnd
 rw [hx,hy,decide_eq_false (show ¬ (0:Int)≤-(x:Int) - 1 by omega),decide_eq_false (show ¬ (0:Int)≤-(y:Int) - 1 by omega)]
 show Builtin.bitNot (Builtin.bitNot ((((Builtin.bitNot (-(x:Int) - 1)).toNat ||| (Builtin.bitNot (-(y:Int) - 1)).toNat:Nat)):Int)) = _
 have e1:(Builtin.bitNot (-(x:Int) - 1)).toNat = x:=by show (-(-(x:Int) - 1) - 1).toNat = x; omega
 have e2:(Builtin.bitNot (-(y:Int) - 1)).toNat = y:=by show (-(-(y:Int) - 1) - 1).toNat = y; omega
 rw [e1,e2]
 show -(-((x ||| y:Nat):Int) - 1) - 1 = _
 omega
theorem and_le_or (x y:Nat):x &&& y≤x ||| y:=Nat.le_trans Nat.and_le_left Nat.left_le_or
theorem jn_rg {w:Int} {k:Nat} {a b:Int} (w0:4≤w) (w1:w≤32) (a0:0≤a) (a1:a < 2 ^ w.toNat) (b0:0≤b) (b1:b < 2 ^ w.toNat):0≤jnV w k a b∧jnV w k a b < 2 ^ w.toNat:=by
 have P:=pw_bounds w0 w1
 obtain ⟨x,y,ex,ey,x1,y1,e⟩:=and_rg (by omega) a0 a1 b0 b1
 have ox:(x ||| y:Nat) < 2 ^ w.toNat:=Nat.or_lt_two_pow x1 y1
 have oi:((x ||| y:Nat):Int) < 2 ^ w.toNat:=by exact_mod_cast ox
 have al:=and_le_or x y
 unfold jnV
 split
 ·rw [Int.one_mul]
  exact ⟨Int.emod_nonneg _ (by omega),Int.emod_lt_of_pos _ (by omega)⟩
 split
 ·refine ⟨Int.ediv_nonneg (Int.mul_nonneg a0 b0) (by omega),Int.ediv_lt_of_lt_mul (by omega) ?_⟩
  by_cases z:a = 0
  ·rw [z,Int.zero_mul]; exact Int.mul_pos (by omega) (by omega)
  ·exact Int.lt_of_lt_of_le (Int.mul_lt_mul_of_pos_left b1 (show 0 < a by omega)) (Int.mul_le_mul_of_nonneg_right (Int.le_of_lt a1) (by omega))
 split
 ·rw [e]; omega
 split
 ·rw [ex,ey,or_nat]; omega
 split
 ·unfold Builtin.bitXor
  rw [e,ex,ey,or_nat]; omega
 split <;> omega
theorem mv_rg {w:Int} {k:Nat} {a j:Int} (w0:4≤w) (w1:w≤32) (a0:0≤a) (a1:a < 2 ^ w.toNat):0≤mvV w k a j∧mvV w k a j < 2 ^ w.toNat:=by
 have P:=pw_bounds w0 w1
 unfold mvV
 rw [Int.one_mul]
 split
 ·exact ⟨Int.emod_nonneg _ (by omega),Int.emod_lt_of_pos _ (by omega)⟩
 split
 ·have:=p_pos j.toNat
  exact ⟨Int.ediv_nonneg a0 (by omega),Int.lt_of_le_of_lt (Int.ediv_le_self _ a0) a1⟩
 ·exact ⟨Int.emod_nonneg _ (by omega),Int.emod_lt_of_pos _ (by omega)⟩
theorem cr_rg {w:Int} {k:Nat} {a b:Int} (w0:4≤w) (w1:w≤32) (a0:0≤a) (a1:a < 2 ^ w.toNat) (b0:0≤b) (b1:b < 2 ^ w.toNat):(0≤cr0 w k a b∧cr0 w k a b < 2 ^ w.toNat)∧0≤cr1 w k a b∧cr1 w k a b < 2 ^ w.toNat:=by
 have P:=pw_bounds w0 w1
 unfold cr0 cr1
 rw [Int.one_mul]
 refine ⟨?_,?_⟩
 ·split <;> exact ⟨Int.emod_nonneg _ (by omega),Int.emod_lt_of_pos _ (by omega)⟩
 ·split
  ·refine ⟨Int.ediv_nonneg (by omega) (by omega),Int.lt_of_lt_of_le (Int.ediv_lt_of_lt_mul (b:=2) (by omega) (by omega)) (by omega)⟩
  ·split <;> omega
theorem Wz.act {w:Int} {zs:List Str} {kvs:List (Key × V)} {r:Rw} (h:Wz w zs kvs) (ok:ZOk zs) (ro:r.ok w) (rz:r.inZ zs) (w0:4≤w) (w1:w≤32):Wz w zs (r.act w kvs):=by
 have wd:=h.wd ok
 cases r with
 | set g b=>exact h.put rz ro.2.1 ro.2.2
 | copy g a=>exact h.put rz (wd.get a).2.1 (wd.get a).2.2
 | car k g c a b =>
  obtain ⟨⟨x0,x1⟩,y0,y1⟩:=cr_rg (k:=k) w0 w1 (wd.get a).2.1 (wd.get a).2.2 (wd.get b).2.1 (wd.get b).2.2
  cases c with
  | none=>exact h.put rz.1 x0 x1
  | some z=>exact (h.put rz.1 x0 x1).put (rz.2 z rfl) y0 y1
 | jn k g a b =>
  obtain ⟨x0,x1⟩:=jn_rg (k:=k) w0 w1 (wd.get a).2.1 (wd.get a).2.2 (wd.get b).2.1 (wd.get b).2.2
  exact h.put rz x0 x1
 | mv k g a j =>
  obtain ⟨x0,x1⟩:=mv_rg (k:=k) (j:=j) w0 w1 (wd.get a).2.1 (wd.get a).2.2
  exact h.put rz x0 x1
 | pick g y a b=>exact h.put rz (wd.get _).2.1 (wd.get _).2.2
 | mark n m y=>exact h
def actAll (w:Int) (kvs:List (Key × V)) (rs:List Rw):List (Key × V):=rs.foldl (fun k r=>r.act w k) kvs
def mkL:Option (V × V)→List (V × V)
 | none=>[]
 | some p=>[p]
def mkAll (w:Int):List (Key × V)→List Rw→List (V × V)
 | _,[]=>[]
 | kvs,r :: t=>mkL (r.mk kvs) ++ mkAll w (r.act w kvs) t
theorem actAll_app (w:Int) (kvs:List (Key × V)) (a b:List Rw):actAll w kvs (a ++ b) = actAll w (actAll w kvs a) b:=by unfold actAll; rw [List.foldl_append]
theorem mkAll_app (w:Int):∀ (kvs:List (Key × V)) (a b:List Rw),mkAll w kvs (a ++ b) = mkAll w kvs a ++ mkAll w (actAll w kvs a) b
 | _,[],_=>rfl
 | kvs,r :: t,b=>by
  show mkL (r.mk kvs) ++ mkAll w (r.act w kvs) (t ++ b) = (mkL (r.mk kvs) ++ mkAll w (r.act w kvs) t) ++ mkAll w (actAll w (r.act w kvs) t) b
  rw [mkAll_app w (r.act w kvs) t b,List.append_assoc]
theorem Wz.all {w:Int} {zs:List Str} {rs:List Rw} (ok:ZOk zs) (hr:∀ r ∈ rs,r.ok w∧r.inZ zs) (w0:4≤w) (w1:w≤32):∀ {kvs:List (Key × V)},Wz w zs kvs→Wz w zs (actAll w kvs rs):=by
 induction rs with
 | nil=>intro kvs h; exact h
 | cons r t ih =>
  intro kvs h
  have a:=hr r (List.mem_cons_self ..)
  exact ih (fun q hq=>hr q (List.mem_cons_of_mem _ hq)) (h.act ok a.1 a.2 w0 w1)
theorem mkL_len (o:Option (V × V)):(mkL o).length≤1:=by cases o with
 | none=>exact Nat.zero_le _
 | some p=>exact Nat.le_refl _
theorem mkAll_len (w:Int):∀ (rs:List Rw) (kvs:List (Key × V)),(mkAll w kvs rs).length≤rs.length
 | [],_=>Nat.le_refl _
 | r :: t,kvs=>by
  have:=mkAll_len w t (r.act w kvs)
  have:=mkL_len (r.mk kvs)
  show (mkL (r.mk kvs) ++ mkAll w (r.act w kvs) t).length≤t.length + 1
  rw [List.length_append]
  omega
theorem mk_int {kvs:List (Key × V)} (r:Rw):∀ p ∈ mkL (r.mk kvs),(∃ n:Int,p.1 = .int n)∧flatV p.1 = true∧flatV p.2 = true:=by
 intro p hp
 cases r with
 | mark n m y =>
  have hp:p ∈ mkL (if gI kvs y ≠ 0 then some (.int n,.str m) else none):=hp
  split at hp
  ·cases List.mem_singleton.mp hp
   exact ⟨⟨n,rfl⟩,rfl,rfl⟩
  ·cases hp
 | _=>cases hp
theorem mkAll_int (w:Int):∀ (rs:List Rw) (kvs:List (Key × V)),∀ p ∈ mkAll w kvs rs,(∃ n:Int,p.1 = .int n)∧flatV p.1 = true∧flatV p.2 = true
 | [],_,_,h=>nomatch h
 | r :: t,kvs,p,h=>by
  rcases List.mem_append.mp (show p ∈ mkL (r.mk kvs) ++ mkAll w (r.act w kvs) t from h) with h | h
  ·exact mk_int r p h
  ·exact mkAll_int w t _ p h
theorem cRows_app (cf:Nat→Int) (m:Int) (a b:List Rw):cRows cf m (a ++ b) = cRows (cRows cf m a) m b:=by unfold cRows; rw [List.foldl_append]
theorem cRows_add (m:Int):∀ (rs:List Rw) (cf:Nat→Int) (i:Nat),cRows cf m rs i = cf i + cRows (fun _=>0) m rs i
 | [],cf,i=>(Int.add_zero _).symm
 | r :: t,cf,i=>by
  show cRows (cAdd cf r.k m) m t i = cf i + cRows (cAdd (fun _=>0) r.k m) m t i
  rw [cRows_add m t (cAdd cf r.k m) i,cRows_add m t (cAdd (fun _=>0) r.k m) i]
  show (if i = r.k then cf i + m else cf i) + _ = cf i + ((if i = r.k then (0:Int) + m else 0) + _)
  split <;> omega
theorem MHas.mono {P:Program} {w:World} {K:PySem.W.Frag} {mg:Str→Option Value} {base:Heap} {j k:Nat} {C:Addr} {m:Str} {ps:List Str} {sp:Sp} (h:MHas P w K mg base j C m ps sp) (i:j≤k):MHas P w K mg base k C m ps sp:=let ⟨f,fd,a,o,b⟩:=h.ex; ⟨h.cl,f,fd,a,o.mono i,b⟩
theorem MHas.imp {P:Program} {w:World} {K:PySem.W.Frag} {mg:Str→Option Value} {base:Heap} {k:Nat} {C:Addr} {m:Str} {ps:List Str} {sp sp':Sp} (h:MHas P w K mg base k C m ps sp) (i:∀ vs H Q E,sp' vs H Q E→sp vs H Q E):MHas P w K mg base k C m ps sp':=let ⟨f,fd,a,o,b⟩:=h.ex; ⟨h.cl,f,fd,a,o.imp i,b⟩
theorem spTold_one {c:Ad} {ks:List Nat} {k:Nat} {vs:List V} {H:Hp} {Q:VK} {E:XK} (hk:k ∈ ks) (h:spTold c [k] vs H Q E):spTold c ks vs H Q E:=by
 obtain ⟨x,k',fs,e,m,st,q⟩:=h
 rw [List.mem_singleton.mp m] at st q
 exact ⟨x,k,fs,e,hk,st,q⟩
section
variable {P:Program} {w:World} {K:PySem.W.Frag} {mg:Str→Option Value} {base:Heap} {c:Ad}
theorem ok_is_whole {f:Addr} {fd:FuncData} (F:Fun K "is_whole" "is_whole" s_is_whole f fd) (T:Txt K mg c) :FnOk P w K mg base CX0 1 f fd ["thing"] spWhole:=by
 refine F.ok sc_is_whole (fun vs H Q E h=>?_) (fun cdv A outer s H vs Q E hr h=>?_)
 ·obtain ⟨i,rfl,_⟩:=h
  rfl
 obtain ⟨i,rfl,q⟩:=h
 refine ⟨_,(pss_one (ps_ret (pe_and (pe_callB call_isinst rfl T.n_isinstance boot_isinstance (pa_cons (pv 0) (pa_cons (pe_ty rfl T.n_int boot_int) pa_nil))) (pe_one (pe_not (pe_callB call_isinst rfl T.n_isinstance boot_isinstance (pa_cons (pv 0) (pa_cons (pe_ty rfl T.n_bool boot_bool) pa_nil)))))))),?_⟩
 refine ⟨_,rfl,_,_,_,_,_,rfl,rfl,TyOf.int _,kit_int_int _,_,rfl,iteT ?_⟩
 refine ⟨_,rfl,_,_,_,_,_,rfl,rfl,TyOf.int _,kit_int_bool _,_,rfl,?_⟩
 exact q
theorem ok_is_between {f:Addr} {fd:FuncData} (F:Fun K "is_between" "is_between" s_is_between f fd) (T:Txt K mg c) (H_is_whole:Has P w K mg base 1 "is_whole" ["thing"] spWhole):FnOk P w K mg base CX0 2 f fd ["thing", "low", "high"] spBetween:=by
 refine F.ok sc_is_between (fun vs H Q E h=>?_) (fun cdv A outer s H vs Q E hr h=>?_)
 ·obtain ⟨i,lo,hi,rfl,_⟩:=h
  rfl
 obtain ⟨i,lo,hi,rfl,h1,h2,q⟩:=h
 refine ⟨_,(pss_one (ps_ret (pe_and (pe_fn H_is_whole (hr.mono (by omega)) rfl (pa_cons (pv 0) pa_nil)) (pe_one (pe_chain op_le op_le (pv 1) (pv 0) (pv 2)))))),?_⟩
 refine ⟨_,rfl,_,rfl,_,rfl,iteT ?_⟩
 refine ⟨_,rfl,_,rfl,_,_,rfl,rfl,_,rfl,iteD h1 ?_⟩
 refine ⟨_,rfl,_,_,rfl,rfl,?_⟩
 exact ret_true h2 q
theorem ok_need_width {f:Addr} {fd:FuncData} (F:Fun K "need_width" "need_width" s_need_width f fd) (T:Txt K mg c) (H_is_between:Has P w K mg base 2 "is_between" ["thing", "low", "high"] spBetween):FnOk P w K mg base CX0 3 f fd ["width"] spNeedW:=by
 refine F.ok sc_need_width (fun vs H Q E h=>?_) (fun cdv A outer s H vs Q E hr h=>?_)
 ·obtain ⟨i,rfl,_⟩:=h
  rfl
 obtain ⟨i,rfl,h1,h2,q⟩:=h
 refine ⟨_,(pss_one (ps_if (pt_not (pt_val (pe_fn H_is_between (hr.mono (by omega)) rfl (pa_cons (pv 0) (pa_cons pe_int (pa_cons pe_int pa_nil))))))
   (pss_one ps_never)
   pss_nil)),?_⟩
 refine ⟨_,rfl,_,_,_,rfl,h1,h2,_,rfl,iteF ?_⟩
 exact q
theorem ok_sum_of {f:Addr} {fd:FuncData} (F:Fun K "sum_of" "sum_of" s_sum_of f fd) (T:Txt K mg c) (H_need_width:Has P w K mg base 3 "need_width" ["width"] spNeedW):FnOk P w K mg base CX0 4 f fd ["width", "a", "b"] spSum:=by
 refine F.ok sc_sum_of (fun vs H Q E h=>?_) (fun cdv A outer s H vs Q E hr h=>?_)
 ·obtain ⟨i,a,b,rfl,_⟩:=h
  rfl
 obtain ⟨i,a,b,rfl,h1,h2,q⟩:=h
 refine ⟨_,(pss_cons (ps_expr (pe_fn H_need_width (hr.mono (by omega)) rfl (pa_cons (pv 0) pa_nil)))
  (pss_cons (ps_set (i:=3) sc_sum_of.nd rfl (Or.inl rfl) (pe_op op_add (pv 1) (pv 2)))
  (pss_one (ps_ret (pe_tup (pa_cons (pe_op op_mod (pv 3) (pe_op op_shl pe_int (pv 0))) (pa_cons (pe_op op_shr (pv 3) (pv 0)) pa_nil))))))),?_⟩
 refine ⟨_,rfl,_,rfl,h1,h2,?_⟩
 refine ⟨_,rfl,_,rfl,_,_,rfl,rfl,?_⟩
 refine ⟨_,rfl,_,rfl,_,_,rfl,rfl,cpow1 (by omega) (by omega),_,_,rfl,rfl,p1_pos _,?_⟩
 refine ⟨_,rfl,_,rfl,_,_,rfl,rfl,(by omega),?_⟩
 exact ⟨by show 2≤sizeLine; decide,fun t ht=>q t ht⟩
theorem ok_gap_of {f:Addr} {fd:FuncData} (F:Fun K "gap_of" "gap_of" s_gap_of f fd) (T:Txt K mg c) (H_need_width:Has P w K mg base 3 "need_width" ["width"] spNeedW):FnOk P w K mg base CX0 4 f fd ["width", "a", "b"] spGap:=by
 refine F.ok sc_gap_of (fun vs H Q E h=>?_) (fun cdv A outer s H vs Q E hr h=>?_)
 ·obtain ⟨i,a,b,rfl,_⟩:=h
  rfl
 obtain ⟨i,a,b,rfl,h1,h2,q⟩:=h
 refine ⟨_,(pss_cons (ps_expr (pe_fn H_need_width (hr.mono (by omega)) rfl (pa_cons (pv 0) pa_nil)))
  (pss_one (ps_ret (pe_tup (pa_cons (pe_op op_mod (pe_op op_sub (pv 1) (pv 2)) (pe_op op_shl pe_int (pv 0))) (pa_cons (pe_ifExp (pt_cmpR op_lt (pv 1) (pv 2) (nomark _)) pe_int pe_int) pa_nil)))))),?_⟩
 refine ⟨_,rfl,_,rfl,h1,h2,?_⟩
 refine ⟨_,rfl,_,rfl,_,_,rfl,rfl,_,rfl,_,_,rfl,rfl,cpow1 (by omega) (by omega),_,_,rfl,rfl,p1_pos _,?_⟩
 refine ⟨_,rfl,_,rfl,_,_,rfl,rfl,_,rfl,?_⟩
 by_cases hc:a < b
 ·refine iteD hc ?_
  refine ⟨by show 2≤sizeLine; decide,fun t ht=>?_⟩
  have:=q t ht
  rw [if_pos hc] at this
  exact this
 ·refine iteDN hc ?_
  refine ⟨by show 2≤sizeLine; decide,fun t ht=>?_⟩
  have:=q t ht
  rw [if_neg hc] at this
  exact this
theorem ok_low_product {f:Addr} {fd:FuncData} (F:Fun K "low_product" "low_product" s_low_product f fd) (T:Txt K mg c) (H_need_width:Has P w K mg base 3 "need_width" ["width"] spNeedW):FnOk P w K mg base CX0 4 f fd ["width", "a", "b"] spLow:=by
 refine F.ok sc_low_product (fun vs H Q E h=>?_) (fun cdv A outer s H vs Q E hr h=>?_)
 ·obtain ⟨i,a,b,rfl,_⟩:=h
  rfl
 obtain ⟨i,a,b,rfl,h1,h2,hm,q⟩:=h
 refine ⟨_,(pss_cons (ps_expr (pe_fn H_need_width (hr.mono (by omega)) rfl (pa_cons (pv 0) pa_nil)))
  (pss_one (ps_ret (pe_op op_mod (pe_op op_mul (pv 1) (pv 2)) (pe_op op_shl pe_int (pv 0)))))),?_⟩
 refine ⟨_,rfl,_,rfl,h1,h2,?_⟩
 refine ⟨_,rfl,_,rfl,_,_,rfl,rfl,hm,_,rfl,_,_,rfl,rfl,cpow1 (by omega) (by omega),_,_,rfl,rfl,p1_pos _,q⟩
theorem ok_high_product {f:Addr} {fd:FuncData} (F:Fun K "high_product" "high_product" s_high_product f fd) (T:Txt K mg c) (H_need_width:Has P w K mg base 3 "need_width" ["width"] spNeedW):FnOk P w K mg base CX0 4 f fd ["width", "a", "b"] spHigh:=by
 refine F.ok sc_high_product (fun vs H Q E h=>?_) (fun cdv A outer s H vs Q E hr h=>?_)
 ·obtain ⟨i,a,b,rfl,_⟩:=h
  rfl
 obtain ⟨i,a,b,rfl,h1,h2,hm,q⟩:=h
 refine ⟨_,(pss_cons (ps_expr (pe_fn H_need_width (hr.mono (by omega)) rfl (pa_cons (pv 0) pa_nil)))
  (pss_one (ps_ret (pe_op op_shr (pe_op op_mul (pv 1) (pv 2)) (pv 0))))),?_⟩
 refine ⟨_,rfl,_,rfl,h1,h2,?_⟩
 refine ⟨_,rfl,_,rfl,_,_,rfl,rfl,hm,_,rfl,_,_,rfl,rfl,(by omega),q⟩
theorem ok_left {f:Addr} {fd:FuncData} (F:Fun K "left" "left" s_left f fd) (T:Txt K mg c) (H_need_width:Has P w K mg base 3 "need_width" ["width"] spNeedW):FnOk P w K mg base CX0 4 f fd ["width", "a", "k"] spLeft:=by
 refine F.ok sc_left (fun vs H Q E h=>?_) (fun cdv A outer s H vs Q E hr h=>?_)
 ·obtain ⟨i,a,b,rfl,_⟩:=h
  rfl
 obtain ⟨i,a,b,rfl,h1,h2,hm,q⟩:=h
 refine ⟨_,(pss_cons (ps_expr (pe_fn H_need_width (hr.mono (by omega)) rfl (pa_cons (pv 0) pa_nil)))
  (pss_one (ps_ret (pe_op op_mod (pe_op op_shl (pv 1) (pv 2)) (pe_op op_shl pe_int (pv 0)))))),?_⟩
 refine ⟨_,rfl,_,rfl,h1,h2,?_⟩
 refine ⟨_,rfl,_,rfl,_,_,rfl,rfl,hm,_,rfl,_,_,rfl,rfl,cpow1 (by omega) (by omega),_,_,rfl,rfl,p1_pos _,q⟩
theorem ok_right {f:Addr} {fd:FuncData} (F:Fun K "right" "right" s_right f fd) (T:Txt K mg c) (H_need_width:Has P w K mg base 3 "need_width" ["width"] spNeedW):FnOk P w K mg base CX0 4 f fd ["width", "a", "k"] spRight:=by
 refine F.ok sc_right (fun vs H Q E h=>?_) (fun cdv A outer s H vs Q E hr h=>?_)
 ·obtain ⟨i,a,b,rfl,_⟩:=h
  rfl
 obtain ⟨i,a,b,rfl,h1,h2,hm,q⟩:=h
 refine ⟨_,(pss_cons (ps_expr (pe_fn H_need_width (hr.mono (by omega)) rfl (pa_cons (pv 0) pa_nil)))
  (pss_one (ps_ret (pe_op op_shr (pv 1) (pv 2))))),?_⟩
 refine ⟨_,rfl,_,rfl,h1,h2,?_⟩
 refine ⟨_,rfl,_,rfl,_,_,rfl,rfl,hm,q⟩
theorem ok_slide {f:Addr} {fd:FuncData} (F:Fun K "slide" "slide" s_slide f fd) (T:Txt K mg c) (H_need_width:Has P w K mg base 3 "need_width" ["width"] spNeedW):FnOk P w K mg base CX0 4 f fd ["width", "a", "k"] spSlide:=by
 refine F.ok sc_slide (fun vs H Q E h=>?_) (fun cdv A outer s H vs Q E hr h=>?_)
 ·obtain ⟨i,a,b,rfl,_⟩:=h
  rfl
 obtain ⟨i,a,b,rfl,h1,h2,hm,q⟩:=h
 refine ⟨_,(pss_cons (ps_expr (pe_fn H_need_width (hr.mono (by omega)) rfl (pa_cons (pv 0) pa_nil)))
  (pss_cons (ps_set (i:=3) sc_slide.nd rfl (Or.inl rfl) (pe_ifExp (pt_cmpR op_lt (pv 1) (pe_op op_shl pe_int (pe_op op_sub (pv 0) pe_int)) (nomark _)) (pv 1) (pe_op op_sub (pv 1) (pe_op op_shl pe_int (pv 0)))))
  (pss_one (ps_ret (pe_op op_mod (pe_op op_shr (pv 3) (pv 2)) (pe_op op_shl pe_int (pv 0))))))),?_⟩
 refine ⟨_,rfl,_,rfl,h1,h2,?_⟩
 refine ⟨_,rfl,_,rfl,_,_,rfl,rfl,_,_,rfl,rfl,cpow1 (by omega) (by omega),_,_,rfl,rfl,_,rfl,?_⟩
 unfold cnt at q
 by_cases hc:a < 1 * 2 ^ (i - 1).toNat
 ·rw [if_pos hc] at q
  refine iteD hc ?_
  refine ⟨_,rfl,?_⟩
  refine ⟨_,rfl,_,rfl,_,_,rfl,rfl,hm,_,rfl,_,_,rfl,rfl,cpow1 (by omega) (by omega),_,_,rfl,rfl,p1_pos _,q⟩
 ·rw [if_neg hc] at q
  refine iteDN hc ?_
  refine ⟨_,rfl,_,rfl,_,_,rfl,rfl,cpow1 (by omega) (by omega),_,_,rfl,rfl,?_⟩
  refine ⟨_,rfl,_,rfl,_,_,rfl,rfl,hm,_,rfl,_,_,rfl,rfl,cpow1 (by omega) (by omega),_,_,rfl,rfl,p1_pos _,q⟩
theorem ok_is_word {f:Addr} {fd:FuncData} (F:Fun K "is_word" "is_word" s_is_word f fd) (T:Txt K mg c) (H_is_between:Has P w K mg base 2 "is_between" ["thing", "low", "high"] spBetween):FnOk P w K mg base CX0 3 f fd ["width", "thing"] spIsWord:=by
 refine F.ok sc_is_word (fun vs H Q E h=>?_) (fun cdv A outer s H vs Q E hr h=>?_)
 ·obtain ⟨w',i,rfl,_⟩:=h
  rfl
 obtain ⟨w',i,rfl,w0,w1,i0,i1,q⟩:=h
 refine ⟨_,(pss_one (ps_ret (pe_fn H_is_between (hr.mono (by omega)) rfl (pa_cons (pv 1) (pa_cons pe_int (pa_cons (pe_op op_sub (pe_op op_shl pe_int (pv 0)) pe_int) pa_nil)))))),?_⟩
 exact ⟨_,rfl,_,rfl,_,_,rfl,rfl,cpow1 (by omega) (by omega),_,_,rfl,rfl,_,_,_,rfl,i0,(by rw [Int.one_mul]; omega),q⟩
def rw16:List Str:=["set", "copy", "sum", "gap", "low", "high", "left", "right", "slide", "and", "or", "unlike", "under", "pick", "mark", "turns"]
def spRW:Sp:=fun vs H Q _=>vs = []∧∀ l,H l = none→Q (.ref l) (upd H l (.lst (rw16.map V.str)))
theorem ok_row_words {f:Addr} {fd:FuncData} (F:Fun K "row_words" "row_words" s_row_words f fd) (T:Txt K mg c) :FnOk P w K mg base CX0 1 f fd [] spRW:=by
 refine F.ok sc_row_words (fun vs H Q E h=>?_) (fun cdv A outer s H vs Q E hr h=>?_)
 ·obtain ⟨rfl,_⟩:=h
  rfl
 obtain ⟨rfl,q⟩:=h
 refine ⟨_,(pss_one (ps_ret (pe_callTy call_list_of rfl T.n_list boot_list (pa_cons (pe_cls rfl T.g_ROW_WORDS) pa_nil)))),?_⟩
 exact ⟨_,_,rfl,.inr (T.q_ROW_WORDS _),fun l hl=>q l hl⟩
theorem ok_Set_word {f:Addr} {fd:FuncData} (F:Fun K "word" "Set.word" s_Set_word f fd) (T:Txt K mg c) :FnOk P w K mg base CX0 1 f fd ["self"] (spWd "set"):=by
 refine F.ok sc_Set_word (fun vs H Q E h=>?_) (fun cdv A outer s H vs Q E hr h=>?_)
 ·obtain ⟨x,rfl,_⟩:=h
  rfl
 obtain ⟨x,rfl,q⟩:=h
 exact ⟨_,(pss_one (ps_ret pe_str)),q⟩
theorem ok_Copy_word {f:Addr} {fd:FuncData} (F:Fun K "word" "Copy.word" s_Copy_word f fd) (T:Txt K mg c) :FnOk P w K mg base CX0 1 f fd ["self"] (spWd "copy"):=by
 refine F.ok sc_Copy_word (fun vs H Q E h=>?_) (fun cdv A outer s H vs Q E hr h=>?_)
 ·obtain ⟨x,rfl,_⟩:=h
  rfl
 obtain ⟨x,rfl,q⟩:=h
 exact ⟨_,(pss_one (ps_ret pe_str)),q⟩
theorem ok_Sum_word {f:Addr} {fd:FuncData} (F:Fun K "word" "Sum.word" s_Sum_word f fd) (T:Txt K mg c) :FnOk P w K mg base CX0 1 f fd ["self"] (spWd "sum"):=by
 refine F.ok sc_Sum_word (fun vs H Q E h=>?_) (fun cdv A outer s H vs Q E hr h=>?_)
 ·obtain ⟨x,rfl,_⟩:=h
  rfl
 obtain ⟨x,rfl,q⟩:=h
 exact ⟨_,(pss_one (ps_ret pe_str)),q⟩
theorem ok_Gap_word {f:Addr} {fd:FuncData} (F:Fun K "word" "Gap.word" s_Gap_word f fd) (T:Txt K mg c) :FnOk P w K mg base CX0 1 f fd ["self"] (spWd "gap"):=by
 refine F.ok sc_Gap_word (fun vs H Q E h=>?_) (fun cdv A outer s H vs Q E hr h=>?_)
 ·obtain ⟨x,rfl,_⟩:=h
  rfl
 obtain ⟨x,rfl,q⟩:=h
 exact ⟨_,(pss_one (ps_ret pe_str)),q⟩
theorem ok_Low_word {f:Addr} {fd:FuncData} (F:Fun K "word" "Low.word" s_Low_word f fd) (T:Txt K mg c) :FnOk P w K mg base CX0 1 f fd ["self"] (spWd "low"):=by
 refine F.ok sc_Low_word (fun vs H Q E h=>?_) (fun cdv A outer s H vs Q E hr h=>?_)
 ·obtain ⟨x,rfl,_⟩:=h
  rfl
 obtain ⟨x,rfl,q⟩:=h
 exact ⟨_,(pss_one (ps_ret pe_str)),q⟩
theorem ok_High_word {f:Addr} {fd:FuncData} (F:Fun K "word" "High.word" s_High_word f fd) (T:Txt K mg c) :FnOk P w K mg base CX0 1 f fd ["self"] (spWd "high"):=by
 refine F.ok sc_High_word (fun vs H Q E h=>?_) (fun cdv A outer s H vs Q E hr h=>?_)
 ·obtain ⟨x,rfl,_⟩:=h
  rfl
 obtain ⟨x,rfl,q⟩:=h
 exact ⟨_,(pss_one (ps_ret pe_str)),q⟩
theorem ok_Left_word {f:Addr} {fd:FuncData} (F:Fun K "word" "Left.word" s_Left_word f fd) (T:Txt K mg c) :FnOk P w K mg base CX0 1 f fd ["self"] (spWd "left"):=by
 refine F.ok sc_Left_word (fun vs H Q E h=>?_) (fun cdv A outer s H vs Q E hr h=>?_)
 ·obtain ⟨x,rfl,_⟩:=h
  rfl
 obtain ⟨x,rfl,q⟩:=h
 exact ⟨_,(pss_one (ps_ret pe_str)),q⟩
theorem ok_Right_word {f:Addr} {fd:FuncData} (F:Fun K "word" "Right.word" s_Right_word f fd) (T:Txt K mg c) :FnOk P w K mg base CX0 1 f fd ["self"] (spWd "right"):=by
 refine F.ok sc_Right_word (fun vs H Q E h=>?_) (fun cdv A outer s H vs Q E hr h=>?_)
 ·obtain ⟨x,rfl,_⟩:=h
  rfl
 obtain ⟨x,rfl,q⟩:=h
 exact ⟨_,(pss_one (ps_ret pe_str)),q⟩
theorem ok_Slide_word {f:Addr} {fd:FuncData} (F:Fun K "word" "Slide.word" s_Slide_word f fd) (T:Txt K mg c) :FnOk P w K mg base CX0 1 f fd ["self"] (spWd "slide"):=by
 refine F.ok sc_Slide_word (fun vs H Q E h=>?_) (fun cdv A outer s H vs Q E hr h=>?_)
 ·obtain ⟨x,rfl,_⟩:=h
  rfl
 obtain ⟨x,rfl,q⟩:=h
 exact ⟨_,(pss_one (ps_ret pe_str)),q⟩
theorem ok_And_word {f:Addr} {fd:FuncData} (F:Fun K "word" "And.word" s_And_word f fd) (T:Txt K mg c) :FnOk P w K mg base CX0 1 f fd ["self"] (spWd "and"):=by
 refine F.ok sc_And_word (fun vs H Q E h=>?_) (fun cdv A outer s H vs Q E hr h=>?_)
 ·obtain ⟨x,rfl,_⟩:=h
  rfl
 obtain ⟨x,rfl,q⟩:=h
 exact ⟨_,(pss_one (ps_ret pe_str)),q⟩
theorem ok_Or_word {f:Addr} {fd:FuncData} (F:Fun K "word" "Or.word" s_Or_word f fd) (T:Txt K mg c) :FnOk P w K mg base CX0 1 f fd ["self"] (spWd "or"):=by
 refine F.ok sc_Or_word (fun vs H Q E h=>?_) (fun cdv A outer s H vs Q E hr h=>?_)
 ·obtain ⟨x,rfl,_⟩:=h
  rfl
 obtain ⟨x,rfl,q⟩:=h
 exact ⟨_,(pss_one (ps_ret pe_str)),q⟩
theorem ok_Unlike_word {f:Addr} {fd:FuncData} (F:Fun K "word" "Unlike.word" s_Unlike_word f fd) (T:Txt K mg c) :FnOk P w K mg base CX0 1 f fd ["self"] (spWd "unlike"):=by
 refine F.ok sc_Unlike_word (fun vs H Q E h=>?_) (fun cdv A outer s H vs Q E hr h=>?_)
 ·obtain ⟨x,rfl,_⟩:=h
  rfl
 obtain ⟨x,rfl,q⟩:=h
 exact ⟨_,(pss_one (ps_ret pe_str)),q⟩
theorem ok_Under_word {f:Addr} {fd:FuncData} (F:Fun K "word" "Under.word" s_Under_word f fd) (T:Txt K mg c) :FnOk P w K mg base CX0 1 f fd ["self"] (spWd "under"):=by
 refine F.ok sc_Under_word (fun vs H Q E h=>?_) (fun cdv A outer s H vs Q E hr h=>?_)
 ·obtain ⟨x,rfl,_⟩:=h
  rfl
 obtain ⟨x,rfl,q⟩:=h
 exact ⟨_,(pss_one (ps_ret pe_str)),q⟩
theorem ok_Pick_word {f:Addr} {fd:FuncData} (F:Fun K "word" "Pick.word" s_Pick_word f fd) (T:Txt K mg c) :FnOk P w K mg base CX0 1 f fd ["self"] (spWd "pick"):=by
 refine F.ok sc_Pick_word (fun vs H Q E h=>?_) (fun cdv A outer s H vs Q E hr h=>?_)
 ·obtain ⟨x,rfl,_⟩:=h
  rfl
 obtain ⟨x,rfl,q⟩:=h
 exact ⟨_,(pss_one (ps_ret pe_str)),q⟩
theorem ok_Mark_word {f:Addr} {fd:FuncData} (F:Fun K "word" "Mark.word" s_Mark_word f fd) (T:Txt K mg c) :FnOk P w K mg base CX0 1 f fd ["self"] (spWd "mark"):=by
 refine F.ok sc_Mark_word (fun vs H Q E h=>?_) (fun cdv A outer s H vs Q E hr h=>?_)
 ·obtain ⟨x,rfl,_⟩:=h
  rfl
 obtain ⟨x,rfl,q⟩:=h
 exact ⟨_,(pss_one (ps_ret pe_str)),q⟩
theorem ok_Set___init__ {f:Addr} {fd:FuncData} (F:Fun K "__init__" "Set.__init__" s_Set___init__ f fd) (T:Txt K mg c) :FnOk P w K mg base CX0 1 f fd ["self", "goal", "bits"] (spInit K ["goal", "bits"]):=by
 refine F.ok sc_Set___init__ (fun vs H Q E h=>?_) (fun cdv A outer s H vs Q E hr h=>?_)
 ·obtain ⟨x,C,dx,as,rfl,ln,_⟩:=h
  rw [List.length_cons,ln]
  rfl
 obtain ⟨x,C,dx,as,rfl,ln,hx,cl,na,q⟩:=h
 obtain ⟨a0,a1,rfl⟩:=len2 ln
 refine ⟨_,(pss_cons (ps_fld (pv 0) (pv 1) rfl)
  (pss_one (ps_fld (pv 0) (pv 2) rfl))),?_⟩
 refine ⟨_,rfl,_,rfl,x,C,dx,_,rfl,hx,cl,na _ (by simp),(by show 0 < 1000; decide),?_⟩
 refine ⟨_,rfl,_,rfl,x,C,dx,_,rfl,upd_same,cl,na _ (by simp),(by show 1 < 1000; decide),?_⟩
 exact q _ upd_same (SameX.upd.trans (SameX.upd))
theorem ok_Copy___init__ {f:Addr} {fd:FuncData} (F:Fun K "__init__" "Copy.__init__" s_Copy___init__ f fd) (T:Txt K mg c) :FnOk P w K mg base CX0 1 f fd ["self", "goal", "one"] (spInit K ["goal", "one"]):=by
 refine F.ok sc_Copy___init__ (fun vs H Q E h=>?_) (fun cdv A outer s H vs Q E hr h=>?_)
 ·obtain ⟨x,C,dx,as,rfl,ln,_⟩:=h
  rw [List.length_cons,ln]
  rfl
 obtain ⟨x,C,dx,as,rfl,ln,hx,cl,na,q⟩:=h
 obtain ⟨a0,a1,rfl⟩:=len2 ln
 refine ⟨_,(pss_cons (ps_fld (pv 0) (pv 1) rfl)
  (pss_one (ps_fld (pv 0) (pv 2) rfl))),?_⟩
 refine ⟨_,rfl,_,rfl,x,C,dx,_,rfl,hx,cl,na _ (by simp),(by show 0 < 1000; decide),?_⟩
 refine ⟨_,rfl,_,rfl,x,C,dx,_,rfl,upd_same,cl,na _ (by simp),(by show 1 < 1000; decide),?_⟩
 exact q _ upd_same (SameX.upd.trans (SameX.upd))
theorem ok_Carrying___init__ {f:Addr} {fd:FuncData} (F:Fun K "__init__" "Carrying.__init__" s_Carrying___init__ f fd) (T:Txt K mg c) :FnOk P w K mg base CX0 1 f fd ["self", "goal", "carry", "one", "other"] (spInit K ["goal", "carry", "one", "other"]):=by
 refine F.ok sc_Carrying___init__ (fun vs H Q E h=>?_) (fun cdv A outer s H vs Q E hr h=>?_)
 ·obtain ⟨x,C,dx,as,rfl,ln,_⟩:=h
  rw [List.length_cons,ln]
  rfl
 obtain ⟨x,C,dx,as,rfl,ln,hx,cl,na,q⟩:=h
 obtain ⟨a0,a1,a2,a3,rfl⟩:=len4 ln
 refine ⟨_,(pss_cons (ps_fld (pv 0) (pv 1) rfl)
  (pss_cons (ps_fld (pv 0) (pv 2) rfl)
  (pss_cons (ps_fld (pv 0) (pv 3) rfl)
  (pss_one (ps_fld (pv 0) (pv 4) rfl))))),?_⟩
 refine ⟨_,rfl,_,rfl,x,C,dx,_,rfl,hx,cl,na _ (by simp),(by show 0 < 1000; decide),?_⟩
 refine ⟨_,rfl,_,rfl,x,C,dx,_,rfl,upd_same,cl,na _ (by simp),(by show 1 < 1000; decide),?_⟩
 refine ⟨_,rfl,_,rfl,x,C,dx,_,rfl,upd_same,cl,na _ (by simp),(by show 2 < 1000; decide),?_⟩
 refine ⟨_,rfl,_,rfl,x,C,dx,_,rfl,upd_same,cl,na _ (by simp),(by show 3 < 1000; decide),?_⟩
 exact q _ upd_same (SameX.upd.trans (SameX.upd.trans (SameX.upd.trans (SameX.upd))))
theorem ok_Joining___init__ {f:Addr} {fd:FuncData} (F:Fun K "__init__" "Joining.__init__" s_Joining___init__ f fd) (T:Txt K mg c) :FnOk P w K mg base CX0 1 f fd ["self", "goal", "one", "other"] (spInit K ["goal", "one", "other"]):=by
 refine F.ok sc_Joining___init__ (fun vs H Q E h=>?_) (fun cdv A outer s H vs Q E hr h=>?_)
 ·obtain ⟨x,C,dx,as,rfl,ln,_⟩:=h
  rw [List.length_cons,ln]
  rfl
 obtain ⟨x,C,dx,as,rfl,ln,hx,cl,na,q⟩:=h
 obtain ⟨a0,a1,a2,rfl⟩:=len3 ln
 refine ⟨_,(pss_cons (ps_fld (pv 0) (pv 1) rfl)
  (pss_cons (ps_fld (pv 0) (pv 2) rfl)
  (pss_one (ps_fld (pv 0) (pv 3) rfl)))),?_⟩
 refine ⟨_,rfl,_,rfl,x,C,dx,_,rfl,hx,cl,na _ (by simp),(by show 0 < 1000; decide),?_⟩
 refine ⟨_,rfl,_,rfl,x,C,dx,_,rfl,upd_same,cl,na _ (by simp),(by show 1 < 1000; decide),?_⟩
 refine ⟨_,rfl,_,rfl,x,C,dx,_,rfl,upd_same,cl,na _ (by simp),(by show 2 < 1000; decide),?_⟩
 exact q _ upd_same (SameX.upd.trans (SameX.upd.trans (SameX.upd)))
theorem ok_Moving___init__ {f:Addr} {fd:FuncData} (F:Fun K "__init__" "Moving.__init__" s_Moving___init__ f fd) (T:Txt K mg c) :FnOk P w K mg base CX0 1 f fd ["self", "goal", "one", "k"] (spInit K ["goal", "one", "k"]):=by
 refine F.ok sc_Moving___init__ (fun vs H Q E h=>?_) (fun cdv A outer s H vs Q E hr h=>?_)
 ·obtain ⟨x,C,dx,as,rfl,ln,_⟩:=h
  rw [List.length_cons,ln]
  rfl
 obtain ⟨x,C,dx,as,rfl,ln,hx,cl,na,q⟩:=h
 obtain ⟨a0,a1,a2,rfl⟩:=len3 ln
 refine ⟨_,(pss_cons (ps_fld (pv 0) (pv 1) rfl)
  (pss_cons (ps_fld (pv 0) (pv 2) rfl)
  (pss_one (ps_fld (pv 0) (pv 3) rfl)))),?_⟩
 refine ⟨_,rfl,_,rfl,x,C,dx,_,rfl,hx,cl,na _ (by simp),(by show 0 < 1000; decide),?_⟩
 refine ⟨_,rfl,_,rfl,x,C,dx,_,rfl,upd_same,cl,na _ (by simp),(by show 1 < 1000; decide),?_⟩
 refine ⟨_,rfl,_,rfl,x,C,dx,_,rfl,upd_same,cl,na _ (by simp),(by show 2 < 1000; decide),?_⟩
 exact q _ upd_same (SameX.upd.trans (SameX.upd.trans (SameX.upd)))
theorem ok_Pick___init__ {f:Addr} {fd:FuncData} (F:Fun K "__init__" "Pick.__init__" s_Pick___init__ f fd) (T:Txt K mg c) :FnOk P w K mg base CX0 1 f fd ["self", "goal", "by", "one", "other"] (spInit K ["goal", "by", "one", "other"]):=by
 refine F.ok sc_Pick___init__ (fun vs H Q E h=>?_) (fun cdv A outer s H vs Q E hr h=>?_)
 ·obtain ⟨x,C,dx,as,rfl,ln,_⟩:=h
  rw [List.length_cons,ln]
  rfl
 obtain ⟨x,C,dx,as,rfl,ln,hx,cl,na,q⟩:=h
 obtain ⟨a0,a1,a2,a3,rfl⟩:=len4 ln
 refine ⟨_,(pss_cons (ps_fld (pv 0) (pv 1) rfl)
  (pss_cons (ps_fld (pv 0) (pv 2) rfl)
  (pss_cons (ps_fld (pv 0) (pv 3) rfl)
  (pss_one (ps_fld (pv 0) (pv 4) rfl))))),?_⟩
 refine ⟨_,rfl,_,rfl,x,C,dx,_,rfl,hx,cl,na _ (by simp),(by show 0 < 1000; decide),?_⟩
 refine ⟨_,rfl,_,rfl,x,C,dx,_,rfl,upd_same,cl,na _ (by simp),(by show 1 < 1000; decide),?_⟩
 refine ⟨_,rfl,_,rfl,x,C,dx,_,rfl,upd_same,cl,na _ (by simp),(by show 2 < 1000; decide),?_⟩
 refine ⟨_,rfl,_,rfl,x,C,dx,_,rfl,upd_same,cl,na _ (by simp),(by show 3 < 1000; decide),?_⟩
 exact q _ upd_same (SameX.upd.trans (SameX.upd.trans (SameX.upd.trans (SameX.upd))))
theorem ok_Mark___init__ {f:Addr} {fd:FuncData} (F:Fun K "__init__" "Mark.__init__" s_Mark___init__ f fd) (T:Txt K mg c) :FnOk P w K mg base CX0 1 f fd ["self", "line", "mark", "by"] (spInit K ["line", "mark", "by"]):=by
 refine F.ok sc_Mark___init__ (fun vs H Q E h=>?_) (fun cdv A outer s H vs Q E hr h=>?_)
 ·obtain ⟨x,C,dx,as,rfl,ln,_⟩:=h
  rw [List.length_cons,ln]
  rfl
 obtain ⟨x,C,dx,as,rfl,ln,hx,cl,na,q⟩:=h
 obtain ⟨a0,a1,a2,rfl⟩:=len3 ln
 refine ⟨_,(pss_cons (ps_fld (pv 0) (pv 1) rfl)
  (pss_cons (ps_fld (pv 0) (pv 2) rfl)
  (pss_one (ps_fld (pv 0) (pv 3) rfl)))),?_⟩
 refine ⟨_,rfl,_,rfl,x,C,dx,_,rfl,hx,cl,na _ (by simp),(by show 0 < 1000; decide),?_⟩
 refine ⟨_,rfl,_,rfl,x,C,dx,_,rfl,upd_same,cl,na _ (by simp),(by show 1 < 1000; decide),?_⟩
 refine ⟨_,rfl,_,rfl,x,C,dx,_,rfl,upd_same,cl,na _ (by simp),(by show 2 < 1000; decide),?_⟩
 exact q _ upd_same (SameX.upd.trans (SameX.upd.trans (SameX.upd)))
theorem Txt.clF {K:PySem.W.Frag} {mg:Str→Option Value} {c:Ad} (T:Txt K mg c) {k:Nat} (h:k < 15):Cls K (fOf c k)∧∀ f ∈ nOf k,NoAttr K (fOf c k) f:=by
 rcases (by omega:k = 0∨k = 1∨k = 2∨k = 3∨k = 4∨k = 5∨k = 6∨k = 7∨k = 8∨k = 9∨k = 10∨k = 11∨k = 12∨k = 13∨k = 14) with rfl | rfl | rfl | rfl | rfl | rfl | rfl | rfl | rfl | rfl | rfl | rfl | rfl | rfl | rfl
 ·exact ⟨T.cl_Set,List.forall_mem_cons.mpr ⟨T.na_Set_goal,List.forall_mem_cons.mpr ⟨T.na_Set_bits,fun _ h=>nomatch h⟩⟩⟩
 ·exact ⟨T.cl_Copy,List.forall_mem_cons.mpr ⟨T.na_Copy_goal,List.forall_mem_cons.mpr ⟨T.na_Copy_one,fun _ h=>nomatch h⟩⟩⟩
 ·exact ⟨T.cl_Sum,List.forall_mem_cons.mpr ⟨T.na_Sum_goal,List.forall_mem_cons.mpr ⟨T.na_Sum_carry,List.forall_mem_cons.mpr ⟨T.na_Sum_one,List.forall_mem_cons.mpr ⟨T.na_Sum_other,fun _ h=>nomatch h⟩⟩⟩⟩⟩
 ·exact ⟨T.cl_Gap,List.forall_mem_cons.mpr ⟨T.na_Gap_goal,List.forall_mem_cons.mpr ⟨T.na_Gap_carry,List.forall_mem_cons.mpr ⟨T.na_Gap_one,List.forall_mem_cons.mpr ⟨T.na_Gap_other,fun _ h=>nomatch h⟩⟩⟩⟩⟩
 ·exact ⟨T.cl_Low,List.forall_mem_cons.mpr ⟨T.na_Low_goal,List.forall_mem_cons.mpr ⟨T.na_Low_one,List.forall_mem_cons.mpr ⟨T.na_Low_other,fun _ h=>nomatch h⟩⟩⟩⟩
 ·exact ⟨T.cl_High,List.forall_mem_cons.mpr ⟨T.na_High_goal,List.forall_mem_cons.mpr ⟨T.na_High_one,List.forall_mem_cons.mpr ⟨T.na_High_other,fun _ h=>nomatch h⟩⟩⟩⟩
 ·exact ⟨T.cl_Left,List.forall_mem_cons.mpr ⟨T.na_Left_goal,List.forall_mem_cons.mpr ⟨T.na_Left_one,List.forall_mem_cons.mpr ⟨T.na_Left_k,fun _ h=>nomatch h⟩⟩⟩⟩
 ·exact ⟨T.cl_Right,List.forall_mem_cons.mpr ⟨T.na_Right_goal,List.forall_mem_cons.mpr ⟨T.na_Right_one,List.forall_mem_cons.mpr ⟨T.na_Right_k,fun _ h=>nomatch h⟩⟩⟩⟩
 ·exact ⟨T.cl_Slide,List.forall_mem_cons.mpr ⟨T.na_Slide_goal,List.forall_mem_cons.mpr ⟨T.na_Slide_one,List.forall_mem_cons.mpr ⟨T.na_Slide_k,fun _ h=>nomatch h⟩⟩⟩⟩
 ·exact ⟨T.cl_And,List.forall_mem_cons.mpr ⟨T.na_And_goal,List.forall_mem_cons.mpr ⟨T.na_And_one,List.forall_mem_cons.mpr ⟨T.na_And_other,fun _ h=>nomatch h⟩⟩⟩⟩
 ·exact ⟨T.cl_Or,List.forall_mem_cons.mpr ⟨T.na_Or_goal,List.forall_mem_cons.mpr ⟨T.na_Or_one,List.forall_mem_cons.mpr ⟨T.na_Or_other,fun _ h=>nomatch h⟩⟩⟩⟩
 ·exact ⟨T.cl_Unlike,List.forall_mem_cons.mpr ⟨T.na_Unlike_goal,List.forall_mem_cons.mpr ⟨T.na_Unlike_one,List.forall_mem_cons.mpr ⟨T.na_Unlike_other,fun _ h=>nomatch h⟩⟩⟩⟩
 ·exact ⟨T.cl_Under,List.forall_mem_cons.mpr ⟨T.na_Under_goal,List.forall_mem_cons.mpr ⟨T.na_Under_one,List.forall_mem_cons.mpr ⟨T.na_Under_other,fun _ h=>nomatch h⟩⟩⟩⟩
 ·exact ⟨T.cl_Pick,List.forall_mem_cons.mpr ⟨T.na_Pick_goal,List.forall_mem_cons.mpr ⟨T.na_Pick_by,List.forall_mem_cons.mpr ⟨T.na_Pick_one,List.forall_mem_cons.mpr ⟨T.na_Pick_other,fun _ h=>nomatch h⟩⟩⟩⟩⟩
 ·exact ⟨T.cl_Mark,List.forall_mem_cons.mpr ⟨T.na_Mark_line,List.forall_mem_cons.mpr ⟨T.na_Mark_mark,List.forall_mem_cons.mpr ⟨T.na_Mark_by,fun _ h=>nomatch h⟩⟩⟩⟩
theorem ok_Set_told {f:Addr} {fd:FuncData} (F:Fun K "told" "Set.told" s_Set_told f fd) (T:Txt K mg c) :FnOk P w K mg base CX0 1 f fd ["self"] (spTold c [0]):=by
 refine F.ok sc_Set_told (fun vs H Q E h=>?_) (fun cdv A outer s H vs Q E hr h=>?_)
 ·obtain ⟨x,k,fs,rfl,_⟩:=h
  rfl
 obtain ⟨x,k,fs,rfl,hk,⟨dx,hx,ln⟩,q⟩:=h
 refine ⟨_,(pss_one (ps_ret (pe_tup (pa_cons pe_str (pa_cons (pe_fld (pv 0) rfl) (pa_cons (pe_fld (pv 0) rfl) pa_nil)))))),?_⟩
 simp only [List.mem_cons,List.not_mem_nil,or_false] at hk
 subst hk
 obtain ⟨a0,a1,rfl⟩:=len2 ln
 obtain ⟨cl,na⟩:=T.clF (k:=0) (by decide)
 refine ⟨_,rfl,x,_,dx,_,_,rfl,hx,cl,na _ (by simp [nOf]),rfl,_,rfl,x,_,dx,_,_,rfl,hx,cl,na _ (by simp [nOf]),rfl,(by show 3≤sizeLine; decide),fun r hr'=>q r hr'⟩
theorem ok_Copy_told {f:Addr} {fd:FuncData} (F:Fun K "told" "Copy.told" s_Copy_told f fd) (T:Txt K mg c) :FnOk P w K mg base CX0 1 f fd ["self"] (spTold c [1]):=by
 refine F.ok sc_Copy_told (fun vs H Q E h=>?_) (fun cdv A outer s H vs Q E hr h=>?_)
 ·obtain ⟨x,k,fs,rfl,_⟩:=h
  rfl
 obtain ⟨x,k,fs,rfl,hk,⟨dx,hx,ln⟩,q⟩:=h
 refine ⟨_,(pss_one (ps_ret (pe_tup (pa_cons pe_str (pa_cons (pe_fld (pv 0) rfl) (pa_cons (pe_fld (pv 0) rfl) pa_nil)))))),?_⟩
 simp only [List.mem_cons,List.not_mem_nil,or_false] at hk
 subst hk
 obtain ⟨a0,a1,rfl⟩:=len2 ln
 obtain ⟨cl,na⟩:=T.clF (k:=1) (by decide)
 refine ⟨_,rfl,x,_,dx,_,_,rfl,hx,cl,na _ (by simp [nOf]),rfl,_,rfl,x,_,dx,_,_,rfl,hx,cl,na _ (by simp [nOf]),rfl,(by show 3≤sizeLine; decide),fun r hr'=>q r hr'⟩
theorem ok_Carrying_told {f:Addr} {fd:FuncData} (F:Fun K "told" "Carrying.told" s_Carrying_told f fd) (T:Txt K mg c)  (MW:∀ i ∈ [2,3],MHas P w K mg base 1 (fOf c i) "word" ["self"] (spWd (wOf i))):FnOk P w K mg base CX0 2 f fd ["self"] (spTold c [2,3]):=by
 refine F.ok sc_Carrying_told (fun vs H Q E h=>?_) (fun cdv A outer s H vs Q E hr h=>?_)
 ·obtain ⟨x,k,fs,rfl,_⟩:=h
  rfl
 obtain ⟨x,k,fs,rfl,hk,⟨dx,hx,ln⟩,q⟩:=h
 refine ⟨_,(pss_one (ps_ret (pe_tup (pa_cons (pe_methP0 (k:=1) (pv 0) (hr.mono (by omega))) (pa_cons (pe_fld (pv 0) rfl) (pa_cons (pe_fld (pv 0) rfl) (pa_cons (pe_fld (pv 0) rfl) (pa_cons (pe_fld (pv 0) rfl) pa_nil)))))))),?_⟩
 have mw:=MW k hk
 simp only [List.mem_cons,List.not_mem_nil,or_false] at hk
 rcases hk with rfl | rfl
 ·obtain ⟨a0,a1,a2,a3,rfl⟩:=len4 ln
  obtain ⟨cl,na⟩:=T.clF (k:=2) (by decide)
  refine ⟨_,rfl,x,_,dx,_,_,_,rfl,hx,rfl,mw,x,rfl,_,rfl,x,_,dx,_,_,rfl,hx,cl,na _ (by simp [nOf]),rfl,_,rfl,x,_,dx,_,_,rfl,hx,cl,na _ (by simp [nOf]),rfl,_,rfl,x,_,dx,_,_,rfl,hx,cl,na _ (by simp [nOf]),rfl,_,rfl,x,_,dx,_,_,rfl,hx,cl,na _ (by simp [nOf]),rfl,(by show 5≤sizeLine; decide),fun r hr'=>q r hr'⟩
 ·obtain ⟨a0,a1,a2,a3,rfl⟩:=len4 ln
  obtain ⟨cl,na⟩:=T.clF (k:=3) (by decide)
  refine ⟨_,rfl,x,_,dx,_,_,_,rfl,hx,rfl,mw,x,rfl,_,rfl,x,_,dx,_,_,rfl,hx,cl,na _ (by simp [nOf]),rfl,_,rfl,x,_,dx,_,_,rfl,hx,cl,na _ (by simp [nOf]),rfl,_,rfl,x,_,dx,_,_,rfl,hx,cl,na _ (by simp [nOf]),rfl,_,rfl,x,_,dx,_,_,rfl,hx,cl,na _ (by simp [nOf]),rfl,(by show 5≤sizeLine; decide),fun r hr'=>q r hr'⟩
theorem ok_Joining_told {f:Addr} {fd:FuncData} (F:Fun K "told" "Joining.told" s_Joining_told f fd) (T:Txt K mg c)  (MW:∀ i ∈ [4,5,9,10,11,12],MHas P w K mg base 1 (fOf c i) "word" ["self"] (spWd (wOf i))):FnOk P w K mg base CX0 2 f fd ["self"] (spTold c [4,5,9,10,11,12]):=by
 refine F.ok sc_Joining_told (fun vs H Q E h=>?_) (fun cdv A outer s H vs Q E hr h=>?_)
 ·obtain ⟨x,k,fs,rfl,_⟩:=h
  rfl
 obtain ⟨x,k,fs,rfl,hk,⟨dx,hx,ln⟩,q⟩:=h
 refine ⟨_,(pss_one (ps_ret (pe_tup (pa_cons (pe_methP0 (k:=1) (pv 0) (hr.mono (by omega))) (pa_cons (pe_fld (pv 0) rfl) (pa_cons (pe_fld (pv 0) rfl) (pa_cons (pe_fld (pv 0) rfl) pa_nil))))))),?_⟩
 have mw:=MW k hk
 simp only [List.mem_cons,List.not_mem_nil,or_false] at hk
 rcases hk with rfl | rfl | rfl | rfl | rfl | rfl
 ·obtain ⟨a0,a1,a2,rfl⟩:=len3 ln
  obtain ⟨cl,na⟩:=T.clF (k:=4) (by decide)
  refine ⟨_,rfl,x,_,dx,_,_,_,rfl,hx,rfl,mw,x,rfl,_,rfl,x,_,dx,_,_,rfl,hx,cl,na _ (by simp [nOf]),rfl,_,rfl,x,_,dx,_,_,rfl,hx,cl,na _ (by simp [nOf]),rfl,_,rfl,x,_,dx,_,_,rfl,hx,cl,na _ (by simp [nOf]),rfl,(by show 4≤sizeLine; decide),fun r hr'=>q r hr'⟩
 ·obtain ⟨a0,a1,a2,rfl⟩:=len3 ln
  obtain ⟨cl,na⟩:=T.clF (k:=5) (by decide)
  refine ⟨_,rfl,x,_,dx,_,_,_,rfl,hx,rfl,mw,x,rfl,_,rfl,x,_,dx,_,_,rfl,hx,cl,na _ (by simp [nOf]),rfl,_,rfl,x,_,dx,_,_,rfl,hx,cl,na _ (by simp [nOf]),rfl,_,rfl,x,_,dx,_,_,rfl,hx,cl,na _ (by simp [nOf]),rfl,(by show 4≤sizeLine; decide),fun r hr'=>q r hr'⟩
 ·obtain ⟨a0,a1,a2,rfl⟩:=len3 ln
  obtain ⟨cl,na⟩:=T.clF (k:=9) (by decide)
  refine ⟨_,rfl,x,_,dx,_,_,_,rfl,hx,rfl,mw,x,rfl,_,rfl,x,_,dx,_,_,rfl,hx,cl,na _ (by simp [nOf]),rfl,_,rfl,x,_,dx,_,_,rfl,hx,cl,na _ (by simp [nOf]),rfl,_,rfl,x,_,dx,_,_,rfl,hx,cl,na _ (by simp [nOf]),rfl,(by show 4≤sizeLine; decide),fun r hr'=>q r hr'⟩
 ·obtain ⟨a0,a1,a2,rfl⟩:=len3 ln
  obtain ⟨cl,na⟩:=T.clF (k:=10) (by decide)
  refine ⟨_,rfl,x,_,dx,_,_,_,rfl,hx,rfl,mw,x,rfl,_,rfl,x,_,dx,_,_,rfl,hx,cl,na _ (by simp [nOf]),rfl,_,rfl,x,_,dx,_,_,rfl,hx,cl,na _ (by simp [nOf]),rfl,_,rfl,x,_,dx,_,_,rfl,hx,cl,na _ (by simp [nOf]),rfl,(by show 4≤sizeLine; decide),fun r hr'=>q r hr'⟩
 ·obtain ⟨a0,a1,a2,rfl⟩:=len3 ln
  obtain ⟨cl,na⟩:=T.clF (k:=11) (by decide)
  refine ⟨_,rfl,x,_,dx,_,_,_,rfl,hx,rfl,mw,x,rfl,_,rfl,x,_,dx,_,_,rfl,hx,cl,na _ (by simp [nOf]),rfl,_,rfl,x,_,dx,_,_,rfl,hx,cl,na _ (by simp [nOf]),rfl,_,rfl,x,_,dx,_,_,rfl,hx,cl,na _ (by simp [nOf]),rfl,(by show 4≤sizeLine; decide),fun r hr'=>q r hr'⟩
 ·obtain ⟨a0,a1,a2,rfl⟩:=len3 ln
  obtain ⟨cl,na⟩:=T.clF (k:=12) (by decide)
  refine ⟨_,rfl,x,_,dx,_,_,_,rfl,hx,rfl,mw,x,rfl,_,rfl,x,_,dx,_,_,rfl,hx,cl,na _ (by simp [nOf]),rfl,_,rfl,x,_,dx,_,_,rfl,hx,cl,na _ (by simp [nOf]),rfl,_,rfl,x,_,dx,_,_,rfl,hx,cl,na _ (by simp [nOf]),rfl,(by show 4≤sizeLine; decide),fun r hr'=>q r hr'⟩
theorem ok_Moving_told {f:Addr} {fd:FuncData} (F:Fun K "told" "Moving.told" s_Moving_told f fd) (T:Txt K mg c)  (MW:∀ i ∈ [6,7,8],MHas P w K mg base 1 (fOf c i) "word" ["self"] (spWd (wOf i))):FnOk P w K mg base CX0 2 f fd ["self"] (spTold c [6,7,8]):=by
 refine F.ok sc_Moving_told (fun vs H Q E h=>?_) (fun cdv A outer s H vs Q E hr h=>?_)
 ·obtain ⟨x,k,fs,rfl,_⟩:=h
  rfl
 obtain ⟨x,k,fs,rfl,hk,⟨dx,hx,ln⟩,q⟩:=h
 refine ⟨_,(pss_one (ps_ret (pe_tup (pa_cons (pe_methP0 (k:=1) (pv 0) (hr.mono (by omega))) (pa_cons (pe_fld (pv 0) rfl) (pa_cons (pe_fld (pv 0) rfl) (pa_cons (pe_fld (pv 0) rfl) pa_nil))))))),?_⟩
 have mw:=MW k hk
 simp only [List.mem_cons,List.not_mem_nil,or_false] at hk
 rcases hk with rfl | rfl | rfl
 ·obtain ⟨a0,a1,a2,rfl⟩:=len3 ln
  obtain ⟨cl,na⟩:=T.clF (k:=6) (by decide)
  refine ⟨_,rfl,x,_,dx,_,_,_,rfl,hx,rfl,mw,x,rfl,_,rfl,x,_,dx,_,_,rfl,hx,cl,na _ (by simp [nOf]),rfl,_,rfl,x,_,dx,_,_,rfl,hx,cl,na _ (by simp [nOf]),rfl,_,rfl,x,_,dx,_,_,rfl,hx,cl,na _ (by simp [nOf]),rfl,(by show 4≤sizeLine; decide),fun r hr'=>q r hr'⟩
 ·obtain ⟨a0,a1,a2,rfl⟩:=len3 ln
  obtain ⟨cl,na⟩:=T.clF (k:=7) (by decide)
  refine ⟨_,rfl,x,_,dx,_,_,_,rfl,hx,rfl,mw,x,rfl,_,rfl,x,_,dx,_,_,rfl,hx,cl,na _ (by simp [nOf]),rfl,_,rfl,x,_,dx,_,_,rfl,hx,cl,na _ (by simp [nOf]),rfl,_,rfl,x,_,dx,_,_,rfl,hx,cl,na _ (by simp [nOf]),rfl,(by show 4≤sizeLine; decide),fun r hr'=>q r hr'⟩
 ·obtain ⟨a0,a1,a2,rfl⟩:=len3 ln
  obtain ⟨cl,na⟩:=T.clF (k:=8) (by decide)
  refine ⟨_,rfl,x,_,dx,_,_,_,rfl,hx,rfl,mw,x,rfl,_,rfl,x,_,dx,_,_,rfl,hx,cl,na _ (by simp [nOf]),rfl,_,rfl,x,_,dx,_,_,rfl,hx,cl,na _ (by simp [nOf]),rfl,_,rfl,x,_,dx,_,_,rfl,hx,cl,na _ (by simp [nOf]),rfl,(by show 4≤sizeLine; decide),fun r hr'=>q r hr'⟩
theorem ok_Pick_told {f:Addr} {fd:FuncData} (F:Fun K "told" "Pick.told" s_Pick_told f fd) (T:Txt K mg c) :FnOk P w K mg base CX0 1 f fd ["self"] (spTold c [13]):=by
 refine F.ok sc_Pick_told (fun vs H Q E h=>?_) (fun cdv A outer s H vs Q E hr h=>?_)
 ·obtain ⟨x,k,fs,rfl,_⟩:=h
  rfl
 obtain ⟨x,k,fs,rfl,hk,⟨dx,hx,ln⟩,q⟩:=h
 refine ⟨_,(pss_one (ps_ret (pe_tup (pa_cons pe_str (pa_cons (pe_fld (pv 0) rfl) (pa_cons (pe_fld (pv 0) rfl) (pa_cons (pe_fld (pv 0) rfl) (pa_cons (pe_fld (pv 0) rfl) pa_nil)))))))),?_⟩
 simp only [List.mem_cons,List.not_mem_nil,or_false] at hk
 subst hk
 obtain ⟨a0,a1,a2,a3,rfl⟩:=len4 ln
 obtain ⟨cl,na⟩:=T.clF (k:=13) (by decide)
 refine ⟨_,rfl,x,_,dx,_,_,rfl,hx,cl,na _ (by simp [nOf]),rfl,_,rfl,x,_,dx,_,_,rfl,hx,cl,na _ (by simp [nOf]),rfl,_,rfl,x,_,dx,_,_,rfl,hx,cl,na _ (by simp [nOf]),rfl,_,rfl,x,_,dx,_,_,rfl,hx,cl,na _ (by simp [nOf]),rfl,(by show 5≤sizeLine; decide),fun r hr'=>q r hr'⟩
theorem ok_Mark_told {f:Addr} {fd:FuncData} (F:Fun K "told" "Mark.told" s_Mark_told f fd) (T:Txt K mg c) :FnOk P w K mg base CX0 1 f fd ["self"] (spTold c [14]):=by
 refine F.ok sc_Mark_told (fun vs H Q E h=>?_) (fun cdv A outer s H vs Q E hr h=>?_)
 ·obtain ⟨x,k,fs,rfl,_⟩:=h
  rfl
 obtain ⟨x,k,fs,rfl,hk,⟨dx,hx,ln⟩,q⟩:=h
 refine ⟨_,(pss_one (ps_ret (pe_tup (pa_cons pe_str (pa_cons (pe_fld (pv 0) rfl) (pa_cons (pe_fld (pv 0) rfl) (pa_cons (pe_fld (pv 0) rfl) pa_nil))))))),?_⟩
 simp only [List.mem_cons,List.not_mem_nil,or_false] at hk
 subst hk
 obtain ⟨a0,a1,a2,rfl⟩:=len3 ln
 obtain ⟨cl,na⟩:=T.clF (k:=14) (by decide)
 refine ⟨_,rfl,x,_,dx,_,_,rfl,hx,cl,na _ (by simp [nOf]),rfl,_,rfl,x,_,dx,_,_,rfl,hx,cl,na _ (by simp [nOf]),rfl,_,rfl,x,_,dx,_,_,rfl,hx,cl,na _ (by simp [nOf]),rfl,(by show 4≤sizeLine; decide),fun r hr'=>q r hr'⟩
def csOf (c:Ad):List Addr:=[c.Set,c.Copy,c.Sum,c.Gap,c.Low,c.High,c.Left,c.Right,c.Slide,c.And,c.Or,c.Unlike,c.Under,c.Pick,c.Mark,c.Turns]
theorem cs_at {c:Ad} {k:Nat} (h:k < 16):(csOf c).getD k 0 = fOf c k:=by
 rcases (by omega:k = 0∨k = 1∨k = 2∨k = 3∨k = 4∨k = 5∨k = 6∨k = 7∨k = 8∨k = 9∨k = 10∨k = 11∨k = 12∨k = 13∨k = 14∨k = 15) with rfl | rfl | rfl | rfl | rfl | rfl | rfl | rfl | rfl | rfl | rfl | rfl | rfl | rfl | rfl | rfl <;> rfl
theorem Txt.kd {K:PySem.W.Frag} {mg:Str→Option Value} {c:Ad} (T:Txt K mg c) {k:Nat} (h:k < 16):PySem.W.isClsIn K (fOf c k) = true∧PySem.W.typeIn K (.ref (fOf c k)) = some (.type "type")∧PySem.W.mroIn K (fOf c k) (.ref c.Step) = some true∧PySem.W.findIn K (.ref (fOf c k)) "__class__" = some (some (.builtin "object.__class__"))∧PySem.W.mroIn K (fOf c k) (.type "object") = some true∧∀ i,i < 16→PySem.W.mroIn K (fOf c k) (.ref (fOf c i)) = some (decide (i = k)):=by
 have a:=T.kf_kr_kinds
 have a:kindsAll K (csOf c) c.Step = true:=a
 unfold kindsAll at a
 simp only [Bool.and_eq_true] at a
 have b:=List.all_eq_true.mp a.2 k (List.mem_range.mpr h)
 simp only [Bool.and_eq_true,beq_iff_eq] at b
 rw [cs_at h] at b
 obtain ⟨⟨⟨⟨⟨b1,b2⟩,b3⟩,b4⟩,b5⟩,b6⟩:=b
 refine ⟨b1,b2,b3,b4,b5,fun i hi=>?_⟩
 have:=List.all_eq_true.mp b6 i (List.mem_range.mpr hi)
 rw [beq_iff_eq,cs_at hi] at this
 exact this
theorem Txt.st {K:PySem.W.Frag} {mg:Str→Option Value} {c:Ad} (T:Txt K mg c):PySem.W.isClsIn K c.Step = true∧PySem.W.typeIn K (.ref c.Step) = some (.type "type"):=by
 have a:kindsAll K (csOf c) c.Step = true:=T.kf_kr_kinds
 unfold kindsAll at a
 simp only [Bool.and_eq_true,beq_iff_eq] at a
 exact a.1
theorem Txt.ty {K:PySem.W.Frag} {mg:Str→Option Value} {c:Ad} (T:Txt K mg c) {k:Nat} (h:k < 15) {H:Hp} {x dx:Addr} {fs:List (Str × V)} (e:H x = some (.ins (fOf c k) dx fs)):TyOf K H (.ref x) (.ref (fOf c k)):=TyOf.ins e (T.clF h).1 (T.kd (by omega)).2.2.2.1 T.kf_og T.kf_ot (T.kd (by omega)).2.2.2.2.1
theorem Txt.kit {K:PySem.W.Frag} {mg:Str→Option Value} {c:Ad} (T:Txt K mg c) {k i:Nat} (h:k < 16) (hi:i < 16):PySem.W.kitOne K (.ref (fOf c k)) (.ref (fOf c i)) = some (decide (i = k)):=by
 by_cases e:i = k
 ·subst e
  rw [decide_eq_true rfl]
  have:=(T.kd h).2.2.2.2.2 i h
  rw [decide_eq_true rfl] at this
  exact kit_of (T.kd h).1 (T.kd h).2.1 this
 ·rw [decide_eq_false e]
  have a:=(T.kd h).2.2.2.2.2 i hi
  have b:=(T.kd hi).2.2.2.2.2 i hi
  rw [decide_eq_false e] at a
  rw [decide_eq_true rfl] at b
  exact kit_apart (T.kd hi).1 (T.kd hi).2.1 a b
theorem ok_is_register {f:Addr} {fd:FuncData} (F:Fun K "is_register" "is_register" s_is_register f fd) (T:Txt K mg c) :FnOk P w K mg base CX0 1 f fd ["thing"] spReg:=by
 refine F.ok sc_is_register (fun vs H Q E h=>?_) (fun cdv A outer s H vs Q E hr h=>?_)
 ·obtain ⟨x,rfl,_⟩:=h
  rfl
 obtain ⟨x,rfl,th,hz,q⟩:=h
 refine ⟨_,(pss_cons (ps_if (PW.pt (pw_or (pt_not (pt_val (pe_callB call_isinst rfl T.n_isinstance boot_isinstance (pa_cons (pv 0) (pa_cons (pe_ty rfl T.n_str boot_str) pa_nil))))) (pw_or (pt_not (pt_chain op_le op_le pe_int (pe_callB call_len_str rfl T.n_len boot_len (pa_cons (pv 0) pa_nil)) pe_int)) (pw_or1 (pt_cmpR op_notIn_str (pe_ix ix_str (pv 0) pe_int (fun _ _=>rfl)) (pe_globS rfl T.g_LETTERS) (by with_unfolding_all rfl))))))
   (pss_one (ps_ret pe_bl))
   pss_nil)
  (pss_one (ps_ret (pe_callB (call_all_bl rfl) rfl T.n_all boot_all (pa_cons (pe_comp0 rfl (by first | rfl | with_unfolding_all rfl) (by decide +kernel) rfl (by decide +kernel) rfl (pi_str (pv 0)) (fun C s2 H2 fp=>(pe_cmpR op_in_str (pv 0) (pe_globS rfl T.g_LETTERS_AND_FIGURES) (by with_unfolding_all rfl)))) pa_nil))))),?_⟩
 cases th with
 | int i=>exact ⟨_,rfl,_,_,_,_,_,rfl,rfl,TyOf.int _,kit_int_str _,_,rfl,iteT (q H (Same.refl _))⟩
 | bl b=>exact ⟨_,rfl,_,_,_,_,_,rfl,rfl,TyOf.bl _,kit_bl_str _,_,rfl,iteT (q H (Same.refl _))⟩
 | non=>exact ⟨_,rfl,_,_,_,_,_,rfl,rfl,TyOf.non,kit_non_str _,_,rfl,iteT (q H (Same.refl _))⟩
 | lst h=>exact ⟨_,rfl,_,_,_,_,_,rfl,rfl,TyOf.lst h,kit_lst_str _,_,rfl,iteT (q H (Same.refl _))⟩
 | tup h=>exact ⟨_,rfl,_,_,_,_,_,rfl,rfl,TyOf.tup h,kit_tup_str _,_,rfl,iteT (q H (Same.refl _))⟩
 | dct h=>exact ⟨_,rfl,_,_,_,_,_,rfl,rfl,TyOf.dK h,kit_dct_str _,_,rfl,iteT (q H (Same.refl _))⟩
 | str z =>
 have hz:=hz z rfl
 refine ⟨_,rfl,_,_,_,_,_,rfl,rfl,TyOf.str _,kit_str_str _,_,rfl,iteF ?_⟩
 have no:isReg (.str z) = false→Q (.bl false) H:=fun e=>by have:=q H (Same.refl _); rw [e] at this; exact this
 have lz:z.length = z.cps.size:=rfl
 have L1000:(1000:Nat)≤sizeLine:=by decide
 refine ⟨_,rfl,z,rfl,hz,_,_,rfl,rfl,_,rfl,?_⟩
 by_cases c1:(1:Int)≤(z.length:Int)
 rotate_left
 ·refine iteDN c1 ⟨_,rfl,iteT (no ?_)⟩
  show (decide (1≤z.length) && _ && _ && _) = false
  rw [decide_eq_false (by omega)]
  rfl
 refine iteD c1 ⟨_,_,rfl,rfl,_,rfl,?_⟩
 by_cases c2:(z.length:Int)≤8
 rotate_left
 ·refine iteN c2 (no ?_)
  show (_ && decide (z.length≤8) && _ && _) = false
  rw [decide_eq_false (show ¬ z.length≤8 by omega),Bool.and_false]
  rfl
 refine iteNS c2 ?_
 have s1:0 < z.cps.size:=by omega
 have e0:z.cps[0]? = some z.cps[0]:=Array.getElem?_eq_getElem s1
 have a0:atI z.cps.toList 0 = some z.cps[0]:=atI_nat (j:=0) (by rw [Array.getElem?_toList]; exact e0)
 refine ⟨_,rfl,z,0,_,rfl,rfl,hz,a0,_,_,rfl,rfl,_,rfl,?_⟩
 have reg:isReg (.str z) = (inS LT ⟨#[z.cps[0]]⟩ && z.cps.toList.all fun n=>inS LF ⟨#[n]⟩):=by
  show (decide (1≤z.length) && decide (z.length≤8) && (match z.cps[0]? with | some n=>inS LT ⟨#[n]⟩ | none=>false) && _) = _
  rw [decide_eq_true (show 1≤z.length by omega),decide_eq_true (show z.length≤8 by omega),e0]
  rfl
 show if (!inS LT ⟨#[z.cps[0]]⟩) = true then _ else _
 cases e3:inS LT ⟨#[z.cps[0]]⟩ with
 | false =>
  refine iteT (no ?_)
  rw [reg,e3]
  rfl
 | true =>
 refine iteF ?_
 refine ⟨_,rfl,z,rfl,fun D hD=>?_⟩
 refine comp_str (z:=z) (fun j HJ=>HJ D = some (.lst (((z.cps.toList.take j).map fun n=>inS LF ⟨#[n]⟩).map V.bl))∧Same H HJ) ⟨upd_same,same_new hD _⟩ ?_ ?_
 ·rintro j n HJ hn ⟨hy,sJ⟩
  have jl:=(Array.getElem?_eq_some_iff.mp hn).1
  refine ⟨_,rfl,_,_,rfl,rfl,_,hy,(by rw [List.length_map,List.length_map,List.length_take]; omega),_,(show z.cps.size - (j + 1) < _ by omega),rfl,(by omega),?_,Same.updL sJ hD⟩
  rw [upd_same,List.take_add_one,show z.cps.toList[j]? = some n by rw [Array.getElem?_toList]; exact hn,Option.toList_some,List.map_append,List.map_append]
  rfl
 ·rintro HJ ⟨hy,sJ⟩
  refine ⟨D,_,rfl,SqL.of hy,?_⟩
  have:=q HJ sJ
  rw [reg,e3,Bool.true_and] at this
  rw [show z.cps.toList.take z.cps.size = z.cps.toList by rw [← Array.length_toList,List.take_length],List.all_map]
  exact this
theorem nil_ {σ:L2.St} {H:Hp} {k:List V→Hp→Prop} (h:k [] H):tNil σ H k:=h
theorem reg_in {z:Str} (h:Rg z) {H:Hp} {Q:VK} {E:XK} (q:∀ H',Same H H'→Q (.bl true) H'):spReg [.str z] H Q E:=by
 refine ⟨_,rfl,Th.str z,fun z' e=>?_,fun H' s'=>?_⟩
 ·cases e
  exact Nat.le_trans h.2 (by decide)
 ·rw [h.1.reg h.2]
  exact q H' s'
theorem ok_are_registers {f:Addr} {fd:FuncData} (F:Fun K "are_registers" "are_registers" s_are_registers f fd) (T:Txt K mg c) (H_is_register:Has P w K mg base 1 "is_register" ["thing"] spReg):FnOk P w K mg base CX0 2 f fd ["things"] spRegs:=by
 refine F.ok sc_are_registers (fun vs H Q E h=>?_) (fun cdv A outer s H vs Q E hr h=>?_)
 ·obtain ⟨l,zs,rfl,_⟩:=h
  rfl
 obtain ⟨l,zs,rfl,hl,ln,ok,q⟩:=h
 refine ⟨_,(pss_one (ps_ret (pe_callB (call_all_bl rfl) rfl T.n_all boot_all (pa_cons (pe_comp0 rfl (by first | rfl | with_unfolding_all rfl) (by decide +kernel) rfl (by decide +kernel) rfl (pi_list (pv 0)) (fun C s2 H2 fp=>(pe_fn H_is_register (hr.mono (by omega)) rfl (pa_cons (pv 0) pa_nil)))) pa_nil)))),?_⟩
 have L1000:(1000:Nat)≤sizeLine:=by decide
 refine ⟨_,rfl,l,rfl,⟨_,SqL.of hl⟩,fun D hD=>?_⟩
 refine comp_list (xs:=zs.map V.str) (fun j HJ=>HJ D = some (.lst ((List.replicate j true).map V.bl))∧Same H HJ) ⟨upd_same,same_new hD _⟩ ?_ ?_ ?_
 ·rintro j HJ hj ⟨hy,sJ⟩
  exact SqL.of (sJ _ _ hl)
 ·rintro j v HJ hv ⟨hy,sJ⟩
  have jl:=(List.getElem?_eq_some_iff.mp hv).1
  have jl2:=jl
  rw [List.length_map] at jl2
  rw [List.getElem?_map] at hv
  cases ez:zs[j]? with
  | none=>rw [ez] at hv; cases hv
  | some z =>
   rw [ez] at hv
   cases hv
   refine ⟨_,rfl,nil_ <| reg_in (ok z (List.mem_of_getElem? ez)) fun H2 s2=>⟨_,s2 _ _ hy,(by rw [List.length_map,List.length_replicate]; omega),_,(show (zs.map V.str).length - (j + 1) < _ by omega),rfl,(by omega),?_,Same.updL (sJ.trans s2) hD⟩⟩
   rw [upd_same,List.replicate_succ',List.map_append]
   rfl
 ·rintro HJ ⟨hy,sJ⟩
  refine ⟨D,_,rfl,SqL.of hy,?_⟩
  rw [show (List.replicate (zs.map V.str).length true).all id = true by rw [List.all_eq_true]; exact fun b hb=>(List.mem_replicate.mp hb).2]
  exact q HJ sJ
theorem ok_Sum_reckoned {f:Addr} {fd:FuncData} (F:Fun K "reckoned" "Sum.reckoned" s_Sum_reckoned f fd) (T:Txt K mg c) (H_sum_of:Has P w K mg base 4 "sum_of" ["width", "a", "b"] spSum):FnOk P w K mg base CX0 5 f fd ["self", "width", "a", "b"] (spCar 2):=by
 refine F.ok sc_Sum_reckoned (fun vs H Q E h=>?_) (fun cdv A outer s H vs Q E hr h=>?_)
 ·obtain ⟨x,w',a,b,rfl,_⟩:=h
  rfl
 obtain ⟨x,w',a,b,rfl,w0,w1,q⟩:=h
 refine ⟨_,(pss_one (ps_ret (pe_fn H_sum_of (hr.mono (by omega)) rfl (pa_cons (pv 1) (pa_cons (pv 2) (pa_cons (pv 3) pa_nil)))))),?_⟩
 exact ⟨_,rfl,_,rfl,_,rfl,w',a,b,rfl,w0,w1,fun t ht=>q t ht⟩
theorem ok_Gap_reckoned {f:Addr} {fd:FuncData} (F:Fun K "reckoned" "Gap.reckoned" s_Gap_reckoned f fd) (T:Txt K mg c) (H_gap_of:Has P w K mg base 4 "gap_of" ["width", "a", "b"] spGap):FnOk P w K mg base CX0 5 f fd ["self", "width", "a", "b"] (spCar 3):=by
 refine F.ok sc_Gap_reckoned (fun vs H Q E h=>?_) (fun cdv A outer s H vs Q E hr h=>?_)
 ·obtain ⟨x,w',a,b,rfl,_⟩:=h
  rfl
 obtain ⟨x,w',a,b,rfl,w0,w1,q⟩:=h
 refine ⟨_,(pss_one (ps_ret (pe_fn H_gap_of (hr.mono (by omega)) rfl (pa_cons (pv 1) (pa_cons (pv 2) (pa_cons (pv 3) pa_nil)))))),?_⟩
 exact ⟨_,rfl,_,rfl,_,rfl,w',a,b,rfl,w0,w1,fun t ht=>q t ht⟩
theorem ok_Low_reckoned {f:Addr} {fd:FuncData} (F:Fun K "reckoned" "Low.reckoned" s_Low_reckoned f fd) (T:Txt K mg c) (H_low_product:Has P w K mg base 4 "low_product" ["width", "a", "b"] spLow):FnOk P w K mg base CX0 5 f fd ["self", "width", "a", "b"] (spJn 4):=by
 refine F.ok sc_Low_reckoned (fun vs H Q E h=>?_) (fun cdv A outer s H vs Q E hr h=>?_)
 ·obtain ⟨x,w',a,b,rfl,_⟩:=h
  rfl
 obtain ⟨x,w',a,b,rfl,w0,w1,a0,a1,b0,b1,q⟩:=h
 refine ⟨_,(pss_one (ps_ret (pe_fn H_low_product (hr.mono (by omega)) rfl (pa_cons (pv 1) (pa_cons (pv 2) (pa_cons (pv 3) pa_nil)))))),?_⟩
 have P:=pw_bounds w0 w1
 exact ⟨_,rfl,_,rfl,_,rfl,w',a,b,rfl,w0,w1,cmul_l a0 (by omega),q⟩
theorem ok_High_reckoned {f:Addr} {fd:FuncData} (F:Fun K "reckoned" "High.reckoned" s_High_reckoned f fd) (T:Txt K mg c) (H_high_product:Has P w K mg base 4 "high_product" ["width", "a", "b"] spHigh):FnOk P w K mg base CX0 5 f fd ["self", "width", "a", "b"] (spJn 5):=by
 refine F.ok sc_High_reckoned (fun vs H Q E h=>?_) (fun cdv A outer s H vs Q E hr h=>?_)
 ·obtain ⟨x,w',a,b,rfl,_⟩:=h
  rfl
 obtain ⟨x,w',a,b,rfl,w0,w1,a0,a1,b0,b1,q⟩:=h
 refine ⟨_,(pss_one (ps_ret (pe_fn H_high_product (hr.mono (by omega)) rfl (pa_cons (pv 1) (pa_cons (pv 2) (pa_cons (pv 3) pa_nil)))))),?_⟩
 have P:=pw_bounds w0 w1
 exact ⟨_,rfl,_,rfl,_,rfl,w',a,b,rfl,w0,w1,cmul_l a0 (by omega),q⟩
theorem ok_And_reckoned {f:Addr} {fd:FuncData} (F:Fun K "reckoned" "And.reckoned" s_And_reckoned f fd) (T:Txt K mg c) :FnOk P w K mg base CX0 1 f fd ["self", "width", "a", "b"] (spJn 9):=by
 refine F.ok sc_And_reckoned (fun vs H Q E h=>?_) (fun cdv A outer s H vs Q E hr h=>?_)
 ·obtain ⟨x,w',a,b,rfl,_⟩:=h
  rfl
 obtain ⟨x,w',a,b,rfl,w0,w1,a0,a1,b0,b1,q⟩:=h
 refine ⟨_,(pss_one (ps_ret (pe_op op_and (pv 2) (pv 3)))),?_⟩
 have P:=pw_bounds w0 w1
 exact ⟨_,rfl,_,rfl,_,_,rfl,rfl,q⟩
theorem ok_Or_reckoned {f:Addr} {fd:FuncData} (F:Fun K "reckoned" "Or.reckoned" s_Or_reckoned f fd) (T:Txt K mg c) :FnOk P w K mg base CX0 1 f fd ["self", "width", "a", "b"] (spJn 10):=by
 refine F.ok sc_Or_reckoned (fun vs H Q E h=>?_) (fun cdv A outer s H vs Q E hr h=>?_)
 ·obtain ⟨x,w',a,b,rfl,_⟩:=h
  rfl
 obtain ⟨x,w',a,b,rfl,w0,w1,a0,a1,b0,b1,q⟩:=h
 refine ⟨_,(pss_one (ps_ret (pe_op op_or (pv 2) (pv 3)))),?_⟩
 have P:=pw_bounds w0 w1
 exact ⟨_,rfl,_,rfl,_,_,rfl,rfl,q⟩
theorem ok_Unlike_reckoned {f:Addr} {fd:FuncData} (F:Fun K "reckoned" "Unlike.reckoned" s_Unlike_reckoned f fd) (T:Txt K mg c) :FnOk P w K mg base CX0 1 f fd ["self", "width", "a", "b"] (spJn 11):=by
 refine F.ok sc_Unlike_reckoned (fun vs H Q E h=>?_) (fun cdv A outer s H vs Q E hr h=>?_)
 ·obtain ⟨x,w',a,b,rfl,_⟩:=h
  rfl
 obtain ⟨x,w',a,b,rfl,w0,w1,a0,a1,b0,b1,q⟩:=h
 refine ⟨_,(pss_one (ps_ret (pe_op op_xor (pv 2) (pv 3)))),?_⟩
 have P:=pw_bounds w0 w1
 exact ⟨_,rfl,_,rfl,_,_,rfl,rfl,q⟩
theorem ok_Under_reckoned {f:Addr} {fd:FuncData} (F:Fun K "reckoned" "Under.reckoned" s_Under_reckoned f fd) (T:Txt K mg c) :FnOk P w K mg base CX0 1 f fd ["self", "width", "a", "b"] (spJn 12):=by
 refine F.ok sc_Under_reckoned (fun vs H Q E h=>?_) (fun cdv A outer s H vs Q E hr h=>?_)
 ·obtain ⟨x,w',a,b,rfl,_⟩:=h
  rfl
 obtain ⟨x,w',a,b,rfl,w0,w1,a0,a1,b0,b1,q⟩:=h
 refine ⟨_,(pss_one (ps_ret (pe_ifExp (pt_cmpR op_lt (pv 2) (pv 3) (nomark _)) pe_int pe_int))),?_⟩
 have P:=pw_bounds w0 w1
 refine ⟨_,rfl,_,rfl,_,_,rfl,rfl,_,rfl,?_⟩
 have q:Q (.int (if a < b then 1 else 0)) H:=q
 by_cases hc:a < b
 ·rw [if_pos hc] at q
  exact iteD hc q
 ·rw [if_neg hc] at q
  exact iteDN hc q
theorem ok_Left_moved {f:Addr} {fd:FuncData} (F:Fun K "moved" "Left.moved" s_Left_moved f fd) (T:Txt K mg c) (H_left:Has P w K mg base 4 "left" ["width", "a", "k"] spLeft):FnOk P w K mg base CX0 5 f fd ["self", "width", "a"] (spMv c 6):=by
 refine F.ok sc_Left_moved (fun vs H Q E h=>?_) (fun cdv A outer s H vs Q E hr h=>?_)
 ·obtain ⟨x,w',a,j,g,y,rfl,_⟩:=h
  rfl
 obtain ⟨x,w',a,j,g,y,rfl,⟨dx,hx,ln⟩,w0,w1,a0,a1,j0,j1,q⟩:=h
 refine ⟨_,(pss_one (ps_ret (pe_fn H_left (hr.mono (by omega)) rfl (pa_cons (pv 1) (pa_cons (pv 2) (pa_cons (pe_fld (pv 0) rfl) pa_nil)))))),?_⟩
 have P:=pw_bounds w0 w1
 obtain ⟨cl,na⟩:=T.clF (k:=6) (by decide)
 exact ⟨_,rfl,_,rfl,_,rfl,x,_,dx,_,_,rfl,hx,cl,na _ (by simp [nOf]),rfl,w',a,j,rfl,w0,w1,⟨by omega,by omega,by have:(2:Nat) ^ 64 = 18446744073709551616:=(by decide); omega⟩,q⟩
theorem ok_Right_moved {f:Addr} {fd:FuncData} (F:Fun K "moved" "Right.moved" s_Right_moved f fd) (T:Txt K mg c) (H_right:Has P w K mg base 4 "right" ["width", "a", "k"] spRight):FnOk P w K mg base CX0 5 f fd ["self", "width", "a"] (spMv c 7):=by
 refine F.ok sc_Right_moved (fun vs H Q E h=>?_) (fun cdv A outer s H vs Q E hr h=>?_)
 ·obtain ⟨x,w',a,j,g,y,rfl,_⟩:=h
  rfl
 obtain ⟨x,w',a,j,g,y,rfl,⟨dx,hx,ln⟩,w0,w1,a0,a1,j0,j1,q⟩:=h
 refine ⟨_,(pss_one (ps_ret (pe_fn H_right (hr.mono (by omega)) rfl (pa_cons (pv 1) (pa_cons (pv 2) (pa_cons (pe_fld (pv 0) rfl) pa_nil)))))),?_⟩
 have P:=pw_bounds w0 w1
 obtain ⟨cl,na⟩:=T.clF (k:=7) (by decide)
 exact ⟨_,rfl,_,rfl,_,rfl,x,_,dx,_,_,rfl,hx,cl,na _ (by simp [nOf]),rfl,w',a,j,rfl,w0,w1,j0,q⟩
theorem ok_Slide_moved {f:Addr} {fd:FuncData} (F:Fun K "moved" "Slide.moved" s_Slide_moved f fd) (T:Txt K mg c) (H_slide:Has P w K mg base 4 "slide" ["width", "a", "k"] spSlide):FnOk P w K mg base CX0 5 f fd ["self", "width", "a"] (spMv c 8):=by
 refine F.ok sc_Slide_moved (fun vs H Q E h=>?_) (fun cdv A outer s H vs Q E hr h=>?_)
 ·obtain ⟨x,w',a,j,g,y,rfl,_⟩:=h
  rfl
 obtain ⟨x,w',a,j,g,y,rfl,⟨dx,hx,ln⟩,w0,w1,a0,a1,j0,j1,q⟩:=h
 refine ⟨_,(pss_one (ps_ret (pe_fn H_slide (hr.mono (by omega)) rfl (pa_cons (pv 1) (pa_cons (pv 2) (pa_cons (pe_fld (pv 0) rfl) pa_nil)))))),?_⟩
 have P:=pw_bounds w0 w1
 obtain ⟨cl,na⟩:=T.clF (k:=8) (by decide)
 exact ⟨_,rfl,_,rfl,_,rfl,x,_,dx,_,_,rfl,hx,cl,na _ (by simp [nOf]),rfl,w',a,j,rfl,w0,w1,j0,q⟩
theorem spGood_one {c:Ad} {ks:List Nat} {k:Nat} {vs:List V} {H:Hp} {Q:VK} {E:XK} (hk:k ∈ ks) (h:spGood c [k] vs H Q E):spGood c ks vs H Q E:=by
 obtain ⟨x,w',r,e,m,t⟩:=h
 exact ⟨x,w',r,e,(List.mem_singleton.mp m).symm ▸ hk,t⟩
theorem spAct_one {c:Ad} {ks:List Nat} {k:Nat} {vs:List V} {H:Hp} {Q:VK} {E:XK} (hk:k ∈ ks) (h:spAct c [k] vs H Q E):spAct c ks vs H Q E:=by
 obtain ⟨x,d,m',w',r,kvs,ms,e,m,t⟩:=h
 exact ⟨x,d,m',w',r,kvs,ms,e,(List.mem_singleton.mp m).symm ▸ hk,t⟩
theorem mk_in {m:Str} (h:m = "round"∨m = "stop"∨m = "nothing"):inV (.str m) [.str "round",.str "stop",.str "nothing"] = true:=by
 rcases h with rfl | rfl | rfl <;> decide +kernel
theorem ok_Set_good_at {f:Addr} {fd:FuncData} (F:Fun K "good_at" "Set.good_at" s_Set_good_at f fd) (T:Txt K mg c) (H_is_register:Has P w K mg base 1 "is_register" ["thing"] spReg) (H_is_word:Has P w K mg base 3 "is_word" ["width", "thing"] spIsWord):FnOk P w K mg base CX0 4 f fd ["self", "width"] (spGood c [0]):=by
 refine F.ok sc_Set_good_at (fun vs H Q E h=>?_) (fun cdv A outer s H vs Q E hr h=>?_)
 ·obtain ⟨x,w',r,rfl,_⟩:=h
  rfl
 obtain ⟨x,w',r,rfl,hk,⟨dx,hx,ln⟩,rk,w0,w1,q⟩:=h
 refine slE ⟨_,(pss_oneZ (slIn (ps_ret (pe_and (pe_fn H_is_register (hr.mono (by omega)) rfl (pa_cons (pe_fld (pv 0) rfl) pa_nil)) (pe_one (pe_fn H_is_word (hr.mono (by omega)) rfl (pa_cons (pv 1) (pa_cons (pe_fld (pv 0) rfl) pa_nil)))))))),?_⟩
 cases r with
 | copy _ _=>simp only [Rw.k,List.mem_cons,List.not_mem_nil,or_false] at hk; simp only [Rw.ok] at rk; omega
 | car _ _ _ _ _=>simp only [Rw.k,List.mem_cons,List.not_mem_nil,or_false] at hk; simp only [Rw.ok] at rk; omega
 | jn _ _ _ _=>simp only [Rw.k,List.mem_cons,List.not_mem_nil,or_false] at hk; simp only [Rw.ok] at rk; omega
 | mv _ _ _ _=>simp only [Rw.k,List.mem_cons,List.not_mem_nil,or_false] at hk; simp only [Rw.ok] at rk; omega
 | pick _ _ _ _=>simp only [Rw.k,List.mem_cons,List.not_mem_nil,or_false] at hk; simp only [Rw.ok] at rk; omega
 | mark _ _ _=>simp only [Rw.k,List.mem_cons,List.not_mem_nil,or_false] at hk; simp only [Rw.ok] at rk; omega
 | set g b =>
 obtain ⟨og,b0,b1⟩:=rk
 obtain ⟨cl,na⟩:=T.clF (k:=0) (by decide)
 exact ⟨_,rfl,x,_,dx,_,_,rfl,hx,cl,na _ (by simp [nOf]),rfl,nil_ <| reg_in og fun H2 s2=>⟨_,rfl,iteT ⟨_,rfl,_,rfl,x,_,dx,_,_,rfl,(s2 _ _ hx),cl,na _ (by simp [nOf]),rfl,w',b,rfl,w0,w1,b0,b1,q H2 s2⟩⟩⟩
theorem ok_Copy_good_at {f:Addr} {fd:FuncData} (F:Fun K "good_at" "Copy.good_at" s_Copy_good_at f fd) (T:Txt K mg c) (H_are_registers:Has P w K mg base 2 "are_registers" ["things"] spRegs):FnOk P w K mg base CX0 3 f fd ["self", "width"] (spGood c [1]):=by
 refine F.ok sc_Copy_good_at (fun vs H Q E h=>?_) (fun cdv A outer s H vs Q E hr h=>?_)
 ·obtain ⟨x,w',r,rfl,_⟩:=h
  rfl
 obtain ⟨x,w',r,rfl,hk,⟨dx,hx,ln⟩,rk,w0,w1,q⟩:=h
 refine slE ⟨_,(pss_oneZ (slIn (ps_ret (pe_fn H_are_registers (hr.mono (by omega)) rfl (pa_cons (pe_lst (pa_cons (pe_fld (pv 0) rfl) (pa_cons (pe_fld (pv 0) rfl) pa_nil))) pa_nil))))),?_⟩
 cases r with
 | set _ _=>simp only [Rw.k,List.mem_cons,List.not_mem_nil,or_false] at hk; simp only [Rw.ok] at rk; omega
 | car _ _ _ _ _=>simp only [Rw.k,List.mem_cons,List.not_mem_nil,or_false] at hk; simp only [Rw.ok] at rk; omega
 | jn _ _ _ _=>simp only [Rw.k,List.mem_cons,List.not_mem_nil,or_false] at hk; simp only [Rw.ok] at rk; omega
 | mv _ _ _ _=>simp only [Rw.k,List.mem_cons,List.not_mem_nil,or_false] at hk; simp only [Rw.ok] at rk; omega
 | pick _ _ _ _=>simp only [Rw.k,List.mem_cons,List.not_mem_nil,or_false] at hk; simp only [Rw.ok] at rk; omega
 | mark _ _ _=>simp only [Rw.k,List.mem_cons,List.not_mem_nil,or_false] at hk; simp only [Rw.ok] at rk; omega
 | copy g a =>
 obtain ⟨og,oa⟩:=rk
 obtain ⟨cl,na⟩:=T.clF (k:=1) (by decide)
 refine ⟨_,rfl,x,_,dx,_,_,rfl,hx,cl,na _ (by simp [nOf]),rfl,_,rfl,x,_,dx,_,_,rfl,hx,cl,na _ (by simp [nOf]),rfl,(by show 2≤sizeLine; decide),fun l hl=>?_⟩
 have s1:=same_new hl (.lst [.str g,.str a])
 refine ⟨l,[g,a],rfl,upd_same,by show 2≤10; decide,List.forall_mem_cons.mpr ⟨og,List.forall_mem_cons.mpr ⟨oa,fun _ h=>nomatch h⟩⟩,fun H2 s2=>?_⟩
 have S2:=s1.trans s2
 exact q H2 S2
theorem ok_Carrying_good_at {f:Addr} {fd:FuncData} (F:Fun K "good_at" "Carrying.good_at" s_Carrying_good_at f fd) (T:Txt K mg c) (H_are_registers:Has P w K mg base 2 "are_registers" ["things"] spRegs) (H_is_register:Has P w K mg base 1 "is_register" ["thing"] spReg):FnOk P w K mg base CX0 3 f fd ["self", "width"] (spGood c [2,3]):=by
 refine F.ok sc_Carrying_good_at (fun vs H Q E h=>?_) (fun cdv A outer s H vs Q E hr h=>?_)
 ·obtain ⟨x,w',r,rfl,_⟩:=h
  rfl
 obtain ⟨x,w',r,rfl,hk,⟨dx,hx,ln⟩,rk,w0,w1,q⟩:=h
 refine slE ⟨_,(pss_oneZ (slIn (ps_ret (pe_and (pe_fn H_are_registers (hr.mono (by omega)) rfl (pa_cons (pe_lst (pa_cons (pe_fld (pv 0) rfl) (pa_cons (pe_fld (pv 0) rfl) (pa_cons (pe_fld (pv 0) rfl) pa_nil)))) pa_nil)) (pe_one (pe_or (pe_cmpR op_isN (pe_fld (pv 0) rfl) pe_non (nomark _)) (pe_one (pe_fn H_is_register (hr.mono (by omega)) rfl (pa_cons (pe_fld (pv 0) rfl) pa_nil))))))))),?_⟩
 cases r with
 | set _ _=>simp only [Rw.k,List.mem_cons,List.not_mem_nil,or_false] at hk; simp only [Rw.ok] at rk; omega
 | copy _ _=>simp only [Rw.k,List.mem_cons,List.not_mem_nil,or_false] at hk; simp only [Rw.ok] at rk; omega
 | jn _ _ _ _=>simp only [Rw.k,List.mem_cons,List.not_mem_nil,or_false] at hk; simp only [Rw.ok] at rk; omega
 | mv _ _ _ _=>simp only [Rw.k,List.mem_cons,List.not_mem_nil,or_false] at hk; simp only [Rw.ok] at rk; omega
 | pick _ _ _ _=>simp only [Rw.k,List.mem_cons,List.not_mem_nil,or_false] at hk; simp only [Rw.ok] at rk; omega
 | mark _ _ _=>simp only [Rw.k,List.mem_cons,List.not_mem_nil,or_false] at hk; simp only [Rw.ok] at rk; omega
 | car k g cv a b =>
 obtain ⟨ok,og,oc,oa,ob⟩:=rk
 have k15:k < 15:=by omega
 obtain ⟨cl,na⟩:=T.clF k15
 have nk:nOf k = (["goal", "carry", "one", "other"]:List Str):=by rcases ok with rfl | rfl <;> rfl
 have hx:H x = some (.ins (fOf c k) dx ((["goal", "carry", "one", "other"]:List Str).zip [.str g,oV cv,.str a,.str b])):=by rw [← nk]; exact hx
 rw [nk] at na
 refine ⟨_,rfl,x,_,dx,_,_,rfl,hx,cl,na _ (by simp),rfl,_,rfl,x,_,dx,_,_,rfl,hx,cl,na _ (by simp),rfl,_,rfl,x,_,dx,_,_,rfl,hx,cl,na _ (by simp),rfl,(by show 3≤sizeLine; decide),fun l hl=>?_⟩
 have s1:=same_new hl (.lst [.str g,.str a,.str b])
 refine ⟨l,[g,a,b],rfl,upd_same,by show 3≤10; decide,List.forall_mem_cons.mpr ⟨og,List.forall_mem_cons.mpr ⟨oa,List.forall_mem_cons.mpr ⟨ob,fun _ h=>nomatch h⟩⟩⟩,fun H2 s2=>?_⟩
 have S2:=s1.trans s2
 have hx2:=S2 _ _ hx
 refine ⟨_,rfl,iteT ?_⟩
 cases cv with
 | none=>exact ⟨_,rfl,x,_,dx,_,_,rfl,hx2,cl,na _ (by simp),rfl,rfl,_,rfl,iteT (q H2 S2)⟩
 | some z=>exact ⟨_,rfl,x,_,dx,_,_,rfl,hx2,cl,na _ (by simp),rfl,rfl,_,rfl,iteF ⟨_,rfl,x,_,dx,_,_,rfl,hx2,cl,na _ (by simp),rfl,nil_ <| reg_in (oc z rfl) fun H3 s3=>q H3 (S2.trans s3)⟩⟩
theorem ok_Joining_good_at {f:Addr} {fd:FuncData} (F:Fun K "good_at" "Joining.good_at" s_Joining_good_at f fd) (T:Txt K mg c) (H_are_registers:Has P w K mg base 2 "are_registers" ["things"] spRegs):FnOk P w K mg base CX0 3 f fd ["self", "width"] (spGood c [4,5,9,10,11,12]):=by
 refine F.ok sc_Joining_good_at (fun vs H Q E h=>?_) (fun cdv A outer s H vs Q E hr h=>?_)
 ·obtain ⟨x,w',r,rfl,_⟩:=h
  rfl
 obtain ⟨x,w',r,rfl,hk,⟨dx,hx,ln⟩,rk,w0,w1,q⟩:=h
 refine slE ⟨_,(pss_oneZ (slIn (ps_ret (pe_fn H_are_registers (hr.mono (by omega)) rfl (pa_cons (pe_lst (pa_cons (pe_fld (pv 0) rfl) (pa_cons (pe_fld (pv 0) rfl) (pa_cons (pe_fld (pv 0) rfl) pa_nil)))) pa_nil))))),?_⟩
 cases r with
 | set _ _=>simp only [Rw.k,List.mem_cons,List.not_mem_nil,or_false] at hk; simp only [Rw.ok] at rk; omega
 | copy _ _=>simp only [Rw.k,List.mem_cons,List.not_mem_nil,or_false] at hk; simp only [Rw.ok] at rk; omega
 | car _ _ _ _ _=>simp only [Rw.k,List.mem_cons,List.not_mem_nil,or_false] at hk; simp only [Rw.ok] at rk; omega
 | mv _ _ _ _=>simp only [Rw.k,List.mem_cons,List.not_mem_nil,or_false] at hk; simp only [Rw.ok] at rk; omega
 | pick _ _ _ _=>simp only [Rw.k,List.mem_cons,List.not_mem_nil,or_false] at hk; simp only [Rw.ok] at rk; omega
 | mark _ _ _=>simp only [Rw.k,List.mem_cons,List.not_mem_nil,or_false] at hk; simp only [Rw.ok] at rk; omega
 | jn k g a b =>
 obtain ⟨ok,og,oa,ob⟩:=rk
 have k15:k < 15:=by omega
 obtain ⟨cl,na⟩:=T.clF k15
 have nk:nOf k = (["goal", "one", "other"]:List Str):=by rcases ok with rfl | rfl | rfl | rfl | rfl | rfl <;> rfl
 have hx:H x = some (.ins (fOf c k) dx ((["goal", "one", "other"]:List Str).zip [.str g,.str a,.str b])):=by rw [← nk]; exact hx
 rw [nk] at na
 refine ⟨_,rfl,x,_,dx,_,_,rfl,hx,cl,na _ (by simp),rfl,_,rfl,x,_,dx,_,_,rfl,hx,cl,na _ (by simp),rfl,_,rfl,x,_,dx,_,_,rfl,hx,cl,na _ (by simp),rfl,(by show 3≤sizeLine; decide),fun l hl=>?_⟩
 have s1:=same_new hl (.lst [.str g,.str a,.str b])
 refine ⟨l,[g,a,b],rfl,upd_same,by show 3≤10; decide,List.forall_mem_cons.mpr ⟨og,List.forall_mem_cons.mpr ⟨oa,List.forall_mem_cons.mpr ⟨ob,fun _ h=>nomatch h⟩⟩⟩,fun H2 s2=>?_⟩
 have S2:=s1.trans s2
 exact q H2 S2
theorem ok_Moving_good_at {f:Addr} {fd:FuncData} (F:Fun K "good_at" "Moving.good_at" s_Moving_good_at f fd) (T:Txt K mg c) (H_are_registers:Has P w K mg base 2 "are_registers" ["things"] spRegs) (H_is_between:Has P w K mg base 2 "is_between" ["thing", "low", "high"] spBetween):FnOk P w K mg base CX0 3 f fd ["self", "width"] (spGood c [6,7,8]):=by
 refine F.ok sc_Moving_good_at (fun vs H Q E h=>?_) (fun cdv A outer s H vs Q E hr h=>?_)
 ·obtain ⟨x,w',r,rfl,_⟩:=h
  rfl
 obtain ⟨x,w',r,rfl,hk,⟨dx,hx,ln⟩,rk,w0,w1,q⟩:=h
 refine slE ⟨_,(pss_oneZ (slIn (ps_ret (pe_and (pe_fn H_are_registers (hr.mono (by omega)) rfl (pa_cons (pe_lst (pa_cons (pe_fld (pv 0) rfl) (pa_cons (pe_fld (pv 0) rfl) pa_nil))) pa_nil)) (pe_one (pe_fn H_is_between (hr.mono (by omega)) rfl (pa_cons (pe_fld (pv 0) rfl) (pa_cons pe_int (pa_cons (pe_op op_sub (pv 1) pe_int) pa_nil))))))))),?_⟩
 cases r with
 | set _ _=>simp only [Rw.k,List.mem_cons,List.not_mem_nil,or_false] at hk; simp only [Rw.ok] at rk; omega
 | copy _ _=>simp only [Rw.k,List.mem_cons,List.not_mem_nil,or_false] at hk; simp only [Rw.ok] at rk; omega
 | car _ _ _ _ _=>simp only [Rw.k,List.mem_cons,List.not_mem_nil,or_false] at hk; simp only [Rw.ok] at rk; omega
 | jn _ _ _ _=>simp only [Rw.k,List.mem_cons,List.not_mem_nil,or_false] at hk; simp only [Rw.ok] at rk; omega
 | pick _ _ _ _=>simp only [Rw.k,List.mem_cons,List.not_mem_nil,or_false] at hk; simp only [Rw.ok] at rk; omega
 | mark _ _ _=>simp only [Rw.k,List.mem_cons,List.not_mem_nil,or_false] at hk; simp only [Rw.ok] at rk; omega
 | mv k g a j =>
 obtain ⟨ok,og,oa,j0,j1⟩:=rk
 have k15:k < 15:=by omega
 obtain ⟨cl,na⟩:=T.clF k15
 have nk:nOf k = (["goal", "one", "k"]:List Str):=by rcases ok with rfl | rfl | rfl <;> rfl
 have hx:H x = some (.ins (fOf c k) dx ((["goal", "one", "k"]:List Str).zip [.str g,.str a,.int j])):=by rw [← nk]; exact hx
 rw [nk] at na
 refine ⟨_,rfl,x,_,dx,_,_,rfl,hx,cl,na _ (by simp),rfl,_,rfl,x,_,dx,_,_,rfl,hx,cl,na _ (by simp),rfl,(by show 2≤sizeLine; decide),fun l hl=>?_⟩
 have s1:=same_new hl (.lst [.str g,.str a])
 refine ⟨l,[g,a],rfl,upd_same,by show 2≤10; decide,List.forall_mem_cons.mpr ⟨og,List.forall_mem_cons.mpr ⟨oa,fun _ h=>nomatch h⟩⟩,fun H2 s2=>?_⟩
 have S2:=s1.trans s2
 have hx2:=S2 _ _ hx
 exact ⟨_,rfl,iteT ⟨_,rfl,x,_,dx,_,_,rfl,hx2,cl,na _ (by simp),rfl,_,rfl,_,_,rfl,rfl,j,_,_,rfl,j0,by omega,q H2 S2⟩⟩
theorem ok_Pick_good_at {f:Addr} {fd:FuncData} (F:Fun K "good_at" "Pick.good_at" s_Pick_good_at f fd) (T:Txt K mg c) (H_are_registers:Has P w K mg base 2 "are_registers" ["things"] spRegs):FnOk P w K mg base CX0 3 f fd ["self", "width"] (spGood c [13]):=by
 refine F.ok sc_Pick_good_at (fun vs H Q E h=>?_) (fun cdv A outer s H vs Q E hr h=>?_)
 ·obtain ⟨x,w',r,rfl,_⟩:=h
  rfl
 obtain ⟨x,w',r,rfl,hk,⟨dx,hx,ln⟩,rk,w0,w1,q⟩:=h
 refine slE ⟨_,(pss_oneZ (slIn (ps_ret (pe_fn H_are_registers (hr.mono (by omega)) rfl (pa_cons (pe_lst (pa_cons (pe_fld (pv 0) rfl) (pa_cons (pe_fld (pv 0) rfl) (pa_cons (pe_fld (pv 0) rfl) (pa_cons (pe_fld (pv 0) rfl) pa_nil))))) pa_nil))))),?_⟩
 cases r with
 | set _ _=>simp only [Rw.k,List.mem_cons,List.not_mem_nil,or_false] at hk; simp only [Rw.ok] at rk; omega
 | copy _ _=>simp only [Rw.k,List.mem_cons,List.not_mem_nil,or_false] at hk; simp only [Rw.ok] at rk; omega
 | car _ _ _ _ _=>simp only [Rw.k,List.mem_cons,List.not_mem_nil,or_false] at hk; simp only [Rw.ok] at rk; omega
 | jn _ _ _ _=>simp only [Rw.k,List.mem_cons,List.not_mem_nil,or_false] at hk; simp only [Rw.ok] at rk; omega
 | mv _ _ _ _=>simp only [Rw.k,List.mem_cons,List.not_mem_nil,or_false] at hk; simp only [Rw.ok] at rk; omega
 | mark _ _ _=>simp only [Rw.k,List.mem_cons,List.not_mem_nil,or_false] at hk; simp only [Rw.ok] at rk; omega
 | pick g y a b =>
 obtain ⟨og,oy,oa,ob⟩:=rk
 obtain ⟨cl,na⟩:=T.clF (k:=13) (by decide)
 refine ⟨_,rfl,x,_,dx,_,_,rfl,hx,cl,na _ (by simp [nOf]),rfl,_,rfl,x,_,dx,_,_,rfl,hx,cl,na _ (by simp [nOf]),rfl,_,rfl,x,_,dx,_,_,rfl,hx,cl,na _ (by simp [nOf]),rfl,_,rfl,x,_,dx,_,_,rfl,hx,cl,na _ (by simp [nOf]),rfl,(by show 4≤sizeLine; decide),fun l hl=>?_⟩
 have s1:=same_new hl (.lst [.str g,.str y,.str a,.str b])
 refine ⟨l,[g,y,a,b],rfl,upd_same,by show 4≤10; decide,List.forall_mem_cons.mpr ⟨og,List.forall_mem_cons.mpr ⟨oy,List.forall_mem_cons.mpr ⟨oa,List.forall_mem_cons.mpr ⟨ob,fun _ h=>nomatch h⟩⟩⟩⟩,fun H2 s2=>?_⟩
 have S2:=s1.trans s2
 exact q H2 S2
theorem ok_Mark_good_at {f:Addr} {fd:FuncData} (F:Fun K "good_at" "Mark.good_at" s_Mark_good_at f fd) (T:Txt K mg c) (H_is_between:Has P w K mg base 2 "is_between" ["thing", "low", "high"] spBetween) (H_is_register:Has P w K mg base 1 "is_register" ["thing"] spReg):FnOk P w K mg base CX0 3 f fd ["self", "width"] (spGood c [14]):=by
 refine F.ok sc_Mark_good_at (fun vs H Q E h=>?_) (fun cdv A outer s H vs Q E hr h=>?_)
 ·obtain ⟨x,w',r,rfl,_⟩:=h
  rfl
 obtain ⟨x,w',r,rfl,hk,⟨dx,hx,ln⟩,rk,w0,w1,q⟩:=h
 refine slE ⟨_,(pss_oneZ (slIn (ps_ret (pe_and (pe_fn H_is_between (hr.mono (by omega)) rfl (pa_cons (pe_fld (pv 0) rfl) (pa_cons pe_int (pa_cons pe_int pa_nil)))) (pe_and (pe_cmpR op_in_seq (pe_fld (pv 0) rfl) (pe_cls rfl T.g_MARKS) (by with_unfolding_all rfl)) (pe_one (pe_fn H_is_register (hr.mono (by omega)) rfl (pa_cons (pe_fld (pv 0) rfl) pa_nil)))))))),?_⟩
 cases r with
 | set _ _=>simp only [Rw.k,List.mem_cons,List.not_mem_nil,or_false] at hk; simp only [Rw.ok] at rk; omega
 | copy _ _=>simp only [Rw.k,List.mem_cons,List.not_mem_nil,or_false] at hk; simp only [Rw.ok] at rk; omega
 | car _ _ _ _ _=>simp only [Rw.k,List.mem_cons,List.not_mem_nil,or_false] at hk; simp only [Rw.ok] at rk; omega
 | jn _ _ _ _=>simp only [Rw.k,List.mem_cons,List.not_mem_nil,or_false] at hk; simp only [Rw.ok] at rk; omega
 | mv _ _ _ _=>simp only [Rw.k,List.mem_cons,List.not_mem_nil,or_false] at hk; simp only [Rw.ok] at rk; omega
 | pick _ _ _ _=>simp only [Rw.k,List.mem_cons,List.not_mem_nil,or_false] at hk; simp only [Rw.ok] at rk; omega
 | mark n m y =>
 obtain ⟨n0,n1,om,oy⟩:=rk
 obtain ⟨cl,na⟩:=T.clF (k:=14) (by decide)
 refine ⟨_,rfl,x,_,dx,_,_,rfl,hx,cl,na _ (by simp [nOf]),rfl,n,_,_,rfl,n0,n1,_,rfl,iteT ⟨_,rfl,x,_,dx,_,_,rfl,hx,cl,na _ (by simp [nOf]),rfl,_,_,rfl,.inr (T.q_MARKS _),rfl,rfl,?_⟩⟩
 rw [if_neg (by decide),mk_in om]
 exact ⟨_,rfl,iteT ⟨_,rfl,x,_,dx,_,_,rfl,hx,cl,na _ (by simp [nOf]),rfl,nil_ <| reg_in oy fun H2 s2=>q H2 s2⟩⟩
theorem ok_Set_act {f:Addr} {fd:FuncData} (F:Fun K "act" "Set.act" s_Set_act f fd) (T:Txt K mg c) :FnOk P w K mg base CX0 1 f fd ["self", "width", "words", "marks"] (spAct c [0]):=by
 refine F.ok sc_Set_act (fun vs H Q E h=>?_) (fun cdv A outer s H vs Q E hr h=>?_)
 ·obtain ⟨x,d,m',w',r,kvs,ms,rfl,_⟩:=h
  rfl
 obtain ⟨x,d,m',w',r,kvs,ms,rfl,hk,⟨dx,hx,ln⟩,rk,w0,w1,hd',wd,hm,ml,q⟩:=h
 refine slE ⟨_,(pss_oneZ (slIn (ps_dput (hu_of hr) (pv 2) (pe_fld (pv 0) rfl) (pe_fld (pv 0) rfl) rfl))),?_⟩
 have hk0:=hk
 cases r with
 | copy _ _=>simp only [Rw.k,List.mem_cons,List.not_mem_nil,or_false] at hk; simp only [Rw.ok] at rk; omega
 | car _ _ _ _ _=>simp only [Rw.k,List.mem_cons,List.not_mem_nil,or_false] at hk; simp only [Rw.ok] at rk; omega
 | jn _ _ _ _=>simp only [Rw.k,List.mem_cons,List.not_mem_nil,or_false] at hk; simp only [Rw.ok] at rk; omega
 | mv _ _ _ _=>simp only [Rw.k,List.mem_cons,List.not_mem_nil,or_false] at hk; simp only [Rw.ok] at rk; omega
 | pick _ _ _ _=>simp only [Rw.k,List.mem_cons,List.not_mem_nil,or_false] at hk; simp only [Rw.ok] at rk; omega
 | mark _ _ _=>simp only [Rw.k,List.mem_cons,List.not_mem_nil,or_false] at hk; simp only [Rw.ok] at rk; omega
 | set g b =>
 obtain ⟨og,b0,b1⟩:=rk
 have L1000:(2000:Nat)≤sizeLine:=by decide
 have l5:=wd.ln
 have nxd:x ≠ d:=fun z=>by rw [z,hd'] at hx; cases hx
 have ndm:d ≠ m':=fun z=>by rw [z,hm] at hd'; cases hd'
 have wi:=wd.ints
 obtain ⟨cl,na⟩:=T.clF (k:=0) (by decide)
 exact ⟨_,rfl,x,_,dx,_,_,rfl,hx,cl,na _ (by simp [nOf]),rfl,_,rfl,_,rfl,x,_,dx,_,_,rfl,hx,cl,na _ (by simp [nOf]),rfl,d,_,rfl,DPut.k (k:=.inr g) hd' (by omega),q _ (by rw [upd_same]; rfl) (by show upd _ d _ m' = _; rw [upd_ne (Ne.symm ndm)]; exact hm) (fun b' o' n1 n2 e=>by rw [upd_ne n1]; exact e)⟩
theorem ok_Copy_act {f:Addr} {fd:FuncData} (F:Fun K "act" "Copy.act" s_Copy_act f fd) (T:Txt K mg c) :FnOk P w K mg base CX0 1 f fd ["self", "width", "words", "marks"] (spAct c [1]):=by
 refine F.ok sc_Copy_act (fun vs H Q E h=>?_) (fun cdv A outer s H vs Q E hr h=>?_)
 ·obtain ⟨x,d,m',w',r,kvs,ms,rfl,_⟩:=h
  rfl
 obtain ⟨x,d,m',w',r,kvs,ms,rfl,hk,⟨dx,hx,ln⟩,rk,w0,w1,hd',wd,hm,ml,q⟩:=h
 refine slE ⟨_,(pss_oneZ (slIn (ps_dput (hu_of hr) (pv 2) (pe_fld (pv 0) rfl) (pe_dgetI (hu_of hr) (pv 2) (pe_fld (pv 0) rfl) pe_int ⟨rfl,rfl,rfl,rfl⟩) rfl))),?_⟩
 have hk0:=hk
 cases r with
 | set _ _=>simp only [Rw.k,List.mem_cons,List.not_mem_nil,or_false] at hk; simp only [Rw.ok] at rk; omega
 | car _ _ _ _ _=>simp only [Rw.k,List.mem_cons,List.not_mem_nil,or_false] at hk; simp only [Rw.ok] at rk; omega
 | jn _ _ _ _=>simp only [Rw.k,List.mem_cons,List.not_mem_nil,or_false] at hk; simp only [Rw.ok] at rk; omega
 | mv _ _ _ _=>simp only [Rw.k,List.mem_cons,List.not_mem_nil,or_false] at hk; simp only [Rw.ok] at rk; omega
 | pick _ _ _ _=>simp only [Rw.k,List.mem_cons,List.not_mem_nil,or_false] at hk; simp only [Rw.ok] at rk; omega
 | mark _ _ _=>simp only [Rw.k,List.mem_cons,List.not_mem_nil,or_false] at hk; simp only [Rw.ok] at rk; omega
 | copy g a =>
 obtain ⟨og,oa⟩:=rk
 have L1000:(2000:Nat)≤sizeLine:=by decide
 have l5:=wd.ln
 have nxd:x ≠ d:=fun z=>by rw [z,hd'] at hx; cases hx
 have ndm:d ≠ m':=fun z=>by rw [z,hm] at hd'; cases hd'
 have wi:=wd.ints
 obtain ⟨cl,na⟩:=T.clF (k:=1) (by decide)
 exact ⟨_,rfl,d,rfl,⟨_,hd'⟩,_,rfl,x,_,dx,_,_,rfl,hx,cl,na _ (by simp [nOf]),rfl,_,_,rfl,hd',wi,_,rfl,_,rfl,x,_,dx,_,_,rfl,hx,cl,na _ (by simp [nOf]),rfl,d,_,rfl,DPut.k (k:=.inr g) hd' (by omega),q _ (by rw [upd_same]; rfl) (by show upd _ d _ m' = _; rw [upd_ne (Ne.symm ndm)]; exact hm) (fun b' o' n1 n2 e=>by rw [upd_ne n1]; exact e)⟩
theorem ok_Carrying_act {f:Addr} {fd:FuncData} (F:Fun K "act" "Carrying.act" s_Carrying_act f fd) (T:Txt K mg c)  (MR:∀ i ∈ [2,3],MHas P w K mg base 5 (fOf c i) "reckoned" ["self", "width", "a", "b"] (spCar i)):FnOk P w K mg base CX0 6 f fd ["self", "width", "words", "marks"] (spAct c [2,3]):=by
 refine F.ok sc_Carrying_act (fun vs H Q E h=>?_) (fun cdv A outer s H vs Q E hr h=>?_)
 ·obtain ⟨x,d,m',w',r,kvs,ms,rfl,_⟩:=h
  rfl
 obtain ⟨x,d,m',w',r,kvs,ms,rfl,hk,⟨dx,hx,ln⟩,rk,w0,w1,hd',wd,hm,ml,q⟩:=h
 refine slE ⟨_,(pss_consZ (slIn (ps_set (i:=4) sc_Carrying_act.nd rfl (Or.inl rfl) (pe_methP (k:=5) (pv 0) (hr.mono (by omega)) (pa_cons (pv 1) (pa_cons (pe_dgetI (hu_of hr) (pv 2) (pe_fld (pv 0) rfl) pe_int ⟨rfl,rfl,rfl,rfl⟩) (pa_cons (pe_dgetI (hu_of hr) (pv 2) (pe_fld (pv 0) rfl) pe_int ⟨rfl,rfl,rfl,rfl⟩) pa_nil))))))
  (pss_consZ (slIn (ps_dput (hu_of hr) (pv 2) (pe_fld (pv 0) rfl) (pe_ix ix_tup (pv 4) pe_int (fun _ _=>rfl)) rfl))
  (pss_oneZ (ps_ifZ (pt_cmpR op_notN (pe_fld (pv 0) rfl) pe_non (nomark _))
   (pss_oneZ (slIn (ps_dput (hu_of hr) (pv 2) (pe_fld (pv 0) rfl) (pe_ix ix_tup (pv 4) pe_int (fun _ _=>rfl)) rfl)))
   pss_nilZ)))),?_⟩
 have hk0:=hk
 cases r with
 | set _ _=>simp only [Rw.k,List.mem_cons,List.not_mem_nil,or_false] at hk; simp only [Rw.ok] at rk; omega
 | copy _ _=>simp only [Rw.k,List.mem_cons,List.not_mem_nil,or_false] at hk; simp only [Rw.ok] at rk; omega
 | jn _ _ _ _=>simp only [Rw.k,List.mem_cons,List.not_mem_nil,or_false] at hk; simp only [Rw.ok] at rk; omega
 | mv _ _ _ _=>simp only [Rw.k,List.mem_cons,List.not_mem_nil,or_false] at hk; simp only [Rw.ok] at rk; omega
 | pick _ _ _ _=>simp only [Rw.k,List.mem_cons,List.not_mem_nil,or_false] at hk; simp only [Rw.ok] at rk; omega
 | mark _ _ _=>simp only [Rw.k,List.mem_cons,List.not_mem_nil,or_false] at hk; simp only [Rw.ok] at rk; omega
 | car k g cv a b =>
 obtain ⟨ok,og,oc,oa,ob⟩:=rk
 have L1000:(2000:Nat)≤sizeLine:=by decide
 have l5:=wd.ln
 have nxd:x ≠ d:=fun z=>by rw [z,hd'] at hx; cases hx
 have ndm:d ≠ m':=fun z=>by rw [z,hm] at hd'; cases hd'
 have wi:=wd.ints
 have k15:k < 15:=by omega
 obtain ⟨cl,na⟩:=T.clF k15
 have nk:nOf k = (["goal", "carry", "one", "other"]:List Str):=by rcases ok with rfl | rfl <;> rfl
 have hx0:H x = some (.ins (fOf c k) dx ((["goal", "carry", "one", "other"]:List Str).zip [.str g,oV cv,.str a,.str b])):=by rw [← nk]; exact hx
 rw [nk] at na
 have mr:=MR k hk0
 refine ⟨_,rfl,x,_,dx,_,_,_,rfl,hx0,rfl,mr,_,rfl,_,rfl,d,rfl,⟨_,hd'⟩,_,rfl,x,_,dx,_,_,rfl,hx0,cl,na _ (by simp),rfl,_,_,rfl,hd',wi,_,rfl,d,rfl,⟨_,hd'⟩,_,rfl,x,_,dx,_,_,rfl,hx0,cl,na _ (by simp),rfl,_,_,rfl,hd',wi,.ref x,w',_,_,rfl,w0,w1,fun t ht=>?_⟩
 obtain ⟨G1,e1,s1,f1⟩:=newO ht (.tup [.int (cr0 w' k (gI kvs a) (gI kvs b)),.int (cr1 w' k (gI kvs a) (gI kvs b))])
 rw [e1]
 have hx1:=s1 _ _ hx0
 have hd1:=s1 _ _ hd'
 refine ⟨_,rfl,t,_,_,_,rfl,rfl,SqT.of f1,rfl,_,rfl,_,rfl,x,_,dx,_,_,rfl,hx1,cl,na _ (by simp),rfl,d,_,rfl,DPut.k (k:=.inr g) hd1 (by omega),?_⟩
 have hx2:upd G1 d (.dK (putK kvs (.inr g) (.int (cr0 w' k (gI kvs a) (gI kvs b))))) x = some (.ins (fOf c k) dx ((["goal", "carry", "one", "other"]:List Str).zip [.str g,oV cv,.str a,.str b])):=by rw [upd_ne nxd]; exact hx1
 have l6:=length_putK kvs (.inr g) (.int (cr0 w' k (gI kvs a) (gI kvs b)))
 have ntd:t ≠ d:=fun z=>by rw [z,hd1] at f1; cases f1
 cases cv with
 | none =>
  refine ⟨_,rfl,x,_,dx,_,_,rfl,hx2,cl,na _ (by simp),rfl,rfl,_,rfl,iteF ?_⟩
  exact q _ (by rw [upd_same]; rfl) (by show upd _ d _ m' = _; rw [upd_ne (Ne.symm ndm)]; exact s1 _ _ hm) (fun b' o' n1 n2 e=>by rw [upd_ne n1]; exact s1 _ _ e)
 | some z =>
  refine ⟨_,rfl,x,_,dx,_,_,rfl,hx2,cl,na _ (by simp),rfl,rfl,_,rfl,iteT ?_⟩
  refine ⟨_,rfl,t,_,_,_,rfl,rfl,SqT.of (by rw [upd_ne ntd]; exact f1),rfl,_,rfl,_,rfl,x,_,dx,_,_,rfl,hx2,cl,na _ (by simp),rfl,d,_,rfl,DPut.k (k:=.inr z) upd_same (by omega),?_⟩
  exact q _ (by rw [upd_same]; rfl) (by show upd _ d _ m' = _; rw [upd_ne (Ne.symm ndm),upd_ne (Ne.symm ndm)]; exact s1 _ _ hm) (fun b' o' n1 n2 e=>by rw [upd_ne n1,upd_ne n1]; exact s1 _ _ e)
theorem ok_Joining_act {f:Addr} {fd:FuncData} (F:Fun K "act" "Joining.act" s_Joining_act f fd) (T:Txt K mg c)  (MR:∀ i ∈ [4,5,9,10,11,12],MHas P w K mg base 5 (fOf c i) "reckoned" ["self", "width", "a", "b"] (spJn i)):FnOk P w K mg base CX0 6 f fd ["self", "width", "words", "marks"] (spAct c [4,5,9,10,11,12]):=by
 refine F.ok sc_Joining_act (fun vs H Q E h=>?_) (fun cdv A outer s H vs Q E hr h=>?_)
 ·obtain ⟨x,d,m',w',r,kvs,ms,rfl,_⟩:=h
  rfl
 obtain ⟨x,d,m',w',r,kvs,ms,rfl,hk,⟨dx,hx,ln⟩,rk,w0,w1,hd',wd,hm,ml,q⟩:=h
 refine slE ⟨_,(pss_oneZ (slIn (ps_dput (hu_of hr) (pv 2) (pe_fld (pv 0) rfl) (pe_methP (k:=5) (pv 0) (hr.mono (by omega)) (pa_cons (pv 1) (pa_cons (pe_dgetI (hu_of hr) (pv 2) (pe_fld (pv 0) rfl) pe_int ⟨rfl,rfl,rfl,rfl⟩) (pa_cons (pe_dgetI (hu_of hr) (pv 2) (pe_fld (pv 0) rfl) pe_int ⟨rfl,rfl,rfl,rfl⟩) pa_nil)))) rfl))),?_⟩
 have hk0:=hk
 cases r with
 | set _ _=>simp only [Rw.k,List.mem_cons,List.not_mem_nil,or_false] at hk; simp only [Rw.ok] at rk; omega
 | copy _ _=>simp only [Rw.k,List.mem_cons,List.not_mem_nil,or_false] at hk; simp only [Rw.ok] at rk; omega
 | car _ _ _ _ _=>simp only [Rw.k,List.mem_cons,List.not_mem_nil,or_false] at hk; simp only [Rw.ok] at rk; omega
 | mv _ _ _ _=>simp only [Rw.k,List.mem_cons,List.not_mem_nil,or_false] at hk; simp only [Rw.ok] at rk; omega
 | pick _ _ _ _=>simp only [Rw.k,List.mem_cons,List.not_mem_nil,or_false] at hk; simp only [Rw.ok] at rk; omega
 | mark _ _ _=>simp only [Rw.k,List.mem_cons,List.not_mem_nil,or_false] at hk; simp only [Rw.ok] at rk; omega
 | jn k g a b =>
 obtain ⟨ok,og,oa,ob⟩:=rk
 have L1000:(2000:Nat)≤sizeLine:=by decide
 have l5:=wd.ln
 have nxd:x ≠ d:=fun z=>by rw [z,hd'] at hx; cases hx
 have ndm:d ≠ m':=fun z=>by rw [z,hm] at hd'; cases hd'
 have wi:=wd.ints
 have k15:k < 15:=by omega
 obtain ⟨cl,na⟩:=T.clF k15
 have nk:nOf k = (["goal", "one", "other"]:List Str):=by rcases ok with rfl | rfl | rfl | rfl | rfl | rfl <;> rfl
 have hx0:H x = some (.ins (fOf c k) dx ((["goal", "one", "other"]:List Str).zip [.str g,.str a,.str b])):=by rw [← nk]; exact hx
 rw [nk] at na
 obtain ⟨ga,a0,a1⟩:=wd.get a
 obtain ⟨gb,b0,b1⟩:=wd.get b
 have mr:=MR k hk0
 refine ⟨_,rfl,x,_,dx,_,_,_,rfl,hx0,rfl,mr,_,rfl,_,rfl,d,rfl,⟨_,hd'⟩,_,rfl,x,_,dx,_,_,rfl,hx0,cl,na _ (by simp),rfl,_,_,rfl,hd',wi,_,rfl,d,rfl,⟨_,hd'⟩,_,rfl,x,_,dx,_,_,rfl,hx0,cl,na _ (by simp),rfl,_,_,rfl,hd',wi,.ref x,w',_,_,rfl,w0,w1,a0,a1,b0,b1,?_⟩
 exact ⟨_,rfl,_,rfl,x,_,dx,_,_,rfl,hx0,cl,na _ (by simp),rfl,d,_,rfl,DPut.k (k:=.inr g) hd' (by omega),q _ (by rw [upd_same]; rfl) (by show upd _ d _ m' = _; rw [upd_ne (Ne.symm ndm)]; exact hm) (fun b' o' n1 n2 e=>by rw [upd_ne n1]; exact e)⟩
theorem ok_Moving_act {f:Addr} {fd:FuncData} (F:Fun K "act" "Moving.act" s_Moving_act f fd) (T:Txt K mg c)  (MR:∀ i ∈ [6,7,8],MHas P w K mg base 5 (fOf c i) "moved" ["self", "width", "a"] (spMv c i)):FnOk P w K mg base CX0 6 f fd ["self", "width", "words", "marks"] (spAct c [6,7,8]):=by
 refine F.ok sc_Moving_act (fun vs H Q E h=>?_) (fun cdv A outer s H vs Q E hr h=>?_)
 ·obtain ⟨x,d,m',w',r,kvs,ms,rfl,_⟩:=h
  rfl
 obtain ⟨x,d,m',w',r,kvs,ms,rfl,hk,⟨dx,hx,ln⟩,rk,w0,w1,hd',wd,hm,ml,q⟩:=h
 refine slE ⟨_,(pss_oneZ (slIn (ps_dput (hu_of hr) (pv 2) (pe_fld (pv 0) rfl) (pe_methP (k:=5) (pv 0) (hr.mono (by omega)) (pa_cons (pv 1) (pa_cons (pe_dgetI (hu_of hr) (pv 2) (pe_fld (pv 0) rfl) pe_int ⟨rfl,rfl,rfl,rfl⟩) pa_nil))) rfl))),?_⟩
 have hk0:=hk
 cases r with
 | set _ _=>simp only [Rw.k,List.mem_cons,List.not_mem_nil,or_false] at hk; simp only [Rw.ok] at rk; omega
 | copy _ _=>simp only [Rw.k,List.mem_cons,List.not_mem_nil,or_false] at hk; simp only [Rw.ok] at rk; omega
 | car _ _ _ _ _=>simp only [Rw.k,List.mem_cons,List.not_mem_nil,or_false] at hk; simp only [Rw.ok] at rk; omega
 | jn _ _ _ _=>simp only [Rw.k,List.mem_cons,List.not_mem_nil,or_false] at hk; simp only [Rw.ok] at rk; omega
 | pick _ _ _ _=>simp only [Rw.k,List.mem_cons,List.not_mem_nil,or_false] at hk; simp only [Rw.ok] at rk; omega
 | mark _ _ _=>simp only [Rw.k,List.mem_cons,List.not_mem_nil,or_false] at hk; simp only [Rw.ok] at rk; omega
 | mv k g a j =>
 obtain ⟨ok,og,oa,j0,j1⟩:=rk
 have L1000:(2000:Nat)≤sizeLine:=by decide
 have l5:=wd.ln
 have nxd:x ≠ d:=fun z=>by rw [z,hd'] at hx; cases hx
 have ndm:d ≠ m':=fun z=>by rw [z,hm] at hd'; cases hd'
 have wi:=wd.ints
 have k15:k < 15:=by omega
 obtain ⟨cl,na⟩:=T.clF k15
 have nk:nOf k = (["goal", "one", "k"]:List Str):=by rcases ok with rfl | rfl | rfl <;> rfl
 have hx0:H x = some (.ins (fOf c k) dx ((["goal", "one", "k"]:List Str).zip [.str g,.str a,.int j])):=by rw [← nk]; exact hx
 rw [nk] at na
 obtain ⟨ga,a0,a1⟩:=wd.get a
 have mr:=MR k hk0
 refine ⟨_,rfl,x,_,dx,_,_,_,rfl,hx0,rfl,mr,_,rfl,_,rfl,d,rfl,⟨_,hd'⟩,_,rfl,x,_,dx,_,_,rfl,hx0,cl,na _ (by simp),rfl,_,_,rfl,hd',wi,x,w',_,j,_,_,rfl,⟨dx,hx,ln⟩,w0,w1,a0,a1,j0,j1,?_⟩
 exact ⟨_,rfl,_,rfl,x,_,dx,_,_,rfl,hx0,cl,na _ (by simp),rfl,d,_,rfl,DPut.k (k:=.inr g) hd' (by omega),q _ (by rw [upd_same]; rfl) (by show upd _ d _ m' = _; rw [upd_ne (Ne.symm ndm)]; exact hm) (fun b' o' n1 n2 e=>by rw [upd_ne n1]; exact e)⟩
theorem ok_Pick_act {f:Addr} {fd:FuncData} (F:Fun K "act" "Pick.act" s_Pick_act f fd) (T:Txt K mg c) :FnOk P w K mg base CX0 1 f fd ["self", "width", "words", "marks"] (spAct c [13]):=by
 refine F.ok sc_Pick_act (fun vs H Q E h=>?_) (fun cdv A outer s H vs Q E hr h=>?_)
 ·obtain ⟨x,d,m',w',r,kvs,ms,rfl,_⟩:=h
  rfl
 obtain ⟨x,d,m',w',r,kvs,ms,rfl,hk,⟨dx,hx,ln⟩,rk,w0,w1,hd',wd,hm,ml,q⟩:=h
 refine slE ⟨_,(pss_oneZ (slIn (ps_dput (hu_of hr) (pv 2) (pe_fld (pv 0) rfl) (pe_dgetI (hu_of hr) (pv 2) (pe_ifExp (pt_cmpR op_ne (pe_dgetI (hu_of hr) (pv 2) (pe_fld (pv 0) rfl) pe_int ⟨rfl,rfl,rfl,rfl⟩) pe_int (nomark _)) (pe_fld (pv 0) rfl) (pe_fld (pv 0) rfl)) pe_int ⟨rfl,rfl,rfl,rfl⟩) rfl))),?_⟩
 have hk0:=hk
 cases r with
 | set _ _=>simp only [Rw.k,List.mem_cons,List.not_mem_nil,or_false] at hk; simp only [Rw.ok] at rk; omega
 | copy _ _=>simp only [Rw.k,List.mem_cons,List.not_mem_nil,or_false] at hk; simp only [Rw.ok] at rk; omega
 | car _ _ _ _ _=>simp only [Rw.k,List.mem_cons,List.not_mem_nil,or_false] at hk; simp only [Rw.ok] at rk; omega
 | jn _ _ _ _=>simp only [Rw.k,List.mem_cons,List.not_mem_nil,or_false] at hk; simp only [Rw.ok] at rk; omega
 | mv _ _ _ _=>simp only [Rw.k,List.mem_cons,List.not_mem_nil,or_false] at hk; simp only [Rw.ok] at rk; omega
 | mark _ _ _=>simp only [Rw.k,List.mem_cons,List.not_mem_nil,or_false] at hk; simp only [Rw.ok] at rk; omega
 | pick g y a b =>
 obtain ⟨og,oy,oa,ob⟩:=rk
 have L1000:(2000:Nat)≤sizeLine:=by decide
 have l5:=wd.ln
 have nxd:x ≠ d:=fun z=>by rw [z,hd'] at hx; cases hx
 have ndm:d ≠ m':=fun z=>by rw [z,hm] at hd'; cases hd'
 have wi:=wd.ints
 obtain ⟨cl,na⟩:=T.clF (k:=13) (by decide)
 refine ⟨_,rfl,d,rfl,⟨_,hd'⟩,_,rfl,d,rfl,⟨_,hd'⟩,_,rfl,x,_,dx,_,_,rfl,hx,cl,na _ (by simp [nOf]),rfl,_,_,rfl,hd',wi,rfl,_,rfl,?_⟩
 by_cases c0:gI kvs y = 0
 ·refine iteNS (congrArg V.int c0) ⟨_,rfl,x,_,dx,_,_,rfl,hx,cl,na _ (by simp [nOf]),rfl,_,_,rfl,hd',wi,_,rfl,_,rfl,x,_,dx,_,_,rfl,hx,cl,na _ (by simp [nOf]),rfl,d,_,rfl,DPut.k (k:=.inr g) hd' (by omega),?_⟩
  refine q _ (by rw [upd_same]; show _ = some (HO.dK (stK kvs g (gI kvs (if gI kvs y ≠ 0 then a else b)))); rw [if_neg (fun h=>h c0)]; rfl) (by show upd _ d _ m' = _; rw [upd_ne (Ne.symm ndm)]; exact hm) (fun b' o' n1 n2 e=>by rw [upd_ne n1]; exact e)
 ·refine iteN (fun z=>c0 (by injection z)) ⟨_,rfl,x,_,dx,_,_,rfl,hx,cl,na _ (by simp [nOf]),rfl,_,_,rfl,hd',wi,_,rfl,_,rfl,x,_,dx,_,_,rfl,hx,cl,na _ (by simp [nOf]),rfl,d,_,rfl,DPut.k (k:=.inr g) hd' (by omega),?_⟩
  refine q _ (by rw [upd_same]; show _ = some (HO.dK (stK kvs g (gI kvs (if gI kvs y ≠ 0 then a else b)))); rw [if_pos c0]; rfl) (by show upd _ d _ m' = _; rw [upd_ne (Ne.symm ndm)]; exact hm) (fun b' o' n1 n2 e=>by rw [upd_ne n1]; exact e)
theorem ok_Mark_act {f:Addr} {fd:FuncData} (F:Fun K "act" "Mark.act" s_Mark_act f fd) (T:Txt K mg c) :FnOk P w K mg base CX0 1 f fd ["self", "width", "words", "marks"] (spAct c [14]):=by
 refine F.ok sc_Mark_act (fun vs H Q E h=>?_) (fun cdv A outer s H vs Q E hr h=>?_)
 ·obtain ⟨x,d,m',w',r,kvs,ms,rfl,_⟩:=h
  rfl
 obtain ⟨x,d,m',w',r,kvs,ms,rfl,hk,⟨dx,hx,ln⟩,rk,w0,w1,hd',wd,hm,ml,q⟩:=h
 refine slE ⟨_,(pss_oneZ (ps_ifZ (pt_cmpR op_ne (pe_dgetI (hu_of hr) (pv 2) (pe_fld (pv 0) rfl) pe_int ⟨rfl,rfl,rfl,rfl⟩) pe_int (nomark _))
   (pss_oneZ (ps_exprZ (pe_bmZ PySem.F.plainAttrs_list PySem.F.slot_list_append PySem.F.type_list_append mt_append (pv 3) (pa_consZ (pe_tupZ (pa_consS (pe_fld (pv 0) rfl) (pa_consS (pe_fld (pv 0) rfl) pa_nilS))) pa_nilS))))
   pss_nilZ)),?_⟩
 have hk0:=hk
 cases r with
 | set _ _=>simp only [Rw.k,List.mem_cons,List.not_mem_nil,or_false] at hk; simp only [Rw.ok] at rk; omega
 | copy _ _=>simp only [Rw.k,List.mem_cons,List.not_mem_nil,or_false] at hk; simp only [Rw.ok] at rk; omega
 | car _ _ _ _ _=>simp only [Rw.k,List.mem_cons,List.not_mem_nil,or_false] at hk; simp only [Rw.ok] at rk; omega
 | jn _ _ _ _=>simp only [Rw.k,List.mem_cons,List.not_mem_nil,or_false] at hk; simp only [Rw.ok] at rk; omega
 | mv _ _ _ _=>simp only [Rw.k,List.mem_cons,List.not_mem_nil,or_false] at hk; simp only [Rw.ok] at rk; omega
 | pick _ _ _ _=>simp only [Rw.k,List.mem_cons,List.not_mem_nil,or_false] at hk; simp only [Rw.ok] at rk; omega
 | mark n m y =>
 obtain ⟨n0,n1,om,oy⟩:=rk
 have L1000:(2000:Nat)≤sizeLine:=by decide
 have l5:=wd.ln
 have nxd:x ≠ d:=fun z=>by rw [z,hd'] at hx; cases hx
 have ndm:d ≠ m':=fun z=>by rw [z,hm] at hd'; cases hd'
 have wi:=wd.ints
 obtain ⟨cl,na⟩:=T.clF (k:=14) (by decide)
 refine ⟨_,rfl,d,rfl,⟨_,hd'⟩,_,rfl,x,_,dx,_,_,rfl,hx,cl,na _ (by simp [nOf]),rfl,_,_,rfl,hd',wi,rfl,_,rfl,?_⟩
 by_cases c0:gI kvs y = 0
 ·refine iteNS (congrArg V.int c0) ?_
  exact q H hd' (by show Mk1 H m' ms (if gI kvs y ≠ 0 then _ else _); rw [if_neg (fun h=>h c0)]; exact hm) (fun b' o' n1 n2 e=>e)
 ·refine iteN (fun z=>c0 (by injection z)) ?_
  refine ⟨_,rfl,.inl ⟨rfl,_,SqL.of hm⟩,_,rfl,x,_,dx,_,_,rfl,hx,cl,na _ (by simp [nOf]),rfl,_,rfl,x,_,dx,_,_,rfl,hx,cl,na _ (by simp [nOf]),rfl,(by show 2≤sizeLine; decide),fun t ht=>?_⟩
  have s1:=same_new ht (.tup [.int n,.str m])
  have hm1:=s1 _ _ hm
  have ntm:t ≠ m':=fun z=>by rw [z,hm] at ht; cases ht
  refine ⟨m',_,_,rfl,rfl,hm1,(by omega),?_⟩
  refine q _ (by show upd _ m' _ d = _; rw [upd_ne ndm]; exact s1 _ _ hd') ?_ (fun b' o' n1 n2 e=>by rw [upd_ne n2]; exact s1 _ _ e)
  show Mk1 _ m' ms (if gI kvs y ≠ 0 then _ else _)
  rw [if_pos c0]
  exact ⟨t,upd_same,by rw [upd_ne ntm]; exact upd_same⟩
theorem nOf_no {k:Nat} {fs:List V} {m:Str} (hm:∀ k ∈ List.range 15,m ∉ nOf k) (h:k < 15):((nOf k).zip fs).lookup m = none:=by
 have e:∀ (ns:List Str) (fs:List V),m ∉ ns→(ns.zip fs).lookup m = none:=fun ns=>by
  induction ns with
  | nil=>intro fs _; rfl
  | cons a t ih =>
   intro fs hn
   cases fs with
   | nil=>rfl
   | cons b u =>
    show (match m == a with | true=>some b | false=>(t.zip u).lookup m) = none
    rw [show (m == a) = false from beq_eq_false_iff_ne.mpr fun z=>hn (by rw [z]; exact List.mem_cons_self ..)]
    exact ih u fun z=>hn (List.mem_cons_of_mem _ z)
 exact e _ _ (hm k (List.mem_range.mpr h))
theorem Txt.kitS {K:PySem.W.Frag} {mg:Str→Option Value} {c:Ad} (T:Txt K mg c) {k:Nat} (h:k < 15):PySem.W.kitOne K (.ref (fOf c k)) (.ref c.Step) = some true:=kit_of T.st.1 T.st.2 (T.kd (k:=k) (by omega)).2.2.1
theorem Txt.kitT {K:PySem.W.Frag} {mg:Str→Option Value} {c:Ad} (T:Txt K mg c) {k:Nat} (h:k < 15):PySem.W.kitOne K (.ref (fOf c k)) (.ref c.Turns) = some false:=by
 have:=T.kit (k:=k) (i:=15) (by omega) (by decide)
 rw [decide_eq_false (by omega)] at this
 exact this
theorem ok_is_good {f:Addr} {fd:FuncData} (F:Fun K "is_good" "is_good" s_is_good f fd) (T:Txt K mg c)  (MG:∀ k,k < 15→MHas P w K mg base 4 (fOf c k) "good_at" ["self", "width"] (spGood c [k])):FnOk P w K mg base CX0 5 f fd ["width", "thing", "about"] (spGoodR c):=by
 refine F.ok sc_is_good (fun vs H Q E h=>?_) (fun cdv A outer s H vs Q E hr h=>?_)
 ·obtain ⟨x,w',n,r,rfl,_⟩:=h
  rfl
 obtain ⟨x,w',n,r,rfl,⟨dx,hx,ln⟩,rk,w0,w1,q⟩:=h
 refine ⟨_,(pss_cons (ps_if (PW.pt (pw_or (pt_not (pt_val (pe_callB call_isinst rfl T.n_isinstance boot_isinstance (pa_cons (pv 1) (pa_cons (pe_cls rfl T.g_Step) pa_nil))))) (pw_or1 (pt_not (pt_val (pe_methP (k:=4) (pv 1) (hr.mono (by omega)) (pa_cons (pv 0) pa_nil)))))))
   (pss_one (ps_ret pe_bl))
   pss_nil)
  (pss_one (ps_ret (pe_or (pe_not (pe_callB call_isinst rfl T.n_isinstance boot_isinstance (pa_cons (pv 1) (pa_cons (pe_cls rfl T.g_Turns) pa_nil)))) (pe_one pe_dead))))),?_⟩
 have k15:=Rw.k15 rk
 refine ⟨_,rfl,_,_,_,_,_,rfl,rfl,T.ty k15 hx,T.kitS k15,_,rfl,iteF ?_⟩
 refine ⟨_,rfl,x,_,dx,_,_,_,rfl,hx,nOf_no (by decide +kernel) k15,MG _ k15,_,rfl,x,w',r,rfl,List.mem_singleton.mpr rfl,⟨dx,hx,ln⟩,rk,w0,w1,fun H2 s2=>⟨_,rfl,iteF ?_⟩⟩
 exact ⟨_,rfl,_,_,_,_,_,rfl,rfl,T.ty k15 (s2 _ _ hx),T.kitT k15,_,rfl,_,rfl,iteT (q H2 s2)⟩
theorem RowsOf.same {c:Ad} {H H':Hp} {xs:List V} {rs:List Rw} (h:RowsOf c H xs rs) (s:Same H H'):RowsOf c H' xs rs:=⟨h.1,fun i x r e1 e2=>let ⟨a,e,t⟩:=h.2 i x r e1 e2; ⟨a,e,t.same s⟩⟩
theorem ok_place_behind {f:Addr} {fd:FuncData} (F:Fun K "place_behind" "place_behind" s_place_behind f fd) (T:Txt K mg c) (H_is_good:Has P w K mg base 5 "is_good" ["width", "thing", "about"] (spGoodR c)):FnOk P w K mg base CX0 6 f fd ["width", "steps", "place", "about"] (spPlace c):=by
 refine F.ok sc_place_behind (fun vs H Q E h=>?_) (fun cdv A outer s H vs Q E hr h=>?_)
 ·obtain ⟨l,w',p,n,xs,rs,rfl,_⟩:=h
  rfl
 obtain ⟨l,w',p,n,xs,rs,rfl,hl,ra,rk,w0,w1,q⟩:=h
 refine ⟨_,(pss_cons (ps_for PassesOwn.never rfl (pi_list (pv 1)) (pg_name (i:=4) sc_place_behind.nd rfl (Or.inl rfl))
   (pss_cons (ps_if (pt_not (pt_val (pe_fn H_is_good (hr.mono (by omega)) rfl (pa_cons (pv 0) (pa_cons (pv 4) (pa_cons (pv 3) pa_nil))))))
    (pss_one ps_never)
    pss_nil)
   (pss_cons (ps_set (i:=2) sc_place_behind.nd rfl (Or.inl rfl) (pe_op op_add (pv 2) pe_int))
   (pss_one (ps_if (pt_val (pe_callB call_isinst rfl T.n_isinstance boot_isinstance (pa_cons (pv 4) (pa_cons (pe_cls rfl T.g_Turns) pa_nil))))
    pss_never
    pss_nil)))))
  (pss_one (ps_ret (pv 2)))),?_⟩
 refine ⟨_,rfl,l,rfl,⟨_,SqL.of hl⟩,for_list (xs:=xs) (fun j σ H2=>∃ y:Option V,σ = [some (.int w'),some (.ref l),some (.int (p + j)),some n,y]∧Same H H2) ⟨_,by rw [show p + ((0:Nat):Int) = p by omega]; rfl,Same.refl _⟩ ?_ ?_ ?_⟩
 ·rintro j σ H2 hj ⟨y,rfl,s2⟩
  exact SqL.of (s2 _ _ hl)
 ·rintro j v σ H2 hv ⟨y,rfl,s2⟩
  have jl:=(List.getElem?_eq_some_iff.mp hv).1
  have er:rs[j]? = some (rs[j]'(by rw [← ra.1]; exact jl)):=List.getElem?_eq_getElem _
  obtain ⟨a,rfl,sa⟩:=ra.2 j v _ hv er
  generalize rs[j]'(by rw [← ra.1]; exact jl) = r at sa er
  have rok:=rk r (List.mem_of_getElem? er)
  have k15:=Rw.k15 rok
  refine ⟨_,rfl,_,rfl,_,rfl,a,w',n,r,rfl,sa.same s2,rok,w0,w1,fun H3 s3=>⟨_,rfl,iteF ?_⟩⟩
  obtain ⟨dx,hx,_⟩:=sa.same (s2.trans s3)
  refine ⟨_,rfl,_,_,rfl,rfl,?_⟩
  refine ⟨_,rfl,_,_,_,_,_,rfl,rfl,T.ty k15 hx,T.kitT k15,_,rfl,iteF ?_⟩
  exact ⟨some (.ref a),(by show [some (V.int w'),some (V.ref l),some (V.int (p + (j:Int) + 1)),some n,some (V.ref a)] = _; rw [show p + (j:Int) + 1 = p + ((j + 1:Nat):Int) by omega]),s2.trans s3⟩
 ·rintro σ H2 ⟨y,rfl,s2⟩
  rw [ra.1]
  exact ⟨_,rfl,q H2 s2⟩
theorem cnt_val {cf:Nat→Int} {k:Nat} (h:k < 16):valV (cntK cf) (.inr (wOf k)) = some (.int (cf k)):=by
 unfold cntK
 have e:∀ (l:List Nat),(∀ i ∈ l,i < 16)→k ∈ l→valV (l.map fun i=>((Sum.inr (wOf i),V.int (cf i)):Key × V)) (.inr (wOf k)) = some (.int (cf k)):=fun l=>by
  induction l with
  | nil=>intro _ m; cases m
  | cons a t ih =>
   intro hl m
   by_cases c:a = k
   ·subst c
    exact valV_pos rfl
   ·rw [List.map_cons,valV_neg (fun z=>c (wInj (hl a (List.mem_cons_self ..)) h (by injection z with z; rw [z])))]
    exact ih (fun i hi=>hl i (List.mem_cons_of_mem _ hi)) ((List.mem_cons.mp m).resolve_left (fun z=>c z.symm))
 exact e _ (fun i hi=>List.mem_range.mp hi) (List.mem_range.mpr h)
theorem cnt_put {cf:Nat→Int} {k:Nat} {m:Int} (h:k < 16):putK (cntK cf) (.inr (wOf k)) (.int (cf k + m)) = cntK (cAdd cf k m):=by
 unfold putK
 rw [valV_any,cnt_val h]
 show (cntK cf).map (fun kv=>if kv.1 = Sum.inr (wOf k) then (kv.1,V.int (cf k + m)) else kv) = _
 unfold cntK
 rw [List.map_map]
 refine List.map_congr_left fun i hi=>?_
 have hi:=List.mem_range.mp hi
 show (if (Sum.inr (wOf i):Key) = Sum.inr (wOf k) then ((Sum.inr (wOf i):Key),V.int (cf k + m)) else (Sum.inr (wOf i),V.int (cf i))) = (Sum.inr (wOf i),V.int (cAdd cf k m i))
 unfold cAdd
 by_cases c:i = k
 ·subst c
  rw [if_pos rfl,if_pos rfl]
 ·rw [if_neg c,if_neg (fun z=>c (wInj hi h (by injection z with z; rw [z])))]
theorem cnt_len (cf:Nat→Int):(cntK cf).length = 16:=by unfold cntK; rw [List.length_map,List.length_range]
theorem wOf_ok {k:Nat} (h:k < 15):k < 16:=by omega
theorem ok_count_words {f:Addr} {fd:FuncData} (F:Fun K "count_words" "count_words" s_count_words f fd) (T:Txt K mg c)  (MW:∀ k,k < 15→MHas P w K mg base 1 (fOf c k) "word" ["self"] (spWd (wOf k))):FnOk P w K mg base CX0 2 f fd ["steps", "times", "counts"] (spCount c):=by
 refine F.ok sc_count_words (fun vs H Q E h=>?_) (fun cdv A outer s H vs Q E hr h=>?_)
 ·obtain ⟨l,d,m,xs,rs,cf,rfl,_⟩:=h
  rfl
 obtain ⟨l,d,m,xs,rs,cf,rfl,hl,ra,rk,hd,q⟩:=h
 refine ⟨_,(pss_one (ps_for PassesOwn.never rfl (pi_list (pv 0)) (pg_name (i:=3) sc_count_words.nd rfl (Or.inl rfl))
   (pss_cons (ps_set (i:=4) sc_count_words.nd rfl (Or.inl rfl) (pe_ifExp (pt_val (pe_callB call_isinst rfl T.n_isinstance boot_isinstance (pa_cons (pv 3) (pa_cons (pe_cls rfl T.g_Turns) pa_nil)))) pe_dead (pv 1)))
   (pss_cons (ps_dput (hu_of hr) (pv 2) (pe_methP0 (k:=1) (pv 3) (hr.mono (by omega))) (pe_op op_add (pe_dget (hu_of hr) (pv 2) (pe_methP0 (k:=1) (pv 3) (hr.mono (by omega))) (fun _ _=>rfl)) (pv 4)) rfl)
   (pss_one (ps_if (pt_val (pe_callB call_isinst rfl T.n_isinstance boot_isinstance (pa_cons (pv 3) (pa_cons (pe_cls rfl T.g_Turns) pa_nil))))
    pss_never
    pss_nil)))))),?_⟩
 have nld:l ≠ d:=fun z=>by rw [z,hd] at hl; cases hl
 have L1000:(1000:Nat)≤sizeLine:=by decide
 refine ⟨_,rfl,l,rfl,⟨_,SqL.of hl⟩,for_list (xs:=xs) (fun j σ H2=>∃ y z:Option V,σ = [some (.ref l),some (.int m),some (.ref d),y,z]∧H2 d = some (.dK (cntK (cRows cf m (rs.take j))))∧SameX d H H2) ⟨_,_,rfl,hd,SameX.refl _ _⟩ ?_ ?_ ?_⟩
 ·rintro j σ H2 hj ⟨y,z,rfl,h2,s2⟩
  exact SqL.of (s2 _ _ nld hl)
 ·rintro j v σ H2 hv ⟨y,z,rfl,h2,s2⟩
  have jl:=(List.getElem?_eq_some_iff.mp hv).1
  have er:rs[j]? = some (rs[j]'(by rw [← ra.1]; exact jl)):=List.getElem?_eq_getElem _
  obtain ⟨a,rfl,sa⟩:=ra.2 j v _ hv er
  generalize rs[j]'(by rw [← ra.1]; exact jl) = r at sa er
  have k15:=rk r (List.mem_of_getElem? er)
  have tk:cRows cf m (rs.take (j + 1)) = cAdd (cRows cf m (rs.take j)) r.k m:=by
   unfold cRows
   rw [List.take_add_one,er,Option.toList_some,List.foldl_append]
   rfl
  generalize cRows cf m (rs.take j) = cg at h2 tk
  obtain ⟨dx,hx,ln⟩:=sa
  have nad:a ≠ d:=fun z=>by rw [z,hd] at hx; cases hx
  have hx2:=s2 _ _ nad hx
  refine ⟨_,rfl,_,_,_,_,_,rfl,rfl,T.ty k15 hx2,T.kitT k15,_,rfl,iteF ⟨_,rfl,?_⟩⟩
  have W:∀ {G:Hp} {Q':VK},G a = some (.ins (fOf c r.k) dx ((nOf r.k).zip r.fs))→Q' (.str (wOf r.k)) G→True:=fun _ _=>trivial
  refine ⟨_,rfl,_,rfl,a,_,dx,_,_,_,rfl,hx2,nOf_no (by decide +kernel) k15,MW _ k15,a,rfl,d,_,rfl,.inl ⟨_,.inr (wOf r.k),.inl h2,rfl,(cnt_val (wOf_ok k15)).symm⟩,?_⟩
  refine ⟨_,rfl,_,_,rfl,rfl,_,rfl,_,rfl,a,_,dx,_,_,_,rfl,hx2,nOf_no (by decide +kernel) k15,MW _ k15,a,rfl,d,_,rfl,DPut.k (k:=.inr (wOf r.k)) h2 (by rw [cnt_len]; omega),?_⟩
  rw [cnt_put (wOf_ok k15),← tk]
  have h2':upd H2 d (.dK (cntK (cRows cf m (rs.take (j + 1))))) d = _:=upd_same
  refine ⟨_,rfl,_,_,_,_,_,rfl,rfl,T.ty k15 (by rw [upd_ne nad]; exact hx2),T.kitT k15,_,rfl,iteF ?_⟩
  exact ⟨_,_,rfl,upd_same,fun b o n e=>by rw [upd_ne n]; exact s2 _ _ n e⟩
 ·rintro σ H2 ⟨y,z,rfl,h2,s2⟩
  rw [ra.1,List.take_length] at h2
  exact q H2 h2 s2
theorem sum16 (cf:Nat→Int):((List.range 16).map cf).sum = cf 0 + (cf 1 + (cf 2 + (cf 3 + (cf 4 + (cf 5 + (cf 6 + (cf 7 + (cf 8 + (cf 9 + (cf 10 + (cf 11 + (cf 12 + (cf 13 + (cf 14 + (cf 15 + 0))))))))))))))):=rfl
theorem sum_add (cf:Nat→Int) {k:Nat} (m:Int) (h:k < 16):((List.range 16).map (cAdd cf k m)).sum = ((List.range 16).map cf).sum + m:=by
 rw [sum16,sum16]
 unfold cAdd
 rcases (by omega:k = 0∨k = 1∨k = 2∨k = 3∨k = 4∨k = 5∨k = 6∨k = 7∨k = 8∨k = 9∨k = 10∨k = 11∨k = 12∨k = 13∨k = 14∨k = 15) with rfl | rfl | rfl | rfl | rfl | rfl | rfl | rfl | rfl | rfl | rfl | rfl | rfl | rfl | rfl | rfl <;> simp <;> omega
theorem sum_rows (m:Int):∀ (rs:List Rw) (cf:Nat→Int),(∀ r ∈ rs,r.k < 16)→((List.range 16).map (cRows cf m rs)).sum = ((List.range 16).map cf).sum + m * rs.length:=by
 intro rs
 induction rs with
 | nil=>intro cf _; show _ = _ + m * 0; rw [Int.mul_zero,Int.add_zero]; rfl
 | cons r t ih =>
  intro cf h
  show ((List.range 16).map (cRows (cAdd cf r.k m) m t)).sum = _
  rw [ih _ (fun q hq=>h q (List.mem_cons_of_mem _ hq)),sum_add cf m (h r (List.mem_cons_self ..)),List.length_cons]
  push_cast
  rw [Int.mul_add,Int.mul_one]
  omega
theorem cnt_ints (cf:Nat→Int):(cntK cf).map (·.2) = ((List.range 16).map cf).map V.int:=by
 unfold cntK
 rw [List.map_map,List.map_map]
 rfl
theorem take_cnt {j:Nat} (h:j < 16):putK ((cntK fun _=>0).take j) (.inr (wOf j)) (.int 0) = (cntK fun _=>0).take (j + 1):=by
 rw [putK_new]
 ·rw [List.take_add_one]
  unfold cntK
  rw [List.getElem?_map,List.getElem?_range h]
  rfl
 ·cases e:valV ((cntK fun _=>0).take j) (.inr (wOf j)) with
  | none=>rfl
  | some v =>
   have m:=valV_mem e
   obtain ⟨i,hi⟩:=List.mem_iff_getElem?.mp m
   rw [List.getElem?_take] at hi
   split at hi
   ·rename_i c
    unfold cntK at hi
    rw [List.getElem?_map,List.getElem?_range (by omega)] at hi
    have hi:(some (Sum.inr (wOf i),V.int 0):Option (Key × V)) = some (Sum.inr (wOf j),v):=hi
    injection hi with hi
    have h1:=congrArg Prod.fst hi
    have:=wInj (show i < 16 by omega) h (by injection h1 with h1; rw [h1])
    omega
   ·cases hi
theorem rw_at {j:Nat} {v:V} (h:(rw16.map V.str)[j]? = some v):v = .str (wOf j)∧j < 16:=by
 have hj:j < 16:=(List.getElem?_eq_some_iff.mp h).1
 have a:∀ i ∈ List.range 16,rw16[i]? = some (wOf i):=by decide +kernel
 rw [List.getElem?_map,a j (List.mem_range.mpr hj)] at h
 cases h
 exact ⟨rfl,hj⟩
theorem ok_need_steps {f:Addr} {fd:FuncData} (F:Fun K "need_steps" "need_steps" s_need_steps f fd) (T:Txt K mg c) (H_need_width:Has P w K mg base 3 "need_width" ["width"] spNeedW) (H_place_behind:Has P w K mg base 6 "place_behind" ["width", "steps", "place", "about"] (spPlace c)) (H_row_words:Has P w K mg base 1 "row_words" [] spRW) (H_count_words:Has P w K mg base 2 "count_words" ["steps", "times", "counts"] (spCount c)):FnOk P w K mg base CX0 7 f fd ["width", "steps"] (spNeedS c):=by
 refine F.ok sc_need_steps (fun vs H Q E h=>?_) (fun cdv A outer s H vs Q E hr h=>?_)
 ·obtain ⟨l,w',xs,rs,rfl,_⟩:=h
  rfl
 obtain ⟨l,w',xs,rs,rfl,hl,ra,rk,ln,w0,w1,q⟩:=h
 refine ⟨_,(pss_cons (ps_expr (pe_fn H_need_width (hr.mono (by omega)) rfl (pa_cons (pv 0) pa_nil)))
  (pss_cons (ps_if (pt_not (pt_val (pe_callB call_isinst rfl T.n_isinstance boot_isinstance (pa_cons (pv 1) (pa_cons (pe_ty rfl T.n_list boot_list) pa_nil)))))
   (pss_one ps_never)
   pss_nil)
  (pss_cons (ps_expr (pe_fn H_place_behind (hr.mono (by omega)) rfl (pa_cons (pv 0) (pa_cons (pv 1) (pa_cons pe_int (pa_cons pe_int pa_nil))))))
  (pss_cons (ps_set (i:=2) sc_need_steps.nd rfl (Or.inl rfl) pe_dnewK)
  (pss_cons (ps_for PassesOwn.never rfl (pi_list (pe_fn0 H_row_words (hr.mono (by omega)) rfl)) (pg_name (i:=3) sc_need_steps.nd rfl (Or.inl rfl))
   (pss_one (ps_dput (hu_of hr) (pv 2) (pv 3) pe_int rfl)))
  (pss_cons (ps_expr (pe_fn H_count_words (hr.mono (by omega)) rfl (pa_cons (pv 1) (pa_cons pe_int (pa_cons (pv 2) pa_nil)))))
  (pss_cons (ps_if (pt_cmpR op_gt (pe_callB (call_sumV rfl) rfl T.n_sum boot_sum (pa_cons (pe_bm0 PySem.F.plainAttrs_dict PySem.F.slot_dict_values PySem.F.type_dict_values mt_values (pv 2)) pa_nil)) (pe_globI rfl T.g_MOST_DONE) (nomark _))
   (pss_one ps_never)
   pss_nil)
  (pss_one (ps_ret (pv 2)))))))))),?_⟩
 have L1000:(1000:Nat)≤sizeLine:=by decide
 refine ⟨_,rfl,w',rfl,w0,w1,?_⟩
 refine ⟨_,rfl,_,_,_,_,_,rfl,rfl,TyOf.lst hl,rfl,_,rfl,iteF ?_⟩
 refine ⟨_,rfl,_,rfl,l,w',0,_,xs,rs,rfl,hl,ra,rk,w0,w1,fun H1 s1=>?_⟩
 intro d hd
 have s2:=same_new hd (.dK [])
 refine ⟨rfl,fun lw hw=>?_⟩
 have g1:upd H1 d (.dK []) d = some (.dK ((cntK fun _=>0).take 0)):=upd_same
 have s3:=same_new hw (.lst (rw16.map V.str))
 refine ⟨lw,rfl,⟨_,SqL.of upd_same⟩,for_list (xs:=rw16.map V.str) (fun j σ H2=>∃ y:Option V,σ = [some (.int w'),some (.ref l),some (.ref d),y]∧H2 d = some (.dK ((cntK fun _=>0).take j))∧H2 lw = some (.lst (rw16.map V.str))∧Same H H2) ⟨_,rfl,s3 _ _ g1,upd_same,s1.trans (s2.trans s3)⟩ ?_ ?_ ?_⟩
 ·rintro j σ H2 hj ⟨y,rfl,h2,hw2,ss⟩
  exact SqL.of hw2
 ·rintro j v σ H2 hv ⟨y,rfl,h2,hw2,ss⟩
  obtain ⟨rfl,j16⟩:=rw_at hv
  have ndl:lw ≠ d:=fun z=>by rw [z,h2] at hw2; cases hw2
  refine ⟨_,rfl,_,rfl,d,_,rfl,DPut.k (k:=.inr (wOf j)) h2 (by rw [List.length_take,cnt_len]; omega),?_⟩
  rw [take_cnt j16]
  exact ⟨_,rfl,upd_same,by rw [upd_ne ndl]; exact hw2,Same.updL ss (Same.none s1 hd)⟩
 ·rintro σ H2 ⟨y,rfl,h2,hw2,ss⟩
  have h2:H2 d = some (.dK (cntK fun _=>0)):=by
   rw [h2,show (rw16.map V.str).length = 16 from rfl,List.take_of_length_le (by rw [cnt_len]; exact Nat.le_refl _)]
  refine ⟨_,rfl,_,rfl,l,d,1,xs,rs,_,rfl,ss _ _ hl,ra.same ss,(fun r hr'=>Rw.k15 (rk r hr')),h2,fun H3 h3 s3'=>?_⟩
  have sm:=sum_rows 1 rs (fun _=>0) (fun r hr'=>by have:=Rw.k15 (rk r hr'); omega)
  have fd:H d = none:=Same.none s1 hd
  have SS:Same H H3:=fun b o e=>s3' _ _ (ne_of_none e fd) (ss _ _ e)
  refine ⟨_,rfl,.inr (.inr (.inl ⟨rfl,.inl ⟨_,h3⟩⟩)),d,_,rfl,rfl,h3,fun rv hrv=>?_⟩
  have s4:=same_new hrv (vwV rv d)
  refine ⟨rv,d,_,_,rfl,upd_same,s4 _ _ h3,cnt_ints _,_,_,rfl,rfl,_,rfl,iteDN ?_ ?_⟩
  ·rw [sm,sum16]
   omega
  ·exact ⟨_,rfl,q d _ fd (s4 _ _ h3) (SS.trans s4)⟩
theorem ok_check_steps {f:Addr} {fd:FuncData} (F:Fun K "check_steps" "check_steps" s_check_steps f fd) (T:Txt K mg c) (H_need_steps:Has P w K mg base 7 "need_steps" ["width", "steps"] (spNeedS c)):FnOk P w K mg base CX0 8 f fd ["width", "steps"] (spCheck c):=by
 refine F.ok sc_check_steps (fun vs H Q E h=>?_) (fun cdv A outer s H vs Q E hr h=>?_)
 ·obtain ⟨l,w',xs,rs,rfl,_⟩:=h
  rfl
 obtain ⟨l,w',xs,rs,rfl,hl,ra,rk,ln,w0,w1,q⟩:=h
 refine ⟨_,(pss_one (ps_ret (pe_callB (call_sumV rfl) rfl T.n_sum boot_sum (pa_cons (pe_bm0 PySem.F.plainAttrs_dict PySem.F.slot_dict_values PySem.F.type_dict_values mt_values (pe_fn H_need_steps (hr.mono (by omega)) rfl (pa_cons (pv 0) (pa_cons (pv 1) pa_nil)))) pa_nil)))),?_⟩
 refine ⟨_,rfl,_,rfl,l,w',xs,rs,rfl,hl,ra,rk,ln,w0,w1,fun d H1 hd h1 s1=>?_⟩
 refine ⟨.inr (.inr (.inl ⟨rfl,.inl ⟨_,h1⟩⟩)),d,_,rfl,rfl,h1,fun rv hrv=>?_⟩
 have s4:=same_new hrv (vwV rv d)
 refine ⟨rv,d,_,_,rfl,upd_same,s4 _ _ h1,cnt_ints _,?_⟩
 have sm:=sum_rows 1 rs (fun _=>0) (fun r hr'=>by have:=Rw.k15 (rk r hr'); omega)
 rw [sm,sum16,show (0:Int) + (0 + (0 + (0 + (0 + (0 + (0 + (0 + (0 + (0 + (0 + (0 + (0 + (0 + (0 + (0 + 0))))))))))))))) + 1 * (rs.length:Int) = rs.length by omega]
 exact q _ (s1.trans s4)
theorem ok_need_registers {f:Addr} {fd:FuncData} (F:Fun K "need_registers" "need_registers" s_need_registers f fd) (T:Txt K mg c) (H_is_register:Has P w K mg base 1 "is_register" ["thing"] spReg) (H_is_word:Has P w K mg base 3 "is_word" ["width", "thing"] spIsWord):FnOk P w K mg base CX0 4 f fd ["width", "registers"] spNeedR:=by
 refine F.ok sc_need_registers (fun vs H Q E h=>?_) (fun cdv A outer s H vs Q E hr h=>?_)
 ·obtain ⟨d,w',kvs,rfl,_⟩:=h
  rfl
 obtain ⟨d,w',kvs,rfl,hd,wd,w0,w1,q⟩:=h
 refine ⟨_,(pss_cons (ps_thaw (ps_for PassesOwn.never rfl (pi_dict (pv 1)) (pg_name (i:=2) sc_need_registers.nd rfl (Or.inl rfl))
   (pss_one (ps_if (pt_not (pt_val (pe_callB call_isinst rfl T.n_isinstance boot_isinstance (pa_cons (pv 2) (pa_cons (pe_ty rfl T.n_str boot_str) pa_nil)))))
    (pss_one ps_never)
    pss_nil))))
  (pss_one (ps_for PassesOwn.never rfl (pi_list (pe_callB (call_sortedD rfl) rfl T.n_sorted boot_sorted (pa_cons (pv 1) pa_nil))) (pg_name (i:=3) sc_need_registers.nd rfl (Or.inl rfl))
   (pss_one (ps_if (PW.pt (pw_or (pt_not (pt_val (pe_fn H_is_register (hr.mono (by omega)) rfl (pa_cons (pv 3) pa_nil)))) (pw_or1 (pt_not (pt_val (pe_fn H_is_word (hr.mono (by omega)) rfl (pa_cons (pv 0) (pa_cons (pe_dget (hu_of hr) (pv 1) (pv 3) (fun _ _=>rfl)) pa_nil))))))))
    (pss_one ps_never)
    pss_nil))))),?_⟩
 have L1000:(1000:Nat)≤sizeLine:=by decide
 have l5:=wd.ln
 refine ⟨_,rfl,d,kvs,rfl,hd,fun o=>?_⟩
 refine for_dict (kvs:=kvs) (o:=o) (a:=d) (fun j σ H2=>∃ y z:Option V,σ = [some (.int w'),some (.ref d),y,z]∧H2 = upd H d (.frz o (.dK kvs))) ⟨_,_,rfl,rfl⟩ ?_ ?_ ?_
 ·rintro j σ H2 hj ⟨y,z,rfl,rfl⟩
  exact upd_same
 ·rintro j kv σ H2 hkv ⟨y,z,rfl,rfl⟩
  obtain ⟨zz,i,rfl,_⟩:=wd.it kv (List.mem_of_getElem? hkv)
  exact ⟨_,rfl,_,_,_,_,_,rfl,rfl,TyOf.str _,kit_str_str _,_,rfl,iteF ⟨_,_,rfl,rfl⟩⟩
 ·rintro σ H2 ⟨y,z,rfl,rfl⟩
  refine ⟨d,o,kvs,upd_same,(fun o' u e=>nomatch hd.symm.trans e),?_⟩
  have e0:upd (upd H d (.frz o (.dK kvs))) d (.dK kvs) = H:=by
   funext b
   by_cases cb:b = d
   ·rw [cb,upd_same,hd]
   ·rw [upd_ne cb,upd_ne cb]
  rw [e0]
  have kz:kvs.map (·.1) = (kvs.map fun kv=>match kv.1 with | .inr z=>z | .inl _=>"").map Sum.inr:=by
   rw [List.map_map]
   refine List.map_congr_left fun kv hkv=>?_
   obtain ⟨zz,i,rfl,_⟩:=wd.it kv hkv
   rfl
  refine ⟨_,rfl,d,kvs,_,rfl,hd,kz,by rw [List.length_map]; omega,fun l ws hl pm=>?_⟩
  have s1:=same_new hl (.lst (ws.map V.str))
  have mem:∀ z ∈ ws,∃ i:Int,valV kvs (.inr z) = some (.int i)∧Rg z∧0≤i∧i < 2 ^ w'.toNat:=fun z hz=>by
   have h1:=pm.mem_iff.mp hz
   obtain ⟨kv,hkv,e⟩:=List.mem_map.mp h1
   obtain ⟨zz,i,rfl,_⟩:=wd.it kv hkv
   obtain rfl:zz = z:=e
   cases ev:valV kvs (.inr zz) with
   | none=>exact absurd (List.mem_map_of_mem (f:=Prod.fst) hkv) (valV_not ev)
   | some v =>
    obtain ⟨z2,i2,e2,r2,a2,b2⟩:=wd.it _ (valV_mem ev)
    cases e2
    exact ⟨i2,rfl,r2,a2,b2⟩
  refine ⟨l,rfl,⟨_,SqL.of upd_same⟩,for_list (xs:=ws.map V.str) (fun j σ H2=>∃ y z:Option V,σ = [some (.int w'),some (.ref d),y,z]∧H2 l = some (.lst (ws.map V.str))∧Same H H2) ⟨_,_,rfl,upd_same,s1⟩ ?_ ?_ ?_⟩
  ·rintro j σ H2 hj ⟨y,z,rfl,h2,s2⟩
   exact SqL.of h2
  ·rintro j v σ H2 hv ⟨y,z,rfl,h2,s2⟩
   rw [List.getElem?_map] at hv
   cases ez:ws[j]? with
   | none=>rw [ez] at hv; cases hv
   | some zz =>
    rw [ez] at hv
    cases hv
    obtain ⟨i,ev,rz,i0,i1⟩:=mem zz (List.mem_of_getElem? ez)
    refine ⟨_,rfl,nil_ <| reg_in rz fun H3 s3=>⟨_,rfl,iteF ?_⟩⟩
    refine ⟨_,rfl,_,rfl,_,rfl,d,.int i,rfl,.inl ⟨kvs,.inr zz,.inl (s3 _ _ (s2 _ _ hd)),rfl,ev.symm⟩,w',i,rfl,w0,w1,i0,i1,_,rfl,iteF ?_⟩
    exact ⟨_,_,rfl,s3 _ _ h2,s2.trans s3⟩
  ·rintro σ H2 ⟨y,z,rfl,h2,s2⟩
   exact q H2 s2
def PrsAt (H:Hp) (xs:List V) (ps:List (V × V)):Prop:=xs.length = ps.length∧∀ (j:Nat) x p,xs[j]? = some x→ps[j]? = some p→∃ a,x = .ref a∧H a = some (.tup [p.1,p.2])
theorem PrsAt.same {H H':Hp} {xs:List V} {ps:List (V × V)} (h:PrsAt H xs ps) (s:∀ a xs,H a = some (.tup xs)→H' a = some (.tup xs)):PrsAt H' xs ps:=⟨h.1,fun j x p e1 e2=>let ⟨a,e,t⟩:=h.2 j x p e1 e2; ⟨a,e,s _ _ t⟩⟩
theorem PrsAt.nil {H:Hp}:PrsAt H [] []:=⟨rfl,fun j x p e=>by simp at e⟩
theorem PrsAt.app {H:Hp} {xs ys:List V} {ps qs:List (V × V)} (h:PrsAt H xs ps) (g:PrsAt H ys qs):PrsAt H (xs ++ ys) (ps ++ qs):=by
 refine ⟨by rw [List.length_append,List.length_append,h.1,g.1],fun i y q e1 e2=>?_⟩
 by_cases hi:i < xs.length
 ·rw [List.getElem?_append_left hi] at e1
  rw [List.getElem?_append_left (by rw [← h.1]; exact hi)] at e2
  exact h.2 i y q e1 e2
 ·rw [List.getElem?_append_right (by omega)] at e1
  rw [List.getElem?_append_right (by rw [← h.1]; omega),← h.1] at e2
  exact g.2 _ y q e1 e2
theorem PrsAt.one {H:Hp} {a:Addr} {p:V × V} (t:H a = some (.tup [p.1,p.2])):PrsAt H [.ref a] [p]:=⟨rfl,fun i y q e1 e2=>by
 match i,e1,e2 with
 | 0,e1,e2=>cases e1; cases e2; exact ⟨a,rfl,t⟩⟩
theorem Mk1.prs {H':Hp} {m:Addr} {ms:List V} {ps:List (V × V)} {o:Option (V × V)} (h:Mk1 H' m ms o) (p:PrsAt H' ms ps):∃ ms',H' m = some (.lst ms')∧PrsAt H' ms' (ps ++ mkL o):=by
 cases o with
 | none=>exact ⟨ms,h,by rw [show mkL none = [] from rfl,List.append_nil]; exact p⟩
 | some q=>obtain ⟨t,h1,h2⟩:=h; exact ⟨_,h1,p.app (PrsAt.one h2)⟩
def spRunL (c:Ad):Sp:=fun vs H Q _=>∃ (l d:Addr) (w:Int) (xs:List V) (rs:List Rw) (zs:List Str) (kvs:List (Key × V)),vs = [.int w,.ref l,.ref d]∧H l = some (.lst xs)∧RowsOf c H xs rs∧(∀ r ∈ rs,r.ok w∧r.inZ zs)∧rs.length≤100∧ZOk zs∧4≤w∧w≤32∧H d = some (.dK kvs)∧Wz w zs kvs ∧
 ∀ (t dw m cn:Addr) (ms:List V) H',H' t = some (.tup [.ref dw,.ref m,.ref cn])→H' dw = some (.dK (actAll w kvs rs))→H' m = some (.lst ms)→PrsAt H' ms (mkAll w kvs rs)→H' cn = some (.dK (cntK (cRows (fun _=>0) 1 rs)))→H dw = none→H m = none→H cn = none→Same H H'→Q (.ref t) H'
theorem take_snoc {α:Type} {l:List α} {j:Nat} {x:α} (h:l[j]? = some x):l.take (j + 1) = l.take j ++ [x]:=by rw [List.take_add_one,h]; rfl
theorem ok_run_steps {f:Addr} {fd:FuncData} (F:Fun K "run_steps" "run_steps" s_run_steps f fd) (T:Txt K mg c) (H_need_steps:Has P w K mg base 7 "need_steps" ["width", "steps"] (spNeedS c)) (H_need_registers:Has P w K mg base 4 "need_registers" ["width", "registers"] spNeedR) (MA:∀ k,k < 15→MHas P w K mg base 6 (fOf c k) "act" ["self", "width", "words", "marks"] (spAct c [k])):FnOk P w K mg base CX0 8 f fd ["width", "steps", "registers"] (spRunL c):=by
 refine F.ok sc_run_steps (fun vs H Q E h=>?_) (fun cdv A outer s H vs Q E hr h=>?_)
 ·obtain ⟨l,d,w',xs,rs,zs,kvs,rfl,_⟩:=h
  rfl
 obtain ⟨l,d,w',xs,rs,zs,kvs,rfl,hl,ra,rk,ln,zo,w0,w1,hd,wz,q⟩:=h
 refine ⟨_,(pss_cons (ps_set (i:=3) sc_run_steps.nd rfl (Or.inl rfl) (pe_fn H_need_steps (hr.mono (by omega)) rfl (pa_cons (pv 0) (pa_cons (pv 1) pa_nil))))
  (pss_cons (ps_expr (pe_fn H_need_registers (hr.mono (by omega)) rfl (pa_cons (pv 0) (pa_cons (pv 2) pa_nil))))
  (pss_cons (ps_set (i:=4) sc_run_steps.nd rfl (Or.inl rfl) (pe_callTy call_dict rfl T.n_dict boot_dict (pa_cons (pv 2) pa_nil)))
  (pss_cons (ps_set (i:=5) sc_run_steps.nd rfl (Or.inl rfl) (pe_lst pa_nil))
  (pss_cons (ps_for PassesOwn.never rfl (pi_list (pv 1)) (pg_name (i:=6) sc_run_steps.nd rfl (Or.inl rfl))
   (pss_one (ps_expr (pe_methP (k:=6) (pv 6) (hr.mono (by omega)) (pa_cons (pv 0) (pa_cons (pv 4) (pa_cons (pv 5) pa_nil)))))))
  (pss_one (ps_ret (pe_tup (pa_cons (pv 4) (pa_cons (pv 5) (pa_cons (pv 3) pa_nil))))))))))),?_⟩
 refine ⟨_,rfl,_,rfl,l,w',xs,rs,rfl,hl,ra,(fun r hr'=>(rk r hr').1),(by omega),w0,w1,fun cn H1 hcn h1 s1=>?_⟩
 refine ⟨_,rfl,_,rfl,d,w',kvs,rfl,s1 _ _ hd,wz.wd zo,w0,w1,fun H2 s2=>?_⟩
 have S2:=s1.trans s2
 refine ⟨_,rfl,d,kvs,rfl,S2 _ _ hd,fun dw hdw=>?_⟩
 obtain ⟨G3,e3,s3,f3⟩:=newO hdw (.dK kvs)
 rw [e3]
 refine ⟨(by show 0≤sizeLine; decide),fun m hm=>?_⟩
 obtain ⟨G4,e4,s4,f4⟩:=newO hm (.lst [])
 rw [e4]
 have S4:=(S2.trans s3).trans s4
 have ncd:cn ≠ dw:=fun z=>by rw [← z,s2 _ _ h1] at hdw; cases hdw
 have ncm:cn ≠ m:=fun z=>by rw [← z,s3 _ _ (s2 _ _ h1)] at hm; cases hm
 have fdw:H dw = none:=Same.none S2 hdw
 have fm:H m = none:=Same.none (S2.trans s3) hm
 refine ⟨_,rfl,l,rfl,⟨_,SqL.of (S4 _ _ hl)⟩,for_list (xs:=xs) (fun j σ G=>∃ (y:Option V) (ms:List V),σ = [some (.int w'),some (.ref l),some (.ref d),some (.ref cn),some (.ref dw),some (.ref m),y]∧Same H G∧G cn = some (.dK (cntK (cRows (fun _=>0) 1 rs)))∧G dw = some (.dK (actAll w' kvs (rs.take j)))∧G m = some (.lst ms)∧PrsAt G ms (mkAll w' kvs (rs.take j))) ⟨_,[],rfl,S4,s4 _ _ (s3 _ _ (s2 _ _ h1)),s4 _ _ f3,f4,PrsAt.nil⟩ ?_ ?_ ?_⟩
 ·rintro j σ G hj ⟨y,ms,rfl,SG,hc,_⟩
  exact SqL.of (SG _ _ hl)
 ·rintro j v σ G hv ⟨y,ms,rfl,SG,hc,gd,gm,pm⟩
  have jl:=(List.getElem?_eq_some_iff.mp hv).1
  have er:rs[j]? = some (rs[j]'(by rw [← ra.1]; exact jl)):=List.getElem?_eq_getElem _
  obtain ⟨a,rfl,sa⟩:=ra.2 j v _ hv er
  generalize rs[j]'(by rw [← ra.1]; exact jl) = r at sa er
  have rok:=rk r (List.mem_of_getElem? er)
  have k15:=Rw.k15 rok.1
  have wj:Wz w' zs (actAll w' kvs (rs.take j)):=Wz.all zo (fun q hq=>rk q (List.mem_of_mem_take hq)) w0 w1 wz
  have ml:ms.length≤1000:=by
   have:=mkAll_len w' (rs.take j) kvs
   rw [pm.1]
   rw [List.length_take] at this
   omega
  have t1:actAll w' kvs (rs.take (j + 1)) = r.act w' (actAll w' kvs (rs.take j)):=by rw [take_snoc er,actAll_app]; rfl
  have t2:mkAll w' kvs (rs.take (j + 1)) = mkAll w' kvs (rs.take j) ++ mkL (r.mk (actAll w' kvs (rs.take j))):=by
   rw [take_snoc er,mkAll_app]
   show _ ++ (mkL _ ++ []) = _
   rw [List.append_nil]
  generalize actAll w' kvs (rs.take j) = kj at gd wj t1 t2
  generalize mkAll w' kvs (rs.take j) = pj at pm t2
  have sG:=sa.same SG
  obtain ⟨dx,hx,lnn⟩:=id sG
  refine ⟨_,rfl,a,_,dx,_,_,_,rfl,hx,nOf_no (by decide +kernel) k15,MA _ k15,_,rfl,_,rfl,_,rfl,a,dw,m,w',r,kj,ms,rfl,List.mem_singleton.mpr rfl,sG,rok.1,w0,w1,gd,wj.wd zo,gm,ml,fun G' gd' gm' sG'=>?_⟩
  have pm':PrsAt G' ms pj:=pm.same fun b ys e=>sG' _ _ (fun z=>by rw [z,gd] at e; cases e) (fun z=>by rw [z,gm] at e; cases e) e
  obtain ⟨ms',gm2,pm2⟩:=gm'.prs pm'
  exact ⟨_,ms',rfl,fun b o e=>sG' b o (ne_of_none e fdw) (ne_of_none e fm) (SG _ _ e),sG' _ _ ncd ncm hc,by rw [t1]; exact gd',gm2,by rw [t2]; exact pm2⟩
 ·rintro σ G ⟨y,ms,rfl,SG,hc,gd,gm,pm⟩
  rw [ra.1,List.take_length] at gd pm
  refine ⟨_,rfl,_,rfl,_,rfl,(by show 3≤sizeLine; decide),fun t ht=>?_⟩
  have s5:=same_new ht (.tup [.ref dw,.ref m,.ref cn])
  exact q t dw m cn ms _ upd_same (s5 _ _ gd) (s5 _ _ gm) (pm.same fun b ys e=>s5 _ _ e) (s5 _ _ hc) fdw fm hcn (SG.trans s5)
theorem ok__law_cell {f:Addr} {fd:FuncData} (F:Fun K "_law_cell" "_law_cell" s__law_cell f fd) (T:Txt K mg c) :FnOk P w K mg base CX0 1 f fd ["_law_script", "_law_k"] (spCell K):=by
 refine F.ok sc__law_cell (fun vs H Q E h=>?_) (fun cdv A outer s H vs Q E hr h=>?_)
 ·obtain ⟨a,ns,k,rfl,_⟩:=h
  rfl
 obtain ⟨a,ns,k,rfl,hS,h0,h1,q⟩:=h
 refine ⟨_,(pss_cons (ps_if (pt_cmpR op_lt (pv 1) (pe_callB call_len_seq rfl T.n_len boot_len (pa_cons (pv 0) pa_nil)) (nomark _))
   (pss_one (ps_ret (pe_ix ix_list (pv 0) (pv 1) (fun _ _=>rfl))))
   pss_nil)
  (pss_cons (ps_set (i:=2) sc__law_cell.nd rfl (Or.inl rfl) (pe_op op_add (pe_op op_mul (pv 1) pe_int) pe_int))
  (pss_cons (ps_if (pt_cmpR op_gt (pe_callB call_len_seq rfl T.n_len boot_len (pa_cons (pv 0) pa_nil)) pe_int (nomark _))
   (pss_one (ps_set (i:=2) sc__law_cell.nd rfl (Or.inl rfl) (pe_op op_mod (pe_op op_add (pe_op op_mul (pe_ix ix_list (pv 0) (pe_op op_mod (pe_op op_mul (pv 1) pe_int) (pe_callB call_len_seq rfl T.n_len boot_len (pa_cons (pv 0) pa_nil))) (fun _ _=>rfl)) pe_int) (pe_op op_mul (pv 1) pe_int)) pe_int)))
   pss_nil)
  (pss_one (ps_ret (pe_op op_mod (pe_op op_mul (pv 2) (pv 2)) pe_int)))))),?_⟩
 have hl:(ns.map V.int).length = ns.length:=List.length_map _
 refine ⟨_,rfl,_,rfl,a,_,rfl,.inl hS,_,_,rfl,rfl,_,rfl,?_⟩
 by_cases hc:k < (((ns.map V.int).length:Nat):Int)
 ·refine iteD hc ?_
  rw [hl] at hc
  have e:k = ((k.toNat:Nat):Int):=by omega
  have g:=getI ns k.toNat (by omega)
  rw [← e] at g
  exact ⟨_,rfl,_,rfl,a,_,_,_,rfl,rfl,hS,g,q _⟩
 ·refine iteDN hc ?_
  refine ⟨_,rfl,_,_,rfl,rfl,.inr ⟨by decide,by decide⟩,_,_,rfl,rfl,?_⟩
  refine ⟨_,rfl,a,_,rfl,.inl hS,_,_,rfl,rfl,_,rfl,?_⟩
  by_cases hn:0 < (((ns.map V.int).length:Nat):Int)
  ·refine iteD hn ?_
   have j0:=Int.emod_nonneg (k * 7) (show (((ns.map V.int).length:Nat):Int) ≠ 0 by omega)
   have j1:=Int.emod_lt_of_pos (k * 7) hn
   have hj:(k * 7 % (((ns.map V.int).length:Nat):Int)).toNat < ns.length:=by rw [← hl]; omega
   have g:=getI ns _ hj
   have e:k * 7 % (((ns.map V.int).length:Nat):Int) = (((k * 7 % (((ns.map V.int).length:Nat):Int)).toNat:Nat):Int):=by omega
   rw [← e] at g
   refine ⟨_,rfl,_,rfl,_,_,rfl,rfl,.inr ⟨by decide,by decide⟩,_,rfl,a,_,rfl,.inl hS,_,_,rfl,rfl,hn,a,_,_,_,rfl,rfl,hS,g,_,_,rfl,rfl,.inr ⟨by decide,by decide⟩,_,rfl,_,_,rfl,rfl,.inr ⟨by decide,by decide⟩,_,_,rfl,rfl,_,_,rfl,rfl,(by show (0:Int) < 2147483647; decide),?_⟩
   exact ⟨_,rfl,_,rfl,_,_,rfl,rfl,cmul_mod (by decide) (by decide),_,_,rfl,rfl,(by show (0:Int) < 2147483629; decide),q _⟩
  ·refine iteDN hn ?_
   exact ⟨_,rfl,_,rfl,_,_,rfl,rfl,.inl ⟨by show -(2 ^ 64) < k * 7919 + 5; omega,by show k * 7919 + 5 < 2 ^ 64; omega⟩,_,_,rfl,rfl,(by show (0:Int) < 2147483629; decide),q _⟩
theorem ok__law_begun {f:Addr} {fd:FuncData} (F:Fun K "_law_begun" "_law_begun" s__law_begun f fd) (T:Txt K mg c) :FnOk P w K mg base CX0 1 f fd ["_law_cell_here"] spBox:=by
 refine F.ok sc__law_begun (fun vs H Q E h=>?_) (fun cdv A outer s H vs Q E hr h=>?_)
 ·obtain ⟨c,rfl,_⟩:=h
  rfl
 obtain ⟨c,rfl,q⟩:=h
 refine ⟨_,(pss_cons (ps_set (i:=1) sc__law_begun.nd rfl (Or.inl rfl) pe_int)
  (pss_cons (ps_if (pt_cmpR op_ge (pv 0) (pe_op op_pow pe_int pe_int) (nomark _))
   (pss_one (ps_set (i:=1) sc__law_begun.nd rfl (Or.inl rfl) (pv 0)))
   pss_nil)
  (pss_one (ps_ret (pe_lst (pa_cons (pv 1) (pa_cons pe_int (pa_cons (pe_op op_mod (pv 0) pe_int) pa_nil)))))))),?_⟩
 refine ⟨_,rfl,_,_,rfl,rfl,⟨by decide,by decide,by decide⟩,_,_,rfl,rfl,_,rfl,?_⟩
 by_cases hc:(10:Int) ^ (18:Int).toNat≤c
 ·refine iteD hc ?_
  refine ⟨_,rfl,?_⟩
  refine ⟨_,rfl,_,rfl,_,_,rfl,rfl,(by show (0:Int) < 2147483647; decide),(by show 3≤sizeLine; decide),fun p hp=>?_⟩
  exact q p _ hp ⟨_,_,_,upd_same⟩ (same_new hp _)
 ·refine iteDN hc ?_
  refine ⟨_,rfl,_,rfl,_,_,rfl,rfl,(by show (0:Int) < 2147483647; decide),(by show 3≤sizeLine; decide),fun p hp=>?_⟩
  exact q p _ hp ⟨_,_,_,upd_same⟩ (same_new hp _)
theorem ok__law_draw {f:Addr} {fd:FuncData} (F:Fun K "_law_draw" "_law_draw" s__law_draw f fd) (T:Txt K mg c) :FnOk P w K mg base CX0 1 f fd ["_law_state", "_law_many"] spTake3:=by
 refine F.ok sc__law_draw (fun vs H Q E h=>?_) (fun cdv A outer s H vs Q E hr h=>?_)
 ·obtain ⟨p,m,rfl,_⟩:=h
  rfl
 obtain ⟨p,m,rfl,⟨r,s1,c,hp⟩,h1,h2,q⟩:=h
 refine ⟨_,(pss_cons (ps_if (pt_cmpR op_gt (pe_ix ix_list (pv 0) pe_int (fun _ _=>rfl)) pe_int (nomark _))
   (pss_cons (ps_set (i:=2) sc__law_draw.nd rfl (Or.inl rfl) (pe_op op_mod (pe_ix ix_list (pv 0) pe_int (fun _ _=>rfl)) (pv 1)))
   (pss_cons (ps_asg (pe_op op_fdivB (pe_ix ix_list (pv 0) pe_int (fun _ _=>rfl)) (pv 1)) (pg_sub (pv 0) pe_int set_list))
   (pss_one (ps_ret (pv 2)))))
   pss_nil)
  (pss_cons (ps_asg (pe_op op_add (pe_ix ix_list (pv 0) pe_int (fun _ _=>rfl)) pe_int) (pg_sub (pv 0) pe_int set_list))
  (pss_cons (ps_set (i:=3) sc__law_draw.nd rfl (Or.inl rfl) (pe_op op_mod (pe_op op_add (pe_op op_mul (pe_ix ix_list (pv 0) pe_int (fun _ _=>rfl)) pe_int) (pe_op op_mul (pe_ix ix_list (pv 0) pe_int (fun _ _=>rfl)) pe_int)) pe_int))
  (pss_cons (ps_set (i:=3) sc__law_draw.nd rfl (Or.inl rfl) (pe_op op_mod (pe_op op_add (pe_op op_mul (pv 3) (pv 3)) (pe_op op_mul (pe_ix ix_list (pv 0) pe_int (fun _ _=>rfl)) pe_int)) pe_int))
  (pss_one (ps_ret (pe_op op_mod (pe_op op_mod (pe_op op_mul (pv 3) (pv 3)) pe_int) (pv 1)))))))),?_⟩
 refine ⟨_,rfl,p,_,_,_,rfl,rfl,SqL.of hp,rfl,_,_,rfl,rfl,_,rfl,?_⟩
 by_cases hc:0 < r
 ·refine iteD hc ?_
  refine ⟨_,rfl,p,_,_,_,rfl,rfl,SqL.of hp,rfl,_,rfl,_,_,rfl,rfl,h1,?_⟩
  refine ⟨_,rfl,p,_,_,_,rfl,rfl,SqL.of hp,rfl,_,rfl,_,_,rfl,rfl,⟨h1,log_small h1 h2⟩,?_⟩
  refine ⟨_,rfl,p,_,_,_,rfl,rfl,hp,rfl,?_⟩
  refine ⟨_,rfl,?_⟩
  exact q _ _ (Int.emod_nonneg _ (by omega)) (Int.emod_lt_of_pos _ h1) ⟨_,_,_,upd_same⟩ SameX.upd
 ·refine iteDN hc ?_
  refine ⟨_,rfl,p,_,_,_,rfl,rfl,SqL.of hp,rfl,_,_,rfl,rfl,?_⟩
  refine ⟨_,rfl,p,_,_,_,rfl,rfl,hp,rfl,?_⟩
  refine ⟨_,rfl,p,_,_,_,rfl,rfl,SqL.of upd_same,rfl,_,_,rfl,rfl,.inr ⟨by decide,by decide⟩,_,rfl,p,_,_,_,rfl,rfl,SqL.of upd_same,rfl,_,_,rfl,rfl,.inr ⟨by decide,by decide⟩,_,_,rfl,rfl,_,_,rfl,rfl,(by show (0:Int) < 2147483647; decide),?_⟩
  refine ⟨_,rfl,_,rfl,_,_,rfl,rfl,cmul_mod (by decide) (by decide),_,rfl,p,_,_,_,rfl,rfl,SqL.of upd_same,rfl,_,_,rfl,rfl,.inr ⟨by decide,by decide⟩,_,_,rfl,rfl,_,_,rfl,rfl,(by show (0:Int) < 2147483629; decide),?_⟩
  refine ⟨_,rfl,_,rfl,_,_,rfl,rfl,cmul_mod (by decide) (by decide),_,_,rfl,rfl,(by show (0:Int) < 2147483587; decide),_,rfl,_,_,rfl,rfl,h1,?_⟩
  exact q _ _ (Int.emod_nonneg _ (by omega)) (Int.emod_lt_of_pos _ h1) ⟨_,_,_,upd_same⟩ SameX.upd
theorem ok__law_whole {f:Addr} {fd:FuncData} (F:Fun K "_law_whole" "_law_whole" s__law_whole f fd) (T:Txt K mg c) :FnOk P w K mg base CX0 1 f fd ["_law_found"] spWhole:=by
 refine F.ok sc__law_whole (fun vs H Q E h=>?_) (fun cdv A outer s H vs Q E hr h=>?_)
 ·obtain ⟨i,rfl,_⟩:=h
  rfl
 obtain ⟨i,rfl,q⟩:=h
 refine ⟨_,(pss_one (ps_ret (pe_and (pe_callB call_isinst rfl T.n_isinstance boot_isinstance (pa_cons (pv 0) (pa_cons (pe_ty rfl T.n_int boot_int) pa_nil))) (pe_one (pe_not (pe_callB call_isinst rfl T.n_isinstance boot_isinstance (pa_cons (pv 0) (pa_cons (pe_ty rfl T.n_bool boot_bool) pa_nil)))))))),?_⟩
 refine ⟨_,rfl,_,_,_,_,_,rfl,rfl,TyOf.int _,kit_int_int _,_,rfl,iteT ?_⟩
 refine ⟨_,rfl,_,_,_,_,_,rfl,rfl,TyOf.int _,kit_int_bool _,_,rfl,?_⟩
 exact q
def spWrd:Sp:=fun vs H Q _=>∃ (p:Addr) (w:Int),vs = [.ref p,.int w]∧Box H p∧4≤w∧w≤32∧∀ (i:Int) H',0≤i→i < 2 ^ w.toNat→Box H' p→SameX p H H'→Q (.int i) H'
theorem pow_lt {a b:Int} (h0:0≤a) (h:a < b):(2:Int) ^ a.toNat < 2 ^ b.toNat:=by
 have:(2:Nat) ^ a.toNat < 2 ^ b.toNat:=Nat.pow_lt_pow_right (by decide) (by omega)
 exact_mod_cast this
def wrdP (w:Int) (v:V):Prop:=∃ i:Int,v = .int i∧0≤i∧i < 2 ^ w.toNat
theorem ok__law_word {f:Addr} {fd:FuncData} (F:Fun K "_law_word" "_law_word" s__law_word f fd) (T:Txt K mg c) (H__law_draw:Has P w K mg base 1 "_law_draw" ["_law_state", "_law_many"] spTake3):FnOk P w K mg base CX0 2 f fd ["_law_state", "_law_width"] spWrd:=by
 refine F.ok sc__law_word (fun vs H Q E h=>?_) (fun cdv A outer s H vs Q E hr h=>?_)
 ·obtain ⟨p,w',rfl,_⟩:=h
  rfl
 obtain ⟨p,w',rfl,b,w0,w1,q⟩:=h
 refine slE ⟨_,(pss_consZ (slIn (ps_set (i:=2) sc__law_word.nd rfl (Or.inl rfl) (pe_op op_shlB pe_int (pv 1))))
  (pss_consZ (slIn (ps_set (i:=3) sc__law_word.nd rfl (Or.inl rfl) (pe_fn H__law_draw (hr.mono (by omega)) rfl (pa_cons (pv 0) (pa_cons pe_int pa_nil)))))
  (pss_consZ (ps_ifZ (pt_cmpR op_lt (pv 3) pe_int (nomark _))
   (pss_oneZ (slIn (ps_ret (pe_ix ix_list (pe_lst (pa_cons pe_int (pa_cons pe_int (pa_cons (pe_op op_sub (pv 2) pe_int) pa_nil)))) (pv 3) (fun _ _=>rfl)))))
   pss_nilZ)
  (pss_consZ (ps_ifZ (pt_cmpR op_eq (pv 3) pe_int (nomark _))
   (pss_oneZ (slIn (ps_ret (pe_op op_sub (pe_op op_fdivB (pv 2) pe_int) (pe_fn H__law_draw (hr.mono (by omega)) rfl (pa_cons (pv 0) (pa_cons pe_int pa_nil)))))))
   pss_nilZ)
  (pss_consZ (ps_ifZ (pt_cmpR op_eq (pv 3) pe_int (nomark _))
   (pss_oneZ (slIn (ps_ret (pe_op op_shlB pe_int (pe_fn H__law_draw (hr.mono (by omega)) rfl (pa_cons (pv 0) (pa_cons (pv 1) pa_nil)))))))
   pss_nilZ)
  (pss_consZ (ps_ifZ (pt_cmpR op_eq (pv 3) pe_int (nomark _))
   (pss_oneZ (slIn (ps_ret (pe_op op_mod (pe_fn H__law_draw (hr.mono (by omega)) rfl (pa_cons (pv 0) (pa_cons pe_int pa_nil))) (pv 2)))))
   pss_nilZ)
  (pss_oneZ (slIn (ps_ret (pe_op op_mod (pe_op op_add (pe_op op_mulB (pe_fn H__law_draw (hr.mono (by omega)) rfl (pa_cons (pv 0) (pa_cons pe_int pa_nil))) pe_int) (pe_fn H__law_draw (hr.mono (by omega)) rfl (pa_cons (pv 0) (pa_cons pe_int pa_nil)))) (pv 2))))))))))),?_⟩
 have P:=pw_bounds w0 w1
 have shw:(0≤w'∧w'≤100000∧intBits 1≤100000):=⟨by omega,by omega,b200 (by decide) (by decide)⟩
 refine ⟨_,rfl,_,_,rfl,rfl,shw,?_⟩
 refine ⟨_,rfl,p,_,rfl,b,by decide,by decide,fun d H1 d0 d1 b1 x1=>?_⟩
 refine ⟨_,rfl,_,_,rfl,rfl,_,rfl,?_⟩
 walk_at "c" <;> intro c3
 ·refine ⟨_,rfl,_,_,rfl,rfl,(by show 3≤sizeLine; decide),fun l hl=>?_⟩
  obtain ⟨v,⟨i,rfl,i0,i1⟩,ev⟩:=pickV (xs:=[.int 0,.int 1,.int (1 * 2 ^ w'.toNat - 1)]) (Pr:=wrdP w') d0 (by show d < 3; omega) (allV ⟨⟨_,rfl,by omega,by omega⟩,⟨_,rfl,by omega,by omega⟩,⟨_,rfl,by omega,by omega⟩,trivial⟩)
  exact ⟨_,rfl,l,_,_,_,rfl,rfl,SqL.of upd_same,ev,q i _ i0 i1 (b1.same (same_new hl _)) (x1.trans (SameX.of (same_new hl _)))⟩
 refine ⟨_,rfl,rfl,_,rfl,?_⟩
 walk_at "c" <;> intro c4
 ·exact ⟨_,rfl,_,_,rfl,rfl,⟨by decide,by decide⟩,_,rfl,p,_,rfl,b1,by decide,by decide,fun d2 H2 _ _ b2 x2=>⟨_,_,rfl,rfl,q _ _ (by omega) (by omega) b2 (x1.trans x2)⟩⟩
 refine ⟨_,rfl,rfl,_,rfl,?_⟩
 walk_at "c" <;> intro c5
 ·exact ⟨_,rfl,_,rfl,p,_,rfl,b1,by omega,by omega,fun d2 H2 e0 e1 b2 x2=>⟨_,_,rfl,rfl,⟨by omega,by omega,b200 (by decide) (by decide)⟩,q _ _ (Int.le_of_lt (p1_pos _)) (by rw [Int.one_mul]; exact pow_lt e0 e1) b2 (x1.trans x2)⟩⟩
 refine ⟨_,rfl,rfl,_,rfl,?_⟩
 walk_at "c" <;> intro c6
 ·exact ⟨_,rfl,p,_,rfl,b1,by decide,by decide,fun d2 H2 e0 e1 b2 x2=>⟨_,rfl,_,_,rfl,rfl,(by omega),q _ _ (Int.emod_nonneg _ (by omega)) (by have:=Int.emod_lt_of_pos d2 (show 0 < 1 * (2:Int) ^ w'.toNat by omega); omega) b2 (x1.trans x2)⟩⟩
 ·refine ⟨_,rfl,p,_,rfl,b1,by decide,by decide,fun d2 H2 e0 e1 b2 x2=>⟨_,_,rfl,rfl,⟨b200 (by omega) (by omega),b200 (by decide) (by decide)⟩,?_⟩⟩
  exact ⟨_,rfl,p,_,rfl,b2,by decide,by decide,fun d3 H3 _ _ b3 x3=>⟨_,_,rfl,rfl,_,rfl,_,_,rfl,rfl,(by omega),q _ _ (Int.emod_nonneg _ (by omega)) (by have:=Int.emod_lt_of_pos (d2 * 65536 + d3) (show 0 < 1 * (2:Int) ^ w'.toNat by omega); omega) b3 ((x1.trans x2).trans x3)⟩⟩
def Nms (H:Hp) (l:Addr) (zs:List Str):Prop:=H l = some (.lst (zs.map V.str))∧2≤zs.length∧zs.length≤5∧∀ z ∈ zs,RgA z∧z.length≤8
def spNames:Sp:=fun vs H Q _=>∃ p:Addr,vs = [.ref p]∧Box H p∧∀ (l:Addr) (zs:List Str) H',H l = none→Nms H' l zs→Box H' p→SameX p H H'→Q (.ref l) H'
def regB (z:Str):Bool:=decide (1≤z.length) && decide (z.length≤8) && (match z.cps[0]? with | some n=>inS LT ⟨#[n]⟩ | none=>false) && z.cps.toList.all fun n=>inS LF ⟨#[n]⟩
theorem regB_ok {z:Str} (h:regB z = true):RgA z∧z.length≤8:=by
 unfold regB at h
 simp only [Bool.and_eq_true,decide_eq_true_eq] at h
 obtain ⟨⟨⟨h1,h2⟩,h3⟩,h4⟩:=h
 refine ⟨⟨h1,fun n e=>?_,fun n hn=>List.all_eq_true.mp h4 n hn⟩,h2⟩
 rw [e] at h3
 exact h3
def pool15:List Str:=["a", "ab", "b", "z9", "x", "x0", "sum", "end", "abcdefgh", "w1234567", "turns", "m", "aa", "q7", "set"]
theorem pool_ok:∀ z ∈ pool15,RgA z∧z.length≤8:=fun z hz=>regB_ok ((by decide +kernel:∀ z ∈ pool15,regB z = true) z hz)
theorem ok__law_names {f:Addr} {fd:FuncData} (F:Fun K "_law_names" "_law_names" s__law_names f fd) (T:Txt K mg c) (H__law_draw:Has P w K mg base 1 "_law_draw" ["_law_state", "_law_many"] spTake3):FnOk P w K mg base CX0 2 f fd ["_law_state"] spNames:=by
 refine F.ok sc__law_names (fun vs H Q E h=>?_) (fun cdv A outer s H vs Q E hr h=>?_)
 ·obtain ⟨p,rfl,_⟩:=h
  rfl
 obtain ⟨p,rfl,b,q⟩:=h
 refine slE ⟨_,(pss_consZ (ps_setS (i:=1) sc__law_names.nd rfl (Or.inl rfl) (pe_lstS (pa_consS pe_str (pa_consS pe_str (pa_consS pe_str (pa_consS pe_str (pa_consS pe_str (pa_consS pe_str (pa_consS pe_str (pa_consS pe_str (pa_consS pe_str (pa_consS pe_str (pa_consS pe_str (pa_consS pe_str (pa_consS pe_str (pa_consS pe_str (pa_consS pe_str pa_nilS)))))))))))))))))
  (pss_consZ (slIn (ps_set (i:=2) sc__law_names.nd rfl (Or.inl rfl) pe_str))
  (pss_consZ (slIn (ps_set (i:=3) sc__law_names.nd rfl (Or.inl rfl) (pe_fn H__law_draw (hr.mono (by omega)) rfl (pa_cons (pv 0) (pa_cons pe_int pa_nil)))))
  (pss_consZ (slIn (ps_set (i:=4) sc__law_names.nd rfl (Or.inl rfl) (pe_lst pa_nil)))
  (pss_consZ (ps_forZ PassesOwn.never rfl (pi_range1 rfl T.n_range (pa_cons (pe_op op_add pe_int (pe_fn H__law_draw (hr.mono (by omega)) rfl (pa_cons (pv 0) (pa_cons pe_int pa_nil)))) pa_nil)) (pg_name (i:=5) sc__law_names.nd rfl (Or.inl rfl))
   (pss_consZ (slIn (ps_set (i:=6) sc__law_names.nd rfl (Or.inl rfl) (pe_ix ix_list (pv 1) (pe_op op_mod (pe_op op_add (pv 3) (pe_op op_mul pe_int (pv 5))) pe_int) (fun _ _=>rfl))))
   (pss_joinZ (ps_ifZ (pt_cmpR op_eq (pe_fn H__law_draw (hr.mono (by omega)) rfl (pa_cons (pv 0) (pa_cons pe_int pa_nil))) pe_int (nomark _))
    (pss_consZ (slIn (ps_set (i:=6) sc__law_names.nd rfl (Or.inl rfl) (pe_ix ix_str (pv 2) (pe_fn H__law_draw (hr.mono (by omega)) rfl (pa_cons (pv 0) (pa_cons pe_int pa_nil))) (fun _ _=>rfl))))
    (pss_oneZ (ps_forZ PassesOwn.never rfl (pi_range1 rfl T.n_range (pa_cons (pe_fn H__law_draw (hr.mono (by omega)) rfl (pa_cons (pv 0) (pa_cons pe_int pa_nil))) pa_nil)) (pg_name (i:=7) sc__law_names.nd rfl (Or.inl rfl))
     (pss_oneZ (slIn (ps_set (i:=6) sc__law_names.nd rfl (Or.inl rfl) (pe_op op_add_str (pv 6) (pe_ix ix_str (pv 2) (pe_fn H__law_draw (hr.mono (by omega)) rfl (pa_cons (pv 0) (pa_cons pe_int pa_nil))) (fun _ _=>rfl)))))))))
    pss_nilZ)
   (pss_oneZ (slIn (ps_expr (pe_bm PySem.F.plainAttrs_list PySem.F.slot_list_append PySem.F.type_list_append mt_append (pv 4) (pa_cons (pv 6) pa_nil))))))))
  (pss_oneZ (slIn (ps_ret (pv 4))))))))),?_⟩
 have L1000:(1000:Nat)≤sizeLine:=by decide
 refine ⟨(by show 15≤sizeLine; decide),fun pl hpl=>?_⟩
 obtain ⟨G0,w0,s0,f0⟩:=newO hpl (.lst (pool15.map V.str))
 rw [show upd H pl (.lst [.str "a",.str "ab",.str "b",.str "z9",.str "x",.str "x0",.str "sum",.str "end",.str "abcdefgh",.str "w1234567",.str "turns",.str "m",.str "aa",.str "q7",.str "set"]) = G0 from w0]
 have b0:=b.same s0
 have npl:=b.ne hpl
 refine ⟨_,rfl,p,_,rfl,b0,by decide,by decide,fun d H1 d0 d1 b1 x1=>?_⟩
 refine ⟨(by show 0≤sizeLine; decide),fun l hl=>?_⟩
 have s2:=same_new hl (.lst [])
 have X2:SameX p H (upd H1 l (.lst [])):=(SameX.of s0).trans (x1.trans (SameX.of s2))
 have fr:H l = none:=by
  cases e:H l with
  | none=>rfl
  | some o =>
   by_cases c:l = p
   ·exact absurd c (b1.ne hl)
   ·rw [x1 _ _ c (s0 _ _ e)] at hl; cases hl
 have np:=b1.ne hl
 have f2:upd H1 l (.lst []) pl = some (.lst (pool15.map V.str)):=s2 _ _ (x1 _ _ npl f0)
 have nlp:l ≠ pl:=fun z=>by rw [z,x1 _ _ npl f0] at hl; cases hl
 have b2:=b1.same s2
 have g2:upd H1 l (.lst []) l = some (.lst (([]:List Str).map V.str)):=upd_same
 generalize upd H1 l (.lst []) = G at X2 f2 b2 g2 ⊢
 clear x1 b1 hl s2 b0 f0 w0 s0 hpl
 refine ⟨_,rfl,p,_,rfl,b2,by decide,by decide,fun r G1 r0 r1 b3 x3=>⟨_,_,rfl,rfl,_,rfl,by omega,by omega,for_range (n:=(2 + r).toNat) (fun j σ G=>∃ (y5 y6 y7:Option V) (zs:List Str),σ = [some (.ref p),some (.ref pl),some (.str LF),some (.int d),some (.ref l),y5,y6,y7]∧G l = some (.lst (zs.map V.str))∧zs.length = j∧(∀ z ∈ zs,RgA z∧z.length≤8)∧Box G p∧SameX p H G∧G pl = some (.lst (pool15.map V.str))) ⟨_,_,_,[],rfl,x3 _ _ np g2,rfl,(fun z hz=>by cases hz),b3,X2.trans x3,x3 _ _ npl f2⟩ ?_ ?_⟩⟩
 ·clear X2 f2 b2 g2 b3 x3
  rintro j σ G hj ⟨y5,y6,y7,zs,rfl,gl,zl,ok,bG,XG,gp⟩
  have k0:=Int.emod_nonneg (d + 4 * (0 + (j:Int))) (show (15:Int) ≠ 0 by decide)
  have k1:=Int.emod_lt_of_pos (d + 4 * (0 + (j:Int))) (show (0:Int) < 15 by decide)
  obtain ⟨v,⟨z0,rfl,z0k⟩,ev⟩:=pickV (xs:=pool15.map V.str) (Pr:=fun v=>∃ z,v = .str z∧RgA z∧z.length≤8) k0 k1 (fun x hx=>by obtain ⟨z,hz,rfl⟩:=List.mem_map.mp hx; exact ⟨z,rfl,pool_ok z hz⟩)
  refine ⟨_,rfl,_,rfl,_,rfl,_,_,rfl,rfl,.inl ⟨by decide,by decide⟩,_,_,rfl,rfl,_,_,rfl,rfl,(show (0:Int) < 15 by decide),pl,_,_,_,rfl,rfl,SqL.of gp,ev,?_⟩
  refine ⟨fun σ G'=>∃ (y7:Option V) (z:Str),σ = [some (.ref p),some (.ref pl),some (.str LF),some (.int d),some (.ref l),some (.int (0 + (j:Int))),some (.str z),y7]∧RgA z∧z.length≤8∧Box G' p∧SameX p G G',?_,?_⟩
  ·refine ⟨_,rfl,p,_,rfl,bG,by decide,by decide,fun e G1 e0 e1 b1 x1=>⟨rfl,_,rfl,?_⟩⟩
   walk_at "c" <;> intro c1
   rotate_left
   ·exact ⟨_,z0,rfl,z0k.1,z0k.2,b1,x1⟩
   refine ⟨_,rfl,_,rfl,p,_,rfl,b1,by decide,by decide,fun f G2 f0 f1 b2 x2=>?_⟩
   obtain ⟨n,en,h1,h2⟩:=lfI f0 (by omega)
   refine ⟨LF,_,n,rfl,rfl,(by show 36≤sizeLine; omega),en,?_⟩
   refine ⟨_,rfl,p,_,rfl,b2,by decide,by decide,fun g G3 g0 g1 b3 x3=>⟨_,rfl,by omega,by omega,for_range (n:=g.toNat) (fun i σ G'=>∃ (y7:Option V) (z:Str),σ = [some (.ref p),some (.ref pl),some (.str LF),some (.int d),some (.ref l),some (.int (0 + (j:Int))),some (.str z),y7]∧RgA z∧z.length = 1 + i∧Box G' p∧SameX p G G') ⟨_,_,rfl,RgA.one (h2 f1) h1,rfl,b3,(x1.trans x2).trans x3⟩ ?_ ?_⟩⟩
   ·rintro i σ G' hi ⟨y7,z,rfl,rz,lz,bz,xz⟩
    refine ⟨_,rfl,_,rfl,_,rfl,p,_,rfl,bz,by decide,by decide,fun f G4 f0 f1 b4 x4=>?_⟩
    obtain ⟨n,en,h1,_⟩:=lfI f0 f1
    have sn:=rz.snoc h1
    refine ⟨LF,_,n,rfl,rfl,(by show 36≤sizeLine; omega),en,_,_,rfl,rfl,(by show z.length + 1≤sizeLine; omega),?_⟩
    exact ⟨_,_,rfl,sn.1,by omega,b4,xz.trans x4⟩
   ·rintro σ G' ⟨y7,z,rfl,rz,lz,bz,xz⟩
    exact ⟨_,z,rfl,rz,by omega,bz,xz⟩
  rintro σ G' ⟨y7,z,rfl,rz,lz,bz,xz⟩
  refine ⟨_,rfl,.inl ⟨rfl,_,SqL.of (xz _ _ np gl)⟩,_,rfl,l,_,_,rfl,rfl,xz _ _ np gl,(by rw [List.length_map]; omega),?_⟩
  refine ⟨_,_,_,zs ++ [z],rfl,(by rw [upd_same,List.map_append]; rfl),(by rw [List.length_append,zl]; rfl),(fun w' hw=>?_),?_,?_,?_⟩
  ·rcases List.mem_append.mp hw with hw | hw
   ·exact ok w' hw
   ·rw [List.mem_singleton.mp hw]; exact ⟨rz,lz⟩
  ·obtain ⟨a1,a2,a3,e⟩:=bz
   exact ⟨a1,a2,a3,by rw [upd_ne (Ne.symm np)]; exact e⟩
  ·intro b' o hb e
   have:=xz _ _ hb (XG _ _ hb e)
   rw [upd_ne (ne_of_none e fr)]
   exact this
  ·rw [upd_ne (Ne.symm nlp)]
   exact xz _ _ npl gp
 ·rintro σ G' ⟨y5,y6,y7,zs,rfl,gl,zl,ok,bG,XG,gp⟩
  exact ⟨_,rfl,q l zs G' fr ⟨gl,by omega,by omega,ok⟩ bG XG⟩
def spName:Sp:=fun vs H Q _=>∃ (p l:Addr) (zs:List Str),vs = [.ref p,.ref l]∧Box H p∧Nms H l zs∧l ≠ p∧∀ (z:Str) H',z ∈ zs→Box H' p→SameX p H H'→Q (.str z) H'
theorem ok__law_name {f:Addr} {fd:FuncData} (F:Fun K "_law_name" "_law_name" s__law_name f fd) (T:Txt K mg c) (H__law_draw:Has P w K mg base 1 "_law_draw" ["_law_state", "_law_many"] spTake3):FnOk P w K mg base CX0 2 f fd ["_law_state", "_law_names_here"] spName:=by
 refine F.ok sc__law_name (fun vs H Q E h=>?_) (fun cdv A outer s H vs Q E hr h=>?_)
 ·obtain ⟨p,l,zs,rfl,_⟩:=h
  rfl
 obtain ⟨p,l,zs,rfl,b,⟨hl,n2,n5,ok⟩,np,q⟩:=h
 refine ⟨_,(pss_one (ps_ret (pe_ix ix_list (pv 1) (pe_fn H__law_draw (hr.mono (by omega)) rfl (pa_cons (pv 0) (pa_cons (pe_callB call_len_seq rfl T.n_len boot_len (pa_cons (pv 1) pa_nil)) pa_nil))) (fun _ _=>rfl)))),?_⟩
 refine ⟨_,rfl,_,rfl,_,rfl,l,_,rfl,.inl (SqL.of hl),p,_,rfl,b,(by rw [List.length_map]; omega),(by rw [List.length_map]; omega),fun d H1 d0 d1 b1 x1=>?_⟩
 obtain ⟨v,⟨z,hz,rfl⟩,ev⟩:=pickV (xs:=zs.map V.str) (Pr:=fun v=>∃ z,z ∈ zs∧v = .str z) d0 d1 (fun x hx=>by obtain ⟨z,hz,rfl⟩:=List.mem_map.mp hx; exact ⟨z,hz,rfl⟩)
 exact ⟨l,_,_,_,rfl,rfl,SqL.of (x1 _ _ np hl),ev,q z H1 hz b1 x1⟩
def spSorts:Sp:=fun vs H Q _=>vs = []∧∀ (l:Addr) H',H l = none→H' l = some (.lst (sorts15.map V.str))→Same H H'→Q (.ref l) H'
theorem ok__law_sorts {f:Addr} {fd:FuncData} (F:Fun K "_law_sorts" "_law_sorts" s__law_sorts f fd) (T:Txt K mg c) :FnOk P w K mg base CX0 1 f fd [] spSorts:=by
 refine F.ok sc__law_sorts (fun vs H Q E h=>?_) (fun cdv A outer s H vs Q E hr h=>?_)
 ·obtain ⟨rfl,_⟩:=h
  rfl
 obtain ⟨rfl,q⟩:=h
 refine slE ⟨_,(pss_consZ (ps_setS (i:=0) sc__law_sorts.nd rfl (Or.inl rfl) (pe_lstS (pa_consS pe_str (pa_consS pe_str (pa_consS pe_str (pa_consS pe_str (pa_consS pe_str (pa_consS pe_str (pa_consS pe_str (pa_consS pe_str (pa_consS pe_str (pa_consS pe_str (pa_consS pe_str (pa_consS pe_str pa_nilS))))))))))))))
  (pss_oneZ (slIn (ps_ret (pe_op op_addL (pv 0) (pe_lst (pa_cons pe_str (pa_cons pe_str (pa_cons pe_str pa_nil))))))))),?_⟩
 refine ⟨(by show 12≤sizeLine; decide),fun l1 h1=>?_⟩
 obtain ⟨G1,w1,s1,f1⟩:=newO h1 (.lst [.str "set",.str "copy",.str "sum",.str "gap",.str "low",.str "high",.str "left",.str "right",.str "slide",.str "and",.str "or",.str "unlike"])
 rw [w1]
 refine ⟨_,rfl,(by show 3≤sizeLine; decide),fun l2 h2=>?_⟩
 obtain ⟨G2,w2,s2,f2⟩:=newO h2 (.lst [.str "under",.str "pick",.str "mark"])
 rw [w2]
 refine ⟨l1,l2,_,_,rfl,rfl,SqL.of (s2 _ _ f1),SqL.of f2,(by show 12 + 3≤sizeLine; decide),fun l3 h3=>?_⟩
 exact q l3 _ (Same.none (s1.trans s2) h3) upd_same ((s1.trans s2).trans (same_new h3 _))
def spRowL:Sp:=fun vs H Q _=>∃ (p l:Addr) (w:Int) (zs:List Str),vs = [.ref p,.int w,.ref l]∧Box H p∧4≤w∧w≤32∧Nms H l zs∧l ≠ p∧∀ (t:Addr) (r:Rw) H',H' t = some (.tup (.str (wOf r.k) :: r.fs))→r.ok w→r.inZ zs→Box H' p→SameX p H H'→Q (.ref t) H'
theorem Nms.sx {H H':Hp} {p l:Addr} {zs:List Str} (h:Nms H l zs) (x:SameX p H H') (n:l ≠ p):Nms H' l zs:=⟨x _ _ n h.1,h.2⟩
theorem ok__law_row {f:Addr} {fd:FuncData} (F:Fun K "_law_row" "_law_row" s__law_row f fd) (T:Txt K mg c) (H__law_name:Has P w K mg base 2 "_law_name" ["_law_state", "_law_names_here"] spName) (H__law_sorts:Has P w K mg base 1 "_law_sorts" [] spSorts) (H__law_draw:Has P w K mg base 1 "_law_draw" ["_law_state", "_law_many"] spTake3) (H__law_word:Has P w K mg base 2 "_law_word" ["_law_state", "_law_width"] spWrd):FnOk P w K mg base CX0 3 f fd ["_law_state", "_law_width", "_law_names_here"] spRowL:=by
 refine F.ok sc__law_row (fun vs H Q E h=>?_) (fun cdv A outer s H vs Q E hr h=>?_)
 ·obtain ⟨p,l,w',zs,rfl,_⟩:=h
  rfl
 obtain ⟨p,l,w',zs,rfl,b,w0,w1,nm,np,q⟩:=h
 refine slE ⟨_,(pss_consZ (slIn (ps_set (i:=3) sc__law_row.nd rfl (Or.inl rfl) (pe_ix ix_list (pe_fn0 H__law_sorts (hr.mono (by omega)) rfl) (pe_fn H__law_draw (hr.mono (by omega)) rfl (pa_cons (pv 0) (pa_cons pe_int pa_nil))) (fun _ _=>rfl))))
  (pss_consZ (slIn (ps_set (i:=4) sc__law_row.nd rfl (Or.inl rfl) (pe_fn H__law_name (hr.mono (by omega)) rfl (pa_cons (pv 0) (pa_cons (pv 2) pa_nil)))))
  (pss_consZ (slIn (ps_set (i:=5) sc__law_row.nd rfl (Or.inl rfl) (pe_fn H__law_name (hr.mono (by omega)) rfl (pa_cons (pv 0) (pa_cons (pv 2) pa_nil)))))
  (pss_consZ (slIn (ps_set (i:=6) sc__law_row.nd rfl (Or.inl rfl) (pe_fn H__law_name (hr.mono (by omega)) rfl (pa_cons (pv 0) (pa_cons (pv 2) pa_nil)))))
  (pss_consZ (ps_ifZ (pt_cmpR op_eq (pv 3) pe_str (nomark _))
   (pss_oneZ (slIn (ps_ret (pe_tup (pa_cons pe_str (pa_cons (pv 4) (pa_cons (pe_fn H__law_word (hr.mono (by omega)) rfl (pa_cons (pv 0) (pa_cons (pv 1) pa_nil))) pa_nil)))))))
   pss_nilZ)
  (pss_consZ (ps_ifZ (pt_cmpR op_eq (pv 3) pe_str (nomark _))
   (pss_oneZ (slIn (ps_ret (pe_tup (pa_cons pe_str (pa_cons (pv 4) (pa_cons (pv 5) pa_nil)))))))
   pss_nilZ)
  (pss_consZ (ps_ifZ (PW.pt (pw_or (pt_cmpR op_eq (pv 3) pe_str (nomark _)) (pw_or1 (pt_cmpR op_eq (pv 3) pe_str (nomark _)))))
   (pss_oneZ (slIn (ps_ret (pe_tup (pa_cons (pv 3) (pa_cons (pv 4) (pa_cons (pe_ix ix_list (pe_lst (pa_cons pe_non (pa_cons (pe_fn H__law_name (hr.mono (by omega)) rfl (pa_cons (pv 0) (pa_cons (pv 2) pa_nil))) pa_nil))) (pe_fn H__law_draw (hr.mono (by omega)) rfl (pa_cons (pv 0) (pa_cons pe_int pa_nil))) (fun _ _=>rfl)) (pa_cons (pv 5) (pa_cons (pv 6) pa_nil)))))))))
   pss_nilZ)
  (pss_consZ (ps_ifZ (PW.pt (pw_or (pt_cmpR op_eq (pv 3) pe_str (nomark _)) (pw_or (pt_cmpR op_eq (pv 3) pe_str (nomark _)) (pw_or1 (pt_cmpR op_eq (pv 3) pe_str (nomark _))))))
   (pss_oneZ (slIn (ps_ret (pe_tup (pa_cons (pv 3) (pa_cons (pv 4) (pa_cons (pv 5) (pa_cons (pe_ix ix_list (pe_lst (pa_cons pe_int (pa_cons (pe_op op_sub (pv 1) pe_int) (pa_cons (pe_fn H__law_draw (hr.mono (by omega)) rfl (pa_cons (pv 0) (pa_cons (pv 1) pa_nil))) pa_nil)))) (pe_fn H__law_draw (hr.mono (by omega)) rfl (pa_cons (pv 0) (pa_cons pe_int pa_nil))) (fun _ _=>rfl)) pa_nil))))))))
   pss_nilZ)
  (pss_consZ (ps_ifZ (pt_cmpR op_eq (pv 3) pe_str (nomark _))
   (pss_oneZ (slIn (ps_ret (pe_tup (pa_cons pe_str (pa_cons (pv 4) (pa_cons (pe_fn H__law_name (hr.mono (by omega)) rfl (pa_cons (pv 0) (pa_cons (pv 2) pa_nil))) (pa_cons (pv 5) (pa_cons (pv 6) pa_nil)))))))))
   pss_nilZ)
  (pss_consZ (ps_ifZ (pt_cmpR op_eq (pv 3) pe_str (nomark _))
   (pss_consZ (ps_setS (i:=7) sc__law_row.nd rfl (Or.inl rfl) (pe_ixS ix_list (pe_lstS (pa_consS pe_int (pa_consS pe_int (pa_consS (pe_fn H__law_draw (hr.mono (by omega)) rfl (pa_cons (pv 0) (pa_cons pe_int pa_nil))) (pa_consS (pe_fn H__law_draw (hr.mono (by omega)) rfl (pa_cons (pv 0) (pa_cons pe_int pa_nil))) pa_nilS))))) (pe_fn H__law_draw (hr.mono (by omega)) rfl (pa_cons (pv 0) (pa_cons pe_int pa_nil))) (fun _ _=>rfl)))
   (pss_oneZ (slIn (ps_ret (pe_tup (pa_cons pe_str (pa_cons (pv 7) (pa_cons (pe_ix ix_list (pe_lst (pa_cons pe_str (pa_cons pe_str (pa_cons pe_str pa_nil)))) (pe_fn H__law_draw (hr.mono (by omega)) rfl (pa_cons (pv 0) (pa_cons pe_int pa_nil))) (fun _ _=>rfl)) (pa_cons (pv 5) pa_nil)))))))))
   pss_nilZ)
  (pss_oneZ (slIn (ps_ret (pe_tup (pa_cons (pv 3) (pa_cons (pv 4) (pa_cons (pv 5) (pa_cons (pv 6) pa_nil)))))))))))))))))),?_⟩
 refine ⟨rfl,fun l0 H0 l00 f0 s0=>⟨_,rfl,p,_,rfl,b.same s0,by decide,by decide,fun kk Hk k0 k1 bk xk=>?_⟩⟩
 obtain ⟨k,rfl⟩:=Int.eq_ofNat_of_zero_le k0
 have k15:k < 15:=by omega
 have sa:=sorts_at (k:=(k:Int)) (by omega) (by omega)
 rw [Int.toNat_natCast] at sa
 have nlp:l0 ≠ p:=b.ne l00
 refine ⟨l0,_,_,_,rfl,rfl,SqL.of (xk _ _ nlp f0),sa,?_⟩
 have b0:=bk
 have nm0:Nms Hk l zs:=nm.sx ((SameX.of s0).trans xk) np
 refine ⟨_,rfl,_,rfl,p,l,zs,rfl,b0,nm0,np,fun z1 H1 m1 b1 x1=>?_⟩
 refine ⟨_,rfl,_,rfl,p,l,zs,rfl,b1,nm0.sx x1 np,np,fun z2 H2 m2 b2 x2=>?_⟩
 refine ⟨_,rfl,_,rfl,p,l,zs,rfl,b2,nm0.sx (x1.trans x2) np,np,fun z3 H3 m3 b3 x3=>?_⟩
 have X3:SameX p H H3:=((SameX.of s0).trans xk).trans ((x1.trans x2).trans x3)
 have nm3:Nms H3 l zs:=nm.sx X3 np
 have NK:=nm.2.2.2
 have g1:Rg z1:=NK z1 m1
 have g2:Rg z2:=NK z2 m2
 have g3:Rg z3:=NK z3 m3
 clear sa f0 b0 nm0 x1 x2 x3 b1 b2 xk bk s0 b nm
 have ne:∀ j,j < 16→k ≠ j→¬ V.str (wOf k) = V.str (wOf j):=fun j hj h z=>h (wInj (by omega) hj z)
 refine ⟨_,rfl,rfl,_,rfl,?_⟩
 by_cases c0:k = 0
 ·subst c0
  refine iteD rfl ⟨_,rfl,_,rfl,_,rfl,p,_,rfl,b3,w0,w1,fun i H4 i0 i1 b4 x4=>⟨(by show 3≤sizeLine; decide),fun t ht=>?_⟩⟩
  exact q t (.set z1 i) _ upd_same ⟨g1,i0,i1⟩ m1 (b4.same (same_new ht _)) (X3.trans (x4.trans (SameX.of (same_new ht _))))
 refine iteDN (ne 0 (by decide) c0) ⟨_,rfl,rfl,_,rfl,?_⟩
 by_cases c1:k = 1
 ·subst c1
  refine iteD rfl ⟨_,rfl,_,rfl,(by show 3≤sizeLine; decide),fun t ht=>?_⟩
  exact q t (.copy z1 z2) _ upd_same ⟨g1,g2⟩ m1 (b3.same (same_new ht _)) (X3.trans (SameX.of (same_new ht _)))
 refine iteDN (ne 1 (by decide) c1) ?_
 refine ⟨_,rfl,rfl,_,rfl,?_⟩
 by_cases c2:k = 2
 ·subst c2
  refine iteD rfl ?_
  refine ⟨_,rfl,_,rfl,_,rfl,_,rfl,p,l,zs,rfl,b3,nm3,np,fun z4 H4 m4 b4 x4=>⟨(by show 2≤sizeLine; decide),fun m hm=>?_⟩⟩
  obtain ⟨G5,w5,s5,f5⟩:=newO hm (.lst [.non,.str z4])
  rw [w5]
  refine ⟨_,rfl,p,_,rfl,b4.same s5,by decide,by decide,fun d H6 d0 d1 b6 x6=>?_⟩
  obtain ⟨v,⟨cv,rfl,hv,hz⟩,ev⟩:=pickV (xs:=[.non,.str z4]) (Pr:=fun v=>∃ cv:Option Str,v = oV cv∧(∀ z,cv = some z→Rg z)∧∀ z,cv = some z→z ∈ zs) d0 d1 (allV ⟨⟨none,rfl,(fun z e=>nomatch e),fun z e=>nomatch e⟩,⟨some z4,rfl,(fun z e=>by injection e with e; rw [← e]; exact NK z4 m4),fun z e=>by injection e with e; rw [← e]; exact m4⟩,trivial⟩)
  refine ⟨m,_,_,_,rfl,rfl,SqL.of (x6 _ _ (b4.ne hm) f5),ev,_,rfl,_,rfl,(by show 5≤sizeLine; decide),fun t ht=>?_⟩
  exact q t (.car 2 z1 cv z2 z3) _ upd_same ⟨.inl rfl,g1,hv,g2,g3⟩ ⟨m1,hz⟩ (b6.same (same_new ht _)) (X3.trans (x4.trans ((SameX.of s5).trans (x6.trans (SameX.of (same_new ht _))))))
 refine iteDN (ne 2 (by decide) c2) ⟨_,rfl,rfl,_,rfl,?_⟩
 by_cases c3:k = 3
 ·subst c3
  refine iteD rfl ?_
  refine ⟨_,rfl,_,rfl,_,rfl,_,rfl,p,l,zs,rfl,b3,nm3,np,fun z4 H4 m4 b4 x4=>⟨(by show 2≤sizeLine; decide),fun m hm=>?_⟩⟩
  obtain ⟨G5,w5,s5,f5⟩:=newO hm (.lst [.non,.str z4])
  rw [w5]
  refine ⟨_,rfl,p,_,rfl,b4.same s5,by decide,by decide,fun d H6 d0 d1 b6 x6=>?_⟩
  obtain ⟨v,⟨cv,rfl,hv,hz⟩,ev⟩:=pickV (xs:=[.non,.str z4]) (Pr:=fun v=>∃ cv:Option Str,v = oV cv∧(∀ z,cv = some z→Rg z)∧∀ z,cv = some z→z ∈ zs) d0 d1 (allV ⟨⟨none,rfl,(fun z e=>nomatch e),fun z e=>nomatch e⟩,⟨some z4,rfl,(fun z e=>by injection e with e; rw [← e]; exact NK z4 m4),fun z e=>by injection e with e; rw [← e]; exact m4⟩,trivial⟩)
  refine ⟨m,_,_,_,rfl,rfl,SqL.of (x6 _ _ (b4.ne hm) f5),ev,_,rfl,_,rfl,(by show 5≤sizeLine; decide),fun t ht=>?_⟩
  exact q t (.car 3 z1 cv z2 z3) _ upd_same ⟨.inr rfl,g1,hv,g2,g3⟩ ⟨m1,hz⟩ (b6.same (same_new ht _)) (X3.trans (x4.trans ((SameX.of s5).trans (x6.trans (SameX.of (same_new ht _))))))
 refine iteDN (ne 3 (by decide) c3) ⟨_,rfl,rfl,_,rfl,?_⟩
 by_cases c6:k = 6
 ·subst c6
  refine iteD rfl ?_
  refine ⟨_,rfl,_,rfl,_,rfl,_,rfl,_,_,rfl,rfl,_,rfl,_,rfl,p,_,rfl,b3,by omega,by omega,fun d4 H4 q0 q1 b4 x4=>⟨(by show 3≤sizeLine; decide),fun m hm=>?_⟩⟩
  obtain ⟨G5,w5,s5,f5⟩:=newO hm (.lst [.int 0,.int (w' - 1),.int d4])
  rw [w5]
  refine ⟨_,rfl,p,_,rfl,b4.same s5,by decide,by decide,fun d H6 d0 d1 b6 x6=>?_⟩
  obtain ⟨v,⟨j,rfl,j0,j1⟩,ev⟩:=pickV (xs:=[.int 0,.int (w' - 1),.int d4]) (Pr:=fun v=>∃ j:Int,v = .int j∧0≤j∧j < w') d0 d1 (allV ⟨⟨_,rfl,by omega,by omega⟩,⟨_,rfl,by omega,by omega⟩,⟨_,rfl,by omega,by omega⟩,trivial⟩)
  refine ⟨m,_,_,_,rfl,rfl,SqL.of (x6 _ _ (b4.ne hm) f5),ev,(by show 4≤sizeLine; decide),fun t ht=>?_⟩
  exact q t (.mv 6 z1 z2 j) _ upd_same ⟨.inl rfl,g1,g2,j0,j1⟩ m1 (b6.same (same_new ht _)) (X3.trans (x4.trans ((SameX.of s5).trans (x6.trans (SameX.of (same_new ht _))))))
 refine iteDN (ne 6 (by decide) c6) ⟨_,rfl,rfl,_,rfl,?_⟩
 by_cases c7:k = 7
 ·subst c7
  refine iteD rfl ?_
  refine ⟨_,rfl,_,rfl,_,rfl,_,rfl,_,_,rfl,rfl,_,rfl,_,rfl,p,_,rfl,b3,by omega,by omega,fun d4 H4 q0 q1 b4 x4=>⟨(by show 3≤sizeLine; decide),fun m hm=>?_⟩⟩
  obtain ⟨G5,w5,s5,f5⟩:=newO hm (.lst [.int 0,.int (w' - 1),.int d4])
  rw [w5]
  refine ⟨_,rfl,p,_,rfl,b4.same s5,by decide,by decide,fun d H6 d0 d1 b6 x6=>?_⟩
  obtain ⟨v,⟨j,rfl,j0,j1⟩,ev⟩:=pickV (xs:=[.int 0,.int (w' - 1),.int d4]) (Pr:=fun v=>∃ j:Int,v = .int j∧0≤j∧j < w') d0 d1 (allV ⟨⟨_,rfl,by omega,by omega⟩,⟨_,rfl,by omega,by omega⟩,⟨_,rfl,by omega,by omega⟩,trivial⟩)
  refine ⟨m,_,_,_,rfl,rfl,SqL.of (x6 _ _ (b4.ne hm) f5),ev,(by show 4≤sizeLine; decide),fun t ht=>?_⟩
  exact q t (.mv 7 z1 z2 j) _ upd_same ⟨.inr (.inl rfl),g1,g2,j0,j1⟩ m1 (b6.same (same_new ht _)) (X3.trans (x4.trans ((SameX.of s5).trans (x6.trans (SameX.of (same_new ht _))))))
 refine iteDN (ne 7 (by decide) c7) ⟨_,rfl,rfl,_,rfl,?_⟩
 by_cases c8:k = 8
 ·subst c8
  refine iteD rfl ?_
  refine ⟨_,rfl,_,rfl,_,rfl,_,rfl,_,_,rfl,rfl,_,rfl,_,rfl,p,_,rfl,b3,by omega,by omega,fun d4 H4 q0 q1 b4 x4=>⟨(by show 3≤sizeLine; decide),fun m hm=>?_⟩⟩
  obtain ⟨G5,w5,s5,f5⟩:=newO hm (.lst [.int 0,.int (w' - 1),.int d4])
  rw [w5]
  refine ⟨_,rfl,p,_,rfl,b4.same s5,by decide,by decide,fun d H6 d0 d1 b6 x6=>?_⟩
  obtain ⟨v,⟨j,rfl,j0,j1⟩,ev⟩:=pickV (xs:=[.int 0,.int (w' - 1),.int d4]) (Pr:=fun v=>∃ j:Int,v = .int j∧0≤j∧j < w') d0 d1 (allV ⟨⟨_,rfl,by omega,by omega⟩,⟨_,rfl,by omega,by omega⟩,⟨_,rfl,by omega,by omega⟩,trivial⟩)
  refine ⟨m,_,_,_,rfl,rfl,SqL.of (x6 _ _ (b4.ne hm) f5),ev,(by show 4≤sizeLine; decide),fun t ht=>?_⟩
  exact q t (.mv 8 z1 z2 j) _ upd_same ⟨.inr (.inr rfl),g1,g2,j0,j1⟩ m1 (b6.same (same_new ht _)) (X3.trans (x4.trans ((SameX.of s5).trans (x6.trans (SameX.of (same_new ht _))))))
 refine iteDN (ne 8 (by decide) c8) ⟨_,rfl,rfl,_,rfl,?_⟩
 by_cases c13:k = 13
 ·subst c13
  refine iteD rfl ⟨_,rfl,_,rfl,_,rfl,p,l,zs,rfl,b3,nm3,np,fun z4 H4 m4 b4 x4=>⟨_,rfl,_,rfl,(by show 5≤sizeLine; decide),fun t ht=>?_⟩⟩
  exact q t (.pick z1 z4 z2 z3) _ upd_same ⟨g1,NK z4 m4,g2,g3⟩ m1 (b4.same (same_new ht _)) (X3.trans (x4.trans (SameX.of (same_new ht _))))
 refine iteDN (ne 13 (by decide) c13) ⟨_,rfl,rfl,_,rfl,?_⟩
 by_cases c14:k = 14
 ·subst c14
  refine iteD rfl ⟨_,rfl,p,_,rfl,b3,by decide,by decide,fun d4 H4 q0 q1 b4 x4=>⟨_,rfl,p,_,rfl,b4,by decide,by decide,fun d5 H5 r0 r1 b5 x5=>⟨(by show 4≤sizeLine; decide),fun m hm=>?_⟩⟩⟩
  obtain ⟨G6,w6,s6,f6⟩:=newO hm (.lst [.int 0,.int 9999,.int d4,.int d5])
  rw [w6]
  refine ⟨_,rfl,p,_,rfl,b5.same s6,by decide,by decide,fun d H7 d0 d1 b7 x7=>?_⟩
  obtain ⟨v,⟨n,rfl,n0,n1⟩,ev⟩:=pickV (xs:=[.int 0,.int 9999,.int d4,.int d5]) (Pr:=fun v=>∃ j:Int,v = .int j∧0≤j∧j≤9999) d0 d1 (allV ⟨⟨_,rfl,by omega,by omega⟩,⟨_,rfl,by omega,by omega⟩,⟨_,rfl,by omega,by omega⟩,⟨_,rfl,by omega,by omega⟩,trivial⟩)
  refine ⟨m,_,_,_,rfl,rfl,SqL.of (x7 _ _ (b5.ne hm) f6),ev,?_⟩
  refine ⟨_,rfl,(by show 3≤sizeLine; decide),fun m' hm'=>?_⟩
  obtain ⟨G8,w8,s8,f8⟩:=newO hm' (.lst [.str "round",.str "stop",.str "nothing"])
  rw [w8]
  refine ⟨_,rfl,p,_,rfl,b7.same s8,by decide,by decide,fun d H9 d0 d1 b9 x9=>?_⟩
  obtain ⟨v',⟨mm,rfl,hmm⟩,ev'⟩:=pickV (xs:=[.str "round",.str "stop",.str "nothing"]) (Pr:=fun v=>∃ mm:Str,v = .str mm∧(mm = "round"∨mm = "stop"∨mm = "nothing")) d0 d1 (allV ⟨⟨_,rfl,.inl rfl⟩,⟨_,rfl,.inr (.inl rfl)⟩,⟨_,rfl,.inr (.inr rfl)⟩,trivial⟩)
  refine ⟨m',_,_,_,rfl,rfl,SqL.of (x9 _ _ (b7.ne hm') f8),ev',_,rfl,(by show 4≤sizeLine; decide),fun t ht=>?_⟩
  exact q t (.mark n mm z2) _ upd_same ⟨n0,n1,hmm,g2⟩ trivial (b9.same (same_new ht _)) (X3.trans (x4.trans (x5.trans ((SameX.of s6).trans (x7.trans ((SameX.of s8).trans (x9.trans (SameX.of (same_new ht _)))))))))
 refine iteDN (ne 14 (by decide) c14) ⟨_,rfl,_,rfl,_,rfl,_,rfl,(by show 4≤sizeLine; decide),fun t ht=>?_⟩
 exact q t (.jn k z1 z2 z3) _ upd_same ⟨by omega,g1,g2,g3⟩ m1 (b3.same (same_new ht _)) (X3.trans (SameX.of (same_new ht _)))
theorem made_same {x dx C:Addr} {H H':Hp} (hx:H x = none) (hd:H dx = none) (s:SameX x (upd (upd H dx (.own x)) x (.ins C dx [])) H'):Same H H':=fun b o h=>s b o (ne_of_none h hx) (by rw [upd_ne (ne_of_none h hx),upd_ne (ne_of_none h hd)]; exact h)
def spMade (c:Ad) (ks:List Nat):Sp:=fun vs H Q _=>∃ (t:Addr) (k:Nat) (fs:List V),vs = [.ref t]∧H t = some (.tup (.str (wOf k) :: fs))∧k ∈ ks∧fs.length = (nOf k).length∧∀ (x:Addr) H',H x = none→StepAt c H' x k fs→Same H H'→Q (.ref x) H'
theorem ok__law_made_pair {f:Addr} {fd:FuncData} (F:Fun K "_law_made_pair" "_law_made_pair" s__law_made_pair f fd) (T:Txt K mg c)  (C_Mark:CHas P w K mg base 1 c.Mark "Mark" ["self", "line", "mark", "by"] (spInit K ["line", "mark", "by"])) (C_Low:CHas P w K mg base 1 c.Low "Low" ["self", "goal", "one", "other"] (spInit K ["goal", "one", "other"])) (C_High:CHas P w K mg base 1 c.High "High" ["self", "goal", "one", "other"] (spInit K ["goal", "one", "other"])) (C_And:CHas P w K mg base 1 c.And "And" ["self", "goal", "one", "other"] (spInit K ["goal", "one", "other"])) (C_Or:CHas P w K mg base 1 c.Or "Or" ["self", "goal", "one", "other"] (spInit K ["goal", "one", "other"])) (C_Unlike:CHas P w K mg base 1 c.Unlike "Unlike" ["self", "goal", "one", "other"] (spInit K ["goal", "one", "other"])) (C_Under:CHas P w K mg base 1 c.Under "Under" ["self", "goal", "one", "other"] (spInit K ["goal", "one", "other"])) (C_Left:CHas P w K mg base 1 c.Left "Left" ["self", "goal", "one", "k"] (spInit K ["goal", "one", "k"])) (C_Right:CHas P w K mg base 1 c.Right "Right" ["self", "goal", "one", "k"] (spInit K ["goal", "one", "k"])) (C_Slide:CHas P w K mg base 1 c.Slide "Slide" ["self", "goal", "one", "k"] (spInit K ["goal", "one", "k"])):FnOk P w K mg base CX0 3 f fd ["_law_row_here"] (spMade c [4,5,9,10,11,12,6,7,8,14]):=by
 refine F.ok sc__law_made_pair (fun vs H Q E h=>?_) (fun cdv A outer s H vs Q E hr h=>?_)
 ·obtain ⟨t,k,fs,rfl,_⟩:=h
  rfl
 obtain ⟨t,k,fs,rfl,ht,hk,ln,q⟩:=h
 refine ⟨_,(pss_cons (ps_if (pt_cmpR op_eq (pe_ix ix_tup (pv 0) pe_int (fun _ _=>rfl)) pe_str (nomark _))
   (pss_one (ps_ret (pe_mkP C_Low (hr.mono (by omega)) rfl (pa_cons (pe_ix ix_tup (pv 0) pe_int (fun _ _=>rfl)) (pa_cons (pe_ix ix_tup (pv 0) pe_int (fun _ _=>rfl)) (pa_cons (pe_ix ix_tup (pv 0) pe_int (fun _ _=>rfl)) pa_nil))))))
   pss_nil)
  (pss_cons (ps_if (pt_cmpR op_eq (pe_ix ix_tup (pv 0) pe_int (fun _ _=>rfl)) pe_str (nomark _))
   (pss_one (ps_ret (pe_mkP C_High (hr.mono (by omega)) rfl (pa_cons (pe_ix ix_tup (pv 0) pe_int (fun _ _=>rfl)) (pa_cons (pe_ix ix_tup (pv 0) pe_int (fun _ _=>rfl)) (pa_cons (pe_ix ix_tup (pv 0) pe_int (fun _ _=>rfl)) pa_nil))))))
   pss_nil)
  (pss_cons (ps_if (pt_cmpR op_eq (pe_ix ix_tup (pv 0) pe_int (fun _ _=>rfl)) pe_str (nomark _))
   (pss_one (ps_ret (pe_mkP C_And (hr.mono (by omega)) rfl (pa_cons (pe_ix ix_tup (pv 0) pe_int (fun _ _=>rfl)) (pa_cons (pe_ix ix_tup (pv 0) pe_int (fun _ _=>rfl)) (pa_cons (pe_ix ix_tup (pv 0) pe_int (fun _ _=>rfl)) pa_nil))))))
   pss_nil)
  (pss_cons (ps_if (pt_cmpR op_eq (pe_ix ix_tup (pv 0) pe_int (fun _ _=>rfl)) pe_str (nomark _))
   (pss_one (ps_ret (pe_mkP C_Or (hr.mono (by omega)) rfl (pa_cons (pe_ix ix_tup (pv 0) pe_int (fun _ _=>rfl)) (pa_cons (pe_ix ix_tup (pv 0) pe_int (fun _ _=>rfl)) (pa_cons (pe_ix ix_tup (pv 0) pe_int (fun _ _=>rfl)) pa_nil))))))
   pss_nil)
  (pss_cons (ps_if (pt_cmpR op_eq (pe_ix ix_tup (pv 0) pe_int (fun _ _=>rfl)) pe_str (nomark _))
   (pss_one (ps_ret (pe_mkP C_Unlike (hr.mono (by omega)) rfl (pa_cons (pe_ix ix_tup (pv 0) pe_int (fun _ _=>rfl)) (pa_cons (pe_ix ix_tup (pv 0) pe_int (fun _ _=>rfl)) (pa_cons (pe_ix ix_tup (pv 0) pe_int (fun _ _=>rfl)) pa_nil))))))
   pss_nil)
  (pss_cons (ps_if (pt_cmpR op_eq (pe_ix ix_tup (pv 0) pe_int (fun _ _=>rfl)) pe_str (nomark _))
   (pss_one (ps_ret (pe_mkP C_Under (hr.mono (by omega)) rfl (pa_cons (pe_ix ix_tup (pv 0) pe_int (fun _ _=>rfl)) (pa_cons (pe_ix ix_tup (pv 0) pe_int (fun _ _=>rfl)) (pa_cons (pe_ix ix_tup (pv 0) pe_int (fun _ _=>rfl)) pa_nil))))))
   pss_nil)
  (pss_cons (ps_if (pt_cmpR op_eq (pe_ix ix_tup (pv 0) pe_int (fun _ _=>rfl)) pe_str (nomark _))
   (pss_one (ps_ret (pe_mkP C_Left (hr.mono (by omega)) rfl (pa_cons (pe_ix ix_tup (pv 0) pe_int (fun _ _=>rfl)) (pa_cons (pe_ix ix_tup (pv 0) pe_int (fun _ _=>rfl)) (pa_cons (pe_ix ix_tup (pv 0) pe_int (fun _ _=>rfl)) pa_nil))))))
   pss_nil)
  (pss_cons (ps_if (pt_cmpR op_eq (pe_ix ix_tup (pv 0) pe_int (fun _ _=>rfl)) pe_str (nomark _))
   (pss_one (ps_ret (pe_mkP C_Right (hr.mono (by omega)) rfl (pa_cons (pe_ix ix_tup (pv 0) pe_int (fun _ _=>rfl)) (pa_cons (pe_ix ix_tup (pv 0) pe_int (fun _ _=>rfl)) (pa_cons (pe_ix ix_tup (pv 0) pe_int (fun _ _=>rfl)) pa_nil))))))
   pss_nil)
  (pss_cons (ps_if (pt_cmpR op_eq (pe_ix ix_tup (pv 0) pe_int (fun _ _=>rfl)) pe_str (nomark _))
   (pss_one (ps_ret (pe_mkP C_Slide (hr.mono (by omega)) rfl (pa_cons (pe_ix ix_tup (pv 0) pe_int (fun _ _=>rfl)) (pa_cons (pe_ix ix_tup (pv 0) pe_int (fun _ _=>rfl)) (pa_cons (pe_ix ix_tup (pv 0) pe_int (fun _ _=>rfl)) pa_nil))))))
   pss_nil)
  (pss_one (ps_ret (pe_mkP C_Mark (hr.mono (by omega)) rfl (pa_cons (pe_ix ix_tup (pv 0) pe_int (fun _ _=>rfl)) (pa_cons (pe_ix ix_tup (pv 0) pe_int (fun _ _=>rfl)) (pa_cons (pe_ix ix_tup (pv 0) pe_int (fun _ _=>rfl)) pa_nil))))))))))))))),?_⟩
 have k15:k < 15:=by simp only [List.mem_cons,List.not_mem_nil,or_false] at hk; omega
 have ne:∀ j,j < 16→k ≠ j→¬ V.str (wOf k) = V.str (wOf j):=fun j hj h z=>h (wInj (by omega) hj z)
 refine ⟨_,rfl,t,_,_,_,rfl,rfl,SqT.of ht,at0 _ _,rfl,_,rfl,?_⟩
 by_cases c4:k = 4
 ·subst c4
  obtain ⟨a0,a1,a2,rfl⟩:=len3 ln
  obtain ⟨cl,na⟩:=T.clF (k:=4) (by decide)
  refine iteD rfl ⟨_,rfl,t,_,_,_,rfl,rfl,SqT.of ht,rfl,_,rfl,t,_,_,_,rfl,rfl,SqT.of ht,rfl,_,rfl,t,_,_,_,rfl,rfl,SqT.of ht,rfl,fun x dx hx hdx hne=>⟨x,_,dx,_,rfl,rfl,upd_same,cl,na,fun H' hx' sx=>⟨rfl,q x H' hx ⟨dx,hx',rfl⟩ (made_same hx hdx sx)⟩⟩⟩
 refine iteDN (ne 4 (by decide) c4) ?_
 refine ⟨_,rfl,t,_,_,_,rfl,rfl,SqT.of ht,at0 _ _,rfl,_,rfl,?_⟩
 by_cases c5:k = 5
 ·subst c5
  obtain ⟨a0,a1,a2,rfl⟩:=len3 ln
  obtain ⟨cl,na⟩:=T.clF (k:=5) (by decide)
  refine iteD rfl ⟨_,rfl,t,_,_,_,rfl,rfl,SqT.of ht,rfl,_,rfl,t,_,_,_,rfl,rfl,SqT.of ht,rfl,_,rfl,t,_,_,_,rfl,rfl,SqT.of ht,rfl,fun x dx hx hdx hne=>⟨x,_,dx,_,rfl,rfl,upd_same,cl,na,fun H' hx' sx=>⟨rfl,q x H' hx ⟨dx,hx',rfl⟩ (made_same hx hdx sx)⟩⟩⟩
 refine iteDN (ne 5 (by decide) c5) ?_
 refine ⟨_,rfl,t,_,_,_,rfl,rfl,SqT.of ht,at0 _ _,rfl,_,rfl,?_⟩
 by_cases c9:k = 9
 ·subst c9
  obtain ⟨a0,a1,a2,rfl⟩:=len3 ln
  obtain ⟨cl,na⟩:=T.clF (k:=9) (by decide)
  refine iteD rfl ⟨_,rfl,t,_,_,_,rfl,rfl,SqT.of ht,rfl,_,rfl,t,_,_,_,rfl,rfl,SqT.of ht,rfl,_,rfl,t,_,_,_,rfl,rfl,SqT.of ht,rfl,fun x dx hx hdx hne=>⟨x,_,dx,_,rfl,rfl,upd_same,cl,na,fun H' hx' sx=>⟨rfl,q x H' hx ⟨dx,hx',rfl⟩ (made_same hx hdx sx)⟩⟩⟩
 refine iteDN (ne 9 (by decide) c9) ?_
 refine ⟨_,rfl,t,_,_,_,rfl,rfl,SqT.of ht,at0 _ _,rfl,_,rfl,?_⟩
 by_cases c10:k = 10
 ·subst c10
  obtain ⟨a0,a1,a2,rfl⟩:=len3 ln
  obtain ⟨cl,na⟩:=T.clF (k:=10) (by decide)
  refine iteD rfl ⟨_,rfl,t,_,_,_,rfl,rfl,SqT.of ht,rfl,_,rfl,t,_,_,_,rfl,rfl,SqT.of ht,rfl,_,rfl,t,_,_,_,rfl,rfl,SqT.of ht,rfl,fun x dx hx hdx hne=>⟨x,_,dx,_,rfl,rfl,upd_same,cl,na,fun H' hx' sx=>⟨rfl,q x H' hx ⟨dx,hx',rfl⟩ (made_same hx hdx sx)⟩⟩⟩
 refine iteDN (ne 10 (by decide) c10) ?_
 refine ⟨_,rfl,t,_,_,_,rfl,rfl,SqT.of ht,at0 _ _,rfl,_,rfl,?_⟩
 by_cases c11:k = 11
 ·subst c11
  obtain ⟨a0,a1,a2,rfl⟩:=len3 ln
  obtain ⟨cl,na⟩:=T.clF (k:=11) (by decide)
  refine iteD rfl ⟨_,rfl,t,_,_,_,rfl,rfl,SqT.of ht,rfl,_,rfl,t,_,_,_,rfl,rfl,SqT.of ht,rfl,_,rfl,t,_,_,_,rfl,rfl,SqT.of ht,rfl,fun x dx hx hdx hne=>⟨x,_,dx,_,rfl,rfl,upd_same,cl,na,fun H' hx' sx=>⟨rfl,q x H' hx ⟨dx,hx',rfl⟩ (made_same hx hdx sx)⟩⟩⟩
 refine iteDN (ne 11 (by decide) c11) ?_
 refine ⟨_,rfl,t,_,_,_,rfl,rfl,SqT.of ht,at0 _ _,rfl,_,rfl,?_⟩
 by_cases c12:k = 12
 ·subst c12
  obtain ⟨a0,a1,a2,rfl⟩:=len3 ln
  obtain ⟨cl,na⟩:=T.clF (k:=12) (by decide)
  refine iteD rfl ⟨_,rfl,t,_,_,_,rfl,rfl,SqT.of ht,rfl,_,rfl,t,_,_,_,rfl,rfl,SqT.of ht,rfl,_,rfl,t,_,_,_,rfl,rfl,SqT.of ht,rfl,fun x dx hx hdx hne=>⟨x,_,dx,_,rfl,rfl,upd_same,cl,na,fun H' hx' sx=>⟨rfl,q x H' hx ⟨dx,hx',rfl⟩ (made_same hx hdx sx)⟩⟩⟩
 refine iteDN (ne 12 (by decide) c12) ?_
 refine ⟨_,rfl,t,_,_,_,rfl,rfl,SqT.of ht,at0 _ _,rfl,_,rfl,?_⟩
 by_cases c6:k = 6
 ·subst c6
  obtain ⟨a0,a1,a2,rfl⟩:=len3 ln
  obtain ⟨cl,na⟩:=T.clF (k:=6) (by decide)
  refine iteD rfl ⟨_,rfl,t,_,_,_,rfl,rfl,SqT.of ht,rfl,_,rfl,t,_,_,_,rfl,rfl,SqT.of ht,rfl,_,rfl,t,_,_,_,rfl,rfl,SqT.of ht,rfl,fun x dx hx hdx hne=>⟨x,_,dx,_,rfl,rfl,upd_same,cl,na,fun H' hx' sx=>⟨rfl,q x H' hx ⟨dx,hx',rfl⟩ (made_same hx hdx sx)⟩⟩⟩
 refine iteDN (ne 6 (by decide) c6) ?_
 refine ⟨_,rfl,t,_,_,_,rfl,rfl,SqT.of ht,at0 _ _,rfl,_,rfl,?_⟩
 by_cases c7:k = 7
 ·subst c7
  obtain ⟨a0,a1,a2,rfl⟩:=len3 ln
  obtain ⟨cl,na⟩:=T.clF (k:=7) (by decide)
  refine iteD rfl ⟨_,rfl,t,_,_,_,rfl,rfl,SqT.of ht,rfl,_,rfl,t,_,_,_,rfl,rfl,SqT.of ht,rfl,_,rfl,t,_,_,_,rfl,rfl,SqT.of ht,rfl,fun x dx hx hdx hne=>⟨x,_,dx,_,rfl,rfl,upd_same,cl,na,fun H' hx' sx=>⟨rfl,q x H' hx ⟨dx,hx',rfl⟩ (made_same hx hdx sx)⟩⟩⟩
 refine iteDN (ne 7 (by decide) c7) ?_
 refine ⟨_,rfl,t,_,_,_,rfl,rfl,SqT.of ht,at0 _ _,rfl,_,rfl,?_⟩
 by_cases c8:k = 8
 ·subst c8
  obtain ⟨a0,a1,a2,rfl⟩:=len3 ln
  obtain ⟨cl,na⟩:=T.clF (k:=8) (by decide)
  refine iteD rfl ⟨_,rfl,t,_,_,_,rfl,rfl,SqT.of ht,rfl,_,rfl,t,_,_,_,rfl,rfl,SqT.of ht,rfl,_,rfl,t,_,_,_,rfl,rfl,SqT.of ht,rfl,fun x dx hx hdx hne=>⟨x,_,dx,_,rfl,rfl,upd_same,cl,na,fun H' hx' sx=>⟨rfl,q x H' hx ⟨dx,hx',rfl⟩ (made_same hx hdx sx)⟩⟩⟩
 refine iteDN (ne 8 (by decide) c8) ?_
 have e14:k = 14:=by simp only [List.mem_cons,List.not_mem_nil,or_false] at hk; omega
 subst e14
 obtain ⟨a0,a1,a2,rfl⟩:=len3 ln
 obtain ⟨cl,na⟩:=T.clF (k:=14) (by decide)
 refine ⟨_,rfl,t,_,_,_,rfl,rfl,SqT.of ht,rfl,_,rfl,t,_,_,_,rfl,rfl,SqT.of ht,rfl,_,rfl,t,_,_,_,rfl,rfl,SqT.of ht,rfl,fun x dx hx hdx hne=>⟨x,_,dx,_,rfl,rfl,upd_same,cl,na,fun H' hx' sx=>⟨rfl,q x H' hx ⟨dx,hx',rfl⟩ (made_same hx hdx sx)⟩⟩⟩
theorem ok__law_made {f:Addr} {fd:FuncData} (F:Fun K "_law_made" "_law_made" s__law_made f fd) (T:Txt K mg c) (H__law_made_pair:Has P w K mg base 3 "_law_made_pair" ["_law_row_here"] (spMade c [4,5,9,10,11,12,6,7,8,14])) (C_Set:CHas P w K mg base 1 c.Set "Set" ["self", "goal", "bits"] (spInit K ["goal", "bits"])) (C_Copy:CHas P w K mg base 1 c.Copy "Copy" ["self", "goal", "one"] (spInit K ["goal", "one"])) (C_Sum:CHas P w K mg base 1 c.Sum "Sum" ["self", "goal", "carry", "one", "other"] (spInit K ["goal", "carry", "one", "other"])) (C_Gap:CHas P w K mg base 1 c.Gap "Gap" ["self", "goal", "carry", "one", "other"] (spInit K ["goal", "carry", "one", "other"])) (C_Pick:CHas P w K mg base 1 c.Pick "Pick" ["self", "goal", "by", "one", "other"] (spInit K ["goal", "by", "one", "other"])):FnOk P w K mg base CX0 4 f fd ["_law_row_here"] (spMade c [0,1,2,3,4,5,6,7,8,9,10,11,12,13,14]):=by
 refine F.ok sc__law_made (fun vs H Q E h=>?_) (fun cdv A outer s H vs Q E hr h=>?_)
 ·obtain ⟨t,k,fs,rfl,_⟩:=h
  rfl
 obtain ⟨t,k,fs,rfl,ht,hk,ln,q⟩:=h
 refine ⟨_,(pss_cons (ps_if (pt_cmpR op_eq (pe_ix ix_tup (pv 0) pe_int (fun _ _=>rfl)) pe_str (nomark _))
   (pss_one (ps_ret (pe_mkP C_Set (hr.mono (by omega)) rfl (pa_cons (pe_ix ix_tup (pv 0) pe_int (fun _ _=>rfl)) (pa_cons (pe_ix ix_tup (pv 0) pe_int (fun _ _=>rfl)) pa_nil)))))
   pss_nil)
  (pss_cons (ps_if (pt_cmpR op_eq (pe_ix ix_tup (pv 0) pe_int (fun _ _=>rfl)) pe_str (nomark _))
   (pss_one (ps_ret (pe_mkP C_Copy (hr.mono (by omega)) rfl (pa_cons (pe_ix ix_tup (pv 0) pe_int (fun _ _=>rfl)) (pa_cons (pe_ix ix_tup (pv 0) pe_int (fun _ _=>rfl)) pa_nil)))))
   pss_nil)
  (pss_cons (ps_if (pt_cmpR op_eq (pe_ix ix_tup (pv 0) pe_int (fun _ _=>rfl)) pe_str (nomark _))
   (pss_one (ps_ret (pe_mkP C_Sum (hr.mono (by omega)) rfl (pa_cons (pe_ix ix_tup (pv 0) pe_int (fun _ _=>rfl)) (pa_cons (pe_ix ix_tup (pv 0) pe_int (fun _ _=>rfl)) (pa_cons (pe_ix ix_tup (pv 0) pe_int (fun _ _=>rfl)) (pa_cons (pe_ix ix_tup (pv 0) pe_int (fun _ _=>rfl)) pa_nil)))))))
   pss_nil)
  (pss_cons (ps_if (pt_cmpR op_eq (pe_ix ix_tup (pv 0) pe_int (fun _ _=>rfl)) pe_str (nomark _))
   (pss_one (ps_ret (pe_mkP C_Gap (hr.mono (by omega)) rfl (pa_cons (pe_ix ix_tup (pv 0) pe_int (fun _ _=>rfl)) (pa_cons (pe_ix ix_tup (pv 0) pe_int (fun _ _=>rfl)) (pa_cons (pe_ix ix_tup (pv 0) pe_int (fun _ _=>rfl)) (pa_cons (pe_ix ix_tup (pv 0) pe_int (fun _ _=>rfl)) pa_nil)))))))
   pss_nil)
  (pss_cons (ps_if (pt_cmpR op_eq (pe_ix ix_tup (pv 0) pe_int (fun _ _=>rfl)) pe_str (nomark _))
   (pss_one (ps_ret (pe_mkP C_Pick (hr.mono (by omega)) rfl (pa_cons (pe_ix ix_tup (pv 0) pe_int (fun _ _=>rfl)) (pa_cons (pe_ix ix_tup (pv 0) pe_int (fun _ _=>rfl)) (pa_cons (pe_ix ix_tup (pv 0) pe_int (fun _ _=>rfl)) (pa_cons (pe_ix ix_tup (pv 0) pe_int (fun _ _=>rfl)) pa_nil)))))))
   pss_nil)
  (pss_one (ps_ret (pe_fn H__law_made_pair (hr.mono (by omega)) rfl (pa_cons (pv 0) pa_nil))))))))),?_⟩
 have k15:k < 15:=by simp only [List.mem_cons,List.not_mem_nil,or_false] at hk; omega
 have ne:∀ j,j < 16→k ≠ j→¬ V.str (wOf k) = V.str (wOf j):=fun j hj h z=>h (wInj (by omega) hj z)
 refine ⟨_,rfl,t,_,_,_,rfl,rfl,SqT.of ht,at0 _ _,rfl,_,rfl,?_⟩
 by_cases c0:k = 0
 ·subst c0
  obtain ⟨a0,a1,rfl⟩:=len2 ln
  obtain ⟨cl,na⟩:=T.clF (k:=0) (by decide)
  refine iteD rfl ⟨_,rfl,t,_,_,_,rfl,rfl,SqT.of ht,rfl,_,rfl,t,_,_,_,rfl,rfl,SqT.of ht,rfl,fun x dx hx hdx hne=>⟨x,_,dx,_,rfl,rfl,upd_same,cl,na,fun H' hx' sx=>⟨rfl,q x H' hx ⟨dx,hx',rfl⟩ (made_same hx hdx sx)⟩⟩⟩
 refine iteDN (ne 0 (by decide) c0) ?_
 refine ⟨_,rfl,t,_,_,_,rfl,rfl,SqT.of ht,at0 _ _,rfl,_,rfl,?_⟩
 by_cases c1:k = 1
 ·subst c1
  obtain ⟨a0,a1,rfl⟩:=len2 ln
  obtain ⟨cl,na⟩:=T.clF (k:=1) (by decide)
  refine iteD rfl ⟨_,rfl,t,_,_,_,rfl,rfl,SqT.of ht,rfl,_,rfl,t,_,_,_,rfl,rfl,SqT.of ht,rfl,fun x dx hx hdx hne=>⟨x,_,dx,_,rfl,rfl,upd_same,cl,na,fun H' hx' sx=>⟨rfl,q x H' hx ⟨dx,hx',rfl⟩ (made_same hx hdx sx)⟩⟩⟩
 refine iteDN (ne 1 (by decide) c1) ?_
 refine ⟨_,rfl,t,_,_,_,rfl,rfl,SqT.of ht,at0 _ _,rfl,_,rfl,?_⟩
 by_cases c2:k = 2
 ·subst c2
  obtain ⟨a0,a1,a2,a3,rfl⟩:=len4 ln
  obtain ⟨cl,na⟩:=T.clF (k:=2) (by decide)
  refine iteD rfl ⟨_,rfl,t,_,_,_,rfl,rfl,SqT.of ht,rfl,_,rfl,t,_,_,_,rfl,rfl,SqT.of ht,rfl,_,rfl,t,_,_,_,rfl,rfl,SqT.of ht,rfl,_,rfl,t,_,_,_,rfl,rfl,SqT.of ht,rfl,fun x dx hx hdx hne=>⟨x,_,dx,_,rfl,rfl,upd_same,cl,na,fun H' hx' sx=>⟨rfl,q x H' hx ⟨dx,hx',rfl⟩ (made_same hx hdx sx)⟩⟩⟩
 refine iteDN (ne 2 (by decide) c2) ?_
 refine ⟨_,rfl,t,_,_,_,rfl,rfl,SqT.of ht,at0 _ _,rfl,_,rfl,?_⟩
 by_cases c3:k = 3
 ·subst c3
  obtain ⟨a0,a1,a2,a3,rfl⟩:=len4 ln
  obtain ⟨cl,na⟩:=T.clF (k:=3) (by decide)
  refine iteD rfl ⟨_,rfl,t,_,_,_,rfl,rfl,SqT.of ht,rfl,_,rfl,t,_,_,_,rfl,rfl,SqT.of ht,rfl,_,rfl,t,_,_,_,rfl,rfl,SqT.of ht,rfl,_,rfl,t,_,_,_,rfl,rfl,SqT.of ht,rfl,fun x dx hx hdx hne=>⟨x,_,dx,_,rfl,rfl,upd_same,cl,na,fun H' hx' sx=>⟨rfl,q x H' hx ⟨dx,hx',rfl⟩ (made_same hx hdx sx)⟩⟩⟩
 refine iteDN (ne 3 (by decide) c3) ?_
 refine ⟨_,rfl,t,_,_,_,rfl,rfl,SqT.of ht,at0 _ _,rfl,_,rfl,?_⟩
 by_cases c13:k = 13
 ·subst c13
  obtain ⟨a0,a1,a2,a3,rfl⟩:=len4 ln
  obtain ⟨cl,na⟩:=T.clF (k:=13) (by decide)
  refine iteD rfl ⟨_,rfl,t,_,_,_,rfl,rfl,SqT.of ht,rfl,_,rfl,t,_,_,_,rfl,rfl,SqT.of ht,rfl,_,rfl,t,_,_,_,rfl,rfl,SqT.of ht,rfl,_,rfl,t,_,_,_,rfl,rfl,SqT.of ht,rfl,fun x dx hx hdx hne=>⟨x,_,dx,_,rfl,rfl,upd_same,cl,na,fun H' hx' sx=>⟨rfl,q x H' hx ⟨dx,hx',rfl⟩ (made_same hx hdx sx)⟩⟩⟩
 refine iteDN (ne 13 (by decide) c13) ?_
 exact ⟨_,rfl,t,k,fs,rfl,ht,(by simp only [List.mem_cons,List.not_mem_nil,or_false] at hk ⊢; omega),ln,q⟩
theorem hu2 {A:Around} {k:Nat} (hr:Room k A):A.units + 1 + 1 < cLine:=by have:=hr.un; omega
theorem selfE {K:PySem.W.Frag} {H:Hp} {d:Nat} {x:V} (h:flatV x = true∨∃ a,x = .ref a):EqD K H d x x true:=by
 rcases h with h | ⟨a,rfl⟩
 ·have e:eqV x x = true:=by
   cases x <;> first | rfl | (cases h; done) | (simp [eqV])
  have z:=EqD.flat (K:=K) (H:=H) (d:=d) h h
  rw [e] at z
  exact z
 ·exact EqD.same
theorem aT {n:Nat}:(List.range n).all (fun _=>true) = true:=by rw [List.all_eq_true]; intro _ _; rfl
theorem eqRow {K:PySem.W.Frag} {H:Hp} {d:Nat} {a b:Addr} {xs:List V} (ha:H a = some (.tup xs)) (hb:H b = some (.tup xs)) (h:∀ x ∈ xs,flatV x = true∨∃ a,x = .ref a):EqD K H (d + 1) (.ref a) (.ref b) true:=by
 by_cases e:a = b
 ·rw [e]; exact EqD.same
 have z:=EqD.tup (K:=K) (H:=H) (d:=d) (e:=fun _=>true) e (SqT.of ha) (SqT.of hb) fun j h1 _=>by
  have e:xs.getD j .non = xs[j]:=by rw [List.getD_eq_getElem?_getD,List.getElem?_eq_getElem h1]; rfl
  rw [e]
  exact selfE (h _ (List.getElem_mem h1))
 rw [aT,beq_self_eq_true] at z
 exact z
theorem ne_w {k:Nat} (hk:k < 15):∀ j,j < 16→k ≠ j→¬ V.str (wOf k) = V.str (wOf j):=fun j hj h z=>h (wInj (by omega) hj z)
def spPairW:Sp:=fun vs H Q _=>∃ (k:Nat) (w a b:Int),vs = [.str (wOf k),.int a,.int b,.int (1 * 2 ^ w.toNat)]∧(k = 4∨k = 5∨k = 9∨k = 10∨k = 11∨k = 12)∧4≤w∧w≤32∧0≤a∧a < 2 ^ w.toNat∧0≤b∧b < 2 ^ w.toNat∧Q (.int (jnV w k a b)) H
theorem ok__law_pair_word {f:Addr} {fd:FuncData} (F:Fun K "_law_pair_word" "_law_pair_word" s__law_pair_word f fd) (T:Txt K mg c) :FnOk P w K mg base CX0 1 f fd ["_law_word_here", "_law_a", "_law_b", "_law_size"] spPairW:=by
 refine F.ok sc__law_pair_word (fun vs H Q E h=>?_) (fun cdv A outer s H vs Q E hr h=>?_)
 ·obtain ⟨k,w',a,b,rfl,_⟩:=h
  rfl
 obtain ⟨k,w',a,b,rfl,hk,w0,w1,a0,a1,b0,b1,q⟩:=h
 refine ⟨_,(pss_cons (ps_if (pt_cmpR op_eq (pv 0) pe_str (nomark _))
   (pss_one (ps_ret (pe_op op_mod (pe_op op_mulB (pv 1) (pv 2)) (pv 3))))
   pss_nil)
  (pss_cons (ps_if (pt_cmpR op_eq (pv 0) pe_str (nomark _))
   (pss_one (ps_ret (pe_op op_fdivB (pe_op op_mulB (pv 1) (pv 2)) (pv 3))))
   pss_nil)
  (pss_cons (ps_if (pt_cmpR op_eq (pv 0) pe_str (nomark _))
   (pss_one (ps_ret (pe_op op_and (pv 1) (pv 2))))
   pss_nil)
  (pss_cons (ps_if (pt_cmpR op_eq (pv 0) pe_str (nomark _))
   (pss_one (ps_ret (pe_op op_or (pv 1) (pv 2))))
   pss_nil)
  (pss_cons (ps_if (pt_cmpR op_eq (pv 0) pe_str (nomark _))
   (pss_one (ps_ret (pe_op op_xor (pv 1) (pv 2))))
   pss_nil)
  (pss_one (ps_ret (pe_callTy call_int1 rfl T.n_int boot_int (pa_cons (pe_cmpR op_lt (pv 1) (pv 2) (nomark _)) pa_nil))))))))),?_⟩
 have P:=pw_bounds w0 w1
 have ne:=ne_w (k:=k) (by omega)
 have bm:intBits a≤100000∧intBits b≤100000:=⟨b200 (by omega) (by omega),b200 (by omega) (by omega)⟩
 refine ⟨_,rfl,rfl,_,rfl,?_⟩
 by_cases c4:k = 4
 ·subst c4
  exact iteD rfl ⟨_,rfl,_,rfl,_,_,rfl,rfl,bm,_,rfl,_,_,rfl,rfl,p1_pos _,q⟩
 refine iteDN (ne 4 (by decide) c4) ⟨_,rfl,rfl,_,rfl,?_⟩
 by_cases c5:k = 5
 ·subst c5
  have q:Q (.int (a * b / 2 ^ w'.toNat)) H:=q
  rw [← Int.one_mul ((2:Int) ^ w'.toNat)] at q
  exact iteD rfl ⟨_,rfl,_,rfl,_,_,rfl,rfl,bm,_,rfl,_,_,rfl,rfl,⟨p1_pos _,log_small (p1_pos _) (by omega)⟩,q⟩
 refine iteDN (ne 5 (by decide) c5) ⟨_,rfl,rfl,_,rfl,?_⟩
 by_cases c9:k = 9
 ·subst c9
  exact iteD rfl ⟨_,rfl,_,rfl,_,_,rfl,rfl,q⟩
 refine iteDN (ne 9 (by decide) c9) ⟨_,rfl,rfl,_,rfl,?_⟩
 by_cases c10:k = 10
 ·subst c10
  exact iteD rfl ⟨_,rfl,_,rfl,_,_,rfl,rfl,q⟩
 refine iteDN (ne 10 (by decide) c10) ⟨_,rfl,rfl,_,rfl,?_⟩
 by_cases c11:k = 11
 ·subst c11
  exact iteD rfl ⟨_,rfl,_,rfl,_,_,rfl,rfl,q⟩
 refine iteDN (ne 11 (by decide) c11) ?_
 have c12:k = 12:=by omega
 subst c12
 have q:Q (.int (if a < b then 1 else 0)) H:=q
 refine ⟨_,rfl,_,rfl,_,_,rfl,rfl,.inr ⟨_,rfl,?_⟩⟩
 by_cases hc:a < b
 ·rw [if_pos hc] at q
  rw [decide_eq_true hc]
  exact q
 ·rw [if_neg hc] at q
  rw [decide_eq_false hc]
  exact q
def spMovd:Sp:=fun vs H Q _=>∃ (k:Nat) (w a j:Int),vs = [.str (wOf k),.int a,.int j,.int (1 * 2 ^ w.toNat)]∧(k = 6∨k = 7∨k = 8)∧4≤w∧w≤32∧0≤a∧a < 2 ^ w.toNat∧0≤j∧j < w∧Q (.int (mvV w k a j)) H
theorem ok__law_moved {f:Addr} {fd:FuncData} (F:Fun K "_law_moved" "_law_moved" s__law_moved f fd) (T:Txt K mg c) :FnOk P w K mg base CX0 1 f fd ["_law_word_here", "_law_a", "_law_k", "_law_size"] spMovd:=by
 refine F.ok sc__law_moved (fun vs H Q E h=>?_) (fun cdv A outer s H vs Q E hr h=>?_)
 ·obtain ⟨k,w',a,j,rfl,_⟩:=h
  rfl
 obtain ⟨k,w',a,j,rfl,hk,w0,w1,a0,a1,j0,j1,q⟩:=h
 refine ⟨_,(pss_cons (ps_if (pt_cmpR op_eq (pv 0) pe_str (nomark _))
   (pss_one (ps_ret (pe_op op_mod (pe_op op_mulB (pv 1) (pe_op op_shlB pe_int (pv 2))) (pv 3))))
   pss_nil)
  (pss_cons (ps_if (pt_cmpR op_eq (pv 0) pe_str (nomark _))
   (pss_one (ps_ret (pe_op op_fdivB (pv 1) (pe_op op_shlB pe_int (pv 2)))))
   pss_nil)
  (pss_one (ps_ret (pe_op op_mod (pe_op op_fdivB (pe_op op_sub (pv 1) (pe_op op_mulB (pv 3) (pe_callTy call_int1 rfl T.n_int boot_int (pa_cons (pe_cmpR op_ge (pe_op op_mulB pe_int (pv 1)) (pv 3) (nomark _)) pa_nil)))) (pe_op op_shlB pe_int (pv 2))) (pv 3)))))),?_⟩
 have P:=pw_bounds w0 w1
 have pj:=pow_lt j0 j1
 have pp:=p1_pos j.toNat
 have ne:=ne_w (k:=k) (by omega)
 have sj:(0≤j∧j≤100000∧intBits 1≤100000):=⟨by omega,by omega,b200 (by decide) (by decide)⟩
 refine ⟨_,rfl,rfl,_,rfl,?_⟩
 by_cases c6:k = 6
 ·subst c6
  have q:Q (.int ((a * 2 ^ j.toNat) % (1 * 2 ^ w'.toNat))) H:=q
  rw [← Int.one_mul ((2:Int) ^ j.toNat)] at q
  exact iteD rfl ⟨_,rfl,_,rfl,_,_,rfl,rfl,sj,_,_,rfl,rfl,⟨b200 (by omega) (by omega),b200 (by omega) (by omega)⟩,_,rfl,_,_,rfl,rfl,p1_pos _,q⟩
 refine iteDN (ne 6 (by decide) c6) ⟨_,rfl,rfl,_,rfl,?_⟩
 by_cases c7:k = 7
 ·subst c7
  have q:Q (.int (a / 2 ^ j.toNat)) H:=q
  rw [← Int.one_mul ((2:Int) ^ j.toNat)] at q
  exact iteD rfl ⟨_,rfl,_,rfl,_,_,rfl,rfl,sj,_,_,rfl,rfl,⟨p1_pos _,log_small (p1_pos _) (by omega)⟩,q⟩
 refine iteDN (ne 7 (by decide) c7) ?_
 have c8:k = 8:=by omega
 subst c8
 have q:Q (.int ((cnt w' a / 2 ^ j.toNat) % (1 * 2 ^ w'.toNat))) H:=q
 rw [← Int.one_mul ((2:Int) ^ j.toNat)] at q
 have hf:=pw_half w0
 refine ⟨_,rfl,_,rfl,_,rfl,_,_,rfl,rfl,⟨b200 (by decide) (by decide),b200 (by omega) (by omega)⟩,_,rfl,_,_,rfl,rfl,.inr ⟨_,rfl,?_⟩⟩
 have ec:a - 1 * 2 ^ w'.toNat * (if decide (2 * a ≥ 1 * 2 ^ w'.toNat) = true then 1 else 0) = cnt w' a:=by
  unfold cnt
  by_cases hc:a < 1 * 2 ^ (w' - 1).toNat
  ·rw [if_pos hc,decide_eq_false (by omega),if_neg (by decide),Int.mul_zero,Int.sub_zero]
  ·rw [if_neg hc,decide_eq_true (by omega),if_pos rfl,Int.mul_one]
 rw [← ec] at q
 exact ⟨_,_,rfl,rfl,⟨b200 (by omega) (by omega),(by split <;> exact b200 (by decide) (by decide))⟩,_,_,rfl,rfl,_,rfl,_,_,rfl,rfl,sj,_,_,rfl,rfl,⟨p1_pos _,log_small (p1_pos _) (by omega)⟩,_,rfl,_,_,rfl,rfl,p1_pos _,q⟩
theorem in3 {k:Nat} (h:k < 15):inV (.str (wOf k)) [.str "left",.str "right",.str "slide"] = decide (k = 6∨k = 7∨k = 8):=by
 have a:∀ k ∈ List.range 15,inV (.str (wOf k)) [.str "left",.str "right",.str "slide"] = decide (k = 6∨k = 7∨k = 8):=by decide +kernel
 exact a k (List.mem_range.mpr h)
def spDone:Sp:=fun vs H Q _=>∃ (t d m:Addr) (w:Int) (r:Rw) (kvs:List (Key × V)) (ms:List V),vs = [.int (1 * 2 ^ w.toNat),.ref t,.ref d,.ref m]∧H t = some (.tup (.str (wOf r.k) :: r.fs))∧r.ok w∧4≤w∧w≤32∧H d = some (.dK kvs)∧Wd w kvs∧H m = some (.lst ms)∧ms.length≤1000 ∧
 ∀ H',H' d = some (.dK (r.act w kvs))→Mk1 H' m ms (r.mk kvs)→(∀ b o,b ≠ d→b ≠ m→H b = some o→H' b = some o)→Q .non H'
theorem cr1_sum {w a b:Int} (w0:4≤w) (w1:w≤32) (a0:0≤a) (a1:a < 2 ^ w.toNat) (b0:0≤b) (b1:b < 2 ^ w.toNat):cr1 w 2 a b = if a + b < 1 * 2 ^ w.toNat then 0 else 1:=by
 show (a + b) / 2 ^ w.toNat = _
 have P:=pw_bounds w0 w1
 generalize (2:Int) ^ w.toNat = S at *
 by_cases c:a + b < 1 * S
 ·rw [if_pos c]
  exact Int.ediv_eq_zero_of_lt (by omega) (by omega)
 ·rw [if_neg c]
  have this:=Int.add_mul_ediv_right (a + b - S) 1 (show S ≠ 0 by omega)
  rw [show a + b - S + 1 * S = a + b by omega] at this
  rw [this,Int.ediv_eq_zero_of_lt (by omega) (by omega)]
  rfl
theorem ok__law_done {f:Addr} {fd:FuncData} (F:Fun K "_law_done" "_law_done" s__law_done f fd) (T:Txt K mg c) (H__law_moved:Has P w K mg base 1 "_law_moved" ["_law_word_here", "_law_a", "_law_k", "_law_size"] spMovd) (H__law_pair_word:Has P w K mg base 1 "_law_pair_word" ["_law_word_here", "_law_a", "_law_b", "_law_size"] spPairW):FnOk P w K mg base CX0 2 f fd ["_law_size", "_law_row_here", "_law_held", "_law_marks"] spDone:=by
 refine F.ok sc__law_done (fun vs H Q E h=>?_) (fun cdv A outer s H vs Q E hr h=>?_)
 ·obtain ⟨t,d,m',w',r,kvs,ms,rfl,_⟩:=h
  rfl
 obtain ⟨t,d,m',w',r,kvs,ms,rfl,ht,rk,w0,w1,hd,wd,hm,ml,q⟩:=h
 refine slE ⟨_,(pss_oneZ (ps_ifZ (pt_cmpR op_eq (pe_ix ix_tup (pv 1) pe_int (fun _ _=>rfl)) pe_str (nomark _))
   (pss_oneZ (slIn (ps_dput (hu_of hr) (pv 2) (pe_ix ix_tup (pv 1) pe_int (fun _ _=>rfl)) (pe_ix ix_tup (pv 1) pe_int (fun _ _=>rfl)) rfl)))
   (pss_oneZ (ps_ifZ (pt_cmpR op_eq (pe_ix ix_tup (pv 1) pe_int (fun _ _=>rfl)) pe_str (nomark _))
    (pss_oneZ (slIn (ps_dput (hu_of hr) (pv 2) (pe_ix ix_tup (pv 1) pe_int (fun _ _=>rfl)) (pe_dgetI (hu_of hr) (pv 2) (pe_ix ix_tup (pv 1) pe_int (fun _ _=>rfl)) pe_int ⟨rfl,rfl,rfl,rfl⟩) rfl)))
    (pss_oneZ (ps_ifZ (pt_cmpR op_eq (pe_ix ix_tup (pv 1) pe_int (fun _ _=>rfl)) pe_str (nomark _))
     (pss_oneZ (ps_ifZ (pt_cmpR op_ne (pe_dgetI (hu_of hr) (pv 2) (pe_ix ix_tup (pv 1) pe_int (fun _ _=>rfl)) pe_int ⟨rfl,rfl,rfl,rfl⟩) pe_int (nomark _))
      (pss_oneZ (ps_exprZ (pe_bmZ PySem.F.plainAttrs_list PySem.F.slot_list_append PySem.F.type_list_append mt_append (pv 3) (pa_consZ (pe_tupZ (pa_consS (pe_ix ix_tup (pv 1) pe_int (fun _ _=>rfl)) (pa_consS (pe_ix ix_tup (pv 1) pe_int (fun _ _=>rfl)) pa_nilS))) pa_nilS))))
      pss_nilZ))
     (pss_oneZ (ps_ifZ (pt_cmpR op_eq (pe_ix ix_tup (pv 1) pe_int (fun _ _=>rfl)) pe_str (nomark _))
      (pss_consZ (slIn (ps_set (i:=4) sc__law_done.nd rfl (Or.inl rfl) (pe_op op_add pe_int (pe_callTy call_int1 rfl T.n_int boot_int (pa_cons (pe_cmpR op_eq (pe_dgetI (hu_of hr) (pv 2) (pe_ix ix_tup (pv 1) pe_int (fun _ _=>rfl)) pe_int ⟨rfl,rfl,rfl,rfl⟩) pe_int (nomark _)) pa_nil)))))
      (pss_oneZ (slIn (ps_dput (hu_of hr) (pv 2) (pe_ix ix_tup (pv 1) pe_int (fun _ _=>rfl)) (pe_dgetI (hu_of hr) (pv 2) (pe_ix ix_tup (pv 1) (pv 4) (fun _ _=>rfl)) pe_int ⟨rfl,rfl,rfl,rfl⟩) rfl))))
      (pss_oneZ (ps_ifZ (PW.pt (pw_or (pt_cmpR op_eq (pe_ix ix_tup (pv 1) pe_int (fun _ _=>rfl)) pe_str (nomark _)) (pw_or1 (pt_cmpR op_eq (pe_ix ix_tup (pv 1) pe_int (fun _ _=>rfl)) pe_str (nomark _)))))
       (pss_consZ (slIn (ps_set (i:=5) sc__law_done.nd rfl (Or.inl rfl) (pe_dgetI (hu_of hr) (pv 2) (pe_ix ix_tup (pv 1) pe_int (fun _ _=>rfl)) pe_int ⟨rfl,rfl,rfl,rfl⟩)))
       (pss_consZ (slIn (ps_set (i:=6) sc__law_done.nd rfl (Or.inl rfl) (pe_dgetI (hu_of hr) (pv 2) (pe_ix ix_tup (pv 1) pe_int (fun _ _=>rfl)) pe_int ⟨rfl,rfl,rfl,rfl⟩)))
       (pss_consZ (slIn (ps_set (i:=7) sc__law_done.nd rfl (Or.inl rfl) (pe_op op_sub (pv 5) (pv 6))))
       (pss_consZ (ps_ifZ (pt_cmpR op_eq (pe_ix ix_tup (pv 1) pe_int (fun _ _=>rfl)) pe_str (nomark _))
        (pss_oneZ (slIn (ps_set (i:=7) sc__law_done.nd rfl (Or.inl rfl) (pe_op op_add (pv 5) (pv 6)))))
        pss_nilZ)
       (pss_consZ (slIn (ps_dput (hu_of hr) (pv 2) (pe_ix ix_tup (pv 1) pe_int (fun _ _=>rfl)) (pe_op op_mod (pv 7) (pv 0)) rfl))
       (pss_oneZ (ps_ifZ (pt_cmpR op_notN (pe_ix ix_tup (pv 1) pe_int (fun _ _=>rfl)) pe_non (nomark _))
        (pss_oneZ (slIn (ps_dput (hu_of hr) (pv 2) (pe_ix ix_tup (pv 1) pe_int (fun _ _=>rfl)) (pe_callTy call_int1 rfl T.n_int boot_int (pa_cons (pe_not (pe_chain op_le op_lt pe_int (pv 7) (pv 0))) pa_nil)) rfl)))
        pss_nilZ)))))))
       (pss_oneZ (ps_ifZ (pt_cmpR op_in_seq (pe_ix ix_tup (pv 1) pe_int (fun _ _=>rfl)) (pe_lst (pa_cons pe_str (pa_cons pe_str (pa_cons pe_str pa_nil)))) (by with_unfolding_all rfl))
        (pss_oneZ (slIn (ps_dput (hu_of hr) (pv 2) (pe_ix ix_tup (pv 1) pe_int (fun _ _=>rfl)) (pe_fn H__law_moved (hr.mono (by omega)) rfl (pa_cons (pe_ix ix_tup (pv 1) pe_int (fun _ _=>rfl)) (pa_cons (pe_dgetI (hu_of hr) (pv 2) (pe_ix ix_tup (pv 1) pe_int (fun _ _=>rfl)) pe_int ⟨rfl,rfl,rfl,rfl⟩) (pa_cons (pe_ix ix_tup (pv 1) pe_int (fun _ _=>rfl)) (pa_cons (pv 0) pa_nil))))) rfl)))
        (pss_oneZ (slIn (ps_dput (hu_of hr) (pv 2) (pe_ix ix_tup (pv 1) pe_int (fun _ _=>rfl)) (pe_fn H__law_pair_word (hr.mono (by omega)) rfl (pa_cons (pe_ix ix_tup (pv 1) pe_int (fun _ _=>rfl)) (pa_cons (pe_dgetI (hu_of hr) (pv 2) (pe_ix ix_tup (pv 1) pe_int (fun _ _=>rfl)) pe_int ⟨rfl,rfl,rfl,rfl⟩) (pa_cons (pe_dgetI (hu_of hr) (pv 2) (pe_ix ix_tup (pv 1) pe_int (fun _ _=>rfl)) pe_int ⟨rfl,rfl,rfl,rfl⟩) (pa_cons (pv 0) pa_nil))))) rfl))))))))))))))),?_⟩
 have P:=pw_bounds w0 w1
 have L1000:(2000:Nat)≤sizeLine:=by decide
 have l5:=wd.ln
 have ntd:t ≠ d:=fun z=>by rw [z,hd] at ht; cases ht
 have ndm:d ≠ m':=fun z=>by rw [z,hm] at hd; cases hd
 have wi:=wd.ints
 have k15:=Rw.k15 rk
 have ne:=ne_w k15
 cases r with
 | set g b =>
  refine ⟨_,rfl,t,_,_,_,rfl,rfl,SqT.of ht,at0 _ _,rfl,_,rfl,?_⟩
  refine iteD rfl ⟨_,rfl,t,_,_,_,rfl,rfl,SqT.of ht,rfl,_,rfl,_,rfl,t,_,_,_,rfl,rfl,SqT.of ht,rfl,d,_,rfl,DPut.k (k:=.inr g) hd (by omega),?_⟩
  exact q _ (by rw [upd_same]; rfl) (by show upd _ d _ m' = _; rw [upd_ne (Ne.symm ndm)]; exact hm) (fun b' o' n1 n2 e=>by rw [upd_ne n1]; exact e)
 | copy g a =>
  refine ⟨_,rfl,t,_,_,_,rfl,rfl,SqT.of ht,at0 _ _,rfl,_,rfl,?_⟩
  refine iteDN (ne 0 (by decide) (by show (1:Nat) ≠ 0; decide)) ⟨_,rfl,t,_,_,_,rfl,rfl,SqT.of ht,at0 _ _,rfl,_,rfl,?_⟩
  refine iteD rfl ⟨_,rfl,d,rfl,⟨_,hd⟩,_,rfl,t,_,_,_,rfl,rfl,SqT.of ht,rfl,_,_,rfl,hd,wi,_,rfl,_,rfl,t,_,_,_,rfl,rfl,SqT.of ht,rfl,d,_,rfl,DPut.k (k:=.inr g) hd (by omega),?_⟩
  exact q _ (by rw [upd_same]; rfl) (by show upd _ d _ m' = _; rw [upd_ne (Ne.symm ndm)]; exact hm) (fun b' o' n1 n2 e=>by rw [upd_ne n1]; exact e)
 | mark n m y =>
  refine ⟨_,rfl,t,_,_,_,rfl,rfl,SqT.of ht,at0 _ _,rfl,_,rfl,?_⟩
  refine iteDN (ne 0 (by decide) (by show (14:Nat) ≠ 0; decide)) ⟨_,rfl,t,_,_,_,rfl,rfl,SqT.of ht,at0 _ _,rfl,_,rfl,?_⟩
  refine iteDN (ne 1 (by decide) (by show (14:Nat) ≠ 1; decide)) ⟨_,rfl,t,_,_,_,rfl,rfl,SqT.of ht,at0 _ _,rfl,_,rfl,?_⟩
  refine iteD rfl ⟨_,rfl,d,rfl,⟨_,hd⟩,_,rfl,t,_,_,_,rfl,rfl,SqT.of ht,rfl,_,_,rfl,hd,wi,rfl,_,rfl,?_⟩
  by_cases c0:gI kvs y = 0
  ·refine iteNS (congrArg V.int c0) ?_
   exact q H hd (by show Mk1 H m' ms (if gI kvs y ≠ 0 then _ else _); rw [if_neg (fun h=>h c0)]; exact hm) (fun b' o' n1 n2 e=>e)
  ·refine iteN (fun z=>c0 (by injection z)) ?_
   refine ⟨_,rfl,.inl ⟨rfl,_,SqL.of hm⟩,_,rfl,t,_,_,_,rfl,rfl,SqT.of ht,rfl,_,rfl,t,_,_,_,rfl,rfl,SqT.of ht,rfl,(by show 2≤sizeLine; decide),fun t' ht'=>?_⟩
   have s1:=same_new ht' (.tup [.int n,.str m])
   have hm1:=s1 _ _ hm
   have ntm:t' ≠ m':=fun z=>by rw [z,hm] at ht'; cases ht'
   refine ⟨m',_,_,rfl,rfl,hm1,(by omega),?_⟩
   refine q _ (by show upd _ m' _ d = _; rw [upd_ne ndm]; exact s1 _ _ hd) ?_ (fun b' o' n1 n2 e=>by rw [upd_ne n2]; exact s1 _ _ e)
   show Mk1 _ m' ms (if gI kvs y ≠ 0 then _ else _)
   rw [if_pos c0]
   exact ⟨t',upd_same,by rw [upd_ne ntm]; exact upd_same⟩
 | pick g y a b =>
  refine ⟨_,rfl,t,_,_,_,rfl,rfl,SqT.of ht,at0 _ _,rfl,_,rfl,?_⟩
  refine iteDN (ne 0 (by decide) (by show (13:Nat) ≠ 0; decide)) ⟨_,rfl,t,_,_,_,rfl,rfl,SqT.of ht,at0 _ _,rfl,_,rfl,?_⟩
  refine iteDN (ne 1 (by decide) (by show (13:Nat) ≠ 1; decide)) ⟨_,rfl,t,_,_,_,rfl,rfl,SqT.of ht,at0 _ _,rfl,_,rfl,?_⟩
  refine iteDN (ne 14 (by decide) (by show (13:Nat) ≠ 14; decide)) ⟨_,rfl,t,_,_,_,rfl,rfl,SqT.of ht,at0 _ _,rfl,_,rfl,?_⟩
  refine iteD rfl ⟨_,rfl,d,rfl,⟨_,hd⟩,_,rfl,t,_,_,_,rfl,rfl,SqT.of ht,rfl,_,_,rfl,hd,wi,rfl,.inr ⟨_,rfl,_,_,rfl,rfl,?_⟩⟩
  by_cases c0:gI kvs y = 0
  ·rw [decide_eq_true (congrArg V.int c0)]
   refine ⟨_,rfl,d,rfl,⟨_,hd⟩,_,rfl,_,rfl,t,_,_,_,rfl,rfl,SqT.of ht,rfl,_,_,rfl,hd,wi,_,rfl,_,rfl,t,_,_,_,rfl,rfl,SqT.of ht,rfl,d,_,rfl,DPut.k (k:=.inr g) hd (by omega),?_⟩
   refine q _ (by rw [upd_same]; show _ = some (HO.dK (stK kvs g (gI kvs (if gI kvs y ≠ 0 then a else b)))); rw [if_neg (fun h=>h c0)]; rfl) (by show upd _ d _ m' = _; rw [upd_ne (Ne.symm ndm)]; exact hm) (fun b' o' n1 n2 e=>by rw [upd_ne n1]; exact e)
  ·rw [decide_eq_false (fun z=>c0 (by injection z))]
   refine ⟨_,rfl,d,rfl,⟨_,hd⟩,_,rfl,_,rfl,t,_,_,_,rfl,rfl,SqT.of ht,rfl,_,_,rfl,hd,wi,_,rfl,_,rfl,t,_,_,_,rfl,rfl,SqT.of ht,rfl,d,_,rfl,DPut.k (k:=.inr g) hd (by omega),?_⟩
   refine q _ (by rw [upd_same]; show _ = some (HO.dK (stK kvs g (gI kvs (if gI kvs y ≠ 0 then a else b)))); rw [if_pos c0]; rfl) (by show upd _ d _ m' = _; rw [upd_ne (Ne.symm ndm)]; exact hm) (fun b' o' n1 n2 e=>by rw [upd_ne n1]; exact e)
 | car k g cv a b =>
  obtain ⟨ok,og,oc,oa,ob⟩:=rk
  obtain ⟨_,a0,a1⟩:=wd.get a
  obtain ⟨_,b0,b1⟩:=wd.get b
  have l6:=length_putK kvs (.inr g) (.int (cr0 w' k (gI kvs a) (gI kvs b)))
  rcases ok with rfl | rfl
  ·refine ⟨_,rfl,t,_,_,_,rfl,rfl,SqT.of ht,at0 _ _,rfl,_,rfl,?_⟩
   refine iteDN (ne 0 (by decide) (by show (2:Nat) ≠ 0; decide)) ⟨_,rfl,t,_,_,_,rfl,rfl,SqT.of ht,at0 _ _,rfl,_,rfl,?_⟩
   refine iteDN (ne 1 (by decide) (by show (2:Nat) ≠ 1; decide)) ⟨_,rfl,t,_,_,_,rfl,rfl,SqT.of ht,at0 _ _,rfl,_,rfl,?_⟩
   refine iteDN (ne 14 (by decide) (by show (2:Nat) ≠ 14; decide)) ⟨_,rfl,t,_,_,_,rfl,rfl,SqT.of ht,at0 _ _,rfl,_,rfl,?_⟩
   refine iteDN (ne 13 (by decide) (by show (2:Nat) ≠ 13; decide)) ⟨_,rfl,t,_,_,_,rfl,rfl,SqT.of ht,at0 _ _,rfl,_,rfl,?_⟩
   refine iteD rfl ⟨_,rfl,d,rfl,⟨_,hd⟩,_,rfl,t,_,_,_,rfl,rfl,SqT.of ht,rfl,_,_,rfl,hd,wi,_,rfl,d,rfl,⟨_,hd⟩,_,rfl,t,_,_,_,rfl,rfl,SqT.of ht,rfl,_,_,rfl,hd,wi,_,rfl,_,rfl,_,_,rfl,rfl,?_⟩
   refine ⟨_,rfl,t,_,_,_,rfl,rfl,SqT.of ht,at0 _ _,rfl,_,rfl,?_⟩
   refine iteD rfl ⟨_,rfl,_,rfl,_,_,rfl,rfl,?_⟩
   refine ⟨_,rfl,_,rfl,_,_,rfl,rfl,p1_pos _,_,rfl,_,rfl,t,_,_,_,rfl,rfl,SqT.of ht,rfl,d,_,rfl,DPut.k (k:=.inr g) hd (by omega),?_⟩
   have ht2:upd H d (.dK (putK kvs (.inr g) (.int ((gI kvs a + gI kvs b) % (1 * 2 ^ w'.toNat))))) t = some (.tup [.str (wOf 2),.str g,oV cv,.str a,.str b]):=by rw [upd_ne ntd]; exact ht
   cases cv with
   | none =>
    refine ⟨_,rfl,t,_,_,_,rfl,rfl,SqT.of ht2,rfl,rfl,_,rfl,iteF ?_⟩
    exact q _ (by rw [upd_same]; rfl) (by show upd _ d _ m' = _; rw [upd_ne (Ne.symm ndm)]; exact hm) (fun b' o' n1 n2 e=>by rw [upd_ne n1]; exact e)
   | some z =>
    refine ⟨_,rfl,t,_,_,_,rfl,rfl,SqT.of ht2,rfl,rfl,_,rfl,iteT ?_⟩
    have cs:=cr1_sum w0 w1 a0 a1 b0 b1
    refine ⟨_,rfl,_,_,rfl,rfl,_,rfl,iteD (by omega) ⟨_,rfl,_,_,rfl,rfl,_,rfl,.inr ⟨_,rfl,?_⟩⟩⟩
    have ev:(if (!decide (gI kvs a + gI kvs b < 1 * 2 ^ w'.toNat)) = true then (1:Int) else 0) = cr1 w' 2 (gI kvs a) (gI kvs b):=by
     rw [cs]
     by_cases hc:gI kvs a + gI kvs b < 1 * 2 ^ w'.toNat
     ·rw [if_pos hc,decide_eq_true hc]; rfl
     ·rw [if_neg hc,decide_eq_false hc]; rfl
    rw [ev]
    refine ⟨_,rfl,_,rfl,t,_,_,_,rfl,rfl,SqT.of ht2,rfl,d,_,rfl,DPut.k (k:=.inr z) upd_same (Nat.lt_of_le_of_lt (length_putK kvs _ _) (by omega)),?_⟩
    exact q _ (by rw [upd_same]; rfl) (by show upd _ d _ m' = _; rw [upd_ne (Ne.symm ndm),upd_ne (Ne.symm ndm)]; exact hm) (fun b' o' n1 n2 e=>by rw [upd_ne n1,upd_ne n1]; exact e)
  ·refine ⟨_,rfl,t,_,_,_,rfl,rfl,SqT.of ht,at0 _ _,rfl,_,rfl,?_⟩
   refine iteDN (ne 0 (by decide) (by show (3:Nat) ≠ 0; decide)) ⟨_,rfl,t,_,_,_,rfl,rfl,SqT.of ht,at0 _ _,rfl,_,rfl,?_⟩
   refine iteDN (ne 1 (by decide) (by show (3:Nat) ≠ 1; decide)) ⟨_,rfl,t,_,_,_,rfl,rfl,SqT.of ht,at0 _ _,rfl,_,rfl,?_⟩
   refine iteDN (ne 14 (by decide) (by show (3:Nat) ≠ 14; decide)) ⟨_,rfl,t,_,_,_,rfl,rfl,SqT.of ht,at0 _ _,rfl,_,rfl,?_⟩
   refine iteDN (ne 13 (by decide) (by show (3:Nat) ≠ 13; decide)) ⟨_,rfl,t,_,_,_,rfl,rfl,SqT.of ht,at0 _ _,rfl,_,rfl,?_⟩
   refine iteDN (ne 2 (by decide) (by show (3:Nat) ≠ 2; decide)) ⟨_,rfl,t,_,_,_,rfl,rfl,SqT.of ht,at0 _ _,rfl,_,rfl,?_⟩
   refine iteD rfl ⟨_,rfl,d,rfl,⟨_,hd⟩,_,rfl,t,_,_,_,rfl,rfl,SqT.of ht,rfl,_,_,rfl,hd,wi,_,rfl,d,rfl,⟨_,hd⟩,_,rfl,t,_,_,_,rfl,rfl,SqT.of ht,rfl,_,_,rfl,hd,wi,_,rfl,_,rfl,_,_,rfl,rfl,?_⟩
   refine ⟨_,rfl,t,_,_,_,rfl,rfl,SqT.of ht,at0 _ _,rfl,_,rfl,?_⟩
   refine iteDN (ne 2 (by decide) (by show (3:Nat) ≠ 2; decide)) ?_
   refine ⟨_,rfl,_,rfl,_,_,rfl,rfl,p1_pos _,_,rfl,_,rfl,t,_,_,_,rfl,rfl,SqT.of ht,rfl,d,_,rfl,DPut.k (k:=.inr g) hd (by omega),?_⟩
   have ht2:upd H d (.dK (putK kvs (.inr g) (.int ((gI kvs a - gI kvs b) % (1 * 2 ^ w'.toNat))))) t = some (.tup [.str (wOf 3),.str g,oV cv,.str a,.str b]):=by rw [upd_ne ntd]; exact ht
   cases cv with
   | none =>
    refine ⟨_,rfl,t,_,_,_,rfl,rfl,SqT.of ht2,rfl,rfl,_,rfl,iteF ?_⟩
    exact q _ (by rw [upd_same]; rfl) (by show upd _ d _ m' = _; rw [upd_ne (Ne.symm ndm)]; exact hm) (fun b' o' n1 n2 e=>by rw [upd_ne n1]; exact e)
   | some z =>
    refine ⟨_,rfl,t,_,_,_,rfl,rfl,SqT.of ht2,rfl,rfl,_,rfl,iteT ?_⟩
    have fin:∀ y:Int,y = cr1 w' 3 (gI kvs a) (gI kvs b)→Q .non (upd (upd H d (.dK (putK kvs (.inr g) (.int ((gI kvs a - gI kvs b) % (1 * 2 ^ w'.toNat)))))) d (.dK (putK (putK kvs (.inr g) (.int ((gI kvs a - gI kvs b) % (1 * 2 ^ w'.toNat)))) (.inr z) (.int y)))):=fun y ey=>by
     rw [ey]
     exact q _ (by rw [upd_same]; rfl) (by show upd _ d _ m' = _; rw [upd_ne (Ne.symm ndm),upd_ne (Ne.symm ndm)]; exact hm) (fun b' o' n1 n2 e=>by rw [upd_ne n1,upd_ne n1]; exact e)
    by_cases hc:gI kvs a < gI kvs b
    ·refine ⟨_,rfl,_,_,rfl,rfl,_,rfl,iteDN (by omega) ⟨_,rfl,.inr ⟨_,rfl,_,rfl,_,rfl,t,_,_,_,rfl,rfl,SqT.of ht2,rfl,d,_,rfl,DPut.k (k:=.inr z) upd_same (Nat.lt_of_le_of_lt (length_putK kvs _ _) (by omega)),fin _ ?_⟩⟩⟩
     show (1:Int) = if gI kvs a < gI kvs b then 1 else 0
     rw [if_pos hc]
    ·refine ⟨_,rfl,_,_,rfl,rfl,_,rfl,iteD (by omega) ⟨_,rfl,_,_,rfl,rfl,_,rfl,.inr ⟨_,rfl,_,rfl,_,rfl,t,_,_,_,rfl,rfl,SqT.of ht2,rfl,d,_,rfl,DPut.k (k:=.inr z) upd_same (Nat.lt_of_le_of_lt (length_putK kvs _ _) (by omega)),fin _ ?_⟩⟩⟩
     rw [decide_eq_true (by omega)]
     show (0:Int) = if gI kvs a < gI kvs b then 1 else 0
     rw [if_neg hc]
 | mv k g a j =>
  obtain ⟨ok,og,oa,j0,j1⟩:=rk
  obtain ⟨_,a0,a1⟩:=wd.get a
  have k15:k < 15:=by omega
  refine ⟨_,rfl,t,_,_,_,rfl,rfl,SqT.of ht,at0 _ _,rfl,_,rfl,?_⟩
  refine iteDN (ne 0 (by decide) (by show k ≠ 0; omega)) ⟨_,rfl,t,_,_,_,rfl,rfl,SqT.of ht,at0 _ _,rfl,_,rfl,?_⟩
  refine iteDN (ne 1 (by decide) (by show k ≠ 1; omega)) ⟨_,rfl,t,_,_,_,rfl,rfl,SqT.of ht,at0 _ _,rfl,_,rfl,?_⟩
  refine iteDN (ne 14 (by decide) (by show k ≠ 14; omega)) ⟨_,rfl,t,_,_,_,rfl,rfl,SqT.of ht,at0 _ _,rfl,_,rfl,?_⟩
  refine iteDN (ne 13 (by decide) (by show k ≠ 13; omega)) ⟨_,rfl,t,_,_,_,rfl,rfl,SqT.of ht,at0 _ _,rfl,_,rfl,?_⟩
  refine iteDN (ne 2 (by decide) (by show k ≠ 2; omega)) ⟨_,rfl,t,_,_,_,rfl,rfl,SqT.of ht,at0 _ _,rfl,_,rfl,?_⟩
  refine iteDN (ne 3 (by decide) (by show k ≠ 3; omega)) ⟨_,rfl,t,_,_,_,rfl,rfl,SqT.of ht,at0 _ _,(by show 3≤sizeLine; decide),fun l hl=>?_⟩
  obtain ⟨G1,e1,s1,f1⟩:=newO hl (.lst [.str "left",.str "right",.str "slide"])
  rw [e1]
  refine ⟨l,_,rfl,.inl (SqL.of f1),rfl,rfl,?_⟩
  rw [if_neg (by decide),show (Rw.mv k g a j).k = k from rfl,in3 k15,decide_eq_true ok]
  have ht1:G1 t = some (.tup [.str (wOf k),.str g,.str a,.int j]):=s1 _ _ ht
  have hd1:=s1 _ _ hd
  refine ⟨_,rfl,iteT ⟨_,rfl,t,_,_,_,rfl,rfl,SqT.of ht1,rfl,_,rfl,d,rfl,⟨_,hd1⟩,_,rfl,t,_,_,_,rfl,rfl,SqT.of ht1,rfl,_,_,rfl,hd1,wi,_,rfl,t,_,_,_,rfl,rfl,SqT.of ht1,rfl,_,rfl,k,w',_,j,rfl,ok,w0,w1,a0,a1,j0,j1,?_⟩⟩
  refine ⟨_,rfl,_,rfl,t,_,_,_,rfl,rfl,SqT.of ht1,rfl,d,_,rfl,DPut.k (k:=.inr g) hd1 (by omega),?_⟩
  exact q _ (by rw [upd_same]; rfl) (by show upd _ d _ m' = _; rw [upd_ne (Ne.symm ndm)]; exact s1 _ _ hm) (fun b' o' n1 n2 e=>by rw [upd_ne n1]; exact s1 _ _ e)
 | jn k g a b =>
  obtain ⟨ok,og,oa,ob⟩:=rk
  obtain ⟨_,a0,a1⟩:=wd.get a
  obtain ⟨_,b0,b1⟩:=wd.get b
  have k15:k < 15:=by omega
  refine ⟨_,rfl,t,_,_,_,rfl,rfl,SqT.of ht,at0 _ _,rfl,_,rfl,?_⟩
  refine iteDN (ne 0 (by decide) (by show k ≠ 0; omega)) ⟨_,rfl,t,_,_,_,rfl,rfl,SqT.of ht,at0 _ _,rfl,_,rfl,?_⟩
  refine iteDN (ne 1 (by decide) (by show k ≠ 1; omega)) ⟨_,rfl,t,_,_,_,rfl,rfl,SqT.of ht,at0 _ _,rfl,_,rfl,?_⟩
  refine iteDN (ne 14 (by decide) (by show k ≠ 14; omega)) ⟨_,rfl,t,_,_,_,rfl,rfl,SqT.of ht,at0 _ _,rfl,_,rfl,?_⟩
  refine iteDN (ne 13 (by decide) (by show k ≠ 13; omega)) ⟨_,rfl,t,_,_,_,rfl,rfl,SqT.of ht,at0 _ _,rfl,_,rfl,?_⟩
  refine iteDN (ne 2 (by decide) (by show k ≠ 2; omega)) ⟨_,rfl,t,_,_,_,rfl,rfl,SqT.of ht,at0 _ _,rfl,_,rfl,?_⟩
  refine iteDN (ne 3 (by decide) (by show k ≠ 3; omega)) ⟨_,rfl,t,_,_,_,rfl,rfl,SqT.of ht,at0 _ _,(by show 3≤sizeLine; decide),fun l hl=>?_⟩
  obtain ⟨G1,e1,s1,f1⟩:=newO hl (.lst [.str "left",.str "right",.str "slide"])
  rw [e1]
  refine ⟨l,_,rfl,.inl (SqL.of f1),rfl,rfl,?_⟩
  rw [if_neg (by decide),show (Rw.jn k g a b).k = k from rfl,in3 k15,decide_eq_false (by omega)]
  have ht1:G1 t = some (.tup [.str (wOf k),.str g,.str a,.str b]):=s1 _ _ ht
  have hd1:=s1 _ _ hd
  refine ⟨_,rfl,iteF ⟨_,rfl,t,_,_,_,rfl,rfl,SqT.of ht1,rfl,_,rfl,d,rfl,⟨_,hd1⟩,_,rfl,t,_,_,_,rfl,rfl,SqT.of ht1,rfl,_,_,rfl,hd1,wi,_,rfl,d,rfl,⟨_,hd1⟩,_,rfl,t,_,_,_,rfl,rfl,SqT.of ht1,rfl,_,_,rfl,hd1,wi,_,rfl,k,w',_,_,rfl,ok,w0,w1,a0,a1,b0,b1,?_⟩⟩
  refine ⟨_,rfl,_,rfl,t,_,_,_,rfl,rfl,SqT.of ht1,rfl,d,_,rfl,DPut.k (k:=.inr g) hd1 (by omega),?_⟩
  exact q _ (by rw [upd_same]; rfl) (by show upd _ d _ m' = _; rw [upd_ne (Ne.symm ndm)]; exact s1 _ _ hm) (fun b' o' n1 n2 e=>by rw [upd_ne n1]; exact s1 _ _ e)
theorem call_isinstK {X:Cx} {K:PySem.W.Frag} (h:X.K = K):CallR X (.builtin "isinstance") (fun xs H Q=>∃ x c t cv b,xs = [x,c]∧clsV c = some cv∧TyOf K H x t∧PySem.W.kitOne K t cv = some b∧Q (.bl b) H):=by
 subst h
 exact call_isinst
def spWordsL:Sp:=fun vs H Q _=>vs = []∧∀ (l:Addr) H',H l = none→H' l = some (.lst (rw16.map V.str))→Same H H'→Q (.ref l) H'
theorem ok__law_words {f:Addr} {fd:FuncData} (F:Fun K "_law_words" "_law_words" s__law_words f fd) (T:Txt K mg c) (H__law_sorts:Has P w K mg base 1 "_law_sorts" [] spSorts):FnOk P w K mg base CX0 2 f fd [] spWordsL:=by
 refine F.ok sc__law_words (fun vs H Q E h=>?_) (fun cdv A outer s H vs Q E hr h=>?_)
 ·obtain ⟨rfl,_⟩:=h
  rfl
 obtain ⟨rfl,q⟩:=h
 refine slE ⟨_,(pss_oneZ (slIn (ps_ret (pe_op op_addL (pe_fn0 H__law_sorts (hr.mono (by omega)) rfl) (pe_lst (pa_cons pe_str pa_nil)))))),?_⟩
 refine ⟨rfl,fun l1 H1 h1 f1 s1=>?_⟩
 refine ⟨(by show 1≤sizeLine; decide),fun l2 h2=>?_⟩
 obtain ⟨G2,w2,s2,f2⟩:=newO h2 (.lst [.str "turns"])
 rw [w2]
 refine ⟨l1,l2,_,_,rfl,rfl,SqL.of (s2 _ _ f1),SqL.of f2,(by show 15 + 1≤sizeLine; decide),fun l3 h3=>?_⟩
 exact q l3 _ (Same.none (s1.trans s2) h3) upd_same ((s1.trans s2).trans (same_new h3 _))
theorem nePrs {K:PySem.W.Frag} {H:Hp} {d:Nat} {p q:Addr} {xs ys:List V} {ps:List (V × V)} {Q:V→Hp→Prop} (hp:H p = some (.lst xs)) (hq:H q = some (.lst ys)) (a:PrsAt H xs ps) (b:PrsAt H ys ps) (ff:∀ x ∈ ps,flatV x.1 = true∧flatV x.2 = true) (k:Q (.bl false) H):rEqLD K (d + 1) true (.ref p) (.ref q) H Q:=by
 refine ⟨p,q,xs,ys,fun _=>true,rfl,rfl,SqL.of hp,SqL.of hq,by rw [a.1,b.1],fun j hj=>?_,?_⟩
 ·have hr:j < ps.length:=by rw [← a.1]; exact hj
  have hy:j < ys.length:=by rw [b.1]; exact hr
  obtain ⟨a1,e1,h1⟩:=a.2 j _ _ (List.getElem?_eq_getElem hj) (List.getElem?_eq_getElem hr)
  obtain ⟨a2,e2,h2⟩:=b.2 j _ _ (List.getElem?_eq_getElem hy) (List.getElem?_eq_getElem hr)
  rw [List.getD_eq_getElem?_getD,List.getD_eq_getElem?_getD,List.getElem?_eq_getElem hj,List.getElem?_eq_getElem hy,e1,e2]
  have f:=ff _ (List.getElem_mem hr)
  exact eqRow h1 h2 (allV ⟨.inl f.1,.inl f.2,trivial⟩)
 ·rw [aT]
  exact k
theorem cnt_at {cf:Nat→Int} {j:Nat} {kv:Key × V} (h:(cntK cf)[j]? = some kv):j < 16∧kv = (.inr (wOf j),.int (cf j)):=by
 unfold cntK at h
 rw [List.getElem?_map] at h
 by_cases c:j < 16
 ·rw [List.getElem?_range c] at h
  cases h
  exact ⟨c,rfl⟩
 ·rw [List.getElem?_eq_none (by rw [List.length_range]; omega)] at h
  cases h
def cPs (cf:Nat→Int) (n:Nat):List (V × V):=(List.range n).map fun i=>(.str (wOf i),.int (cf i))
def spSameL:Sp:=fun vs H Q _=>∃ (t b ml cd dw m cn:Addr) (kvs ck:List (Key × V)) (xs ys:List V) (ps:List (V × V)) (cf:Nat→Int),vs = [.ref t,.ref b,.ref ml,.ref cd]∧H t = some (.tup [.ref dw,.ref m,.ref cn])∧H dw = some (.dK kvs)∧H b = some (.dK kvs)∧IntD kvs∧kvs.length≤100∧H m = some (.lst xs)∧PrsAt H xs ps∧H ml = some (.lst ys)∧PrsAt H ys ps∧ps.length≤100∧(∀ p ∈ ps,(∃ n:Int,p.1 = .int n)∧flatV p.1 = true∧flatV p.2 = true) ∧
 H cn = some (.dK (cntK cf))∧H cd = some (.dK ck)∧IntD ck∧(∀ i,i < 16→gI ck (wOf i) = cf i)∧∀ H',Same H H'→Q (.bl true) H'
theorem ok__law_same {f:Addr} {fd:FuncData} (F:Fun K "_law_same" "_law_same" s__law_same f fd) (T:Txt K mg c) (H__law_whole:Has P w K mg base 1 "_law_whole" ["_law_found"] spWhole) (H__law_words:Has P w K mg base 2 "_law_words" [] spWordsL):FnOk P w K mg base CX0 3 f fd ["_law_found", "_law_held", "_law_marks", "_law_counts"] spSameL:=by
 refine F.ok sc__law_same (fun vs H Q E h=>?_) (fun cdv A outer s H vs Q E hr h=>?_)
 ·obtain ⟨t,b,ml,cd,dw,m,cn,kvs,ck,xs,ys,ps,cf,rfl,_⟩:=h
  rfl
 obtain ⟨t,b,ml,cd,dw,m,cn,kvs,ck,xs,ys,ps,cf,rfl,ht,hdw,hb,wi,kl,hx,px,hy,py,ol,ho,hcn,hcd,ici,hck,q⟩:=h
 refine ⟨_,(pss_cons (ps_if (PW.pt (pw_or (pt_not (pt_val (pe_callB call_isinst rfl T.n_isinstance boot_isinstance (pa_cons (pv 0) (pa_cons (pe_ty rfl T.n_tuple boot_tuple) pa_nil))))) (pw_or (pt_cmpR op_ne (pe_callB call_len_seq rfl T.n_len boot_len (pa_cons (pv 0) pa_nil)) pe_int (nomark _)) (pw_or (pt_not (pt_val (pe_callB call_isinst rfl T.n_isinstance boot_isinstance (pa_cons (pe_ix ix_tup (pv 0) pe_int (fun _ _=>rfl)) (pa_cons (pe_ty rfl T.n_dict boot_dict) pa_nil))))) (pw_or1 (pt_cmpR (op_neSD (Nat.lt_of_succ_lt (hu_of hr))) (pe_ix ix_tup (pv 0) pe_int (fun _ _=>rfl)) (pv 1) (nomark _)))))))
   (pss_one (ps_ret pe_bl))
   pss_nil)
  (pss_cons (ps_if (PW.pt (pw_or (pt_not (pt_val (pe_callB call_isinst rfl T.n_isinstance boot_isinstance (pa_cons (pe_ix ix_tup (pv 0) pe_int (fun _ _=>rfl)) (pa_cons (pe_ty rfl T.n_list boot_list) pa_nil))))) (pw_or (pt_cmpR (op_neLD (d:=1) (hu2 hr)) (pe_ix ix_tup (pv 0) pe_int (fun _ _=>rfl)) (pv 2) (nomark _)) (pw_or1 (pt_not (pt_val (pe_callB call_isinst rfl T.n_isinstance boot_isinstance (pa_cons (pe_ix ix_tup (pv 0) pe_int (fun _ _=>rfl)) (pa_cons (pe_ty rfl T.n_dict boot_dict) pa_nil)))))))))
   (pss_one (ps_ret pe_bl))
   pss_nil)
  (pss_cons (ps_if (pt_not (pt_val (pe_callB (call_all_bl rfl) rfl T.n_all boot_all (pa_cons (pe_comp0 rfl (by first | rfl | with_unfolding_all rfl) (by decide +kernel) rfl (by decide +kernel) rfl (pi_list (pe_ix ix_tup (pv 0) pe_int (fun _ _=>rfl))) (fun C s2 H2 fp=>(pe_and (pe_callB (call_isinstK (K:=K) rfl) rfl T.n_isinstance boot_isinstance (pa_cons (pv 0) (pa_cons (pe_ty rfl T.n_tuple boot_tuple) pa_nil))) (pe_one (pe_fn H__law_whole (hr.mono (by omega)) rfl (pa_cons (pe_ix (ix_tupK (K:=K) rfl) (pv 0) pe_int (fun _ _=>rfl)) pa_nil)))))) pa_nil))))
   (pss_one (ps_ret pe_bl))
   pss_nil)
  (pss_cons (ps_if (pt_cmpR (op_neLD (d:=1) (hu2 hr)) (pe_callTy (call_listI rfl) rfl T.n_list boot_list (pa_cons (pe_bm0 PySem.F.plainAttrs_dict PySem.F.slot_dict_items PySem.F.type_dict_items mt_items (pe_ix ix_tup (pv 0) pe_int (fun _ _=>rfl))) pa_nil)) (pe_compC [3] ["_law_counts"] rfl (by first | rfl | with_unfolding_all rfl) (by rfl) (by exact (List.forall_mem_cons.mpr ⟨rfl,(fun _ h=>nomatch h)⟩)) (by decide +kernel) rfl (by decide +kernel) rfl (by decide +kernel) (by exact (List.forall_mem_cons.mpr ⟨⟨by first | exact Or.inl rfl | exact Or.inr rfl,rfl⟩,(fun _ h=>nomatch h)⟩)) rfl (by rfl) (pi_list (pe_fn0 H__law_words (hr.mono (by omega)) rfl)) (fun C s2 H2 fp=>(pe_tup (pa_cons (pv 0) (pa_cons (pe_dgetI (hu_of hr) (pv 1) (pv 0) pe_int ⟨rfl,rfl,rfl,rfl⟩) pa_nil))))) (nomark _))
   (pss_one (ps_ret pe_bl))
   pss_nil)
  (pss_one (ps_ret (pe_callB (call_all_bl rfl) rfl T.n_all boot_all (pa_cons (pe_comp0 rfl (by first | rfl | with_unfolding_all rfl) (by decide +kernel) rfl (by decide +kernel) rfl (pi_list (pe_op op_addL (pe_callTy (call_listV rfl) rfl T.n_list boot_list (pa_cons (pe_bm0 PySem.F.plainAttrs_dict PySem.F.slot_dict_values PySem.F.type_dict_values mt_values (pe_ix ix_tup (pv 0) pe_int (fun _ _=>rfl))) pa_nil)) (pe_callTy (call_listV rfl) rfl T.n_list boot_list (pa_cons (pe_bm0 PySem.F.plainAttrs_dict PySem.F.slot_dict_values PySem.F.type_dict_values mt_values (pe_ix ix_tup (pv 0) pe_int (fun _ _=>rfl))) pa_nil)))) (fun C s2 H2 fp=>(pe_fn H__law_whole (hr.mono (by omega)) rfl (pa_cons (pv 0) pa_nil)))) pa_nil)))))))),?_⟩
 have L1000:(1000:Nat)≤sizeLine:=by decide
 have xl:xs.length≤100:=by rw [px.1]; exact ol
 refine ⟨_,rfl,_,_,_,_,_,rfl,rfl,TyOf.tup ht,rfl,_,rfl,iteF ?_⟩
 refine ⟨_,rfl,t,_,rfl,.inr (SqT.of ht),rfl,_,rfl,iteNS rfl ?_⟩
 refine ⟨_,rfl,t,_,_,_,rfl,rfl,SqT.of ht,rfl,_,_,_,_,_,rfl,rfl,TyOf.dK hdw,rfl,_,rfl,iteF ?_⟩
 refine ⟨_,rfl,t,_,_,_,rfl,rfl,SqT.of ht,rfl,_,rfl,dw,b,kvs,rfl,rfl,hdw,hb,wi,_,rfl,iteF ?_⟩
 refine ⟨_,rfl,t,_,_,_,rfl,rfl,SqT.of ht,rfl,_,_,_,_,_,rfl,rfl,TyOf.lst hx,rfl,_,rfl,iteF ?_⟩
 refine ⟨_,rfl,t,_,_,_,rfl,rfl,SqT.of ht,rfl,_,rfl,?_⟩
 refine nePrs (d:=0) hx hy px py (fun p hp=>(ho p hp).2) ?_
 refine ⟨_,rfl,iteF ?_⟩
 refine ⟨_,rfl,t,_,_,_,rfl,rfl,SqT.of ht,rfl,_,_,_,_,_,rfl,rfl,TyOf.dK hcn,rfl,_,rfl,iteF ?_⟩
 have rp:∀ n,(List.replicate n true).all id = true:=fun n=>by rw [List.all_eq_true]; exact fun b hb=>(List.mem_replicate.mp hb).2
 refine ⟨_,rfl,t,_,_,_,rfl,rfl,SqT.of ht,rfl,m,rfl,⟨_,SqL.of hx⟩,fun D hD=>?_⟩
 refine comp_list (xs:=xs) (fun j HJ=>HJ D = some (.lst ((List.replicate j true).map V.bl))∧Same H HJ) ⟨upd_same,same_new hD _⟩ ?_ ?_ ?_
 ·rintro j HJ hj ⟨_,sJ⟩
  exact SqL.of (sJ _ _ hx)
 ·rintro j v HJ hv ⟨hz,sJ⟩
  have jl:=(List.getElem?_eq_some_iff.mp hv).1
  have jo:j < ps.length:=by rw [← px.1]; exact jl
  obtain ⟨a,rfl,ha⟩:=px.2 j v _ hv (List.getElem?_eq_getElem jo)
  obtain ⟨⟨n,en⟩,_⟩:=ho _ (List.getElem_mem jo)
  rw [en] at ha
  refine ⟨_,rfl,_,_,_,_,_,rfl,rfl,TyOf.tup (sJ _ _ ha),rfl,_,rfl,iteT ⟨_,rfl,a,_,_,_,rfl,rfl,SqT.of (sJ _ _ ha),rfl,n,rfl,_,hz,(by rw [List.length_map,List.length_replicate]; omega),_,(show xs.length - (j + 1) < _ by omega),rfl,(by omega),?_,Same.updL sJ hD⟩⟩
  rw [upd_same,List.replicate_succ',List.map_append]
  rfl
 rintro H1 ⟨hz,s1⟩
 refine ⟨D,_,rfl,SqL.of hz,?_⟩
 rw [rp]
 refine ⟨_,rfl,iteF ?_⟩
 clear hz hD
 have hcn1:=s1 _ _ hcn
 refine ⟨_,rfl,t,_,_,_,rfl,rfl,SqT.of (s1 _ _ ht),rfl,.inr (.inr (.inl ⟨rfl,.inl ⟨_,hcn1⟩⟩)),cn,_,rfl,rfl,hcn1,fun rv hrv=>?_⟩
 obtain ⟨G2,e2,s2,f2⟩:=newO hrv (vwI rv cn)
 rw [e2]
 refine ⟨rv,cn,_,rfl,f2,s2 _ _ hcn1,fun li as G3 hli h3 la hp s3=>?_⟩
 have PA:PrsAt G3 (as.map V.ref) (cPs cf 16):=by
  refine ⟨by rw [List.length_map,la,cnt_len]; unfold cPs; rw [List.length_map,List.length_range],fun j x p e1 e2=>?_⟩
  rw [List.getElem?_map] at e1
  cases ea:as[j]? with
  | none=>rw [ea] at e1; cases e1
  | some a =>
   rw [ea] at e1
   cases e1
   have ja:j < as.length:=(List.getElem?_eq_some_iff.mp ea).1
   have jk:j < (cntK cf).length:=by rw [← la]; exact ja
   have ek:=List.getElem?_eq_getElem jk
   obtain ⟨j16,e'⟩:=cnt_at ek
   have:=hp j a _ ea ek
   rw [e'] at this
   unfold cPs at e2
   rw [List.getElem?_map,List.getElem?_range j16] at e2
   cases e2
   exact ⟨a,rfl,this⟩
 refine ⟨rfl,fun lw G4 hlw h4 s4=>⟨lw,rfl,⟨_,SqL.of h4⟩,fun D hD=>?_⟩⟩
 have S4:Same H G4:=((s1.trans s2).trans s3).trans s4
 refine comp_list (xs:=rw16.map V.str) (fun j HJ=>∃ zs,HJ D = some (.lst zs)∧PrsAt HJ zs (cPs cf j)∧Same G4 HJ) ⟨[],upd_same,PrsAt.nil,same_new hD _⟩ ?_ ?_ ?_
 ·rintro j HJ hj ⟨zs,_,_,sJ⟩
  exact SqL.of (sJ _ _ h4)
 ·rintro j v HJ hv ⟨zs,hz,pz,sJ⟩
  obtain ⟨rfl,j16⟩:=rw_at hv
  have hcdJ:=sJ _ _ (S4 _ _ hcd)
  have zl:zs.length = j:=by rw [pz.1]; unfold cPs; rw [List.length_map,List.length_range]
  refine ⟨_,rfl,_,rfl,cd,rfl,⟨_,hcdJ⟩,_,rfl,_,_,rfl,hcdJ,ici,(by show 2≤sizeLine; decide),fun tt htt=>?_⟩
  rw [hck j j16]
  have s5:=same_new htt (.tup [.str (wOf j),.int (cf j)])
  refine ⟨zs,s5 _ _ hz,by omega,_,(show (rw16.map V.str).length - (j + 1) < _ by show 16 - (j + 1) < 16 - j; omega),rfl,(by show j + 1≤16; omega),zs ++ [.ref tt],upd_same,?_,Same.updL (sJ.trans s5) hD⟩
  rw [show cPs cf (j + 1) = cPs cf j ++ [(.str (wOf j),.int (cf j))] by unfold cPs; rw [List.range_succ,List.map_append]; rfl]
  refine ((pz.same fun b xs e=>s5 _ _ e).app (PrsAt.one (p:=(.str (wOf j),.int (cf j))) upd_same)).same fun b xs e=>?_
  rw [upd_ne fun z=>by rw [z,s5 _ _ hz] at e; cases e]
  exact e
 rintro H5 ⟨zs,hz,pz,s5⟩
 have S5:=S4.trans s5
 have pa5:PrsAt H5 (as.map V.ref) (cPs cf 16):=PA.same fun a xs e=>s5 _ _ (s4 _ _ e)
 refine nePrs (d:=0) (s5 _ _ (s4 _ _ h3)) hz pa5 pz (fun x hx=>?_) ?_
 ·unfold cPs at hx
  obtain ⟨i,_,rfl⟩:=List.mem_map.mp hx
  exact ⟨rfl,rfl⟩
 refine ⟨_,rfl,iteF ?_⟩
 clear pa5 PA pz hz hD h4 h3 hp la hli f2 e2 hcn1
 have hdw5:=S5 _ _ hdw
 refine ⟨_,rfl,t,_,_,_,rfl,rfl,SqT.of (S5 _ _ ht),rfl,.inr (.inr (.inl ⟨rfl,.inl ⟨_,hdw5⟩⟩)),dw,_,rfl,rfl,hdw5,fun r1 hr1=>?_⟩
 obtain ⟨G6,e6,s6,f6⟩:=newO hr1 (vwV r1 dw)
 rw [e6]
 refine ⟨r1,dw,_,rfl,f6,s6 _ _ hdw5,fun l1 hl1=>?_⟩
 obtain ⟨G7,e7,s7,f7⟩:=newO hl1 (.lst (kvs.map (·.2)))
 rw [e7]
 have S7:=(S5.trans s6).trans s7
 have hcn7:=S7 _ _ hcn
 refine ⟨_,rfl,t,_,_,_,rfl,rfl,SqT.of (S7 _ _ ht),rfl,.inr (.inr (.inl ⟨rfl,.inl ⟨_,hcn7⟩⟩)),cn,_,rfl,rfl,hcn7,fun r2 hr2=>?_⟩
 obtain ⟨G8,e8,s8,f8⟩:=newO hr2 (vwV r2 cn)
 rw [e8]
 refine ⟨r2,cn,_,rfl,f8,s8 _ _ hcn7,fun l2 hl2=>?_⟩
 obtain ⟨G9,e9,s9,f9⟩:=newO hl2 (.lst ((cntK cf).map (·.2)))
 rw [e9]
 have S9:=(S7.trans s8).trans s9
 refine ⟨l1,l2,_,_,rfl,rfl,SqL.of (s9 _ _ (s8 _ _ f7)),SqL.of f9,(by rw [List.length_map,List.length_map,cnt_len]; omega),fun l3 hl3=>?_⟩
 obtain ⟨Ga,ea,sa,fa⟩:=newO hl3 (.lst (kvs.map (·.2) ++ (cntK cf).map (·.2)))
 rw [ea]
 have vi:∀ v ∈ kvs.map (·.2) ++ (cntK cf).map (·.2),∃ n:Int,v = .int n:=fun v hv=>by
  rcases List.mem_append.mp hv with hv | hv
  ·obtain ⟨kv,hk,rfl⟩:=List.mem_map.mp hv
   exact wi kv hk
  ·rw [cnt_ints] at hv
   obtain ⟨n,_,rfl⟩:=List.mem_map.mp hv
   exact ⟨n,rfl⟩
 have vl:(kvs.map (·.2) ++ (cntK cf).map (·.2)).length≤116:=by rw [List.length_append,List.length_map,List.length_map,cnt_len]; omega
 generalize kvs.map (·.2) ++ (cntK cf).map (·.2) = us at fa vi vl
 refine ⟨l3,rfl,⟨_,SqL.of fa⟩,fun D hD=>?_⟩
 refine comp_list (xs:=us) (fun j HJ=>HJ D = some (.lst ((List.replicate j true).map V.bl))∧Same Ga HJ) ⟨upd_same,same_new hD _⟩ ?_ ?_ ?_
 ·rintro j HJ hj ⟨_,sJ⟩
  exact SqL.of (sJ _ _ fa)
 ·rintro j v HJ hv ⟨hz,sJ⟩
  have jl:=(List.getElem?_eq_some_iff.mp hv).1
  obtain ⟨n,rfl⟩:=vi v (List.mem_of_getElem? hv)
  refine ⟨_,rfl,n,rfl,_,hz,(by rw [List.length_map,List.length_replicate]; omega),_,(show us.length - (j + 1) < _ by omega),rfl,(by omega),?_,Same.updL sJ hD⟩
  rw [upd_same,List.replicate_succ',List.map_append]
  rfl
 rintro Hb ⟨hz,sb⟩
 refine ⟨D,_,rfl,SqL.of hz,?_⟩
 rw [rp]
 exact q Hb ((S9.trans sa).trans sb)
def TupsOf (H:Hp) (ts:List V) (rs:List Rw):Prop:=ts.length = rs.length∧∀ (i:Nat) x r,ts[i]? = some x→rs[i]? = some r→∃ t,x = .ref t∧H t = some (.tup (.str (wOf r.k) :: r.fs))
theorem TupsOf.same {H H':Hp} {ts:List V} {rs:List Rw} (h:TupsOf H ts rs) (s:∀ a xs,H a = some (.tup xs)→H' a = some (.tup xs)):TupsOf H' ts rs:=⟨h.1,fun i x r e1 e2=>let ⟨a,e,t⟩:=h.2 i x r e1 e2; ⟨a,e,s _ _ t⟩⟩
theorem TupsOf.nil {H:Hp}:TupsOf H [] []:=⟨rfl,fun i x r e=>by simp at e⟩
theorem snoc_at {α β:Type} {xs:List α} {ys:List β} {a:α} {b:β} (hl:xs.length = ys.length) {i:Nat} {x:α} {y:β} (e1:(xs ++ [a])[i]? = some x) (e2:(ys ++ [b])[i]? = some y):(xs[i]? = some x∧ys[i]? = some y)∨(x = a∧y = b):=by
 by_cases hi:i < xs.length
 ·rw [List.getElem?_append_left hi] at e1
  rw [List.getElem?_append_left (by rw [← hl]; exact hi)] at e2
  exact .inl ⟨e1,e2⟩
 ·have l:=(List.getElem?_eq_some_iff.mp e1).1
  rw [List.length_append,List.length_singleton] at l
  have e:i = xs.length:=by omega
  subst e
  rw [List.getElem?_append_right (Nat.le_refl _),Nat.sub_self] at e1
  rw [List.getElem?_append_right (by rw [hl]; exact Nat.le_refl _),hl,Nat.sub_self] at e2
  cases e1
  cases e2
  exact .inr ⟨rfl,rfl⟩
theorem TupsOf.snoc {H:Hp} {ts:List V} {rs:List Rw} {a:Addr} {r:Rw} (h:TupsOf H ts rs) (t:H a = some (.tup (.str (wOf r.k) :: r.fs))):TupsOf H (ts ++ [.ref a]) (rs ++ [r]) :=
 ⟨by rw [List.length_append,List.length_append,h.1]; rfl,fun i x q e1 e2=>by
  rcases snoc_at h.1 e1 e2 with ⟨f1,f2⟩ | ⟨rfl,rfl⟩
  ·exact h.2 i x q f1 f2
  ·exact ⟨a,rfl,t⟩⟩
theorem RowsOf.snoc {c:Ad} {H:Hp} {xs:List V} {rs:List Rw} {a:Addr} {r:Rw} (h:RowsOf c H xs rs) (t:StepAt c H a r.k r.fs):RowsOf c H (xs ++ [.ref a]) (rs ++ [r]) :=
 ⟨by rw [List.length_append,List.length_append,h.1]; rfl,fun i x q e1 e2=>by
  rcases snoc_at h.1 e1 e2 with ⟨f1,f2⟩ | ⟨rfl,rfl⟩
  ·exact h.2 i x q f1 f2
  ·exact ⟨a,rfl,t⟩⟩
theorem TupsOf.take {H:Hp} {ts:List V} {rs:List Rw} (h:TupsOf H ts rs) (n:Nat):TupsOf H (ts.take n) (rs.take n):=⟨by rw [List.length_take,List.length_take,h.1],fun i x r e1 e2=>by
 rw [List.getElem?_take] at e1 e2
 split at e1
 ·rename_i c
  rw [if_pos c] at e2
  exact h.2 i x r e1 e2
 ·cases e1⟩
theorem TupsOf.drop {H:Hp} {ts:List V} {rs:List Rw} (h:TupsOf H ts rs) (n:Nat):TupsOf H (ts.drop n) (rs.drop n):=⟨by rw [List.length_drop,List.length_drop,h.1],fun i x r e1 e2=>by
 rw [List.getElem?_drop] at e1 e2
 exact h.2 _ x r e1 e2⟩
theorem Rw.flat (r:Rw):∀ x ∈ V.str (wOf r.k) :: r.fs,flatV x = true∨∃ a,x = .ref a:=by
 cases r with
 | car k g c a b=>cases c with
  | none=>exact allV ⟨.inl rfl,.inl rfl,.inl rfl,.inl rfl,.inl rfl,trivial⟩
  | some z=>exact allV ⟨.inl rfl,.inl rfl,.inl rfl,.inl rfl,.inl rfl,trivial⟩
 | set g b=>exact allV ⟨.inl rfl,.inl rfl,.inl rfl,trivial⟩
 | copy g b=>exact allV ⟨.inl rfl,.inl rfl,.inl rfl,trivial⟩
 | pick g y a b=>exact allV ⟨.inl rfl,.inl rfl,.inl rfl,.inl rfl,.inl rfl,trivial⟩
 | jn k g a b=>exact allV ⟨.inl rfl,.inl rfl,.inl rfl,.inl rfl,trivial⟩
 | mv k g a j=>exact allV ⟨.inl rfl,.inl rfl,.inl rfl,.inl rfl,trivial⟩
 | mark n m y=>exact allV ⟨.inl rfl,.inl rfl,.inl rfl,.inl rfl,trivial⟩
theorem neTups {K:PySem.W.Frag} {H:Hp} {d:Nat} {p q:Addr} {xs ys:List V} {rs:List Rw} {Q:V→Hp→Prop} (hp:H p = some (.lst xs)) (hq:H q = some (.lst ys)) (a:TupsOf H xs rs) (b:TupsOf H ys rs) (k:Q (.bl false) H):rEqLD K (d + 1) true (.ref p) (.ref q) H Q:=by
 refine ⟨p,q,xs,ys,fun _=>true,rfl,rfl,SqL.of hp,SqL.of hq,by rw [a.1,b.1],fun j hj=>?_,?_⟩
 ·have hr:j < rs.length:=by rw [← a.1]; exact hj
  have hy:j < ys.length:=by rw [b.1]; exact hr
  obtain ⟨a1,e1,h1⟩:=a.2 j _ _ (List.getElem?_eq_getElem hj) (List.getElem?_eq_getElem hr)
  obtain ⟨a2,e2,h2⟩:=b.2 j _ _ (List.getElem?_eq_getElem hy) (List.getElem?_eq_getElem hr)
  rw [List.getD_eq_getElem?_getD,List.getD_eq_getElem?_getD,List.getElem?_eq_getElem hj,List.getElem?_eq_getElem hy,e1,e2]
  exact eqRow h1 h2 (Rw.flat _)
 ·rw [aT]
  exact k
def RsOk (w:Int) (zs:List Str) (rs:List Rw):Prop:=∀ r ∈ rs,r.ok w∧r.inZ zs
def spRowsL (K:PySem.W.Frag):Sp:=fun vs H Q _=>∃ (a l:Addr) (ns:List Int) (w:Int) (zs:List Str),vs = [.ref a,.int w,.ref l]∧SqL K H a (ns.map V.int)∧ns.length≤63∧4≤w∧w≤32∧Nms H l zs∧∀ (lr:Addr) (ts:List V) (rs:List Rw) H',H lr = none→H' lr = some (.lst ts)→TupsOf H' ts rs→RsOk w zs rs→rs.length≤60→Same H H'→Q (.ref lr) H'
theorem ok__law_rows {f:Addr} {fd:FuncData} (F:Fun K "_law_rows" "_law_rows" s__law_rows f fd) (T:Txt K mg c) (H__law_row:Has P w K mg base 3 "_law_row" ["_law_state", "_law_width", "_law_names_here"] spRowL) (H__law_begun:Has P w K mg base 1 "_law_begun" ["_law_cell_here"] spBox) (H__law_cell:Has P w K mg base 1 "_law_cell" ["_law_script", "_law_k"] (spCell K)):FnOk P w K mg base CX0 4 f fd ["_law_script", "_law_width", "_law_names_here"] (spRowsL K):=by
 refine F.ok sc__law_rows (fun vs H Q E h=>?_) (fun cdv A outer s H vs Q E hr h=>?_)
 ·obtain ⟨a,l,ns,w',zs,rfl,_⟩:=h
  rfl
 obtain ⟨a,l,ns,w',zs,rfl,hS,hlen,w0,w1,nm,q⟩:=h
 refine ⟨_,(pss_cons (ps_set (i:=3) sc__law_rows.nd rfl (Or.inl rfl) (pe_lst pa_nil))
  (pss_cons (ps_for PassesOwn.never rfl (pi_range1 rfl T.n_range (pa_cons (pe_callB (call_max2 rfl) rfl T.n_max boot_max (pa_cons pe_int (pa_cons (pe_callB (call_min2 rfl) rfl T.n_min boot_min (pa_cons pe_int (pa_cons (pe_callB call_len_seq rfl T.n_len boot_len (pa_cons (pv 0) pa_nil)) pa_nil))) pa_nil))) pa_nil)) (pg_name (i:=4) sc__law_rows.nd rfl (Or.inl rfl))
   (pss_one (ps_expr (pe_bm PySem.F.plainAttrs_list PySem.F.slot_list_append PySem.F.type_list_append mt_append (pv 3) (pa_cons (pe_fn H__law_row (hr.mono (by omega)) rfl (pa_cons (pe_fn H__law_begun (hr.mono (by omega)) rfl (pa_cons (pe_fn H__law_cell (hr.mono (by omega)) rfl (pa_cons (pv 0) (pa_cons (pe_op op_add (pv 4) pe_int) pa_nil))) pa_nil)) (pa_cons (pv 1) (pa_cons (pv 2) pa_nil)))) pa_nil)))))
  (pss_one (ps_ret (pv 3))))),?_⟩
 have hl:(ns.map V.int).length = ns.length:=List.length_map _
 have L1000:(1000:Nat)≤sizeLine:=by decide
 refine ⟨(by show 0≤sizeLine; decide),fun lr hlr=>?_⟩
 obtain ⟨G1,e1,s1,f1⟩:=newO hlr (.lst [])
 rw [e1]
 refine ⟨_,rfl,a,_,rfl,.inl (s1.seq hS),_,_,rfl,_,_,rfl,_,rfl,(by rw [hl]; split <;> (try split) <;> omega),(by rw [hl]; split <;> (try split) <;> omega),for_range (fun j σ G=>∃ (y:Option V) (ts:List V) (rs:List Rw),σ = [some (.ref a),some (.int w'),some (.ref l),some (.ref lr),y]∧G lr = some (.lst ts)∧TupsOf G ts rs∧RsOk w' zs rs∧rs.length = j∧Same H G) ⟨_,[],[],rfl,f1,TupsOf.nil,(fun _ h=>nomatch h),rfl,s1⟩ ?_ ?_⟩
 ·rintro j σ G hj ⟨y,ts,rs,rfl,gl,tu,ok,ln,SG⟩
  have hj':(j:Int) < 100:=by
   rw [hl] at hj
   revert hj
   split <;> (try split) <;> omega
  refine ⟨_,rfl,.inl ⟨rfl,_,SqL.of gl⟩,_,rfl,_,rfl,_,_,rfl,rfl,a,ns,_,rfl,SG.seq hS,by omega,by omega,fun cc=>⟨cc,rfl,fun p H3 p0 b3 s3=>?_⟩⟩
  have nlp:l ≠ p:=ne_of_none (SG _ _ nm.1) p0
  refine ⟨_,rfl,_,rfl,p,l,w',zs,rfl,b3,w0,w1,⟨s3 _ _ (SG _ _ nm.1),nm.2⟩,nlp,fun t r H4 ht ro rz b4 x4=>?_⟩
  have S4:Same G H4:=fun b o e=>x4 b o (ne_of_none e p0) (s3 _ _ e)
  refine ⟨lr,_,_,rfl,rfl,S4 _ _ gl,by rw [tu.1]; omega,?_⟩
  have up:∀ b ys,H4 b = some (.tup ys)→upd H4 lr (.lst (ts ++ [.ref t])) b = some (.tup ys):=fun b ys e=>by
   rw [upd_ne (fun z=>by rw [z,S4 _ _ gl] at e; cases e)]
   exact e
  exact ⟨_,ts ++ [.ref t],rs ++ [r],rfl,upd_same,((tu.same fun b ys e=>S4 _ _ e).snoc ht).same up,(fun q hq=>(List.mem_append.mp hq).elim (ok q) fun h=>by rw [List.mem_singleton.mp h]; exact ⟨ro,rz⟩),by rw [List.length_append,ln]; rfl,Same.updL (SG.trans S4) hlr⟩
 ·rintro σ G ⟨y,ts,rs,rfl,gl,tu,ok,ln,SG⟩
  refine ⟨_,rfl,q lr ts rs G hlr gl tu ok ?_ SG⟩
  rw [ln,hl]
  split <;> (try split) <;> omega
theorem gI_put (kvs:List (Key × V)) (z y:Str) (v:Int):gI (putK kvs (.inr z) (.int v)) y = if y = z then v else gI kvs y:=by
 unfold gI
 rw [valV_put]
 by_cases c:y = z
 ·subst c
  rw [if_pos rfl,if_pos rfl]
 ·rw [if_neg c,if_neg (fun h=>c (by injection h))]
def spDueL:Sp:=fun vs H Q _=>∃ (lr d:Addr) (w:Int) (ts:List V) (rs:List Rw) (zs:List Str) (kvs:List (Key × V)),vs = [.int w,.ref lr,.ref d]∧H lr = some (.lst ts)∧TupsOf H ts rs∧RsOk w zs rs∧rs.length≤60∧ZOk zs∧4≤w∧w≤32∧H d = some (.dK kvs)∧Wz w zs kvs ∧
 ∀ (o db m cd:Addr) (ms:List V) (ck:List (Key × V)) H',H' o = some (.lst [.ref db,.ref m,.ref cd])→H' db = some (.dK (actAll w kvs rs))→H' m = some (.lst ms)→PrsAt H' ms (mkAll w kvs rs)→H' cd = some (.dK ck)→IntD ck→(∀ i,i < 16→gI ck (wOf i) = cRows (fun _=>0) 1 rs i)→Same H H'→Q (.ref o) H'
theorem ok__law_due {f:Addr} {fd:FuncData} (F:Fun K "_law_due" "_law_due" s__law_due f fd) (T:Txt K mg c) (H__law_done:Has P w K mg base 2 "_law_done" ["_law_size", "_law_row_here", "_law_held", "_law_marks"] spDone):FnOk P w K mg base CX0 3 f fd ["_law_width", "_law_rows_here", "_law_held"] spDueL:=by
 refine F.ok sc__law_due (fun vs H Q E h=>?_) (fun cdv A outer s H vs Q E hr h=>?_)
 ·obtain ⟨lr,d,w',ts,rs,zs,kvs,rfl,_⟩:=h
  rfl
 obtain ⟨lr,d,w',ts,rs,zs,kvs,rfl,hlr,tu,rk,ln,zo,w0,w1,hd,wz,q⟩:=h
 refine ⟨_,(pss_cons (ps_set (i:=3) sc__law_due.nd rfl (Or.inl rfl) (pe_callTy call_dict rfl T.n_dict boot_dict (pa_cons (pv 2) pa_nil)))
  (pss_cons (ps_set (i:=4) sc__law_due.nd rfl (Or.inl rfl) (pe_lst pa_nil))
  (pss_cons (ps_set (i:=5) sc__law_due.nd rfl (Or.inl rfl) pe_dnewK)
  (pss_cons (ps_for PassesOwn.never rfl (pi_list (pv 1)) (pg_name (i:=6) sc__law_due.nd rfl (Or.inl rfl))
   (pss_cons (ps_expr (pe_fn H__law_done (hr.mono (by omega)) rfl (pa_cons (pe_op op_shl pe_int (pv 0)) (pa_cons (pv 6) (pa_cons (pv 3) (pa_cons (pv 4) pa_nil))))))
   (pss_one (ps_dput (hu_of hr) (pv 5) (pe_ix ix_tup (pv 6) pe_int (fun _ _=>rfl)) (pe_op op_add (pe_dgetI (hu_of hr) (pv 5) (pe_ix ix_tup (pv 6) pe_int (fun _ _=>rfl)) pe_int ⟨rfl,rfl,rfl,rfl⟩) pe_int) rfl))))
  (pss_one (ps_ret (pe_lst (pa_cons (pv 3) (pa_cons (pv 4) (pa_cons (pv 5) pa_nil)))))))))),?_⟩
 have L1000:(1000:Nat)≤sizeLine:=by decide
 refine ⟨_,rfl,d,kvs,rfl,hd,fun db hdb=>?_⟩
 obtain ⟨G1,e1,s1,f1⟩:=newO hdb (.dK kvs)
 rw [e1]
 refine ⟨(by show 0≤sizeLine; decide),fun m hm=>?_⟩
 obtain ⟨G2,e2,s2,f2⟩:=newO hm (.lst [])
 rw [e2]
 intro cd hcd
 obtain ⟨G3,e3,s3,f3⟩:=newO hcd (.dK [])
 rw [e3]
 have S3:=(s1.trans s2).trans s3
 have fm:H m = none:=Same.none s1 hm
 have fc:H cd = none:=Same.none (s1.trans s2) hcd
 have ncb:cd ≠ db:=fun z=>by rw [z,s2 _ _ f1] at hcd; cases hcd
 have ncm:cd ≠ m:=fun z=>by rw [z,f2] at hcd; cases hcd
 have nmb:m ≠ db:=fun z=>by rw [z,f1] at hm; cases hm
 refine ⟨_,rfl,lr,rfl,⟨_,SqL.of (S3 _ _ hlr)⟩,for_list (xs:=ts) (fun j σ G=>∃ (y:Option V) (ms:List V) (ck:List (Key × V)),σ = [some (.int w'),some (.ref lr),some (.ref d),some (.ref db),some (.ref m),some (.ref cd),y]∧Same H G∧G db = some (.dK (actAll w' kvs (rs.take j)))∧G m = some (.lst ms)∧PrsAt G ms (mkAll w' kvs (rs.take j))∧G cd = some (.dK ck)∧IntD ck∧ck.length≤j∧∀ i,i < 16→gI ck (wOf i) = cRows (fun _=>0) 1 (rs.take j) i) ⟨_,[],[],rfl,S3,s3 _ _ (s2 _ _ f1),s3 _ _ f2,PrsAt.nil,f3,(fun _ h=>nomatch h),Nat.le_refl _,fun i _=>rfl⟩ ?_ ?_ ?_⟩
 ·rintro j σ G hj ⟨y,ms,ck,rfl,SG,_⟩
  exact SqL.of (SG _ _ hlr)
 ·rintro j v σ G hv ⟨y,ms,ck,rfl,SG,gb,gm,pm,gc,ic,cl,hc⟩
  have jl:=(List.getElem?_eq_some_iff.mp hv).1
  have jr:j < rs.length:=by rw [← tu.1]; exact jl
  have er:rs[j]? = some (rs[j]'jr):=List.getElem?_eq_getElem _
  obtain ⟨t,rfl,ht⟩:=tu.2 j v _ hv er
  generalize rs[j]'jr = r at ht er
  have rok:=rk r (List.mem_of_getElem? er)
  have k15:=Rw.k15 rok.1
  have wj:Wz w' zs (actAll w' kvs (rs.take j)):=Wz.all zo (fun q hq=>rk q (List.mem_of_mem_take hq)) w0 w1 wz
  have ml:ms.length≤1000:=by
   have:=mkAll_len w' (rs.take j) kvs
   rw [pm.1]
   rw [List.length_take] at this
   omega
  have t1:actAll w' kvs (rs.take (j + 1)) = r.act w' (actAll w' kvs (rs.take j)):=by rw [take_snoc er,actAll_app]; rfl
  have t2:mkAll w' kvs (rs.take (j + 1)) = mkAll w' kvs (rs.take j) ++ mkL (r.mk (actAll w' kvs (rs.take j))):=by
   rw [take_snoc er,mkAll_app]
   show _ ++ (mkL _ ++ []) = _
   rw [List.append_nil]
  have t3:cRows (fun _=>0) 1 (rs.take (j + 1)) = cAdd (cRows (fun _=>0) 1 (rs.take j)) r.k 1:=by rw [take_snoc er,cRows_app]; rfl
  generalize actAll w' kvs (rs.take j) = kj at gb wj t1 t2
  generalize mkAll w' kvs (rs.take j) = pj at pm t2
  generalize cRows (fun _=>0) 1 (rs.take j) = cj at hc t3
  have htG:=SG _ _ ht
  refine ⟨_,rfl,_,_,rfl,rfl,cpow1 (by omega) (by omega),_,rfl,_,rfl,_,rfl,t,db,m,w',r,kj,ms,rfl,htG,rok.1,w0,w1,gb,wj.wd zo,gm,ml,fun G' gb' gm' sG'=>?_⟩
  have pm':PrsAt G' ms pj:=pm.same fun b ys e=>sG' _ _ (fun z=>by rw [z,gb] at e; cases e) (fun z=>by rw [z,gm] at e; cases e) e
  obtain ⟨ms',gm2,pm2⟩:=gm'.prs pm'
  have gc':=sG' _ _ ncb ncm gc
  have ht':G' t = some (.tup (.str (wOf r.k) :: r.fs)):=sG' _ _ (fun z=>by rw [z,gb] at htG; cases htG) (fun z=>by rw [z,gm] at htG; cases htG) htG
  refine ⟨_,rfl,cd,rfl,⟨_,gc'⟩,_,rfl,t,_,_,_,rfl,rfl,SqT.of ht',at0 _ _,_,_,rfl,gc',ic,_,_,rfl,rfl,_,rfl,_,rfl,t,_,_,_,rfl,rfl,SqT.of ht',at0 _ _,cd,_,rfl,DPut.k (k:=.inr (wOf r.k)) gc' (by omega),?_⟩
  have lp:=length_putK ck (.inr (wOf r.k)) (.int (gI ck (wOf r.k) + 1))
  refine ⟨_,ms',putK ck (.inr (wOf r.k)) (.int (gI ck (wOf r.k) + 1)),rfl,?_,by rw [upd_ne (Ne.symm ncb),t1]; exact gb',by rw [upd_ne (Ne.symm ncm)]; exact gm2,?_,upd_same,ic.put _ _,by omega,fun i hi=>?_⟩
  ·intro b o e
   rw [upd_ne (ne_of_none e fc)]
   exact sG' b o (ne_of_none e hdb) (ne_of_none e fm) (SG _ _ e)
  ·rw [t2]
   exact pm2.same fun b ys e=>by rw [upd_ne (fun z=>by rw [z,gc'] at e; cases e)]; exact e
  ·rw [gI_put,t3]
   show _ = if i = r.k then cj i + 1 else cj i
   by_cases c':i = r.k
   ·subst c'
    rw [if_pos rfl,if_pos rfl,hc _ hi]
   ·rw [if_neg c',if_neg (fun z=>c' (wInj hi (by omega) (by rw [z]))),hc i hi]
 ·rintro σ G ⟨y,ms,ck,rfl,SG,gb,gm,pm,gc,ic,cl,hc⟩
  rw [tu.1,List.take_length] at gb pm hc
  refine ⟨_,rfl,_,rfl,_,rfl,(by show 3≤sizeLine; decide),fun o ho=>?_⟩
  have s5:=same_new ho (.lst [.ref db,.ref m,.ref cd])
  exact q o db m cd ms ck _ upd_same (s5 _ _ gb) (s5 _ _ gm) (pm.same fun b ys e=>s5 _ _ e) (s5 _ _ gc) ic hc (SG.trans s5)
theorem cut_take (xs:List V) (k:Nat) (hk:k≤xs.length):cutV xs none (some (k:Int)) = xs.take k:=by
 unfold cutV
 rw [HT.sIx_none,HT.sIx_nat,Nat.min_eq_left hk,List.drop_zero,Nat.sub_zero]
theorem cut_drop (xs:List V) (k:Nat) (hk:k≤xs.length):cutV xs (some (k:Int)) none = xs.drop k:=by
 unfold cutV
 rw [HT.sIx_none,HT.sIx_nat,Nat.min_eq_left hk,List.take_of_length_le]
 rw [List.length_drop]
 exact Nat.le_refl _
theorem Rw.lenF {w:Int} {r:Rw} (h:r.ok w):r.fs.length = (nOf r.k).length:=by
 cases r with
 | car k g c a b=>rcases h.1 with rfl | rfl <;> rfl
 | jn k g a b=>rcases h.1 with rfl | rfl | rfl | rfl | rfl | rfl <;> rfl
 | mv k g a j=>rcases h.1 with rfl | rfl | rfl <;> rfl
 | _=>rfl
theorem all15 {k:Nat} (h:k < 15):k ∈ [0,1,2,3,4,5,6,7,8,9,10,11,12,13,14]:=by
 simp only [List.mem_cons,List.not_mem_nil,or_false]
 omega
def spRunLaw (c:Ad):Sp:=fun vs H Q _=>∃ (lr d:Addr) (w:Int) (ts:List V) (rs:List Rw) (zs:List Str) (kvs:List (Key × V)),vs = [.int w,.ref lr,.ref d]∧H lr = some (.lst ts)∧TupsOf H ts rs∧RsOk w zs rs∧rs.length≤60∧ZOk zs∧4≤w∧w≤32∧H d = some (.dK kvs)∧Wz w zs kvs∧∀ H',Same H H'→Q (.bl true) H'
theorem ok__law_run {f:Addr} {fd:FuncData} (F:Fun K "_law_run" "_law_run" s__law_run f fd) (T:Txt K mg c) (H_run_steps:Has P w K mg base 8 "run_steps" ["width", "steps", "registers"] (spRunL c)) (H__law_due:Has P w K mg base 3 "_law_due" ["_law_width", "_law_rows_here", "_law_held"] spDueL) (H__law_made:Has P w K mg base 4 "_law_made" ["_law_row_here"] (spMade c [0,1,2,3,4,5,6,7,8,9,10,11,12,13,14])) (H__law_same:Has P w K mg base 3 "_law_same" ["_law_found", "_law_held", "_law_marks", "_law_counts"] spSameL) (H_check_steps:Has P w K mg base 8 "check_steps" ["width", "steps"] (spCheck c)) (MT:∀ k,k < 15→MHas P w K mg base 2 (fOf c k) "told" ["self"] (spTold c [k])):FnOk P w K mg base CX0 9 f fd ["_law_width", "_law_rows_here", "_law_held"] (spRunLaw c):=by
 refine F.ok sc__law_run (fun vs H Q E h=>?_) (fun cdv A outer s H vs Q E hr h=>?_)
 ·obtain ⟨lr,d,w',ts,rs,zs,kvs,rfl,_⟩:=h
  rfl
 obtain ⟨lr,d,w',ts,rs,zs,kvs,rfl,hlr,tu,rk,ln,zo,w0,w1,hd,wz,q⟩:=h
 refine ⟨_,(pss_cons (ps_set (i:=3) sc__law_run.nd rfl (Or.inl rfl) (pe_callTy call_dict rfl T.n_dict boot_dict (pa_cons (pv 2) pa_nil)))
  (pss_cons (ps_comp0 (i:=4) sc__law_run.nd rfl (Or.inl rfl) rfl rfl (by first | rfl | with_unfolding_all rfl) (by decide +kernel) rfl (by decide +kernel) rfl (pi_list (pv 1)) (fun C s2 H2 fp=>(pe_fn H__law_made (hr.mono (by omega)) rfl (pa_cons (pv 0) pa_nil))))
  (pss_cons (ps_set (i:=5) sc__law_run.nd rfl (Or.inl rfl) (pe_callTy call_list_of rfl T.n_list boot_list (pa_cons (pv 4) pa_nil)))
  (pss_cons (ps_set (i:=6) sc__law_run.nd rfl (Or.inl rfl) (pe_fn H_run_steps (hr.mono (by omega)) rfl (pa_cons (pv 0) (pa_cons (pv 4) (pa_cons (pv 3) pa_nil)))))
  (pss_cons (ps_if (PW.pt (pw_or (pt_cmpR (op_neSD (Nat.lt_of_succ_lt (hu_of hr))) (pv 3) (pv 2) (nomark _)) (pw_or (pt_cmpR op_ne (pe_callB call_len_seq rfl T.n_len boot_len (pa_cons (pv 4) pa_nil)) (pe_callB call_len_seq rfl T.n_len boot_len (pa_cons (pv 5) pa_nil)) (nomark _)) (pw_or1 (pt_cmpR (op_neLD (d:=1) (hu2 hr)) (pe_comp0 rfl (by first | rfl | with_unfolding_all rfl) (by decide +kernel) rfl (by decide +kernel) rfl (pi_list (pv 4)) (fun C s2 H2 fp=>(pe_methQ0 (k:=2) (P:=P) (w:=w) (K:=K) (mg:=mg) (base:=base) rfl rfl rfl rfl rfl (pv 0) (hr.mono (by omega))))) (pv 1) (nomark _))))))
   (pss_one (ps_ret pe_bl))
   pss_nil)
  (pss_cons (ps_asg (pe_fn H__law_due (hr.mono (by omega)) rfl (pa_cons (pv 0) (pa_cons (pv 1) (pa_cons (pv 2) pa_nil)))) (pg_tupL rfl (pgs_cons (pg_name (i:=7) sc__law_run.nd rfl (Or.inl rfl)) (pgs_cons (pg_name (i:=8) sc__law_run.nd rfl (Or.inl rfl)) (pgs_cons (pg_name (i:=9) sc__law_run.nd rfl (Or.inl rfl)) pgs_nil)))))
  (pss_one (ps_ret (pe_and (pe_fn H__law_same (hr.mono (by omega)) rfl (pa_cons (pv 6) (pa_cons (pv 7) (pa_cons (pv 8) (pa_cons (pv 9) pa_nil))))) (pe_one (pe_cmpR op_eq (pe_fn H_check_steps (hr.mono (by omega)) rfl (pa_cons (pv 0) (pa_cons (pv 4) pa_nil))) (pe_callB call_len_seq rfl T.n_len boot_len (pa_cons (pv 1) pa_nil)) (nomark _)))))))))))),?_⟩
 have L1000:(1000:Nat)≤sizeLine:=by decide
 have tl:=tu.1
 refine ⟨_,rfl,d,kvs,rfl,hd,fun hn hhn=>?_⟩
 obtain ⟨G1,e1,s1,f1⟩:=newO hhn (.dK kvs)
 rw [e1]
 refine ⟨_,rfl,lr,rfl,⟨_,SqL.of (s1 _ _ hlr)⟩,fun ls hls=>?_⟩
 refine comp_list (xs:=ts) (fun j HJ=>∃ xs,HJ ls = some (.lst xs)∧RowsOf c HJ xs (rs.take j)∧Same G1 HJ) ⟨[],upd_same,⟨rfl,fun i x r e=>by simp at e⟩,same_new hls _⟩ ?_ ?_ ?_
 ·rintro j HJ hj ⟨xs,_,_,sJ⟩
  exact SqL.of (sJ _ _ (s1 _ _ hlr))
 ·rintro j v HJ hv ⟨xs,hx,ra,sJ⟩
  have jl:=(List.getElem?_eq_some_iff.mp hv).1
  have jr:j < rs.length:=by rw [← tl]; exact jl
  have er:rs[j]? = some (rs[j]'jr):=List.getElem?_eq_getElem _
  obtain ⟨t,rfl,ht⟩:=tu.2 j v _ hv er
  generalize rs[j]'jr = r at ht er
  have rok:=rk r (List.mem_of_getElem? er)
  have k15:=Rw.k15 rok.1
  have xl:xs.length = j:=by rw [ra.1,List.length_take]; omega
  refine ⟨_,rfl,t,r.k,r.fs,rfl,sJ _ _ (s1 _ _ ht),all15 k15,Rw.lenF rok.1,fun x H2 x0 sx s2=>?_⟩
  refine ⟨xs,s2 _ _ hx,by omega,_,(show ts.length - (j + 1) < _ by omega),rfl,(by omega),xs ++ [.ref x],upd_same,?_,Same.updL (sJ.trans s2) hls⟩
  rw [take_snoc er]
  have ra2:=(ra.same s2).snoc sx
  refine ⟨ra2.1,fun i y r' e1 e2=>?_⟩
  obtain ⟨a,ea,dx,ha,hl⟩:=ra2.2 i y r' e1 e2
  exact ⟨a,ea,dx,by rw [upd_ne (fun z=>by rw [z,s2 _ _ hx] at ha; cases ha)]; exact ha,hl⟩
 rintro H2 ⟨xs,hx,ra,s2⟩
 rw [tl,List.take_length] at ra
 have xl:=ra.1
 have S2:=s1.trans s2
 refine ⟨_,rfl,ls,_,rfl,.inl (SqL.of hx),fun lk hlk=>?_⟩
 obtain ⟨G3,e3,s3,f3⟩:=newO hlk (.lst xs)
 rw [e3]
 have S3:=S2.trans s3
 have hx3:=s3 _ _ hx
 refine ⟨_,rfl,_,rfl,_,rfl,ls,hn,w',xs,rs,zs,kvs,rfl,hx3,ra.same s3,rk,by omega,zo,w0,w1,s3 _ _ (s2 _ _ f1),wz,fun t dw m cn ms G4 gt gdw gm pm gcn _ _ _ s4=>?_⟩
 have S4:=S3.trans s4
 refine ⟨_,rfl,_,rfl,hn,d,kvs,rfl,rfl,s4 _ _ (s3 _ _ (s2 _ _ f1)),S4 _ _ hd,(wz.wd zo).ints,_,rfl,iteF ?_⟩
 have hx4:=s4 _ _ hx3
 refine ⟨_,rfl,ls,_,rfl,.inl (SqL.of hx4),_,rfl,lk,_,rfl,.inl (SqL.of (s4 _ _ f3)),rfl,_,rfl,iteNS rfl ?_⟩
 have ra4:=(ra.same s3).same s4
 refine ⟨_,rfl,ls,rfl,⟨_,SqL.of hx4⟩,fun D hD=>?_⟩
 refine comp_list (xs:=xs) (fun j HJ=>∃ ys,HJ D = some (.lst ys)∧TupsOf HJ ys (rs.take j)∧Same G4 HJ) ⟨[],upd_same,TupsOf.nil,same_new hD _⟩ ?_ ?_ ?_
 ·rintro j HJ hj ⟨ys,_,_,sJ⟩
  exact SqL.of (sJ _ _ hx4)
 ·rintro j v HJ hv ⟨ys,hy,ty,sJ⟩
  have jl:=(List.getElem?_eq_some_iff.mp hv).1
  have jr:j < rs.length:=by rw [← xl]; exact jl
  have er:rs[j]? = some (rs[j]'jr):=List.getElem?_eq_getElem _
  obtain ⟨a,rfl,sa⟩:=ra4.2 j v _ hv er
  generalize rs[j]'jr = r at sa er
  have rok:=rk r (List.mem_of_getElem? er)
  have k15:=Rw.k15 rok.1
  have yl:ys.length = j:=by rw [ty.1,List.length_take]; omega
  have sa':=sa.same sJ
  obtain ⟨da,ea,la⟩:=id sa'
  refine ⟨_,rfl,a,_,da,_,_,_,rfl,ea,nOf_told k15,MT _ k15,a,_,_,rfl,List.mem_singleton.mpr rfl,sa',fun u hu=>?_⟩
  have s5:=same_new hu (.tup (.str (wOf r.k) :: r.fs))
  refine ⟨ys,s5 _ _ hy,by omega,_,(show xs.length - (j + 1) < _ by omega),rfl,(by omega),ys ++ [.ref u],upd_same,?_,Same.updL (sJ.trans s5) hD⟩
  rw [take_snoc er]
  exact ((ty.same fun b zs e=>s5 _ _ e).snoc upd_same).same fun b zs e=>by
   rw [upd_ne (fun z=>by rw [z,s5 _ _ hy] at e; cases e)]
   exact e
 rintro H5 ⟨ys,hy,ty,s5⟩
 rw [xl,List.take_length] at ty
 have S5:=S4.trans s5
 refine ⟨_,rfl,?_⟩
 refine neTups (d:=0) hy (S5 _ _ hlr) ty (tu.same fun b zs e=>S5 _ _ e) ?_
 refine ⟨_,rfl,iteF ?_⟩
 refine ⟨_,rfl,_,rfl,_,rfl,lr,d,w',ts,rs,zs,kvs,rfl,S5 _ _ hlr,tu.same fun b zs e=>S5 _ _ e,rk,ln,zo,w0,w1,S5 _ _ hd,wz,fun o db m2 cd ms2 ck H6 ho hdb hm2 pm2 hcd ici hck s6=>?_⟩
 refine ⟨o,_,rfl,SqL.of ho,rfl,_,_,rfl,_,_,rfl,_,_,rfl,rfl,?_⟩
 have wa:Wz w' zs (actAll w' kvs rs):=Wz.all zo rk w0 w1 wz
 have s46:=s5.trans s6
 have ml:=mkAll_len w' rs kvs
 refine ⟨_,rfl,_,rfl,_,rfl,_,rfl,t,db,m2,cd,dw,m,cn,_,ck,ms,ms2,_,_,rfl,s46 _ _ gt,s46 _ _ gdw,hdb,(wa.wd zo).ints,Nat.le_trans (wa.wd zo).ln (by decide),s46 _ _ gm,pm.same fun b ys e=>s46 _ _ e,hm2,pm2,by omega,mkAll_int w' rs kvs,s46 _ _ gcn,hcd,ici,hck,fun H7 s7=>⟨_,rfl,iteT ?_⟩⟩
 have S7:=(S5.trans s6).trans s7
 have s47:=s46.trans s7
 refine ⟨_,rfl,_,rfl,ls,w',xs,rs,rfl,s47 _ _ hx4,ra4.same s47,(fun r hr'=>(rk r hr').1),by omega,w0,w1,fun H8 s8=>?_⟩
 refine ⟨_,rfl,lr,_,rfl,.inl (SqL.of ((S7.trans s8) _ _ hlr)),rfl,?_⟩
 rw [tl,decide_eq_true rfl]
 exact q H8 (S7.trans s8)
theorem ok_law {f:Addr} {fd:FuncData} (F:Fun K "law" "law" s_law f fd) (T:Txt K mg c) (H__law_begun:Has P w K mg base 1 "_law_begun" ["_law_cell_here"] spBox) (H__law_names:Has P w K mg base 2 "_law_names" ["_law_state"] spNames) (H__law_rows:Has P w K mg base 4 "_law_rows" ["_law_script", "_law_width", "_law_names_here"] (spRowsL K)) (H__law_draw:Has P w K mg base 1 "_law_draw" ["_law_state", "_law_many"] spTake3) (H__law_due:Has P w K mg base 3 "_law_due" ["_law_width", "_law_rows_here", "_law_held"] spDueL) (H_run_steps:Has P w K mg base 8 "run_steps" ["width", "steps", "registers"] (spRunL c)) (H__law_cell:Has P w K mg base 1 "_law_cell" ["_law_script", "_law_k"] (spCell K)) (H__law_word:Has P w K mg base 2 "_law_word" ["_law_state", "_law_width"] spWrd) (H__law_run:Has P w K mg base 9 "_law_run" ["_law_width", "_law_rows_here", "_law_held"] (spRunLaw c)) (H__law_made:Has P w K mg base 4 "_law_made" ["_law_row_here"] (spMade c [0,1,2,3,4,5,6,7,8,9,10,11,12,13,14])) (H__law_words:Has P w K mg base 2 "_law_words" [] spWordsL):FnOk P w K mg base CX0 10 f fd ["_law_script"] (spLaw K):=by
 refine F.ok sc_law (fun vs H Q E h=>?_) (fun cdv A outer s H vs Q E hr h=>?_)
 ·obtain ⟨a,ns,rfl,_⟩:=h
  rfl
 obtain ⟨a,ns,rfl,hS,hlen,q⟩:=h
 have L1000:(1000:Nat)≤sizeLine:=by decide
 refine ⟨_,(pss_cons (ps_set (i:=1) sc_law.nd rfl (Or.inl rfl) (pe_fn H__law_begun (hr.mono (by omega)) rfl (pa_cons (pe_fn H__law_cell (hr.mono (by omega)) rfl (pa_cons (pv 0) (pa_cons pe_int pa_nil))) pa_nil)))
  (pss_cons (ps_set (i:=2) sc_law.nd rfl (Or.inl rfl) (pe_op op_add pe_int (pe_fn H__law_draw (hr.mono (by omega)) rfl (pa_cons (pv 1) (pa_cons pe_int pa_nil)))))
  (pss_cons (ps_set (i:=3) sc_law.nd rfl (Or.inl rfl) (pe_fn H__law_names (hr.mono (by omega)) rfl (pa_cons (pv 1) pa_nil)))
  (pss_cons (ps_set (i:=4) sc_law.nd rfl (Or.inl rfl) pe_dnewK)
  (pss_cons (ps_for PassesOwn.never rfl (pi_list (pv 3)) (pg_name (i:=5) sc_law.nd rfl (Or.inl rfl))
   (pss_one (ps_if (pt_cmpR op_gt (pe_fn H__law_draw (hr.mono (by omega)) rfl (pa_cons (pv 1) (pa_cons pe_int pa_nil))) pe_int (nomark _))
    (pss_one (ps_dput (hu_of hr) (pv 4) (pv 5) (pe_fn H__law_word (hr.mono (by omega)) rfl (pa_cons (pv 1) (pa_cons (pv 2) pa_nil))) rfl))
    pss_nil)))
  (pss_cons (ps_set (i:=6) sc_law.nd rfl (Or.inl rfl) (pe_fn H__law_rows (hr.mono (by omega)) rfl (pa_cons (pv 0) (pa_cons (pv 2) (pa_cons (pv 3) pa_nil)))))
  (pss_cons (ps_set (i:=7) sc_law.nd rfl (Or.inl rfl) (pe_fn H__law_draw (hr.mono (by omega)) rfl (pa_cons (pv 1) (pa_cons (pe_op op_add (pe_callB call_len_seq rfl T.n_len boot_len (pa_cons (pv 6) pa_nil)) pe_int) pa_nil))))
  (pss_cons (ps_set (i:=8) sc_law.nd rfl (Or.inl rfl) (pe_fn H__law_due (hr.mono (by omega)) rfl (pa_cons (pv 2) (pa_cons (pe_slice sl_list (pv 6) po_none (po_some (pv 7))) (pa_cons (pv 4) pa_nil)))))
  (pss_cons (ps_if (PW.pt (pw_or (pt_not (pt_val (pe_fn H__law_run (hr.mono (by omega)) rfl (pa_cons (pv 2) (pa_cons (pe_slice sl_list (pv 6) po_none (po_some (pv 7))) (pa_cons (pv 4) pa_nil)))))) (pw_or1 (pt_not (pt_val (pe_fn H__law_run (hr.mono (by omega)) rfl (pa_cons (pv 2) (pa_cons (pv 6) (pa_cons (pv 4) pa_nil)))))))))
   (pss_one (ps_ret pe_bl))
   pss_nil)
  (pss_cons (ps_if (PW.pt (pw_or (pt_not (pt_val (pe_fn H__law_run (hr.mono (by omega)) rfl (pa_cons (pv 2) (pa_cons (pe_slice sl_list (pv 6) (po_some (pv 7)) po_none) (pa_cons (pe_ix ix_list (pv 8) pe_int (fun _ _=>rfl)) pa_nil)))))) (pw_or (pt_not (pt_val (pe_fn H__law_run (hr.mono (by omega)) rfl (pa_cons (pv 2) (pa_cons (pe_lst pa_nil) (pa_cons (pv 4) pa_nil)))))) (pw_or1 (pt_not (pt_val (pe_fn H__law_run (hr.mono (by omega)) rfl (pa_cons (pv 2) (pa_cons (pv 6) (pa_cons pe_dnewK pa_nil))))))))))
   (pss_one (ps_ret pe_bl))
   pss_nil)
  (pss_cons (ps_set (i:=9) sc_law.nd rfl (Or.inr rfl) (pe_fn H_run_steps (hr.mono (by omega)) rfl (pa_cons (pv 2) (pa_cons (pe_comp0 rfl (by first | rfl | with_unfolding_all rfl) (by decide +kernel) rfl (by decide +kernel) rfl (pi_list (pe_slice sl_list (pv 6) po_none (po_some (pv 7)))) (fun C s2 H2 fp=>(pe_fn H__law_made (hr.mono (by omega)) rfl (pa_cons (pv 0) pa_nil)))) (pa_cons (pv 4) pa_nil)))))
  (pss_cons (ps_set (i:=10) sc_law.nd rfl (Or.inr rfl) (pe_fn H_run_steps (hr.mono (by omega)) rfl (pa_cons (pv 2) (pa_cons (pe_comp0 rfl (by first | rfl | with_unfolding_all rfl) (by decide +kernel) rfl (by decide +kernel) rfl (pi_list (pe_slice sl_list (pv 6) (po_some (pv 7)) po_none)) (fun C s2 H2 fp=>(pe_fn H__law_made (hr.mono (by omega)) rfl (pa_cons (pv 0) pa_nil)))) (pa_cons (pe_ix ix_tup (pv 9) pe_int (fun _ _=>rfl)) pa_nil)))))
  (pss_cons (ps_asg (pe_fn H__law_due (hr.mono (by omega)) rfl (pa_cons (pv 2) (pa_cons (pv 6) (pa_cons (pv 4) pa_nil)))) (pg_tupL rfl (pgs_cons (pg_name (i:=11) sc_law.nd rfl (Or.inl rfl)) (pgs_cons (pg_name (i:=12) sc_law.nd rfl (Or.inl rfl)) (pgs_cons (pg_name (i:=13) sc_law.nd rfl (Or.inr rfl)) pgs_nil)))))
  (pss_cons (ps_if (PW.pt (pw_or (pt_cmpR (op_neSD (Nat.lt_of_succ_lt (hu_of hr))) (pe_ix ix_tup (pv 10) pe_int (fun _ _=>rfl)) (pv 11) (nomark _)) (pw_or1 (pt_cmpR (op_neLD (d:=1) (hu2 hr)) (pe_op op_addL (pe_ix ix_tup (pv 9) pe_int (fun _ _=>rfl)) (pe_ix ix_tup (pv 10) pe_int (fun _ _=>rfl))) (pv 12) (nomark _)))))
   (pss_one (ps_ret pe_bl))
   pss_nil)
  (pss_one (ps_ret (pe_callB (call_all_bl rfl) rfl T.n_all boot_all (pa_cons (pe_compC [10,9,13] ["_law_last", "_law_first", "_law_counts"] rfl (by first | rfl | with_unfolding_all rfl) (by rfl) (by exact (List.forall_mem_cons.mpr ⟨rfl,(List.forall_mem_cons.mpr ⟨rfl,(List.forall_mem_cons.mpr ⟨rfl,(fun _ h=>nomatch h)⟩)⟩)⟩)) (by decide +kernel) rfl (by decide +kernel) rfl (by decide +kernel) (by exact (List.forall_mem_cons.mpr ⟨⟨by first | exact Or.inl rfl | exact Or.inr rfl,rfl⟩,(List.forall_mem_cons.mpr ⟨⟨by first | exact Or.inl rfl | exact Or.inr rfl,rfl⟩,(List.forall_mem_cons.mpr ⟨⟨by first | exact Or.inl rfl | exact Or.inr rfl,rfl⟩,(fun _ h=>nomatch h)⟩)⟩)⟩)) rfl (by rfl) (pi_list (pe_fn0 H__law_words (hr.mono (by omega)) rfl)) (fun C s2 H2 fp=>(pe_cmpR op_eq (pe_op op_add (pe_dget (hu_of hr) (pe_ix (ix_tupK (K:=K) rfl) (pv 2) pe_int (fun _ _=>rfl)) (pv 0) (fun _ _=>rfl)) (pe_dget (hu_of hr) (pe_ix (ix_tupK (K:=K) rfl) (pv 1) pe_int (fun _ _=>rfl)) (pv 0) (fun _ _=>rfl))) (pe_dgetI (hu_of hr) (pv 3) (pv 0) pe_int ⟨rfl,rfl,rfl,rfl⟩) (nomark _)))) pa_nil)))))))))))))))))),?_⟩
 refine ⟨_,rfl,a,ns,0,rfl,hS,by decide,by decide,fun cc=>⟨cc,rfl,fun p H1 p0 b1 s1=>?_⟩⟩
 refine ⟨_,rfl,p,_,rfl,b1,by decide,by decide,fun dd H2 d0 d1 b2 x2=>⟨_,_,rfl,rfl,?_⟩⟩
 refine ⟨_,rfl,p,rfl,b2,fun l zs H3 l0 nm3 b3 x3=>?_⟩
 have nlp:l ≠ p:=b2.ne l0
 have X3:SameX p H H3:=(SameX.of s1).trans (x2.trans x3)
 dsimp only
 generalize ew:(4:Int) + dd = w'
 have w0:4≤w':=by omega
 have w1:w'≤32:=by omega
 have zo:ZOk zs:=⟨nm3.2.2.1,nm3.2.2.2⟩
 intro d hd
 have sd:=same_new hd (.dK [])
 have ndp:d ≠ p:=b3.ne hd
 have fh:∀ {b:Addr},H3 b = none→H b = none:=fun {b'} e=>by
  cases e':H b' with
  | none=>rfl
  | some o=>rw [X3 _ _ (ne_of_none e' p0) e'] at e; cases e
 refine ⟨_,rfl,l,rfl,⟨_,SqL.of (sd _ _ nm3.1)⟩,for_list (xs:=zs.map V.str) (fun j σ G=>∃ (y:Option V) (kvs:List (Key × V)),σ = [some (.ref a),some (.ref p),some (.int w'),some (.ref l),some (.ref d),y,none,none,none,none,none,none,none,none]∧G d = some (.dK kvs)∧Wz w' zs kvs∧Box G p∧SameX p H3 G) ⟨_,[],rfl,upd_same,Wz.nil,b3.same sd,SameX.of sd⟩ ?_ ?_ ?_⟩
 ·rintro j σ G hj ⟨y,kvs,rfl,hk,wz,bG,xG⟩
  exact SqL.of (xG _ _ nlp nm3.1)
 ·rintro j v σ G hv ⟨y,kvs,rfl,hk,wz,bG,xG⟩
  rw [List.getElem?_map] at hv
  cases ez:zs[j]? with
  | none=>rw [ez] at hv; cases hv
  | some z =>
   rw [ez] at hv
   cases hv
   refine ⟨_,rfl,p,_,rfl,bG,by decide,by decide,fun e G1 e0 e1 b1 x1=>⟨_,_,rfl,rfl,_,rfl,?_⟩⟩
   walk_at "c" <;> intro c1
   rotate_left
   ·exact ⟨_,kvs,rfl,x1 _ _ ndp hk,wz,b1,xG.trans x1⟩
   refine ⟨_,rfl,_,rfl,p,w',rfl,b1,w0,w1,fun i G2 i0 i1 b2 x2=>?_⟩
   have hk2:=x2 _ _ ndp (x1 _ _ ndp hk)
   have l5:=(wz.wd zo).ln
   refine ⟨_,rfl,_,rfl,d,_,rfl,DPut.k (k:=.inr z) hk2 (by omega),?_⟩
   refine ⟨_,stK kvs z i,rfl,upd_same,wz.put (List.mem_of_getElem? ez) i0 i1,?_,?_⟩
   ·obtain ⟨a1,a2,a3,e'⟩:=b2
    exact ⟨a1,a2,a3,by rw [upd_ne (Ne.symm ndp)]; exact e'⟩
   ·intro b' o n e'
    rw [upd_ne (ne_of_none e' hd)]
    exact x2 _ _ n (x1 _ _ n (xG _ _ n e'))
 rintro σ G4 ⟨y,kvs,rfl,hk,wz,b4,x4⟩
 have X4:=X3.trans x4
 have hS4:SqL K G4 a (ns.map V.int):=(SameX.fresh p0 X4).seq hS
 refine ⟨_,rfl,_,rfl,_,rfl,a,l,ns,w',zs,rfl,hS4,hlen,w0,w1,nm3.sx x4 nlp,fun lr ts rs H5 lr0 hlr tu ok ln s5=>?_⟩
 have b5:=b4.same s5
 have tl:=tu.1
 refine ⟨_,rfl,_,rfl,lr,_,rfl,.inl (SqL.of hlr),_,_,rfl,rfl,p,_,rfl,b5,by omega,by omega,fun nn H6 n0 n1 b6 x6=>?_⟩
 obtain ⟨n,rfl⟩:=Int.eq_ofNat_of_zero_le n0
 have nlr:lr ≠ p:=b4.ne lr0
 have hlr6:=x6 _ _ nlr hlr
 have tu6:TupsOf H6 ts rs:=tu.same fun b ys e=>x6 _ _ (fun z=>by obtain ⟨_,_,_,e'⟩:=b5; rw [z,e'] at e; cases e) e
 have hd6:H6 d = some (.dK kvs):=x6 _ _ ndp (s5 _ _ hk)
 clear hlr tu x6 b6 b5 lr0 s5 hS4 X4 x4 b4 hk sd hd ndp fh X3 x3 b3 nm3 x2 b2 s1 b1 nlr
 have nr:n≤rs.length:=by omega
 have tn:n≤ts.length:=by omega
 have okT:RsOk w' zs (rs.take n):=fun r hr'=>ok r (List.mem_of_mem_take hr')
 have okD:RsOk w' zs (rs.drop n):=fun r hr'=>ok r (List.mem_of_mem_drop hr')
 have lT:(rs.take n).length≤60:=by rw [List.length_take]; omega
 have lD:(rs.drop n).length≤60:=by rw [List.length_drop]; omega
 have wT:Wz w' zs (actAll w' kvs (rs.take n)):=Wz.all zo okT w0 w1 wz
 have S0:Same H6 H6:=Same.refl _
 refine ⟨_,rfl,_,rfl,_,rfl,_,rfl,lr,ts,rfl,SqL.of (S0 _ _ hlr6),fun p1 hp1=>?_⟩
 rw [cut_take ts n tn]
 obtain ⟨G1,eG1,s1,f1⟩:=newO hp1 (.lst (ts.take n))
 rw [eG1]
 have tT:∀ {G:Hp},Same H6 G→TupsOf G (ts.take n) (rs.take n):=fun s=>(tu6.take n).same fun b ys e=>s _ _ e
 have tD:∀ {G:Hp},Same H6 G→TupsOf G (ts.drop n) (rs.drop n):=fun s=>(tu6.drop n).same fun b ys e=>s _ _ e
 have tA:∀ {G:Hp},Same H6 G→TupsOf G ts rs:=fun s=>tu6.same fun b ys e=>s _ _ e
 refine ⟨_,rfl,p1,d,w',_,_,zs,kvs,rfl,f1,tT s1,okT,lT,zo,w0,w1,s1 _ _ hd6,wz,fun o db m cd ms ck H7 ho hdb _ _ _ _ _ s7=>?_⟩
 have S7:=s1.trans s7
 refine ⟨_,rfl,_,rfl,_,rfl,_,rfl,lr,ts,rfl,SqL.of (S7 _ _ hlr6),fun p2 hp2=>?_⟩
 rw [cut_take ts n tn]
 obtain ⟨G2,eG2,s2,f2⟩:=newO hp2 (.lst (ts.take n))
 rw [eG2]
 have S7b:=S7.trans s2
 refine ⟨_,rfl,p2,d,w',_,_,zs,kvs,rfl,f2,tT S7b,okT,lT,zo,w0,w1,S7b _ _ hd6,wz,fun H8 s8=>⟨_,rfl,iteF ?_⟩⟩
 have S8:=S7b.trans s8
 refine ⟨_,rfl,_,rfl,_,rfl,lr,d,w',_,_,zs,kvs,rfl,S8 _ _ hlr6,tA S8,ok,ln,zo,w0,w1,S8 _ _ hd6,wz,fun H9 s9=>⟨_,rfl,iteF ?_⟩⟩
 have S9:=S8.trans s9
 have s79:=(s2.trans s8).trans s9
 refine ⟨_,rfl,_,rfl,_,rfl,_,rfl,lr,ts,rfl,SqL.of (S9 _ _ hlr6),fun p3 hp3=>?_⟩
 rw [cut_drop ts n tn]
 obtain ⟨G3,eG3,s3,f3⟩:=newO hp3 (.lst (ts.drop n))
 rw [eG3]
 have S9b:=S9.trans s3
 have s7b:=s79.trans s3
 refine ⟨_,rfl,o,_,_,_,rfl,rfl,SqL.of (s7b _ _ ho),rfl,p3,db,w',_,_,zs,_,rfl,f3,tD S9b,okD,lD,zo,w0,w1,s7b _ _ hdb,wT,fun Ha sa=>⟨_,rfl,iteF ?_⟩⟩
 have Sa:=S9b.trans sa
 refine ⟨_,rfl,(by show 0≤sizeLine; decide),fun p4 hp4=>?_⟩
 obtain ⟨G4,e4,s4,f4⟩:=newO hp4 (.lst [])
 rw [e4]
 have Sab:=Sa.trans s4
 refine ⟨_,rfl,p4,d,w',[],[],zs,kvs,rfl,f4,TupsOf.nil,(fun _ h=>nomatch h),Nat.zero_le _,zo,w0,w1,Sab _ _ hd6,wz,fun Hb sb=>⟨_,rfl,iteF ?_⟩⟩
 have Sb:=Sab.trans sb
 refine ⟨_,rfl,_,rfl,fun p5 hp5=>?_⟩
 obtain ⟨G5,e5,s5,f5⟩:=newO hp5 (.dK [])
 rw [e5]
 have Sbb:=Sb.trans s5
 refine ⟨lr,p5,w',ts,rs,zs,[],rfl,Sbb _ _ hlr6,tA Sbb,ok,ln,zo,w0,w1,f5,Wz.nil,fun Hc sc=>⟨_,rfl,iteF ?_⟩⟩
 have Sc:=Sbb.trans sc
 clear f5 s5 e5 hp5 f4 s4 e4 hp4 Sbb Sab sb sa sc Sb Sa S9b S9 s9 S8 s8 s79 s7b ho hdb s7 f1 f2 f3 s1 s2 s3 S7 S7b hp1 hp2 hp3 S0
 refine ⟨_,rfl,_,rfl,_,rfl,_,rfl,lr,ts,rfl,SqL.of (Sc _ _ hlr6),fun p6 hp6=>?_⟩
 rw [cut_take ts n tn]
 obtain ⟨G6,eG6,s6,f6⟩:=newO hp6 (.lst (ts.take n))
 rw [eG6]
 have Sd:=Sc.trans s6
 refine ⟨p6,rfl,⟨_,SqL.of f6⟩,fun la hla=>?_⟩
 refine comp_list (xs:=ts.take n) (fun j HJ=>∃ xs,HJ la = some (.lst xs)∧RowsOf c HJ xs ((rs.take n).take j)∧Same G6 HJ) ⟨[],upd_same,⟨rfl,fun i x r e=>by simp at e⟩,same_new hla _⟩ ?_ ?_ ?_
 ·rintro j HJ hj ⟨xs,_,_,sJ⟩
  exact SqL.of (sJ _ _ f6)
 ·rintro j v HJ hv ⟨xs,hx,ra,sJ⟩
  have jl:=(List.getElem?_eq_some_iff.mp hv).1
  have jr:j < (rs.take n).length:=by rw [← (tT Sd).1]; exact jl
  have er:(rs.take n)[j]? = some ((rs.take n)[j]'jr):=List.getElem?_eq_getElem _
  obtain ⟨t,rfl,ht⟩:=(tT Sd).2 j v _ hv er
  generalize (rs.take n)[j]'jr = r at ht er
  have rok:=okT r (List.mem_of_getElem? er)
  have k15:=Rw.k15 rok.1
  have xl:xs.length = j:=by rw [ra.1,List.length_take]; omega
  have jb:j < 1000:=by have:=lT; omega
  refine ⟨_,rfl,t,r.k,r.fs,rfl,sJ _ _ ht,all15 k15,Rw.lenF rok.1,fun x H2 x0 sx s2=>?_⟩
  refine ⟨xs,s2 _ _ hx,by omega,_,(show (ts.take n).length - (j + 1) < _ by omega),rfl,(by omega),xs ++ [.ref x],upd_same,?_,Same.updL (sJ.trans s2) hla⟩
  rw [take_snoc er]
  have ra2:=(ra.same s2).snoc sx
  refine ⟨ra2.1,fun i y r' e1 e2=>?_⟩
  obtain ⟨a,ea,dx,ha,hl⟩:=ra2.2 i y r' e1 e2
  exact ⟨a,ea,dx,by rw [upd_ne (fun z=>by rw [z,s2 _ _ hx] at ha; cases ha)]; exact ha,hl⟩
 rintro He ⟨xa,hxa,ra,se⟩
 rw [(tT Sd).1,List.take_length] at ra
 have Se:=Sd.trans se
 refine ⟨_,rfl,la,d,w',xa,_,zs,kvs,rfl,hxa,ra,okT,by omega,zo,w0,w1,Se _ _ hd6,wz,fun t1 dw1 m1 cn1 ms1 Hf gt1 gdw1 gm1 pm1 gcn1 _ _ _ sf=>?_⟩
 have Sf:=Se.trans sf
 clear hxa ra Se se Sd s6 f6 hp6
 refine ⟨_,rfl,_,rfl,_,rfl,_,rfl,lr,ts,rfl,SqL.of (Sf _ _ hlr6),fun p7 hp7=>?_⟩
 rw [cut_drop ts n tn]
 obtain ⟨G7,eG7,s7,f7⟩:=newO hp7 (.lst (ts.drop n))
 rw [eG7]
 have Sg:=Sf.trans s7
 refine ⟨p7,rfl,⟨_,SqL.of f7⟩,fun lb hlb=>?_⟩
 refine comp_list (xs:=ts.drop n) (fun j HJ=>∃ xs,HJ lb = some (.lst xs)∧RowsOf c HJ xs ((rs.drop n).take j)∧Same G7 HJ) ⟨[],upd_same,⟨rfl,fun i x r e=>by simp at e⟩,same_new hlb _⟩ ?_ ?_ ?_
 ·rintro j HJ hj ⟨xs,_,_,sJ⟩
  exact SqL.of (sJ _ _ f7)
 ·rintro j v HJ hv ⟨xs,hx,ra,sJ⟩
  have jl:=(List.getElem?_eq_some_iff.mp hv).1
  have jr:j < (rs.drop n).length:=by rw [← (tD Sg).1]; exact jl
  have er:(rs.drop n)[j]? = some ((rs.drop n)[j]'jr):=List.getElem?_eq_getElem _
  obtain ⟨t,rfl,ht⟩:=(tD Sg).2 j v _ hv er
  generalize (rs.drop n)[j]'jr = r at ht er
  have rok:=okD r (List.mem_of_getElem? er)
  have k15:=Rw.k15 rok.1
  have xl:xs.length = j:=by rw [ra.1,List.length_take]; omega
  have jb:j < 1000:=by have:=lD; omega
  refine ⟨_,rfl,t,r.k,r.fs,rfl,sJ _ _ ht,all15 k15,Rw.lenF rok.1,fun x H2 x0 sx s2=>?_⟩
  refine ⟨xs,s2 _ _ hx,by omega,_,(show (ts.drop n).length - (j + 1) < _ by omega),rfl,(by omega),xs ++ [.ref x],upd_same,?_,Same.updL (sJ.trans s2) hlb⟩
  rw [take_snoc er]
  have ra2:=(ra.same s2).snoc sx
  refine ⟨ra2.1,fun i y r' e1 e2=>?_⟩
  obtain ⟨a,ea,dx,ha,hl⟩:=ra2.2 i y r' e1 e2
  exact ⟨a,ea,dx,by rw [upd_ne (fun z=>by rw [z,s2 _ _ hx] at ha; cases ha)]; exact ha,hl⟩
 rintro Hh ⟨xb,hxb,rb,sh⟩
 rw [(tD Sg).1,List.take_length] at rb
 have sfh:=s7.trans sh
 refine ⟨_,rfl,t1,_,_,_,rfl,rfl,SqT.of (sfh _ _ gt1),rfl,lb,dw1,w',xb,_,zs,_,rfl,hxb,rb,okD,by omega,zo,w0,w1,sfh _ _ gdw1,wT,fun t2 dw2 m2 cn2 ms2 Hi gt2 gdw2 gm2 pm2 gcn2 _ _ _ si=>?_⟩
 have sfi:=sfh.trans si
 have Si:=Sf.trans sfi
 clear hxb rb sh Sg s7 f7 hp7 sfh
 refine ⟨_,rfl,_,rfl,_,rfl,lr,d,w',_,_,zs,kvs,rfl,Si _ _ hlr6,tA Si,ok,ln,zo,w0,w1,Si _ _ hd6,wz,fun o2 db2 m3 cd2 ms3 ck Hj ho hdb hm3 pm3 hcd ici hck sj=>?_⟩
 refine ⟨o2,_,rfl,SqL.of ho,rfl,_,_,rfl,_,_,rfl,_,_,rfl,rfl,?_⟩
 have eA:actAll w' (actAll w' kvs (rs.take n)) (rs.drop n) = actAll w' kvs rs:=by rw [← actAll_app,List.take_append_drop]
 have eM:mkAll w' kvs (rs.take n) ++ mkAll w' (actAll w' kvs (rs.take n)) (rs.drop n) = mkAll w' kvs rs:=by rw [← mkAll_app,List.take_append_drop]
 rw [eA] at gdw2
 have wA:Wz w' zs (actAll w' kvs rs):=Wz.all zo ok w0 w1 wz
 have sfj:=sfi.trans sj
 refine ⟨_,rfl,t2,_,_,_,rfl,rfl,SqT.of (sj _ _ gt2),rfl,_,rfl,dw2,db2,_,rfl,rfl,sj _ _ gdw2,hdb,(wA.wd zo).ints,_,rfl,iteF ?_⟩
 have l1:=mkAll_len w' (rs.take n) kvs
 have l2:=mkAll_len w' (rs.drop n) (actAll w' kvs (rs.take n))
 have k1:=pm1.1
 have k2:=pm2.1
 refine ⟨_,rfl,t1,_,_,_,rfl,rfl,SqT.of (sfj _ _ gt1),rfl,_,rfl,t2,_,_,_,rfl,rfl,SqT.of (sj _ _ gt2),rfl,m1,m2,_,_,rfl,rfl,SqL.of (sfj _ _ gm1),SqL.of (sj _ _ gm2),by omega,fun p8 hp8=>?_⟩
 obtain ⟨G8,e8,s8,f8⟩:=newO hp8 (.lst (ms1 ++ ms2))
 rw [e8]
 have P12:PrsAt G8 (ms1 ++ ms2) (mkAll w' kvs rs):=by
  rw [← eM]
  exact (pm1.same fun b ys e=>s8 _ _ (sfj _ _ e)).app (pm2.same fun b ys e=>s8 _ _ (sj _ _ e))
 refine ⟨_,rfl,?_⟩
 refine nePrs (d:=0) f8 (s8 _ _ hm3) P12 (pm3.same fun b ys e=>s8 _ _ e) (fun x hx=>(mkAll_int w' rs kvs x hx).2) ?_
 refine ⟨_,rfl,iteF ?_⟩
 have gt1':=s8 _ _ (sfj _ _ gt1)
 have gt2':=s8 _ _ (sj _ _ gt2)
 have gc1:=s8 _ _ (sfj _ _ gcn1)
 have gc2:=s8 _ _ (sj _ _ gcn2)
 have gcd:=s8 _ _ hcd
 have eC:∀ i,i < 16→cRows (fun _=>0) 1 (rs.take n) i + cRows (fun _=>0) 1 (rs.drop n) i = gI ck (wOf i):=fun i hi=>by
  rw [hck i hi,← cRows_add,← cRows_app,List.take_append_drop]
 clear P12 pm1 pm2 pm3 gm1 gm2 hm3 hdb gdw2 gdw1 hck
 refine ⟨rfl,fun lw Hk hlw h4 sk=>⟨lw,rfl,⟨_,SqL.of h4⟩,fun D hD=>?_⟩⟩
 refine comp_list (xs:=rw16.map V.str) (fun j HJ=>HJ D = some (.lst ((List.replicate j true).map V.bl))∧Same Hk HJ) ⟨upd_same,same_new hD _⟩ ?_ ?_ ?_
 ·rintro j HJ hj ⟨_,sJ⟩
  exact SqL.of (sJ _ _ h4)
 ·rintro j v HJ hv ⟨hz,sJ⟩
  obtain ⟨rfl,j16⟩:=rw_at hv
  have s8J:=sk.trans sJ
  have hcJ:=s8J _ _ gcd
  refine ⟨_,rfl,t1,_,_,_,rfl,rfl,SqT.of (s8J _ _ gt1'),rfl,_,rfl,cn1,_,rfl,.inl ⟨_,.inr (wOf j),.inl (s8J _ _ gc1),rfl,(cnt_val j16).symm⟩,?_⟩
  refine ⟨_,rfl,t2,_,_,_,rfl,rfl,SqT.of (s8J _ _ gt2'),rfl,_,rfl,cn2,_,rfl,.inl ⟨_,.inr (wOf j),.inl (s8J _ _ gc2),rfl,(cnt_val j16).symm⟩,?_⟩
  refine ⟨_,_,rfl,rfl,_,rfl,cd2,rfl,⟨_,hcJ⟩,_,rfl,_,_,rfl,hcJ,ici,rfl,?_⟩
  rw [decide_eq_true (congrArg V.int (eC j j16))]
  refine ⟨_,hz,(by rw [List.length_map,List.length_replicate]; omega),_,(show 16 - (j + 1) < 16 - j by omega),rfl,(by show j + 1≤16; omega),?_,Same.updL sJ hD⟩
  rw [upd_same,List.replicate_succ',List.map_append]
  rfl
 rintro Hl ⟨hz,sl⟩
 refine ⟨D,_,rfl,SqL.of hz,?_⟩
 rw [show (List.replicate (rw16.map V.str).length true).all id = true by rw [List.all_eq_true]; exact fun b hb=>(List.mem_replicate.mp hb).2]
 exact q Hl
end
theorem all_mk {l:PySem.W.OpenLaw} {w:World} {K:PySem.W.Frag} {h:Heap} {mg:Str→Option Value} {fa f1 f2 f3 f4 f5 f6 f7 f8 f9 f10 f11 f12 f13 f14 f15 f16 f17 f18 f19 f20 f21 f22 f23 f24 f25 f26 f27 f28 f29 f30 f31 f32 f33 f34 f35 f36 f37 f38 f39 f40 f41 f42 f43 f44 f45 f46 f47 f48 f49 f50 f51 f52 f53 f54 f55 f56 f57 f58 f59 f60 f61 f62 f63 f64 f65 f66 f67 f68 f69 f70 f71 f72 f73 f74 f75 f76 f77 f78 f79 f80 f81 f82 f83 f84 f85 f86 f87 f88 f89 f90 f91 f92 f93 f94 f95 c_Set c_Copy c_Sum c_Gap c_Low c_High c_Left c_Right c_Slide c_And c_Or c_Unlike c_Under c_Pick c_Mark c_Turns c_Step c_ROW_WORDS c_MARKS:Addr} (X:K.In h) (G:h.Ns mainGlobals mg) (hfa:mg "law" = some (.ref fa))
  {od1 an1 od2 an2 od3 an3 od4 an4 od5 an5 od6 an6 od7 an7 od8 an8 od9 an9 od10 an10 od11 an11 od12 an12 od13 an13 od14 an14 od15 an15 od16 an16 od17 an17 od18 an18 od19 an19 od20 an20 od21 an21 od22 an22 od23 an23 od24 an24 od25 an25 od26 an26 od27 an27 od28 an28 od29 an29 od30 an30 od31 an31 od32 an32 od33 an33 od34 an34 od35 an35 od36 an36 od37 an37 od38 an38 od39 an39 od40 an40 od41 an41 od42 an42 od43 an43 od44 an44 od45 an45 od46 an46 od47 an47 od48 an48 od49 an49 od50 an50 od51 an51 od52 an52 od53 an53 od54 an54 od55 an55 od56 an56 od57 an57 od58 an58 od59 an59 od60 an60 od61 an61 od62 an62 od63 an63 od64 an64 od65 an65 od66 an66 od67 an67 od68 an68 od69 an69 od70 an70 od71 an71 od72 an72 od73 an73 od74 an74 od75 an75 od76 an76 od77 an77 od78 an78 od79 an79 od80 an80 od81 an81 od82 an82 od83 an83 od84 an84 od85 an85 od86 an86 od87 an87 od88 an88 od89 an89 od90 an90 od91 an91 od92 an92 od93 an93 od94 an94 od95 an95:Option Addr} {sl1 sl2 sl3 sl4 sl5 sl6 sl7 sl8 sl9 sl10 sl11 sl12 sl13 sl14 sl15 sl16 sl17 sl18 sl19 sl20 sl21 sl22 sl23 sl24 sl25 sl26 sl27 sl28 sl29 sl30 sl31 sl32 sl33 sl34 sl35 sl36 sl37 sl38 sl39 sl40 sl41 sl42 sl43 sl44 sl45 sl46 sl47 sl48 sl49 sl50 sl51 sl52 sl53 sl54 sl55 sl56 sl57 sl58 sl59 sl60 sl61 sl62 sl63 sl64 sl65 sl66 sl67 sl68 sl69 sl70 sl71 sl72 sl73 sl74 sl75 sl76 sl77 sl78 sl79 sl80 sl81 sl82 sl83 sl84 sl85 sl86 sl87 sl88 sl89 sl90 sl91 sl92 sl93 sl94 sl95:Array (Option Value)} {oc1 kV1 dc1 pm1 cd1 ct1 oc2 kV2 dc2 pm2 cd2 ct2 oc3 kV3 dc3 pm3 cd3 ct3 oc4 kV4 dc4 pm4 cd4 ct4 oc5 kV5 dc5 pm5 cd5 ct5 oc6 kV6 dc6 pm6 cd6 ct6 oc7 kV7 dc7 pm7 cd7 ct7 oc8 kV8 dc8 pm8 cd8 ct8 oc9 kV9 dc9 pm9 cd9 ct9 oc10 kV10 dc10 pm10 cd10 ct10 oc11 kV11 dc11 pm11 cd11 ct11 oc12 kV12 dc12 pm12 cd12 ct12 oc13 kV13 dc13 pm13 cd13 ct13 oc14 kV14 dc14 pm14 cd14 ct14 oc15 kV15 dc15 pm15 cd15 ct15 oc16 kV16 dc16 pm16 cd16 ct16 oc17 kV17 dc17 pm17 cd17 ct17 oc18 kV18 dc18 pm18 cd18 ct18 oc19 kV19 dc19 pm19 cd19 ct19 oc20 kV20 dc20 pm20 cd20 ct20 oc21 kV21 dc21 pm21 cd21 ct21 oc22 kV22 dc22 pm22 cd22 ct22 oc23 kV23 dc23 pm23 cd23 ct23 oc24 kV24 dc24 pm24 cd24 ct24 oc25 kV25 dc25 pm25 cd25 ct25 oc26 kV26 dc26 pm26 cd26 ct26 oc27 kV27 dc27 pm27 cd27 ct27 oc28 kV28 dc28 pm28 cd28 ct28 oc29 kV29 dc29 pm29 cd29 ct29 oc30 kV30 dc30 pm30 cd30 ct30 oc31 kV31 dc31 pm31 cd31 ct31 oc32 kV32 dc32 pm32 cd32 ct32 oc33 kV33 dc33 pm33 cd33 ct33 oc34 kV34 dc34 pm34 cd34 ct34 oc35 kV35 dc35 pm35 cd35 ct35 oc36 kV36 dc36 pm36 cd36 ct36 oc37 kV37 dc37 pm37 cd37 ct37 oc38 kV38 dc38 pm38 cd38 ct38 oc39 kV39 dc39 pm39 cd39 ct39 oc40 kV40 dc40 pm40 cd40 ct40 oc41 kV41 dc41 pm41 cd41 ct41 oc42 kV42 dc42 pm42 cd42 ct42 oc43 kV43 dc43 pm43 cd43 ct43 oc44 kV44 dc44 pm44 cd44 ct44 oc45 kV45 dc45 pm45 cd45 ct45 oc46 kV46 dc46 pm46 cd46 ct46 oc47 kV47 dc47 pm47 cd47 ct47 oc48 kV48 dc48 pm48 cd48 ct48 oc49 kV49 dc49 pm49 cd49 ct49 oc50 kV50 dc50 pm50 cd50 ct50 oc51 kV51 dc51 pm51 cd51 ct51 oc52 kV52 dc52 pm52 cd52 ct52 oc53 kV53 dc53 pm53 cd53 ct53 oc54 kV54 dc54 pm54 cd54 ct54 oc55 kV55 dc55 pm55 cd55 ct55 oc56 kV56 dc56 pm56 cd56 ct56 oc57 kV57 dc57 pm57 cd57 ct57 oc58 kV58 dc58 pm58 cd58 ct58 oc59 kV59 dc59 pm59 cd59 ct59 oc60 kV60 dc60 pm60 cd60 ct60 oc61 kV61 dc61 pm61 cd61 ct61 oc62 kV62 dc62 pm62 cd62 ct62 oc63 kV63 dc63 pm63 cd63 ct63 oc64 kV64 dc64 pm64 cd64 ct64 oc65 kV65 dc65 pm65 cd65 ct65 oc66 kV66 dc66 pm66 cd66 ct66 oc67 kV67 dc67 pm67 cd67 ct67 oc68 kV68 dc68 pm68 cd68 ct68 oc69 kV69 dc69 pm69 cd69 ct69 oc70 kV70 dc70 pm70 cd70 ct70 oc71 kV71 dc71 pm71 cd71 ct71 oc72 kV72 dc72 pm72 cd72 ct72 oc73 kV73 dc73 pm73 cd73 ct73 oc74 kV74 dc74 pm74 cd74 ct74 oc75 kV75 dc75 pm75 cd75 ct75 oc76 kV76 dc76 pm76 cd76 ct76 oc77 kV77 dc77 pm77 cd77 ct77 oc78 kV78 dc78 pm78 cd78 ct78 oc79 kV79 dc79 pm79 cd79 ct79 oc80 kV80 dc80 pm80 cd80 ct80 oc81 kV81 dc81 pm81 cd81 ct81 oc82 kV82 dc82 pm82 cd82 ct82 oc83 kV83 dc83 pm83 cd83 ct83 oc84 kV84 dc84 pm84 cd84 ct84 oc85 kV85 dc85 pm85 cd85 ct85 oc86 kV86 dc86 pm86 cd86 ct86 oc87 kV87 dc87 pm87 cd87 ct87 oc88 kV88 dc88 pm88 cd88 ct88 oc89 kV89 dc89 pm89 cd89 ct89 oc90 kV90 dc90 pm90 cd90 ct90 oc91 kV91 dc91 pm91 cd91 ct91 oc92 kV92 dc92 pm92 cd92 ct92 oc93 kV93 dc93 pm93 cd93 ct93 oc94 kV94 dc94 pm94 cd94 ct94 oc95 kV95 dc95 pm95 cd95 ct95:Value}
  (a1:PySem.W.nsIn K mainGlobals "is_whole" = some (some (.ref f1)))
  (l1:K.lookup f1 = some ⟨oc1,od1,.func (PySem.W.fnOf "is_whole" "is_whole" (defArgs s_is_whole) (defBody s_is_whole) (defScope s_is_whole) .none kV1 dc1 pm1 an1 cd1 ct1),sl1⟩) (c1:PySem.W.codeIn K cd1 "is_whole" = true) (k1:PySem.W.keepIn K (.ref f1) = true)
  (a2:PySem.W.nsIn K mainGlobals "is_between" = some (some (.ref f2)))
  (l2:K.lookup f2 = some ⟨oc2,od2,.func (PySem.W.fnOf "is_between" "is_between" (defArgs s_is_between) (defBody s_is_between) (defScope s_is_between) .none kV2 dc2 pm2 an2 cd2 ct2),sl2⟩) (c2:PySem.W.codeIn K cd2 "is_between" = true) (k2:PySem.W.keepIn K (.ref f2) = true)
  (a3:PySem.W.nsIn K mainGlobals "need_width" = some (some (.ref f3)))
  (l3:K.lookup f3 = some ⟨oc3,od3,.func (PySem.W.fnOf "need_width" "need_width" (defArgs s_need_width) (defBody s_need_width) (defScope s_need_width) .none kV3 dc3 pm3 an3 cd3 ct3),sl3⟩) (c3:PySem.W.codeIn K cd3 "need_width" = true) (k3:PySem.W.keepIn K (.ref f3) = true)
  (a4:PySem.W.nsIn K mainGlobals "is_word" = some (some (.ref f4)))
  (l4:K.lookup f4 = some ⟨oc4,od4,.func (PySem.W.fnOf "is_word" "is_word" (defArgs s_is_word) (defBody s_is_word) (defScope s_is_word) .none kV4 dc4 pm4 an4 cd4 ct4),sl4⟩) (c4:PySem.W.codeIn K cd4 "is_word" = true) (k4:PySem.W.keepIn K (.ref f4) = true)
  (a5:PySem.W.nsIn K mainGlobals "sum_of" = some (some (.ref f5)))
  (l5:K.lookup f5 = some ⟨oc5,od5,.func (PySem.W.fnOf "sum_of" "sum_of" (defArgs s_sum_of) (defBody s_sum_of) (defScope s_sum_of) .none kV5 dc5 pm5 an5 cd5 ct5),sl5⟩) (c5:PySem.W.codeIn K cd5 "sum_of" = true) (k5:PySem.W.keepIn K (.ref f5) = true)
  (a6:PySem.W.nsIn K mainGlobals "gap_of" = some (some (.ref f6)))
  (l6:K.lookup f6 = some ⟨oc6,od6,.func (PySem.W.fnOf "gap_of" "gap_of" (defArgs s_gap_of) (defBody s_gap_of) (defScope s_gap_of) .none kV6 dc6 pm6 an6 cd6 ct6),sl6⟩) (c6:PySem.W.codeIn K cd6 "gap_of" = true) (k6:PySem.W.keepIn K (.ref f6) = true)
  (a7:PySem.W.nsIn K mainGlobals "low_product" = some (some (.ref f7)))
  (l7:K.lookup f7 = some ⟨oc7,od7,.func (PySem.W.fnOf "low_product" "low_product" (defArgs s_low_product) (defBody s_low_product) (defScope s_low_product) .none kV7 dc7 pm7 an7 cd7 ct7),sl7⟩) (c7:PySem.W.codeIn K cd7 "low_product" = true) (k7:PySem.W.keepIn K (.ref f7) = true)
  (a8:PySem.W.nsIn K mainGlobals "high_product" = some (some (.ref f8)))
  (l8:K.lookup f8 = some ⟨oc8,od8,.func (PySem.W.fnOf "high_product" "high_product" (defArgs s_high_product) (defBody s_high_product) (defScope s_high_product) .none kV8 dc8 pm8 an8 cd8 ct8),sl8⟩) (c8:PySem.W.codeIn K cd8 "high_product" = true) (k8:PySem.W.keepIn K (.ref f8) = true)
  (a9:PySem.W.nsIn K mainGlobals "left" = some (some (.ref f9)))
  (l9:K.lookup f9 = some ⟨oc9,od9,.func (PySem.W.fnOf "left" "left" (defArgs s_left) (defBody s_left) (defScope s_left) .none kV9 dc9 pm9 an9 cd9 ct9),sl9⟩) (c9:PySem.W.codeIn K cd9 "left" = true) (k9:PySem.W.keepIn K (.ref f9) = true)
  (a10:PySem.W.nsIn K mainGlobals "right" = some (some (.ref f10)))
  (l10:K.lookup f10 = some ⟨oc10,od10,.func (PySem.W.fnOf "right" "right" (defArgs s_right) (defBody s_right) (defScope s_right) .none kV10 dc10 pm10 an10 cd10 ct10),sl10⟩) (c10:PySem.W.codeIn K cd10 "right" = true) (k10:PySem.W.keepIn K (.ref f10) = true)
  (a11:PySem.W.nsIn K mainGlobals "slide" = some (some (.ref f11)))
  (l11:K.lookup f11 = some ⟨oc11,od11,.func (PySem.W.fnOf "slide" "slide" (defArgs s_slide) (defBody s_slide) (defScope s_slide) .none kV11 dc11 pm11 an11 cd11 ct11),sl11⟩) (c11:PySem.W.codeIn K cd11 "slide" = true) (k11:PySem.W.keepIn K (.ref f11) = true)
  (a12:PySem.W.nsIn K mainGlobals "row_words" = some (some (.ref f12)))
  (l12:K.lookup f12 = some ⟨oc12,od12,.func (PySem.W.fnOf "row_words" "row_words" (defArgs s_row_words) (defBody s_row_words) (defScope s_row_words) .none kV12 dc12 pm12 an12 cd12 ct12),sl12⟩) (c12:PySem.W.codeIn K cd12 "row_words" = true) (k12:PySem.W.keepIn K (.ref f12) = true)
  (a13:PySem.W.nsIn K mainGlobals "is_register" = some (some (.ref f13)))
  (l13:K.lookup f13 = some ⟨oc13,od13,.func (PySem.W.fnOf "is_register" "is_register" (defArgs s_is_register) (defBody s_is_register) (defScope s_is_register) .none kV13 dc13 pm13 an13 cd13 ct13),sl13⟩) (c13:PySem.W.codeIn K cd13 "is_register" = true) (k13:PySem.W.keepIn K (.ref f13) = true)
  (a14:PySem.W.nsIn K mainGlobals "are_registers" = some (some (.ref f14)))
  (l14:K.lookup f14 = some ⟨oc14,od14,.func (PySem.W.fnOf "are_registers" "are_registers" (defArgs s_are_registers) (defBody s_are_registers) (defScope s_are_registers) .none kV14 dc14 pm14 an14 cd14 ct14),sl14⟩) (c14:PySem.W.codeIn K cd14 "are_registers" = true) (k14:PySem.W.keepIn K (.ref f14) = true)
  (a15:PySem.W.findIn K (.ref c_Set) "word" = some (some (.ref f15))) (i15:PySem.W.isFn K (.ref f15) = true)
  (l15:K.lookup f15 = some ⟨oc15,od15,.func (PySem.W.fnOf "word" "Set.word" (defArgs s_Set_word) (defBody s_Set_word) (defScope s_Set_word) .none kV15 dc15 pm15 an15 cd15 ct15),sl15⟩) (c15:PySem.W.codeIn K cd15 "Set.word" = true) (k15:PySem.W.keepIn K (.ref f15) = true)
  (a16:PySem.W.findIn K (.ref c_Copy) "word" = some (some (.ref f16))) (i16:PySem.W.isFn K (.ref f16) = true)
  (l16:K.lookup f16 = some ⟨oc16,od16,.func (PySem.W.fnOf "word" "Copy.word" (defArgs s_Copy_word) (defBody s_Copy_word) (defScope s_Copy_word) .none kV16 dc16 pm16 an16 cd16 ct16),sl16⟩) (c16:PySem.W.codeIn K cd16 "Copy.word" = true) (k16:PySem.W.keepIn K (.ref f16) = true)
  (a17:PySem.W.findIn K (.ref c_Sum) "word" = some (some (.ref f17))) (i17:PySem.W.isFn K (.ref f17) = true)
  (l17:K.lookup f17 = some ⟨oc17,od17,.func (PySem.W.fnOf "word" "Sum.word" (defArgs s_Sum_word) (defBody s_Sum_word) (defScope s_Sum_word) .none kV17 dc17 pm17 an17 cd17 ct17),sl17⟩) (c17:PySem.W.codeIn K cd17 "Sum.word" = true) (k17:PySem.W.keepIn K (.ref f17) = true)
  (a18:PySem.W.findIn K (.ref c_Gap) "word" = some (some (.ref f18))) (i18:PySem.W.isFn K (.ref f18) = true)
  (l18:K.lookup f18 = some ⟨oc18,od18,.func (PySem.W.fnOf "word" "Gap.word" (defArgs s_Gap_word) (defBody s_Gap_word) (defScope s_Gap_word) .none kV18 dc18 pm18 an18 cd18 ct18),sl18⟩) (c18:PySem.W.codeIn K cd18 "Gap.word" = true) (k18:PySem.W.keepIn K (.ref f18) = true)
  (a19:PySem.W.findIn K (.ref c_Low) "word" = some (some (.ref f19))) (i19:PySem.W.isFn K (.ref f19) = true)
  (l19:K.lookup f19 = some ⟨oc19,od19,.func (PySem.W.fnOf "word" "Low.word" (defArgs s_Low_word) (defBody s_Low_word) (defScope s_Low_word) .none kV19 dc19 pm19 an19 cd19 ct19),sl19⟩) (c19:PySem.W.codeIn K cd19 "Low.word" = true) (k19:PySem.W.keepIn K (.ref f19) = true)
  (a20:PySem.W.findIn K (.ref c_High) "word" = some (some (.ref f20))) (i20:PySem.W.isFn K (.ref f20) = true)
  (l20:K.lookup f20 = some ⟨oc20,od20,.func (PySem.W.fnOf "word" "High.word" (defArgs s_High_word) (defBody s_High_word) (defScope s_High_word) .none kV20 dc20 pm20 an20 cd20 ct20),sl20⟩) (c20:PySem.W.codeIn K cd20 "High.word" = true) (k20:PySem.W.keepIn K (.ref f20) = true)
  (a21:PySem.W.findIn K (.ref c_Left) "word" = some (some (.ref f21))) (i21:PySem.W.isFn K (.ref f21) = true)
  (l21:K.lookup f21 = some ⟨oc21,od21,.func (PySem.W.fnOf "word" "Left.word" (defArgs s_Left_word) (defBody s_Left_word) (defScope s_Left_word) .none kV21 dc21 pm21 an21 cd21 ct21),sl21⟩) (c21:PySem.W.codeIn K cd21 "Left.word" = true) (k21:PySem.W.keepIn K (.ref f21) = true)
  (a22:PySem.W.findIn K (.ref c_Right) "word" = some (some (.ref f22))) (i22:PySem.W.isFn K (.ref f22) = true)
  (l22:K.lookup f22 = some ⟨oc22,od22,.func (PySem.W.fnOf "word" "Right.word" (defArgs s_Right_word) (defBody s_Right_word) (defScope s_Right_word) .none kV22 dc22 pm22 an22 cd22 ct22),sl22⟩) (c22:PySem.W.codeIn K cd22 "Right.word" = true) (k22:PySem.W.keepIn K (.ref f22) = true)
  (a23:PySem.W.findIn K (.ref c_Slide) "word" = some (some (.ref f23))) (i23:PySem.W.isFn K (.ref f23) = true)
  (l23:K.lookup f23 = some ⟨oc23,od23,.func (PySem.W.fnOf "word" "Slide.word" (defArgs s_Slide_word) (defBody s_Slide_word) (defScope s_Slide_word) .none kV23 dc23 pm23 an23 cd23 ct23),sl23⟩) (c23:PySem.W.codeIn K cd23 "Slide.word" = true) (k23:PySem.W.keepIn K (.ref f23) = true)
  (a24:PySem.W.findIn K (.ref c_And) "word" = some (some (.ref f24))) (i24:PySem.W.isFn K (.ref f24) = true)
  (l24:K.lookup f24 = some ⟨oc24,od24,.func (PySem.W.fnOf "word" "And.word" (defArgs s_And_word) (defBody s_And_word) (defScope s_And_word) .none kV24 dc24 pm24 an24 cd24 ct24),sl24⟩) (c24:PySem.W.codeIn K cd24 "And.word" = true) (k24:PySem.W.keepIn K (.ref f24) = true)
  (a25:PySem.W.findIn K (.ref c_Or) "word" = some (some (.ref f25))) (i25:PySem.W.isFn K (.ref f25) = true)
  (l25:K.lookup f25 = some ⟨oc25,od25,.func (PySem.W.fnOf "word" "Or.word" (defArgs s_Or_word) (defBody s_Or_word) (defScope s_Or_word) .none kV25 dc25 pm25 an25 cd25 ct25),sl25⟩) (c25:PySem.W.codeIn K cd25 "Or.word" = true) (k25:PySem.W.keepIn K (.ref f25) = true)
  (a26:PySem.W.findIn K (.ref c_Unlike) "word" = some (some (.ref f26))) (i26:PySem.W.isFn K (.ref f26) = true)
  (l26:K.lookup f26 = some ⟨oc26,od26,.func (PySem.W.fnOf "word" "Unlike.word" (defArgs s_Unlike_word) (defBody s_Unlike_word) (defScope s_Unlike_word) .none kV26 dc26 pm26 an26 cd26 ct26),sl26⟩) (c26:PySem.W.codeIn K cd26 "Unlike.word" = true) (k26:PySem.W.keepIn K (.ref f26) = true)
  (a27:PySem.W.findIn K (.ref c_Under) "word" = some (some (.ref f27))) (i27:PySem.W.isFn K (.ref f27) = true)
  (l27:K.lookup f27 = some ⟨oc27,od27,.func (PySem.W.fnOf "word" "Under.word" (defArgs s_Under_word) (defBody s_Under_word) (defScope s_Under_word) .none kV27 dc27 pm27 an27 cd27 ct27),sl27⟩) (c27:PySem.W.codeIn K cd27 "Under.word" = true) (k27:PySem.W.keepIn K (.ref f27) = true)
  (a28:PySem.W.findIn K (.ref c_Pick) "word" = some (some (.ref f28))) (i28:PySem.W.isFn K (.ref f28) = true)
  (l28:K.lookup f28 = some ⟨oc28,od28,.func (PySem.W.fnOf "word" "Pick.word" (defArgs s_Pick_word) (defBody s_Pick_word) (defScope s_Pick_word) .none kV28 dc28 pm28 an28 cd28 ct28),sl28⟩) (c28:PySem.W.codeIn K cd28 "Pick.word" = true) (k28:PySem.W.keepIn K (.ref f28) = true)
  (a29:PySem.W.findIn K (.ref c_Mark) "word" = some (some (.ref f29))) (i29:PySem.W.isFn K (.ref f29) = true)
  (l29:K.lookup f29 = some ⟨oc29,od29,.func (PySem.W.fnOf "word" "Mark.word" (defArgs s_Mark_word) (defBody s_Mark_word) (defScope s_Mark_word) .none kV29 dc29 pm29 an29 cd29 ct29),sl29⟩) (c29:PySem.W.codeIn K cd29 "Mark.word" = true) (k29:PySem.W.keepIn K (.ref f29) = true)
  (a30:PySem.W.findIn K (.ref c_Set) "__init__" = some (some (.ref f30))) (i30:PySem.W.isFn K (.ref f30) = true)
  (l30:K.lookup f30 = some ⟨oc30,od30,.func (PySem.W.fnOf "__init__" "Set.__init__" (defArgs s_Set___init__) (defBody s_Set___init__) (defScope s_Set___init__) .none kV30 dc30 pm30 an30 cd30 ct30),sl30⟩) (c30:PySem.W.codeIn K cd30 "Set.__init__" = true) (k30:PySem.W.keepIn K (.ref f30) = true)
  (a31:PySem.W.findIn K (.ref c_Copy) "__init__" = some (some (.ref f31))) (i31:PySem.W.isFn K (.ref f31) = true)
  (l31:K.lookup f31 = some ⟨oc31,od31,.func (PySem.W.fnOf "__init__" "Copy.__init__" (defArgs s_Copy___init__) (defBody s_Copy___init__) (defScope s_Copy___init__) .none kV31 dc31 pm31 an31 cd31 ct31),sl31⟩) (c31:PySem.W.codeIn K cd31 "Copy.__init__" = true) (k31:PySem.W.keepIn K (.ref f31) = true)
  (a32:PySem.W.findIn K (.ref c_Sum) "__init__" = some (some (.ref f32))) (i32:PySem.W.isFn K (.ref f32) = true) (h_Gap___init__:PySem.W.findIn K (.ref c_Gap) "__init__" = some (some (.ref f32)))
  (l32:K.lookup f32 = some ⟨oc32,od32,.func (PySem.W.fnOf "__init__" "Carrying.__init__" (defArgs s_Carrying___init__) (defBody s_Carrying___init__) (defScope s_Carrying___init__) .none kV32 dc32 pm32 an32 cd32 ct32),sl32⟩) (c32:PySem.W.codeIn K cd32 "Carrying.__init__" = true) (k32:PySem.W.keepIn K (.ref f32) = true)
  (a33:PySem.W.findIn K (.ref c_Low) "__init__" = some (some (.ref f33))) (i33:PySem.W.isFn K (.ref f33) = true) (h_High___init__:PySem.W.findIn K (.ref c_High) "__init__" = some (some (.ref f33))) (h_And___init__:PySem.W.findIn K (.ref c_And) "__init__" = some (some (.ref f33))) (h_Or___init__:PySem.W.findIn K (.ref c_Or) "__init__" = some (some (.ref f33))) (h_Unlike___init__:PySem.W.findIn K (.ref c_Unlike) "__init__" = some (some (.ref f33))) (h_Under___init__:PySem.W.findIn K (.ref c_Under) "__init__" = some (some (.ref f33)))
  (l33:K.lookup f33 = some ⟨oc33,od33,.func (PySem.W.fnOf "__init__" "Joining.__init__" (defArgs s_Joining___init__) (defBody s_Joining___init__) (defScope s_Joining___init__) .none kV33 dc33 pm33 an33 cd33 ct33),sl33⟩) (c33:PySem.W.codeIn K cd33 "Joining.__init__" = true) (k33:PySem.W.keepIn K (.ref f33) = true)
  (a34:PySem.W.findIn K (.ref c_Left) "__init__" = some (some (.ref f34))) (i34:PySem.W.isFn K (.ref f34) = true) (h_Right___init__:PySem.W.findIn K (.ref c_Right) "__init__" = some (some (.ref f34))) (h_Slide___init__:PySem.W.findIn K (.ref c_Slide) "__init__" = some (some (.ref f34)))
  (l34:K.lookup f34 = some ⟨oc34,od34,.func (PySem.W.fnOf "__init__" "Moving.__init__" (defArgs s_Moving___init__) (defBody s_Moving___init__) (defScope s_Moving___init__) .none kV34 dc34 pm34 an34 cd34 ct34),sl34⟩) (c34:PySem.W.codeIn K cd34 "Moving.__init__" = true) (k34:PySem.W.keepIn K (.ref f34) = true)
  (a35:PySem.W.findIn K (.ref c_Pick) "__init__" = some (some (.ref f35))) (i35:PySem.W.isFn K (.ref f35) = true)
  (l35:K.lookup f35 = some ⟨oc35,od35,.func (PySem.W.fnOf "__init__" "Pick.__init__" (defArgs s_Pick___init__) (defBody s_Pick___init__) (defScope s_Pick___init__) .none kV35 dc35 pm35 an35 cd35 ct35),sl35⟩) (c35:PySem.W.codeIn K cd35 "Pick.__init__" = true) (k35:PySem.W.keepIn K (.ref f35) = true)
  (a36:PySem.W.findIn K (.ref c_Mark) "__init__" = some (some (.ref f36))) (i36:PySem.W.isFn K (.ref f36) = true)
  (l36:K.lookup f36 = some ⟨oc36,od36,.func (PySem.W.fnOf "__init__" "Mark.__init__" (defArgs s_Mark___init__) (defBody s_Mark___init__) (defScope s_Mark___init__) .none kV36 dc36 pm36 an36 cd36 ct36),sl36⟩) (c36:PySem.W.codeIn K cd36 "Mark.__init__" = true) (k36:PySem.W.keepIn K (.ref f36) = true)
  (a37:PySem.W.findIn K (.ref c_Set) "told" = some (some (.ref f37))) (i37:PySem.W.isFn K (.ref f37) = true)
  (l37:K.lookup f37 = some ⟨oc37,od37,.func (PySem.W.fnOf "told" "Set.told" (defArgs s_Set_told) (defBody s_Set_told) (defScope s_Set_told) .none kV37 dc37 pm37 an37 cd37 ct37),sl37⟩) (c37:PySem.W.codeIn K cd37 "Set.told" = true) (k37:PySem.W.keepIn K (.ref f37) = true)
  (a38:PySem.W.findIn K (.ref c_Copy) "told" = some (some (.ref f38))) (i38:PySem.W.isFn K (.ref f38) = true)
  (l38:K.lookup f38 = some ⟨oc38,od38,.func (PySem.W.fnOf "told" "Copy.told" (defArgs s_Copy_told) (defBody s_Copy_told) (defScope s_Copy_told) .none kV38 dc38 pm38 an38 cd38 ct38),sl38⟩) (c38:PySem.W.codeIn K cd38 "Copy.told" = true) (k38:PySem.W.keepIn K (.ref f38) = true)
  (a39:PySem.W.findIn K (.ref c_Sum) "told" = some (some (.ref f39))) (i39:PySem.W.isFn K (.ref f39) = true) (h_Gap_told:PySem.W.findIn K (.ref c_Gap) "told" = some (some (.ref f39)))
  (l39:K.lookup f39 = some ⟨oc39,od39,.func (PySem.W.fnOf "told" "Carrying.told" (defArgs s_Carrying_told) (defBody s_Carrying_told) (defScope s_Carrying_told) .none kV39 dc39 pm39 an39 cd39 ct39),sl39⟩) (c39:PySem.W.codeIn K cd39 "Carrying.told" = true) (k39:PySem.W.keepIn K (.ref f39) = true)
  (a40:PySem.W.findIn K (.ref c_Low) "told" = some (some (.ref f40))) (i40:PySem.W.isFn K (.ref f40) = true) (h_High_told:PySem.W.findIn K (.ref c_High) "told" = some (some (.ref f40))) (h_And_told:PySem.W.findIn K (.ref c_And) "told" = some (some (.ref f40))) (h_Or_told:PySem.W.findIn K (.ref c_Or) "told" = some (some (.ref f40))) (h_Unlike_told:PySem.W.findIn K (.ref c_Unlike) "told" = some (some (.ref f40))) (h_Under_told:PySem.W.findIn K (.ref c_Under) "told" = some (some (.ref f40)))
  (l40:K.lookup f40 = some ⟨oc40,od40,.func (PySem.W.fnOf "told" "Joining.told" (defArgs s_Joining_told) (defBody s_Joining_told) (defScope s_Joining_told) .none kV40 dc40 pm40 an40 cd40 ct40),sl40⟩) (c40:PySem.W.codeIn K cd40 "Joining.told" = true) (k40:PySem.W.keepIn K (.ref f40) = true)
  (a41:PySem.W.findIn K (.ref c_Left) "told" = some (some (.ref f41))) (i41:PySem.W.isFn K (.ref f41) = true) (h_Right_told:PySem.W.findIn K (.ref c_Right) "told" = some (some (.ref f41))) (h_Slide_told:PySem.W.findIn K (.ref c_Slide) "told" = some (some (.ref f41)))
  (l41:K.lookup f41 = some ⟨oc41,od41,.func (PySem.W.fnOf "told" "Moving.told" (defArgs s_Moving_told) (defBody s_Moving_told) (defScope s_Moving_told) .none kV41 dc41 pm41 an41 cd41 ct41),sl41⟩) (c41:PySem.W.codeIn K cd41 "Moving.told" = true) (k41:PySem.W.keepIn K (.ref f41) = true)
  (a42:PySem.W.findIn K (.ref c_Pick) "told" = some (some (.ref f42))) (i42:PySem.W.isFn K (.ref f42) = true)
  (l42:K.lookup f42 = some ⟨oc42,od42,.func (PySem.W.fnOf "told" "Pick.told" (defArgs s_Pick_told) (defBody s_Pick_told) (defScope s_Pick_told) .none kV42 dc42 pm42 an42 cd42 ct42),sl42⟩) (c42:PySem.W.codeIn K cd42 "Pick.told" = true) (k42:PySem.W.keepIn K (.ref f42) = true)
  (a43:PySem.W.findIn K (.ref c_Mark) "told" = some (some (.ref f43))) (i43:PySem.W.isFn K (.ref f43) = true)
  (l43:K.lookup f43 = some ⟨oc43,od43,.func (PySem.W.fnOf "told" "Mark.told" (defArgs s_Mark_told) (defBody s_Mark_told) (defScope s_Mark_told) .none kV43 dc43 pm43 an43 cd43 ct43),sl43⟩) (c43:PySem.W.codeIn K cd43 "Mark.told" = true) (k43:PySem.W.keepIn K (.ref f43) = true)
  (a44:PySem.W.findIn K (.ref c_Sum) "reckoned" = some (some (.ref f44))) (i44:PySem.W.isFn K (.ref f44) = true)
  (l44:K.lookup f44 = some ⟨oc44,od44,.func (PySem.W.fnOf "reckoned" "Sum.reckoned" (defArgs s_Sum_reckoned) (defBody s_Sum_reckoned) (defScope s_Sum_reckoned) .none kV44 dc44 pm44 an44 cd44 ct44),sl44⟩) (c44:PySem.W.codeIn K cd44 "Sum.reckoned" = true) (k44:PySem.W.keepIn K (.ref f44) = true)
  (a45:PySem.W.findIn K (.ref c_Gap) "reckoned" = some (some (.ref f45))) (i45:PySem.W.isFn K (.ref f45) = true)
  (l45:K.lookup f45 = some ⟨oc45,od45,.func (PySem.W.fnOf "reckoned" "Gap.reckoned" (defArgs s_Gap_reckoned) (defBody s_Gap_reckoned) (defScope s_Gap_reckoned) .none kV45 dc45 pm45 an45 cd45 ct45),sl45⟩) (c45:PySem.W.codeIn K cd45 "Gap.reckoned" = true) (k45:PySem.W.keepIn K (.ref f45) = true)
  (a46:PySem.W.findIn K (.ref c_Low) "reckoned" = some (some (.ref f46))) (i46:PySem.W.isFn K (.ref f46) = true)
  (l46:K.lookup f46 = some ⟨oc46,od46,.func (PySem.W.fnOf "reckoned" "Low.reckoned" (defArgs s_Low_reckoned) (defBody s_Low_reckoned) (defScope s_Low_reckoned) .none kV46 dc46 pm46 an46 cd46 ct46),sl46⟩) (c46:PySem.W.codeIn K cd46 "Low.reckoned" = true) (k46:PySem.W.keepIn K (.ref f46) = true)
  (a47:PySem.W.findIn K (.ref c_High) "reckoned" = some (some (.ref f47))) (i47:PySem.W.isFn K (.ref f47) = true)
  (l47:K.lookup f47 = some ⟨oc47,od47,.func (PySem.W.fnOf "reckoned" "High.reckoned" (defArgs s_High_reckoned) (defBody s_High_reckoned) (defScope s_High_reckoned) .none kV47 dc47 pm47 an47 cd47 ct47),sl47⟩) (c47:PySem.W.codeIn K cd47 "High.reckoned" = true) (k47:PySem.W.keepIn K (.ref f47) = true)
  (a48:PySem.W.findIn K (.ref c_And) "reckoned" = some (some (.ref f48))) (i48:PySem.W.isFn K (.ref f48) = true)
  (l48:K.lookup f48 = some ⟨oc48,od48,.func (PySem.W.fnOf "reckoned" "And.reckoned" (defArgs s_And_reckoned) (defBody s_And_reckoned) (defScope s_And_reckoned) .none kV48 dc48 pm48 an48 cd48 ct48),sl48⟩) (c48:PySem.W.codeIn K cd48 "And.reckoned" = true) (k48:PySem.W.keepIn K (.ref f48) = true)
  (a49:PySem.W.findIn K (.ref c_Or) "reckoned" = some (some (.ref f49))) (i49:PySem.W.isFn K (.ref f49) = true)
  (l49:K.lookup f49 = some ⟨oc49,od49,.func (PySem.W.fnOf "reckoned" "Or.reckoned" (defArgs s_Or_reckoned) (defBody s_Or_reckoned) (defScope s_Or_reckoned) .none kV49 dc49 pm49 an49 cd49 ct49),sl49⟩) (c49:PySem.W.codeIn K cd49 "Or.reckoned" = true) (k49:PySem.W.keepIn K (.ref f49) = true)
  (a50:PySem.W.findIn K (.ref c_Unlike) "reckoned" = some (some (.ref f50))) (i50:PySem.W.isFn K (.ref f50) = true)
  (l50:K.lookup f50 = some ⟨oc50,od50,.func (PySem.W.fnOf "reckoned" "Unlike.reckoned" (defArgs s_Unlike_reckoned) (defBody s_Unlike_reckoned) (defScope s_Unlike_reckoned) .none kV50 dc50 pm50 an50 cd50 ct50),sl50⟩) (c50:PySem.W.codeIn K cd50 "Unlike.reckoned" = true) (k50:PySem.W.keepIn K (.ref f50) = true)
  (a51:PySem.W.findIn K (.ref c_Under) "reckoned" = some (some (.ref f51))) (i51:PySem.W.isFn K (.ref f51) = true)
  (l51:K.lookup f51 = some ⟨oc51,od51,.func (PySem.W.fnOf "reckoned" "Under.reckoned" (defArgs s_Under_reckoned) (defBody s_Under_reckoned) (defScope s_Under_reckoned) .none kV51 dc51 pm51 an51 cd51 ct51),sl51⟩) (c51:PySem.W.codeIn K cd51 "Under.reckoned" = true) (k51:PySem.W.keepIn K (.ref f51) = true)
  (a52:PySem.W.findIn K (.ref c_Left) "moved" = some (some (.ref f52))) (i52:PySem.W.isFn K (.ref f52) = true)
  (l52:K.lookup f52 = some ⟨oc52,od52,.func (PySem.W.fnOf "moved" "Left.moved" (defArgs s_Left_moved) (defBody s_Left_moved) (defScope s_Left_moved) .none kV52 dc52 pm52 an52 cd52 ct52),sl52⟩) (c52:PySem.W.codeIn K cd52 "Left.moved" = true) (k52:PySem.W.keepIn K (.ref f52) = true)
  (a53:PySem.W.findIn K (.ref c_Right) "moved" = some (some (.ref f53))) (i53:PySem.W.isFn K (.ref f53) = true)
  (l53:K.lookup f53 = some ⟨oc53,od53,.func (PySem.W.fnOf "moved" "Right.moved" (defArgs s_Right_moved) (defBody s_Right_moved) (defScope s_Right_moved) .none kV53 dc53 pm53 an53 cd53 ct53),sl53⟩) (c53:PySem.W.codeIn K cd53 "Right.moved" = true) (k53:PySem.W.keepIn K (.ref f53) = true)
  (a54:PySem.W.findIn K (.ref c_Slide) "moved" = some (some (.ref f54))) (i54:PySem.W.isFn K (.ref f54) = true)
  (l54:K.lookup f54 = some ⟨oc54,od54,.func (PySem.W.fnOf "moved" "Slide.moved" (defArgs s_Slide_moved) (defBody s_Slide_moved) (defScope s_Slide_moved) .none kV54 dc54 pm54 an54 cd54 ct54),sl54⟩) (c54:PySem.W.codeIn K cd54 "Slide.moved" = true) (k54:PySem.W.keepIn K (.ref f54) = true)
  (a55:PySem.W.findIn K (.ref c_Set) "good_at" = some (some (.ref f55))) (i55:PySem.W.isFn K (.ref f55) = true)
  (l55:K.lookup f55 = some ⟨oc55,od55,.func (PySem.W.fnOf "good_at" "Set.good_at" (defArgs s_Set_good_at) (defBody s_Set_good_at) (defScope s_Set_good_at) .none kV55 dc55 pm55 an55 cd55 ct55),sl55⟩) (c55:PySem.W.codeIn K cd55 "Set.good_at" = true) (k55:PySem.W.keepIn K (.ref f55) = true)
  (a56:PySem.W.findIn K (.ref c_Copy) "good_at" = some (some (.ref f56))) (i56:PySem.W.isFn K (.ref f56) = true)
  (l56:K.lookup f56 = some ⟨oc56,od56,.func (PySem.W.fnOf "good_at" "Copy.good_at" (defArgs s_Copy_good_at) (defBody s_Copy_good_at) (defScope s_Copy_good_at) .none kV56 dc56 pm56 an56 cd56 ct56),sl56⟩) (c56:PySem.W.codeIn K cd56 "Copy.good_at" = true) (k56:PySem.W.keepIn K (.ref f56) = true)
  (a57:PySem.W.findIn K (.ref c_Sum) "good_at" = some (some (.ref f57))) (i57:PySem.W.isFn K (.ref f57) = true) (h_Gap_good_at:PySem.W.findIn K (.ref c_Gap) "good_at" = some (some (.ref f57)))
  (l57:K.lookup f57 = some ⟨oc57,od57,.func (PySem.W.fnOf "good_at" "Carrying.good_at" (defArgs s_Carrying_good_at) (defBody s_Carrying_good_at) (defScope s_Carrying_good_at) .none kV57 dc57 pm57 an57 cd57 ct57),sl57⟩) (c57:PySem.W.codeIn K cd57 "Carrying.good_at" = true) (k57:PySem.W.keepIn K (.ref f57) = true)
  (a58:PySem.W.findIn K (.ref c_Low) "good_at" = some (some (.ref f58))) (i58:PySem.W.isFn K (.ref f58) = true) (h_High_good_at:PySem.W.findIn K (.ref c_High) "good_at" = some (some (.ref f58))) (h_And_good_at:PySem.W.findIn K (.ref c_And) "good_at" = some (some (.ref f58))) (h_Or_good_at:PySem.W.findIn K (.ref c_Or) "good_at" = some (some (.ref f58))) (h_Unlike_good_at:PySem.W.findIn K (.ref c_Unlike) "good_at" = some (some (.ref f58))) (h_Under_good_at:PySem.W.findIn K (.ref c_Under) "good_at" = some (some (.ref f58)))
  (l58:K.lookup f58 = some ⟨oc58,od58,.func (PySem.W.fnOf "good_at" "Joining.good_at" (defArgs s_Joining_good_at) (defBody s_Joining_good_at) (defScope s_Joining_good_at) .none kV58 dc58 pm58 an58 cd58 ct58),sl58⟩) (c58:PySem.W.codeIn K cd58 "Joining.good_at" = true) (k58:PySem.W.keepIn K (.ref f58) = true)
  (a59:PySem.W.findIn K (.ref c_Left) "good_at" = some (some (.ref f59))) (i59:PySem.W.isFn K (.ref f59) = true) (h_Right_good_at:PySem.W.findIn K (.ref c_Right) "good_at" = some (some (.ref f59))) (h_Slide_good_at:PySem.W.findIn K (.ref c_Slide) "good_at" = some (some (.ref f59)))
  (l59:K.lookup f59 = some ⟨oc59,od59,.func (PySem.W.fnOf "good_at" "Moving.good_at" (defArgs s_Moving_good_at) (defBody s_Moving_good_at) (defScope s_Moving_good_at) .none kV59 dc59 pm59 an59 cd59 ct59),sl59⟩) (c59:PySem.W.codeIn K cd59 "Moving.good_at" = true) (k59:PySem.W.keepIn K (.ref f59) = true)
  (a60:PySem.W.findIn K (.ref c_Pick) "good_at" = some (some (.ref f60))) (i60:PySem.W.isFn K (.ref f60) = true)
  (l60:K.lookup f60 = some ⟨oc60,od60,.func (PySem.W.fnOf "good_at" "Pick.good_at" (defArgs s_Pick_good_at) (defBody s_Pick_good_at) (defScope s_Pick_good_at) .none kV60 dc60 pm60 an60 cd60 ct60),sl60⟩) (c60:PySem.W.codeIn K cd60 "Pick.good_at" = true) (k60:PySem.W.keepIn K (.ref f60) = true)
  (a61:PySem.W.findIn K (.ref c_Mark) "good_at" = some (some (.ref f61))) (i61:PySem.W.isFn K (.ref f61) = true)
  (l61:K.lookup f61 = some ⟨oc61,od61,.func (PySem.W.fnOf "good_at" "Mark.good_at" (defArgs s_Mark_good_at) (defBody s_Mark_good_at) (defScope s_Mark_good_at) .none kV61 dc61 pm61 an61 cd61 ct61),sl61⟩) (c61:PySem.W.codeIn K cd61 "Mark.good_at" = true) (k61:PySem.W.keepIn K (.ref f61) = true)
  (a62:PySem.W.findIn K (.ref c_Set) "act" = some (some (.ref f62))) (i62:PySem.W.isFn K (.ref f62) = true)
  (l62:K.lookup f62 = some ⟨oc62,od62,.func (PySem.W.fnOf "act" "Set.act" (defArgs s_Set_act) (defBody s_Set_act) (defScope s_Set_act) .none kV62 dc62 pm62 an62 cd62 ct62),sl62⟩) (c62:PySem.W.codeIn K cd62 "Set.act" = true) (k62:PySem.W.keepIn K (.ref f62) = true)
  (a63:PySem.W.findIn K (.ref c_Copy) "act" = some (some (.ref f63))) (i63:PySem.W.isFn K (.ref f63) = true)
  (l63:K.lookup f63 = some ⟨oc63,od63,.func (PySem.W.fnOf "act" "Copy.act" (defArgs s_Copy_act) (defBody s_Copy_act) (defScope s_Copy_act) .none kV63 dc63 pm63 an63 cd63 ct63),sl63⟩) (c63:PySem.W.codeIn K cd63 "Copy.act" = true) (k63:PySem.W.keepIn K (.ref f63) = true)
  (a64:PySem.W.findIn K (.ref c_Sum) "act" = some (some (.ref f64))) (i64:PySem.W.isFn K (.ref f64) = true) (h_Gap_act:PySem.W.findIn K (.ref c_Gap) "act" = some (some (.ref f64)))
  (l64:K.lookup f64 = some ⟨oc64,od64,.func (PySem.W.fnOf "act" "Carrying.act" (defArgs s_Carrying_act) (defBody s_Carrying_act) (defScope s_Carrying_act) .none kV64 dc64 pm64 an64 cd64 ct64),sl64⟩) (c64:PySem.W.codeIn K cd64 "Carrying.act" = true) (k64:PySem.W.keepIn K (.ref f64) = true)
  (a65:PySem.W.findIn K (.ref c_Low) "act" = some (some (.ref f65))) (i65:PySem.W.isFn K (.ref f65) = true) (h_High_act:PySem.W.findIn K (.ref c_High) "act" = some (some (.ref f65))) (h_And_act:PySem.W.findIn K (.ref c_And) "act" = some (some (.ref f65))) (h_Or_act:PySem.W.findIn K (.ref c_Or) "act" = some (some (.ref f65))) (h_Unlike_act:PySem.W.findIn K (.ref c_Unlike) "act" = some (some (.ref f65))) (h_Under_act:PySem.W.findIn K (.ref c_Under) "act" = some (some (.ref f65)))
  (l65:K.lookup f65 = some ⟨oc65,od65,.func (PySem.W.fnOf "act" "Joining.act" (defArgs s_Joining_act) (defBody s_Joining_act) (defScope s_Joining_act) .none kV65 dc65 pm65 an65 cd65 ct65),sl65⟩) (c65:PySem.W.codeIn K cd65 "Joining.act" = true) (k65:PySem.W.keepIn K (.ref f65) = true)
  (a66:PySem.W.findIn K (.ref c_Left) "act" = some (some (.ref f66))) (i66:PySem.W.isFn K (.ref f66) = true) (h_Right_act:PySem.W.findIn K (.ref c_Right) "act" = some (some (.ref f66))) (h_Slide_act:PySem.W.findIn K (.ref c_Slide) "act" = some (some (.ref f66)))
  (l66:K.lookup f66 = some ⟨oc66,od66,.func (PySem.W.fnOf "act" "Moving.act" (defArgs s_Moving_act) (defBody s_Moving_act) (defScope s_Moving_act) .none kV66 dc66 pm66 an66 cd66 ct66),sl66⟩) (c66:PySem.W.codeIn K cd66 "Moving.act" = true) (k66:PySem.W.keepIn K (.ref f66) = true)
  (a67:PySem.W.findIn K (.ref c_Pick) "act" = some (some (.ref f67))) (i67:PySem.W.isFn K (.ref f67) = true)
  (l67:K.lookup f67 = some ⟨oc67,od67,.func (PySem.W.fnOf "act" "Pick.act" (defArgs s_Pick_act) (defBody s_Pick_act) (defScope s_Pick_act) .none kV67 dc67 pm67 an67 cd67 ct67),sl67⟩) (c67:PySem.W.codeIn K cd67 "Pick.act" = true) (k67:PySem.W.keepIn K (.ref f67) = true)
  (a68:PySem.W.findIn K (.ref c_Mark) "act" = some (some (.ref f68))) (i68:PySem.W.isFn K (.ref f68) = true)
  (l68:K.lookup f68 = some ⟨oc68,od68,.func (PySem.W.fnOf "act" "Mark.act" (defArgs s_Mark_act) (defBody s_Mark_act) (defScope s_Mark_act) .none kV68 dc68 pm68 an68 cd68 ct68),sl68⟩) (c68:PySem.W.codeIn K cd68 "Mark.act" = true) (k68:PySem.W.keepIn K (.ref f68) = true)
  (a69:PySem.W.nsIn K mainGlobals "is_good" = some (some (.ref f69)))
  (l69:K.lookup f69 = some ⟨oc69,od69,.func (PySem.W.fnOf "is_good" "is_good" (defArgs s_is_good) (defBody s_is_good) (defScope s_is_good) .none kV69 dc69 pm69 an69 cd69 ct69),sl69⟩) (c69:PySem.W.codeIn K cd69 "is_good" = true) (k69:PySem.W.keepIn K (.ref f69) = true)
  (a70:PySem.W.nsIn K mainGlobals "place_behind" = some (some (.ref f70)))
  (l70:K.lookup f70 = some ⟨oc70,od70,.func (PySem.W.fnOf "place_behind" "place_behind" (defArgs s_place_behind) (defBody s_place_behind) (defScope s_place_behind) .none kV70 dc70 pm70 an70 cd70 ct70),sl70⟩) (c70:PySem.W.codeIn K cd70 "place_behind" = true) (k70:PySem.W.keepIn K (.ref f70) = true)
  (a71:PySem.W.nsIn K mainGlobals "count_words" = some (some (.ref f71)))
  (l71:K.lookup f71 = some ⟨oc71,od71,.func (PySem.W.fnOf "count_words" "count_words" (defArgs s_count_words) (defBody s_count_words) (defScope s_count_words) .none kV71 dc71 pm71 an71 cd71 ct71),sl71⟩) (c71:PySem.W.codeIn K cd71 "count_words" = true) (k71:PySem.W.keepIn K (.ref f71) = true)
  (a72:PySem.W.nsIn K mainGlobals "need_steps" = some (some (.ref f72)))
  (l72:K.lookup f72 = some ⟨oc72,od72,.func (PySem.W.fnOf "need_steps" "need_steps" (defArgs s_need_steps) (defBody s_need_steps) (defScope s_need_steps) .none kV72 dc72 pm72 an72 cd72 ct72),sl72⟩) (c72:PySem.W.codeIn K cd72 "need_steps" = true) (k72:PySem.W.keepIn K (.ref f72) = true)
  (a73:PySem.W.nsIn K mainGlobals "check_steps" = some (some (.ref f73)))
  (l73:K.lookup f73 = some ⟨oc73,od73,.func (PySem.W.fnOf "check_steps" "check_steps" (defArgs s_check_steps) (defBody s_check_steps) (defScope s_check_steps) .none kV73 dc73 pm73 an73 cd73 ct73),sl73⟩) (c73:PySem.W.codeIn K cd73 "check_steps" = true) (k73:PySem.W.keepIn K (.ref f73) = true)
  (a74:PySem.W.nsIn K mainGlobals "need_registers" = some (some (.ref f74)))
  (l74:K.lookup f74 = some ⟨oc74,od74,.func (PySem.W.fnOf "need_registers" "need_registers" (defArgs s_need_registers) (defBody s_need_registers) (defScope s_need_registers) .none kV74 dc74 pm74 an74 cd74 ct74),sl74⟩) (c74:PySem.W.codeIn K cd74 "need_registers" = true) (k74:PySem.W.keepIn K (.ref f74) = true)
  (a75:PySem.W.nsIn K mainGlobals "run_steps" = some (some (.ref f75)))
  (l75:K.lookup f75 = some ⟨oc75,od75,.func (PySem.W.fnOf "run_steps" "run_steps" (defArgs s_run_steps) (defBody s_run_steps) (defScope s_run_steps) .none kV75 dc75 pm75 an75 cd75 ct75),sl75⟩) (c75:PySem.W.codeIn K cd75 "run_steps" = true) (k75:PySem.W.keepIn K (.ref f75) = true)
  (a76:PySem.W.nsIn K mainGlobals "_law_cell" = some (some (.ref f76)))
  (l76:K.lookup f76 = some ⟨oc76,od76,.func (PySem.W.fnOf "_law_cell" "_law_cell" (defArgs s__law_cell) (defBody s__law_cell) (defScope s__law_cell) .none kV76 dc76 pm76 an76 cd76 ct76),sl76⟩) (c76:PySem.W.codeIn K cd76 "_law_cell" = true) (k76:PySem.W.keepIn K (.ref f76) = true)
  (a77:PySem.W.nsIn K mainGlobals "_law_begun" = some (some (.ref f77)))
  (l77:K.lookup f77 = some ⟨oc77,od77,.func (PySem.W.fnOf "_law_begun" "_law_begun" (defArgs s__law_begun) (defBody s__law_begun) (defScope s__law_begun) .none kV77 dc77 pm77 an77 cd77 ct77),sl77⟩) (c77:PySem.W.codeIn K cd77 "_law_begun" = true) (k77:PySem.W.keepIn K (.ref f77) = true)
  (a78:PySem.W.nsIn K mainGlobals "_law_draw" = some (some (.ref f78)))
  (l78:K.lookup f78 = some ⟨oc78,od78,.func (PySem.W.fnOf "_law_draw" "_law_draw" (defArgs s__law_draw) (defBody s__law_draw) (defScope s__law_draw) .none kV78 dc78 pm78 an78 cd78 ct78),sl78⟩) (c78:PySem.W.codeIn K cd78 "_law_draw" = true) (k78:PySem.W.keepIn K (.ref f78) = true)
  (a79:PySem.W.nsIn K mainGlobals "_law_whole" = some (some (.ref f79)))
  (l79:K.lookup f79 = some ⟨oc79,od79,.func (PySem.W.fnOf "_law_whole" "_law_whole" (defArgs s__law_whole) (defBody s__law_whole) (defScope s__law_whole) .none kV79 dc79 pm79 an79 cd79 ct79),sl79⟩) (c79:PySem.W.codeIn K cd79 "_law_whole" = true) (k79:PySem.W.keepIn K (.ref f79) = true)
  (a80:PySem.W.nsIn K mainGlobals "_law_word" = some (some (.ref f80)))
  (l80:K.lookup f80 = some ⟨oc80,od80,.func (PySem.W.fnOf "_law_word" "_law_word" (defArgs s__law_word) (defBody s__law_word) (defScope s__law_word) .none kV80 dc80 pm80 an80 cd80 ct80),sl80⟩) (c80:PySem.W.codeIn K cd80 "_law_word" = true) (k80:PySem.W.keepIn K (.ref f80) = true)
  (a81:PySem.W.nsIn K mainGlobals "_law_names" = some (some (.ref f81)))
  (l81:K.lookup f81 = some ⟨oc81,od81,.func (PySem.W.fnOf "_law_names" "_law_names" (defArgs s__law_names) (defBody s__law_names) (defScope s__law_names) .none kV81 dc81 pm81 an81 cd81 ct81),sl81⟩) (c81:PySem.W.codeIn K cd81 "_law_names" = true) (k81:PySem.W.keepIn K (.ref f81) = true)
  (a82:PySem.W.nsIn K mainGlobals "_law_name" = some (some (.ref f82)))
  (l82:K.lookup f82 = some ⟨oc82,od82,.func (PySem.W.fnOf "_law_name" "_law_name" (defArgs s__law_name) (defBody s__law_name) (defScope s__law_name) .none kV82 dc82 pm82 an82 cd82 ct82),sl82⟩) (c82:PySem.W.codeIn K cd82 "_law_name" = true) (k82:PySem.W.keepIn K (.ref f82) = true)
  (a83:PySem.W.nsIn K mainGlobals "_law_sorts" = some (some (.ref f83)))
  (l83:K.lookup f83 = some ⟨oc83,od83,.func (PySem.W.fnOf "_law_sorts" "_law_sorts" (defArgs s__law_sorts) (defBody s__law_sorts) (defScope s__law_sorts) .none kV83 dc83 pm83 an83 cd83 ct83),sl83⟩) (c83:PySem.W.codeIn K cd83 "_law_sorts" = true) (k83:PySem.W.keepIn K (.ref f83) = true)
  (a84:PySem.W.nsIn K mainGlobals "_law_row" = some (some (.ref f84)))
  (l84:K.lookup f84 = some ⟨oc84,od84,.func (PySem.W.fnOf "_law_row" "_law_row" (defArgs s__law_row) (defBody s__law_row) (defScope s__law_row) .none kV84 dc84 pm84 an84 cd84 ct84),sl84⟩) (c84:PySem.W.codeIn K cd84 "_law_row" = true) (k84:PySem.W.keepIn K (.ref f84) = true)
  (a85:PySem.W.nsIn K mainGlobals "_law_made_pair" = some (some (.ref f85)))
  (l85:K.lookup f85 = some ⟨oc85,od85,.func (PySem.W.fnOf "_law_made_pair" "_law_made_pair" (defArgs s__law_made_pair) (defBody s__law_made_pair) (defScope s__law_made_pair) .none kV85 dc85 pm85 an85 cd85 ct85),sl85⟩) (c85:PySem.W.codeIn K cd85 "_law_made_pair" = true) (k85:PySem.W.keepIn K (.ref f85) = true)
  (a86:PySem.W.nsIn K mainGlobals "_law_made" = some (some (.ref f86)))
  (l86:K.lookup f86 = some ⟨oc86,od86,.func (PySem.W.fnOf "_law_made" "_law_made" (defArgs s__law_made) (defBody s__law_made) (defScope s__law_made) .none kV86 dc86 pm86 an86 cd86 ct86),sl86⟩) (c86:PySem.W.codeIn K cd86 "_law_made" = true) (k86:PySem.W.keepIn K (.ref f86) = true)
  (a87:PySem.W.nsIn K mainGlobals "_law_pair_word" = some (some (.ref f87)))
  (l87:K.lookup f87 = some ⟨oc87,od87,.func (PySem.W.fnOf "_law_pair_word" "_law_pair_word" (defArgs s__law_pair_word) (defBody s__law_pair_word) (defScope s__law_pair_word) .none kV87 dc87 pm87 an87 cd87 ct87),sl87⟩) (c87:PySem.W.codeIn K cd87 "_law_pair_word" = true) (k87:PySem.W.keepIn K (.ref f87) = true)
  (a88:PySem.W.nsIn K mainGlobals "_law_moved" = some (some (.ref f88)))
  (l88:K.lookup f88 = some ⟨oc88,od88,.func (PySem.W.fnOf "_law_moved" "_law_moved" (defArgs s__law_moved) (defBody s__law_moved) (defScope s__law_moved) .none kV88 dc88 pm88 an88 cd88 ct88),sl88⟩) (c88:PySem.W.codeIn K cd88 "_law_moved" = true) (k88:PySem.W.keepIn K (.ref f88) = true)
  (a89:PySem.W.nsIn K mainGlobals "_law_done" = some (some (.ref f89)))
  (l89:K.lookup f89 = some ⟨oc89,od89,.func (PySem.W.fnOf "_law_done" "_law_done" (defArgs s__law_done) (defBody s__law_done) (defScope s__law_done) .none kV89 dc89 pm89 an89 cd89 ct89),sl89⟩) (c89:PySem.W.codeIn K cd89 "_law_done" = true) (k89:PySem.W.keepIn K (.ref f89) = true)
  (a90:PySem.W.nsIn K mainGlobals "_law_words" = some (some (.ref f90)))
  (l90:K.lookup f90 = some ⟨oc90,od90,.func (PySem.W.fnOf "_law_words" "_law_words" (defArgs s__law_words) (defBody s__law_words) (defScope s__law_words) .none kV90 dc90 pm90 an90 cd90 ct90),sl90⟩) (c90:PySem.W.codeIn K cd90 "_law_words" = true) (k90:PySem.W.keepIn K (.ref f90) = true)
  (a91:PySem.W.nsIn K mainGlobals "_law_same" = some (some (.ref f91)))
  (l91:K.lookup f91 = some ⟨oc91,od91,.func (PySem.W.fnOf "_law_same" "_law_same" (defArgs s__law_same) (defBody s__law_same) (defScope s__law_same) .none kV91 dc91 pm91 an91 cd91 ct91),sl91⟩) (c91:PySem.W.codeIn K cd91 "_law_same" = true) (k91:PySem.W.keepIn K (.ref f91) = true)
  (a92:PySem.W.nsIn K mainGlobals "_law_rows" = some (some (.ref f92)))
  (l92:K.lookup f92 = some ⟨oc92,od92,.func (PySem.W.fnOf "_law_rows" "_law_rows" (defArgs s__law_rows) (defBody s__law_rows) (defScope s__law_rows) .none kV92 dc92 pm92 an92 cd92 ct92),sl92⟩) (c92:PySem.W.codeIn K cd92 "_law_rows" = true) (k92:PySem.W.keepIn K (.ref f92) = true)
  (a93:PySem.W.nsIn K mainGlobals "_law_due" = some (some (.ref f93)))
  (l93:K.lookup f93 = some ⟨oc93,od93,.func (PySem.W.fnOf "_law_due" "_law_due" (defArgs s__law_due) (defBody s__law_due) (defScope s__law_due) .none kV93 dc93 pm93 an93 cd93 ct93),sl93⟩) (c93:PySem.W.codeIn K cd93 "_law_due" = true) (k93:PySem.W.keepIn K (.ref f93) = true)
  (a94:PySem.W.nsIn K mainGlobals "_law_run" = some (some (.ref f94)))
  (l94:K.lookup f94 = some ⟨oc94,od94,.func (PySem.W.fnOf "_law_run" "_law_run" (defArgs s__law_run) (defBody s__law_run) (defScope s__law_run) .none kV94 dc94 pm94 an94 cd94 ct94),sl94⟩) (c94:PySem.W.codeIn K cd94 "_law_run" = true) (k94:PySem.W.keepIn K (.ref f94) = true)
  (a95:PySem.W.nsIn K mainGlobals "law" = some (some (.ref f95)))
  (l95:K.lookup f95 = some ⟨oc95,od95,.func (PySem.W.fnOf "law" "law" (defArgs s_law) (defBody s_law) (defScope s_law) .none kV95 dc95 pm95 an95 cd95 ct95),sl95⟩) (c95:PySem.W.codeIn K cd95 "law" = true) (k95:PySem.W.keepIn K (.ref f95) = true)
  (aC_Set:PySem.W.nsIn K mainGlobals "Set" = some (some (.ref c_Set))) (pg_Set:PySem.W.plainGet K c_Set Str.empty = true) (hd_Set:PySem.W.hasDictIn K c_Set = true) (po_Set:PySem.W.plainOver K c_Set = true) (sa_Set:PySem.W.findIn K (.ref c_Set) "__setattr__" = some (some (.builtin "object.__setattr__")))
  (mk_Set:PySem.W.makesIn K c_Set = true) (kc_Set:PySem.W.keepIn K (.ref c_Set) = true)
  (na_Set_goal:PySem.W.findIn K (.ref c_Set) "goal" = some none)
  (na_Set_bits:PySem.W.findIn K (.ref c_Set) "bits" = some none)
  (aC_Copy:PySem.W.nsIn K mainGlobals "Copy" = some (some (.ref c_Copy))) (pg_Copy:PySem.W.plainGet K c_Copy Str.empty = true) (hd_Copy:PySem.W.hasDictIn K c_Copy = true) (po_Copy:PySem.W.plainOver K c_Copy = true) (sa_Copy:PySem.W.findIn K (.ref c_Copy) "__setattr__" = some (some (.builtin "object.__setattr__")))
  (mk_Copy:PySem.W.makesIn K c_Copy = true) (kc_Copy:PySem.W.keepIn K (.ref c_Copy) = true)
  (na_Copy_goal:PySem.W.findIn K (.ref c_Copy) "goal" = some none)
  (na_Copy_one:PySem.W.findIn K (.ref c_Copy) "one" = some none)
  (aC_Sum:PySem.W.nsIn K mainGlobals "Sum" = some (some (.ref c_Sum))) (pg_Sum:PySem.W.plainGet K c_Sum Str.empty = true) (hd_Sum:PySem.W.hasDictIn K c_Sum = true) (po_Sum:PySem.W.plainOver K c_Sum = true) (sa_Sum:PySem.W.findIn K (.ref c_Sum) "__setattr__" = some (some (.builtin "object.__setattr__")))
  (mk_Sum:PySem.W.makesIn K c_Sum = true) (kc_Sum:PySem.W.keepIn K (.ref c_Sum) = true)
  (na_Sum_goal:PySem.W.findIn K (.ref c_Sum) "goal" = some none)
  (na_Sum_carry:PySem.W.findIn K (.ref c_Sum) "carry" = some none)
  (na_Sum_one:PySem.W.findIn K (.ref c_Sum) "one" = some none)
  (na_Sum_other:PySem.W.findIn K (.ref c_Sum) "other" = some none)
  (aC_Gap:PySem.W.nsIn K mainGlobals "Gap" = some (some (.ref c_Gap))) (pg_Gap:PySem.W.plainGet K c_Gap Str.empty = true) (hd_Gap:PySem.W.hasDictIn K c_Gap = true) (po_Gap:PySem.W.plainOver K c_Gap = true) (sa_Gap:PySem.W.findIn K (.ref c_Gap) "__setattr__" = some (some (.builtin "object.__setattr__")))
  (mk_Gap:PySem.W.makesIn K c_Gap = true) (kc_Gap:PySem.W.keepIn K (.ref c_Gap) = true)
  (na_Gap_goal:PySem.W.findIn K (.ref c_Gap) "goal" = some none)
  (na_Gap_carry:PySem.W.findIn K (.ref c_Gap) "carry" = some none)
  (na_Gap_one:PySem.W.findIn K (.ref c_Gap) "one" = some none)
  (na_Gap_other:PySem.W.findIn K (.ref c_Gap) "other" = some none)
  (aC_Low:PySem.W.nsIn K mainGlobals "Low" = some (some (.ref c_Low))) (pg_Low:PySem.W.plainGet K c_Low Str.empty = true) (hd_Low:PySem.W.hasDictIn K c_Low = true) (po_Low:PySem.W.plainOver K c_Low = true) (sa_Low:PySem.W.findIn K (.ref c_Low) "__setattr__" = some (some (.builtin "object.__setattr__")))
  (mk_Low:PySem.W.makesIn K c_Low = true) (kc_Low:PySem.W.keepIn K (.ref c_Low) = true)
  (na_Low_goal:PySem.W.findIn K (.ref c_Low) "goal" = some none)
  (na_Low_one:PySem.W.findIn K (.ref c_Low) "one" = some none)
  (na_Low_other:PySem.W.findIn K (.ref c_Low) "other" = some none)
  (aC_High:PySem.W.nsIn K mainGlobals "High" = some (some (.ref c_High))) (pg_High:PySem.W.plainGet K c_High Str.empty = true) (hd_High:PySem.W.hasDictIn K c_High = true) (po_High:PySem.W.plainOver K c_High = true) (sa_High:PySem.W.findIn K (.ref c_High) "__setattr__" = some (some (.builtin "object.__setattr__")))
  (mk_High:PySem.W.makesIn K c_High = true) (kc_High:PySem.W.keepIn K (.ref c_High) = true)
  (na_High_goal:PySem.W.findIn K (.ref c_High) "goal" = some none)
  (na_High_one:PySem.W.findIn K (.ref c_High) "one" = some none)
  (na_High_other:PySem.W.findIn K (.ref c_High) "other" = some none)
  (aC_Left:PySem.W.nsIn K mainGlobals "Left" = some (some (.ref c_Left))) (pg_Left:PySem.W.plainGet K c_Left Str.empty = true) (hd_Left:PySem.W.hasDictIn K c_Left = true) (po_Left:PySem.W.plainOver K c_Left = true) (sa_Left:PySem.W.findIn K (.ref c_Left) "__setattr__" = some (some (.builtin "object.__setattr__")))
  (mk_Left:PySem.W.makesIn K c_Left = true) (kc_Left:PySem.W.keepIn K (.ref c_Left) = true)
  (na_Left_goal:PySem.W.findIn K (.ref c_Left) "goal" = some none)
  (na_Left_one:PySem.W.findIn K (.ref c_Left) "one" = some none)
  (na_Left_k:PySem.W.findIn K (.ref c_Left) "k" = some none)
  (aC_Right:PySem.W.nsIn K mainGlobals "Right" = some (some (.ref c_Right))) (pg_Right:PySem.W.plainGet K c_Right Str.empty = true) (hd_Right:PySem.W.hasDictIn K c_Right = true) (po_Right:PySem.W.plainOver K c_Right = true) (sa_Right:PySem.W.findIn K (.ref c_Right) "__setattr__" = some (some (.builtin "object.__setattr__")))
  (mk_Right:PySem.W.makesIn K c_Right = true) (kc_Right:PySem.W.keepIn K (.ref c_Right) = true)
  (na_Right_goal:PySem.W.findIn K (.ref c_Right) "goal" = some none)
  (na_Right_one:PySem.W.findIn K (.ref c_Right) "one" = some none)
  (na_Right_k:PySem.W.findIn K (.ref c_Right) "k" = some none)
  (aC_Slide:PySem.W.nsIn K mainGlobals "Slide" = some (some (.ref c_Slide))) (pg_Slide:PySem.W.plainGet K c_Slide Str.empty = true) (hd_Slide:PySem.W.hasDictIn K c_Slide = true) (po_Slide:PySem.W.plainOver K c_Slide = true) (sa_Slide:PySem.W.findIn K (.ref c_Slide) "__setattr__" = some (some (.builtin "object.__setattr__")))
  (mk_Slide:PySem.W.makesIn K c_Slide = true) (kc_Slide:PySem.W.keepIn K (.ref c_Slide) = true)
  (na_Slide_goal:PySem.W.findIn K (.ref c_Slide) "goal" = some none)
  (na_Slide_one:PySem.W.findIn K (.ref c_Slide) "one" = some none)
  (na_Slide_k:PySem.W.findIn K (.ref c_Slide) "k" = some none)
  (aC_And:PySem.W.nsIn K mainGlobals "And" = some (some (.ref c_And))) (pg_And:PySem.W.plainGet K c_And Str.empty = true) (hd_And:PySem.W.hasDictIn K c_And = true) (po_And:PySem.W.plainOver K c_And = true) (sa_And:PySem.W.findIn K (.ref c_And) "__setattr__" = some (some (.builtin "object.__setattr__")))
  (mk_And:PySem.W.makesIn K c_And = true) (kc_And:PySem.W.keepIn K (.ref c_And) = true)
  (na_And_goal:PySem.W.findIn K (.ref c_And) "goal" = some none)
  (na_And_one:PySem.W.findIn K (.ref c_And) "one" = some none)
  (na_And_other:PySem.W.findIn K (.ref c_And) "other" = some none)
  (aC_Or:PySem.W.nsIn K mainGlobals "Or" = some (some (.ref c_Or))) (pg_Or:PySem.W.plainGet K c_Or Str.empty = true) (hd_Or:PySem.W.hasDictIn K c_Or = true) (po_Or:PySem.W.plainOver K c_Or = true) (sa_Or:PySem.W.findIn K (.ref c_Or) "__setattr__" = some (some (.builtin "object.__setattr__")))
  (mk_Or:PySem.W.makesIn K c_Or = true) (kc_Or:PySem.W.keepIn K (.ref c_Or) = true)
  (na_Or_goal:PySem.W.findIn K (.ref c_Or) "goal" = some none)
  (na_Or_one:PySem.W.findIn K (.ref c_Or) "one" = some none)
  (na_Or_other:PySem.W.findIn K (.ref c_Or) "other" = some none)
  (aC_Unlike:PySem.W.nsIn K mainGlobals "Unlike" = some (some (.ref c_Unlike))) (pg_Unlike:PySem.W.plainGet K c_Unlike Str.empty = true) (hd_Unlike:PySem.W.hasDictIn K c_Unlike = true) (po_Unlike:PySem.W.plainOver K c_Unlike = true) (sa_Unlike:PySem.W.findIn K (.ref c_Unlike) "__setattr__" = some (some (.builtin "object.__setattr__")))
  (mk_Unlike:PySem.W.makesIn K c_Unlike = true) (kc_Unlike:PySem.W.keepIn K (.ref c_Unlike) = true)
  (na_Unlike_goal:PySem.W.findIn K (.ref c_Unlike) "goal" = some none)
  (na_Unlike_one:PySem.W.findIn K (.ref c_Unlike) "one" = some none)
  (na_Unlike_other:PySem.W.findIn K (.ref c_Unlike) "other" = some none)
  (aC_Under:PySem.W.nsIn K mainGlobals "Under" = some (some (.ref c_Under))) (pg_Under:PySem.W.plainGet K c_Under Str.empty = true) (hd_Under:PySem.W.hasDictIn K c_Under = true) (po_Under:PySem.W.plainOver K c_Under = true) (sa_Under:PySem.W.findIn K (.ref c_Under) "__setattr__" = some (some (.builtin "object.__setattr__")))
  (mk_Under:PySem.W.makesIn K c_Under = true) (kc_Under:PySem.W.keepIn K (.ref c_Under) = true)
  (na_Under_goal:PySem.W.findIn K (.ref c_Under) "goal" = some none)
  (na_Under_one:PySem.W.findIn K (.ref c_Under) "one" = some none)
  (na_Under_other:PySem.W.findIn K (.ref c_Under) "other" = some none)
  (aC_Pick:PySem.W.nsIn K mainGlobals "Pick" = some (some (.ref c_Pick))) (pg_Pick:PySem.W.plainGet K c_Pick Str.empty = true) (hd_Pick:PySem.W.hasDictIn K c_Pick = true) (po_Pick:PySem.W.plainOver K c_Pick = true) (sa_Pick:PySem.W.findIn K (.ref c_Pick) "__setattr__" = some (some (.builtin "object.__setattr__")))
  (mk_Pick:PySem.W.makesIn K c_Pick = true) (kc_Pick:PySem.W.keepIn K (.ref c_Pick) = true)
  (na_Pick_goal:PySem.W.findIn K (.ref c_Pick) "goal" = some none)
  (na_Pick_by:PySem.W.findIn K (.ref c_Pick) "by" = some none)
  (na_Pick_one:PySem.W.findIn K (.ref c_Pick) "one" = some none)
  (na_Pick_other:PySem.W.findIn K (.ref c_Pick) "other" = some none)
  (aC_Mark:PySem.W.nsIn K mainGlobals "Mark" = some (some (.ref c_Mark))) (pg_Mark:PySem.W.plainGet K c_Mark Str.empty = true) (hd_Mark:PySem.W.hasDictIn K c_Mark = true) (po_Mark:PySem.W.plainOver K c_Mark = true) (sa_Mark:PySem.W.findIn K (.ref c_Mark) "__setattr__" = some (some (.builtin "object.__setattr__")))
  (mk_Mark:PySem.W.makesIn K c_Mark = true) (kc_Mark:PySem.W.keepIn K (.ref c_Mark) = true)
  (na_Mark_line:PySem.W.findIn K (.ref c_Mark) "line" = some none)
  (na_Mark_mark:PySem.W.findIn K (.ref c_Mark) "mark" = some none)
  (na_Mark_by:PySem.W.findIn K (.ref c_Mark) "by" = some none)
  (aC_Turns:PySem.W.nsIn K mainGlobals "Turns" = some (some (.ref c_Turns))) (pg_Turns:PySem.W.plainGet K c_Turns Str.empty = true) (hd_Turns:PySem.W.hasDictIn K c_Turns = true) (po_Turns:PySem.W.plainOver K c_Turns = true) (sa_Turns:PySem.W.findIn K (.ref c_Turns) "__setattr__" = some (some (.builtin "object.__setattr__")))
  (aC_Step:PySem.W.nsIn K mainGlobals "Step" = some (some (.ref c_Step))) (pg_Step:PySem.W.plainGet K c_Step Str.empty = true) (hd_Step:PySem.W.hasDictIn K c_Step = true) (po_Step:PySem.W.plainOver K c_Step = true) (sa_Step:PySem.W.findIn K (.ref c_Step) "__setattr__" = some (some (.builtin "object.__setattr__")))
  {dW_ROW_WORDS:Option Addr} {nW_ROW_WORDS:Nat} {sW_ROW_WORDS:Array (Option Value)} {u0_ROW_WORDS u1_ROW_WORDS u2_ROW_WORDS u3_ROW_WORDS u4_ROW_WORDS u5_ROW_WORDS u6_ROW_WORDS u7_ROW_WORDS u8_ROW_WORDS u9_ROW_WORDS u10_ROW_WORDS u11_ROW_WORDS u12_ROW_WORDS u13_ROW_WORDS u14_ROW_WORDS u15_ROW_WORDS:Tok} (aW_ROW_WORDS:PySem.W.nsIn K mainGlobals "ROW_WORDS" = some (some (.ref c_ROW_WORDS))) (lW_ROW_WORDS:K.lookup c_ROW_WORDS = some ⟨.type "tuple",dW_ROW_WORDS,.seq #[.str "set" u0_ROW_WORDS,.str "copy" u1_ROW_WORDS,.str "sum" u2_ROW_WORDS,.str "gap" u3_ROW_WORDS,.str "low" u4_ROW_WORDS,.str "high" u5_ROW_WORDS,.str "left" u6_ROW_WORDS,.str "right" u7_ROW_WORDS,.str "slide" u8_ROW_WORDS,.str "and" u9_ROW_WORDS,.str "or" u10_ROW_WORDS,.str "unlike" u11_ROW_WORDS,.str "under" u12_ROW_WORDS,.str "pick" u13_ROW_WORDS,.str "mark" u14_ROW_WORDS,.str "turns" u15_ROW_WORDS] nW_ROW_WORDS,sW_ROW_WORDS⟩)
  {dW_MARKS:Option Addr} {nW_MARKS:Nat} {sW_MARKS:Array (Option Value)} {u0_MARKS u1_MARKS u2_MARKS:Tok} (aW_MARKS:PySem.W.nsIn K mainGlobals "MARKS" = some (some (.ref c_MARKS))) (lW_MARKS:K.lookup c_MARKS = some ⟨.type "tuple",dW_MARKS,.seq #[.str "round" u0_MARKS,.str "stop" u1_MARKS,.str "nothing" u2_MARKS] nW_MARKS,sW_MARKS⟩)
  {tS_LETTERS:Tok} (aS_LETTERS:PySem.W.nsIn K mainGlobals "LETTERS" = some (some (.str "abcdefghijklmnopqrstuvwxyz" tS_LETTERS)))
  {tS_LETTERS_AND_FIGURES:Tok} (aS_LETTERS_AND_FIGURES:PySem.W.nsIn K mainGlobals "LETTERS_AND_FIGURES" = some (some (.str "abcdefghijklmnopqrstuvwxyz0123456789" tS_LETTERS_AND_FIGURES)))
  {tN_MOST_DONE:Tok} (aN_MOST_DONE:PySem.W.nsIn K mainGlobals "MOST_DONE" = some (some (.int 1000000 tN_MOST_DONE)))
  (kf_og:PySem.W.specialIn K (.builtin "object.__class__") "__get__" = some (some (.builtin "getset_descriptor.__get__")))
  (kf_ot:PySem.W.takesIn K (.builtin "object.__class__") = some true)
  (kf_kr_kinds:kindsAll K [c_Set,c_Copy,c_Sum,c_Gap,c_Low,c_High,c_Left,c_Right,c_Slide,c_And,c_Or,c_Unlike,c_Under,c_Pick,c_Mark,c_Turns] c_Step = true)
  (z_isinstance:PySem.W.nsIn K mainGlobals "isinstance" = some none) (z_int:PySem.W.nsIn K mainGlobals "int" = some none) (z_bool:PySem.W.nsIn K mainGlobals "bool" = some none) (z_str:PySem.W.nsIn K mainGlobals "str" = some none) (z_list:PySem.W.nsIn K mainGlobals "list" = some none) (z_tuple:PySem.W.nsIn K mainGlobals "tuple" = some none) (z_dict:PySem.W.nsIn K mainGlobals "dict" = some none) (z_len:PySem.W.nsIn K mainGlobals "len" = some none) (z_max:PySem.W.nsIn K mainGlobals "max" = some none) (z_min:PySem.W.nsIn K mainGlobals "min" = some none) (z_range:PySem.W.nsIn K mainGlobals "range" = some none) (z_all:PySem.W.nsIn K mainGlobals "all" = some none) (z_sum:PySem.W.nsIn K mainGlobals "sum" = some none) (z_sorted:PySem.W.nsIn K mainGlobals "sorted" = some none) :
  ∃ fd:FuncData,(∀ (s:Shared) (v:Value),BindsTo s fd ⟨[v],[]⟩ [("_law_script",v)])∧∀ base:Heap,K.In base→base.Ns mainGlobals mg→FnOk l.prog w K mg base CX0 10 fa fd ["_law_script"] ((spLaw K)):=by
 have e:=hfa.symm.trans (PySem.W.mg_of X G a95)
 cases e
 have T:Txt K mg ⟨c_Set,c_Copy,c_Sum,c_Gap,c_Low,c_High,c_Left,c_Right,c_Slide,c_And,c_Or,c_Unlike,c_Under,c_Pick,c_Mark,c_Turns,c_Step,c_ROW_WORDS,c_MARKS⟩:=⟨PySem.W.mg_none_of X G z_isinstance,PySem.W.mg_none_of X G z_int,PySem.W.mg_none_of X G z_bool,PySem.W.mg_none_of X G z_str,PySem.W.mg_none_of X G z_list,PySem.W.mg_none_of X G z_tuple,PySem.W.mg_none_of X G z_dict,PySem.W.mg_none_of X G z_len,PySem.W.mg_none_of X G z_max,PySem.W.mg_none_of X G z_min,PySem.W.mg_none_of X G z_range,PySem.W.mg_none_of X G z_all,PySem.W.mg_none_of X G z_sum,PySem.W.mg_none_of X G z_sorted,PySem.W.mg_of X G aC_Set,⟨pg_Set,hd_Set,po_Set,sa_Set⟩,na_Set_goal,na_Set_bits,PySem.W.mg_of X G aC_Copy,⟨pg_Copy,hd_Copy,po_Copy,sa_Copy⟩,na_Copy_goal,na_Copy_one,PySem.W.mg_of X G aC_Sum,⟨pg_Sum,hd_Sum,po_Sum,sa_Sum⟩,na_Sum_goal,na_Sum_carry,na_Sum_one,na_Sum_other,PySem.W.mg_of X G aC_Gap,⟨pg_Gap,hd_Gap,po_Gap,sa_Gap⟩,na_Gap_goal,na_Gap_carry,na_Gap_one,na_Gap_other,PySem.W.mg_of X G aC_Low,⟨pg_Low,hd_Low,po_Low,sa_Low⟩,na_Low_goal,na_Low_one,na_Low_other,PySem.W.mg_of X G aC_High,⟨pg_High,hd_High,po_High,sa_High⟩,na_High_goal,na_High_one,na_High_other,PySem.W.mg_of X G aC_Left,⟨pg_Left,hd_Left,po_Left,sa_Left⟩,na_Left_goal,na_Left_one,na_Left_k,PySem.W.mg_of X G aC_Right,⟨pg_Right,hd_Right,po_Right,sa_Right⟩,na_Right_goal,na_Right_one,na_Right_k,PySem.W.mg_of X G aC_Slide,⟨pg_Slide,hd_Slide,po_Slide,sa_Slide⟩,na_Slide_goal,na_Slide_one,na_Slide_k,PySem.W.mg_of X G aC_And,⟨pg_And,hd_And,po_And,sa_And⟩,na_And_goal,na_And_one,na_And_other,PySem.W.mg_of X G aC_Or,⟨pg_Or,hd_Or,po_Or,sa_Or⟩,na_Or_goal,na_Or_one,na_Or_other,PySem.W.mg_of X G aC_Unlike,⟨pg_Unlike,hd_Unlike,po_Unlike,sa_Unlike⟩,na_Unlike_goal,na_Unlike_one,na_Unlike_other,PySem.W.mg_of X G aC_Under,⟨pg_Under,hd_Under,po_Under,sa_Under⟩,na_Under_goal,na_Under_one,na_Under_other,PySem.W.mg_of X G aC_Pick,⟨pg_Pick,hd_Pick,po_Pick,sa_Pick⟩,na_Pick_goal,na_Pick_by,na_Pick_one,na_Pick_other,PySem.W.mg_of X G aC_Mark,⟨pg_Mark,hd_Mark,po_Mark,sa_Mark⟩,na_Mark_line,na_Mark_mark,na_Mark_by,PySem.W.mg_of X G aC_Turns,⟨pg_Turns,hd_Turns,po_Turns,sa_Turns⟩,PySem.W.mg_of X G aC_Step,⟨pg_Step,hd_Step,po_Step,sa_Step⟩,PySem.W.mg_of X G aW_ROW_WORDS,fun H=>.inr ⟨_,_,_,lW_ROW_WORDS,rfl,rfl,(by show 16≤sizeLine; decide),.cons ⟨_,rfl⟩ (.cons ⟨_,rfl⟩ (.cons ⟨_,rfl⟩ (.cons ⟨_,rfl⟩ (.cons ⟨_,rfl⟩ (.cons ⟨_,rfl⟩ (.cons ⟨_,rfl⟩ (.cons ⟨_,rfl⟩ (.cons ⟨_,rfl⟩ (.cons ⟨_,rfl⟩ (.cons ⟨_,rfl⟩ (.cons ⟨_,rfl⟩ (.cons ⟨_,rfl⟩ (.cons ⟨_,rfl⟩ (.cons ⟨_,rfl⟩ (.cons ⟨_,rfl⟩ (.nil))))))))))))))))⟩,PySem.W.mg_of X G aW_MARKS,fun H=>.inr ⟨_,_,_,lW_MARKS,rfl,rfl,(by show 3≤sizeLine; decide),.cons ⟨_,rfl⟩ (.cons ⟨_,rfl⟩ (.cons ⟨_,rfl⟩ (.nil)))⟩,⟨_,PySem.W.mg_of X G aS_LETTERS⟩,⟨_,PySem.W.mg_of X G aS_LETTERS_AND_FIGURES⟩,⟨_,PySem.W.mg_of X G aN_MOST_DONE⟩,kf_og,kf_ot,kf_kr_kinds⟩
 have F1:=fun_mk (st:=s_is_whole) l1 c1 k1
 have b1:=F1.binds (ps:=["thing"]) fun _ _ _ _ _ _ us hl=>match us,hl with | [_],_=>rfl
 have F2:=fun_mk (st:=s_is_between) l2 c2 k2
 have b2:=F2.binds (ps:=["thing", "low", "high"]) fun _ _ _ _ _ _ us hl=>match us,hl with | [_,_,_],_=>rfl
 have F3:=fun_mk (st:=s_need_width) l3 c3 k3
 have b3:=F3.binds (ps:=["width"]) fun _ _ _ _ _ _ us hl=>match us,hl with | [_],_=>rfl
 have F4:=fun_mk (st:=s_is_word) l4 c4 k4
 have b4:=F4.binds (ps:=["width", "thing"]) fun _ _ _ _ _ _ us hl=>match us,hl with | [_,_],_=>rfl
 have F5:=fun_mk (st:=s_sum_of) l5 c5 k5
 have b5:=F5.binds (ps:=["width", "a", "b"]) fun _ _ _ _ _ _ us hl=>match us,hl with | [_,_,_],_=>rfl
 have F6:=fun_mk (st:=s_gap_of) l6 c6 k6
 have b6:=F6.binds (ps:=["width", "a", "b"]) fun _ _ _ _ _ _ us hl=>match us,hl with | [_,_,_],_=>rfl
 have F7:=fun_mk (st:=s_low_product) l7 c7 k7
 have b7:=F7.binds (ps:=["width", "a", "b"]) fun _ _ _ _ _ _ us hl=>match us,hl with | [_,_,_],_=>rfl
 have F8:=fun_mk (st:=s_high_product) l8 c8 k8
 have b8:=F8.binds (ps:=["width", "a", "b"]) fun _ _ _ _ _ _ us hl=>match us,hl with | [_,_,_],_=>rfl
 have F9:=fun_mk (st:=s_left) l9 c9 k9
 have b9:=F9.binds (ps:=["width", "a", "k"]) fun _ _ _ _ _ _ us hl=>match us,hl with | [_,_,_],_=>rfl
 have F10:=fun_mk (st:=s_right) l10 c10 k10
 have b10:=F10.binds (ps:=["width", "a", "k"]) fun _ _ _ _ _ _ us hl=>match us,hl with | [_,_,_],_=>rfl
 have F11:=fun_mk (st:=s_slide) l11 c11 k11
 have b11:=F11.binds (ps:=["width", "a", "k"]) fun _ _ _ _ _ _ us hl=>match us,hl with | [_,_,_],_=>rfl
 have F12:=fun_mk (st:=s_row_words) l12 c12 k12
 have b12:=F12.binds (ps:=[]) fun _ _ _ _ _ _ us hl=>match us,hl with | [],_=>rfl
 have F13:=fun_mk (st:=s_is_register) l13 c13 k13
 have b13:=F13.binds (ps:=["thing"]) fun _ _ _ _ _ _ us hl=>match us,hl with | [_],_=>rfl
 have F14:=fun_mk (st:=s_are_registers) l14 c14 k14
 have b14:=F14.binds (ps:=["things"]) fun _ _ _ _ _ _ us hl=>match us,hl with | [_],_=>rfl
 have F15:=fun_mk (st:=s_Set_word) l15 c15 k15
 have b15:=F15.binds (ps:=["self"]) fun _ _ _ _ _ _ us hl=>match us,hl with | [_],_=>rfl
 have F16:=fun_mk (st:=s_Copy_word) l16 c16 k16
 have b16:=F16.binds (ps:=["self"]) fun _ _ _ _ _ _ us hl=>match us,hl with | [_],_=>rfl
 have F17:=fun_mk (st:=s_Sum_word) l17 c17 k17
 have b17:=F17.binds (ps:=["self"]) fun _ _ _ _ _ _ us hl=>match us,hl with | [_],_=>rfl
 have F18:=fun_mk (st:=s_Gap_word) l18 c18 k18
 have b18:=F18.binds (ps:=["self"]) fun _ _ _ _ _ _ us hl=>match us,hl with | [_],_=>rfl
 have F19:=fun_mk (st:=s_Low_word) l19 c19 k19
 have b19:=F19.binds (ps:=["self"]) fun _ _ _ _ _ _ us hl=>match us,hl with | [_],_=>rfl
 have F20:=fun_mk (st:=s_High_word) l20 c20 k20
 have b20:=F20.binds (ps:=["self"]) fun _ _ _ _ _ _ us hl=>match us,hl with | [_],_=>rfl
 have F21:=fun_mk (st:=s_Left_word) l21 c21 k21
 have b21:=F21.binds (ps:=["self"]) fun _ _ _ _ _ _ us hl=>match us,hl with | [_],_=>rfl
 have F22:=fun_mk (st:=s_Right_word) l22 c22 k22
 have b22:=F22.binds (ps:=["self"]) fun _ _ _ _ _ _ us hl=>match us,hl with | [_],_=>rfl
 have F23:=fun_mk (st:=s_Slide_word) l23 c23 k23
 have b23:=F23.binds (ps:=["self"]) fun _ _ _ _ _ _ us hl=>match us,hl with | [_],_=>rfl
 have F24:=fun_mk (st:=s_And_word) l24 c24 k24
 have b24:=F24.binds (ps:=["self"]) fun _ _ _ _ _ _ us hl=>match us,hl with | [_],_=>rfl
 have F25:=fun_mk (st:=s_Or_word) l25 c25 k25
 have b25:=F25.binds (ps:=["self"]) fun _ _ _ _ _ _ us hl=>match us,hl with | [_],_=>rfl
 have F26:=fun_mk (st:=s_Unlike_word) l26 c26 k26
 have b26:=F26.binds (ps:=["self"]) fun _ _ _ _ _ _ us hl=>match us,hl with | [_],_=>rfl
 have F27:=fun_mk (st:=s_Under_word) l27 c27 k27
 have b27:=F27.binds (ps:=["self"]) fun _ _ _ _ _ _ us hl=>match us,hl with | [_],_=>rfl
 have F28:=fun_mk (st:=s_Pick_word) l28 c28 k28
 have b28:=F28.binds (ps:=["self"]) fun _ _ _ _ _ _ us hl=>match us,hl with | [_],_=>rfl
 have F29:=fun_mk (st:=s_Mark_word) l29 c29 k29
 have b29:=F29.binds (ps:=["self"]) fun _ _ _ _ _ _ us hl=>match us,hl with | [_],_=>rfl
 have F30:=fun_mk (st:=s_Set___init__) l30 c30 k30
 have b30:=F30.binds (ps:=["self", "goal", "bits"]) fun _ _ _ _ _ _ us hl=>match us,hl with | [_,_,_],_=>rfl
 have F31:=fun_mk (st:=s_Copy___init__) l31 c31 k31
 have b31:=F31.binds (ps:=["self", "goal", "one"]) fun _ _ _ _ _ _ us hl=>match us,hl with | [_,_,_],_=>rfl
 have F32:=fun_mk (st:=s_Carrying___init__) l32 c32 k32
 have b32:=F32.binds (ps:=["self", "goal", "carry", "one", "other"]) fun _ _ _ _ _ _ us hl=>match us,hl with | [_,_,_,_,_],_=>rfl
 have F33:=fun_mk (st:=s_Joining___init__) l33 c33 k33
 have b33:=F33.binds (ps:=["self", "goal", "one", "other"]) fun _ _ _ _ _ _ us hl=>match us,hl with | [_,_,_,_],_=>rfl
 have F34:=fun_mk (st:=s_Moving___init__) l34 c34 k34
 have b34:=F34.binds (ps:=["self", "goal", "one", "k"]) fun _ _ _ _ _ _ us hl=>match us,hl with | [_,_,_,_],_=>rfl
 have F35:=fun_mk (st:=s_Pick___init__) l35 c35 k35
 have b35:=F35.binds (ps:=["self", "goal", "by", "one", "other"]) fun _ _ _ _ _ _ us hl=>match us,hl with | [_,_,_,_,_],_=>rfl
 have F36:=fun_mk (st:=s_Mark___init__) l36 c36 k36
 have b36:=F36.binds (ps:=["self", "line", "mark", "by"]) fun _ _ _ _ _ _ us hl=>match us,hl with | [_,_,_,_],_=>rfl
 have F37:=fun_mk (st:=s_Set_told) l37 c37 k37
 have b37:=F37.binds (ps:=["self"]) fun _ _ _ _ _ _ us hl=>match us,hl with | [_],_=>rfl
 have F38:=fun_mk (st:=s_Copy_told) l38 c38 k38
 have b38:=F38.binds (ps:=["self"]) fun _ _ _ _ _ _ us hl=>match us,hl with | [_],_=>rfl
 have F39:=fun_mk (st:=s_Carrying_told) l39 c39 k39
 have b39:=F39.binds (ps:=["self"]) fun _ _ _ _ _ _ us hl=>match us,hl with | [_],_=>rfl
 have F40:=fun_mk (st:=s_Joining_told) l40 c40 k40
 have b40:=F40.binds (ps:=["self"]) fun _ _ _ _ _ _ us hl=>match us,hl with | [_],_=>rfl
 have F41:=fun_mk (st:=s_Moving_told) l41 c41 k41
 have b41:=F41.binds (ps:=["self"]) fun _ _ _ _ _ _ us hl=>match us,hl with | [_],_=>rfl
 have F42:=fun_mk (st:=s_Pick_told) l42 c42 k42
 have b42:=F42.binds (ps:=["self"]) fun _ _ _ _ _ _ us hl=>match us,hl with | [_],_=>rfl
 have F43:=fun_mk (st:=s_Mark_told) l43 c43 k43
 have b43:=F43.binds (ps:=["self"]) fun _ _ _ _ _ _ us hl=>match us,hl with | [_],_=>rfl
 have F44:=fun_mk (st:=s_Sum_reckoned) l44 c44 k44
 have b44:=F44.binds (ps:=["self", "width", "a", "b"]) fun _ _ _ _ _ _ us hl=>match us,hl with | [_,_,_,_],_=>rfl
 have F45:=fun_mk (st:=s_Gap_reckoned) l45 c45 k45
 have b45:=F45.binds (ps:=["self", "width", "a", "b"]) fun _ _ _ _ _ _ us hl=>match us,hl with | [_,_,_,_],_=>rfl
 have F46:=fun_mk (st:=s_Low_reckoned) l46 c46 k46
 have b46:=F46.binds (ps:=["self", "width", "a", "b"]) fun _ _ _ _ _ _ us hl=>match us,hl with | [_,_,_,_],_=>rfl
 have F47:=fun_mk (st:=s_High_reckoned) l47 c47 k47
 have b47:=F47.binds (ps:=["self", "width", "a", "b"]) fun _ _ _ _ _ _ us hl=>match us,hl with | [_,_,_,_],_=>rfl
 have F48:=fun_mk (st:=s_And_reckoned) l48 c48 k48
 have b48:=F48.binds (ps:=["self", "width", "a", "b"]) fun _ _ _ _ _ _ us hl=>match us,hl with | [_,_,_,_],_=>rfl
 have F49:=fun_mk (st:=s_Or_reckoned) l49 c49 k49
 have b49:=F49.binds (ps:=["self", "width", "a", "b"]) fun _ _ _ _ _ _ us hl=>match us,hl with | [_,_,_,_],_=>rfl
 have F50:=fun_mk (st:=s_Unlike_reckoned) l50 c50 k50
 have b50:=F50.binds (ps:=["self", "width", "a", "b"]) fun _ _ _ _ _ _ us hl=>match us,hl with | [_,_,_,_],_=>rfl
 have F51:=fun_mk (st:=s_Under_reckoned) l51 c51 k51
 have b51:=F51.binds (ps:=["self", "width", "a", "b"]) fun _ _ _ _ _ _ us hl=>match us,hl with | [_,_,_,_],_=>rfl
 have F52:=fun_mk (st:=s_Left_moved) l52 c52 k52
 have b52:=F52.binds (ps:=["self", "width", "a"]) fun _ _ _ _ _ _ us hl=>match us,hl with | [_,_,_],_=>rfl
 have F53:=fun_mk (st:=s_Right_moved) l53 c53 k53
 have b53:=F53.binds (ps:=["self", "width", "a"]) fun _ _ _ _ _ _ us hl=>match us,hl with | [_,_,_],_=>rfl
 have F54:=fun_mk (st:=s_Slide_moved) l54 c54 k54
 have b54:=F54.binds (ps:=["self", "width", "a"]) fun _ _ _ _ _ _ us hl=>match us,hl with | [_,_,_],_=>rfl
 have F55:=fun_mk (st:=s_Set_good_at) l55 c55 k55
 have b55:=F55.binds (ps:=["self", "width"]) fun _ _ _ _ _ _ us hl=>match us,hl with | [_,_],_=>rfl
 have F56:=fun_mk (st:=s_Copy_good_at) l56 c56 k56
 have b56:=F56.binds (ps:=["self", "width"]) fun _ _ _ _ _ _ us hl=>match us,hl with | [_,_],_=>rfl
 have F57:=fun_mk (st:=s_Carrying_good_at) l57 c57 k57
 have b57:=F57.binds (ps:=["self", "width"]) fun _ _ _ _ _ _ us hl=>match us,hl with | [_,_],_=>rfl
 have F58:=fun_mk (st:=s_Joining_good_at) l58 c58 k58
 have b58:=F58.binds (ps:=["self", "width"]) fun _ _ _ _ _ _ us hl=>match us,hl with | [_,_],_=>rfl
 have F59:=fun_mk (st:=s_Moving_good_at) l59 c59 k59
 have b59:=F59.binds (ps:=["self", "width"]) fun _ _ _ _ _ _ us hl=>match us,hl with | [_,_],_=>rfl
 have F60:=fun_mk (st:=s_Pick_good_at) l60 c60 k60
 have b60:=F60.binds (ps:=["self", "width"]) fun _ _ _ _ _ _ us hl=>match us,hl with | [_,_],_=>rfl
 have F61:=fun_mk (st:=s_Mark_good_at) l61 c61 k61
 have b61:=F61.binds (ps:=["self", "width"]) fun _ _ _ _ _ _ us hl=>match us,hl with | [_,_],_=>rfl
 have F62:=fun_mk (st:=s_Set_act) l62 c62 k62
 have b62:=F62.binds (ps:=["self", "width", "words", "marks"]) fun _ _ _ _ _ _ us hl=>match us,hl with | [_,_,_,_],_=>rfl
 have F63:=fun_mk (st:=s_Copy_act) l63 c63 k63
 have b63:=F63.binds (ps:=["self", "width", "words", "marks"]) fun _ _ _ _ _ _ us hl=>match us,hl with | [_,_,_,_],_=>rfl
 have F64:=fun_mk (st:=s_Carrying_act) l64 c64 k64
 have b64:=F64.binds (ps:=["self", "width", "words", "marks"]) fun _ _ _ _ _ _ us hl=>match us,hl with | [_,_,_,_],_=>rfl
 have F65:=fun_mk (st:=s_Joining_act) l65 c65 k65
 have b65:=F65.binds (ps:=["self", "width", "words", "marks"]) fun _ _ _ _ _ _ us hl=>match us,hl with | [_,_,_,_],_=>rfl
 have F66:=fun_mk (st:=s_Moving_act) l66 c66 k66
 have b66:=F66.binds (ps:=["self", "width", "words", "marks"]) fun _ _ _ _ _ _ us hl=>match us,hl with | [_,_,_,_],_=>rfl
 have F67:=fun_mk (st:=s_Pick_act) l67 c67 k67
 have b67:=F67.binds (ps:=["self", "width", "words", "marks"]) fun _ _ _ _ _ _ us hl=>match us,hl with | [_,_,_,_],_=>rfl
 have F68:=fun_mk (st:=s_Mark_act) l68 c68 k68
 have b68:=F68.binds (ps:=["self", "width", "words", "marks"]) fun _ _ _ _ _ _ us hl=>match us,hl with | [_,_,_,_],_=>rfl
 have F69:=fun_mk (st:=s_is_good) l69 c69 k69
 have b69:=F69.binds (ps:=["width", "thing", "about"]) fun _ _ _ _ _ _ us hl=>match us,hl with | [_,_,_],_=>rfl
 have F70:=fun_mk (st:=s_place_behind) l70 c70 k70
 have b70:=F70.binds (ps:=["width", "steps", "place", "about"]) fun _ _ _ _ _ _ us hl=>match us,hl with | [_,_,_,_],_=>rfl
 have F71:=fun_mk (st:=s_count_words) l71 c71 k71
 have b71:=F71.binds (ps:=["steps", "times", "counts"]) fun _ _ _ _ _ _ us hl=>match us,hl with | [_,_,_],_=>rfl
 have F72:=fun_mk (st:=s_need_steps) l72 c72 k72
 have b72:=F72.binds (ps:=["width", "steps"]) fun _ _ _ _ _ _ us hl=>match us,hl with | [_,_],_=>rfl
 have F73:=fun_mk (st:=s_check_steps) l73 c73 k73
 have b73:=F73.binds (ps:=["width", "steps"]) fun _ _ _ _ _ _ us hl=>match us,hl with | [_,_],_=>rfl
 have F74:=fun_mk (st:=s_need_registers) l74 c74 k74
 have b74:=F74.binds (ps:=["width", "registers"]) fun _ _ _ _ _ _ us hl=>match us,hl with | [_,_],_=>rfl
 have F75:=fun_mk (st:=s_run_steps) l75 c75 k75
 have b75:=F75.binds (ps:=["width", "steps", "registers"]) fun _ _ _ _ _ _ us hl=>match us,hl with | [_,_,_],_=>rfl
 have F76:=fun_mk (st:=s__law_cell) l76 c76 k76
 have b76:=F76.binds (ps:=["_law_script", "_law_k"]) fun _ _ _ _ _ _ us hl=>match us,hl with | [_,_],_=>rfl
 have F77:=fun_mk (st:=s__law_begun) l77 c77 k77
 have b77:=F77.binds (ps:=["_law_cell_here"]) fun _ _ _ _ _ _ us hl=>match us,hl with | [_],_=>rfl
 have F78:=fun_mk (st:=s__law_draw) l78 c78 k78
 have b78:=F78.binds (ps:=["_law_state", "_law_many"]) fun _ _ _ _ _ _ us hl=>match us,hl with | [_,_],_=>rfl
 have F79:=fun_mk (st:=s__law_whole) l79 c79 k79
 have b79:=F79.binds (ps:=["_law_found"]) fun _ _ _ _ _ _ us hl=>match us,hl with | [_],_=>rfl
 have F80:=fun_mk (st:=s__law_word) l80 c80 k80
 have b80:=F80.binds (ps:=["_law_state", "_law_width"]) fun _ _ _ _ _ _ us hl=>match us,hl with | [_,_],_=>rfl
 have F81:=fun_mk (st:=s__law_names) l81 c81 k81
 have b81:=F81.binds (ps:=["_law_state"]) fun _ _ _ _ _ _ us hl=>match us,hl with | [_],_=>rfl
 have F82:=fun_mk (st:=s__law_name) l82 c82 k82
 have b82:=F82.binds (ps:=["_law_state", "_law_names_here"]) fun _ _ _ _ _ _ us hl=>match us,hl with | [_,_],_=>rfl
 have F83:=fun_mk (st:=s__law_sorts) l83 c83 k83
 have b83:=F83.binds (ps:=[]) fun _ _ _ _ _ _ us hl=>match us,hl with | [],_=>rfl
 have F84:=fun_mk (st:=s__law_row) l84 c84 k84
 have b84:=F84.binds (ps:=["_law_state", "_law_width", "_law_names_here"]) fun _ _ _ _ _ _ us hl=>match us,hl with | [_,_,_],_=>rfl
 have F85:=fun_mk (st:=s__law_made_pair) l85 c85 k85
 have b85:=F85.binds (ps:=["_law_row_here"]) fun _ _ _ _ _ _ us hl=>match us,hl with | [_],_=>rfl
 have F86:=fun_mk (st:=s__law_made) l86 c86 k86
 have b86:=F86.binds (ps:=["_law_row_here"]) fun _ _ _ _ _ _ us hl=>match us,hl with | [_],_=>rfl
 have F87:=fun_mk (st:=s__law_pair_word) l87 c87 k87
 have b87:=F87.binds (ps:=["_law_word_here", "_law_a", "_law_b", "_law_size"]) fun _ _ _ _ _ _ us hl=>match us,hl with | [_,_,_,_],_=>rfl
 have F88:=fun_mk (st:=s__law_moved) l88 c88 k88
 have b88:=F88.binds (ps:=["_law_word_here", "_law_a", "_law_k", "_law_size"]) fun _ _ _ _ _ _ us hl=>match us,hl with | [_,_,_,_],_=>rfl
 have F89:=fun_mk (st:=s__law_done) l89 c89 k89
 have b89:=F89.binds (ps:=["_law_size", "_law_row_here", "_law_held", "_law_marks"]) fun _ _ _ _ _ _ us hl=>match us,hl with | [_,_,_,_],_=>rfl
 have F90:=fun_mk (st:=s__law_words) l90 c90 k90
 have b90:=F90.binds (ps:=[]) fun _ _ _ _ _ _ us hl=>match us,hl with | [],_=>rfl
 have F91:=fun_mk (st:=s__law_same) l91 c91 k91
 have b91:=F91.binds (ps:=["_law_found", "_law_held", "_law_marks", "_law_counts"]) fun _ _ _ _ _ _ us hl=>match us,hl with | [_,_,_,_],_=>rfl
 have F92:=fun_mk (st:=s__law_rows) l92 c92 k92
 have b92:=F92.binds (ps:=["_law_script", "_law_width", "_law_names_here"]) fun _ _ _ _ _ _ us hl=>match us,hl with | [_,_,_],_=>rfl
 have F93:=fun_mk (st:=s__law_due) l93 c93 k93
 have b93:=F93.binds (ps:=["_law_width", "_law_rows_here", "_law_held"]) fun _ _ _ _ _ _ us hl=>match us,hl with | [_,_,_],_=>rfl
 have F94:=fun_mk (st:=s__law_run) l94 c94 k94
 have b94:=F94.binds (ps:=["_law_width", "_law_rows_here", "_law_held"]) fun _ _ _ _ _ _ us hl=>match us,hl with | [_,_,_],_=>rfl
 have F95:=fun_mk (st:=s_law) l95 c95 k95
 refine ⟨PySem.W.fnOf "law" "law" (defArgs s_law) (defBody s_law) (defScope s_law) .none kV95 dc95 pm95 an95 cd95 ct95,fun s v=>.of_eq rfl,fun base _ _=>?_⟩
 have M_Set_word:MHas l.prog w K mg base 1 c_Set "word" ["self"] (spWd "set"):=⟨T.cl_Set,_,_,⟨a15,i15,k15⟩,ok_Set_word F15 T ,b15⟩
 have M_Copy_word:MHas l.prog w K mg base 1 c_Copy "word" ["self"] (spWd "copy"):=⟨T.cl_Copy,_,_,⟨a16,i16,k16⟩,ok_Copy_word F16 T ,b16⟩
 have M_Sum_word:MHas l.prog w K mg base 1 c_Sum "word" ["self"] (spWd "sum"):=⟨T.cl_Sum,_,_,⟨a17,i17,k17⟩,ok_Sum_word F17 T ,b17⟩
 have M_Gap_word:MHas l.prog w K mg base 1 c_Gap "word" ["self"] (spWd "gap"):=⟨T.cl_Gap,_,_,⟨a18,i18,k18⟩,ok_Gap_word F18 T ,b18⟩
 have M_Low_word:MHas l.prog w K mg base 1 c_Low "word" ["self"] (spWd "low"):=⟨T.cl_Low,_,_,⟨a19,i19,k19⟩,ok_Low_word F19 T ,b19⟩
 have M_High_word:MHas l.prog w K mg base 1 c_High "word" ["self"] (spWd "high"):=⟨T.cl_High,_,_,⟨a20,i20,k20⟩,ok_High_word F20 T ,b20⟩
 have M_Left_word:MHas l.prog w K mg base 1 c_Left "word" ["self"] (spWd "left"):=⟨T.cl_Left,_,_,⟨a21,i21,k21⟩,ok_Left_word F21 T ,b21⟩
 have M_Right_word:MHas l.prog w K mg base 1 c_Right "word" ["self"] (spWd "right"):=⟨T.cl_Right,_,_,⟨a22,i22,k22⟩,ok_Right_word F22 T ,b22⟩
 have M_Slide_word:MHas l.prog w K mg base 1 c_Slide "word" ["self"] (spWd "slide"):=⟨T.cl_Slide,_,_,⟨a23,i23,k23⟩,ok_Slide_word F23 T ,b23⟩
 have M_And_word:MHas l.prog w K mg base 1 c_And "word" ["self"] (spWd "and"):=⟨T.cl_And,_,_,⟨a24,i24,k24⟩,ok_And_word F24 T ,b24⟩
 have M_Or_word:MHas l.prog w K mg base 1 c_Or "word" ["self"] (spWd "or"):=⟨T.cl_Or,_,_,⟨a25,i25,k25⟩,ok_Or_word F25 T ,b25⟩
 have M_Unlike_word:MHas l.prog w K mg base 1 c_Unlike "word" ["self"] (spWd "unlike"):=⟨T.cl_Unlike,_,_,⟨a26,i26,k26⟩,ok_Unlike_word F26 T ,b26⟩
 have M_Under_word:MHas l.prog w K mg base 1 c_Under "word" ["self"] (spWd "under"):=⟨T.cl_Under,_,_,⟨a27,i27,k27⟩,ok_Under_word F27 T ,b27⟩
 have M_Pick_word:MHas l.prog w K mg base 1 c_Pick "word" ["self"] (spWd "pick"):=⟨T.cl_Pick,_,_,⟨a28,i28,k28⟩,ok_Pick_word F28 T ,b28⟩
 have M_Mark_word:MHas l.prog w K mg base 1 c_Mark "word" ["self"] (spWd "mark"):=⟨T.cl_Mark,_,_,⟨a29,i29,k29⟩,ok_Mark_word F29 T ,b29⟩
 have C_Set:CHas l.prog w K mg base 1 c_Set "Set" ["self", "goal", "bits"] (spInit K ["goal", "bits"]):=⟨_,_,⟨mk_Set,a30,i30,kc_Set⟩,ok_Set___init__ F30 T ,b30,PySem.W.mg_of X G aC_Set⟩
 have C_Copy:CHas l.prog w K mg base 1 c_Copy "Copy" ["self", "goal", "one"] (spInit K ["goal", "one"]):=⟨_,_,⟨mk_Copy,a31,i31,kc_Copy⟩,ok_Copy___init__ F31 T ,b31,PySem.W.mg_of X G aC_Copy⟩
 have C_Sum:CHas l.prog w K mg base 1 c_Sum "Sum" ["self", "goal", "carry", "one", "other"] (spInit K ["goal", "carry", "one", "other"]):=⟨_,_,⟨mk_Sum,a32,i32,kc_Sum⟩,ok_Carrying___init__ F32 T ,b32,PySem.W.mg_of X G aC_Sum⟩
 have C_Gap:CHas l.prog w K mg base 1 c_Gap "Gap" ["self", "goal", "carry", "one", "other"] (spInit K ["goal", "carry", "one", "other"]):=⟨_,_,⟨mk_Gap,h_Gap___init__,i32,kc_Gap⟩,ok_Carrying___init__ F32 T ,b32,PySem.W.mg_of X G aC_Gap⟩
 have C_Low:CHas l.prog w K mg base 1 c_Low "Low" ["self", "goal", "one", "other"] (spInit K ["goal", "one", "other"]):=⟨_,_,⟨mk_Low,a33,i33,kc_Low⟩,ok_Joining___init__ F33 T ,b33,PySem.W.mg_of X G aC_Low⟩
 have C_High:CHas l.prog w K mg base 1 c_High "High" ["self", "goal", "one", "other"] (spInit K ["goal", "one", "other"]):=⟨_,_,⟨mk_High,h_High___init__,i33,kc_High⟩,ok_Joining___init__ F33 T ,b33,PySem.W.mg_of X G aC_High⟩
 have C_And:CHas l.prog w K mg base 1 c_And "And" ["self", "goal", "one", "other"] (spInit K ["goal", "one", "other"]):=⟨_,_,⟨mk_And,h_And___init__,i33,kc_And⟩,ok_Joining___init__ F33 T ,b33,PySem.W.mg_of X G aC_And⟩
 have C_Or:CHas l.prog w K mg base 1 c_Or "Or" ["self", "goal", "one", "other"] (spInit K ["goal", "one", "other"]):=⟨_,_,⟨mk_Or,h_Or___init__,i33,kc_Or⟩,ok_Joining___init__ F33 T ,b33,PySem.W.mg_of X G aC_Or⟩
 have C_Unlike:CHas l.prog w K mg base 1 c_Unlike "Unlike" ["self", "goal", "one", "other"] (spInit K ["goal", "one", "other"]):=⟨_,_,⟨mk_Unlike,h_Unlike___init__,i33,kc_Unlike⟩,ok_Joining___init__ F33 T ,b33,PySem.W.mg_of X G aC_Unlike⟩
 have C_Under:CHas l.prog w K mg base 1 c_Under "Under" ["self", "goal", "one", "other"] (spInit K ["goal", "one", "other"]):=⟨_,_,⟨mk_Under,h_Under___init__,i33,kc_Under⟩,ok_Joining___init__ F33 T ,b33,PySem.W.mg_of X G aC_Under⟩
 have C_Left:CHas l.prog w K mg base 1 c_Left "Left" ["self", "goal", "one", "k"] (spInit K ["goal", "one", "k"]):=⟨_,_,⟨mk_Left,a34,i34,kc_Left⟩,ok_Moving___init__ F34 T ,b34,PySem.W.mg_of X G aC_Left⟩
 have C_Right:CHas l.prog w K mg base 1 c_Right "Right" ["self", "goal", "one", "k"] (spInit K ["goal", "one", "k"]):=⟨_,_,⟨mk_Right,h_Right___init__,i34,kc_Right⟩,ok_Moving___init__ F34 T ,b34,PySem.W.mg_of X G aC_Right⟩
 have C_Slide:CHas l.prog w K mg base 1 c_Slide "Slide" ["self", "goal", "one", "k"] (spInit K ["goal", "one", "k"]):=⟨_,_,⟨mk_Slide,h_Slide___init__,i34,kc_Slide⟩,ok_Moving___init__ F34 T ,b34,PySem.W.mg_of X G aC_Slide⟩
 have C_Pick:CHas l.prog w K mg base 1 c_Pick "Pick" ["self", "goal", "by", "one", "other"] (spInit K ["goal", "by", "one", "other"]):=⟨_,_,⟨mk_Pick,a35,i35,kc_Pick⟩,ok_Pick___init__ F35 T ,b35,PySem.W.mg_of X G aC_Pick⟩
 have C_Mark:CHas l.prog w K mg base 1 c_Mark "Mark" ["self", "line", "mark", "by"] (spInit K ["line", "mark", "by"]):=⟨_,_,⟨mk_Mark,a36,i36,kc_Mark⟩,ok_Mark___init__ F36 T ,b36,PySem.W.mg_of X G aC_Mark⟩
 have M_Set_told:MHas l.prog w K mg base 1 c_Set "told" ["self"] (spTold ⟨c_Set,c_Copy,c_Sum,c_Gap,c_Low,c_High,c_Left,c_Right,c_Slide,c_And,c_Or,c_Unlike,c_Under,c_Pick,c_Mark,c_Turns,c_Step,c_ROW_WORDS,c_MARKS⟩ [0]):=⟨T.cl_Set,_,_,⟨a37,i37,k37⟩,ok_Set_told F37 T ,b37⟩
 have M_Copy_told:MHas l.prog w K mg base 1 c_Copy "told" ["self"] (spTold ⟨c_Set,c_Copy,c_Sum,c_Gap,c_Low,c_High,c_Left,c_Right,c_Slide,c_And,c_Or,c_Unlike,c_Under,c_Pick,c_Mark,c_Turns,c_Step,c_ROW_WORDS,c_MARKS⟩ [1]):=⟨T.cl_Copy,_,_,⟨a38,i38,k38⟩,ok_Copy_told F38 T ,b38⟩
 have M_Gap_told:MHas l.prog w K mg base 2 c_Gap "told" ["self"] (spTold ⟨c_Set,c_Copy,c_Sum,c_Gap,c_Low,c_High,c_Left,c_Right,c_Slide,c_And,c_Or,c_Unlike,c_Under,c_Pick,c_Mark,c_Turns,c_Step,c_ROW_WORDS,c_MARKS⟩ [2,3]):=⟨T.cl_Gap,_,_,⟨h_Gap_told,i39,k39⟩,ok_Carrying_told F39 T  (fun i hi=>by simp only [List.mem_cons,List.not_mem_nil,or_false] at hi; rcases hi with rfl | rfl <;> first | exact M_Sum_word | exact M_Gap_word),b39⟩
 have M_Carrying_told:MHas l.prog w K mg base 2 c_Sum "told" ["self"] (spTold ⟨c_Set,c_Copy,c_Sum,c_Gap,c_Low,c_High,c_Left,c_Right,c_Slide,c_And,c_Or,c_Unlike,c_Under,c_Pick,c_Mark,c_Turns,c_Step,c_ROW_WORDS,c_MARKS⟩ [2,3]):=⟨T.cl_Sum,_,_,⟨a39,i39,k39⟩,ok_Carrying_told F39 T  (fun i hi=>by simp only [List.mem_cons,List.not_mem_nil,or_false] at hi; rcases hi with rfl | rfl <;> first | exact M_Sum_word | exact M_Gap_word),b39⟩
 have M_High_told:MHas l.prog w K mg base 2 c_High "told" ["self"] (spTold ⟨c_Set,c_Copy,c_Sum,c_Gap,c_Low,c_High,c_Left,c_Right,c_Slide,c_And,c_Or,c_Unlike,c_Under,c_Pick,c_Mark,c_Turns,c_Step,c_ROW_WORDS,c_MARKS⟩ [4,5,9,10,11,12]):=⟨T.cl_High,_,_,⟨h_High_told,i40,k40⟩,ok_Joining_told F40 T  (fun i hi=>by simp only [List.mem_cons,List.not_mem_nil,or_false] at hi; rcases hi with rfl | rfl | rfl | rfl | rfl | rfl <;> first | exact M_Low_word | exact M_High_word | exact M_And_word | exact M_Or_word | exact M_Unlike_word | exact M_Under_word),b40⟩
 have M_And_told:MHas l.prog w K mg base 2 c_And "told" ["self"] (spTold ⟨c_Set,c_Copy,c_Sum,c_Gap,c_Low,c_High,c_Left,c_Right,c_Slide,c_And,c_Or,c_Unlike,c_Under,c_Pick,c_Mark,c_Turns,c_Step,c_ROW_WORDS,c_MARKS⟩ [4,5,9,10,11,12]):=⟨T.cl_And,_,_,⟨h_And_told,i40,k40⟩,ok_Joining_told F40 T  (fun i hi=>by simp only [List.mem_cons,List.not_mem_nil,or_false] at hi; rcases hi with rfl | rfl | rfl | rfl | rfl | rfl <;> first | exact M_Low_word | exact M_High_word | exact M_And_word | exact M_Or_word | exact M_Unlike_word | exact M_Under_word),b40⟩
 have M_Or_told:MHas l.prog w K mg base 2 c_Or "told" ["self"] (spTold ⟨c_Set,c_Copy,c_Sum,c_Gap,c_Low,c_High,c_Left,c_Right,c_Slide,c_And,c_Or,c_Unlike,c_Under,c_Pick,c_Mark,c_Turns,c_Step,c_ROW_WORDS,c_MARKS⟩ [4,5,9,10,11,12]):=⟨T.cl_Or,_,_,⟨h_Or_told,i40,k40⟩,ok_Joining_told F40 T  (fun i hi=>by simp only [List.mem_cons,List.not_mem_nil,or_false] at hi; rcases hi with rfl | rfl | rfl | rfl | rfl | rfl <;> first | exact M_Low_word | exact M_High_word | exact M_And_word | exact M_Or_word | exact M_Unlike_word | exact M_Under_word),b40⟩
 have M_Unlike_told:MHas l.prog w K mg base 2 c_Unlike "told" ["self"] (spTold ⟨c_Set,c_Copy,c_Sum,c_Gap,c_Low,c_High,c_Left,c_Right,c_Slide,c_And,c_Or,c_Unlike,c_Under,c_Pick,c_Mark,c_Turns,c_Step,c_ROW_WORDS,c_MARKS⟩ [4,5,9,10,11,12]):=⟨T.cl_Unlike,_,_,⟨h_Unlike_told,i40,k40⟩,ok_Joining_told F40 T  (fun i hi=>by simp only [List.mem_cons,List.not_mem_nil,or_false] at hi; rcases hi with rfl | rfl | rfl | rfl | rfl | rfl <;> first | exact M_Low_word | exact M_High_word | exact M_And_word | exact M_Or_word | exact M_Unlike_word | exact M_Under_word),b40⟩
 have M_Under_told:MHas l.prog w K mg base 2 c_Under "told" ["self"] (spTold ⟨c_Set,c_Copy,c_Sum,c_Gap,c_Low,c_High,c_Left,c_Right,c_Slide,c_And,c_Or,c_Unlike,c_Under,c_Pick,c_Mark,c_Turns,c_Step,c_ROW_WORDS,c_MARKS⟩ [4,5,9,10,11,12]):=⟨T.cl_Under,_,_,⟨h_Under_told,i40,k40⟩,ok_Joining_told F40 T  (fun i hi=>by simp only [List.mem_cons,List.not_mem_nil,or_false] at hi; rcases hi with rfl | rfl | rfl | rfl | rfl | rfl <;> first | exact M_Low_word | exact M_High_word | exact M_And_word | exact M_Or_word | exact M_Unlike_word | exact M_Under_word),b40⟩
 have M_Joining_told:MHas l.prog w K mg base 2 c_Low "told" ["self"] (spTold ⟨c_Set,c_Copy,c_Sum,c_Gap,c_Low,c_High,c_Left,c_Right,c_Slide,c_And,c_Or,c_Unlike,c_Under,c_Pick,c_Mark,c_Turns,c_Step,c_ROW_WORDS,c_MARKS⟩ [4,5,9,10,11,12]):=⟨T.cl_Low,_,_,⟨a40,i40,k40⟩,ok_Joining_told F40 T  (fun i hi=>by simp only [List.mem_cons,List.not_mem_nil,or_false] at hi; rcases hi with rfl | rfl | rfl | rfl | rfl | rfl <;> first | exact M_Low_word | exact M_High_word | exact M_And_word | exact M_Or_word | exact M_Unlike_word | exact M_Under_word),b40⟩
 have M_Right_told:MHas l.prog w K mg base 2 c_Right "told" ["self"] (spTold ⟨c_Set,c_Copy,c_Sum,c_Gap,c_Low,c_High,c_Left,c_Right,c_Slide,c_And,c_Or,c_Unlike,c_Under,c_Pick,c_Mark,c_Turns,c_Step,c_ROW_WORDS,c_MARKS⟩ [6,7,8]):=⟨T.cl_Right,_,_,⟨h_Right_told,i41,k41⟩,ok_Moving_told F41 T  (fun i hi=>by simp only [List.mem_cons,List.not_mem_nil,or_false] at hi; rcases hi with rfl | rfl | rfl <;> first | exact M_Left_word | exact M_Right_word | exact M_Slide_word),b41⟩
 have M_Slide_told:MHas l.prog w K mg base 2 c_Slide "told" ["self"] (spTold ⟨c_Set,c_Copy,c_Sum,c_Gap,c_Low,c_High,c_Left,c_Right,c_Slide,c_And,c_Or,c_Unlike,c_Under,c_Pick,c_Mark,c_Turns,c_Step,c_ROW_WORDS,c_MARKS⟩ [6,7,8]):=⟨T.cl_Slide,_,_,⟨h_Slide_told,i41,k41⟩,ok_Moving_told F41 T  (fun i hi=>by simp only [List.mem_cons,List.not_mem_nil,or_false] at hi; rcases hi with rfl | rfl | rfl <;> first | exact M_Left_word | exact M_Right_word | exact M_Slide_word),b41⟩
 have M_Moving_told:MHas l.prog w K mg base 2 c_Left "told" ["self"] (spTold ⟨c_Set,c_Copy,c_Sum,c_Gap,c_Low,c_High,c_Left,c_Right,c_Slide,c_And,c_Or,c_Unlike,c_Under,c_Pick,c_Mark,c_Turns,c_Step,c_ROW_WORDS,c_MARKS⟩ [6,7,8]):=⟨T.cl_Left,_,_,⟨a41,i41,k41⟩,ok_Moving_told F41 T  (fun i hi=>by simp only [List.mem_cons,List.not_mem_nil,or_false] at hi; rcases hi with rfl | rfl | rfl <;> first | exact M_Left_word | exact M_Right_word | exact M_Slide_word),b41⟩
 have M_Pick_told:MHas l.prog w K mg base 1 c_Pick "told" ["self"] (spTold ⟨c_Set,c_Copy,c_Sum,c_Gap,c_Low,c_High,c_Left,c_Right,c_Slide,c_And,c_Or,c_Unlike,c_Under,c_Pick,c_Mark,c_Turns,c_Step,c_ROW_WORDS,c_MARKS⟩ [13]):=⟨T.cl_Pick,_,_,⟨a42,i42,k42⟩,ok_Pick_told F42 T ,b42⟩
 have M_Mark_told:MHas l.prog w K mg base 1 c_Mark "told" ["self"] (spTold ⟨c_Set,c_Copy,c_Sum,c_Gap,c_Low,c_High,c_Left,c_Right,c_Slide,c_And,c_Or,c_Unlike,c_Under,c_Pick,c_Mark,c_Turns,c_Step,c_ROW_WORDS,c_MARKS⟩ [14]):=⟨T.cl_Mark,_,_,⟨a43,i43,k43⟩,ok_Mark_told F43 T ,b43⟩
 have H_is_whole:Has l.prog w K mg base 1 "is_whole" ["thing"] spWhole:=⟨_,_,ok_is_whole F1 T ,b1,k1,PySem.W.mg_of X G a1⟩
 have H_is_between:Has l.prog w K mg base 2 "is_between" ["thing", "low", "high"] spBetween:=⟨_,_,ok_is_between F2 T H_is_whole,b2,k2,PySem.W.mg_of X G a2⟩
 have H_need_width:Has l.prog w K mg base 3 "need_width" ["width"] spNeedW:=⟨_,_,ok_need_width F3 T H_is_between,b3,k3,PySem.W.mg_of X G a3⟩
 have H_sum_of:Has l.prog w K mg base 4 "sum_of" ["width", "a", "b"] spSum:=⟨_,_,ok_sum_of F5 T H_need_width,b5,k5,PySem.W.mg_of X G a5⟩
 have M_Sum_reckoned:MHas l.prog w K mg base 5 c_Sum "reckoned" ["self", "width", "a", "b"] (spCar 2):=⟨T.cl_Sum,_,_,⟨a44,i44,k44⟩,ok_Sum_reckoned F44 T H_sum_of,b44⟩
 have H_gap_of:Has l.prog w K mg base 4 "gap_of" ["width", "a", "b"] spGap:=⟨_,_,ok_gap_of F6 T H_need_width,b6,k6,PySem.W.mg_of X G a6⟩
 have M_Gap_reckoned:MHas l.prog w K mg base 5 c_Gap "reckoned" ["self", "width", "a", "b"] (spCar 3):=⟨T.cl_Gap,_,_,⟨a45,i45,k45⟩,ok_Gap_reckoned F45 T H_gap_of,b45⟩
 have H_low_product:Has l.prog w K mg base 4 "low_product" ["width", "a", "b"] spLow:=⟨_,_,ok_low_product F7 T H_need_width,b7,k7,PySem.W.mg_of X G a7⟩
 have M_Low_reckoned:MHas l.prog w K mg base 5 c_Low "reckoned" ["self", "width", "a", "b"] (spJn 4):=⟨T.cl_Low,_,_,⟨a46,i46,k46⟩,ok_Low_reckoned F46 T H_low_product,b46⟩
 have H_high_product:Has l.prog w K mg base 4 "high_product" ["width", "a", "b"] spHigh:=⟨_,_,ok_high_product F8 T H_need_width,b8,k8,PySem.W.mg_of X G a8⟩
 have M_High_reckoned:MHas l.prog w K mg base 5 c_High "reckoned" ["self", "width", "a", "b"] (spJn 5):=⟨T.cl_High,_,_,⟨a47,i47,k47⟩,ok_High_reckoned F47 T H_high_product,b47⟩
 have M_And_reckoned:MHas l.prog w K mg base 1 c_And "reckoned" ["self", "width", "a", "b"] (spJn 9):=⟨T.cl_And,_,_,⟨a48,i48,k48⟩,ok_And_reckoned F48 T ,b48⟩
 have M_Or_reckoned:MHas l.prog w K mg base 1 c_Or "reckoned" ["self", "width", "a", "b"] (spJn 10):=⟨T.cl_Or,_,_,⟨a49,i49,k49⟩,ok_Or_reckoned F49 T ,b49⟩
 have M_Unlike_reckoned:MHas l.prog w K mg base 1 c_Unlike "reckoned" ["self", "width", "a", "b"] (spJn 11):=⟨T.cl_Unlike,_,_,⟨a50,i50,k50⟩,ok_Unlike_reckoned F50 T ,b50⟩
 have M_Under_reckoned:MHas l.prog w K mg base 1 c_Under "reckoned" ["self", "width", "a", "b"] (spJn 12):=⟨T.cl_Under,_,_,⟨a51,i51,k51⟩,ok_Under_reckoned F51 T ,b51⟩
 have H_left:Has l.prog w K mg base 4 "left" ["width", "a", "k"] spLeft:=⟨_,_,ok_left F9 T H_need_width,b9,k9,PySem.W.mg_of X G a9⟩
 have M_Left_moved:MHas l.prog w K mg base 5 c_Left "moved" ["self", "width", "a"] (spMv ⟨c_Set,c_Copy,c_Sum,c_Gap,c_Low,c_High,c_Left,c_Right,c_Slide,c_And,c_Or,c_Unlike,c_Under,c_Pick,c_Mark,c_Turns,c_Step,c_ROW_WORDS,c_MARKS⟩ 6):=⟨T.cl_Left,_,_,⟨a52,i52,k52⟩,ok_Left_moved F52 T H_left,b52⟩
 have H_right:Has l.prog w K mg base 4 "right" ["width", "a", "k"] spRight:=⟨_,_,ok_right F10 T H_need_width,b10,k10,PySem.W.mg_of X G a10⟩
 have M_Right_moved:MHas l.prog w K mg base 5 c_Right "moved" ["self", "width", "a"] (spMv ⟨c_Set,c_Copy,c_Sum,c_Gap,c_Low,c_High,c_Left,c_Right,c_Slide,c_And,c_Or,c_Unlike,c_Under,c_Pick,c_Mark,c_Turns,c_Step,c_ROW_WORDS,c_MARKS⟩ 7):=⟨T.cl_Right,_,_,⟨a53,i53,k53⟩,ok_Right_moved F53 T H_right,b53⟩
 have H_slide:Has l.prog w K mg base 4 "slide" ["width", "a", "k"] spSlide:=⟨_,_,ok_slide F11 T H_need_width,b11,k11,PySem.W.mg_of X G a11⟩
 have M_Slide_moved:MHas l.prog w K mg base 5 c_Slide "moved" ["self", "width", "a"] (spMv ⟨c_Set,c_Copy,c_Sum,c_Gap,c_Low,c_High,c_Left,c_Right,c_Slide,c_And,c_Or,c_Unlike,c_Under,c_Pick,c_Mark,c_Turns,c_Step,c_ROW_WORDS,c_MARKS⟩ 8):=⟨T.cl_Slide,_,_,⟨a54,i54,k54⟩,ok_Slide_moved F54 T H_slide,b54⟩
 have H_is_register:Has l.prog w K mg base 1 "is_register" ["thing"] spReg:=⟨_,_,ok_is_register F13 T ,b13,k13,PySem.W.mg_of X G a13⟩
 have H_is_word:Has l.prog w K mg base 3 "is_word" ["width", "thing"] spIsWord:=⟨_,_,ok_is_word F4 T H_is_between,b4,k4,PySem.W.mg_of X G a4⟩
 have M_Set_good_at:MHas l.prog w K mg base 4 c_Set "good_at" ["self", "width"] (spGood ⟨c_Set,c_Copy,c_Sum,c_Gap,c_Low,c_High,c_Left,c_Right,c_Slide,c_And,c_Or,c_Unlike,c_Under,c_Pick,c_Mark,c_Turns,c_Step,c_ROW_WORDS,c_MARKS⟩ [0]):=⟨T.cl_Set,_,_,⟨a55,i55,k55⟩,ok_Set_good_at F55 T H_is_register H_is_word,b55⟩
 have H_are_registers:Has l.prog w K mg base 2 "are_registers" ["things"] spRegs:=⟨_,_,ok_are_registers F14 T H_is_register,b14,k14,PySem.W.mg_of X G a14⟩
 have M_Copy_good_at:MHas l.prog w K mg base 3 c_Copy "good_at" ["self", "width"] (spGood ⟨c_Set,c_Copy,c_Sum,c_Gap,c_Low,c_High,c_Left,c_Right,c_Slide,c_And,c_Or,c_Unlike,c_Under,c_Pick,c_Mark,c_Turns,c_Step,c_ROW_WORDS,c_MARKS⟩ [1]):=⟨T.cl_Copy,_,_,⟨a56,i56,k56⟩,ok_Copy_good_at F56 T H_are_registers,b56⟩
 have M_Gap_good_at:MHas l.prog w K mg base 3 c_Gap "good_at" ["self", "width"] (spGood ⟨c_Set,c_Copy,c_Sum,c_Gap,c_Low,c_High,c_Left,c_Right,c_Slide,c_And,c_Or,c_Unlike,c_Under,c_Pick,c_Mark,c_Turns,c_Step,c_ROW_WORDS,c_MARKS⟩ [2,3]):=⟨T.cl_Gap,_,_,⟨h_Gap_good_at,i57,k57⟩,ok_Carrying_good_at F57 T H_are_registers H_is_register,b57⟩
 have M_Carrying_good_at:MHas l.prog w K mg base 3 c_Sum "good_at" ["self", "width"] (spGood ⟨c_Set,c_Copy,c_Sum,c_Gap,c_Low,c_High,c_Left,c_Right,c_Slide,c_And,c_Or,c_Unlike,c_Under,c_Pick,c_Mark,c_Turns,c_Step,c_ROW_WORDS,c_MARKS⟩ [2,3]):=⟨T.cl_Sum,_,_,⟨a57,i57,k57⟩,ok_Carrying_good_at F57 T H_are_registers H_is_register,b57⟩
 have M_High_good_at:MHas l.prog w K mg base 3 c_High "good_at" ["self", "width"] (spGood ⟨c_Set,c_Copy,c_Sum,c_Gap,c_Low,c_High,c_Left,c_Right,c_Slide,c_And,c_Or,c_Unlike,c_Under,c_Pick,c_Mark,c_Turns,c_Step,c_ROW_WORDS,c_MARKS⟩ [4,5,9,10,11,12]):=⟨T.cl_High,_,_,⟨h_High_good_at,i58,k58⟩,ok_Joining_good_at F58 T H_are_registers,b58⟩
 have M_And_good_at:MHas l.prog w K mg base 3 c_And "good_at" ["self", "width"] (spGood ⟨c_Set,c_Copy,c_Sum,c_Gap,c_Low,c_High,c_Left,c_Right,c_Slide,c_And,c_Or,c_Unlike,c_Under,c_Pick,c_Mark,c_Turns,c_Step,c_ROW_WORDS,c_MARKS⟩ [4,5,9,10,11,12]):=⟨T.cl_And,_,_,⟨h_And_good_at,i58,k58⟩,ok_Joining_good_at F58 T H_are_registers,b58⟩
 have M_Or_good_at:MHas l.prog w K mg base 3 c_Or "good_at" ["self", "width"] (spGood ⟨c_Set,c_Copy,c_Sum,c_Gap,c_Low,c_High,c_Left,c_Right,c_Slide,c_And,c_Or,c_Unlike,c_Under,c_Pick,c_Mark,c_Turns,c_Step,c_ROW_WORDS,c_MARKS⟩ [4,5,9,10,11,12]):=⟨T.cl_Or,_,_,⟨h_Or_good_at,i58,k58⟩,ok_Joining_good_at F58 T H_are_registers,b58⟩
 have M_Unlike_good_at:MHas l.prog w K mg base 3 c_Unlike "good_at" ["self", "width"] (spGood ⟨c_Set,c_Copy,c_Sum,c_Gap,c_Low,c_High,c_Left,c_Right,c_Slide,c_And,c_Or,c_Unlike,c_Under,c_Pick,c_Mark,c_Turns,c_Step,c_ROW_WORDS,c_MARKS⟩ [4,5,9,10,11,12]):=⟨T.cl_Unlike,_,_,⟨h_Unlike_good_at,i58,k58⟩,ok_Joining_good_at F58 T H_are_registers,b58⟩
 have M_Under_good_at:MHas l.prog w K mg base 3 c_Under "good_at" ["self", "width"] (spGood ⟨c_Set,c_Copy,c_Sum,c_Gap,c_Low,c_High,c_Left,c_Right,c_Slide,c_And,c_Or,c_Unlike,c_Under,c_Pick,c_Mark,c_Turns,c_Step,c_ROW_WORDS,c_MARKS⟩ [4,5,9,10,11,12]):=⟨T.cl_Under,_,_,⟨h_Under_good_at,i58,k58⟩,ok_Joining_good_at F58 T H_are_registers,b58⟩
 have M_Joining_good_at:MHas l.prog w K mg base 3 c_Low "good_at" ["self", "width"] (spGood ⟨c_Set,c_Copy,c_Sum,c_Gap,c_Low,c_High,c_Left,c_Right,c_Slide,c_And,c_Or,c_Unlike,c_Under,c_Pick,c_Mark,c_Turns,c_Step,c_ROW_WORDS,c_MARKS⟩ [4,5,9,10,11,12]):=⟨T.cl_Low,_,_,⟨a58,i58,k58⟩,ok_Joining_good_at F58 T H_are_registers,b58⟩
 have M_Right_good_at:MHas l.prog w K mg base 3 c_Right "good_at" ["self", "width"] (spGood ⟨c_Set,c_Copy,c_Sum,c_Gap,c_Low,c_High,c_Left,c_Right,c_Slide,c_And,c_Or,c_Unlike,c_Under,c_Pick,c_Mark,c_Turns,c_Step,c_ROW_WORDS,c_MARKS⟩ [6,7,8]):=⟨T.cl_Right,_,_,⟨h_Right_good_at,i59,k59⟩,ok_Moving_good_at F59 T H_are_registers H_is_between,b59⟩
 have M_Slide_good_at:MHas l.prog w K mg base 3 c_Slide "good_at" ["self", "width"] (spGood ⟨c_Set,c_Copy,c_Sum,c_Gap,c_Low,c_High,c_Left,c_Right,c_Slide,c_And,c_Or,c_Unlike,c_Under,c_Pick,c_Mark,c_Turns,c_Step,c_ROW_WORDS,c_MARKS⟩ [6,7,8]):=⟨T.cl_Slide,_,_,⟨h_Slide_good_at,i59,k59⟩,ok_Moving_good_at F59 T H_are_registers H_is_between,b59⟩
 have M_Moving_good_at:MHas l.prog w K mg base 3 c_Left "good_at" ["self", "width"] (spGood ⟨c_Set,c_Copy,c_Sum,c_Gap,c_Low,c_High,c_Left,c_Right,c_Slide,c_And,c_Or,c_Unlike,c_Under,c_Pick,c_Mark,c_Turns,c_Step,c_ROW_WORDS,c_MARKS⟩ [6,7,8]):=⟨T.cl_Left,_,_,⟨a59,i59,k59⟩,ok_Moving_good_at F59 T H_are_registers H_is_between,b59⟩
 have M_Pick_good_at:MHas l.prog w K mg base 3 c_Pick "good_at" ["self", "width"] (spGood ⟨c_Set,c_Copy,c_Sum,c_Gap,c_Low,c_High,c_Left,c_Right,c_Slide,c_And,c_Or,c_Unlike,c_Under,c_Pick,c_Mark,c_Turns,c_Step,c_ROW_WORDS,c_MARKS⟩ [13]):=⟨T.cl_Pick,_,_,⟨a60,i60,k60⟩,ok_Pick_good_at F60 T H_are_registers,b60⟩
 have M_Mark_good_at:MHas l.prog w K mg base 3 c_Mark "good_at" ["self", "width"] (spGood ⟨c_Set,c_Copy,c_Sum,c_Gap,c_Low,c_High,c_Left,c_Right,c_Slide,c_And,c_Or,c_Unlike,c_Under,c_Pick,c_Mark,c_Turns,c_Step,c_ROW_WORDS,c_MARKS⟩ [14]):=⟨T.cl_Mark,_,_,⟨a61,i61,k61⟩,ok_Mark_good_at F61 T H_is_between H_is_register,b61⟩
 have M_Set_act:MHas l.prog w K mg base 1 c_Set "act" ["self", "width", "words", "marks"] (spAct ⟨c_Set,c_Copy,c_Sum,c_Gap,c_Low,c_High,c_Left,c_Right,c_Slide,c_And,c_Or,c_Unlike,c_Under,c_Pick,c_Mark,c_Turns,c_Step,c_ROW_WORDS,c_MARKS⟩ [0]):=⟨T.cl_Set,_,_,⟨a62,i62,k62⟩,ok_Set_act F62 T ,b62⟩
 have M_Copy_act:MHas l.prog w K mg base 1 c_Copy "act" ["self", "width", "words", "marks"] (spAct ⟨c_Set,c_Copy,c_Sum,c_Gap,c_Low,c_High,c_Left,c_Right,c_Slide,c_And,c_Or,c_Unlike,c_Under,c_Pick,c_Mark,c_Turns,c_Step,c_ROW_WORDS,c_MARKS⟩ [1]):=⟨T.cl_Copy,_,_,⟨a63,i63,k63⟩,ok_Copy_act F63 T ,b63⟩
 have M_Gap_act:MHas l.prog w K mg base 6 c_Gap "act" ["self", "width", "words", "marks"] (spAct ⟨c_Set,c_Copy,c_Sum,c_Gap,c_Low,c_High,c_Left,c_Right,c_Slide,c_And,c_Or,c_Unlike,c_Under,c_Pick,c_Mark,c_Turns,c_Step,c_ROW_WORDS,c_MARKS⟩ [2,3]):=⟨T.cl_Gap,_,_,⟨h_Gap_act,i64,k64⟩,ok_Carrying_act F64 T  (fun i hi=>by simp only [List.mem_cons,List.not_mem_nil,or_false] at hi; rcases hi with rfl | rfl <;> first | exact M_Sum_reckoned.mono (by decide) | exact M_Gap_reckoned.mono (by decide)),b64⟩
 have M_Carrying_act:MHas l.prog w K mg base 6 c_Sum "act" ["self", "width", "words", "marks"] (spAct ⟨c_Set,c_Copy,c_Sum,c_Gap,c_Low,c_High,c_Left,c_Right,c_Slide,c_And,c_Or,c_Unlike,c_Under,c_Pick,c_Mark,c_Turns,c_Step,c_ROW_WORDS,c_MARKS⟩ [2,3]):=⟨T.cl_Sum,_,_,⟨a64,i64,k64⟩,ok_Carrying_act F64 T  (fun i hi=>by simp only [List.mem_cons,List.not_mem_nil,or_false] at hi; rcases hi with rfl | rfl <;> first | exact M_Sum_reckoned.mono (by decide) | exact M_Gap_reckoned.mono (by decide)),b64⟩
 have M_High_act:MHas l.prog w K mg base 6 c_High "act" ["self", "width", "words", "marks"] (spAct ⟨c_Set,c_Copy,c_Sum,c_Gap,c_Low,c_High,c_Left,c_Right,c_Slide,c_And,c_Or,c_Unlike,c_Under,c_Pick,c_Mark,c_Turns,c_Step,c_ROW_WORDS,c_MARKS⟩ [4,5,9,10,11,12]):=⟨T.cl_High,_,_,⟨h_High_act,i65,k65⟩,ok_Joining_act F65 T  (fun i hi=>by simp only [List.mem_cons,List.not_mem_nil,or_false] at hi; rcases hi with rfl | rfl | rfl | rfl | rfl | rfl <;> first | exact M_Low_reckoned.mono (by decide) | exact M_High_reckoned.mono (by decide) | exact M_And_reckoned.mono (by decide) | exact M_Or_reckoned.mono (by decide) | exact M_Unlike_reckoned.mono (by decide) | exact M_Under_reckoned.mono (by decide)),b65⟩
 have M_And_act:MHas l.prog w K mg base 6 c_And "act" ["self", "width", "words", "marks"] (spAct ⟨c_Set,c_Copy,c_Sum,c_Gap,c_Low,c_High,c_Left,c_Right,c_Slide,c_And,c_Or,c_Unlike,c_Under,c_Pick,c_Mark,c_Turns,c_Step,c_ROW_WORDS,c_MARKS⟩ [4,5,9,10,11,12]):=⟨T.cl_And,_,_,⟨h_And_act,i65,k65⟩,ok_Joining_act F65 T  (fun i hi=>by simp only [List.mem_cons,List.not_mem_nil,or_false] at hi; rcases hi with rfl | rfl | rfl | rfl | rfl | rfl <;> first | exact M_Low_reckoned.mono (by decide) | exact M_High_reckoned.mono (by decide) | exact M_And_reckoned.mono (by decide) | exact M_Or_reckoned.mono (by decide) | exact M_Unlike_reckoned.mono (by decide) | exact M_Under_reckoned.mono (by decide)),b65⟩
 have M_Or_act:MHas l.prog w K mg base 6 c_Or "act" ["self", "width", "words", "marks"] (spAct ⟨c_Set,c_Copy,c_Sum,c_Gap,c_Low,c_High,c_Left,c_Right,c_Slide,c_And,c_Or,c_Unlike,c_Under,c_Pick,c_Mark,c_Turns,c_Step,c_ROW_WORDS,c_MARKS⟩ [4,5,9,10,11,12]):=⟨T.cl_Or,_,_,⟨h_Or_act,i65,k65⟩,ok_Joining_act F65 T  (fun i hi=>by simp only [List.mem_cons,List.not_mem_nil,or_false] at hi; rcases hi with rfl | rfl | rfl | rfl | rfl | rfl <;> first | exact M_Low_reckoned.mono (by decide) | exact M_High_reckoned.mono (by decide) | exact M_And_reckoned.mono (by decide) | exact M_Or_reckoned.mono (by decide) | exact M_Unlike_reckoned.mono (by decide) | exact M_Under_reckoned.mono (by decide)),b65⟩
 have M_Unlike_act:MHas l.prog w K mg base 6 c_Unlike "act" ["self", "width", "words", "marks"] (spAct ⟨c_Set,c_Copy,c_Sum,c_Gap,c_Low,c_High,c_Left,c_Right,c_Slide,c_And,c_Or,c_Unlike,c_Under,c_Pick,c_Mark,c_Turns,c_Step,c_ROW_WORDS,c_MARKS⟩ [4,5,9,10,11,12]):=⟨T.cl_Unlike,_,_,⟨h_Unlike_act,i65,k65⟩,ok_Joining_act F65 T  (fun i hi=>by simp only [List.mem_cons,List.not_mem_nil,or_false] at hi; rcases hi with rfl | rfl | rfl | rfl | rfl | rfl <;> first | exact M_Low_reckoned.mono (by decide) | exact M_High_reckoned.mono (by decide) | exact M_And_reckoned.mono (by decide) | exact M_Or_reckoned.mono (by decide) | exact M_Unlike_reckoned.mono (by decide) | exact M_Under_reckoned.mono (by decide)),b65⟩
 have M_Under_act:MHas l.prog w K mg base 6 c_Under "act" ["self", "width", "words", "marks"] (spAct ⟨c_Set,c_Copy,c_Sum,c_Gap,c_Low,c_High,c_Left,c_Right,c_Slide,c_And,c_Or,c_Unlike,c_Under,c_Pick,c_Mark,c_Turns,c_Step,c_ROW_WORDS,c_MARKS⟩ [4,5,9,10,11,12]):=⟨T.cl_Under,_,_,⟨h_Under_act,i65,k65⟩,ok_Joining_act F65 T  (fun i hi=>by simp only [List.mem_cons,List.not_mem_nil,or_false] at hi; rcases hi with rfl | rfl | rfl | rfl | rfl | rfl <;> first | exact M_Low_reckoned.mono (by decide) | exact M_High_reckoned.mono (by decide) | exact M_And_reckoned.mono (by decide) | exact M_Or_reckoned.mono (by decide) | exact M_Unlike_reckoned.mono (by decide) | exact M_Under_reckoned.mono (by decide)),b65⟩
 have M_Joining_act:MHas l.prog w K mg base 6 c_Low "act" ["self", "width", "words", "marks"] (spAct ⟨c_Set,c_Copy,c_Sum,c_Gap,c_Low,c_High,c_Left,c_Right,c_Slide,c_And,c_Or,c_Unlike,c_Under,c_Pick,c_Mark,c_Turns,c_Step,c_ROW_WORDS,c_MARKS⟩ [4,5,9,10,11,12]):=⟨T.cl_Low,_,_,⟨a65,i65,k65⟩,ok_Joining_act F65 T  (fun i hi=>by simp only [List.mem_cons,List.not_mem_nil,or_false] at hi; rcases hi with rfl | rfl | rfl | rfl | rfl | rfl <;> first | exact M_Low_reckoned.mono (by decide) | exact M_High_reckoned.mono (by decide) | exact M_And_reckoned.mono (by decide) | exact M_Or_reckoned.mono (by decide) | exact M_Unlike_reckoned.mono (by decide) | exact M_Under_reckoned.mono (by decide)),b65⟩
 have M_Right_act:MHas l.prog w K mg base 6 c_Right "act" ["self", "width", "words", "marks"] (spAct ⟨c_Set,c_Copy,c_Sum,c_Gap,c_Low,c_High,c_Left,c_Right,c_Slide,c_And,c_Or,c_Unlike,c_Under,c_Pick,c_Mark,c_Turns,c_Step,c_ROW_WORDS,c_MARKS⟩ [6,7,8]):=⟨T.cl_Right,_,_,⟨h_Right_act,i66,k66⟩,ok_Moving_act F66 T  (fun i hi=>by simp only [List.mem_cons,List.not_mem_nil,or_false] at hi; rcases hi with rfl | rfl | rfl <;> first | exact M_Left_moved.mono (by decide) | exact M_Right_moved.mono (by decide) | exact M_Slide_moved.mono (by decide)),b66⟩
 have M_Slide_act:MHas l.prog w K mg base 6 c_Slide "act" ["self", "width", "words", "marks"] (spAct ⟨c_Set,c_Copy,c_Sum,c_Gap,c_Low,c_High,c_Left,c_Right,c_Slide,c_And,c_Or,c_Unlike,c_Under,c_Pick,c_Mark,c_Turns,c_Step,c_ROW_WORDS,c_MARKS⟩ [6,7,8]):=⟨T.cl_Slide,_,_,⟨h_Slide_act,i66,k66⟩,ok_Moving_act F66 T  (fun i hi=>by simp only [List.mem_cons,List.not_mem_nil,or_false] at hi; rcases hi with rfl | rfl | rfl <;> first | exact M_Left_moved.mono (by decide) | exact M_Right_moved.mono (by decide) | exact M_Slide_moved.mono (by decide)),b66⟩
 have M_Moving_act:MHas l.prog w K mg base 6 c_Left "act" ["self", "width", "words", "marks"] (spAct ⟨c_Set,c_Copy,c_Sum,c_Gap,c_Low,c_High,c_Left,c_Right,c_Slide,c_And,c_Or,c_Unlike,c_Under,c_Pick,c_Mark,c_Turns,c_Step,c_ROW_WORDS,c_MARKS⟩ [6,7,8]):=⟨T.cl_Left,_,_,⟨a66,i66,k66⟩,ok_Moving_act F66 T  (fun i hi=>by simp only [List.mem_cons,List.not_mem_nil,or_false] at hi; rcases hi with rfl | rfl | rfl <;> first | exact M_Left_moved.mono (by decide) | exact M_Right_moved.mono (by decide) | exact M_Slide_moved.mono (by decide)),b66⟩
 have M_Pick_act:MHas l.prog w K mg base 1 c_Pick "act" ["self", "width", "words", "marks"] (spAct ⟨c_Set,c_Copy,c_Sum,c_Gap,c_Low,c_High,c_Left,c_Right,c_Slide,c_And,c_Or,c_Unlike,c_Under,c_Pick,c_Mark,c_Turns,c_Step,c_ROW_WORDS,c_MARKS⟩ [13]):=⟨T.cl_Pick,_,_,⟨a67,i67,k67⟩,ok_Pick_act F67 T ,b67⟩
 have M_Mark_act:MHas l.prog w K mg base 1 c_Mark "act" ["self", "width", "words", "marks"] (spAct ⟨c_Set,c_Copy,c_Sum,c_Gap,c_Low,c_High,c_Left,c_Right,c_Slide,c_And,c_Or,c_Unlike,c_Under,c_Pick,c_Mark,c_Turns,c_Step,c_ROW_WORDS,c_MARKS⟩ [14]):=⟨T.cl_Mark,_,_,⟨a68,i68,k68⟩,ok_Mark_act F68 T ,b68⟩
 have MW:∀ k,k < 15→MHas l.prog w K mg base 1 (fOf ⟨c_Set,c_Copy,c_Sum,c_Gap,c_Low,c_High,c_Left,c_Right,c_Slide,c_And,c_Or,c_Unlike,c_Under,c_Pick,c_Mark,c_Turns,c_Step,c_ROW_WORDS,c_MARKS⟩ k) "word" ["self"] (spWd (wOf k)):=fun k hk=>by
  rcases (by omega:k = 0∨k = 1∨k = 2∨k = 3∨k = 4∨k = 5∨k = 6∨k = 7∨k = 8∨k = 9∨k = 10∨k = 11∨k = 12∨k = 13∨k = 14) with rfl | rfl | rfl | rfl | rfl | rfl | rfl | rfl | rfl | rfl | rfl | rfl | rfl | rfl | rfl
  ·exact M_Set_word
  ·exact M_Copy_word
  ·exact M_Sum_word
  ·exact M_Gap_word
  ·exact M_Low_word
  ·exact M_High_word
  ·exact M_Left_word
  ·exact M_Right_word
  ·exact M_Slide_word
  ·exact M_And_word
  ·exact M_Or_word
  ·exact M_Unlike_word
  ·exact M_Under_word
  ·exact M_Pick_word
  ·exact M_Mark_word
 have MG:∀ k,k < 15→MHas l.prog w K mg base 4 (fOf ⟨c_Set,c_Copy,c_Sum,c_Gap,c_Low,c_High,c_Left,c_Right,c_Slide,c_And,c_Or,c_Unlike,c_Under,c_Pick,c_Mark,c_Turns,c_Step,c_ROW_WORDS,c_MARKS⟩ k) "good_at" ["self", "width"] (spGood ⟨c_Set,c_Copy,c_Sum,c_Gap,c_Low,c_High,c_Left,c_Right,c_Slide,c_And,c_Or,c_Unlike,c_Under,c_Pick,c_Mark,c_Turns,c_Step,c_ROW_WORDS,c_MARKS⟩ [k]):=fun k hk=>by
  rcases (by omega:k = 0∨k = 1∨k = 2∨k = 3∨k = 4∨k = 5∨k = 6∨k = 7∨k = 8∨k = 9∨k = 10∨k = 11∨k = 12∨k = 13∨k = 14) with rfl | rfl | rfl | rfl | rfl | rfl | rfl | rfl | rfl | rfl | rfl | rfl | rfl | rfl | rfl
  ·exact (M_Set_good_at.mono (by decide)).imp fun vs H Q E h=>spGood_one (by decide) h
  ·exact (M_Copy_good_at.mono (by decide)).imp fun vs H Q E h=>spGood_one (by decide) h
  ·exact (M_Carrying_good_at.mono (by decide)).imp fun vs H Q E h=>spGood_one (by decide) h
  ·exact (M_Gap_good_at.mono (by decide)).imp fun vs H Q E h=>spGood_one (by decide) h
  ·exact (M_Joining_good_at.mono (by decide)).imp fun vs H Q E h=>spGood_one (by decide) h
  ·exact (M_High_good_at.mono (by decide)).imp fun vs H Q E h=>spGood_one (by decide) h
  ·exact (M_Moving_good_at.mono (by decide)).imp fun vs H Q E h=>spGood_one (by decide) h
  ·exact (M_Right_good_at.mono (by decide)).imp fun vs H Q E h=>spGood_one (by decide) h
  ·exact (M_Slide_good_at.mono (by decide)).imp fun vs H Q E h=>spGood_one (by decide) h
  ·exact (M_And_good_at.mono (by decide)).imp fun vs H Q E h=>spGood_one (by decide) h
  ·exact (M_Or_good_at.mono (by decide)).imp fun vs H Q E h=>spGood_one (by decide) h
  ·exact (M_Unlike_good_at.mono (by decide)).imp fun vs H Q E h=>spGood_one (by decide) h
  ·exact (M_Under_good_at.mono (by decide)).imp fun vs H Q E h=>spGood_one (by decide) h
  ·exact (M_Pick_good_at.mono (by decide)).imp fun vs H Q E h=>spGood_one (by decide) h
  ·exact (M_Mark_good_at.mono (by decide)).imp fun vs H Q E h=>spGood_one (by decide) h
 have MA:∀ k,k < 15→MHas l.prog w K mg base 6 (fOf ⟨c_Set,c_Copy,c_Sum,c_Gap,c_Low,c_High,c_Left,c_Right,c_Slide,c_And,c_Or,c_Unlike,c_Under,c_Pick,c_Mark,c_Turns,c_Step,c_ROW_WORDS,c_MARKS⟩ k) "act" ["self", "width", "words", "marks"] (spAct ⟨c_Set,c_Copy,c_Sum,c_Gap,c_Low,c_High,c_Left,c_Right,c_Slide,c_And,c_Or,c_Unlike,c_Under,c_Pick,c_Mark,c_Turns,c_Step,c_ROW_WORDS,c_MARKS⟩ [k]):=fun k hk=>by
  rcases (by omega:k = 0∨k = 1∨k = 2∨k = 3∨k = 4∨k = 5∨k = 6∨k = 7∨k = 8∨k = 9∨k = 10∨k = 11∨k = 12∨k = 13∨k = 14) with rfl | rfl | rfl | rfl | rfl | rfl | rfl | rfl | rfl | rfl | rfl | rfl | rfl | rfl | rfl
  ·exact (M_Set_act.mono (by decide)).imp fun vs H Q E h=>spAct_one (by decide) h
  ·exact (M_Copy_act.mono (by decide)).imp fun vs H Q E h=>spAct_one (by decide) h
  ·exact (M_Carrying_act.mono (by decide)).imp fun vs H Q E h=>spAct_one (by decide) h
  ·exact (M_Gap_act.mono (by decide)).imp fun vs H Q E h=>spAct_one (by decide) h
  ·exact (M_Joining_act.mono (by decide)).imp fun vs H Q E h=>spAct_one (by decide) h
  ·exact (M_High_act.mono (by decide)).imp fun vs H Q E h=>spAct_one (by decide) h
  ·exact (M_Moving_act.mono (by decide)).imp fun vs H Q E h=>spAct_one (by decide) h
  ·exact (M_Right_act.mono (by decide)).imp fun vs H Q E h=>spAct_one (by decide) h
  ·exact (M_Slide_act.mono (by decide)).imp fun vs H Q E h=>spAct_one (by decide) h
  ·exact (M_And_act.mono (by decide)).imp fun vs H Q E h=>spAct_one (by decide) h
  ·exact (M_Or_act.mono (by decide)).imp fun vs H Q E h=>spAct_one (by decide) h
  ·exact (M_Unlike_act.mono (by decide)).imp fun vs H Q E h=>spAct_one (by decide) h
  ·exact (M_Under_act.mono (by decide)).imp fun vs H Q E h=>spAct_one (by decide) h
  ·exact (M_Pick_act.mono (by decide)).imp fun vs H Q E h=>spAct_one (by decide) h
  ·exact (M_Mark_act.mono (by decide)).imp fun vs H Q E h=>spAct_one (by decide) h
 have MT:∀ k,k < 15→MHas l.prog w K mg base 2 (fOf ⟨c_Set,c_Copy,c_Sum,c_Gap,c_Low,c_High,c_Left,c_Right,c_Slide,c_And,c_Or,c_Unlike,c_Under,c_Pick,c_Mark,c_Turns,c_Step,c_ROW_WORDS,c_MARKS⟩ k) "told" ["self"] (spTold ⟨c_Set,c_Copy,c_Sum,c_Gap,c_Low,c_High,c_Left,c_Right,c_Slide,c_And,c_Or,c_Unlike,c_Under,c_Pick,c_Mark,c_Turns,c_Step,c_ROW_WORDS,c_MARKS⟩ [k]):=fun k hk=>by
  rcases (by omega:k = 0∨k = 1∨k = 2∨k = 3∨k = 4∨k = 5∨k = 6∨k = 7∨k = 8∨k = 9∨k = 10∨k = 11∨k = 12∨k = 13∨k = 14) with rfl | rfl | rfl | rfl | rfl | rfl | rfl | rfl | rfl | rfl | rfl | rfl | rfl | rfl | rfl
  ·exact (M_Set_told.mono (by decide)).imp fun vs H Q E h=>spTold_one (by decide) h
  ·exact (M_Copy_told.mono (by decide)).imp fun vs H Q E h=>spTold_one (by decide) h
  ·exact (M_Carrying_told.mono (by decide)).imp fun vs H Q E h=>spTold_one (by decide) h
  ·exact (M_Gap_told.mono (by decide)).imp fun vs H Q E h=>spTold_one (by decide) h
  ·exact (M_Joining_told.mono (by decide)).imp fun vs H Q E h=>spTold_one (by decide) h
  ·exact (M_High_told.mono (by decide)).imp fun vs H Q E h=>spTold_one (by decide) h
  ·exact (M_Moving_told.mono (by decide)).imp fun vs H Q E h=>spTold_one (by decide) h
  ·exact (M_Right_told.mono (by decide)).imp fun vs H Q E h=>spTold_one (by decide) h
  ·exact (M_Slide_told.mono (by decide)).imp fun vs H Q E h=>spTold_one (by decide) h
  ·exact (M_And_told.mono (by decide)).imp fun vs H Q E h=>spTold_one (by decide) h
  ·exact (M_Or_told.mono (by decide)).imp fun vs H Q E h=>spTold_one (by decide) h
  ·exact (M_Unlike_told.mono (by decide)).imp fun vs H Q E h=>spTold_one (by decide) h
  ·exact (M_Under_told.mono (by decide)).imp fun vs H Q E h=>spTold_one (by decide) h
  ·exact (M_Pick_told.mono (by decide)).imp fun vs H Q E h=>spTold_one (by decide) h
  ·exact (M_Mark_told.mono (by decide)).imp fun vs H Q E h=>spTold_one (by decide) h
 have H__law_begun:Has l.prog w K mg base 1 "_law_begun" ["_law_cell_here"] spBox:=⟨_,_,ok__law_begun F77 T ,b77,k77,PySem.W.mg_of X G a77⟩
 have H__law_draw:Has l.prog w K mg base 1 "_law_draw" ["_law_state", "_law_many"] spTake3:=⟨_,_,ok__law_draw F78 T ,b78,k78,PySem.W.mg_of X G a78⟩
 have H__law_names:Has l.prog w K mg base 2 "_law_names" ["_law_state"] spNames:=⟨_,_,ok__law_names F81 T H__law_draw,b81,k81,PySem.W.mg_of X G a81⟩
 have H__law_name:Has l.prog w K mg base 2 "_law_name" ["_law_state", "_law_names_here"] spName:=⟨_,_,ok__law_name F82 T H__law_draw,b82,k82,PySem.W.mg_of X G a82⟩
 have H__law_sorts:Has l.prog w K mg base 1 "_law_sorts" [] spSorts:=⟨_,_,ok__law_sorts F83 T ,b83,k83,PySem.W.mg_of X G a83⟩
 have H__law_word:Has l.prog w K mg base 2 "_law_word" ["_law_state", "_law_width"] spWrd:=⟨_,_,ok__law_word F80 T H__law_draw,b80,k80,PySem.W.mg_of X G a80⟩
 have H__law_row:Has l.prog w K mg base 3 "_law_row" ["_law_state", "_law_width", "_law_names_here"] spRowL:=⟨_,_,ok__law_row F84 T H__law_name H__law_sorts H__law_draw H__law_word,b84,k84,PySem.W.mg_of X G a84⟩
 have H__law_cell:Has l.prog w K mg base 1 "_law_cell" ["_law_script", "_law_k"] (spCell K):=⟨_,_,ok__law_cell F76 T ,b76,k76,PySem.W.mg_of X G a76⟩
 have H__law_rows:Has l.prog w K mg base 4 "_law_rows" ["_law_script", "_law_width", "_law_names_here"] (spRowsL K):=⟨_,_,ok__law_rows F92 T H__law_row H__law_begun H__law_cell,b92,k92,PySem.W.mg_of X G a92⟩
 have H__law_moved:Has l.prog w K mg base 1 "_law_moved" ["_law_word_here", "_law_a", "_law_k", "_law_size"] spMovd:=⟨_,_,ok__law_moved F88 T ,b88,k88,PySem.W.mg_of X G a88⟩
 have H__law_pair_word:Has l.prog w K mg base 1 "_law_pair_word" ["_law_word_here", "_law_a", "_law_b", "_law_size"] spPairW:=⟨_,_,ok__law_pair_word F87 T ,b87,k87,PySem.W.mg_of X G a87⟩
 have H__law_done:Has l.prog w K mg base 2 "_law_done" ["_law_size", "_law_row_here", "_law_held", "_law_marks"] spDone:=⟨_,_,ok__law_done F89 T H__law_moved H__law_pair_word,b89,k89,PySem.W.mg_of X G a89⟩
 have H__law_due:Has l.prog w K mg base 3 "_law_due" ["_law_width", "_law_rows_here", "_law_held"] spDueL:=⟨_,_,ok__law_due F93 T H__law_done,b93,k93,PySem.W.mg_of X G a93⟩
 have H_is_good:Has l.prog w K mg base 5 "is_good" ["width", "thing", "about"] (spGoodR ⟨c_Set,c_Copy,c_Sum,c_Gap,c_Low,c_High,c_Left,c_Right,c_Slide,c_And,c_Or,c_Unlike,c_Under,c_Pick,c_Mark,c_Turns,c_Step,c_ROW_WORDS,c_MARKS⟩):=⟨_,_,ok_is_good F69 T  MG,b69,k69,PySem.W.mg_of X G a69⟩
 have H_place_behind:Has l.prog w K mg base 6 "place_behind" ["width", "steps", "place", "about"] (spPlace ⟨c_Set,c_Copy,c_Sum,c_Gap,c_Low,c_High,c_Left,c_Right,c_Slide,c_And,c_Or,c_Unlike,c_Under,c_Pick,c_Mark,c_Turns,c_Step,c_ROW_WORDS,c_MARKS⟩):=⟨_,_,ok_place_behind F70 T H_is_good,b70,k70,PySem.W.mg_of X G a70⟩
 have H_row_words:Has l.prog w K mg base 1 "row_words" [] spRW:=⟨_,_,ok_row_words F12 T ,b12,k12,PySem.W.mg_of X G a12⟩
 have H_count_words:Has l.prog w K mg base 2 "count_words" ["steps", "times", "counts"] (spCount ⟨c_Set,c_Copy,c_Sum,c_Gap,c_Low,c_High,c_Left,c_Right,c_Slide,c_And,c_Or,c_Unlike,c_Under,c_Pick,c_Mark,c_Turns,c_Step,c_ROW_WORDS,c_MARKS⟩):=⟨_,_,ok_count_words F71 T  MW,b71,k71,PySem.W.mg_of X G a71⟩
 have H_need_steps:Has l.prog w K mg base 7 "need_steps" ["width", "steps"] (spNeedS ⟨c_Set,c_Copy,c_Sum,c_Gap,c_Low,c_High,c_Left,c_Right,c_Slide,c_And,c_Or,c_Unlike,c_Under,c_Pick,c_Mark,c_Turns,c_Step,c_ROW_WORDS,c_MARKS⟩):=⟨_,_,ok_need_steps F72 T H_need_width H_place_behind H_row_words H_count_words,b72,k72,PySem.W.mg_of X G a72⟩
 have H_need_registers:Has l.prog w K mg base 4 "need_registers" ["width", "registers"] spNeedR:=⟨_,_,ok_need_registers F74 T H_is_register H_is_word,b74,k74,PySem.W.mg_of X G a74⟩
 have H_run_steps:Has l.prog w K mg base 8 "run_steps" ["width", "steps", "registers"] (spRunL ⟨c_Set,c_Copy,c_Sum,c_Gap,c_Low,c_High,c_Left,c_Right,c_Slide,c_And,c_Or,c_Unlike,c_Under,c_Pick,c_Mark,c_Turns,c_Step,c_ROW_WORDS,c_MARKS⟩):=⟨_,_,ok_run_steps F75 T H_need_steps H_need_registers MA,b75,k75,PySem.W.mg_of X G a75⟩
 have H__law_made_pair:Has l.prog w K mg base 3 "_law_made_pair" ["_law_row_here"] (spMade ⟨c_Set,c_Copy,c_Sum,c_Gap,c_Low,c_High,c_Left,c_Right,c_Slide,c_And,c_Or,c_Unlike,c_Under,c_Pick,c_Mark,c_Turns,c_Step,c_ROW_WORDS,c_MARKS⟩ [4,5,9,10,11,12,6,7,8,14]):=⟨_,_,ok__law_made_pair F85 T C_Mark C_Low C_High C_And C_Or C_Unlike C_Under C_Left C_Right C_Slide,b85,k85,PySem.W.mg_of X G a85⟩
 have H__law_made:Has l.prog w K mg base 4 "_law_made" ["_law_row_here"] (spMade ⟨c_Set,c_Copy,c_Sum,c_Gap,c_Low,c_High,c_Left,c_Right,c_Slide,c_And,c_Or,c_Unlike,c_Under,c_Pick,c_Mark,c_Turns,c_Step,c_ROW_WORDS,c_MARKS⟩ [0,1,2,3,4,5,6,7,8,9,10,11,12,13,14]):=⟨_,_,ok__law_made F86 T H__law_made_pair C_Set C_Copy C_Sum C_Gap C_Pick,b86,k86,PySem.W.mg_of X G a86⟩
 have H__law_whole:Has l.prog w K mg base 1 "_law_whole" ["_law_found"] spWhole:=⟨_,_,ok__law_whole F79 T ,b79,k79,PySem.W.mg_of X G a79⟩
 have H__law_words:Has l.prog w K mg base 2 "_law_words" [] spWordsL:=⟨_,_,ok__law_words F90 T H__law_sorts,b90,k90,PySem.W.mg_of X G a90⟩
 have H__law_same:Has l.prog w K mg base 3 "_law_same" ["_law_found", "_law_held", "_law_marks", "_law_counts"] spSameL:=⟨_,_,ok__law_same F91 T H__law_whole H__law_words,b91,k91,PySem.W.mg_of X G a91⟩
 have H_check_steps:Has l.prog w K mg base 8 "check_steps" ["width", "steps"] (spCheck ⟨c_Set,c_Copy,c_Sum,c_Gap,c_Low,c_High,c_Left,c_Right,c_Slide,c_And,c_Or,c_Unlike,c_Under,c_Pick,c_Mark,c_Turns,c_Step,c_ROW_WORDS,c_MARKS⟩):=⟨_,_,ok_check_steps F73 T H_need_steps,b73,k73,PySem.W.mg_of X G a73⟩
 have H__law_run:Has l.prog w K mg base 9 "_law_run" ["_law_width", "_law_rows_here", "_law_held"] (spRunLaw ⟨c_Set,c_Copy,c_Sum,c_Gap,c_Low,c_High,c_Left,c_Right,c_Slide,c_And,c_Or,c_Unlike,c_Under,c_Pick,c_Mark,c_Turns,c_Step,c_ROW_WORDS,c_MARKS⟩):=⟨_,_,ok__law_run F94 T H_run_steps H__law_due H__law_made H__law_same H_check_steps MT,b94,k94,PySem.W.mg_of X G a94⟩
 exact ok_law F95 T H__law_begun H__law_names H__law_rows H__law_draw H__law_due H_run_steps H__law_cell H__law_word H__law_run H__law_made H__law_words
theorem walk {l:PySem.W.OpenLaw} {q:Program} {loose:List Str} {XP:(Str→Option Value)→Heap→Prop} {YP:World→Heap→Prop} {d:DefRec} {K:Params→PySem.W.Frag} (hn:l.most = some 63) (hdf:d.params.defaults = [])
  (hY:∀ (w:World) (h:Heap),YP w h→(K w.params).In h)
  (F:∀ (w:World) (mg:Str→Option Value) (fa:Addr) (h:Heap),(K w.params).In h→h.Ns mainGlobals mg→mg d.name = some (.ref fa) →
   ∃ fd:FuncData,(∀ (s:Shared) (u:Value),BindsTo s fd ⟨[u],[]⟩ [("_law_script",u)])∧∀ base:Heap,(K w.params).In base→base.Ns mainGlobals mg→FnOk l.prog w (K w.params) mg base CX0 10 fa fd ["_law_script"] (spLaw (K w.params))) :
  PySem.W.WalkO q loose XP YP l.row.toRowW d [] (fun f vs=>PySem.call f vs) :=
 L2.walk_of (n:=63) (k:=10) (x:="_law_script") (CX:=fun _=>CX0) (sp:=fun w=>spLaw (K w.params)) hn (by decide) hdf ⟨rfl,by decide,by decide,rfl⟩ hY F (fun _ _ a ns hl _ hS=>⟨a,ns,rfl,hS,hl,fun _=>rfl⟩) fun _ _ _ _ _ z=>z
end Ow
open PySem PySem.W PyProof.Rows
def PySem.W.Fast.tw5935838981823212359:Nat:=0
def PySem.W.Fast.tw2150165685849716583:Nat:=0
def PySem.W.Fast.tw4986507499739970674:Nat:=0
def PySem.W.Fast.tw14390565891152400668:Nat:=0
def PySem.W.Fast.tw7998579509511561914:Nat:=0
def PySem.W.Fast.tw843131750366734246:Nat:=0
def PySem.W.Fast.tw2627343833956504000:Nat:=0
def PySem.W.Fast.tw1837759587321384056:Nat:=0
def PySem.W.Fast.tw6519537443886465353:Nat:=0
def PySem.W.Fast.tw18310976243020760847:Nat:=0
def PySem.W.Fast.tw15690570822408171405:Nat:=0
def PySem.W.Fast.tw16655123587200846490:Nat:=0
def PySem.W.Fast.tw41143489459228406:Nat:=0
def PySem.W.Fast.tw5078612766909236616:Nat:=0
def PySem.W.Fast.tw18115832235904015403:Nat:=0
def PySem.W.Fast.tw11892596457874550137:Nat:=0
def PySem.W.Fast.tw7752182577046996147:Nat:=0
def PySem.W.Fast.tw11644239356817361820:Nat:=0
def PySem.W.Fast.tw10023860011283980807:Nat:=0
def PySem.W.Fast.tw5223702662287938338:Nat:=0
def PySem.W.Fast.tw10721117861119289781:Nat:=0
def PySem.W.Fast.tw4454129363257571184:Nat:=0
def PySem.W.Fast.tw14409278231682705838:Nat:=0
def PySem.W.Fast.tw15535177119166166608:Nat:=0
def PySem.W.Fast.tw9099826532280016080:Nat:=0
def PySem.W.Fast.tw2663023083565862149:Nat:=0
def PySem.W.Fast.tw3551550035230800787:Nat:=0
def PySem.W.Fast.tw359643857315412439:Nat:=0
def PySem.W.Fast.tw9980789180489254218:Nat:=0
def PySem.W.Fast.tw10894683736099861618:Nat:=0
def PySem.W.Fast.tw5645162165420326841:Nat:=0
def PySem.W.Fast.tw736570033192043165:Nat:=0
def PySem.W.Fast.tw12158105813001862149:Nat:=0
def PySem.W.Fast.tw2126321117138909475:Nat:=0
def PySem.W.Fast.tw11099502759117807288:Nat:=0
def PySem.W.Fast.tw4690107825543647324:Nat:=0
def PySem.W.Fast.tw9076078490960554637:Nat:=0
def PySem.W.Fast.tw66603366649740513:Nat:=0
def PySem.W.Fast.tw10134271490741944800:Nat:=0
def PySem.W.Fast.tw14788848146062745693:Nat:=0
def PySem.W.Fast.tw14041551818342275244:Nat:=0
def PySem.W.Fast.tw10897672590802349710:Nat:=0
def PySem.W.Fast.tw9744115873855596050:Nat:=0
def PySem.W.Fast.tw16710635093096948206:Nat:=0
def PySem.W.Fast.tw8271747130180246171:Nat:=0
def PySem.W.Fast.tw17518955805367209578:Nat:=0
def PySem.W.Fast.tw14978394989744667379:Nat:=0
def PySem.W.Fast.tw1849143079691934923:Nat:=0
def PySem.W.Fast.tw3561098164104777765:Nat:=0
def PySem.W.Fast.tw11176759204181837081:Nat:=0
def PySem.W.Fast.tw15582106750248280856:Nat:=0
def PySem.W.Fast.tw4314498383044232816:Nat:=0
def PySem.W.Fast.tw17262532290402566247:Nat:=0
def PySem.W.Fast.tw5922733690158758338:Nat:=0
def PySem.W.Fast.tw17243140835449302848:Nat:=0
def PySem.W.Fast.tw8093691276294168371:Nat:=0
def PySem.W.Fast.tw1046419178118715729:Nat:=0
def PySem.W.Fast.tw18421407741749834103:Nat:=0
def PySem.W.Fast.tw15053891404990508673:Nat:=0
def PySem.W.Fast.tw6848142849855450126:Nat:=0
def PySem.W.Fast.tw15740812527402414837:Nat:=0
def PySem.W.Fast.tw5307673797890506163:Nat:=0
def PySem.W.Fast.tw5814289920416975101:Nat:=0
def PySem.W.Fast.tw11289887918917809337:Nat:=0
def PySem.W.Fast.tw12040367593619728549:Nat:=0
def PySem.W.Fast.tw17388013503752757463:Nat:=0
def PySem.W.Fast.tw16056001662901073119:Nat:=0
def PySem.W.Fast.tw16773504464212010366:Nat:=0
def PySem.W.Fast.tw17187848889814048068:Nat:=0
def PySem.W.Fast.tw16831076126312654665:Nat:=0
def PySem.W.Fast.tw3577439846300578122:Nat:=0
def PySem.W.Fast.tw5832985154434580710:Nat:=0
def PySem.W.Fast.tw13179294113071669277:Nat:=0
def PySem.W.Fast.tw15409738079491176118:Nat:=0
def PySem.W.Fast.tw3413478053627681916:Nat:=0
def PySem.W.Fast.tw15524567951294442129:Nat:=0
def PySem.W.Fast.tw6160905615249309977:Nat:=0
def PySem.W.Fast.tw10196428478190641956:Nat:=0
def PySem.W.Fast.tw15621767327180948415:Nat:=0
def PySem.W.Fast.tw1061769989561531262:Nat:=0
def PySem.W.Fast.tw8661322958405347267:Nat:=0
def PySem.W.Fast.tw8062848274279343497:Nat:=0
def PySem.W.Fast.tw7782720925027145402:Nat:=0
def PySem.W.Fast.tw91374434558865788:Nat:=0
def PySem.W.Fast.tw750789727660885600:Nat:=0
def PySem.W.Fast.tw5380077632848077229:Nat:=0
def PySem.W.Fast.tw13000937428337938872:Nat:=0
def PySem.W.Fast.tw17456483498844140079:Nat:=0
def PySem.W.Fast.tw11445366194178641480:Nat:=0
def PySem.W.Fast.tw4735218159752562048:Nat:=0
def PySem.W.Fast.tw5852171966099617057:Nat:=0
def PySem.W.Fast.tw17840934473831221190:Nat:=0
def PySem.W.Fast.tw3405833871248873961:Nat:=0
def PySem.W.Fast.tw9259874673329716964:Nat:=0
def PySem.W.Fast.tw2493310401625079686:Nat:=0
def PySem.W.Fast.tw9415532972194493219:Nat:=0
def PySem.W.Fast.tw7629694280011157107:Nat:=0
def PySem.W.Fast.tw6855004549279800433:Nat:=0
def PySem.W.Fast.tw18202667945274876431:Nat:=0
def PySem.W.Fast.tw17611051761572421582:Nat:=0
def PySem.W.Fast.tw3513399625092340111:Nat:=0
def PySem.W.Fast.tw5791619583017876239:Nat:=0
def PySem.W.Fast.tw3107603038446086756:Nat:=0
def PySem.W.Fast.tw8043775329325560710:Nat:=0
def PySem.W.Fast.tw15305459383582943244:Nat:=0
def PySem.W.Fast.tw15553261918929202392:Nat:=0
def PySem.W.Fast.tw7788508224374671907:Nat:=0
def PySem.W.Fast.tw10962921494485309202:Nat:=0
def PySem.W.Fast.tw13624845074982997947:Nat:=0
def PySem.W.Fast.tw5909737662170303219:Nat:=0
def PySem.W.Fast.tw15278422680376120516:Nat:=0
def PySem.W.Fast.tw16049299894154016354:Nat:=0
def PySem.W.Fast.tw16066220264413586839:Nat:=0
def PySem.W.Fast.tw2543803375584242218:Nat:=0
def PySem.W.Fast.tw3884943435825779368:Nat:=0
def PySem.W.Fast.tw7680582059390884010:Nat:=0
def PySem.W.Fast.tw9578906433321330638:Nat:=0
def PySem.W.Fast.tw190013755342664159:Nat:=0
def PySem.W.Fast.tw3781668914819257840:Nat:=0
def PySem.W.Fast.tw17722205866253132375:Nat:=0
def PySem.W.Fast.tw1196488970002304410:Nat:=0
def PySem.W.Fast.tw16099080312543025951:Nat:=0
def PySem.W.Fast.tw12732202024591208048:Nat:=0
def PySem.W.Fast.tw16841694661730431953:Nat:=0
def PySem.W.Fast.tw4473789383828574922:Nat:=0
def PySem.W.Fast.tw7125434020845315189:Nat:=0
def PySem.W.Fast.tw2856183678109035802:Nat:=0
def PySem.W.Fast.tw9039978828146236057:Nat:=0
def PySem.W.Fast.tw12165391031804951054:Nat:=0
def PySem.W.Fast.tw6237967179953257437:Nat:=0
def PySem.W.Fast.tw5580862929067288935:Nat:=0
def PySem.W.Fast.tw13451510147430115650:Nat:=0
def PySem.W.Fast.tw12867225823268981873:Nat:=0
def PySem.W.Fast.tw4811402392694943019:Nat:=0
def PySem.W.Fast.tw4429448384798602794:Nat:=0
def PySem.W.Fast.tw2454856658120086738:Nat:=0
def PySem.W.Fast.tw2502051113228137018:Nat:=0
def PySem.W.Fast.tw5477262165659234404:Nat:=0
def PySem.W.Fast.tw10659107898607235595:Nat:=0
def PySem.W.Fast.tw3894235974758905362:Nat:=0
def PySem.W.Fast.tw5919045963826672786:Nat:=0
def PySem.W.Fast.tw1074430645958922728:Nat:=0
def PySem.W.Fast.tw1665986560153577105:Nat:=0
def PySem.W.Fast.tw3221044804298912432:Nat:=0
def PySem.W.Fast.tw13493072324539613052:Nat:=0
def PySem.W.Fast.tw3662033404415060273:Nat:=0
def PySem.W.Fast.tw13910766916294986062:Nat:=0
def PySem.W.Fast.tw6833703706136527851:Nat:=0
def PySem.W.Fast.tw13027216810953279974:Nat:=0
def PySem.W.Fast.tw6030361441722133522:Nat:=0
def PySem.W.Fast.tw1094345035597581105:Nat:=0
def PySem.W.Fast.tw4958388838245361583:Nat:=0
def PySem.W.Fast.tw14873389219567417162:Nat:=0
def PySem.W.Fast.tw11757890253331055173:Nat:=0
def PySem.W.Fast.tw11926843628485425025:Nat:=0
def PySem.W.Fast.tw16082793493201721694:Nat:=0
def PySem.W.Fast.tw16324777778325120738:Nat:=0
def PySem.W.Fast.tw7079197487175649558:Nat:=0
def PySem.W.Fast.tw17471355245110556276:Nat:=0
def PySem.W.Fast.tw11171164364966992187:Nat:=0
def PySem.W.Fast.tw11879413541013334168:Nat:=0
def PySem.W.Fast.tw13872167735326581161:Nat:=0
def PySem.W.Fast.tw18003942462502052507:Nat:=0
def PySem.W.Fast.tw1336869661624054422:Nat:=0
def PySem.W.Fast.tw18053253240056444621:Nat:=0
def PySem.W.Fast.tw5914490885504731912:Nat:=0
def PySem.W.Fast.tw11137000225511166875:Nat:=0
def PySem.W.Fast.tw7806882084005249631:Nat:=0
def PySem.W.Fast.tw1760641206712135873:Nat:=0
def PySem.W.Fast.tw5180833082708614987:Nat:=0
def PySem.W.Fast.tw2193368356011695017:Nat:=0
def PySem.W.Fast.tw12418408662817711038:Nat:=0
def PySem.W.Fast.tw10570110995329588407:Nat:=0
def PySem.W.Fast.tw6661242070931593675:Nat:=0
def PySem.W.Fast.tw10880527745420272995:Nat:=0
def PySem.W.Fast.tw5104434418685268701:Nat:=0
def PySem.W.Fast.tw10174945462121165981:Nat:=0
def PySem.W.Fast.tw12296558075741104324:Nat:=0
def PySem.W.Fast.tw15896721171714298239:Nat:=0
def PySem.W.Fast.tw2382842046507853448:Nat:=0
def PySem.W.Fast.tw8695856656489823586:Nat:=0
def PySem.W.Fast.tw11031167706386754162:Nat:=0
def PySem.W.Fast.tw10164775716081843466:Nat:=0
def PySem.W.Fast.tw3962960662445653373:Nat:=0
def PySem.W.Fast.tw9041110986939256621:Nat:=0
def PySem.W.Fast.tw15022701999603367586:Nat:=0
def PySem.W.Fast.tw10608123540918715339:Nat:=0
def PySem.W.Fast.tw13581046437768063460:Nat:=0
def PySem.W.Fast.tw16476872796741656628:Nat:=0
def PySem.W.Fast.tw3666531242005375520:Nat:=0
def PySem.W.Fast.tw12660414901552524442:Nat:=0
def PySem.W.Fast.tw918825551919445461:Nat:=0
def PySem.W.Fast.tw16329181947107485798:Nat:=0
def PySem.W.Fast.tw1555615227079496001:Nat:=0
def PySem.W.Fast.tw8247436428805313266:Nat:=0
def PySem.W.Fast.tw1221404218984492304:Nat:=0
def PySem.W.Fast.tw11557408498504836332:Nat:=0
def PySem.W.Fast.tw13093253725508899142:Nat:=0
def PySem.W.Fast.tw3652469914861370848:Nat:=0
def PySem.W.Fast.tw2561363471493269842:Nat:=0
def PySem.W.Fast.tw7534727511891955465:Nat:=0
def PySem.W.Fast.tw10133607849114603975:Nat:=0
def PySem.W.Fast.tw3142788465350273277:Nat:=0
def PySem.W.Fast.tw5217090659161613673:Nat:=0
def PySem.W.Fast.tw15242661075224737807:Nat:=0
def PySem.W.Fast.tw1465754972343926810:Nat:=0
def PySem.W.Fast.tw18434755162378428770:Nat:=0
def PySem.W.Fast.tw7796954300240365201:Nat:=0
def PySem.W.Fast.tw8431841803665008644:Nat:=0
def PySem.W.Fast.tw14347548576193191543:Nat:=0
def PySem.W.Fast.tw18016016141264779004:Nat:=0
def PySem.W.Fast.tw13054400846048344071:Nat:=0
def PySem.W.Fast.tw14962640995001202155:Nat:=0
def PySem.W.Fast.tw17381820341594143312:Nat:=0
def PySem.W.Fast.tw3428673896225629177:Nat:=0
def PySem.W.Fast.tw17354784565934269862:Nat:=0
def PySem.W.Fast.tw3627487515456677882:Nat:=0
def PySem.W.Fast.tw8356268930115530618:Nat:=0
def PySem.W.Fast.tw4320245210809327863:Nat:=0
def PySem.W.Fast.tw929196176531643063:Nat:=0
def PySem.W.Fast.tw12897896135775410951:Nat:=0
def PySem.W.Fast.tw7242390270990758219:Nat:=0
def PySem.W.Fast.tw13289913357642813586:Nat:=0
def PySem.W.Fast.tw10187786779592272070:Nat:=0
def PySem.W.Fast.tw11853761112365637057:Nat:=0
def PySem.W.Fast.tw15278098459280623473:Nat:=0
def PySem.W.Fast.tw14505381054099577569:Nat:=0
def PySem.W.Fast.tw9044949307553225970:Nat:=0
def PySem.W.Fast.tw4417041791648386720:Nat:=0
def PySem.W.Fast.tw7155216376933984926:Nat:=0
def PySem.W.Fast.tw5642144345875411923:Nat:=0
def PySem.W.Fast.tw14119912771048089772:Nat:=0
def PySem.W.Fast.tw8600155782294044351:Nat:=0
def PySem.W.Fast.tw9261418879876603953:Nat:=0
def PySem.W.Fast.tw3367732206645893575:Nat:=0
def PySem.W.Fast.tw6903041106550981155:Nat:=0
def PySem.W.Fast.tw8920369412367044203:Nat:=0
def PySem.W.Fast.tw409147871854806152:Nat:=0
def PySem.W.Fast.tw17010656380311322088:Nat:=0
def PySem.W.Fast.tw16243123927298722845:Nat:=0
def PySem.W.Fast.tw7388579920511158551:Nat:=0
def PySem.W.Fast.tw952412265621417945:Nat:=0
def PySem.W.Fast.tw6200515971254653026:Nat:=0
def PySem.W.Fast.tw9864212083260419133:Nat:=0
def PySem.W.Fast.tw15243622923871682059:Nat:=0
def PySem.W.Fast.tw8314238069871194141:Nat:=0
def PySem.W.Fast.tw12056798667246652417:Nat:=0
def PySem.W.Fast.tw14325811182365884642:Nat:=0
def PySem.W.Fast.tw16989389768775825948:Nat:=0
def PySem.W.Fast.tw10352766092307551120:Nat:=0
def PySem.W.Fast.tw4276892906911049039:Nat:=0
def PySem.W.Fast.tw530256786455972382:Nat:=0
def PySem.W.Fast.tw8218457915262291388:Nat:=0
def PySem.W.Fast.tw9124088604973506675:Nat:=0
def PySem.W.Fast.tw10577601506148977148:Nat:=0
def PySem.W.Fast.tw17675497903591588090:Nat:=0
def PySem.W.Fast.tw9242761390092935654:Nat:=0
def PySem.W.Fast.tw17388240289568487595:Nat:=0
def PySem.W.Fast.tw10653870086346733815:Nat:=0
def PySem.W.Fast.tw11153367494216709286:Nat:=0
def PySem.W.Fast.tw2531908398982424529:Nat:=0
def PySem.W.Fast.tw14091110952976739270:Nat:=0
def PySem.W.Fast.tw7342725131468493819:Nat:=0
def PySem.W.Fast.tw14569153624822313567:Nat:=0
set_option maxRecDepth 100000 in
set_option maxHeartbeats 0 in
theorem PySem.Challenge.cw_overwise_k72_rows_in_a_list_holds : PySem.Challenge.rw_overwise_k72_rows_in_a_list.Holds := by
 w_on; o_law; k_head; (case hw=>w_witness2)
 k_fill
 refine Ow.walk (l:=PySem.Challenge.rw_overwise_k72_rows_in_a_list) rfl rfl (fun w h Y=>PySem.W.kIn_of Y) ?F
 case F =>
  intro w mg fa h KX G hmg
  refine' Ow.all_mk KX G hmg ?a1 ?l1 ?c1 ?k1 ?a2 ?l2 ?c2 ?k2 ?a3 ?l3 ?c3 ?k3 ?a4 ?l4 ?c4 ?k4 ?a5 ?l5 ?c5 ?k5 ?a6 ?l6 ?c6 ?k6 ?a7 ?l7 ?c7 ?k7 ?a8 ?l8 ?c8 ?k8 ?a9 ?l9 ?c9 ?k9 ?a10 ?l10 ?c10 ?k10 ?a11 ?l11 ?c11 ?k11 ?a12 ?l12 ?c12 ?k12 ?a13 ?l13 ?c13 ?k13 ?a14 ?l14 ?c14 ?k14 ?a15 ?i15 ?l15 ?c15 ?k15 ?a16 ?i16 ?l16 ?c16 ?k16 ?a17 ?i17 ?l17 ?c17 ?k17 ?a18 ?i18 ?l18 ?c18 ?k18 ?a19 ?i19 ?l19 ?c19 ?k19 ?a20 ?i20 ?l20 ?c20 ?k20 ?a21 ?i21 ?l21 ?c21 ?k21 ?a22 ?i22 ?l22 ?c22 ?k22 ?a23 ?i23 ?l23 ?c23 ?k23 ?a24 ?i24 ?l24 ?c24 ?k24 ?a25 ?i25 ?l25 ?c25 ?k25 ?a26 ?i26 ?l26 ?c26 ?k26 ?a27 ?i27 ?l27 ?c27 ?k27 ?a28 ?i28 ?l28 ?c28 ?k28 ?a29 ?i29 ?l29 ?c29 ?k29 ?a30 ?i30 ?l30 ?c30 ?k30 ?a31 ?i31 ?l31 ?c31 ?k31 ?a32 ?i32 ?h_Gap___init__ ?l32 ?c32 ?k32 ?a33 ?i33 ?h_High___init__ ?h_And___init__ ?h_Or___init__ ?h_Unlike___init__ ?h_Under___init__ ?l33 ?c33 ?k33 ?a34 ?i34 ?h_Right___init__ ?h_Slide___init__ ?l34 ?c34 ?k34 ?a35 ?i35 ?l35 ?c35 ?k35 ?a36 ?i36 ?l36 ?c36 ?k36 ?a37 ?i37 ?l37 ?c37 ?k37 ?a38 ?i38 ?l38 ?c38 ?k38 ?a39 ?i39 ?h_Gap_told ?l39 ?c39 ?k39 ?a40 ?i40 ?h_High_told ?h_And_told ?h_Or_told ?h_Unlike_told ?h_Under_told ?l40 ?c40 ?k40 ?a41 ?i41 ?h_Right_told ?h_Slide_told ?l41 ?c41 ?k41 ?a42 ?i42 ?l42 ?c42 ?k42 ?a43 ?i43 ?l43 ?c43 ?k43 ?a44 ?i44 ?l44 ?c44 ?k44 ?a45 ?i45 ?l45 ?c45 ?k45 ?a46 ?i46 ?l46 ?c46 ?k46 ?a47 ?i47 ?l47 ?c47 ?k47 ?a48 ?i48 ?l48 ?c48 ?k48 ?a49 ?i49 ?l49 ?c49 ?k49 ?a50 ?i50 ?l50 ?c50 ?k50 ?a51 ?i51 ?l51 ?c51 ?k51 ?a52 ?i52 ?l52 ?c52 ?k52 ?a53 ?i53 ?l53 ?c53 ?k53 ?a54 ?i54 ?l54 ?c54 ?k54 ?a55 ?i55 ?l55 ?c55 ?k55 ?a56 ?i56 ?l56 ?c56 ?k56 ?a57 ?i57 ?h_Gap_good_at ?l57 ?c57 ?k57 ?a58 ?i58 ?h_High_good_at ?h_And_good_at ?h_Or_good_at ?h_Unlike_good_at ?h_Under_good_at ?l58 ?c58 ?k58 ?a59 ?i59 ?h_Right_good_at ?h_Slide_good_at ?l59 ?c59 ?k59 ?a60 ?i60 ?l60 ?c60 ?k60 ?a61 ?i61 ?l61 ?c61 ?k61 ?a62 ?i62 ?l62 ?c62 ?k62 ?a63 ?i63 ?l63 ?c63 ?k63 ?a64 ?i64 ?h_Gap_act ?l64 ?c64 ?k64 ?a65 ?i65 ?h_High_act ?h_And_act ?h_Or_act ?h_Unlike_act ?h_Under_act ?l65 ?c65 ?k65 ?a66 ?i66 ?h_Right_act ?h_Slide_act ?l66 ?c66 ?k66 ?a67 ?i67 ?l67 ?c67 ?k67 ?a68 ?i68 ?l68 ?c68 ?k68 ?a69 ?l69 ?c69 ?k69 ?a70 ?l70 ?c70 ?k70 ?a71 ?l71 ?c71 ?k71 ?a72 ?l72 ?c72 ?k72 ?a73 ?l73 ?c73 ?k73 ?a74 ?l74 ?c74 ?k74 ?a75 ?l75 ?c75 ?k75 ?a76 ?l76 ?c76 ?k76 ?a77 ?l77 ?c77 ?k77 ?a78 ?l78 ?c78 ?k78 ?a79 ?l79 ?c79 ?k79 ?a80 ?l80 ?c80 ?k80 ?a81 ?l81 ?c81 ?k81 ?a82 ?l82 ?c82 ?k82 ?a83 ?l83 ?c83 ?k83 ?a84 ?l84 ?c84 ?k84 ?a85 ?l85 ?c85 ?k85 ?a86 ?l86 ?c86 ?k86 ?a87 ?l87 ?c87 ?k87 ?a88 ?l88 ?c88 ?k88 ?a89 ?l89 ?c89 ?k89 ?a90 ?l90 ?c90 ?k90 ?a91 ?l91 ?c91 ?k91 ?a92 ?l92 ?c92 ?k92 ?a93 ?l93 ?c93 ?k93 ?a94 ?l94 ?c94 ?k94 ?a95 ?l95 ?c95 ?k95 ?aC_Set ?pg_Set ?hd_Set ?po_Set ?sa_Set ?mk_Set ?kc_Set ?na_Set_goal ?na_Set_bits ?aC_Copy ?pg_Copy ?hd_Copy ?po_Copy ?sa_Copy ?mk_Copy ?kc_Copy ?na_Copy_goal ?na_Copy_one ?aC_Sum ?pg_Sum ?hd_Sum ?po_Sum ?sa_Sum ?mk_Sum ?kc_Sum ?na_Sum_goal ?na_Sum_carry ?na_Sum_one ?na_Sum_other ?aC_Gap ?pg_Gap ?hd_Gap ?po_Gap ?sa_Gap ?mk_Gap ?kc_Gap ?na_Gap_goal ?na_Gap_carry ?na_Gap_one ?na_Gap_other ?aC_Low ?pg_Low ?hd_Low ?po_Low ?sa_Low ?mk_Low ?kc_Low ?na_Low_goal ?na_Low_one ?na_Low_other ?aC_High ?pg_High ?hd_High ?po_High ?sa_High ?mk_High ?kc_High ?na_High_goal ?na_High_one ?na_High_other ?aC_Left ?pg_Left ?hd_Left ?po_Left ?sa_Left ?mk_Left ?kc_Left ?na_Left_goal ?na_Left_one ?na_Left_k ?aC_Right ?pg_Right ?hd_Right ?po_Right ?sa_Right ?mk_Right ?kc_Right ?na_Right_goal ?na_Right_one ?na_Right_k ?aC_Slide ?pg_Slide ?hd_Slide ?po_Slide ?sa_Slide ?mk_Slide ?kc_Slide ?na_Slide_goal ?na_Slide_one ?na_Slide_k ?aC_And ?pg_And ?hd_And ?po_And ?sa_And ?mk_And ?kc_And ?na_And_goal ?na_And_one ?na_And_other ?aC_Or ?pg_Or ?hd_Or ?po_Or ?sa_Or ?mk_Or ?kc_Or ?na_Or_goal ?na_Or_one ?na_Or_other ?aC_Unlike ?pg_Unlike ?hd_Unlike ?po_Unlike ?sa_Unlike ?mk_Unlike ?kc_Unlike ?na_Unlike_goal ?na_Unlike_one ?na_Unlike_other ?aC_Under ?pg_Under ?hd_Under ?po_Under ?sa_Under ?mk_Under ?kc_Under ?na_Under_goal ?na_Under_one ?na_Under_other ?aC_Pick ?pg_Pick ?hd_Pick ?po_Pick ?sa_Pick ?mk_Pick ?kc_Pick ?na_Pick_goal ?na_Pick_by ?na_Pick_one ?na_Pick_other ?aC_Mark ?pg_Mark ?hd_Mark ?po_Mark ?sa_Mark ?mk_Mark ?kc_Mark ?na_Mark_line ?na_Mark_mark ?na_Mark_by ?aC_Turns ?pg_Turns ?hd_Turns ?po_Turns ?sa_Turns ?aC_Step ?pg_Step ?hd_Step ?po_Step ?sa_Step    ?aW_ROW_WORDS ?lW_ROW_WORDS ?aW_MARKS ?lW_MARKS  ?aS_LETTERS ?aS_LETTERS_AND_FIGURES ?aN_MOST_DONE ?kf_og ?kf_ot ?kf_kr_kinds ?z_isinstance ?z_int ?z_bool ?z_str ?z_list ?z_tuple ?z_dict ?z_len ?z_max ?z_min ?z_range ?z_all ?z_sum ?z_sorted
  (case aW_ROW_WORDS=>k_is); (case lW_ROW_WORDS=>k_is)
  (case aW_MARKS=>k_is); (case lW_MARKS=>k_is)
  (case aC_Set=>k_is); (case pg_Set=>k_is); (case hd_Set=>k_is); (case po_Set=>k_is); (case sa_Set=>k_is)
  (case mk_Set=>k_is); (case kc_Set=>k_is)
  (case na_Set_goal=>k_is)
  (case na_Set_bits=>k_is)
  (case aC_Copy=>k_is); (case pg_Copy=>k_is); (case hd_Copy=>k_is); (case po_Copy=>k_is); (case sa_Copy=>k_is)
  (case mk_Copy=>k_is); (case kc_Copy=>k_is)
  (case na_Copy_goal=>k_is)
  (case na_Copy_one=>k_is)
  (case aC_Sum=>k_is); (case pg_Sum=>k_is); (case hd_Sum=>k_is); (case po_Sum=>k_is); (case sa_Sum=>k_is)
  (case mk_Sum=>k_is); (case kc_Sum=>k_is)
  (case na_Sum_goal=>k_is)
  (case na_Sum_carry=>k_is)
  (case na_Sum_one=>k_is)
  (case na_Sum_other=>k_is)
  (case aC_Gap=>k_is); (case pg_Gap=>k_is); (case hd_Gap=>k_is); (case po_Gap=>k_is); (case sa_Gap=>k_is)
  (case mk_Gap=>k_is); (case kc_Gap=>k_is)
  (case na_Gap_goal=>k_is)
  (case na_Gap_carry=>k_is)
  (case na_Gap_one=>k_is)
  (case na_Gap_other=>k_is)
  (case aC_Low=>k_is); (case pg_Low=>k_is); (case hd_Low=>k_is); (case po_Low=>k_is); (case sa_Low=>k_is)
  (case mk_Low=>k_is); (case kc_Low=>k_is)
  (case na_Low_goal=>k_is)
  (case na_Low_one=>k_is)
  (case na_Low_other=>k_is)
  (case aC_High=>k_is); (case pg_High=>k_is); (case hd_High=>k_is); (case po_High=>k_is); (case sa_High=>k_is)
  (case mk_High=>k_is); (case kc_High=>k_is)
  (case na_High_goal=>k_is)
  (case na_High_one=>k_is)
  (case na_High_other=>k_is)
  (case aC_Left=>k_is); (case pg_Left=>k_is); (case hd_Left=>k_is); (case po_Left=>k_is); (case sa_Left=>k_is)
  (case mk_Left=>k_is); (case kc_Left=>k_is)
  (case na_Left_goal=>k_is)
  (case na_Left_one=>k_is)
  (case na_Left_k=>k_is)
  (case aC_Right=>k_is); (case pg_Right=>k_is); (case hd_Right=>k_is); (case po_Right=>k_is); (case sa_Right=>k_is)
  (case mk_Right=>k_is); (case kc_Right=>k_is)
  (case na_Right_goal=>k_is)
  (case na_Right_one=>k_is)
  (case na_Right_k=>k_is)
  (case aC_Slide=>k_is); (case pg_Slide=>k_is); (case hd_Slide=>k_is); (case po_Slide=>k_is); (case sa_Slide=>k_is)
  (case mk_Slide=>k_is); (case kc_Slide=>k_is)
  (case na_Slide_goal=>k_is)
  (case na_Slide_one=>k_is)
  (case na_Slide_k=>k_is)
  (case aC_And=>k_is); (case pg_And=>k_is); (case hd_And=>k_is); (case po_And=>k_is); (case sa_And=>k_is)
  (case mk_And=>k_is); (case kc_And=>k_is)
  (case na_And_goal=>k_is)
  (case na_And_one=>k_is)
  (case na_And_other=>k_is)
  (case aC_Or=>k_is); (case pg_Or=>k_is); (case hd_Or=>k_is); (case po_Or=>k_is); (case sa_Or=>k_is)
  (case mk_Or=>k_is); (case kc_Or=>k_is)
  (case na_Or_goal=>k_is)
  (case na_Or_one=>k_is)
  (case na_Or_other=>k_is)
  (case aC_Unlike=>k_is); (case pg_Unlike=>k_is); (case hd_Unlike=>k_is); (case po_Unlike=>k_is); (case sa_Unlike=>k_is)
  (case mk_Unlike=>k_is); (case kc_Unlike=>k_is)
  (case na_Unlike_goal=>k_is)
  (case na_Unlike_one=>k_is)
  (case na_Unlike_other=>k_is)
  (case aC_Under=>k_is); (case pg_Under=>k_is); (case hd_Under=>k_is); (case po_Under=>k_is); (case sa_Under=>k_is)
  (case mk_Under=>k_is); (case kc_Under=>k_is)
  (case na_Under_goal=>k_is)
  (case na_Under_one=>k_is)
  (case na_Under_other=>k_is)
  (case aC_Pick=>k_is); (case pg_Pick=>k_is); (case hd_Pick=>k_is); (case po_Pick=>k_is); (case sa_Pick=>k_is)
  (case mk_Pick=>k_is); (case kc_Pick=>k_is)
  (case na_Pick_goal=>k_is)
  (case na_Pick_by=>k_is)
  (case na_Pick_one=>k_is)
  (case na_Pick_other=>k_is)
  (case aC_Mark=>k_is); (case pg_Mark=>k_is); (case hd_Mark=>k_is); (case po_Mark=>k_is); (case sa_Mark=>k_is)
  (case mk_Mark=>k_is); (case kc_Mark=>k_is)
  (case na_Mark_line=>k_is)
  (case na_Mark_mark=>k_is)
  (case na_Mark_by=>k_is)
  (case aC_Turns=>k_is); (case pg_Turns=>k_is); (case hd_Turns=>k_is); (case po_Turns=>k_is); (case sa_Turns=>k_is)
  (case aC_Step=>k_is); (case pg_Step=>k_is); (case hd_Step=>k_is); (case po_Step=>k_is); (case sa_Step=>k_is)
  (case a1=>k_is); (case l1=>k_is); (case c1=>k_is); (case k1=>k_is)
  (case a2=>k_is); (case l2=>k_is); (case c2=>k_is); (case k2=>k_is)
  (case a3=>k_is); (case l3=>k_is); (case c3=>k_is); (case k3=>k_is)
  (case a4=>k_is); (case l4=>k_is); (case c4=>k_is); (case k4=>k_is)
  (case a5=>k_is); (case l5=>k_is); (case c5=>k_is); (case k5=>k_is)
  (case a6=>k_is); (case l6=>k_is); (case c6=>k_is); (case k6=>k_is)
  (case a7=>k_is); (case l7=>k_is); (case c7=>k_is); (case k7=>k_is)
  (case a8=>k_is); (case l8=>k_is); (case c8=>k_is); (case k8=>k_is)
  (case a9=>k_is); (case l9=>k_is); (case c9=>k_is); (case k9=>k_is)
  (case a10=>k_is); (case l10=>k_is); (case c10=>k_is); (case k10=>k_is)
  (case a11=>k_is); (case l11=>k_is); (case c11=>k_is); (case k11=>k_is)
  (case a12=>k_is); (case l12=>k_is); (case c12=>k_is); (case k12=>k_is)
  (case a13=>k_is); (case l13=>k_is); (case c13=>k_is); (case k13=>k_is)
  (case a14=>k_is); (case l14=>k_is); (case c14=>k_is); (case k14=>k_is)
  (case a15=>k_is); (case i15=>k_is); (case l15=>k_is); (case c15=>k_is); (case k15=>k_is)
  (case a16=>k_is); (case i16=>k_is); (case l16=>k_is); (case c16=>k_is); (case k16=>k_is)
  (case a17=>k_is); (case i17=>k_is); (case l17=>k_is); (case c17=>k_is); (case k17=>k_is)
  (case a18=>k_is); (case i18=>k_is); (case l18=>k_is); (case c18=>k_is); (case k18=>k_is)
  (case a19=>k_is); (case i19=>k_is); (case l19=>k_is); (case c19=>k_is); (case k19=>k_is)
  (case a20=>k_is); (case i20=>k_is); (case l20=>k_is); (case c20=>k_is); (case k20=>k_is)
  (case a21=>k_is); (case i21=>k_is); (case l21=>k_is); (case c21=>k_is); (case k21=>k_is)
  (case a22=>k_is); (case i22=>k_is); (case l22=>k_is); (case c22=>k_is); (case k22=>k_is)
  (case a23=>k_is); (case i23=>k_is); (case l23=>k_is); (case c23=>k_is); (case k23=>k_is)
  (case a24=>k_is); (case i24=>k_is); (case l24=>k_is); (case c24=>k_is); (case k24=>k_is)
  (case a25=>k_is); (case i25=>k_is); (case l25=>k_is); (case c25=>k_is); (case k25=>k_is)
  (case a26=>k_is); (case i26=>k_is); (case l26=>k_is); (case c26=>k_is); (case k26=>k_is)
  (case a27=>k_is); (case i27=>k_is); (case l27=>k_is); (case c27=>k_is); (case k27=>k_is)
  (case a28=>k_is); (case i28=>k_is); (case l28=>k_is); (case c28=>k_is); (case k28=>k_is)
  (case a29=>k_is); (case i29=>k_is); (case l29=>k_is); (case c29=>k_is); (case k29=>k_is)
  (case a30=>k_is); (case i30=>k_is); (case l30=>k_is); (case c30=>k_is); (case k30=>k_is)
  (case a31=>k_is); (case i31=>k_is); (case l31=>k_is); (case c31=>k_is); (case k31=>k_is)
  (case a32=>k_is); (case i32=>k_is); (case h_Gap___init__=>k_is); (case l32=>k_is); (case c32=>k_is); (case k32=>k_is)
  (case a33=>k_is); (case i33=>k_is); (case h_High___init__=>k_is); (case h_And___init__=>k_is); (case h_Or___init__=>k_is); (case h_Unlike___init__=>k_is); (case h_Under___init__=>k_is); (case l33=>k_is); (case c33=>k_is); (case k33=>k_is)
  (case a34=>k_is); (case i34=>k_is); (case h_Right___init__=>k_is); (case h_Slide___init__=>k_is); (case l34=>k_is); (case c34=>k_is); (case k34=>k_is)
  (case a35=>k_is); (case i35=>k_is); (case l35=>k_is); (case c35=>k_is); (case k35=>k_is)
  (case a36=>k_is); (case i36=>k_is); (case l36=>k_is); (case c36=>k_is); (case k36=>k_is)
  (case a37=>k_is); (case i37=>k_is); (case l37=>k_is); (case c37=>k_is); (case k37=>k_is)
  (case a38=>k_is); (case i38=>k_is); (case l38=>k_is); (case c38=>k_is); (case k38=>k_is)
  (case a39=>k_is); (case i39=>k_is); (case h_Gap_told=>k_is); (case l39=>k_is); (case c39=>k_is); (case k39=>k_is)
  (case a40=>k_is); (case i40=>k_is); (case h_High_told=>k_is); (case h_And_told=>k_is); (case h_Or_told=>k_is); (case h_Unlike_told=>k_is); (case h_Under_told=>k_is); (case l40=>k_is); (case c40=>k_is); (case k40=>k_is)
  (case a41=>k_is); (case i41=>k_is); (case h_Right_told=>k_is); (case h_Slide_told=>k_is); (case l41=>k_is); (case c41=>k_is); (case k41=>k_is)
  (case a42=>k_is); (case i42=>k_is); (case l42=>k_is); (case c42=>k_is); (case k42=>k_is)
  (case a43=>k_is); (case i43=>k_is); (case l43=>k_is); (case c43=>k_is); (case k43=>k_is)
  (case a44=>k_is); (case i44=>k_is); (case l44=>k_is); (case c44=>k_is); (case k44=>k_is)
  (case a45=>k_is); (case i45=>k_is); (case l45=>k_is); (case c45=>k_is); (case k45=>k_is)
  (case a46=>k_is); (case i46=>k_is); (case l46=>k_is); (case c46=>k_is); (case k46=>k_is)
  (case a47=>k_is); (case i47=>k_is); (case l47=>k_is); (case c47=>k_is); (case k47=>k_is)
  (case a48=>k_is); (case i48=>k_is); (case l48=>k_is); (case c48=>k_is); (case k48=>k_is)
  (case a49=>k_is); (case i49=>k_is); (case l49=>k_is); (case c49=>k_is); (case k49=>k_is)
  (case a50=>k_is); (case i50=>k_is); (case l50=>k_is); (case c50=>k_is); (case k50=>k_is)
  (case a51=>k_is); (case i51=>k_is); (case l51=>k_is); (case c51=>k_is); (case k51=>k_is)
  (case a52=>k_is); (case i52=>k_is); (case l52=>k_is); (case c52=>k_is); (case k52=>k_is)
  (case a53=>k_is); (case i53=>k_is); (case l53=>k_is); (case c53=>k_is); (case k53=>k_is)
  (case a54=>k_is); (case i54=>k_is); (case l54=>k_is); (case c54=>k_is); (case k54=>k_is)
  (case a55=>k_is); (case i55=>k_is); (case l55=>k_is); (case c55=>k_is); (case k55=>k_is)
  (case a56=>k_is); (case i56=>k_is); (case l56=>k_is); (case c56=>k_is); (case k56=>k_is)
  (case a57=>k_is); (case i57=>k_is); (case h_Gap_good_at=>k_is); (case l57=>k_is); (case c57=>k_is); (case k57=>k_is)
  (case a58=>k_is); (case i58=>k_is); (case h_High_good_at=>k_is); (case h_And_good_at=>k_is); (case h_Or_good_at=>k_is); (case h_Unlike_good_at=>k_is); (case h_Under_good_at=>k_is); (case l58=>k_is); (case c58=>k_is); (case k58=>k_is)
  (case a59=>k_is); (case i59=>k_is); (case h_Right_good_at=>k_is); (case h_Slide_good_at=>k_is); (case l59=>k_is); (case c59=>k_is); (case k59=>k_is)
  (case a60=>k_is); (case i60=>k_is); (case l60=>k_is); (case c60=>k_is); (case k60=>k_is)
  (case a61=>k_is); (case i61=>k_is); (case l61=>k_is); (case c61=>k_is); (case k61=>k_is)
  (case a62=>k_is); (case i62=>k_is); (case l62=>k_is); (case c62=>k_is); (case k62=>k_is)
  (case a63=>k_is); (case i63=>k_is); (case l63=>k_is); (case c63=>k_is); (case k63=>k_is)
  (case a64=>k_is); (case i64=>k_is); (case h_Gap_act=>k_is); (case l64=>k_is); (case c64=>k_is); (case k64=>k_is)
  (case a65=>k_is); (case i65=>k_is); (case h_High_act=>k_is); (case h_And_act=>k_is); (case h_Or_act=>k_is); (case h_Unlike_act=>k_is); (case h_Under_act=>k_is); (case l65=>k_is); (case c65=>k_is); (case k65=>k_is)
  (case a66=>k_is); (case i66=>k_is); (case h_Right_act=>k_is); (case h_Slide_act=>k_is); (case l66=>k_is); (case c66=>k_is); (case k66=>k_is)
  (case a67=>k_is); (case i67=>k_is); (case l67=>k_is); (case c67=>k_is); (case k67=>k_is)
  (case a68=>k_is); (case i68=>k_is); (case l68=>k_is); (case c68=>k_is); (case k68=>k_is)
  (case a69=>k_is); (case l69=>k_is); (case c69=>k_is); (case k69=>k_is)
  (case a70=>k_is); (case l70=>k_is); (case c70=>k_is); (case k70=>k_is)
  (case a71=>k_is); (case l71=>k_is); (case c71=>k_is); (case k71=>k_is)
  (case a72=>k_is); (case l72=>k_is); (case c72=>k_is); (case k72=>k_is)
  (case a73=>k_is); (case l73=>k_is); (case c73=>k_is); (case k73=>k_is)
  (case a74=>k_is); (case l74=>k_is); (case c74=>k_is); (case k74=>k_is)
  (case a75=>k_is); (case l75=>k_is); (case c75=>k_is); (case k75=>k_is)
  (case a76=>k_is); (case l76=>k_is); (case c76=>k_is); (case k76=>k_is)
  (case a77=>k_is); (case l77=>k_is); (case c77=>k_is); (case k77=>k_is)
  (case a78=>k_is); (case l78=>k_is); (case c78=>k_is); (case k78=>k_is)
  (case a79=>k_is); (case l79=>k_is); (case c79=>k_is); (case k79=>k_is)
  (case a80=>k_is); (case l80=>k_is); (case c80=>k_is); (case k80=>k_is)
  (case a81=>k_is); (case l81=>k_is); (case c81=>k_is); (case k81=>k_is)
  (case a82=>k_is); (case l82=>k_is); (case c82=>k_is); (case k82=>k_is)
  (case a83=>k_is); (case l83=>k_is); (case c83=>k_is); (case k83=>k_is)
  (case a84=>k_is); (case l84=>k_is); (case c84=>k_is); (case k84=>k_is)
  (case a85=>k_is); (case l85=>k_is); (case c85=>k_is); (case k85=>k_is)
  (case a86=>k_is); (case l86=>k_is); (case c86=>k_is); (case k86=>k_is)
  (case a87=>k_is); (case l87=>k_is); (case c87=>k_is); (case k87=>k_is)
  (case a88=>k_is); (case l88=>k_is); (case c88=>k_is); (case k88=>k_is)
  (case a89=>k_is); (case l89=>k_is); (case c89=>k_is); (case k89=>k_is)
  (case a90=>k_is); (case l90=>k_is); (case c90=>k_is); (case k90=>k_is)
  (case a91=>k_is); (case l91=>k_is); (case c91=>k_is); (case k91=>k_is)
  (case a92=>k_is); (case l92=>k_is); (case c92=>k_is); (case k92=>k_is)
  (case a93=>k_is); (case l93=>k_is); (case c93=>k_is); (case k93=>k_is)
  (case a94=>k_is); (case l94=>k_is); (case c94=>k_is); (case k94=>k_is)
  (case a95=>k_is); (case l95=>k_is); (case c95=>k_is); (case k95=>k_is)
  (case aS_LETTERS=>k_is)
  (case aS_LETTERS_AND_FIGURES=>k_is)
  (case aN_MOST_DONE=>k_is)
  (case kf_og=>k_is)
  (case kf_ot=>k_is)
  (case kf_kr_kinds=>kernel_rfl)
  (case z_isinstance=>k_is)
  (case z_int=>k_is)
  (case z_bool=>k_is)
  (case z_str=>k_is)
  (case z_list=>k_is)
  (case z_tuple=>k_is)
  (case z_dict=>k_is)
  (case z_len=>k_is)
  (case z_max=>k_is)
  (case z_min=>k_is)
  (case z_range=>k_is)
  (case z_all=>k_is)
  (case z_sum=>k_is)
  (case z_sorted=>k_is)
