import PyProof.Rows.All
import Wide.All
import OpenK.AllK
import Wide.FinOn
import Lean
import PyProof.EqAt
import PyProof.EqKinds
import PyProof.TupleCall
import KE.BitLaws
import KE.IntBitsLaws
import KE.KIntText
import PySem.Challenge.RW_overwise_k70_rows_told
set_option Elab.async false
set_option linter.all false
set_option maxRecDepth 100000
namespace L2
open PySem PySem.Spec PyProof.Rows
abbrev Key:=Sum Int Str
def keyIs:Key→Value→Bool
 | .inl k,v=>Value.isInt k v
 | .inr x,v=>Value.isStrOf x v
def keyH (w:World):Key→Int
 | .inl k=>hashInt k
 | .inr x=>hashStr w x
theorem keyIs_shape:∀ {k:Key} {v:Value},keyIs k v = true→(∃ i t,k = Sum.inl i∧v = Value.int i t)∨(∃ x t,k = Sum.inr x∧v = Value.str x t)
 | .inl i,v,h=>by
  obtain ⟨t,e⟩:=Value.isInt_shape (k:=i) (v:=v) h
  exact .inl ⟨i,t,rfl,e⟩
 | .inr x,v,h=>by
  obtain ⟨t,e⟩:=Value.isStrOf_shape (x:=x) (v:=v) h
  exact .inr ⟨x,t,rfl,e⟩
theorem key_ll (a b:Int):decide ((Sum.inl a:Key) = Sum.inl b) = (a == b):=by
 by_cases e:a = b
 ·subst e; simp
 ·have h:¬ (Sum.inl a:Key) = Sum.inl b:=fun q=>e (Sum.inl.inj q)
  rw [decide_eq_false h]
  exact (beq_eq_false_iff_ne.mpr e).symm
theorem key_rr (a b:Str):decide ((Sum.inr a:Key) = Sum.inr b) = decide (a = b):=by
 by_cases e:a = b
 ·subst e; simp
 ·have h:¬ (Sum.inr a:Key) = Sum.inr b:=fun q=>e (Sum.inr.inj q)
  rw [decide_eq_false h,decide_eq_false e]
theorem key_lr (a:Int) (b:Str):decide ((Sum.inl a:Key) = Sum.inr b) = false:=decide_eq_false (fun q=>nomatch q)
theorem key_rl (a:Str) (b:Int):decide ((Sum.inr a:Key) = Sum.inl b) = false:=decide_eq_false (fun q=>nomatch q)
def mixKind (prog:Program) (w:World):PySem.KeyKind prog w Key where
 is:=keyIs
 hash:=keyH w
 inj:=fun v a b ha hb=>by
  rcases keyIs_shape ha with ⟨i,t,rfl,rfl⟩ | ⟨x,t,rfl,rfl⟩
  ·rcases keyIs_shape hb with ⟨j,u,rfl,e⟩ | ⟨y,u,rfl,e⟩
   ·injection e with e1 _; rw [e1]
   ·exact nomatch e
  ·rcases keyIs_shape hb with ⟨j,u,rfl,e⟩ | ⟨y,u,rfl,e⟩
   ·exact nomatch e
   ·injection e with e1 _; rw [e1]
 byValue:=fun k v h=>by
  rcases keyIs_shape h with ⟨i,t,rfl,rfl⟩ | ⟨x,t,rfl,rfl⟩ <;> rfl
 pyHash:=fun hv h=>by
  rcases keyIs_shape hv with ⟨i,t,rfl,rfl⟩ | ⟨x,t,rfl,rfl⟩
  ·exact wpAny_pyHash_int h
  ·exact wpAny_pyHash_str h
 eqBool:=fun hu hv h=>by
  rcases keyIs_shape hu with ⟨i,t,rfl,rfl⟩ | ⟨x,t,rfl,rfl⟩
  ·rcases keyIs_shape hv with ⟨j,u,rfl,rfl⟩ | ⟨y,u,rfl,rfl⟩
   ·rw [key_ll] at h; exact wpAny_eqBool_int h
   ·rw [key_lr] at h; exact SeqAt.EqAt.int_str i t y u _ _ _ _ h
  ·rcases keyIs_shape hv with ⟨j,u,rfl,rfl⟩ | ⟨y,u,rfl,rfl⟩
   ·rw [key_rl] at h; exact SeqAt.EqAt.str_int x t j u _ _ _ _ h
   ·rw [key_rr] at h; exact wpAny_eqBool_str h
 «strs»:=fun k x t v h=>by
  rcases keyIs_shape h with ⟨i,u,rfl,e⟩ | ⟨y,u,rfl,e⟩
  ·exact nomatch e
  ·injection e with e1 _
   subst e1
   cases v <;> rfl
end L2
namespace L2
open PySem PySem.Spec PyProof.Rows
inductive V where
 | non | bl (b:Bool) | int (i:Int) | str (x:Str) | byt (b:Array UInt8) | flt (b:UInt64) | ref (a:Addr) | ty (n:String)
 deriving DecidableEq
def RelV:V→Value→Prop
 | .non,u=>u = Value.none
 | .bl b,u=>u = Value.bool b
 | .int i,u=>∃ t,u = Value.int i t
 | .str x,u=>∃ t,u = Value.str x t
 | .byt b,u=>∃ t,u = Value.bytes b t
 | .flt b,u=>∃ t,u = Value.float b t
 | .ref a,u=>u = Value.ref a
 | .ty n,u=>u = Value.type n
abbrev Vals:List V→List Value→Prop:=Paired RelV
theorem Vals.length {xs:List V} {us:List Value} (r:Vals xs us):xs.length = us.length:=Paired.length r
theorem Vals.get:∀ {xs:List V} {us:List Value} {i:Nat} {x:V},Vals xs us→xs[i]? = some x→∃ u,us[i]? = some u∧RelV x u
 | _,_,_,_,.nil,e=>by simp at e
 | _,_,0,_,.cons r _,e=>by simp at e; subst e; exact ⟨_,rfl,r⟩
 | _,_,i + 1,x,.cons _ t,e=>by
  obtain ⟨u,h1,h2⟩:=Vals.get (i:=i) (x:=x) t (by simpa using e)
  exact ⟨u,by simpa using h1,h2⟩
theorem Vals.set {x:V} {u:Value} (r:RelV x u):∀ {xs:List V} {us:List Value} (i:Nat),Vals xs us→Vals (xs.set i x) (us.set i u)
 | _,_,_,.nil=>.nil
 | _,_,0,.cons _ t=>.cons r t
 | _,_,i + 1,.cons q t=>.cons q (Vals.set r i t)
theorem Vals.append:∀ {xs ys:List V} {us ws:List Value},Vals xs us→Vals ys ws→Vals (xs ++ ys) (us ++ ws)
 | _,_,_,_,.nil,s=>s
 | _,_,_,_,.cons r t,s=>.cons r (Vals.append t s)
theorem Vals.take:∀ {xs:List V} {us:List Value} (n:Nat),Vals xs us→Vals (xs.take n) (us.take n)
 | _,_,0,_=>.nil
 | _,_,_ + 1,.nil=>.nil
 | _,_,n + 1,.cons r t=>.cons r (Vals.take n t)
theorem Vals.drop:∀ {xs:List V} {us:List Value} (n:Nat),Vals xs us→Vals (xs.drop n) (us.drop n)
 | _,_,0,r=>r
 | _,_,_ + 1,.nil=>.nil
 | _,_,n + 1,.cons _ t=>Vals.drop n t
def RelO:Option V→Option Value→Prop
 | some v,some u=>RelV v u
 | none,none=>True
 | _,_=>False
def KV {κ:Type}:List (κ × V)→List (κ × Value)→Prop:=Paired fun (p:κ × V) (q:κ × Value)=>p.1 = q.1∧RelV p.2 q.2
def kV:Key→V
 | .inl i=>.int i
 | .inr x=>.str x
inductive HO where
 /-- a list -/
 | lst (xs:List V)
 /-- a tuple (never changes) -/
 | tup (xs:List V)
 /-- a dict whose keys are ints and texts; one whose keys are tuples of ints and texts (the empty one is both) -/
 | dK (kvs:List (Key × V)) | dT (kvs:List (List Key × V))
 /-- a set of ints: its members,its size -/
 | set (S:Int→Bool) (n:Nat)
 /-- an instance of the class at C,its dict at dx,its attributes -/
 | ins (C dx:Addr) (fs:List (Str × V))
 /-- the dict of the instance at x -/
 | own (x:Addr)
 /-- the dict of an exception -/
 | xd (fs:List (Str × V))
 /-- a bound method,f of x -/
 | met (f x:Addr)
 /-- a range object lo,lo + 1,.. below hi -/
 | rng (lo hi:Int)
 /-- a thing that is known to the object (the script; a dict while a loop walks it): read,never written while it is so -/
 | frz (o:Obj) (u:HO)
 /-- a code object's table -/
 | tbl (ps:Array Value)
 /-- any other thing,by what is true of its one object (a def of one's own: SetO a S n:=HO.ext fun h=>..) -/
 | ext (φ:Heap→Prop)
abbrev Hp:=Addr→Option HO
def upd (H:Hp) (a:Addr) (o:HO):Hp:=fun b=>if b = a then some o else H b
theorem upd_same {H:Hp} {a:Addr} {o:HO}:upd H a o a = some o:=by unfold upd; rw [if_pos rfl]
theorem upd_ne {H:Hp} {a b:Addr} {o:HO} (h:b ≠ a):upd H a o b = H b:=by unfold upd; rw [if_neg h]
theorem ne_of_none {H:Hp} {a b:Addr} {o:HO} (h:H a = some o) (h':H b = none):a ≠ b:=by
 intro e; subst e; rw [h] at h'; cases h'
section
variable (P:Program) (w:World)
def ObjOk (H:Hp) (h:Heap) (a:Addr):HO→Prop
 | .lst xs=>xs.length≤sizeLine∧∃ (its:List Value) (n:Nat),Vals xs its∧h.get? a = some { cls:=.type "list",data:=.seq its.toArray n }
 | .tup xs=>xs.length≤sizeLine∧∃ its:List Value,Vals xs its∧IsTup h a its.toArray
 | .dK kvs=>kvs.length≤sizeLine∧(a == sysModules) = false∧∃ vs,KV kvs vs∧h.DictOf (mixKind P w) a vs
 | .dT kvs=>kvs.length≤sizeLine∧(a == sysModules) = false∧∃ xs:List (List Key × Addr × Value),
   Paired (fun (p:List Key × V) (q:List Key × Addr × Value)=>p.1 = q.1∧H q.2.1 = some (.tup (p.1.map kV))∧RelV p.2 q.2.2) kvs xs ∧
   ∃ o es ep,h.get? a = some o∧o.ExactDict∧o.data = .dict es ep∧es.toList = xs.map (entryOfKey (tupleKind (mixKind P w)))∧(xs.map (·.1)).Nodup
 | .set S n=>h.SetOf (intKind P w) a S n
 | .ins C dx fs=>H dx = some (.own a)∧fs.length≤1000∧dx ≠ a∧h.get? a = some (PySem.W.instObj C dx) ∧
   ∃ mA,h.Ns1 dx mA∧(∀ f,RelO (fs.lookup f) (mA f))∧PySem.Within mA (fs.map (·.1))
 | .own _=>∃ o,h.get? a = some o
 | .xd fs=>∃ mA,h.Ns1 a mA∧∀ f,RelO (fs.lookup f) (mA f)
 | .rng lo hi=>∃ t u v,h.get? a = some { cls:=.type "range",data:=.fields #[.int lo t,.int hi u,.int 1 v] }
 | .frz o u=>h.get? a = some o∧ObjOk H h a u
 | .tbl ps=>h.get? a = some { cls:=.none,data:=.fields ps }
 | .met f x=>h.get? a = some (PySem.W.methodObj (.ref f) (.ref x))
 | .ext φ=>φ h∧(∃ o,h.get? a = some o)∧∀ h1 h2:Heap,φ h1→(∀ o,h1.get? a = some o→h2.get? a = some o)→φ h2
def HOk (H:Hp) (h:Heap):Prop:=∀ a o,H a = some o→ObjOk P w H h a o
end
section
variable {P:Program} {w:World} {H H':Hp} {h h':Heap} {a:Addr} {o:HO}
theorem ObjOk.lt (x:ObjOk P w H h a o):a < h.objs.size:=by
 cases o with
 | lst xs=>obtain ⟨_,_,_,_,e⟩:=x; exact Heap.lt_size e
 | tup xs=>obtain ⟨_,_,_,p⟩:=x; exact p.lt
 | dK kvs=>obtain ⟨_,_,_,_,o,_,_,e,_⟩:=x; exact Heap.lt_size e
 | dT kvs=>obtain ⟨_,_,_,_,o,_,_,e,_⟩:=x; exact Heap.lt_size e
 | set S n=>obtain ⟨o,_,_,_,e,_⟩:=x; exact Heap.lt_size e
 | ins C dx fs=>obtain ⟨_,_,_,e,_⟩:=x; exact Heap.lt_size e
 | own y=>obtain ⟨_,e⟩:=x; exact Heap.lt_size e
 | xd fs=>obtain ⟨_,⟨_,_,_,e,_⟩,_⟩:=x; exact Heap.lt_size e
 | rng lo hi=>obtain ⟨_,_,_,e⟩:=x; exact Heap.lt_size e
 | frz ob u=>obtain ⟨e,_⟩:=x; exact Heap.lt_size e
 | tbl ps=>exact Heap.lt_size (show h.get? a = some _ from x)
 | met f y=>exact Heap.lt_size (show h.get? a = some _ from x)
 | ext φ=>obtain ⟨_,⟨_,e⟩,_⟩:=x; exact Heap.lt_size e
theorem Paired.mapP {α β:Type} {F G:α→β→Prop}:∀ {l₁:List α} {l₂:List β},Paired F l₁ l₂→(∀ a b,F a b→G a b)→Paired G l₁ l₂
 | _,_,.nil,_=>.nil
 | _,_,.cons r t,f=>.cons (f _ _ r) (Paired.mapP t f)
theorem ObjOk.stay (x:ObjOk P w H h a o) (k:∀ b u,(b = a∨H b = some (.own a))→h.get? b = some u→h'.get? b = some u)
  (ho:∀ b,H b = some (.own a)→H' b = some (.own a)) (ht:∀ b xs,H b = some (.tup xs)→H' b = some (.tup xs)):ObjOk P w H' h' a o:=by
 induction o with
 | lst xs=>obtain ⟨z,its,n,r,e⟩:=x; exact ⟨z,its,n,r,k _ _ (.inl rfl) e⟩
 | tup xs=>obtain ⟨z,its,r,ob,e,c⟩:=x; exact ⟨z,its,r,ob,k _ _ (.inl rfl) e,c⟩
 | dK kvs=>obtain ⟨z,y,vs,r,ob,es,ep,e,c⟩:=x; exact ⟨z,y,vs,r,ob,es,ep,k _ _ (.inl rfl) e,c⟩
 | dT kvs =>
  obtain ⟨z,y,xs,r,ob,es,ep,e,c⟩:=x
  exact ⟨z,y,xs,Paired.mapP r fun p q z=>⟨z.1,ht _ _ z.2.1,z.2.2⟩,ob,es,ep,k _ _ (.inl rfl) e,c⟩
 | set S n=>obtain ⟨ob,es,ep,t,e,c⟩:=x; exact ⟨ob,es,ep,t,k _ _ (.inl rfl) e,c⟩
 | ins C dx fs =>
  obtain ⟨d,z,ne,e,mA,⟨od,es,ep,e2,c⟩,r⟩:=x
  exact ⟨ho _ d,z,ne,k _ _ (.inl rfl) e,mA,⟨od,es,ep,k _ _ (.inr d) e2,c⟩,r⟩
 | own y=>obtain ⟨ob,e⟩:=x; exact ⟨ob,k _ _ (.inl rfl) e⟩
 | xd fs=>obtain ⟨mA,⟨od,es,ep,e,c⟩,r⟩:=x; exact ⟨mA,⟨od,es,ep,k _ _ (.inl rfl) e,c⟩,r⟩
 | rng lo hi=>obtain ⟨t,u,v,e⟩:=x; exact ⟨t,u,v,k _ _ (.inl rfl) e⟩
 | frz ob u ih=>obtain ⟨e,q⟩:=x; exact ⟨k _ _ (.inl rfl) e,ih q⟩
 | tbl ps =>
  have e:h.get? a = some { cls:=.none,data:=.fields ps }:=x
  show h'.get? a = some { cls:=.none,data:=.fields ps }
  exact k a _ (.inl rfl) e
 | met f y =>
  have e:h.get? a = some (PySem.W.methodObj (.ref f) (.ref y)):=x
  show h'.get? a = some (PySem.W.methodObj (.ref f) (.ref y))
  exact k a _ (.inl rfl) e
 | ext φ=>obtain ⟨p,⟨o,e⟩,st⟩:=x; exact ⟨st _ _ p fun o q=>k _ _ (.inl rfl) q,⟨o,k _ _ (.inl rfl) e⟩,st⟩
theorem HOk.lt (x:HOk P w H h) (e:H a = some o):a < h.objs.size:=(x a o e).lt
theorem HOk.fresh (x:HOk P w H h) (e:h.objs.size≤a):H a = none:=by
 cases q:H a with
 | none=>rfl
 | some u=>exact absurd (Nat.lt_of_lt_of_le (x.lt q) e) (Nat.lt_irrefl _)
theorem HOk.kept (x:HOk P w H h) (k:∀ b u,h.get? b = some u→h'.get? b = some u):HOk P w H h':=fun a o e =>
 (x a o e).stay (fun b u _ q=>k b u q) (fun _ q=>q) fun _ _ q=>q
theorem HOk.laid (x:HOk P w H h) (k:∀ b u,h.get? b = some u→h'.get? b = some u) (hp:h.objs.size≤a) (new:ObjOk P w (upd H a o) h' a o):HOk P w (upd H a o) h':=fun b u e=>by
 have hn:=x.fresh hp
 by_cases hb:b = a
 ·subst hb; rw [upd_same] at e; cases e; exact new
 ·rw [upd_ne hb] at e
  exact (x b u e).stay (fun c v _ q=>k c v q) (fun c q=>by rw [upd_ne (ne_of_none q hn)]; exact q) fun c xs q=>by rw [upd_ne (ne_of_none q hn)]; exact q
end
def Rd (H:Hp) (a:Addr) (u:HO):Prop:=H a = some u∨∃ o,H a = some (.frz o u)
theorem Rd.ok {P:Program} {w:World} {H:Hp} {h:Heap} {a:Addr} {u:HO} (r:Rd H a u) (x:HOk P w H h):ObjOk P w H h a u:=by
 rcases r with r | ⟨o,r⟩
 ·exact x a u r
 ·obtain ⟨_,q⟩:=x a _ r
  exact q
def Mut:Option HO→Prop
 | some (.lst _)=>True
 | some (.dK _)=>True
 | some (.dT _)=>True
 | some (.set _ _)=>True
 | some (.ins _ _ _)=>True
 | some (.ext _)=>True
 | _=>False
section
variable {P:Program} {w:World} {H:Hp} {h h':Heap} {x e:Addr} {o':HO}
theorem HOk.write (ok:HOk P w H h) (mu:Mut (H x)) (he:e = x∨H e = some (.own x)) (k:∀ b u,b ≠ e→h.get? b = some u→h'.get? b = some u) (heo:∃ u,h'.get? e = some u)
  (new:ObjOk P w (upd H x o') h' x o'):HOk P w (upd H x o') h':=fun b u q=>by
 have nown:∀ c y,H c = some (.own y)→c ≠ x:=fun c y r z=>by subst z; rw [r] at mu; exact mu
 have ntup:∀ c xs,H c = some (.tup xs)→c ≠ x:=fun c xs r z=>by subst z; rw [r] at mu; exact mu
 by_cases hb:b = x
 ·subst hb; rw [upd_same] at q; cases q; exact new
 ·rw [upd_ne hb] at q
  by_cases hbe:b = e
  ·have q':H b = some (.own x):=by
    rcases he with z | z
    ·exact absurd (hbe.trans z) hb
    ·rw [hbe]; exact z
   rw [q] at q'; cases q'
   obtain ⟨v,hv⟩:=heo
   exact ⟨v,by rw [hbe]; exact hv⟩
  ·refine (ok b u q).stay (fun c v hc r=>k c v ?_ r) (fun c r=>by rw [upd_ne (nown c b r)]; exact r) fun c xs r=>by rw [upd_ne (ntup c xs r)]; exact r
   rcases hc with rfl | hc
   ·exact hbe
   ·rintro rfl
    rcases he with z | z
    ·exact nown c b hc z
    ·rw [hc] at z; cases z; exact hb rfl
end
structure Un (fs ex:List Addr) (H H':Hp) (h h':Heap):Prop where
 keep:∀ b o,h.get? b = some o→H b = none→b ∉ fs→b ∉ ex→h'.get? b = some o
 slot:∀ b o,h.get? b = some o→H b = none→b ∈ fs→b ∉ ex→∃ sl,h'.get? b = some { o with slots:=sl }
 free:∀ b o,h.get? b = some o→H b = none→b ∉ ex→H' b = none
 there:∀ b o,h.get? b = some o→b ∉ ex→∃ o',h'.get? b = some o'
 tups:∀ b xs,H b = some (.tup xs)→H' b = some (.tup xs)
 frzs:∀ b o u,H b = some (.frz o u)→H' b = some (.frz o u)
 tbls:∀ b ps,H b = some (.tbl ps)→∃ more,H' b = some (.tbl (ps ++ more))
section
variable {fs fs' ex ex':List Addr} {H H1 H2:Hp} {h h1 h2 h':Heap} {a x e:Addr} {o:HO}
theorem Un.any (u:Un fs ex H H1 h h1) {b:Addr} {ob:Obj} (q:h.get? b = some ob) (n:H b = none) (hx:b ∉ ex):∃ sl,h1.get? b = some { ob with slots:=sl }:=by
 by_cases hb:b ∈ fs
 ·exact u.slot b ob q n hb hx
 ·exact ⟨ob.slots,u.keep b ob q n hb hx⟩
theorem Un.kept (k:∀ b u,h.get? b = some u→h'.get? b = some u):Un fs ex H H h h' :=
 ⟨fun b ob q _ _ _=>k b ob q,fun b ob q _ _ _=>⟨ob.slots,k b ob q⟩,fun _ _ _ n _=>n,fun b ob q _=>⟨ob,k b ob q⟩,fun _ _ q=>q,fun _ _ _ q=>q,fun _ ps q=>⟨#[],by rw [q]; simp⟩⟩
theorem Un.refl:Un fs ex H H h h:=Un.kept fun _ _ q=>q
theorem Un.laid (k:∀ b u,h.get? b = some u→h'.get? b = some u) (hp:h.objs.size≤a) (hn:H a = none):Un fs ex H (upd H a o) h h' where
 keep:=fun b u q _ _ _=>k b u q
 slot:=fun b u q _ _ _=>⟨u.slots,k b u q⟩
 free:=fun b u q n _=>by rw [upd_ne (Nat.ne_of_lt (Nat.lt_of_lt_of_le (Heap.lt_size q) hp))]; exact n
 there:=fun b u q _=>⟨u,k b u q⟩
 tups:=fun b xs q=>by rw [upd_ne (ne_of_none q hn)]; exact q
 frzs:=fun b u xs q=>by rw [upd_ne (ne_of_none q hn)]; exact q
 tbls:=fun b ps q=>⟨#[],by rw [upd_ne (ne_of_none q hn),q]; simp⟩
theorem Un.write (mu:Mut (H x)) (he:e = x∨H e = some (.own x)) (k:∀ b u,b ≠ e→h.get? b = some u→h'.get? b = some u) (heo:∃ u,h'.get? e = some u):Un fs ex H (upd H x o) h h':=by
 have hx:∀ b,H b = none→b ≠ x:=fun b n z=>by subst z; rw [n] at mu; exact mu
 have hb:∀ b,H b = none→b ≠ e:=fun b n z=>by
  subst z
  rcases he with r | r
  ·exact hx b n r
  ·rw [n] at r; cases r
 have hm:∀ b u,H b = some u→¬ Mut (some u)→b ≠ x:=fun b u q nm z=>by subst z; rw [q] at mu; exact nm mu
 refine ⟨fun b u q n _ _=>k b u (hb b n) q,fun b u q n _ _=>⟨u.slots,k b u (hb b n) q⟩,fun b u q n _=>by rw [upd_ne (hx b n)]; exact n,fun b u q _=>?_,
  fun b xs q=>by rw [upd_ne (hm b _ q fun z=>z)]; exact q,fun b u xs q=>by rw [upd_ne (hm b _ q fun z=>z)]; exact q,fun b ps q=>⟨#[],by rw [upd_ne (hm b _ q fun z=>z),q]; simp⟩⟩
 by_cases hbe:b = e
 ·subst hbe; exact heo
 ·exact ⟨u,k b u hbe q⟩
end
def trk (h:Heap) (H:Hp):List Addr:=(List.range h.objs.size).filter fun a=>(H a).isSome
def hidT (h:Heap) (H:Hp):Heap:=PySem.W.hideAll h (trk h H)
theorem hidT_size (h:Heap) (H:Hp):(hidT h H).objs.size = h.objs.size:=PySem.W.hideAll_size _ _
theorem hidT_get {h:Heap} {H:Hp} {b:Addr} {o:Obj} (e:h.get? b = some o) (n:H b = none):(hidT h H).get? b = some o :=
 PySem.W.hideAll_get _ e fun hm=>by
  have q:(H b).isSome = true:=(List.mem_filter.mp hm).2
  rw [n] at q; simp at q
theorem of_hidT {h:Heap} {H:Hp} {b:Addr} {o:Obj} (e:(hidT h H).get? b = some o):h.get? b = some o∧H b = none:=by
 have e':h.get? b = some o:=PySem.W.of_hideAll (trk h H) e
 refine ⟨e',?_⟩
 cases q:H b with
 | none=>rfl
 | some x =>
  have hm:b ∈ trk h H:=List.mem_filter.mpr ⟨List.mem_range.mpr (Heap.lt_size e'),by simp [q]⟩
  have z:(hidT h H).get? b = none:=PySem.W.hideAll_none (trk h H) hm
  rw [z] at e; cases e
end L2
namespace L2
open PySem PySem.Spec PyProof.Rows
structure Mod (K:PySem.W.Frag) (mg:Str→Option Value) (base:Heap):Prop where
 kin:K.In base
 glob:base.Ns mainGlobals mg
 blt:∃ mb,base.Ns builtinsNs mb∧∀ x:Str,x ≠ "__name__"→mb x = bootBuiltins x
 nolimit:base.NoLimit
structure Cx where
 prog:Program
 w:World
 K:PySem.W.Frag
 mg:Str→Option Value
 base:Heap
 A:Around
 N:List Str
 s₀:Shared
 H₀:Hp
 env:Env
 outer:List Env
 stack:List Env
 ex:List Addr
 fn:Str→Bool
 calm:Bool
 pn:List (Addr × Obj)
 xe:Value→Shared→Prop
def frs (l:List Env):List Addr:=l.filterMap (·.frame)
abbrev Cx.fs (X:Cx):List Addr:=frs X.outer
def Vis (sc:Scope) (x:Str):Prop:=sc.names.lookup x = some .local∨sc.names.lookup x = some .cell∨sc.names.lookup x = some .free
def Loc (sc:Scope) (x:Str):Prop:=sc.names.lookup x = some .local∨sc.names.lookup x = some .cell
def Look (env:Env) (h:Heap) (m:Str→Option Value) (x:Str) (u:Value):Prop :=
 (env.kindOf x = some .local∧m x = some u)∨((env.kindOf x = some .cell∨env.kindOf x = some .free)∧∃ c,env.cells.lookup x = some c∧h.IsCell c (some u))
structure Cx.Ok (X:Cx):Prop where
 mod:Mod X.K X.mg X.base
 kind:X.env.scope.kind = .function
 glob:X.env.globals = mainGlobals
 blt:X.env.builtins = builtinsNs
 above:X.s₀.heap.objs.size≤X.env.locals
 inj:∀ x y c,X.env.cells.lookup x = some c→X.env.cells.lookup y = some c→x = y
 has:∀ x,(X.env.kindOf x = some .cell∨X.env.kindOf x = some .free)→∃ c,X.env.cells.lookup x = some c
 cab:∀ x c,X.fn x = true→X.env.cells.lookup x = some c→X.s₀.heap.objs.size≤c
 hd:X.calm = true→X.A.handled = none
 frames:X.A.frames = some X.stack
 stk:X.stack = X.outer∨(X.stack = X.env :: X.outer∧X.env.frame = some X.env.locals)
 exf:∀ b ∈ X.ex,b ≠ X.env.locals∧∀ x c,X.env.cells.lookup x = some c→c ≠ b
 bs:∀ b o,X.base.get? b = some o→X.s₀.heap.get? b = some o∧X.H₀ b = none
 bsz:X.base.objs.size≤X.s₀.heap.objs.size
 noex:∀ b o,X.base.get? b = some o→b ∉ X.ex
 exfs:∀ b ∈ X.ex,b ∉ X.fs
 funs:X.s₀.heap.FunFrames X.base X.outer
 frf:∀ b ∈ X.fs,X.H₀ b = none
structure Inv (X:Cx) (pins:List (Addr × Obj)) (σ:List (Option V)) (H:Hp) (s:Shared):Prop where
 ok:X.Ok
 os:s.os = X.s₀.os
 bare:AllBare s.gens
 base:Un X.fs X.ex X.H₀ H X.s₀.heap s.heap
 loc:∃ m,s.heap.Ns X.env.locals m∧∀ (i:Nat) (x:Str) (v:V),X.N[i]? = some x→σ[i]? = some (some v)→Vis X.env.scope x→∃ u,RelV v u∧Look X.env s.heap m x u
 cell:∀ x c,X.env.cells.lookup x = some c→∃ v,s.heap.IsCell c v
 free:H X.env.locals = none
 freeC:∀ x c,X.env.cells.lookup x = some c→H c = none
 pin:∀ p ∈ X.pn ++ pins,s.heap.get? p.1 = some p.2∧H p.1 = none∧p.1 ≠ X.env.locals∧p.1 ∉ X.fs∧∀ v,p.2.data ≠ .cell v
 hok:HOk X.prog X.w H s.heap
 len:σ.length = X.N.length
section
variable {X:Cx} {pins:List (Addr × Obj)} {σ:List (Option V)} {H H':Hp} {s:Shared} {h':Heap}
theorem Cx.Ok.nofr (ok:X.Ok) {b:Addr} {o:Obj} (e:X.base.get? b = some o):b ∉ X.fs:=fun hb=>by
 have:=(ok.funs.mem hb).1
 rw [e] at this; cases this
theorem Inv.bs (I:Inv X pins σ H s):∀ b o,X.base.get? b = some o→s.heap.get? b = some o∧H b = none:=fun b o e =>
 ⟨I.base.keep b o (I.ok.bs b o e).1 (I.ok.bs b o e).2 (I.ok.nofr e) (I.ok.noex b o e),I.base.free b o (I.ok.bs b o e).1 (I.ok.bs b o e).2 (I.ok.noex b o e)⟩
theorem Inv.bk (I:Inv X pins σ H s):∀ b o,X.base.get? b = some o→s.heap.get? b = some o:=fun b o e=>(I.bs b o e).1
theorem Inv.mod (I:Inv X pins σ H s):Mod X.K X.mg X.base:=I.ok.mod
theorem Inv.kIn (I:Inv X pins σ H s):X.K.In s.heap:=I.ok.mod.kin.keeps I.bk
theorem Inv.lt (I:Inv X pins σ H s):X.env.locals < s.heap.objs.size:=let ⟨_,hn,_⟩:=I.loc; hn.lt
theorem Inv.sz (I:Inv X pins σ H s):X.s₀.heap.objs.size≤s.heap.objs.size:=Nat.le_trans I.ok.above (Nat.le_of_lt I.lt)
theorem Inv.nofs (I:Inv X pins σ H s) {a:Addr} (h:s.heap.objs.size≤a):a ∉ X.fs:=fun hb=>by
 obtain ⟨_,o,ho,_⟩:=I.ok.funs.mem hb
 exact absurd (Nat.lt_of_lt_of_le (Heap.lt_size ho) (Nat.le_trans I.sz h)) (Nat.lt_irrefl _)
theorem Inv.cne (I:Inv X pins σ H s):∀ x c,X.env.cells.lookup x = some c→c ≠ X.env.locals:=fun x c e z=>by
 obtain ⟨v,o,ho,hd⟩:=I.cell x c e
 obtain ⟨m,⟨o',es,ep,ho',hd',_⟩,_⟩:=I.loc
 rw [z,ho'] at ho; cases ho; rw [hd'] at hd; cases hd
theorem Inv.funs (I:Inv X pins σ H s):s.heap.FunFrames X.base X.outer:=by
 have all:∀ (l:List Env),(∀ b ∈ frs l,b ∈ X.fs)→X.s₀.heap.FunFrames X.base l→s.heap.FunFrames X.base l:=by
  intro l
  induction l with
  | nil=>intro _ _; trivial
  | cons env r ih =>
   intro hs hl
   obtain ⟨hk,⟨L,o,hf,hn,ho,hd⟩,hr⟩:=hl
   have hL:L ∈ X.fs:=hs L (by unfold frs; rw [List.filterMap_cons,hf]; exact List.mem_cons_self)
   obtain ⟨sl,e⟩:=I.base.slot L o ho (I.ok.frf L hL) hL fun z=>I.ok.exfs L z hL
   exact ⟨hk,⟨L,_,hf,hn,e,hd⟩,ih (fun b hb=>hs b (by unfold frs; rw [List.filterMap_cons,hf]; exact List.mem_cons_of_mem _ hb)) hr⟩
 exact all X.outer (fun _ hb=>hb) I.ok.funs
theorem Inv.stack (I:Inv X pins σ H s):s.heap.FunFrames X.base X.stack:=by
 rcases I.ok.stk with e | ⟨e,hf⟩
 ·rw [e]; exact I.funs
 ·rw [e]
  obtain ⟨m,hn,_⟩:=I.loc
  refine .cons (by rw [I.ok.kind]; decide) hf hn ?_ I.funs
  exact Heap.get?_none_of_le (Nat.le_trans I.ok.bsz I.ok.above)
theorem Inv.stkSub (I:Inv X pins σ H s):∀ b ∈ frs X.stack,b ∈ X.env.locals :: X.fs:=fun b hb=>by
 rcases I.ok.stk with e | ⟨e,hf⟩
 ·rw [e] at hb; exact List.mem_cons_of_mem _ hb
 ·rw [e] at hb
  unfold frs at hb
  rw [List.filterMap_cons,hf] at hb
  exact hb
theorem Inv.stkFree (I:Inv X pins σ H s):∀ b ∈ frs X.stack,H b = none:=fun b hb=>by
 rcases List.mem_cons.mp (I.stkSub b hb) with e | hb
 ·rw [e]; exact I.free
 ·obtain ⟨_,o,ho,_⟩:=I.ok.funs.mem hb
  exact I.base.free b o ho (I.ok.frf b hb) fun z=>I.ok.exfs b z hb
theorem Inv.step {g':Array GenState} {t':Nat} {d':Drawn} {ch:List Addr} (I:Inv X pins σ H s)
  (hch:∀ b ∈ ch,(b ∈ X.ex∨X.s₀.heap.objs.size≤b)∧b ≠ X.env.locals∧(∀ x c,X.env.cells.lookup x = some c→c ≠ b)∧∀ p ∈ X.pn ++ pins,p.1 ≠ b)
  (keep:∀ b o,b ≠ X.env.locals→b ∉ X.fs→b ∉ ch→s.heap.get? b = some o→H b = none→h'.get? b = some o)
  (slot:∀ b o,b ≠ X.env.locals→b ∈ X.fs→b ∉ ch→s.heap.get? b = some o→H b = none→∃ sl,h'.get? b = some { o with slots:=sl }) (free:∀ b o,b ∉ ch→s.heap.get? b = some o→H b = none→H' b = none)
  (there:∀ b o,b ∉ ch→s.heap.get? b = some o→∃ o',h'.get? b = some o')
  (tups:∀ b xs,H b = some (.tup xs)→H' b = some (.tup xs)) (frzs:∀ b o u,H b = some (.frz o u)→H' b = some (.frz o u)) (tbls:∀ b ps,H b = some (.tbl ps)→∃ more,H' b = some (.tbl (ps ++ more)))
  (ns:∀ m,s.heap.Ns X.env.locals m→h'.Ns X.env.locals m) (hok:HOk X.prog X.w H' h') (hg:AllBare g') :
  Inv X pins σ H' { s with heap:=h',gens:=g',drawn:=d',toks:=t' }:=by
 have neL:∀ b o,X.s₀.heap.get? b = some o→b ≠ X.env.locals:=fun b o e=>Nat.ne_of_lt (Nat.lt_of_lt_of_le (Heap.lt_size e) I.ok.above)
 have neC:∀ b o,X.s₀.heap.get? b = some o→b ∉ X.ex→b ∉ ch:=fun b o e hx hb=>by
  rcases (hch b hb).1 with z | z
  ·exact hx z
  ·exact absurd (Nat.lt_of_lt_of_le (Heap.lt_size e) z) (Nat.lt_irrefl _)
 have cellK:∀ x c,X.env.cells.lookup x = some c→∀ v,s.heap.IsCell c v→h'.IsCell c v:=fun x c e v ⟨o,ho,hd⟩=>by
  have nch:c ∉ ch:=fun z=>(hch c z).2.2.1 x c e rfl
  by_cases hc:c ∈ X.fs
  ·obtain ⟨sl,q⟩:=slot c o (I.cne x c e) hc nch ho (I.freeC x c e)
   exact ⟨_,q,hd⟩
  ·exact ⟨o,keep c o (I.cne x c e) hc nch ho (I.freeC x c e),hd⟩
 refine ⟨I.ok,I.os,hg,⟨fun b o e n hb hx=>?_,fun b o e n hb hx=>?_,fun b o e n hx=>?_,fun b o e hx=>?_,fun b xs e=>tups b xs (I.base.tups b xs e),fun b o xs e=>frzs b o xs (I.base.frzs b o xs e),fun b ps e=>?_⟩,?_,fun x c e=>?_,?_,fun x c e=>?_,fun p hp=>?_,hok,I.len⟩
 ·exact keep b o (neL b o e) hb (neC b o e hx) (I.base.keep b o e n hb hx) (I.base.free b o e n hx)
 ·obtain ⟨sl,e1⟩:=I.base.slot b o e n hb hx
  obtain ⟨sl',e2⟩:=slot b _ (neL b o e) hb (neC b o e hx) e1 (I.base.free b o e n hx)
  exact ⟨sl',e2⟩
 ·obtain ⟨o',e1⟩:=I.base.there b o e hx
  exact free b o' (neC b o e hx) e1 (I.base.free b o e n hx)
 ·obtain ⟨o',e1⟩:=I.base.there b o e hx
  exact there b o' (neC b o e hx) e1
 ·obtain ⟨m1,e1⟩:=I.base.tbls b ps e
  obtain ⟨m2,e2⟩:=tbls b _ e1
  exact ⟨m1 ++ m2,by rw [e2,Array.append_assoc]⟩
 ·obtain ⟨m,hn,hl⟩:=I.loc
  refine ⟨m,ns m hn,fun i x v e1 e2 e3=>?_⟩
  obtain ⟨u,r,l⟩:=hl i x v e1 e2 e3
  refine ⟨u,r,?_⟩
  rcases l with l | ⟨k,c,e,z⟩
  ·exact .inl l
  ·exact .inr ⟨k,c,e,cellK x c e _ z⟩
 ·obtain ⟨v,z⟩:=I.cell x c e
  exact ⟨v,cellK x c e v z⟩
 ·obtain ⟨m,⟨o,_,_,ho,_⟩,_⟩:=I.loc
  exact free _ o (fun z=>(hch _ z).2.1 rfl) ho I.free
 ·obtain ⟨v,o,ho,hd⟩:=I.cell x c e
  exact free c o (fun z=>(hch c z).2.2.1 x c e rfl) ho (I.freeC x c e)
 ·obtain ⟨e,n,ne,nf,d⟩:=I.pin p hp
  have nch:p.1 ∉ ch:=fun z=>(hch p.1 z).2.2.2 p hp rfl
  exact ⟨keep p.1 p.2 ne nf nch e n,free p.1 p.2 nch e n,ne,nf,d⟩
theorem Inv.un {t':Nat} (I:Inv X pins σ H s) (u:Un X.fs [] H H' s.heap h') (hok:HOk X.prog X.w H' h'):Inv X pins σ H' { s with heap:=h',toks:=t' }:=by
 obtain ⟨m,⟨o,es,ep,ho,r⟩,_⟩:=id I.loc
 obtain ⟨sl,hL⟩:=u.any ho I.free (by simp)
 exact I.step (g':=s.gens) (d':=s.drawn) (ch:=[]) (fun _ z=>nomatch z) (fun b o _ hb _ e n=>u.keep b o e n hb (by simp)) (fun b o _ hb _ e n=>u.slot b o e n hb (by simp)) (fun b o _ e n=>u.free b o e n (by simp)) (fun b o _ e=>u.there b o e (by simp)) u.tups u.frzs u.tbls (fun m' hm=>by
  obtain ⟨o',es',ep',ho',r'⟩:=hm
  rw [ho] at ho'; cases ho'
  exact ⟨_,es',ep',hL,r'⟩) hok I.bare
theorem Inv.call {g':Array GenState} {t':Nat} {d':Drawn} {ch:List Addr} (I:Inv X pins σ H s) (u:Un (frs X.stack) ch H H' s.heap h') (hok:HOk X.prog X.w H' h') (hg:AllBare g')
  (hch:∀ b ∈ ch,(b ∈ X.ex∨X.s₀.heap.objs.size≤b)∧b ≠ X.env.locals∧(∀ x c,X.env.cells.lookup x = some c→c ≠ b)∧∀ p ∈ X.pn ++ pins,p.1 ≠ b) :
  Inv X pins σ H' { s with heap:=h',gens:=g',drawn:=d',toks:=t' }:=by
 obtain ⟨m,⟨o,es,ep,ho,r⟩,_⟩:=id I.loc
 obtain ⟨sl,hL⟩:=u.any ho I.free fun z=>(hch _ z).2.1 rfl
 exact I.step (ch:=ch) hch (fun b o hL hb hc e n=>u.keep b o e n (fun z=>(List.mem_cons.mp (I.stkSub b z)).elim hL hb) hc) (fun b o _ _ hc e n=>u.any e n hc) (fun b o hc e n=>u.free b o e n hc) (fun b o hc e=>u.there b o e hc) u.tups u.frzs u.tbls (fun m' hm=>by
  obtain ⟨o',es',ep',ho',r'⟩:=hm
  rw [ho] at ho'; cases ho'
  exact ⟨_,es',ep',hL,r'⟩) hok hg
theorem Inv.turned {t':Nat} {it:Addr} (I:Inv X pins σ H s) (k:∀ b o,b ≠ it→s.heap.get? b = some o→h'.get? b = some o) (hn:H it = none) (hL:it ≠ X.env.locals)
  (h1:it ∈ X.ex∨X.s₀.heap.objs.size≤it) (h2:∀ x c,X.env.cells.lookup x = some c→c ≠ it) (h3:∀ p ∈ X.pn ++ pins,p.1 ≠ it):Inv X pins σ H { s with heap:=h',toks:=t' }:=by
 have nit:∀ b u,H b = some u→b ≠ it:=fun b u e z=>by rw [z,hn] at e; cases e
 refine I.step (g':=s.gens) (d':=s.drawn) (ch:=[it]) (fun b hb=>?_) (fun b o _ _ hc e _=>k b o (fun z=>hc (by simp [z])) e) (fun b o _ _ hc e _=>⟨o.slots,k b o (fun z=>hc (by simp [z])) e⟩) (fun _ _ _ _ n=>n)
  (fun b o hc e=>⟨o,k b o (fun z=>hc (by simp [z])) e⟩) (fun _ _ e=>e) (fun _ _ _ e=>e) (fun b ps e=>⟨#[],by rw [e]; simp⟩) (fun m hm=>?_) (fun b u e=>?_) I.bare
 ·have e:b = it:=by simpa using hb
  subst e
  exact ⟨h1,hL,h2,h3⟩
 ·obtain ⟨o,es,ep,ho,r⟩:=hm
  exact ⟨o,es,ep,k _ o (Ne.symm hL) ho,r⟩
 ·refine (I.hok b u e).stay (fun c v hc q=>k c v ?_ q) (fun _ q=>q) fun _ _ q=>q
  rcases hc with z | z
  ·rw [z]; exact nit b u e
  ·exact nit c _ z
theorem Inv.tok (I:Inv X pins σ H s) (t:Nat):Inv X pins σ H { s with toks:=t }:=I.un (h':=s.heap) (t':=t) Un.refl I.hok
theorem Inv.kept {t':Nat} (I:Inv X pins σ H s) (k:∀ b u,s.heap.get? b = some u→h'.get? b = some u):Inv X pins σ H { s with heap:=h',toks:=t' }:=I.un (Un.kept k) (I.hok.kept k)
theorem Inv.laid {a:Addr} {o:HO} {t':Nat} (I:Inv X pins σ H s) (k:∀ b u,s.heap.get? b = some u→h'.get? b = some u) (hp:s.heap.objs.size≤a) (new:ObjOk X.prog X.w (upd H a o) h' a o) :
  Inv X pins σ (upd H a o) { s with heap:=h',toks:=t' }:=I.un (Un.laid k hp (I.hok.fresh hp)) (I.hok.laid k hp new)
theorem Inv.write {x e:Addr} {o:HO} {t':Nat} (I:Inv X pins σ H s) (mu:Mut (H x)) (he:e = x∨H e = some (.own x)) (k:∀ b u,b ≠ e→s.heap.get? b = some u→h'.get? b = some u) (heo:∃ u,h'.get? e = some u)
  (new:ObjOk X.prog X.w (upd H x o) h' x o):Inv X pins σ (upd H x o) { s with heap:=h',toks:=t' }:=I.un (Un.write mu he k heo) (I.hok.write mu he k heo new)
theorem Inv.pins_of {pins':List (Addr × Obj)} (I:Inv X pins σ H s) (h:∀ p ∈ pins',s.heap.get? p.1 = some p.2∧H p.1 = none∧p.1 ≠ X.env.locals∧p.1 ∉ X.fs∧∀ v,p.2.data ≠ .cell v):Inv X pins' σ H s :=
 ⟨I.ok,I.os,I.bare,I.base,I.loc,I.cell,I.free,I.freeC,fun p hp=>(List.mem_append.mp hp).elim (fun z=>I.pin p (List.mem_append_left _ z)) (h p),I.hok,I.len⟩
theorem nodup_ix {N:List Str} (hN:N.Nodup) {i j:Nat} {x:Str} (a:N[i]? = some x) (b:N[j]? = some x):i = j:=by
 obtain ⟨h1,e1⟩:=List.getElem?_eq_some_iff.mp a
 obtain ⟨h2,e2⟩:=List.getElem?_eq_some_iff.mp b
 exact (List.getElem_inj hN).mp (e1.trans e2.symm)
theorem store_ok2 {M:Model} {A:Around} {E:Value→Shared→Prop} {i:Nat} {x:Str} {v:V} {u:Value} {Q:Unit→Shared→Prop} (I:Inv X pins σ H s) (hN:X.N.Nodup) (hi:X.N[i]? = some x) (hx:Loc X.env.scope x) (r:RelV v u)
  (h:∀ s',Inv X pins (σ.set i (some v)) H s'→(∃ a,Heap.SameBut a s.heap s'.heap∧(a = X.env.locals∨X.env.cells.lookup x = some a))→Q () s') (hf:X.fn x = true∨X.env.scope.names.lookup x = some .local:=by first | exact .inl rfl | exact .inr rfl | assumption):wpAny M A (storeName X.env x u) Q E s:=by
 obtain ⟨m,hn,hl⟩:=id I.loc
 have hcls:(X.env.scope.kind == .class || (X.env.scope.kind == .module && X.env.locals != X.env.globals)) = false:=by rw [I.ok.kind]; rfl
 have hiσ:i < σ.length:=by rw [I.len]; exact (List.getElem?_eq_some_iff.mp hi).1
 have cne:=I.cne
 have tracked:∀ {a:Addr} {h':Heap},(∃ o,s.heap.get? a = some o∧H a = none)→Heap.SameBut a s.heap h'→HOk X.prog X.w H h':=fun {a h'} ha hs b ob e=>by
  obtain ⟨_,_,hfree⟩:=ha
  refine (I.hok b ob e).stay (fun c w' hc q=>(hs.2 c ?_).trans q) (fun _ q=>q) fun _ _ q=>q
  rintro rfl
  rcases hc with rfl | hc
  ·rw [hfree] at e; cases e
  ·rw [hfree] at hc; cases hc
 rcases hx with hk | hk
 ·refine wpAny_storeName_local hk hn (fun h' hn' hs=>?_) hcls
  obtain ⟨oL,_,_,hoL,_⟩:=id hn
  refine h _ ⟨I.ok,I.os,I.bare,⟨fun b o e n hb hx=>?_,fun b o e n hb hx=>?_,I.base.free,fun b o e hx=>?_,I.base.tups,I.base.frzs,I.base.tbls⟩,⟨_,hn',fun j y v' e1 e2 e3=>?_⟩,fun y c e=>?_,I.free,I.freeC,fun p hp=>?_,tracked ⟨oL,hoL,I.free⟩ hs,by simpa using I.len⟩ ⟨_,hs,.inl rfl⟩
  ·exact (hs.2 b (Nat.ne_of_lt (Nat.lt_of_lt_of_le (Heap.lt_size e) I.ok.above))).trans (I.base.keep b o e n hb hx)
  ·obtain ⟨sl,e1⟩:=I.base.slot b o e n hb hx
   exact ⟨sl,(hs.2 b (Nat.ne_of_lt (Nat.lt_of_lt_of_le (Heap.lt_size e) I.ok.above))).trans e1⟩
  ·obtain ⟨o',e1⟩:=I.base.there b o e hx
   exact ⟨o',(hs.2 b (Nat.ne_of_lt (Nat.lt_of_lt_of_le (Heap.lt_size e) I.ok.above))).trans e1⟩
  ·by_cases hj:j = i
   ·subst hj
    rw [hi] at e1; cases e1
    rw [List.getElem?_set_self hiσ] at e2
    cases e2
    exact ⟨u,r,.inl ⟨hk,by simp⟩⟩
   ·rw [List.getElem?_set_ne (Ne.symm hj)] at e2
    obtain ⟨u',r',q⟩:=hl j y v' e1 e2 e3
    refine ⟨u',r',?_⟩
    rcases q with ⟨k,e⟩ | ⟨k,c,e,z⟩
    ·refine .inl ⟨k,?_⟩
     have:y ≠ x:=fun e=>hj (nodup_ix hN e1 (e ▸ hi))
     simp [this,e]
    ·exact .inr ⟨k,c,e,z.sameBut hs (cne y c e)⟩
  ·obtain ⟨w',z⟩:=I.cell y c e
   exact ⟨w',z.sameBut hs (cne y c e)⟩
  ·obtain ⟨e,n,ne,nf,d⟩:=I.pin p hp
   exact ⟨(hs.2 p.1 ne).trans e,n,ne,nf,d⟩
 ·have hfn:X.fn x = true:=by
   rcases hf with z | z
   ·exact z
   ·rw [z] at hk; cases hk
  obtain ⟨c,hc⟩:=I.ok.has x (.inl hk)
  obtain ⟨w',z⟩:=I.cell x c hc
  refine wpAny_storeName_cell I.ok.kind hk hc z (fun h' hc' hs=>?_)
  obtain ⟨oc,hoc,hocd⟩:=id z
  refine h { s with heap:=h' } ⟨I.ok,I.os,I.bare,⟨fun b o e n hb hx=>?_,fun b o e n hb hx=>?_,I.base.free,fun b o e hx=>?_,I.base.tups,I.base.frzs,I.base.tbls⟩,⟨m,hn.sameBut hs (Ne.symm (cne x c hc)),fun j y v' e1 e2 e3=>?_⟩,fun y c' e=>?_,I.free,I.freeC,fun p hp=>?_,tracked ⟨oc,hoc,I.freeC x c hc⟩ hs,by simpa using I.len⟩ ⟨c,hs,.inr hc⟩
  ·exact (hs.2 b (Nat.ne_of_lt (Nat.lt_of_lt_of_le (Heap.lt_size e) (I.ok.cab x c hfn hc)))).trans (I.base.keep b o e n hb hx)
  ·obtain ⟨sl,e1⟩:=I.base.slot b o e n hb hx
   exact ⟨sl,(hs.2 b (Nat.ne_of_lt (Nat.lt_of_lt_of_le (Heap.lt_size e) (I.ok.cab x c hfn hc)))).trans e1⟩
  ·obtain ⟨o',e1⟩:=I.base.there b o e hx
   exact ⟨o',(hs.2 b (Nat.ne_of_lt (Nat.lt_of_lt_of_le (Heap.lt_size e) (I.ok.cab x c hfn hc)))).trans e1⟩
  ·by_cases hj:j = i
   ·subst hj
    rw [hi] at e1; cases e1
    rw [List.getElem?_set_self hiσ] at e2
    cases e2
    exact ⟨u,r,.inr ⟨.inl hk,c,hc,hc'⟩⟩
   ·rw [List.getElem?_set_ne (Ne.symm hj)] at e2
    obtain ⟨u',r',q⟩:=hl j y v' e1 e2 e3
    refine ⟨u',r',?_⟩
    rcases q with q | ⟨k,c',e,z'⟩
    ·exact .inl q
    ·refine .inr ⟨k,c',e,z'.sameBut hs ?_⟩
     rintro rfl
     exact hj (nodup_ix hN e1 (I.ok.inj _ _ _ e hc ▸ hi))
  ·by_cases hcc:c' = c
   ·subst hcc; exact ⟨_,hc'⟩
   ·obtain ⟨w2,z2⟩:=I.cell y c' e
    exact ⟨w2,z2.sameBut hs hcc⟩
  ·obtain ⟨e,n,ne,nf,d⟩:=I.pin p hp
   refine ⟨(hs.2 p.1 ?_).trans e,n,ne,nf,d⟩
   intro q
   rw [q,hoc] at e
   have q':oc = p.2:=Option.some.inj e
   exact d w' (by rw [← q']; exact hocd)
theorem store_ok {M:Model} {A:Around} {E:Value→Shared→Prop} {i:Nat} {x:Str} {v:V} {u:Value} {Q:Unit→Shared→Prop} (I:Inv X pins σ H s) (hN:X.N.Nodup) (hi:X.N[i]? = some x) (hx:Loc X.env.scope x) (r:RelV v u)
  (h:∀ s',Inv X pins (σ.set i (some v)) H s'→Q () s') (hf:X.fn x = true∨X.env.scope.names.lookup x = some .local:=by first | exact .inl rfl | exact .inr rfl | assumption):wpAny M A (storeName X.env x u) Q E s :=
 store_ok2 I hN hi hx r (fun s' I' _=>h s' I') hf
theorem Inv.call' {s':Shared} {ch:List Addr} (I:Inv X pins σ H s) (ho:s'.os = s.os) (u:Un (frs X.stack) ch H H' s.heap s'.heap) (hok:HOk X.prog X.w H' s'.heap) (hg:AllBare s'.gens)
  (hch:∀ b ∈ ch,(b ∈ X.ex∨X.s₀.heap.objs.size≤b)∧b ≠ X.env.locals∧(∀ x c,X.env.cells.lookup x = some c→c ≠ b)∧∀ p ∈ X.pn ++ pins,p.1 ≠ b):Inv X pins σ H' s':=by
 obtain ⟨h',g',d',t',o'⟩:=s'
 have e:o' = s.os:=ho
 subst e
 exact I.call (g':=g') (t':=t') (d':=d') u hok hg hch
end
abbrev XK:=Value→Option Addr→Hp→Prop
abbrev St:=List (Option V)
abbrev VK:=V→Hp→Prop
abbrev TE:=St→Hp→VK→Prop
abbrev TT:=St→Hp→(Bool→Hp→Prop)→Prop
abbrev TA:=St→Hp→(List V→Hp→Prop)→Prop
structure Ends where
 nx:St→Hp→Prop
 rt:VK
 bk:St→Hp→Prop:=fun _ _=>False
 ct:St→Hp→Prop:=fun _ _=>False
abbrev TS:=Ends→St→Hp→Prop
def EP (X:Cx) (pins:List (Addr × Obj)) (σ:St) (Q:VK) (u:Value) (s':Shared):Prop:=∃ v H',Inv X pins σ H' s'∧RelV v u∧Q v H'
def TP (X:Cx) (pins:List (Addr × Obj)) (σ:St) (Q:Bool→Hp→Prop) (b:Bool) (s':Shared):Prop:=∃ H',Inv X pins σ H' s'∧Q b H'
def AP (X:Cx) (pins:List (Addr × Obj)) (σ:St) (Q:List V→Hp→Prop) (us:List Value) (s':Shared):Prop:=∃ vs H',Inv X pins σ H' s'∧Vals vs us∧Q vs H'
def SP (X:Cx) (pins:List (Addr × Obj)) (D:Ends) (f:Flow) (s':Shared):Prop :=
 match f with
 | .next=>∃ σ' H',Inv X pins σ' H' s'∧D.nx σ' H'
 | .brk=>∃ σ' H',Inv X pins σ' H' s'∧D.bk σ' H'
 | .cont=>∃ σ' H',Inv X pins σ' H' s'∧D.ct σ' H'
 | .ret u=>∃ v σ' H',Inv X pins σ' H' s'∧RelV v u∧D.rt v H'
def PE (X:Cx) (e:Expr) (t:TE):Prop :=
 ∀ (pins:List (Addr × Obj)) (s:Shared) (σ:St) (H:Hp) (Q:VK),Inv X pins σ H s→t σ H Q→wpAny (model X.prog X.w) X.A (eval e X.env) (EP X pins σ Q) X.xe s
def PT (X:Cx) (e:Expr) (t:TT):Prop :=
 ∀ (pins:List (Addr × Obj)) (s:Shared) (σ:St) (H:Hp) (Q:Bool→Hp→Prop),Inv X pins σ H s→t σ H Q→wpAny (model X.prog X.w) X.A (isTrue e X.env (eval e X.env)) (TP X pins σ Q) X.xe s
def PW (X:Cx) (e:Expr) (t:TT):Prop :=
 ∀ (whole:Sem Value) (pins:List (Addr × Obj)) (s:Shared) (σ:St) (H:Hp) (Q:Bool→Hp→Prop),Inv X pins σ H s→t σ H Q→wpAny (model X.prog X.w) X.A (isTrue e X.env whole) (TP X pins σ Q) X.xe s
theorem PW.pt {X:Cx} {e:Expr} {t:TT} (h:PW X e t):PT X e t:=h _
def PA (X:Cx) (es:List Expr) (t:TA):Prop :=
 ∀ (pos:Pos) (pins:List (Addr × Obj)) (s:Shared) (σ:St) (H:Hp) (Q:List V→Hp→Prop),Inv X pins σ H s→t σ H Q→wpAny (model X.prog X.w) X.A (spliced (backTo pos (starEach es X.env))) (AP X pins σ Q) X.xe s
def PS (X:Cx) (st:Stmt) (t:TS):Prop :=
 ∀ (pins:List (Addr × Obj)) (s:Shared) (σ:St) (H:Hp) (D:Ends),Inv X pins σ H s→t D σ H→wpAny (model X.prog X.w) X.A (exec st X.env) (SP X pins D) X.xe s
def PSs (X:Cx) (st:List Stmt) (t:TS):Prop :=
 ∀ (pins:List (Addr × Obj)) (s:Shared) (σ:St) (H:Hp) (D:Ends),Inv X pins σ H s→t D σ H→wpAny (model X.prog X.w) X.A (execs st X.env) (SP X pins D) X.xe s
theorem thn {α:Type} {t:Sem α} {Q Q':α→Shared→Prop} {M:Model} {A:Around} {E:Value→Shared→Prop} {s:Shared} (h:wpAny M A t Q E s) (hQ:∀ a s,Q a s→Q' a s):wpAny M A t Q' E s:=wpAny_mono h hQ fun _ _ x=>x
end L2
namespace L2
open PySem PySem.Spec PyProof.Rows
section
variable {X:Cx}
def tVar (i:Nat):TE:=fun σ H Q=>∃ v,σ[i]? = some (some v)∧Q v H
def tC (v:V):TE:=fun _ H Q=>Q v H
theorem pe_var {i:Nat} {x:Str} {pos:Pos} (hN:X.N[i]? = some x) (hv:Vis X.env.scope x) (hd:(x == ("__debug__":Str)) = false:=by decide) (hcd:(x == ("__classdict__":Str)) = false:=by decide):PE X (.Name x pos) (tVar i):=by
 intro pins s σ H Q I h
 obtain ⟨v,e,h⟩:=h
 obtain ⟨m,hn,hl⟩:=I.loc
 obtain ⟨u,r,l⟩:=hl i x v hN e hv
 have fin:EP X pins σ Q u s:=⟨v,H,I,r,h⟩
 rcases l with ⟨hk,hm⟩ | ⟨hk,c,hc,hcell⟩
 ·exact wpAny_Name (wpAny_loadName_local I.ok.kind hk hn hm fin) hd
 ·rcases hk with hk | hk
  ·exact wpAny_Name (wpAny_loadName_cell I.ok.kind hk hc hcell fin) hd
  ·exact wpAny_Name (wpAny_loadName_free I.ok.kind hk hc hcell fin hcd) hd
theorem pe_int {i j pos}:PE X (.Constant (.int i) j pos) (tC (.int i)):=fun _ _ _ H _ I h=>wpAny_Constant_int ⟨.int i,H,I.tok _,⟨_,rfl⟩,h⟩
theorem pe_bl {b j pos}:PE X (.Constant (.bool b) j pos) (tC (.bl b)):=fun _ _ _ H _ I h=>Constant_bool ⟨.bl b,H,I,rfl,h⟩
theorem pe_non {j pos}:PE X (.Constant .none j pos) (tC .non):=fun _ _ _ H _ I h=>Constant_none ⟨.non,H,I,rfl,h⟩
theorem pe_str {x j pos}:PE X (.Constant (.str x) j pos) (tC (.str x)):=fun _ _ _ H _ I h=>Calls.Constant_str ⟨.str x,H,I.tok _,⟨_,rfl⟩,h⟩
def Gl (X:Cx) (x:Str):Prop:=X.env.kindOf x = some .globalImplicit
theorem ld_glob {E:Value→Shared→Prop} {pins:List (Addr × Obj)} {s:Shared} {σ:St} {H:Hp} {x:Str} {u:Value} {pos:Pos} {Q:Value→Shared→Prop} (I:Inv X pins σ H s) (hg:Gl X x) (hm:X.mg x = some u) (h:Q u s)
  (hd:(x == ("__debug__":Str)) = false:=by decide):wpAny (model X.prog X.w) X.A (eval (.Name x pos) X.env) Q E s :=
 Calls.Name_function_global I.ok.kind hg (Calls.loadGlobal_global (by rw [I.ok.glob]; exact I.mod.glob.keeps I.bk) hm h) hd
theorem ld_blt {E:Value→Shared→Prop} {pins:List (Addr × Obj)} {s:Shared} {σ:St} {H:Hp} {x:Str} {u:Value} {pos:Pos} {Q:Value→Shared→Prop} (I:Inv X pins σ H s) (hg:Gl X x) (hm:X.mg x = none) (hv:bootBuiltins x = some u) (h:Q u s)
  (hn:x ≠ "__name__":=by decide) (hd:(x == ("__debug__":Str)) = false:=by decide):wpAny (model X.prog X.w) X.A (eval (.Name x pos) X.env) Q E s:=by
 obtain ⟨mb,h1,h2⟩:=I.mod.blt
 exact Calls.Name_function_global I.ok.kind hg (Calls.loadGlobal_builtin (by rw [I.ok.glob]; exact I.mod.glob.keeps I.bk) hm (by rw [I.ok.blt]; exact h1.keeps I.bk) ((h2 x hn).trans hv) h) hd
theorem pe_glob {x:Str} {v:V} {u:Value} {pos:Pos} (hg:Gl X x) (hm:X.mg x = some u) (r:RelV v u) (hd:(x == ("__debug__":Str)) = false:=by decide):PE X (.Name x pos) (tC v) :=
 fun _ _ _ H _ I h=>ld_glob I hg hm ⟨v,H,I,r,h⟩ hd
theorem pe_bltn {x:Str} {v:V} {u:Value} {pos:Pos} (hg:Gl X x) (hm:X.mg x = none) (hv:bootBuiltins x = some u) (r:RelV v u) (hn:x ≠ "__name__":=by decide) (hd:(x == ("__debug__":Str)) = false:=by decide):PE X (.Name x pos) (tC v) :=
 fun _ _ _ H _ I h=>ld_blt I hg hm hv ⟨v,H,I,r,h⟩ hn hd
variable {a b:Expr} {ta tb:TE} {pos:Pos}
def tB (t:TE):TT:=fun σ H Q=>t σ H fun x H1=>∃ c,x = .bl c∧Q c H1
theorem pt_val {e:Expr} {t:TE} (h:PE X e t) (he:∀ whole,isTrue e X.env whole = (do let v ← whole; standAt e.pos; holding [v] (truthy v)):=by intro _; rfl):PT X e (tB t):=by
 intro pins s σ H Q I hw
 refine isTrue_plain (thn (h pins s σ H _ I hw) fun v s1 ⟨x,H1,I1,r1,q1⟩=>?_) (he _)
 obtain ⟨d,rfl,q⟩:=q1
 cases r1
 exact wpAny_truthy_bool ⟨H1,I1,q⟩
variable {tA tB':TT} {rest:List Expr}
def tOr (t u:TT):TT:=fun σ H Q=>t σ H fun c H1=>if c = true then Q true H1 else u σ H1 Q
def tNot (t:TT):TT:=fun σ H Q=>t σ H fun c H1=>Q (!c) H1
theorem pw_or1 (ha:PT X a tA):PW X (.BoolOp .Or [a] pos) tA:=by
 intro wh pins s σ H Q I h
 refine isTrue_or (thn (ha pins s σ H Q I h) fun c s1 e=>?_)
 cases c with
 | false=>exact isTrue_or_nil e
 | true=>exact e
theorem pw_or (ha:PT X a tA) (hb:PW X (.BoolOp .Or (b :: rest) pos) tB'):PW X (.BoolOp .Or (a :: b :: rest) pos) (tOr tA tB'):=by
 intro wh pins s σ H Q I h
 refine isTrue_or (thn (ha pins s σ H _ I h) fun c s1 ⟨H1,I1,q1⟩=>?_)
 cases c with
 | true=>exact ⟨H1,I1,q1⟩
 | false=>exact hb wh pins s1 σ H1 Q I1 q1
theorem pt_not (ha:PT X a tA):PT X (.UnaryOp .Not a pos) (tNot tA):=by
 intro pins s σ H Q I h
 exact isTrue_not (ha pins s σ H (fun c H1=>Q (!c) H1) I h)
def tAndV (ta tb:TE):TE:=fun σ H Q=>ta σ H fun x H1=>∃ c,x = .bl c∧if c = true then tb σ H1 Q else Q (.bl false) H1
theorem pe_one {op} {t:TE} (h:PE X a t):PE X (.BoolOp op [a] pos) t:=fun pins s σ H Q I hw=>BoolOp_one (h pins s σ H Q I hw)
theorem pe_and (ha:PE X a ta) (hb:PE X (.BoolOp .And (b :: rest) pos) tb):PE X (.BoolOp .And (a :: b :: rest) pos) (tAndV ta tb):=by
 intro pins s σ H Q I h
 refine BoolOp_and (thn (ha pins s σ H _ I h) fun v s1 ⟨x,H1,I1,r1,q1⟩=>?_)
 obtain ⟨c,rfl,q1⟩:=q1
 cases r1
 refine wpAny_truthy_bool ?_
 cases c with
 | true=>exact hb pins s1 σ H1 Q I1 q1
 | false=>exact ⟨.bl false,H1,I1,rfl,q1⟩
def tIf (t:TT) (ta tb:TE):TE:=fun σ H Q=>t σ H fun c H1=>if c = true then ta σ H1 Q else tb σ H1 Q
theorem pe_ifExp {c:Expr} (hc:PT X c tA) (ha:PE X a ta) (hb:PE X b tb):PE X (.IfExp c a b pos) (tIf tA ta tb):=by
 intro pins s σ H Q I h
 refine wpAny_IfExp (thn (hc pins s σ H _ I h) fun d s1 ⟨H1,I1,q1⟩=>?_)
 cases d with
 | true=>exact ha pins s1 σ H1 Q I1 q1
 | false=>exact hb pins s1 σ H1 Q I1 q1
end
end L2
namespace L2
open PySem PySem.Spec PyProof.Rows
def SqL (K:PySem.W.Frag) (H:Hp) (a:Addr) (xs:List V):Prop :=
 Rd H a (.lst xs) ∨
  ∃ (o:Obj) (its:Array Value) (n:Nat),K.lookup a = some o∧o.cls = .type "list"∧o.dict = none∧o.data = .seq its n∧its.size≤sizeLine∧Vals xs its.toList
def SqT (K:PySem.W.Frag) (H:Hp) (a:Addr) (xs:List V):Prop :=
 Rd H a (.tup xs) ∨
  ∃ (o:Obj) (its:Array Value) (n:Nat),K.lookup a = some o∧o.cls = .type "tuple"∧o.data = .seq its n∧its.size≤sizeLine∧Vals xs its.toList
def absV:Value→Option V
 | .none=>some .non
 | .bool b=>some (.bl b)
 | .int i _=>some (.int i)
 | .str x _=>some (.str x)
 | .bytes b _=>some (.byt b)
 | .float b _=>some (.flt b)
 | .ref a=>some (.ref a)
 | .type n=>some (.ty n)
 | _=>none
theorem RelV.abs {x:V} {u:Value} (r:RelV x u):absV u = some x:=by
 cases x with
 | non=>cases r; rfl
 | bl _=>cases r; rfl
 | int _=>obtain ⟨t,rfl⟩:=r; rfl
 | str _=>obtain ⟨t,rfl⟩:=r; rfl
 | byt _=>obtain ⟨t,rfl⟩:=r; rfl
 | flt _=>obtain ⟨t,rfl⟩:=r; rfl
 | ref _=>cases r; rfl
 | ty _=>cases r; rfl
theorem RelV.inj {x y:V} {u:Value} (r:RelV x u) (q:RelV y u):x = y:=Option.some.inj (r.abs.symm.trans q.abs)
theorem Vals.inj:∀ {xs ys:List V} {us:List Value},Vals xs us→Vals ys us→xs = ys
 | _,_,_,.nil,.nil=>rfl
 | _,_,_,.cons r t,.cons r' t'=>by rw [r.inj r',Vals.inj t t']
section
variable {X:Cx} {pins:List (Addr × Obj)} {σ:St} {H:Hp} {s:Shared} {a:Addr} {xs ys:List V}
theorem SqL.of {K:PySem.W.Frag} (h:H a = some (.lst xs)):SqL K H a xs:=.inl (.inl h)
theorem SqT.of {K:PySem.W.Frag} (h:H a = some (.tup xs)):SqT K H a xs:=.inl (.inl h)
theorem Inv.list (I:Inv X pins σ H s) (h:SqL X.K H a xs):∃ its:List Value,Vals xs its∧PlainL s.heap a its.toArray∧xs.length≤sizeLine:=by
 rcases h with h | ⟨o,its,n,hk,hc,hd,hs,hz,r⟩
 ·obtain ⟨z,its,n,r,e⟩:=h.ok I.hok
  exact ⟨its,r,⟨_,n,e,rfl,rfl,rfl⟩,z⟩
 ·refine ⟨its.toList,r,⟨o,n,I.kIn a o hk,hc,hd,by simpa using hs⟩,?_⟩
  have e:=r.length
  simp only [Array.length_toList] at e
  omega
theorem Inv.tuple (I:Inv X pins σ H s) (h:SqT X.K H a xs):∃ its:List Value,Vals xs its∧IsTup s.heap a its.toArray∧xs.length≤sizeLine:=by
 rcases h with h | ⟨o,its,n,hk,hc,hs,hz,r⟩
 ·obtain ⟨z,its,r,p⟩:=h.ok I.hok
  exact ⟨its,r,p,z⟩
 ·refine ⟨its.toList,r,⟨o,I.kIn a o hk,hc,n,by simpa using hs⟩,?_⟩
  have e:=r.length
  simp only [Array.length_toList] at e
  omega
theorem Inv.list_inj (I:Inv X pins σ H s) (h:SqL X.K H a xs) (h':SqL X.K H a ys):xs = ys:=by
 obtain ⟨its,r,⟨o,n,e,_,_,d⟩,_⟩:=I.list h
 obtain ⟨its',r',⟨o',n',e',_,_,d'⟩,_⟩:=I.list h'
 rw [e] at e'; cases e'
 rw [d] at d'
 injection d' with d1 _
 have:its = its':=by simpa using congrArg Array.toList d1
 subst this
 exact r.inj r'
end
abbrev Cx.wish (X:Cx) (E:Value→Shared→Prop):Cx:={ X with xe:=E }
abbrev Cx.nox (X:Cx):Cx:=X.wish fun _ _=>False
theorem Cx.Ok.wish {X:Cx} (ok:X.Ok) (E:Value→Shared→Prop):(X.wish E).Ok :=
 ⟨ok.mod,ok.kind,ok.glob,ok.blt,ok.above,ok.inj,ok.has,ok.cab,ok.hd,ok.frames,ok.stk,ok.exf,ok.bs,ok.bsz,ok.noex,ok.exfs,ok.funs,ok.frf⟩
theorem Cx.Ok.unwish {X:Cx} {E:Value→Shared→Prop} (ok:(X.wish E).Ok):X.Ok :=
 ⟨ok.mod,ok.kind,ok.glob,ok.blt,ok.above,ok.inj,ok.has,ok.cab,ok.hd,ok.frames,ok.stk,ok.exf,ok.bs,ok.bsz,ok.noex,ok.exfs,ok.funs,ok.frf⟩
section
variable {X:Cx} {pins:List (Addr × Obj)} {σ:St} {H:Hp} {s:Shared} {E:Value→Shared→Prop}
theorem Inv.wish (I:Inv X pins σ H s) (E:Value→Shared→Prop):Inv (X.wish E) pins σ H s:=⟨I.ok.wish E,I.os,I.bare,I.base,I.loc,I.cell,I.free,I.freeC,I.pin,I.hok,I.len⟩
theorem Inv.unwish (I:Inv (X.wish E) pins σ H s):Inv X pins σ H s:=⟨I.ok.unwish,I.os,I.bare,I.base,I.loc,I.cell,I.free,I.freeC,I.pin,I.hok,I.len⟩
theorem SP.unwish {D:Ends} {f:Flow} {s':Shared} (h:SP (X.wish E) pins D f s'):SP X pins D f s':=by
 cases f with
 | next=>obtain ⟨σ',H',I,q⟩:=h; exact ⟨σ',H',I.unwish,q⟩
 | brk=>obtain ⟨σ',H',I,q⟩:=h; exact ⟨σ',H',I.unwish,q⟩
 | cont=>obtain ⟨σ',H',I,q⟩:=h; exact ⟨σ',H',I.unwish,q⟩
 | ret u=>obtain ⟨v,σ',H',I,r,q⟩:=h; exact ⟨v,σ',H',I.unwish,r,q⟩
theorem PSs.nox {st:List Stmt} {t:TS} (h:PSs X.nox st t):PSs X st t:=fun pins s σ H D I hw =>
 wpAny_mono (h pins s σ H D (I.wish _) hw) (fun _ _ q=>q.unwish) fun _ _ z=>False.elim z
end
section
variable {X:Cx} {st:Stmt} {rest:List Stmt} {t u:TS} {e:Expr} {te:TE} {pos:Pos}
def tNext:TS:=fun D σ H=>D.nx σ H
def tSeq (t u:TS):TS:=fun D σ H=>t { D with nx:=u D } σ H
theorem pss_nil:PSs X [] tNext:=fun _ _ σ H _ I h=>wpAny_execs_nil ⟨σ,H,I,h⟩
theorem pss_cons (h1:PS X st t) (h2:PSs X rest u):PSs X (st :: rest) (tSeq t u):=by
 intro pins s σ H D I h
 refine wpAny_execs_cons (thn (h1 pins s σ H { D with nx:=u D } I h) fun f s1 q=>?_)
 cases f with
 | next =>
  obtain ⟨σ',H',I',q⟩:=q
  exact h2 pins s1 σ' H' D I' q
 | ret v=>exact q
 | brk=>exact q
 | cont=>exact q
theorem pss_one (h1:PS X st t):PSs X [st] t:=by
 intro pins s σ H D I h
 refine wpAny_execs_cons (thn (h1 pins s σ H D I h) fun f s1 q=>?_)
 cases f with
 | next=>exact wpAny_execs_nil q
 | ret v=>exact q
 | brk=>exact q
 | cont=>exact q
theorem Inv.quiet {pins:List (Addr × Obj)} {σ:St} {H:Hp} {s:Shared} (I:Inv X pins σ H s):interactive X.env = false:=by simp [interactive,I.ok.kind]
def tDrop (te:TE):TS:=fun D σ H=>te σ H fun _ H1=>D.nx σ H1
theorem ps_expr (he:PE X e te) (hs:swapsWith e none pos.line X.env = pure false:=by rfl):PS X (.Expr e pos) (tDrop te):=by
 intro pins s σ H D I h
 exact wpAny_Expr_any (thn (he pins s σ H _ I h) fun v s1 ⟨x,H1,I1,r1,q1⟩=>⟨σ,H1,I1,q1⟩) I.quiet hs
def tRet (te:TE):TS:=fun D σ H=>te σ H D.rt
theorem ps_ret (he:PE X e te):PS X (.Return (some e) pos) (tRet te):=by
 intro pins s σ H D I h
 exact wpAny_Return_some (thn (he pins s σ H _ I h) fun v s1 ⟨x,H1,I1,r1,q1⟩=>⟨x,σ,H1,I1,r1,q1⟩)
def tIfS (c:TT) (t u:TS):TS:=fun D σ H=>c σ H fun b H1=>if b = true then t D σ H1 else u D σ H1
theorem ps_if {c:Expr} {a b:List Stmt} {tc:TT} (hc:PT X c tc) (ha:PSs X a t) (hb:PSs X b u):PS X (.If c a b pos) (tIfS tc t u):=by
 intro pins s σ H D I h
 refine wpAny_If (thn (hc pins s σ H _ I h) fun d s1 ⟨H1,I1,q1⟩=>?_)
 cases d with
 | true=>exact ha pins s1 σ H1 D I1 q1
 | false=>exact hb pins s1 σ H1 D I1 q1
end
abbrev TG:=V→St→Hp→(St→Hp→Prop)→Prop
def PG (X:Cx) (target:Expr) (t:TG):Prop :=
 ∀ (pins:List (Addr × Obj)) (s:Shared) (σ:St) (H:Hp) (v:V) (u:Value) (Q:St→Hp→Prop),Inv X pins σ H s→RelV v u→t v σ H Q →
  wpAny (model X.prog X.w) X.A (assign target X.env u) (fun _ s'=>∃ σ' H',Inv X pins σ' H' s'∧Q σ' H') X.xe s
abbrev TSet:=V→V→V→Hp→(Hp→Prop)→Prop
def PSet (X:Cx) (t:TSet):Prop :=
 ∀ (pins:List (Addr × Obj)) (s:Shared) (σ:St) (H:Hp) (o i v:V) (ov iv u:Value) (Q:Hp→Prop),Inv X pins σ H s→RelV o ov→RelV i iv→RelV v u→t o i v H Q →
  wpAny (model X.prog X.w) X.A (setItem ov iv u) (fun _ s'=>∃ H',Inv X pins σ H' s'∧Q H') X.xe s
section
variable {X:Cx} {pos:Pos}
def gName (i:Nat):TG:=fun v σ H Q=>Q (σ.set i (some v)) H
theorem pg_name {i:Nat} {x:Str} (hN:X.N.Nodup) (hi:X.N[i]? = some x) (hx:Loc X.env.scope x) (hf:X.fn x = true∨X.env.scope.names.lookup x = some .local:=by first | exact .inl rfl | exact .inr rfl | assumption):PG X (.Name x pos) (gName i):=by
 intro pins s σ H v u Q I r h
 exact wpAny_assign_Name (store_ok I hN hi hx r (fun s' I'=>⟨_,H,I',h⟩) hf)
def gSub (to ti:TE) (t:TSet):TG:=fun v σ H Q=>to σ H fun o H1=>ti σ H1 fun i H2=>t o i v H2 fun H3=>Q σ H3
theorem pg_sub {o i:Expr} {to ti:TE} {t:TSet} (ho:PE X o to) (hi:PE X i ti) (hs:PSet X t)
  (ha:∀ v,assign (.Subscript o i pos) X.env v = (do
   let ov ← holding [v] (eval o X.env)
   let iv ← holding [v,ov] (eval i X.env)
   standAt pos
   holding [v,ov,iv] (setItem ov iv v)
   release [v,ov,iv] []):=by intro _; rfl):PG X (.Subscript o i pos) (gSub to ti t):=by
 intro pins s σ H v u Q I r h
 rw [ha]
 refine wpAny_bind (wpAny_holding (thn (ho pins s σ H _ I h) fun ov s1 ⟨x,H1,I1,r1,q1⟩=>?_))
 refine wpAny_bind (wpAny_holding (thn (hi pins s1 σ H1 _ I1 q1) fun iv s2 ⟨y,H2,I2,r2,q2⟩=>?_))
 refine wpAny_bind (wpAny_standAt (wpAny_bind (wpAny_holding (thn (hs pins s2 σ H2 x y v ov iv u _ I2 r1 r2 r q2) fun _ s3 ⟨H3,I3,q3⟩=>?_))))
 exact wpAny_release ⟨σ,H3,I3,q3⟩
def tAsg (te:TE) (g:TG):TS:=fun D σ H=>te σ H fun x H1=>g x σ H1 D.nx
theorem ps_asg {tg e:Expr} {te:TE} {g:TG} (he:PE X e te) (hg:PG X tg g) (hs:swapsWithSole [tg] e pos.line X.env = pure false:=by rfl) (hw:swappedStores [tg] e X.env = pure none:=by rfl)
  (h1:(assignEach [tg] X.env).map (·.2) = [assign tg X.env]:=by rfl):PS X (.Assign [tg] e pos) (tAsg te g):=by
 intro pins s σ H D I h
 refine wpAny_Assign_stores (thn (he pins s σ H _ I h) fun v s1 ⟨x,H1,I1,r1,q1⟩=>?_) hs hw
 rw [h1]
 exact thn (hg pins s1 σ H1 x v _ I1 r1 q1) fun _ s2 q=>q
theorem ps_set {i:Nat} {x:Str} {e:Expr} {te:TE} {pos':Pos} (hN:X.N.Nodup) (hi:X.N[i]? = some x) (hx:Loc X.env.scope x) (he:PE X e te) (hs:swapsWith e (some (.Name x pos')) pos.line X.env = pure false:=by rfl) (hf:X.fn x = true∨X.env.scope.names.lookup x = some .local:=by first | exact .inl rfl | exact .inr rfl | assumption) :
  PS X (.Assign [.Name x pos'] e pos) (tAsg te (gName i)):=by
 intro pins s σ H D I h
 refine wpAny_Assign_Name (thn (he pins s σ H _ I h) fun v s1 ⟨y,H1,I1,r1,q1⟩=>?_) hs
 exact store_ok I1 hN hi hx r1 (fun s2 I2=>⟨_,H1,I2,q1⟩) hf
end
section
variable {X:Cx} {pos:Pos}
end
structure It where
 go:Nat→Hp→Prop
 yld:Nat→Hp→V→Hp→Prop
 stop:Nat→Hp→Prop
def FpOk (X:Cx) (pins:List (Addr × Obj)) (H:Hp) (b:Addr):Prop :=
 H b = none∧b ≠ X.env.locals∧b ∉ X.fs∧(b ∈ X.ex∨X.s₀.heap.objs.size≤b)∧(∀ x c,X.env.cells.lookup x = some c→c ≠ b)∧∀ p ∈ X.pn ++ pins,p.1 ≠ b
theorem Inv.fpOk {X:Cx} {pins:List (Addr × Obj)} {σ:St} {H H':Hp} {s:Shared} {b:Addr} (I:Inv X pins σ H s) (hb:s.heap.objs.size≤b) (hn:H' b = none):FpOk X pins H' b:=by
 refine ⟨hn,Nat.ne_of_gt (Nat.lt_of_lt_of_le I.lt hb),I.nofs hb,.inr (Nat.le_trans I.sz hb),fun x c e z=>?_,fun p hp z=>?_⟩
 ·obtain ⟨v,q⟩:=I.cell x c e
  exact absurd (Nat.lt_of_lt_of_le q.lt (by rw [z]; exact hb)) (Nat.lt_irrefl _)
 ·exact absurd (Nat.lt_of_lt_of_le (Heap.lt_size (I.pin p hp).1) (by rw [z]; exact hb)) (Nat.lt_irrefl _)
structure Turn (P:Program) (w:World) (K:PySem.W.Frag) (tg:Expr) (J:It) (fp:List Addr) (it:Addr) (tn:Nat→Heap→Prop):Prop where
 mem:it ∈ fp
 obj:∀ i h,tn i h→∀ b ∈ fp,∃ o,h.get? b = some o∧∀ v,o.data ≠ .cell v
 keep:∀ i h h',tn i h→(∀ b ∈ fp,∀ o,h.get? b = some o→h'.get? b = some o)→tn i h'
 item:∀ (X:Cx),X.prog = P→X.w = w→X.K = K→X.calm = true→∀ (i:Nat) (pins:List (Addr × Obj)) (s:Shared) (σ:St) (H:Hp) (E:Value→Shared→Prop),Inv X pins σ H s→(∀ b ∈ fp,FpOk X pins H b)→tn i s.heap→J.go i H →
  wpAny (model P w) X.A (pyNext (.ref it)) (fun r s1=>∃ u,r = some u ∧
   wpAny (model P w) X.A (letOwnedTupleGo tg (.ref it) u) (fun _ s2=>∃ x H',Inv X pins σ H' s2∧RelV x u∧J.yld i H x H'∧tn (i + 1) s2.heap∧∀ b ∈ fp,H' b = none) E s1) E s
 done:∀ (X:Cx),X.prog = P→X.w = w→X.K = K→X.calm = true→∀ (i:Nat) (pins:List (Addr × Obj)) (s:Shared) (σ:St) (H:Hp) (E:Value→Shared→Prop),Inv X pins σ H s→(∀ b ∈ fp,FpOk X pins H b)→tn i s.heap→J.stop i H →
  wpAny (model P w) X.A (pyNext (.ref it)) (fun r s1=>r = none∧Inv X pins σ H s1) E s
 self:∀ (A:Around) (i:Nat) (s:Shared) (Q:Value→Shared→Prop) (E:Value→Shared→Prop),tn i s.heap→Q (.ref it) s→wpAny (model P w) A (pyIter (.ref it)) Q E s
abbrev TI:=St→Hp→(It→Hp→Prop)→Prop
def PIE (X:Cx) (pins:List (Addr × Obj)) (σ:St) (tg:Expr) (R:It→Hp→Prop) (itv:Value) (s2:Shared):Prop :=
 ∃ (it:Addr) (fp:List Addr) (tn:Nat→Heap→Prop) (J:It) (H':Hp),itv = .ref it∧Inv X pins σ H' s2∧Turn X.prog X.w X.K tg J fp it tn∧tn 0 s2.heap∧(∀ b ∈ fp,FpOk X pins H' b)∧R J H'
def PI (X:Cx) (tg iter:Expr) (wi:TI):Prop :=
 ∀ (pins:List (Addr × Obj)) (s:Shared) (σ:St) (H:Hp) (R:It→Hp→Prop),Inv X pins σ H s→wi σ H R →
  wpAny (model X.prog X.w) X.A (eval iter X.env) (fun v s1=>wpAny (model X.prog X.w) X.A (pyIter v) (PIE X pins σ tg R) X.xe s1) X.xe s
theorem go_of {M:Model} {A:Around} {E:Value→Shared→Prop} {s:Shared} {tg:Expr} {it:Addr} {u:Value} {o:Obj} {n:String} {vs:Array Value} {Q:Unit→Shared→Prop} (ho:s.heap.get? it = some o) (hc:o.cls = .type n) (hd:o.data = .fields vs)
  (hn:["enumerate", "zip", "dict_itemiterator", "dict_reverseitemiterator", "odict_iterator", "itertools.zip_longest", "itertools.pairwise"].contains n = false) (hQ:Q () s):wpAny M A (letOwnedTupleGo tg (.ref it) u) Q E s:=by
 unfold letOwnedTupleGo
 cases tg <;> first
  | exact wpAny_pure hQ
  | (cases u <;> first
    | exact wpAny_pure hQ
    | (refine wpAny_bind (wpAny_load ho ?_)
       rw [hc,hd]
       show wpAny M A (if (["enumerate", "zip", "dict_itemiterator", "dict_reverseitemiterator", "odict_iterator", "itertools.zip_longest", "itertools.pairwise"].contains n && vs[0]? == some (rawInt _)) = true then _ else _) Q E s
       rw [if_neg (by intro h; rw [hn,Bool.false_and] at h; cases h)]
       exact wpAny_pure hQ))
def Itl (K:PySem.W.Frag) (a:Addr):It :=
 ⟨fun i H=>∃ xs x,SqL K H a xs∧xs[i]? = some x,fun i H x H'=>H' = H∧∀ xs,SqL K H a xs→xs[i]? = some x,fun i H=>∃ xs,SqL K H a xs∧xs.length≤i⟩
def Itr (lo:Int) (n:Nat):It:=⟨fun i _=>i < n,fun i H x H'=>H' = H∧x = .int (lo + i),fun i _=>n≤i⟩
theorem turn_list {P:Program} {w:World} {K:PySem.W.Frag} {tg:Expr} (a it:Addr):Turn P w K tg (Itl K a) [it] it (fun i h=>h.IsListIter it a i) where
 mem:=by simp
 obj:=fun i h st b hb=>by
  have e:b = it:=by simpa using hb
  subst e
  obtain ⟨o,e,c,d⟩:=st
  exact ⟨o,e,fun v z=>by rw [d] at z; cases z⟩
 keep:=fun i h h' st k=>st.at fun o e=>k it (by simp) o e
 item:=by
  intro X hP hw hK hc i pins s σ H E I hf st hg
  subst hP hw hK
  obtain ⟨xs,x,hq,hx⟩:=hg
  obtain ⟨its,rv,p,hz⟩:=I.list hq
  obtain ⟨u,hu,ru⟩:=rv.get hx
  obtain ⟨f0,f1,f2,f3,f4,f5⟩:=hf it (by simp)
  refine wpAny_pyNext_list_item st p.isList (x:=u) (by simpa using hu) fun h' st' sb=>?_
  have I1:Inv X pins σ H { s with heap:=h' }:=I.turned (t':=s.toks) (fun b o hb e=>(sb.2 b hb).trans e) f0 f1 f3 f4 f5
  obtain ⟨o,e,c,d⟩:=id st'
  exact ⟨u,rfl,go_of (s:={ s with heap:=h' }) e c d (by decide) ⟨x,H,I1,ru,⟨rfl,fun ys hy=>by rw [I.list_inj hy hq]; exact hx⟩,st',fun b hb=>(hf b hb).1⟩⟩
 done:=by
  intro X hP hw hK hc i pins s σ H E I hf st hg
  subst hP hw hK
  obtain ⟨xs,hq,hx⟩:=hg
  obtain ⟨its,rv,p,hz⟩:=I.list hq
  obtain ⟨f0,f1,f2,f3,f4,f5⟩:=hf it (by simp)
  have hl:=rv.length
  exact wpAny_pyNext_list_end (I.ok.hd hc) st p.isList (by simp; omega) fun h' eb=>⟨rfl,I.turned (t':=s.toks) (fun b o hb e=>eb b o hb e) f0 f1 f3 f4 f5⟩
 self:=fun _ _ _ _ _ st h=>wpAny_pyIter_listiter st h
theorem turn_range {P:Program} {w:World} {K:PySem.W.Frag} {tg:Expr} (it:Addr) (lo:Int) (n:Nat):Turn P w K tg (Itr lo n) [it] it (fun i h=>IsRangeIter h it (lo + (i:Nat) * 1) ((n:Int) - (i:Nat)) 1) where
 mem:=by simp
 obj:=fun i h st b hb=>by
  have e:b = it:=by simpa using hb
  subst e
  exact ⟨_,st,fun v z=>by
   have z':Data.fields _ = Data.cell v:=z
   cases z'⟩
 keep:=fun i h h' st k=>k it (by simp) _ st
 item:=by
  intro X hP hw hK hc i pins s σ H E I hf st hg
  subst hP hw hK
  obtain ⟨f0,f1,f2,f3,f4,f5⟩:=hf it (by simp)
  have W:=Walks.range (prog:=X.prog) (w:=X.w) (I.ok.hd hc) it lo 1 n
  refine W.item i s _ _ hg st fun v h' tk hv st' kk=>?_
  obtain ⟨t,rfl⟩:=hv
  have I1:Inv X pins σ H { s with heap:=h',toks:=tk }:=I.turned (fun b o hb e=>kk b o (by simpa using hb) e) f0 f1 f3 f4 f5
  refine ⟨_,rfl,go_of (s:={ s with heap:=h',toks:=tk }) (n:="range_iterator") st' rfl rfl (by decide) ⟨.int (lo + i),H,I1,⟨t,?_⟩,⟨rfl,rfl⟩,st',fun b hb=>(hf b hb).1⟩⟩
  rw [Int.mul_one]
 done:=by
  intro X hP hw hK hc i pins s σ H E I hf st hg
  subst hP hw hK
  obtain ⟨f0,f1,f2,f3,f4,f5⟩:=hf it (by simp)
  exact wpAny_pyNext_range_end (I.ok.hd hc) st (by have:n≤i:=hg; omega) fun h' eb=>⟨rfl,I.turned (t':=s.toks) (fun b o hb e=>eb b o hb e) f0 f1 f3 f4 f5⟩
 self:=fun _ _ _ _ _ st h=>wpAny_pyIter_rangeiter st h
end L2
namespace L2
open PySem PySem.Spec PyProof.Rows
section
variable {X:Cx} {tg:Expr}
def iList (K:PySem.W.Frag) (tl:TE):TI:=fun σ H R=>tl σ H fun x H1=>∃ a,x = .ref a∧(∃ xs,SqL K H1 a xs)∧R (Itl K a) H1
theorem pi_list {l:Expr} {tl:TE} (hl:PE X l tl):PI X tg l (iList X.K tl):=by
 intro pins s σ H R I h
 refine thn (hl pins s σ H _ I h) fun v s1 ⟨x,H1,I1,r1,q1⟩=>?_
 obtain ⟨a,e,⟨xs,hq⟩,q⟩:=q1
 subst e
 cases r1
 obtain ⟨its,rv,p,hz⟩:=I1.list hq
 refine wpAny_pyIter_list p.isList ?_
 refine ⟨s1.heap.objs.size,[s1.heap.objs.size],_,_,H1,rfl,I1.kept (t':=s1.toks) fun b o e=>Heap.get?_push_of_some _ e,turn_list a _,⟨_,Heap.get?_push_size _ rfl,rfl,rfl⟩,fun b hb=>?_,q⟩
 have e:b = s1.heap.objs.size:=by simpa using hb
 subst e
 exact I1.fpOk (Nat.le_refl _) (I1.hok.fresh (Nat.le_refl _))
theorem range_it {pins:List (Addr × Obj)} {σ:St} {H:Hp} {s:Shared} {R:It→Hp→Prop} {E:Value→Shared→Prop} {lo hi:Int} {t u v:Tok} {tk:Nat} (I:Inv X pins σ H s) (h1:-(2 ^ 62)≤lo) (h2:lo < 2 ^ 62) (h3:-(2 ^ 62)≤hi) (h4:hi < 2 ^ 62)
  (q:R (Itr lo (hi - lo).toNat) H):wpAny (model X.prog X.w) X.A (pyIter (.ref s.heap.objs.size)) (PIE X pins σ tg R) E { s with heap:=s.heap.push { cls:=.type "range",data:=.fields #[.int lo t,.int hi u,.int 1 v] },toks:=tk }:=by
 refine wpAny_pyIter_range (IsRange.new ..) (small_one h1 h2 h3 h4) ?_
 have I1:Inv X pins σ H { s with heap:=s.heap.push { cls:=.type "range",data:=.fields #[.int lo t,.int hi u,.int 1 v] },toks:=tk }:=I.kept fun b o e=>Heap.get?_push_of_some _ e
 refine ⟨(s.heap.push { cls:=.type "range",data:=.fields #[.int lo t,.int hi u,.int 1 v] }).objs.size,[(s.heap.push { cls:=.type "range",data:=.fields #[.int lo t,.int hi u,.int 1 v] }).objs.size],_,_,H,rfl,
  I1.kept (t':=tk) fun b o e=>Heap.get?_push_of_some _ e,turn_range _ lo (hi - lo).toNat,?_,fun b hb=>?_,q⟩
 ·have e1:lo + ((0:Nat):Int) * 1 = lo:=by simp
  have e2:(((hi - lo).toNat:Nat):Int) - ((0:Nat):Int) = Builtin.Range.rangeSize lo hi 1:=by rw [rangeSize_one]; split <;> omega
  show IsRangeIter _ _ (lo + ((0:Nat):Int) * 1) ((((hi - lo).toNat:Nat):Int) - ((0:Nat):Int)) 1
  rw [e1,e2]
  exact Heap.get?_push_size _ rfl
 ·have e:b = (s.heap.push { cls:=.type "range",data:=.fields #[.int lo t,.int hi u,.int 1 v] }).objs.size:=by simpa using hb
  subst e
  exact I1.fpOk (Nat.le_refl _) (I1.hok.fresh (Nat.le_refl _))
def iRng1 (ta:TA):TI:=fun σ H R=>ta σ H fun vs H1=>∃ j:Int,vs = [.int j]∧-(2 ^ 62)≤j∧j < 2 ^ 62∧R (Itr 0 j.toNat) H1
theorem pi_range1 {a:Expr} {ta:TA} {p pos:Pos} (hg:Gl X "range") (hm:X.mg "range" = none) (ha:PA X [a] ta) (hs:starEach [a] X.env = [(false,eval a X.env)]:=by rfl):PI X tg (.Call (.Name "range" p) [a] [] pos) (iRng1 ta):=by
 intro pins s σ H R I h
 refine Call_ (ld_blt I hg hm boot_range (PyProof.Rows.callWith_type1 (thn (ha pos pins s σ H _ I h) fun us s1 ⟨vs,H1,I1,r1,q1⟩=>?_) hs rfl))
 obtain ⟨j,e,q1,q2,q⟩:=q1
 subst e
 cases r1 with
 | cons r rr =>
  cases rr
  obtain ⟨t,rfl⟩:=r
  exact call_range_1 (range_it I1 (by omega) (by omega) q1 q2 (by simpa using q))
def tFor (wi:TI) (g:TG) (tb:TS):TS:=fun D σ H=>wi σ H fun J H1=>∃ W:Nat→Nat→St→Hp→Prop,(∃ m,W 0 m σ H1)∧∀ i m σ H,W i m σ H →
 (J.stop i H∧D.nx σ H)∨(J.go i H∧∃ N:St→Hp→Prop,(∀ σ' H',N σ' H'→∃ m',m' < m∧W (i + 1) m' σ' H')∧∀ x H',J.yld i H x H'→g x σ H' fun σ2 H2=>tb { D with nx:=N,ct:=N,bk:=D.nx } σ2 H2)
def pinsAt (fp:List Addr) (h:Heap):List (Addr × Obj):=fp.filterMap fun b=>(h.get? b).map fun o=>(b,o)
theorem mem_pinsAt {fp:List Addr} {h:Heap} {b:Addr} {o:Obj} (hb:b ∈ fp) (e:h.get? b = some o):(b,o) ∈ pinsAt fp h:=List.mem_filterMap.mpr ⟨b,hb,by rw [e]; rfl⟩
theorem of_pinsAt {fp:List Addr} {h:Heap} {p:Addr × Obj} (hp:p ∈ pinsAt fp h):p.1 ∈ fp∧h.get? p.1 = some p.2:=by
 obtain ⟨b,hb,e⟩:=List.mem_filterMap.mp hp
 cases q:h.get? b with
 | none=>rw [q] at e; cases e
 | some o =>
  rw [q] at e
  have e':(b,o) = p:=Option.some.inj e
  subst e'
  exact ⟨hb,q⟩
theorem Inv.pinned {pins:List (Addr × Obj)} {σ:St} {H:Hp} {s:Shared} {fp:List Addr} (I:Inv X pins σ H s) (hf:∀ b ∈ fp,FpOk X pins H b) (ho:∀ b ∈ fp,∃ o,s.heap.get? b = some o∧∀ v,o.data ≠ .cell v):Inv X (pins ++ pinsAt fp s.heap) σ H s :=
 I.pins_of fun p hp=>(List.mem_append.mp hp).elim (fun z=>I.pin p (List.mem_append_right _ z)) fun z=>by
  obtain ⟨hb,e⟩:=of_pinsAt z
  obtain ⟨f0,f1,f2,_⟩:=hf p.1 hb
  obtain ⟨o,e',d⟩:=ho p.1 hb
  rw [e] at e'; cases e'
  exact ⟨e,f0,f1,f2,d⟩
theorem Inv.unpinned {pins pl:List (Addr × Obj)} {σ:St} {H:Hp} {s:Shared} (I:Inv X (pins ++ pl) σ H s):Inv X pins σ H s:=I.pins_of fun p hp=>I.pin p (List.mem_append_right _ (List.mem_append_left _ hp))
theorem ps_for {iter:Expr} {body:List Stmt} {wi:TI} {g:TG} {tb:TS} {pos:Pos} (hp:PassesOwn (model X.prog X.w) X.A X.env X.xe) (hc:X.calm = true) (hi:PI X tg iter wi) (hg:PG X tg g) (hb:PSs X body tb)
  (hs:∀ x,foldedSetIterable iter X.env x = pure x:=by intro _; rfl):PS X (.For tg iter body [] pos) (tFor wi g tb):=by
 intro pins s σ H D I h
 refine wpAny_For (thn (hi pins s σ H _ I h) fun v s1 h1=>thn h1 fun itv s2 h2=>?_) hs
 obtain ⟨it,fp,tn,J,H2,e,I2,T,st2,f2,W,⟨m0,w0⟩,turn⟩:=h2
 subst e
 have stat:∀ {H':Hp},(∀ b ∈ fp,H' b = none)→∀ b ∈ fp,FpOk X pins H' b:=fun hn b hb=>⟨hn b hb,(f2 b hb).2⟩
 refine codeAny_forLoop_any (fun n s'=>∃ i σ' H',Inv X pins σ' H' s'∧tn i s'.heap∧(∀ b ∈ fp,H' b = none)∧W i n σ' H') ?_ m0 ⟨0,σ,H2,I2,st2,fun b hb=>(f2 b hb).1,w0⟩
 rintro n s3 ⟨i,σ3,H3,I3,st3,fr3,w3⟩
 rcases turn i n σ3 H3 w3 with ⟨stop,qn⟩ | ⟨go,N,hN,step⟩
 ·refine wpAny_passesOwn hp (thn (T.done X rfl rfl rfl hc i pins s3 σ3 H3 X.xe I3 (stat fr3) st3 stop) fun r s4 ⟨hr,I4⟩=>?_)
  subst hr
  exact wpAny_execs_nil ⟨σ3,H3,I4,qn⟩
 ·refine wpAny_passesOwn hp (thn (T.item X rfl rfl rfl hc i pins s3 σ3 H3 X.xe I3 (stat fr3) st3 go) fun r s4 ⟨u,hr,h4⟩=>?_)
  subst hr
  refine wpAny_passesOwn hp (thn h4 fun _ s5 ⟨x,H5,I5,r5,y5,st5,fr5⟩=>?_)
  have I5':=I5.pinned (stat fr5) (T.obj _ _ st5)
  refine wpAny_passesOwn hp (thn (hg _ s5 σ3 H5 x u _ I5' r5 (step x H5 y5)) fun _ s6 ⟨σ6,H6,I6,q6⟩=>?_)
  refine wpAny_passesOwn hp (thn (hb _ s6 σ6 H6 _ I6 q6) fun f s7 q7=>?_)
  have again:∀ {σ7:St} {H7:Hp},Inv X (pins ++ pinsAt fp s5.heap) σ7 H7 s7→N σ7 H7→∃ m,m < n∧∃ i σ' H',Inv X pins σ' H' s7∧tn i s7.heap∧(∀ b ∈ fp,H' b = none)∧W i m σ' H':=fun {σ7 H7} I7 n7=>by
   obtain ⟨m',hm,w7⟩:=hN σ7 H7 n7
   refine ⟨m',hm,i + 1,σ7,H7,I7.unpinned,T.keep _ _ _ st5 fun b hb o e=>(I7.pin (b,o) (List.mem_append_right _ (List.mem_append_right _ (mem_pinsAt hb e)))).1,fun b hb=>?_,w7⟩
   obtain ⟨o,e,d⟩:=T.obj _ _ st5 b hb
   exact (I7.pin (b,o) (List.mem_append_right _ (List.mem_append_right _ (mem_pinsAt hb e)))).2.1
  cases f with
  | next=>obtain ⟨σ7,H7,I7,n7⟩:=q7; exact again I7 n7
  | cont=>obtain ⟨σ7,H7,I7,n7⟩:=q7; exact again I7 n7
  | brk=>obtain ⟨σ7,H7,I7,q7⟩:=q7; exact ⟨σ7,H7,I7.unpinned,q7⟩
  | ret v=>obtain ⟨x7,σ7,H7,I7,r7,q7⟩:=q7; exact ⟨x7,σ7,H7,I7.unpinned,r7,q7⟩
end
theorem for_list {K:PySem.W.Frag} {a:Addr} {xs:List V} {g:TG} {tb:TS} {D:Ends} {σ:St} {H:Hp} (Pv:Nat→St→Hp→Prop) (h0:Pv 0 σ H) (hl:∀ i σ H,i≤xs.length→Pv i σ H→SqL K H a xs)
  (hs:∀ i x σ H,xs[i]? = some x→Pv i σ H→g x σ H fun σ2 H2=>tb { D with nx:=Pv (i + 1),ct:=Pv (i + 1),bk:=D.nx } σ2 H2) (hd:∀ σ H,Pv xs.length σ H→D.nx σ H) :
  ∃ W:Nat→Nat→St→Hp→Prop,(∃ m,W 0 m σ H)∧∀ i m σ H,W i m σ H →
   ((Itl K a).stop i H∧D.nx σ H)∨((Itl K a).go i H∧∃ N:St→Hp→Prop,(∀ σ' H',N σ' H'→∃ m',m' < m∧W (i + 1) m' σ' H')∧∀ x H',(Itl K a).yld i H x H'→g x σ H' fun σ2 H2=>tb { D with nx:=N,ct:=N,bk:=D.nx } σ2 H2):=by
 refine ⟨fun i m σ H=>m = xs.length - i∧i≤xs.length∧Pv i σ H,⟨xs.length,by simp,Nat.zero_le _,h0⟩,?_⟩
 rintro i m σ H ⟨rfl,hi,p⟩
 have q:=hl i σ H hi p
 by_cases hlt:i < xs.length
 ·refine .inr ⟨⟨xs,xs[i],q,by simp [hlt]⟩,Pv (i + 1),fun σ' H' p'=>⟨xs.length - (i + 1),by omega,rfl,hlt,p'⟩,fun x H' y=>?_⟩
  obtain ⟨e,y⟩:=y
  subst e
  exact hs i x σ _ (y xs q) p
 ·have e:i = xs.length:=by omega
  subst e
  exact .inl ⟨⟨xs,q,Nat.le_refl _⟩,hd σ H p⟩
theorem for_range {lo:Int} {n:Nat} {g:TG} {tb:TS} {D:Ends} {σ:St} {H:Hp} (Pv:Nat→St→Hp→Prop) (h0:Pv 0 σ H)
  (hs:∀ i σ H,i < n→Pv i σ H→g (.int (lo + i)) σ H fun σ2 H2=>tb { D with nx:=Pv (i + 1),ct:=Pv (i + 1),bk:=D.nx } σ2 H2) (hd:∀ σ H,Pv n σ H→D.nx σ H) :
  ∃ W:Nat→Nat→St→Hp→Prop,(∃ m,W 0 m σ H)∧∀ i m σ H,W i m σ H →
   ((Itr lo n).stop i H∧D.nx σ H)∨((Itr lo n).go i H∧∃ N:St→Hp→Prop,(∀ σ' H',N σ' H'→∃ m',m' < m∧W (i + 1) m' σ' H')∧∀ x H',(Itr lo n).yld i H x H'→g x σ H' fun σ2 H2=>tb { D with nx:=N,ct:=N,bk:=D.nx } σ2 H2):=by
 refine ⟨fun i m σ H=>m = n - i∧i≤n∧Pv i σ H,⟨n,by simp,Nat.zero_le _,h0⟩,?_⟩
 rintro i m σ H ⟨rfl,hi,p⟩
 by_cases hlt:i < n
 ·refine .inr ⟨hlt,Pv (i + 1),fun σ' H' p'=>⟨n - (i + 1),by omega,rfl,hlt,p'⟩,fun x H' y=>?_⟩
  obtain ⟨e,y⟩:=y
  subst e y
  exact hs i σ _ hlt p
 ·have e:i = n:=by omega
  subst e
  exact .inl ⟨Nat.le_refl _,hd σ H p⟩
end L2
namespace L2
open PySem PySem.Spec PyProof.Rows
abbrev R2:=V→V→Hp→VK→Prop
def OpR (X:Cx) (f:Value→Value→Sem Value) (r:R2):Prop :=
 ∀ (pins:List (Addr × Obj)) (s:Shared) (σ:St) (H:Hp) (x y:V) (v u:Value) (Q:VK),Inv X pins σ H s→RelV x v→RelV y u→r x y H Q →
  wpAny (model X.prog X.w) X.A (f v u) (EP X pins σ Q) X.xe s
def CallR (X:Cx) (f:Value) (r:List V→Hp→VK→Prop):Prop :=
 ∀ (pins:List (Addr × Obj)) (s:Shared) (σ:St) (H:Hp) (xs:List V) (us:List Value) (Q:VK),Inv X pins σ H s→Vals xs us→r xs H Q →
  wpAny (model X.prog X.w) X.A (call f us) (EP X pins σ Q) X.xe s
def tOp (r:R2) (ta tb:TE):TE:=fun σ H Q=>ta σ H fun x H1=>tb σ H1 fun y H2=>r x y H2 Q
def rI (C:Int→Int→Prop) (g:Int→Int→V):R2:=fun x y H Q=>∃ i j,x = .int i∧y = .int j∧C i j∧Q (g i j) H
def rI0 (g:Int→Int→V):R2:=fun x y H Q=>∃ i j,x = .int i∧y = .int j∧Q (g i j) H
section
variable {X:Cx} {a b c:Expr} {ta tb tc:TE} {pos:Pos}
theorem binT (ha:PE X a ta) (hb:PE X b tb) {pins:List (Addr × Obj)} {s:Shared} {σ:St} {H:Hp} {R:V→V→Hp→Prop} (I:Inv X pins σ H s)
  (h:ta σ H fun x H1=>tb σ H1 fun y H2=>R x y H2) {Q:Value→Shared→Prop} {f:Value→Value→Sem Value}
  (hf:∀ v u s2 x y H2,Inv X pins σ H2 s2→RelV x v→RelV y u→R x y H2→wpAny (model X.prog X.w) X.A (f v u) Q X.xe s2) :
  wpAny (model X.prog X.w) X.A (eval a X.env) (fun v s₁=>wpAny (model X.prog X.w) X.A (eval b X.env) (fun u s₂=>wpAny (model X.prog X.w) X.A (f v u) Q X.xe s₂) X.xe s₁) X.xe s:=by
 refine thn (ha pins s σ H _ I h) fun v s1 ⟨x,H1,I1,r1,q1⟩=>?_
 refine thn (hb pins s1 σ H1 _ I1 q1) fun u s2 ⟨y,H2,I2,r2,q2⟩=>?_
 exact hf v u s2 x y H2 I2 r1 r2 q2
theorem pe_op {op:Operator} {r:R2} (ho:OpR X (binaryOp op) r) (ha:PE X a ta) (hb:PE X b tb):PE X (.BinOp a op b pos) (tOp r ta tb):=by
 intro pins s σ H Q I h
 exact wpAny_BinOp (binT ha hb I h fun v u s2 x y H2 I2 rx ry q=>ho pins s2 σ H2 x y v u Q I2 rx ry q)
theorem opI {f:Value→Value→Sem Value} {C:Int→Int→Prop} {g:Int→Int→Int}
  (rule:∀ (i j:Int) (t u:Tok) (s:Shared) (Q:Value→Shared→Prop) (E:Value→Shared→Prop),C i j→Q (.int (g i j) s.toks) { s with toks:=s.toks + 1 }→wpAny (model X.prog X.w) X.A (f (.int i t) (.int j u)) Q E s) :
  OpR X f (rI C fun i j=>.int (g i j)):=by
 intro pins s σ H x y v u Q I rx ry h
 obtain ⟨i,j,rfl,rfl,hc,q⟩:=h
 obtain ⟨t,rfl⟩:=rx
 obtain ⟨t',rfl⟩:=ry
 exact rule i j t t' s _ _ hc ⟨.int (g i j),H,I.tok _,⟨_,rfl⟩,q⟩
theorem opI0 {f:Value→Value→Sem Value} {g:Int→Int→Int}
  (rule:∀ (i j:Int) (t u:Tok) (s:Shared) (Q:Value→Shared→Prop) (E:Value→Shared→Prop),Q (.int (g i j) s.toks) { s with toks:=s.toks + 1 }→wpAny (model X.prog X.w) X.A (f (.int i t) (.int j u)) Q E s) :
  OpR X f (rI0 fun i j=>.int (g i j)):=by
 intro pins s σ H x y v u Q I rx ry h
 obtain ⟨i,j,rfl,rfl,q⟩:=h
 obtain ⟨t,rfl⟩:=rx
 obtain ⟨t',rfl⟩:=ry
 exact rule i j t t' s _ _ ⟨.int (g i j),H,I.tok _,⟨_,rfl⟩,q⟩
theorem opB0 {f:Value→Value→Sem Value} {g:Int→Int→Bool}
  (rule:∀ (i j:Int) (t u:Tok) (s:Shared) (Q:Value→Shared→Prop) (E:Value→Shared→Prop),Q (.bool (g i j)) s→wpAny (model X.prog X.w) X.A (f (.int i t) (.int j u)) Q E s) :
  OpR X f (rI0 fun i j=>.bl (g i j)):=by
 intro pins s σ H x y v u Q I rx ry h
 obtain ⟨i,j,rfl,rfl,q⟩:=h
 obtain ⟨t,rfl⟩:=rx
 obtain ⟨t',rfl⟩:=ry
 exact rule i j t t' s _ _ ⟨.bl (g i j),H,I,rfl,q⟩
def CPow (i j:Int):Prop:=0≤j∧j≤1000000∧i.natAbs < 2 ^ 64
def CMul (i j:Int):Prop:=(-(2 ^ 64) < i∧i < 2 ^ 64)∨(-(2 ^ 64) < j∧j < 2 ^ 64)
theorem CMul.ok {i j:Int} (h:CMul i j):IntMulOk i j:=by
 rcases h with ⟨h1,h2⟩ | ⟨h1,h2⟩
 ·exact .of_left (intBits_le_64 h1 h2)
 ·exact .of_right (intBits_le_64 h1 h2)
theorem op_add:OpR X (binaryOp .Add) (rI0 fun i j=>.int (i + j)):=opI0 fun _ _ _ _ _ _ _ q=>add_int q
theorem op_sub:OpR X (binaryOp .Sub) (rI0 fun i j=>.int (i - j)):=opI0 fun _ _ _ _ _ _ _ q=>sub_int q
theorem op_mul:OpR X (binaryOp .Mult) (rI CMul fun i j=>.int (i * j)):=opI fun _ _ _ _ _ _ _ hc q=>mul_int q hc.ok
theorem op_mod:OpR X (binaryOp .Mod) (rI (fun _ j=>0 < j) fun i j=>.int (i % j)):=opI fun i j _ _ _ _ _ hc q=>by
 have h1:(0:Int) < j:=hc
 exact mod_int' (by omega) (by rw [Int.fmod_eq_emod_of_nonneg i (by omega)]; exact q)
theorem op_pow:OpR X (binaryOp .Pow) (rI CPow fun i j=>.int (i ^ j.toNat)):=opI fun _ _ _ _ _ _ _ hc q=>pow_int_small hc.1 hc.2.1 hc.2.2 q
end
def scal:V→V→Bool
 | .non,.non=>true | .non,.int _=>true | .int _,.non=>true | .non,.bl _=>true | .bl _,.non=>true | .non,.str _=>true | .str _,.non=>true
 | .int _,.int _=>true | .bl _,.bl _=>true | .str _,.str _=>true | .byt _,.byt _=>true
 | .int _,.str _=>true | .str _,.int _=>true | .bl _,.str _=>true | .str _,.bl _=>true
 | _,_=>false
def rEq:R2:=fun x y H Q=>scal x y = true∧Q (.bl (decide (x = y))) H
def rNe:R2:=fun x y H Q=>scal x y = true∧Q (.bl (!decide (x = y))) H
theorem dec_int {i j:Int}:decide (V.int i = V.int j) = (i == j):=by
 rw [Bool.eq_iff_iff]
 simp
theorem dec_bl {i j:Bool}:decide (V.bl i = V.bl j) = (i == j):=by
 rw [Bool.eq_iff_iff]
 simp
theorem dec_str {i j:Str}:decide (V.str i = V.str j) = (i == j):=by
 rw [Bool.eq_iff_iff]
 simp
theorem dec_byt {i j:Array UInt8}:decide (V.byt i = V.byt j) = (i.toList == j.toList):=by
 rw [Bool.eq_iff_iff]
 cases i
 cases j
 simp
section
variable {X:Cx} {a b c:Expr} {ta tb tc:TE} {pos:Pos}
theorem fin_bl {pins:List (Addr × Obj)} {σ:St} {H:Hp} {s:Shared} {Q:VK} {k k':Bool} (I:Inv X pins σ H s) (q:Q (.bl k) H) (e:k = k'):EP X pins σ Q (.bool k') s:=by
 subst e
 exact ⟨.bl k,H,I,rfl,q⟩
theorem op_eq:OpR X (compareOp .Eq) rEq:=by
 intro pins s σ H x y v u Q I rx ry h
 obtain ⟨hs,q⟩:=h
 cases x with
 | non =>
  cases rx
  cases y with
  | non=>cases ry; exact PySem.EqNone.eq_none_none (fin_bl I q (by simp))
  | bl j=>cases ry; exact PySem.EqNone.eq_none_bool (fin_bl I q (by simp))
  | int j=>obtain ⟨t',rfl⟩:=ry; exact PySem.EqNone.eq_none_int (fin_bl I q (by simp))
  | str j=>obtain ⟨t',rfl⟩:=ry; exact PySem.EqNone.eq_none_str (fin_bl I q (by simp))
  | _=>exact absurd (show false = true from hs) Bool.false_ne_true
 | bl i =>
  cases rx
  cases y with
  | non=>cases ry; exact PySem.EqNone.eq_bool_none (fin_bl I q (by simp))
  | bl j=>cases ry; exact eq_bool (fin_bl I q dec_bl)
  | str j=>obtain ⟨t',rfl⟩:=ry; exact PySem.EqMixed.eq_bool_str (fin_bl I q (by simp))
  | _=>exact absurd (show false = true from hs) Bool.false_ne_true
 | int i =>
  obtain ⟨t,rfl⟩:=rx
  cases y with
  | non=>cases ry; exact PySem.EqNone.eq_int_none (fin_bl I q (by simp))
  | int j=>obtain ⟨t',rfl⟩:=ry; exact eq_int (fin_bl I q dec_int)
  | str j=>obtain ⟨t',rfl⟩:=ry; exact PySem.EqMixed.eq_int_str (fin_bl I q (by simp))
  | _=>exact absurd (show false = true from hs) Bool.false_ne_true
 | str i =>
  obtain ⟨t,rfl⟩:=rx
  cases y with
  | non=>cases ry; exact PySem.EqNone.eq_str_none (fin_bl I q (by simp))
  | bl j=>cases ry; exact PySem.EqMixed.eq_str_bool (fin_bl I q (by simp))
  | int j=>obtain ⟨t',rfl⟩:=ry; exact PySem.EqMixed.eq_str_int (fin_bl I q (by simp))
  | str j=>obtain ⟨t',rfl⟩:=ry; exact eq_str (fin_bl I q dec_str)
  | _=>exact absurd (show false = true from hs) Bool.false_ne_true
 | byt i =>
  obtain ⟨t,rfl⟩:=rx
  cases y with
  | byt j=>obtain ⟨t',rfl⟩:=ry; exact PySem.W.eq_bytes (fin_bl I q dec_byt)
  | _=>exact absurd (show false = true from hs) Bool.false_ne_true
 | _=>cases y <;> exact absurd (show false = true from hs) Bool.false_ne_true
theorem op_ne:OpR X (compareOp .NotEq) rNe:=by
 intro pins s σ H x y v u Q I rx ry h
 obtain ⟨hs,q⟩:=h
 cases x with
 | non =>
  cases rx
  cases y with
  | non=>cases ry; exact PySem.EqNone.ne_none_none (fin_bl I q (by simp))
  | bl j=>cases ry; exact PySem.EqNone.ne_none_bool (fin_bl I q (by simp))
  | int j=>obtain ⟨t',rfl⟩:=ry; exact PySem.EqNone.ne_none_int (fin_bl I q (by simp))
  | str j=>obtain ⟨t',rfl⟩:=ry; exact PySem.EqNone.ne_none_str (fin_bl I q (by simp))
  | _=>exact absurd (show false = true from hs) Bool.false_ne_true
 | bl i =>
  cases rx
  cases y with
  | non=>cases ry; exact PySem.EqNone.ne_bool_none (fin_bl I q (by simp))
  | bl j=>cases ry; exact ne_bool (fin_bl I q (congrArg not dec_bl))
  | str j=>obtain ⟨t',rfl⟩:=ry; exact PySem.EqMixed.ne_bool_str (fin_bl I q (by simp))
  | _=>exact absurd (show false = true from hs) Bool.false_ne_true
 | int i =>
  obtain ⟨t,rfl⟩:=rx
  cases y with
  | non=>cases ry; exact PySem.EqNone.ne_int_none (fin_bl I q (by simp))
  | int j=>obtain ⟨t',rfl⟩:=ry; exact ne_int (fin_bl I q (congrArg not dec_int))
  | str j=>obtain ⟨t',rfl⟩:=ry; exact PySem.EqMixed.ne_int_str (fin_bl I q (by simp))
  | _=>exact absurd (show false = true from hs) Bool.false_ne_true
 | str i =>
  obtain ⟨t,rfl⟩:=rx
  cases y with
  | non=>cases ry; exact PySem.EqNone.ne_str_none (fin_bl I q (by simp))
  | bl j=>cases ry; exact PySem.EqMixed.ne_str_bool (fin_bl I q (by simp))
  | int j=>obtain ⟨t',rfl⟩:=ry; exact PySem.EqMixed.ne_str_int (fin_bl I q (by simp))
  | str j=>obtain ⟨t',rfl⟩:=ry; exact ne_str (fin_bl I q (congrArg not dec_str))
  | _=>exact absurd (show false = true from hs) Bool.false_ne_true
 | byt i =>
  obtain ⟨t,rfl⟩:=rx
  cases y with
  | byt j=>obtain ⟨t',rfl⟩:=ry; exact PySem.W.ne_bytes (fin_bl I q (congrArg not dec_byt))
  | _=>exact absurd (show false = true from hs) Bool.false_ne_true
 | _=>cases y <;> exact absurd (show false = true from hs) Bool.false_ne_true
theorem op_lt:OpR X (compareOp .Lt) (rI0 fun i j=>.bl (decide (i < j))):=opB0 fun _ _ _ _ _ _ _ q=>lt_int q
theorem op_le:OpR X (compareOp .LtE) (rI0 fun i j=>.bl (decide (i≤j))):=opB0 fun _ _ _ _ _ _ _ q=>le_int q
theorem op_gt:OpR X (compareOp .Gt) (rI0 fun i j=>.bl (decide (j < i))):=opB0 fun _ _ _ _ _ _ _ q=>gt_int q
theorem op_ge:OpR X (compareOp .GtE) (rI0 fun i j=>.bl (decide (j≤i))):=opB0 fun _ _ _ _ _ _ _ q=>ge_int q
theorem op_in_str:OpR X (compareOp .In) (fun x y H Q=>∃ i j,x = .str i∧y = .str j∧Q (.bl (!(Builtin.Str.occurrences j i 0 j.length 1).isEmpty)) H):=by
 intro pins s σ H x y v u Q I rx ry h
 obtain ⟨i,j,rfl,rfl,q⟩:=h
 obtain ⟨t,rfl⟩:=rx
 obtain ⟨t',rfl⟩:=ry
 exact in_str (fin_bl I q rfl)
theorem nomark (b:Expr) {op:CmpOp} (h:op ≠ .In:=by decide) (h2:op ≠ .NotIn:=by decide):behindInMarks op b = false:=by
 have e1:(op == CmpOp.In) = false:=by cases op <;> first | rfl | exact absurd rfl h
 have e2:(op == CmpOp.NotIn) = false:=by cases op <;> first | rfl | exact absurd rfl h2
 cases b <;> simp [behindInMarks,e1,e2]
theorem pe_cmpR {op:CmpOp} {r:R2} (ho:OpR X (compareOp op) r) (ha:PE X a ta) (hb:PE X b tb) (hm:behindInMarks op b = false):PE X (.Compare a [op] [b] pos) (tOp r ta tb):=by
 intro pins s σ H Q I h
 exact wpAny_Compare1 (binT ha hb I h fun v u s2 x y H2 I2 rx ry q=>ho pins s2 σ H2 x y v u Q I2 rx ry q) hm
def tTest (t:TE):TT:=fun σ H Q=>t σ H fun x H'=>∃ k,x = .bl k∧Q k H'
theorem pt_cmpR {op:CmpOp} {r:R2} (ho:OpR X (compareOp op) r) (ha:PE X a ta) (hb:PE X b tb) (hm:behindInMarks op b = false):PT X (.Compare a [op] [b] pos) (tTest (tOp r ta tb)):=by
 intro pins s σ H Q I h
 refine wpAny_isTrue_Compare1 (thn (ha pins s σ H _ I h) fun v s1 ⟨x,H1,I1,r1,q1⟩=>thn (hb pins s1 σ H1 _ I1 q1) fun u s2 ⟨y,H2,I2,r2,q2⟩ =>
  thn (ho pins s2 σ H2 x y v u _ I2 r1 r2 q2) fun c s3 ⟨z,H3,I3,r3,k,e,q3⟩=>?_) hm
 subst e
 cases r3
 exact wpAny_truthy_bool ⟨H3,I3,q3⟩
def tChain (r r':R2) (ta tb tc:TE):TE:=fun σ H Q=>ta σ H fun x H1=>tb σ H1 fun y H2=>r x y H2 fun z H3=>∃ k,z = .bl k ∧
 (if k = true then tc σ H3 fun w' H4=>r' y w' H4 Q else Q (.bl false) H3)
theorem pt_chain {op op':CmpOp} {r r':R2} (ho:OpR X (compareOp op) r) (ho':OpR X (compareOp op') r') (ha:PE X a ta) (hb:PE X b tb) (hc:PE X c tc)
  (hm:lastMarks [op,op'] [b,c] = false:=by with_unfolding_all rfl):PT X (.Compare a [op,op'] [b,c] pos) (tTest (tChain r r' ta tb tc)):=by
 intro pins s σ H Q I h
 refine isTrue_chain (thn (ha pins s σ H _ I h) fun v s1 ⟨x,H1,I1,r1,q1⟩=>test_link (thn (hb pins s1 σ H1 _ I1 q1) fun u s2 ⟨y,H2,I2,r2,q2⟩ =>
  thn (ho pins s2 σ H2 x y v u _ I2 r1 r2 q2) fun d s3 ⟨z,H3,I3,r3,k,e,q3⟩=>?_)) hm
 subst e
 cases r3
 refine wpAny_truthy_bool ?_
 cases k with
 | false =>
  obtain ⟨k',e',q'⟩:=q3
  cases e'
  exact ite_ff ⟨H3,I3,q'⟩
 | true =>
  refine ite_tt (test_last (thn (hc pins s3 σ H3 _ I3 q3) fun w' s4 ⟨z',H4,I4,r4,q4⟩=>thn (ho' pins s4 σ H4 y z' u w' _ I4 r2 r4 q4) fun d' s5 ⟨z2,H5,I5,r5,k2,e2,q5⟩=>?_))
  subst e2
  cases r5
  exact wpAny_truthy_bool ⟨H5,I5,q5⟩
theorem line63:(sizeLine:Nat) < 2 ^ 63:=by rw [sizeLine_eq]; decide
theorem op_add_str:OpR X (binaryOp .Add) (fun x y H Q=>∃ i j,x = .str i∧y = .str j∧i.length + j.length≤sizeLine∧Q (.str (i ++ j)) H):=by
 intro pins s σ H x y v u Q I rx ry h
 obtain ⟨i,j,rfl,rfl,hz,q⟩:=h
 obtain ⟨t,rfl⟩:=rx
 obtain ⟨t',rfl⟩:=ry
 exact add_str (fun t' tk=>⟨.str (i ++ j),H,I.tok _,⟨_,rfl⟩,q⟩) hz
theorem vals1 {x:V} {us:List Value} (r:Vals [x] us):∃ u,us = [u]∧RelV x u:=by
 cases r with
 | cons r1 r2=>cases r2; exact ⟨_,rfl,r1⟩
theorem vals2 {x y:V} {us:List Value} (r:Vals [x,y] us):∃ u w',us = [u,w']∧RelV x u∧RelV y w':=by
 cases r with
 | cons r1 r2 =>
  cases r2 with
  | cons r3 r4=>cases r4; exact ⟨_,_,rfl,r1,r3⟩
theorem call_max2 (hc:X.calm = true):CallR X (.builtin "max") (fun xs H Q=>∃ i j,xs = [.int i,.int j]∧Q (.int (if j > i then j else i)) H):=by
 intro pins s σ H xs us Q I r h
 obtain ⟨i,j,rfl,q⟩:=h
 obtain ⟨u,w',rfl,⟨t,rfl⟩,⟨t',rfl⟩⟩:=vals2 r
 refine max_two_ints (I.ok.hd hc) fun h' tk k=>⟨_,H,I.kept k,?_,q⟩
 by_cases hj:j > i
 ·rw [if_pos hj,if_pos hj]; exact ⟨_,rfl⟩
 ·rw [if_neg hj,if_neg hj]; exact ⟨_,rfl⟩
theorem call_min2 (hc:X.calm = true):CallR X (.builtin "min") (fun xs H Q=>∃ i j,xs = [.int i,.int j]∧Q (.int (if j < i then j else i)) H):=by
 intro pins s σ H xs us Q I r h
 obtain ⟨i,j,rfl,q⟩:=h
 obtain ⟨u,w',rfl,⟨t,rfl⟩,⟨t',rfl⟩⟩:=vals2 r
 refine min_two_ints (I.ok.hd hc) fun h' tk k=>⟨_,H,I.kept k,?_,q⟩
 by_cases hj:j < i
 ·rw [if_pos hj,if_pos hj]; exact ⟨_,rfl⟩
 ·rw [if_neg hj,if_neg hj]; exact ⟨_,rfl⟩
theorem call_int1:CallR X (.type "int") (fun xs H Q=>(∃ i,xs = [.int i]∧Q (.int i) H)∨∃ k,xs = [.bl k]∧Q (.int (if k then 1 else 0)) H):=by
 intro pins s σ H xs us Q I r h
 rcases h with ⟨i,rfl,q⟩ | ⟨k,rfl,q⟩
 ·obtain ⟨u,rfl,t,rfl⟩:=vals1 r
  exact call_int_int ⟨.int i,H,I,⟨_,rfl⟩,q⟩
 ·obtain ⟨u,rfl,r1⟩:=vals1 r
  cases r1
  exact call_int_bool ⟨.int (if k then 1 else 0),H,I.tok _,⟨_,rfl⟩,q⟩
end
end L2
namespace L2
open PySem PySem.Spec PyProof.Rows
structure ObjM (h:Heap) (x dx C:Addr) (mA:Str→Option Value):Prop where
 obj:h.get? x = some (PySem.W.instObj C dx)
 ns:h.Ns1 dx mA
 ne:dx ≠ x
theorem lookIn_ns {h:Heap} {dx:Addr} {mA:Str→Option Value} (n:h.Ns1 dx mA):∃ od,h.get? dx = some od∧∀ name,PySem.W.lookIn name od = some (mA name):=by
 obtain ⟨o,es,ep,ho,hd,hk,_,hm⟩:=n
 refine ⟨o,ho,fun name=>?_⟩
 have e:=hm name
 unfold nsFind findBy at e
 rw [← Array.find?_toList] at e
 unfold PySem.W.lookIn
 rw [hd]
 dsimp only
 split
 ·rename_i y q
  rw [q] at e
  exact congrArg some e
 ·rename_i q
  rw [q] at e
  have a:es.toList.any (·.refKey) = false:=by
   rw [List.any_eq_false]
   intro y hy
   obtain ⟨z,t,hkey⟩:=hk y (Array.mem_toList_iff.mp hy)
   simp [DictEntry.refKey,hkey]
  have a':¬ es.toList.any (·.refKey) = true:=by rw [a]; exact Bool.false_ne_true
  rw [if_neg a']
  exact congrArg some e
theorem ObjM.look {h:Heap} {x dx C:Addr} {mA:Str→Option Value} (I:ObjM h x dx C mA):∃ od,PySem.W.InstAt h x (PySem.W.instObj C dx) C (some od)∧∀ name,PySem.W.lookIn name od = some (mA name) :=
 let ⟨od,ho,hl⟩:=lookIn_ns I.ns
 ⟨od,⟨I.obj,rfl,rfl,ho⟩,hl⟩
section
variable {prog:Program} {w:World} {A:Around} {E:Value→Shared→Prop} {s:Shared} {K:PySem.W.Frag} {x dx C f:Addr} {mA:Str→Option Value} {name:Str} {v:Value}
theorem get_map {expr:Bool} {Q:Value→Shared→Prop} (X:K.In s.heap) (I:ObjM s.heap x dx C mA) (hg:PySem.W.plainGet K C name = true) (hh:PySem.W.hasDictIn K C = true)
  (ha:PySem.W.findIn K (.ref C) name = some none) (hv:mA name = some v) (hv':PySem.W.handedIn v = true) (h:Q v { s with toks:=s.toks + 1 }) :
  wpAny (model prog w) A (getAttr (.ref x) name expr) Q E s:=by
 obtain ⟨od,J,hl⟩:=I.look
 exact PySem.W.get_value X J (PySem.W.plainGet_of hg).1 (PySem.W.findObj_own hh ha rfl (by rw [hl,hv])) hv' h
theorem get_meth {pl:Sem Bool} {Q:Value × List Value→Shared→Prop} (X:K.In s.heap) (I:ObjM s.heap x dx C mA) (hg:PySem.W.plainGet K C name = true)
  (hf:PySem.W.findIn K (.ref C) name = some (some (.ref f))) (ht:PySem.W.isFn K (.ref f) = true) (hv:mA name = none) (h:Q (.ref f,[.ref x]) s) :
  wpAny (model prog w) A (getMethod (.ref x) name pl) Q E s:=by
 obtain ⟨od,J,hl⟩:=I.look
 exact PySem.W.method_fn X J (PySem.W.plainGet_of hg).1 (PySem.W.plainGet_of hg).2 hf (beq_iff_eq.mp ht) (by show (PySem.W.lookIn name od).map (·.isSome) = some false; rw [hl,hv]; rfl) h
theorem set_map {ns:List Str} {Q:Unit→Shared→Prop} (X:K.In s.heap) (I:ObjM s.heap x dx C mA)
  (hs:PySem.W.findIn K (.ref C) "__setattr__" = some (some (.builtin "object.__setattr__"))) (hp:PySem.W.plainOver K C = true) (ht:PySem.W.takerIn K C name = some none) (hh:PySem.W.hasDictIn K C = true)
  (hw:PySem.Within mA ns) (hsz:ns.length≤sizeLine)
  (h:∀ h',ObjM h' x dx C (fun y=>if y = name then some v else mA y)→Heap.SameBut dx s.heap h'→Q () { s with heap:=h',toks:=s.toks + 2 }) :
  wpAny (model prog w) A (setAttr (.ref x) name v) Q E s:=by
 obtain ⟨od,J,hl⟩:=I.look
 refine PySem.W.set_plain X J hs (PySem.W.osa_open (s:={ s with toks:=s.toks + 1 }) (r:=none) X J hp ht fun b=>?_)
 obtain ⟨cd,hc,hd'⟩:=PySem.W.any_some hh
 have hx:s.heap.get? x = some ⟨.ref C,some dx,.plain,#[]⟩:=I.obj
 refine wpAny_bind (wpAny_pure (wpAny_bind (wpAny_bind (wpAny_loadPart hx (wpAny_bind (PySem.W.Looks.here (s:={ s with toks:=s.toks + 1 }) (PySem.W.looks_clsIn X hc) ?_))))))
 rw [hd']
 refine wpAny_pure (a:=some dx) (wpAny_bind (wpAny_pure (wpAny_bind ?_)))
 refine wpAny_nsSet1 (s:={ s with toks:=s.toks + 1 }) I.ns fun h' hn2 hs2=>?_
 obtain ⟨oD,esD,epD,hoD,hdD,hcD⟩:=hn2.count (PySem.Within.cons name v hw)
 refine wpAny_bind (wpAny_lookBehind hoD (by rw [hdD]; exact pastItsLine_dict (Nat.le_trans hcD (by rw [List.length_cons]; omega))) ?_)
 exact wpAny_pure (h _ ⟨(hs2.2 _ (Ne.symm I.ne)).trans I.obj,hn2,I.ne⟩ hs2)
theorem make_map {R:Result→Shared→Prop} {vs:List Value} {kw:List (Str × Value)} (X:K.In s.heap) (hm:PySem.W.makesIn K C = true)
  (hi:PySem.W.findIn K (.ref C) "__init__" = some (some (.ref f))) (hf:PySem.W.typeIn K (.ref f) = some (.type "function"))
  (h:codeAny (model prog w) (A.under (.builtin "type.__call__" ⟨.ref C :: vs,kw⟩)) (.call (.ref f) ⟨.ref (s.heap.objs.size + 1) :: vs,kw⟩) (PySem.W.InitBack (s.heap.objs.size + 1) R)
   { s with heap:=(s.heap.push PySem.W.emptyDict).push (PySem.W.instObj C s.heap.objs.size) }) :
  codeAny (model prog w) A (.call (.ref C) ⟨vs,kw⟩) R s:=by
 obtain ⟨hh,g,d,t,os⟩:=s
 exact PySem.W.make_core (PySem.W.makes_of X hm) (PySem.W.looks_findIn X hi) (fun self=>PySem.W.bind_fn X self hf) (.inl rfl) h
end
def putF (f:Str) (v:V):List (Str × V)→List (Str × V)
 | []=>[(f,v)]
 | (g,x) :: r=>if g = f then (g,v) :: r else (g,x) :: putF f v r
theorem lookup_putF (f g:Str) (v:V):∀ fs:List (Str × V),(putF f v fs).lookup g = if g = f then some v else fs.lookup g
 | []=>by
  show List.lookup g [(f,v)] = _
  by_cases h:g = f
  ·have hb:(g == f) = true:=beq_iff_eq.mpr h
   simp only [List.lookup,hb,if_pos h]
  ·have hb:(g == f) = false:=beq_eq_false_iff_ne.mpr h
   simp only [List.lookup,hb,if_neg h]
 | (k,x) :: r=>by
  have ih:=lookup_putF f g v r
  rw [show putF f v ((k,x) :: r) = (if k = f then (k,v) :: r else (k,x) :: putF f v r) from rfl]
  by_cases hk:k = f
  ·rw [if_pos hk]
   by_cases h:g = k
   ·have hb:(g == k) = true:=beq_iff_eq.mpr h
    simp only [List.lookup,hb,if_pos (h.trans hk)]
   ·have hb:(g == k) = false:=beq_eq_false_iff_ne.mpr h
    simp only [List.lookup,hb,if_neg (fun e:g = f=>h (e.trans hk.symm))]
  ·rw [if_neg hk]
   by_cases h:g = k
   ·have hb:(g == k) = true:=beq_iff_eq.mpr h
    simp only [List.lookup,hb,if_neg (fun e:g = f=>hk (h.symm.trans e))]
   ·have hb:(g == k) = false:=beq_eq_false_iff_ne.mpr h
    simp only [List.lookup,hb]
    exact ih
theorem keys_putF (f:Str) (v:V):∀ fs:List (Str × V),f ∈ (putF f v fs).map (·.1)∧∀ g,g ∈ fs.map (·.1)→g ∈ (putF f v fs).map (·.1)
 | []=>⟨by simp [putF],fun g h=>by simp at h⟩
 | (k,x) :: r=>by
  obtain ⟨i1,i2⟩:=keys_putF f v r
  rw [show putF f v ((k,x) :: r) = (if k = f then (k,v) :: r else (k,x) :: putF f v r) from rfl]
  by_cases hk:k = f
  ·rw [if_pos hk]
   subst hk
   exact ⟨by simp,fun g h=>by simpa using h⟩
  ·rw [if_neg hk]
   refine ⟨?_,fun g h=>?_⟩
   ·rw [List.map_cons]
    exact List.mem_cons_of_mem _ i1
   ·rw [List.map_cons] at h ⊢
    rcases List.mem_cons.mp h with e | e
    ·exact List.mem_cons.mpr (.inl e)
    ·exact List.mem_cons_of_mem _ (i2 g e)
theorem length_putF (f:Str) (v:V):∀ fs:List (Str × V),(putF f v fs).length≤fs.length + 1
 | []=>by simp [putF]
 | (k,x) :: r=>by
  have ih:=length_putF f v r
  rw [show putF f v ((k,x) :: r) = (if k = f then (k,v) :: r else (k,x) :: putF f v r) from rfl]
  by_cases hk:k = f
  ·rw [if_pos hk,List.length_cons,List.length_cons]; omega
  ·rw [if_neg hk,List.length_cons,List.length_cons]; omega
theorem RelO.some_of {v:V} {o:Option Value} (r:RelO (some v) o):∃ u,o = some u∧RelV v u:=by
 cases o with
 | none=>exact (show False from r).elim
 | some u=>exact ⟨u,rfl,r⟩
theorem RelO.none_of {o:Option Value} (r:RelO none o):o = none:=by
 cases o with
 | none=>rfl
 | some u=>exact (show False from r).elim
theorem handed_of {v:V} {u:Value} (r:RelV v u):PySem.W.handedIn u = true:=by
 cases v with
 | non=>cases (show u = Value.none from r); rfl
 | bl b=>cases (show u = Value.bool b from r); rfl
 | int i=>obtain ⟨t,e⟩:=(show ∃ t,u = Value.int i t from r); cases e; rfl
 | str x=>obtain ⟨t,e⟩:=(show ∃ t,u = Value.str x t from r); cases e; rfl
 | byt b=>obtain ⟨t,e⟩:=(show ∃ t,u = Value.bytes b t from r); cases e; rfl
 | flt b=>obtain ⟨t,e⟩:=(show ∃ t,u = Value.float b t from r); cases e; rfl
 | ref a=>cases (show u = Value.ref a from r); rfl
 | ty n=>cases (show u = Value.type n from r); rfl
section
variable {P:Program} {w:World} {H H':Hp} {h h':Heap} {a C dx:Addr} {fs fs':List (Str × V)}
theorem ins_get (hok:HOk P w H h) (e:H a = some (.ins C dx fs)):∃ mA,ObjM h a dx C mA∧(∀ f,RelO (fs.lookup f) (mA f))∧PySem.Within mA (fs.map (·.1))∧fs.length≤1000∧H dx = some (.own a):=by
 obtain ⟨d,z,ne,ob,mA,n,r,q⟩:=(show ObjOk P w H h a (.ins C dx fs) from hok a _ e)
 exact ⟨mA,⟨ob,n,ne⟩,r,q,z,d⟩
end
structure Cls (K:PySem.W.Frag) (C:Addr):Prop where
 pg:PySem.W.plainGet K C Str.empty = true
 hd:PySem.W.hasDictIn K C = true
 po:PySem.W.plainOver K C = true
 sa:PySem.W.findIn K (.ref C) "__setattr__" = some (some (.builtin "object.__setattr__"))
theorem Cls.get {K:PySem.W.Frag} {C:Addr} (c:Cls K C) (f:Str):PySem.W.plainGet K C f = true:=c.pg
def NoAttr (K:PySem.W.Frag) (C:Addr) (f:Str):Prop:=PySem.W.findIn K (.ref C) f = some none
theorem NoAttr.taker {K:PySem.W.Frag} {C:Addr} {f:Str} (n:NoAttr K C f):PySem.W.takerIn K C f = some none:=by
 unfold PySem.W.takerIn
 rw [show PySem.W.findIn K (.ref C) f = some none from n]
 rfl
structure Meth (K:PySem.W.Frag) (C:Addr) (m:Str) (f:Addr):Prop where
 at_:PySem.W.findIn K (.ref C) m = some (some (.ref f))
 fn:PySem.W.isFn K (.ref f) = true
 kp:PySem.W.keepIn K (.ref f) = true
section
variable {X:Cx} {pins:List (Addr × Obj)} {σ:St} {H:Hp} {s:Shared} {a C dx:Addr} {fs:List (Str × V)} {f:Str} {v:V} {A:Around} {E:Value→Shared→Prop}
theorem getattr_ok {b:Bool} {Q:Value→Shared→Prop} (I:Inv X pins σ H s) (e:H a = some (.ins C dx fs)) (c:Cls X.K C) (n:NoAttr X.K C f) (l:fs.lookup f = some v)
  (h:∀ u s',Inv X pins σ H s'→RelV v u→Q u s'):wpAny (model X.prog X.w) A (getAttr (.ref a) f b) Q E s:=by
 obtain ⟨mA,O,r,_,_,_⟩:=ins_get I.hok e
 obtain ⟨u,hu,ru⟩:=RelO.some_of (v:=v) (o:=mA f) (by rw [← l]; exact r f)
 exact get_map I.kIn O (c.get f) c.hd n hu (handed_of ru) (h u _ (I.tok _) ru)
theorem getmeth_ok {m:Str} {g:Addr} {pl:Sem Bool} {Q:Value × List Value→Shared→Prop} (I:Inv X pins σ H s) (e:H a = some (.ins C dx fs)) (c:Cls X.K C) (k:Meth X.K C m g) (l:fs.lookup m = none)
  (h:Q (.ref g,[.ref a]) s):wpAny (model X.prog X.w) A (getMethod (.ref a) m pl) Q E s:=by
 obtain ⟨mA,O,r,_,_,_⟩:=ins_get I.hok e
 have hn:mA m = none:=RelO.none_of (by rw [← l]; exact r m)
 exact get_meth I.kIn O (c.get m) k.at_ k.fn hn h
theorem setattr_ok {y:V} {u:Value} {Q:Unit→Shared→Prop} (I:Inv X pins σ H s) (e:H a = some (.ins C dx fs)) (c:Cls X.K C) (n:NoAttr X.K C f) (hl:fs.length < 1000) (ry:RelV y u)
  (h:∀ s',Inv X pins σ (upd H a (.ins C dx (putF f y fs))) s'→Q () s'):wpAny (model X.prog X.w) A (setAttr (.ref a) f u) Q E s:=by
 obtain ⟨mA,O,r,wi,_,ho⟩:=ins_get I.hok e
 have hz:(fs.map (·.1)).length≤sizeLine:=by rw [List.length_map,sizeLine_eq]; omega
 refine set_map I.kIn O c.sa c.po n.taker c.hd wi hz fun h' O' sb=>h _ ?_
 have hd:∃ o,h'.get? dx = some o:=let ⟨o,_,_,e',_⟩:=O'.ns; ⟨o,e'⟩
 refine I.write (x:=a) (e:=dx) (by rw [e]; exact True.intro) (.inr ho) (fun b q hb z=>(sb.2 b hb).trans z) hd ?_
 refine ⟨by rw [upd_ne O.ne]; exact ho,?_,O.ne,O'.obj,_,O'.ns,fun g=>?_,fun g hg=>?_⟩
 ·have:=length_putF f y fs; omega
 ·show RelO ((putF f y fs).lookup g) (if g = f then some u else mA g)
  rw [lookup_putF]
  by_cases q:g = f
  ·rw [if_pos q,if_pos q]; exact ry
  ·rw [if_neg q,if_neg q]; exact r g
 ·by_cases q:g = f
  ·rw [q]; exact (keys_putF f y fs).1
  ·refine (keys_putF f y fs).2 g (wi g fun z=>hg ?_)
   show (if g = f then some u else mA g) = none
   rw [if_neg q]; exact z
theorem Inv.made (I:Inv X pins σ H s):Inv X pins σ (upd (upd H s.heap.objs.size (.own (s.heap.objs.size + 1))) (s.heap.objs.size + 1) (.ins C s.heap.objs.size []))
  { s with heap:=(s.heap.push PySem.W.emptyDict).push (PySem.W.instObj C s.heap.objs.size) }:=by
 have e1:(s.heap.push PySem.W.emptyDict).get? s.heap.objs.size = some PySem.W.emptyDict:=Heap.get?_push_size s.heap rfl
 have e2:((s.heap.push PySem.W.emptyDict).push (PySem.W.instObj C s.heap.objs.size)).get? (s.heap.objs.size + 1) = some (PySem.W.instObj C s.heap.objs.size):=by
  have:=Heap.get?_push_size (s.heap.push PySem.W.emptyDict) (o:=PySem.W.instObj C s.heap.objs.size) rfl
  rwa [Heap.size_push] at this
 have e3:(s.heap.push PySem.W.emptyDict).Ns s.heap.objs.size (fun _=>none):=⟨PySem.W.emptyDict,#[],_,e1,rfl,(fun e he=>absurd he (by simp)),fun _=>rfl⟩
 have I1:=I.laid (a:=s.heap.objs.size) (o:=.own (s.heap.objs.size + 1)) (h':=s.heap.push PySem.W.emptyDict) (t':=s.toks) (fun b u q=>Heap.get?_push_of_some _ q) (Nat.le_refl _) ⟨_,e1⟩
 refine I1.laid (a:=s.heap.objs.size + 1) (o:=.ins C s.heap.objs.size []) (t':=s.toks) (fun b u q=>Heap.get?_push_of_some _ q) (Nat.le_of_eq (Heap.size_push _ _)) ?_
 have ne:s.heap.objs.size ≠ s.heap.objs.size + 1:=Nat.ne_of_lt (Nat.lt_succ_self _)
 refine ⟨by rw [upd_ne ne,upd_same],Nat.zero_le _,ne,e2,fun _=>none,(Heap.Ns1.of_empty e3).at fun o q=>Heap.get?_push_of_some _ q,fun _=>True.intro,fun y hy=>absurd rfl hy⟩
theorem attr_of {prog:Program} {w:World} {env:Env} {e:Expr} {f:Str} {pos:Pos} {s:Shared} {Q:Value→Shared→Prop} (hb:attributeBase e f env (eval e env) = eval e env)
  (h:wpAny (model prog w) A (eval e env) (fun o s₁=>wpAny (model prog w) A (getAttr o f true) Q E s₁) E s):wpAny (model prog w) A (eval (.Attribute e f pos) env) Q E s :=
 Attribute_any_ h (by rw [arm_eval_Attribute,hb])
end
def tFld (K:PySem.W.Frag) (ta:TE) (f:Str):TE:=fun σ H Q=>ta σ H fun x H1=>∃ a C dx fs v,x = .ref a∧H1 a = some (.ins C dx fs)∧Cls K C∧NoAttr K C f∧fs.lookup f = some v∧Q v H1
def sFld (K:PySem.W.Frag) (ta tv:TE) (f:Str):TS:=fun D σ H=>tv σ H fun y H1=>ta σ H1 fun x H2=>∃ a C dx fs,x = .ref a∧H2 a = some (.ins C dx fs)∧Cls K C∧NoAttr K C f∧fs.length < 1000 ∧
 D.nx σ (upd H2 a (.ins C dx (putF f y fs)))
section
variable {X:Cx} {o e value:Expr} {f:Str} {pos pos' tpos:Pos} {ta tv:TE}
theorem pe_fld (he:PE X e ta) (hb:attributeBase e f X.env (eval e X.env) = eval e X.env):PE X (.Attribute e f pos) (tFld X.K ta f):=by
 intro pins s σ H Q I h
 refine attr_of hb (thn (he pins s σ H _ I h) fun u s1 ⟨x,H1,I1,rx,a,C,dx,fs,v,ex,ea,c,n,l,q⟩=>?_)
 subst ex
 obtain rfl:u = Value.ref a:=rx
 exact getattr_ok I1 ea c n l fun u' s2 I2 ru=>⟨v,H1,I2,ru,q⟩
theorem ps_fld (ha:PE X o ta) (hv:PE X value tv) (hs:swapsWith value (some (.Attribute o f pos')) pos.line X.env = pure false):PS X (.Assign [.Attribute o f pos'] value pos) (sFld X.K ta tv f):=by
 intro pins s σ H D I h
 refine plainObj_wpAny_Assign_Attribute (thn (hv pins s σ H _ I h) fun u s1 ⟨y,H1,I1,ry,q⟩=>thn (ha pins s1 σ H1 _ I1 q) fun ov s2 ⟨x,H2,I2,rx,a,C,dx,fs,ex,ea,c,n,l,q2⟩=>?_) hs
 subst ex
 obtain rfl:ov = Value.ref a:=rx
 exact setattr_ok I2 ea c n l ry fun s3 I3=>⟨σ,_,I3,q2⟩
end
section
variable {X:Cx} {pins:List (Addr × Obj)} {σ:St} {H:Hp} {s:Shared} {A:Around} {E:Value→Shared→Prop} {Q:Value→Shared→Prop} {c:Value} {b:Bool}
inductive TyOf (K:PySem.W.Frag) (H:Hp):V→Value→Prop where
 | non:TyOf K H .non (.type "NoneType")
 | bl (x:Bool):TyOf K H (.bl x) (.type "bool")
 | int (i:Int):TyOf K H (.int i) (.type "int")
 | str (x:Str):TyOf K H (.str x) (.type "str")
 | flt (x:UInt64):TyOf K H (.flt x) (.type "float")
 | lst {a:Addr} {xs:List V} (e:H a = some (.lst xs)):TyOf K H (.ref a) (.type "list")
 | frz {a:Addr} {o:Obj} {xs:List V} (e:H a = some (.frz o (.lst xs))):TyOf K H (.ref a) (.type "list")
 | tup {a:Addr} {xs:List V} (e:H a = some (.tup xs)):TyOf K H (.ref a) (.type "tuple")
 | dK {a:Addr} {kvs:List (Key × V)} (e:H a = some (.dK kvs)):TyOf K H (.ref a) (.type "dict")
 | dT {a:Addr} {kvs:List (List Key × V)} (e:H a = some (.dT kvs)):TyOf K H (.ref a) (.type "dict")
 | ins {a C dx:Addr} {fs:List (Str × V)} (e:H a = some (.ins C dx fs)) (cl:Cls K C) (ha:PySem.W.findIn K (.ref C) "__class__" = some (some (.builtin "object.__class__")))
   (hn:PySem.W.specialIn K (.builtin "object.__class__") "__get__" = some (some (.builtin "getset_descriptor.__get__"))) (htk:PySem.W.takesIn K (.builtin "object.__class__") = some true)
   (hm:PySem.W.mroIn K C (.type "object") = some true):TyOf K H (.ref a) (.ref C)
theorem isinst_ok {x:V} {u t:Value} (I:Inv X pins σ H s) (rx:RelV x u) (ty:TyOf X.K H x t) (e:PySem.W.kitOne X.K t c = some b) (h:∀ tk,Q (.bool b) { s with toks:=tk }) :
  wpAny (model X.prog X.w) A (call (.builtin "isinstance") [u,c]) Q E s:=by
 cases ty with
 | non=>cases (show u = Value.none from rx); exact PySem.W.kia_one PySem.W.kitx_none I.kIn True.intro e (fun z=>nomatch z) h
 | bl y=>cases (show u = Value.bool y from rx); exact PySem.W.kia_one PySem.W.kitx_bool I.kIn True.intro e (fun z=>nomatch z) h
 | int i=>obtain ⟨t,q⟩:=(show ∃ t,u = Value.int i t from rx); cases q; exact PySem.W.kia_one PySem.W.kitx_int I.kIn True.intro e (fun z=>nomatch z) h
 | str y=>obtain ⟨t,q⟩:=(show ∃ t,u = Value.str y t from rx); cases q; exact PySem.W.kia_one PySem.W.kitx_str I.kIn True.intro e (fun z=>nomatch z) h
 | flt y=>obtain ⟨t,q⟩:=(show ∃ t,u = Value.float y t from rx); cases q; exact PySem.W.kia_one PySem.W.kitx_float I.kIn True.intro e (fun z=>nomatch z) h
 | @lst a xs ea =>
  cases (show u = Value.ref a from rx)
  obtain ⟨_,_,n,_,h1⟩:=(show ObjOk X.prog X.w H s.heap a (.lst xs) from I.hok a _ ea)
  exact PySem.W.kia_one PySem.W.kitx_list I.kIn ⟨_,h1,rfl⟩ e (fun z=>nomatch z) h
 | @frz a ob xs ea =>
  cases (show u = Value.ref a from rx)
  obtain ⟨_,_,_,n,_,h1⟩:=(show ObjOk X.prog X.w H s.heap a (.frz ob (.lst xs)) from I.hok a _ ea)
  exact PySem.W.kia_one PySem.W.kitx_list I.kIn ⟨_,h1,rfl⟩ e (fun z=>nomatch z) h
 | @tup a xs ea =>
  cases (show u = Value.ref a from rx)
  obtain ⟨_,_,_,p⟩:=(show ObjOk X.prog X.w H s.heap a (.tup xs) from I.hok a _ ea)
  obtain ⟨o,h1,h2,_⟩:=p
  exact PySem.W.kia_one PySem.W.kitx_tuple I.kIn ⟨o,h1,h2⟩ e (fun z=>nomatch z) h
 | @dK a kvs ea =>
  cases (show u = Value.ref a from rx)
  obtain ⟨_,_,vs,_,p⟩:=(show ObjOk X.prog X.w H s.heap a (.dK kvs) from I.hok a _ ea)
  obtain ⟨o,es,ep,h1,h2,_⟩:=p
  exact PySem.W.kia_one PySem.W.kitx_dict I.kIn ⟨o,h1,h2.1⟩ e (fun z=>nomatch z) h
 | @dT a kvs ea =>
  cases (show u = Value.ref a from rx)
  obtain ⟨_,_,xs,_,o,es,ep,h1,h2,_⟩:=(show ObjOk X.prog X.w H s.heap a (.dT kvs) from I.hok a _ ea)
  exact PySem.W.kia_one PySem.W.kitx_dict I.kIn ⟨o,h1,h2.1⟩ e (fun z=>nomatch z) h
 | @ins a C dx fs ea cl ha hn htk hm =>
  cases (show u = Value.ref a from rx)
  obtain ⟨mA,O,_⟩:=ins_get I.hok ea
  obtain ⟨od,J,_⟩:=O.look
  exact PySem.W.kia_one (PySem.W.kitx_own (cl.get _) cl.hd ha hn htk hm) I.kIn J e (fun z=>nomatch z) h
end
end L2
namespace L2
open PySem PySem.Spec PyProof.Rows
structure Room (k:Nat) (A:Around):Prop where
 hd:A.handled = none
 dp:A.depth + 3 * k + 5 < recursionLimit
 un:A.units + 16 * k + 200 < cLine
 gd:A.guards = some []
theorem Room.mono {j k:Nat} {A:Around} (r:Room k A) (h:j≤k):Room j A:=⟨r.hd,by have:=r.dp; omega,by have:=r.un; omega,r.gd⟩
theorem Room.deeper {k:Nat} {A:Around} (r:Room (k + 1) A) (env:Env):Room k (A.deeper env) :=
 ⟨r.hd,by have:=r.dp; show A.depth + 1 + 3 * k + 5 < _; omega,by have:=r.un; show A.units + 3 + 16 * k + 200 < _; omega,r.gd⟩
theorem make_depth {A:Around} {C:Addr} {us:List Value} {kw:List (Str × Value)}:(A.under (.builtin "type.__call__" ⟨.ref C :: us,kw⟩)).depth = A.depth + 1:=by
 first | rfl | simp [Around.under,Code.weight,Code.isCreation,Code.isGuard,Code.isCaller,Code.frames,Code.isFrame,guardIds]
theorem make_units {A:Around} {C:Addr} {us:List Value} {kw:List (Str × Value)}:(A.under (.builtin "type.__call__" ⟨.ref C :: us,kw⟩)).units = A.units + 1:=by
 first | rfl | simp [Around.under,Code.cUnits,Code.frames,Code.isFrame]
theorem Room.make {k:Nat} {A:Around} (r:Room (k + 1) A) (C:Addr) (us:List Value) (kw:List (Str × Value)):Room k (A.under (.builtin "type.__call__" ⟨.ref C :: us,kw⟩)) :=
 ⟨r.hd,by have:=r.dp; rw [make_depth]; omega,by have:=r.un; rw [make_units]; omega,r.gd⟩
theorem Room.depth {k:Nat} {A:Around} (r:Room k A):A.depth < recursionLimit:=by have:=r.dp; omega
def tNil:TA:=fun _ H Q=>Q [] H
def tCons (ta:TE) (tr:TA):TA:=fun σ H Q=>ta σ H fun x H1=>tr σ H1 fun xs H2=>Q (x :: xs) H2
section
variable {X:Cx} {e:Expr} {es:List Expr} {te:TE} {t:TA} {pos:Pos}
theorem pa_nil:PA X [] tNil:=fun _ _ _ _ H Q I h=>Calls.spliced_nil ⟨[],H,I,.nil,h⟩
theorem pa_cons (ha:PE X e te) (hr:PA X es t) (hs:starEach (e :: es) X.env = (false,eval e X.env) :: starEach es X.env:=by rfl):PA X (e :: es) (tCons te t):=by
 intro pos pins s σ H Q I h
 rw [hs]
 show wpAny _ _ (spliced ((false,eval e X.env) :: backTo pos (starEach es X.env))) _ _ s
 refine Calls.spliced_cons (thn (ha pins s σ H _ I h) fun u s1 ⟨x,H1,I1,r1,q1⟩=>?_)
 exact thn (hr pos pins s1 σ H1 _ I1 q1) fun us s2 ⟨xs,H2,I2,r2,q2⟩=>⟨x :: xs,H2,I2,.cons r1 r2,q2⟩
def tTup (t:TA):TE:=fun σ H Q=>t σ H fun xs H1=>xs.length≤sizeLine∧∀ p,H1 p = none→Q (.ref p) (upd H1 p (.tup xs))
def tLst (t:TA):TE:=fun σ H Q=>t σ H fun xs H1=>xs.length≤sizeLine∧∀ p,H1 p = none→Q (.ref p) (upd H1 p (.lst xs))
theorem pe_tup {x1} (h:PA X es t):PE X (.Tuple es x1 pos) (tTup t):=by
 intro pins s σ H Q I hq
 refine wpAny_Tuple_spliced (thn (h pos pins s σ H _ I hq) fun us s1 ⟨xs,H1,I1,r,z,q⟩=>⟨by rw [← r.length]; exact z,?_⟩)
 have hf:H1 s1.heap.objs.size = none:=I1.hok.fresh (Nat.le_refl _)
 refine ⟨.ref s1.heap.objs.size,upd H1 s1.heap.objs.size (.tup xs),I1.laid (t':=s1.toks) (fun b u e=>Heap.get?_push_of_some _ e) (Nat.le_refl _) ?_,rfl,q _ hf⟩
 exact ⟨z,us,r,⟨_,Heap.get?_push_size _ rfl,rfl,_,rfl⟩⟩
theorem pe_lst (h:PA X es t):PE X (.List es pos) (tLst t):=by
 intro pins s σ H Q I hq
 refine wpAny_List_spliced (thn (h pos pins s σ H _ I hq) fun us s1 ⟨xs,H1,I1,r,z,q⟩=>⟨by rw [← r.length]; exact z,?_⟩)
 have hf:H1 s1.heap.objs.size = none:=I1.hok.fresh (Nat.le_refl _)
 refine ⟨.ref s1.heap.objs.size,upd H1 s1.heap.objs.size (.lst xs),I1.laid (t':=s1.toks) (fun b u e=>Heap.get?_push_of_some _ e) (Nat.le_refl _) ?_,rfl,q _ hf⟩
 exact ⟨z,us,0,r,Heap.get?_push_size _ rfl⟩
end
abbrev Sp:=List V→Hp→VK→XK→Prop
abbrev CXT:=List Env→Hp→Shared→XK→Value→Shared→Prop
structure Env0 (P:Program) (w:World) (K:PySem.W.Frag) (mg:Str→Option Value) (base:Heap) (A:Around) (outer:List Env) (s:Shared) (H:Hp):Prop where
 frames:A.frames = some outer
 mod:Mod K mg base
 bs:∀ b o,base.get? b = some o→s.heap.get? b = some o∧H b = none
 bsz:base.objs.size≤s.heap.objs.size
 funs:s.heap.FunFrames base outer
 frf:∀ b ∈ frs outer,H b = none
 hok:HOk P w H s.heap
 bare:AllBare s.gens
def CE (outer:List Env) (P:Program) (w:World) (H:Hp) (s:Shared) (Q:VK) (u:Value) (s':Shared):Prop :=
 ∃ v H',s'.os = s.os∧AllBare s'.gens∧Un (frs outer) [] H H' s.heap s'.heap∧HOk P w H' s'.heap∧RelV v u∧Q v H'
def CR (CX:CXT) (outer:List Env) (P:Program) (w:World) (H:Hp) (s:Shared) (Q:VK) (E:XK) (r:Result) (s':Shared):Prop :=
 match r with
 | .ok (.ret u)=>CE outer P w H s Q u s'
 | .ok _=>False
 | .error e=>CX outer H s E e s'
structure FnOk (P:Program) (w:World) (K:PySem.W.Frag) (mg:Str→Option Value) (base:Heap) (CX:CXT) (k:Nat) (f:Addr) (fd:FuncData) (ps:List Str) (sp:Sp):Prop where
 len:∀ vs H Q E,sp vs H Q E→vs.length = ps.length
 run:∀ (A:Around) (outer:List Env) (s:Shared) (H:Hp) (args:Args) (us:List Value) (vs:List V) (Q:VK) (E:XK),Room k A→Env0 P w K mg base A outer s H→BindsTo s fd args (ps.zip us)→Vals vs us→sp vs H Q E →
  codeAny (model P w) A (.call (.ref f) args) (CR CX outer P w H s Q E) s
theorem FnOk.mono {P:Program} {w:World} {K:PySem.W.Frag} {mg:Str→Option Value} {base:Heap} {CX:CXT} {j k:Nat} {f:Addr} {fd:FuncData} {ps:List Str} {sp:Sp} (F:FnOk P w K mg base CX j f fd ps sp) (h:j≤k) :
  FnOk P w K mg base CX k f fd ps sp:=⟨F.len,fun A outer s H args us vs Q E hr=>F.run A outer s H args us vs Q E (hr.mono h)⟩
theorem FnOk.imp {P:Program} {w:World} {K:PySem.W.Frag} {mg:Str→Option Value} {base:Heap} {CX:CXT} {k:Nat} {f:Addr} {fd:FuncData} {ps:List Str} {sp sp':Sp} (F:FnOk P w K mg base CX k f fd ps sp)
  (h:∀ vs H Q E,sp' vs H Q E→sp vs H Q E):FnOk P w K mg base CX k f fd ps sp' :=
 ⟨fun vs H Q E q=>F.len vs H Q E (h _ _ _ _ q),fun A outer s H args us vs Q E hr he hb hv hs=>F.run A outer s H args us vs Q E hr he hb hv (h _ _ _ _ hs)⟩
theorem Env0.make {P:Program} {w:World} {K:PySem.W.Frag} {mg:Str→Option Value} {base:Heap} {A:Around} {outer:List Env} {s:Shared} {H:Hp} (e:Env0 P w K mg base A outer s H) (C:Addr) (us:List Value) (kw:List (Str × Value)) :
  Env0 P w K mg base (A.under (.builtin "type.__call__" ⟨.ref C :: us,kw⟩)) outer s H:=⟨by first | exact e.frames | (simpa [Around.under,Code.envs,Code.isFrame,pushEnvs] using e.frames),e.mod,e.bs,e.bsz,e.funs,e.frf,e.hok,e.bare⟩
section
variable {X:Cx} {pins:List (Addr × Obj)} {σ:St} {H:Hp} {s s':Shared}
theorem Inv.env0 (I:Inv X pins σ H s):Env0 X.prog X.w X.K X.mg X.base X.A X.stack s H :=
 ⟨I.ok.frames,I.ok.mod,I.bs,Nat.le_trans I.ok.bsz I.sz,I.stack,I.stkFree,I.hok,I.bare⟩
theorem Inv.after {Q:VK} {u:Value} (I:Inv X pins σ H s) (h:CE X.stack X.prog X.w H s Q u s'):EP X pins σ Q u s':=by
 obtain ⟨v,H',os,bare,un,hok,r,q⟩:=h
 obtain ⟨hh,g,d,t,os'⟩:=s'
 obtain rfl:os' = s.os:=os
 exact ⟨v,H',I.call (h':=hh) (g':=g) (d':=d) (t':=t) (ch:=[]) un hok bare (fun b z=>absurd z (by simp)),r,q⟩
end
def tCall (sp:Sp) (dvs:List V) (E:XK) (t:TA):TE:=fun σ H Q=>t σ H fun vs H1=>sp (vs ++ dvs) H1 Q E
def tMake (C:Addr) (sp:Sp) (dvs:List V) (E:XK) (t:TA):TE:=fun σ H Q=>t σ H fun vs H1=>∀ x dx,H1 x = none→H1 dx = none→dx ≠ x →
 sp (.ref x :: (vs ++ dvs)) (upd (upd H1 dx (.own x)) x (.ins C dx [])) (fun v H2=>v = .non∧Q (.ref x) H2) E
def Binds (K:PySem.W.Frag) (fd:FuncData) (ps:List Str) (ds:List Value):Prop :=
 ∀ (s:Shared) (us:List Value),K.In s.heap→(us ++ ds).length = ps.length→BindsTo s fd ⟨us,[]⟩ (ps.zip (us ++ ds))
theorem Binds.all {K:PySem.W.Frag} {fd:FuncData} {ps:List Str} (h:∀ us:List Value,us.length = ps.length→bindArgs fd ⟨us,[]⟩ = pure (ps.zip us)):Binds K fd ps []:=fun s us _ hl=>by
 rw [List.append_nil] at hl ⊢
 exact .of_eq (h us hl)
def Passes (CX:CXT) (X:Cx) (E:XK):Prop:=∀ (pins:List (Addr × Obj)) (σ:St) (H:Hp) (s:Shared) (e:Value) (s':Shared),Inv X pins σ H s→CX X.stack H s E e s'→X.xe e s'
section
variable {X:Cx} {CX:CXT} {k:Nat} {f C:Addr} {fd:FuncData} {ps:List Str} {sp:Sp} {dvs:List V} {ds:List Value} {E:XK} {x m:Str} {p pos apos:Pos} {e o:Expr} {es:List Expr} {ta:TE} {t:TA}
theorem run_fn {pins:List (Addr × Obj)} {σ:St} {H:Hp} {s:Shared} {Q:VK} {us:List Value} {vs:List V} (F:FnOk X.prog X.w X.K X.mg X.base CX k f fd ps sp) (hr:Room k X.A) (hb:Binds X.K fd ps ds) (hd:Vals dvs ds) (hx:Passes CX X E)
  (I:Inv X pins σ H s) (r:Vals vs us) (h:sp (vs ++ dvs) H Q E):wpAny (model X.prog X.w) X.A (call (.ref f) us) (EP X pins σ Q) X.xe s:=by
 have r2:Vals (vs ++ dvs) (us ++ ds):=r.append hd
 have hl:(us ++ ds).length = ps.length:=by rw [← r2.length]; exact F.len _ _ _ _ h
 refine wpAny_call (codeAny_mono (F.run X.A X.stack s H ⟨us,[]⟩ (us ++ ds) (vs ++ dvs) Q E hr I.env0 (hb s us I.kIn hl) r2 h) fun r s' hq=>?_)
 cases r with
 | error e=>exact hx pins σ H s e s' I hq
 | ok fl =>
  cases fl with
  | ret u=>exact I.after hq
  | next=>exact False.elim hq
  | brk=>exact False.elim hq
  | cont=>exact False.elim hq
theorem pe_call (F:FnOk X.prog X.w X.K X.mg X.base CX k f fd ps sp) (hr:Room k X.A) (hg:Gl X x) (hm:X.mg x = some (.ref f)) (hk:PySem.W.keepIn X.K (.ref f) = true) (hb:Binds X.K fd ps ds) (hd:Vals dvs ds) (hx:Passes CX X E)
  (ha:PA X (e :: es) t) (hdb:(x == ("__debug__":Str)) = false:=by decide) (he:starEach (e :: es) X.env = (false,eval e X.env) :: starEach es X.env:=by rfl) (hpl:(backTo pos (starEach es X.env)).any (·.1) = false:=by rfl) :
  PE X (.Call (.Name x p) (e :: es) [] pos) (tCall sp dvs E t):=by
 intro pins s σ H Q I h
 refine wpAny_Call_Name_kw (ld_glob I hg hm ?_ hdb)
 refine PySem.W.callWith_K (h₀:=X.base) I.ok.mod.kin hk (thn (ha pos pins s σ H _ I h) fun us s1 ⟨vs,H1,I1,r,q⟩=>⟨I1.kIn,?_⟩) he hpl
 exact run_fn F hr hb hd hx I1 r q
theorem pe_call0 (F:FnOk X.prog X.w X.K X.mg X.base CX k f fd ps sp) (hr:Room k X.A) (hg:Gl X x) (hm:X.mg x = some (.ref f)) (hk:PySem.W.keepIn X.K (.ref f) = true) (hb:Binds X.K fd ps ds) (hd:Vals dvs ds) (hx:Passes CX X E)
  (hdb:(x == ("__debug__":Str)) = false:=by decide):PE X (.Call (.Name x p) [] [] pos) (tCall sp dvs E tNil):=by
 intro pins s σ H Q I h
 refine wpAny_Call_Name_kw (ld_glob I hg hm ?_ hdb)
 exact PySem.W.callWith_K0 I.kIn hk (run_fn (us:=[]) F hr hb hd hx I .nil h)
structure Mk (K:PySem.W.Frag) (C f:Addr):Prop where
 makes:PySem.W.makesIn K C = true
 init:PySem.W.findIn K (.ref C) "__init__" = some (some (.ref f))
 fn:PySem.W.isFn K (.ref f) = true
 kp:PySem.W.keepIn K (.ref C) = true
theorem run_make {pins:List (Addr × Obj)} {σ:St} {H:Hp} {s:Shared} {Q:VK} {us:List Value} {vs:List V} (M:Mk X.K C f) (F:FnOk X.prog X.w X.K X.mg X.base CX k f fd ps sp) (hr:Room (k + 1) X.A) (hb:Binds X.K fd ps ds) (hd:Vals dvs ds)
  (hx:Passes CX X E) (I:Inv X pins σ H s) (r:Vals vs us)
  (h:∀ x dx,H x = none→H dx = none→dx ≠ x→sp (.ref x :: (vs ++ dvs)) (upd (upd H dx (.own x)) x (.ins C dx [])) (fun v H2=>v = .non∧Q (.ref x) H2) E) :
  wpAny (model X.prog X.w) X.A (call (.ref C) us) (EP X pins σ Q) X.xe s:=by
 have hq:=h (s.heap.objs.size + 1) s.heap.objs.size (I.hok.fresh (Nat.le_succ _)) (I.hok.fresh (Nat.le_refl _)) (Nat.ne_of_lt (Nat.lt_succ_self _))
 have I2:=Inv.made (C:=C) I
 have r2:Vals (V.ref (s.heap.objs.size + 1) :: (vs ++ dvs)) (Value.ref (s.heap.objs.size + 1) :: (us ++ ds)):=.cons rfl (r.append hd)
 have hl:(Value.ref (s.heap.objs.size + 1) :: us ++ ds).length = ps.length:=by
  have e:=r2.length
  rw [F.len _ _ _ _ hq] at e
  exact e.symm
 refine wpAny_call (make_map (f:=f) I.kIn M.makes M.init (beq_iff_eq.mp M.fn) (codeAny_mono (F.run _ X.stack _ _ ⟨Value.ref (s.heap.objs.size + 1) :: us,[]⟩ (Value.ref (s.heap.objs.size + 1) :: (us ++ ds)) _ _ E (hr.make C us [])
  (I2.env0.make C us []) (hb _ (Value.ref (s.heap.objs.size + 1) :: us) I2.kIn hl) r2 hq) fun r s' hq'=>?_))
 cases r with
 | error e=>exact hx pins σ _ _ e s' I2 hq'
 | ok fl =>
  cases fl with
  | ret u =>
   obtain ⟨v,H',I3,rv,ev,q3⟩:=I2.after hq'
   subst ev
   exact ⟨rv,⟨V.ref (s.heap.objs.size + 1),H',I3,rfl,q3⟩⟩
  | next=>exact False.elim hq'
  | brk=>exact False.elim hq'
  | cont=>exact False.elim hq'
theorem pe_make (M:Mk X.K C f) (F:FnOk X.prog X.w X.K X.mg X.base CX k f fd ps sp) (hr:Room (k + 1) X.A) (hg:Gl X x) (hm:X.mg x = some (.ref C)) (hb:Binds X.K fd ps ds) (hd:Vals dvs ds) (hx:Passes CX X E)
  (ha:PA X (e :: es) t) (hdb:(x == ("__debug__":Str)) = false:=by decide) (he:starEach (e :: es) X.env = (false,eval e X.env) :: starEach es X.env:=by rfl) (hpl:(backTo pos (starEach es X.env)).any (·.1) = false:=by rfl) :
  PE X (.Call (.Name x p) (e :: es) [] pos) (tMake C sp dvs E t):=by
 intro pins s σ H Q I h
 refine wpAny_Call_Name_kw (ld_glob I hg hm ?_ hdb)
 refine PySem.W.callWith_K (h₀:=X.base) I.ok.mod.kin M.kp (thn (ha pos pins s σ H _ I h) fun us s1 ⟨vs,H1,I1,r,q⟩=>⟨I1.kIn,?_⟩) he hpl
 exact run_make M F hr hb hd hx I1 r q
end
section
variable {X:Cx} {CX:CXT} {k:Nat} {f C:Addr} {fd:FuncData} {ps ks:List Str} {sp:Sp} {E:XK} {x m:Str} {p pos apos kpos:Pos} {e o:Expr} {es:List Expr} {kws:List Keyword} {te ta:TE} {t tk:TA} {nm:Option Str}
variable {g:List Value→List Value→List Value} {gV:List V→List V→List V}
end
structure FnScope (N P:List Str) (sc:Scope):Prop where
 kind:sc.kind = .function
 co:sc.isCoroutine = false
 gen:sc.isGenerator = false
 nd:N.Nodup
 pre:N.take P.length = P
 par:∀ x ∈ P,sc.names.lookup x = some .local∨sc.names.lookup x = some .cell
 nofree:∀ y ∈ sc.names,y.2 ≠ .free
theorem bindL_out {kindOf:Str→Option NameKind} {x:Str}:∀ {binds:List (Str × Value)} {m:Str→Option Value},(∀ v,(x,v) ∉ binds)→bindL kindOf binds m x = m x
 | [],_,_=>rfl
 | (n,v) :: r,m,h=>by
  unfold bindL
  rw [bindL_out fun w hw=>h w (List.mem_cons_of_mem _ hw)]
  split
  ·have:x ≠ n:=by rintro rfl; exact h v List.mem_cons_self
   simp [this]
  ·rfl
theorem bindC_out {kindOf:Str→Option NameKind} {x:Str}:∀ {binds:List (Str × Value)} {m:Str→Option Value},(∀ v,(x,v) ∉ binds)→bindC kindOf binds m x = m x
 | [],_,_=>rfl
 | (n,v) :: r,m,h=>by
  unfold bindC
  rw [bindC_out fun w hw=>h w (List.mem_cons_of_mem _ hw)]
  split
  ·rfl
  ·have:x ≠ n:=by rintro rfl; exact h v List.mem_cons_self
   simp [this]
theorem bindL_get {kindOf:Str→Option NameKind} {x:Str} {v:Value}:∀ {P:List Str} {vs:List Value} {i:Nat} {m:Str→Option Value},P.Nodup→P[i]? = some x→vs[i]? = some v→kindOf x = some .local →
  bindL kindOf (P.zip vs) m x = some v
 | [],_,_,_,_,h,_,_=>by simp at h
 | _ :: _,[],_,_,_,_,h,_=>by simp at h
 | p :: P,w :: vs,0,m,nd,h1,h2,hk=>by
  simp at h1 h2; subst h1; subst h2
  show bindL kindOf ((p,w) :: P.zip vs) m p = _
  unfold bindL
  rw [bindL_out fun v hv=>(List.nodup_cons.mp nd).1 (List.of_mem_zip hv).1,if_pos hk]
  simp
 | p :: P,w :: vs,i + 1,m,nd,h1,h2,hk=>by
  show bindL kindOf ((p,w) :: P.zip vs) m x = _
  unfold bindL
  exact bindL_get (i:=i) (List.nodup_cons.mp nd).2 (by simpa using h1) (by simpa using h2) hk
theorem bindC_get {kindOf:Str→Option NameKind} {x:Str} {v:Value}:∀ {P:List Str} {vs:List Value} {i:Nat} {m:Str→Option Value},P.Nodup→P[i]? = some x→vs[i]? = some v→kindOf x ≠ some .local →
  bindC kindOf (P.zip vs) m x = some v
 | [],_,_,_,_,h,_,_=>by simp at h
 | _ :: _,[],_,_,_,_,h,_=>by simp at h
 | p :: P,w :: vs,0,m,nd,h1,h2,hk=>by
  simp at h1 h2; subst h1; subst h2
  show bindC kindOf ((p,w) :: P.zip vs) m p = _
  unfold bindC
  rw [bindC_out fun v hv=>(List.nodup_cons.mp nd).1 (List.of_mem_zip hv).1,if_neg hk]
  simp
 | p :: P,w :: vs,i + 1,m,nd,h1,h2,hk=>by
  show bindC kindOf ((p,w) :: P.zip vs) m x = _
  unfold bindC
  exact bindC_get (i:=i) (List.nodup_cons.mp nd).2 (by simpa using h1) (by simpa using h2) hk
def start (N:List Str) (vs:List V):St:=vs.map some ++ List.replicate (N.length - vs.length) none
def cxOf (CX:CXT) (P:Program) (w:World) (K:PySem.W.Frag) (mg:Str→Option Value) (base:Heap) (N:List Str) (qual:Str) (scope:Scope) (f:Addr) (cd:Value) (A:Around) (outer:List Env) (s:Shared) (H:Hp) (E:XK):Cx where
 prog:=P
 w:=w
 K:=K
 mg:=mg
 base:=base
 A:=A.deeper (envOfC qual scope s.heap.objs.size f cd)
 N:=N
 s₀:=s
 H₀:=H
 env:=envOfC qual scope s.heap.objs.size f cd
 outer:=outer
 stack:=envOfC qual scope s.heap.objs.size f cd :: outer
 ex:=[]
 calm:=true
 fn:=fun _=>true
 pn:=[]
 xe:=fun e s'=>wpAny (model P w) (A.deeper (envOfC qual scope s.heap.objs.size f cd)) (leaving (envOfC qual scope s.heap.objs.size f cd) e) (fun _ s''=>CX outer H s E e s'') (fun e' s''=>CX outer H s E e' s'') s'
theorem cell_has {sc:Scope} {n:Nat} {x:Str} (h:sc.names.lookup x = some .cell):∃ c,(cellsFrom n sc.names []).lookup x = some c:=by
 have q:=PySem.W.cellsFrom_some sc.names n [] (.inl h)
 exact Option.isSome_iff_exists.mp q
theorem inv_start {CX:CXT} {P:Program} {w:World} {K:PySem.W.Frag} {mg:Str→Option Value} {base:Heap} {N ps:List Str} {qual:Str} {scope:Scope} {f:Addr} {cd:Value} {A:Around} {outer:List Env} {s s1:Shared} {H:Hp} {E:XK} {us:List Value} {vs:List V}
  (S:FnScope N ps scope) (hd:A.handled = none) (e0:Env0 P w K mg base A outer s H) (hl:vs.length = ps.length) (r:Vals vs us)
  (x:InCallC s s.heap.objs.size (bindL (envOfC qual scope s.heap.objs.size f cd).kindOf (ps.zip us) fun _=>none) (cellsFrom (s.heap.objs.size + 1) scope.names []) (bindC (envOfC qual scope s.heap.objs.size f cd).kindOf (ps.zip us) fun _=>none) s1) :
  Inv (cxOf CX P w K mg base N qual scope f cd A outer s H E) [] (start N vs) H s1:=by
 have hpl:ps.length≤N.length:=by have:=congrArg List.length S.pre; rw [List.length_take] at this; omega
 obtain ⟨h1,tk,rfl,hk⟩:=x.done
 have noA:∀ b:Addr,b ∉ (cxOf CX P w K mg base N qual scope f cd A outer s H E).ex:=fun b z=>absurd (show b ∈ ([]:List Addr) from z) (by simp)
 refine ⟨⟨e0.mod,S.kind,rfl,rfl,Nat.le_refl _,fun y z c h1 h2=>?_,fun y hy=>?_,fun y c _ h=>?_,fun _=>hd,Around.frames_deeper e0.frames,.inr ⟨rfl,rfl⟩,fun b z=>absurd z (noA b),e0.bs,e0.bsz,fun b _ _=>noA b,fun b z=>absurd z (noA b),e0.funs,e0.frf⟩,
  rfl,e0.bare,Un.kept hk,⟨_,x.toInCall.ns,fun i y v h1 h2 h3=>?_⟩,fun y c h=>⟨_,x.cell y c h⟩,e0.hok.fresh (Nat.le_refl _),fun y c h=>?_,fun p hp=>absurd (show p ∈ ([]:List (Addr × Obj)) from hp) (by simp),e0.hok.kept hk,?_⟩
 ·exact name_of_addr x.apart (PySem.mem_of_lookup h1) (PySem.mem_of_lookup h2)
 ·have hy:scope.names.lookup y = some .cell∨scope.names.lookup y = some .free:=hy
  rcases hy with hy | hy
  ·exact cell_has hy
  ·exact absurd rfl (S.nofree _ (PySem.mem_of_lookup hy))
 ·exact Nat.le_of_lt (x.above y c (PySem.mem_of_lookup h))
 ·have hi:i < vs.length:=by
   unfold start at h2
   by_cases hi:i < vs.length
   ·exact hi
   ·rw [List.getElem?_append_right (by simpa using hi)] at h2
    rw [List.getElem?_replicate] at h2
    split at h2 <;> cases h2
  have ha:vs[i]? = some v:=by
   unfold start at h2
   rw [List.getElem?_append_left (by simpa using hi),List.getElem?_map] at h2
   cases e:vs[i]? with
   | none=>rw [e] at h2; cases h2
   | some a=>rw [e] at h2; cases h2; rfl
  obtain ⟨u,hu,rv⟩:=r.get ha
  have hp:ps[i]? = some y:=by
   rw [← S.pre,List.getElem?_take_of_lt (by omega)]; exact h1
  have ndP:ps.Nodup:=by rw [← S.pre]; exact S.nd.sublist (List.take_sublist _ _)
  refine ⟨u,rv,?_⟩
  rcases S.par y (List.mem_of_getElem? hp) with k | k
  ·exact .inl ⟨k,bindL_get ndP hp hu k⟩
  ·obtain ⟨c,e⟩:=cell_has (n:=s.heap.objs.size + 1) k
   refine .inr ⟨.inl k,c,e,?_⟩
   have q:=x.cell y c e
   rw [bindC_get ndP hp hu (by show scope.names.lookup y ≠ _; rw [k]; decide)] at q
   exact q
 ·exact e0.hok.fresh (Nat.le_of_lt (x.above y c (PySem.mem_of_lookup h)))
 ·unfold start
  show _ = N.length
  rw [List.length_append,List.length_map,List.length_replicate]
  omega
theorem fn_of {CX:CXT} {P:Program} {w:World} {K:PySem.W.Frag} {mg:Str→Option Value} {base:Heap} {k:Nat} {f:Addr} {name qual:Str} {params:Arguments} {body:List Stmt} {scope:Scope} {dV kV doc pm cdv ct oc:Value} {an od:Option Addr}
  {osl:Array (Option Value)} {N ps:List Str} {sp:Sp} (lk:K.lookup f = some ⟨oc,od,.func (PySem.W.fnOf name qual params body scope dV kV doc pm an cdv ct),osl⟩) (hcd:PySem.W.codeIn K cdv qual = true) (S:FnScope N ps scope)
  (len:∀ vs H Q E,sp vs H Q E→vs.length = ps.length)
  (hbody:∀ (A:Around) (outer:List Env) (s:Shared) (H:Hp) (vs:List V) (Q:VK) (E:XK),Room k (A.deeper (envOfC qual scope s.heap.objs.size f cdv))→sp vs H Q E →
   ∃ t,PSs (cxOf CX P w K mg base N qual scope f cdv A outer s H E) body t∧t { nx:=fun _ H'=>Q .non H',rt:=Q } (start N vs) H) :
  FnOk P w K mg base CX (k + 1) f (PySem.W.fnOf name qual params body scope dV kV doc pm an cdv ct) ps sp:=by
 refine ⟨len,fun A outer s H args us vs Q E hr e0 hb r hsp=>?_⟩
 have hl:=len _ _ _ _ hsp
 have KX:K.In s.heap:=e0.mod.kin.keeps fun b o e=>(e0.bs b o e).1
 have lim:s.heap.NoLimit:=e0.mod.nolimit.keeps fun b o e=>(e0.bs b o e).1
 have hkind:∀ y ∈ ps.zip us,scope.names.lookup y.1 = some .local∨(scope.names.lookup y.1 = some .cell∧((cellsFrom (s.heap.objs.size + 1) scope.names []).lookup y.1).isSome = true):=fun ⟨n,v⟩ hy=>by
  rcases S.par n (List.of_mem_zip hy).1 with q | q
  ·exact .inl q
  ·exact .inr ⟨q,PySem.W.cellsFrom_some _ _ _ (.inl q)⟩
 refine codeAny_call_function hr.depth (KX _ _ lk) rfl S.co S.gen rfl (PySem.W.codeRec_of KX hcd) (hb _ _ _ _ ?_)
 refine wpAny_newFunctionEnv_cells S.kind hkind fun env he s1 x=>?_
 subst he
 refine ⟨lim.keeps x.toInCall.keep,codeAny_func ?_⟩
 obtain ⟨t,ht,hq⟩:=hbody A outer s H vs Q E (hr.deeper _) hsp
 have I:Inv (cxOf CX P w K mg base N qual scope f cdv A outer s H E) [] (start N vs) H s1:=inv_start S hr.hd e0 hl r x
 refine wpAny_mono (ht [] s1 (start N vs) H _ I hq) (fun fl s' hs=>?_) fun e s' hs=>hs
 have fin:∀ {σ':St} {H':Hp} {v:V} {u:Value},Inv (cxOf CX P w K mg base N qual scope f cdv A outer s H E) [] σ' H' s'→RelV v u→Q v H'→CE outer P w H s Q u s' :=
  fun {σ' H' v u} J rv q=>⟨v,H',J.os,J.bare,J.base,J.hok,rv,q⟩
 cases fl with
 | ret u =>
  obtain ⟨v,σ',H',J,rv,q⟩:=hs
  exact fin J rv q
 | next =>
  obtain ⟨σ',H',J,q⟩:=hs
  exact fin (v:=V.non) (u:=Value.none) J rfl q
 | brk =>
  obtain ⟨_,_,_,q⟩:=hs
  exact False.elim q
 | cont =>
  obtain ⟨_,_,_,q⟩:=hs
  exact False.elim q
end L2
namespace L2
open PySem PySem.Spec PyProof.Rows
section
variable {X:Cx} {x:Str} {p pos:Pos} {e:Expr} {es:List Expr} {t:TA} {id T:String} {r:List V→Hp→VK→Prop}
def tCB (r:List V→Hp→VK→Prop) (t:TA):TE:=fun σ H Q=>t σ H fun vs H1=>r vs H1 Q
theorem pe_callB (hc:CallR X (.builtin id) r) (hg:Gl X x) (hm:X.mg x = none) (hv:bootBuiltins x = some (.builtin id)) (ha:PA X (e :: es) t) (hn:x ≠ "__name__":=by decide) (hdb:(x == ("__debug__":Str)) = false:=by decide)
  (he:starEach (e :: es) X.env = (false,eval e X.env) :: starEach es X.env:=by rfl) (hpl:(backTo pos (starEach es X.env)).any (·.1) = false:=by rfl):PE X (.Call (.Name x p) (e :: es) [] pos) (tCB r t):=by
 intro pins s σ H Q I h
 refine wpAny_Call_Name_kw (ld_blt I hg hm hv ?_ hn hdb)
 exact PyProof.Rows.callWith_builtin1 (thn (ha pos pins s σ H _ I h) fun us s1 ⟨vs,H1,I1,r1,q1⟩=>hc pins s1 σ H1 vs us Q I1 r1 q1) he hpl
theorem pe_callTy (hc:CallR X (.type T) r) (hg:Gl X x) (hm:X.mg x = none) (hv:bootBuiltins x = some (.type T)) (ha:PA X (e :: es) t) (hn:x ≠ "__name__":=by decide) (hdb:(x == ("__debug__":Str)) = false:=by decide)
  (he:starEach (e :: es) X.env = (false,eval e X.env) :: starEach es X.env:=by rfl) (hpl:(backTo pos (starEach es X.env)).any (·.1) = false:=by rfl):PE X (.Call (.Name x p) (e :: es) [] pos) (tCB r t):=by
 intro pins s σ H Q I h
 refine wpAny_Call_Name_kw (ld_blt I hg hm hv ?_ hn hdb)
 exact PyProof.Rows.callWith_type1 (thn (ha pos pins s σ H _ I h) fun us s1 ⟨vs,H1,I1,r1,q1⟩=>hc pins s1 σ H1 vs us Q I1 r1 q1) he hpl
end
end L2
namespace HT
open PySem PyProof.Rows
section
open PySem.SeqAt
open PySem.AutoSeq1 (wpAny_loadPart')
open PySem.MeetsSeq PySem.MeetsSeq2 PySem.MeetsSeq3
end
section
variable {prog:Program} {w:World} {A:Around} {E:Value→Shared→Prop} {s:Shared}
theorem cat_tup {t b:Addr} {vs ws:List Value} {Q:Value→Shared→Prop} (ht:IsTup s.heap t vs.toArray) (hb:IsTup s.heap b ws.toArray) (hv:vs ≠ [])
  (h1:ws = []→Q (.ref t) s) (h2:ws ≠ []→Q (.ref s.heap.objs.size) { s with heap:=s.heap.push { cls:=.type "tuple",data:=.seq (vs ++ ws).toArray } })
  (hsz:vs.length + ws.length≤sizeLine):wpAny (model prog w) A (binaryOp .Add (.ref t) (.ref b)) Q E s:=by
 obtain ⟨⟨cls,dd,data,sl⟩,ho,hc,n,hd⟩:=id ht
 obtain ⟨⟨cls2,dd2,data2,sl2⟩,ho2,hc2,n2,hd2⟩:=id hb
 simp only at hc hd hc2 hd2
 subst hc hd hc2 hd2
 have e:vs.toArray ++ ws.toArray = (vs ++ ws).toArray:=by simp
 by_cases hw:ws = []
 ·exact concat_meets ⟨_,ho,rfl⟩ ⟨_,ho2,rfl⟩ noFill_tuple_add seq_tuple_add PySem.F.slot_tuple_add PySem.F.entry_tuple_add (PySem.F.args_tuple_add_2 _ _)
   (tuple_addW1 t b vs.toArray ws.toArray n n2 dd dd2 sl sl2 (by simpa using hv) (by simp [hw])) ⟨ho,ho2,h1 hw⟩
 ·refine concat_meets ⟨_,ho,rfl⟩ ⟨_,ho2,rfl⟩ noFill_tuple_add seq_tuple_add PySem.F.slot_tuple_add PySem.F.entry_tuple_add (PySem.F.args_tuple_add_2 _ _)
   (tuple_addW2 t b vs.toArray ws.toArray n n2 dd dd2 sl sl2 (by simpa using hv) (by simpa using hw) (by rw [List.size_toArray,List.size_toArray]; exact hsz)) ⟨ho,ho2,?_⟩
  rw [e]
  exact h2 hw
def sIx (n d:Nat):Option Int→Nat
 | none=>d
 | some v=>if v < 0 then (v + (n:Int)).toNat else min v.toNat n
theorem sIx_none (n d:Nat):sIx n d none = d:=rfl
theorem sIx_nat (n d k:Nat):sIx n d (some (k:Int)) = min k n:=by
 show (if (k:Int) < 0 then ((k:Int) + (n:Int)).toNat else min (k:Int).toNat n) = min k n
 rw [if_neg (by omega),Int.toNat_natCast]
theorem sIx_le (n d:Nat) (hd:d≤n) (o:Option Int):sIx n d o≤n:=by
 cases o with
 | none=>exact hd
 | some v =>
  show (if v < 0 then (v + (n:Int)).toNat else min v.toNat n)≤n
  by_cases hv:v < 0
  ·rw [if_pos hv]; omega
  ·rw [if_neg hv]; exact Nat.min_le_right _ _
theorem clip_eq (v:Int) (n d:Nat):(if v < 0 then max (v + (n:Int)) 0 else min v (n:Int)) = ((sIx n d (some v):Nat):Int):=by
 show (if v < 0 then max (v + (n:Int)) 0 else min v (n:Int)) = (((if v < 0 then (v + (n:Int)).toNat else min v.toNat n):Nat):Int)
 by_cases hv:v < 0
 ·simp only [if_pos hv]; omega
 ·simp only [if_neg hv]; omega
theorem adjust_gen (lo hi:Option Int) (n:Nat):Builtin.Slice.sliceAdjust lo hi 1 (n:Int) = (((sIx n 0 lo:Nat):Int),((sIx n n hi:Nat):Int)):=by
 have h1:¬ ((1:Int) < 0):=by omega
 unfold Builtin.Slice.sliceAdjust
 simp only [h1,if_false]
 refine Prod.ext ?_ ?_
 ·cases lo with
  | none=>rfl
  | some v=>exact clip_eq v n 0
 ·cases hi with
  | none=>rfl
  | some v=>exact clip_eq v n n
theorem places_gen (i j:Nat):Builtin.Slice.slicePlaces (i:Int) (j:Int) 1 = j - i:=by
 unfold Builtin.Slice.slicePlaces
 have h1:(1:Int) > 0:=by omega
 simp only [h1,if_true,Int.ediv_one]
 split <;> omega
theorem slicePart_ {v:Value} {o:Option Int} {Q:Option Int→Shared→Prop} (p:IsPart v o) (h:Q o s):wpAny (model prog w) A (Builtin.Slice.slicePartIndex v) Q E s:=by
 cases p with
 | none=>exact slicePart_none h
 | int i t=>exact slicePart_int h
theorem sliceApplied_gen {sl:Addr} {vl vu:Value} {lo hi:Option Int} {n:Nat} {Q:Int × Int × Nat→Shared→Prop} (hs:s.heap.IsSliceOf sl vl vu .none) (pl:IsPart vl lo) (pu:IsPart vu hi)
  (h:Q (((sIx n 0 lo:Nat):Int),1,sIx n n hi - sIx n 0 lo) s):wpAny (model prog w) A (Builtin.Slice.sliceApplied (.ref sl) (pure (n:Int))) Q E s:=by
 obtain ⟨os,hos,hcs,hds⟩:=id hs
 unfold Builtin.Slice.sliceApplied Builtin.Slice.sliceFields
 refine wpAny_bind (wpAny_bind (wpAny_field hos hds (x:=vl) rfl (wpAny_bind (wpAny_field hos hds (x:=vu) rfl (wpAny_bind (wpAny_field hos hds (x:=.none) rfl (wpAny_pure ?_)))))))
 refine wpAny_bind (slicePart_none ?_)
 show wpAny _ _ (if ((1:Int) == 0) = true then _ else _) _ _ s
 rw [if_neg (by decide)]
 refine wpAny_bind (slicePart_ pl (wpAny_bind (slicePart_ pu (wpAny_bind (wpAny_pure ?_)))))
 show wpAny _ _ (match Builtin.Slice.sliceAdjust lo hi 1 (n:Int) with | (lo,hi)=>pure (lo,(1:Int),Builtin.Slice.slicePlaces lo hi 1)) _ _ s
 rw [adjust_gen lo hi n]
 show wpAny _ _ (pure (((sIx n 0 lo:Nat):Int),(1:Int),Builtin.Slice.slicePlaces ((sIx n 0 lo:Nat):Int) ((sIx n n hi:Nat):Int) 1)) _ _ s
 rw [places_gen]
 exact wpAny_pure h
theorem pick_gen (xs:Array Value) (i k:Nat):((List.range k).filterMap fun (m:Nat)=>xs[((i:Int) + (m:Int) * 1).toNat]?).toArray = ((xs.toList.drop i).take k).toArray:=by
 have e:(fun (m:Nat)=>xs[((i:Int) + (m:Int) * 1).toNat]?) = fun m=>xs[i + m]?:=by
  funext m
  have:((i:Int) + (m:Int) * 1).toNat = i + m:=by omega
  rw [this]
 rw [e]
 have:=pick_run xs i k
 rw [List.filterMap_map] at this
 have e2:((fun x=>xs[x]?) ∘ fun x=>i + x) = fun m=>xs[i + m]?:=rfl
 rw [e2] at this
 rw [this]
theorem getItem_tuple_cut {t sl:Addr} {items:Array Value} {vl vu:Value} {lo hi:Option Int} {Q:Value→Shared→Prop} (ht:IsTup s.heap t items) (hs:s.heap.IsSliceOf sl vl vu .none) (pl:IsPart vl lo) (pu:IsPart vu hi)
  (hw:¬ (sIx items.size 0 lo = 0∧sIx items.size items.size hi = items.size))
  (h:Q (.ref s.heap.objs.size) { s with heap:=s.heap.push { cls:=.type "tuple",data:=.seq ((items.toList.drop (sIx items.size 0 lo)).take (sIx items.size items.size hi - sIx items.size 0 lo)).toArray } })
  (hsz:items.size≤sizeLine):wpAny (model prog w) A (getItem (.ref t) (.ref sl)) Q E s:=by
 have htake:sizeOk (.seq ((items.toList.drop (sIx items.size 0 lo)).take (sIx items.size items.size hi - sIx items.size 0 lo)).toArray):=by
  show ((items.toList.drop (sIx items.size 0 lo)).take (sIx items.size items.size hi - sIx items.size 0 lo)).toArray.size≤sizeLine
  rw [List.size_toArray,List.length_take,List.length_drop,Array.length_toList]
  omega
 have hj:sIx items.size items.size hi≤items.size:=sIx_le _ _ (Nat.le_refl _) hi
 obtain ⟨os,hos,hcs,hds⟩:=id hs
 have hTs:s.TypeIs (.ref sl) "slice":=⟨os,hos,hcs⟩
 unfold getItem
 try with_reducible refine wpAny_holding ?_
 first | refine wpAny_bind (wpAny_pure ?_) | skip
 refine wpAny_bind (wpAny_sequenceKey ht.typeIs (by decide) ?_)
 refine wpAny_bind (wpAny_callSpecial?_slot (name:=Str.ofString "__getitem__") ht.typeIs PyProof.Rows.slot_tuple_getitem
  (wpAny_call_entry PyProof.Rows.slot_tuple_getitem ht.typeIs entry_tuple_getitem ?_ (args_tuple_getitem _ _)))
 show wpAny _ _ (Builtin.Tuple.tupleItemsOf (.ref t) >>= _) _ _ s
 refine wpAny_bind (tupleItemsOf_ ht ?_)
 refine wpAny_bind (wpAny_typeOf hTs ?_)
 rw [if_pos (by decide)]
 refine wpAny_bind (sliceApplied_gen hs pl pu ?_)
 have hno:¬ ((((sIx items.size 0 lo:Nat):Int) == 0 && (1:Int) == 1 && (sIx items.size items.size hi - sIx items.size 0 lo) == items.size) = true):=by
  intro q
  rw [Bool.and_eq_true,Bool.and_eq_true] at q
  have q1:((sIx items.size 0 lo:Nat):Int) = 0:=eq_of_beq q.1.1
  have q2:sIx items.size items.size hi - sIx items.size 0 lo = items.size:=eq_of_beq q.2
  exact hw ⟨by omega,by omega⟩
 show wpAny _ _ (if (((sIx items.size 0 lo:Nat):Int) == 0 && (1:Int) == 1 && (sIx items.size items.size hi - sIx items.size 0 lo) == items.size) = true then _ else _) _ _ s
 rw [if_neg hno,pick_gen]
 first
  | exact wpAny_bind (m:=Builtin.Tuple.tupleExact _) (wpAny_newObj_type (wpAny_pure ⟨_,rfl,wpAny_pure h⟩) htake)
  | exact wpAny_bind (m:=Builtin.Tuple.tupleExact _) (wpAny_newObj_type (wpAny_bind (wpAny_pure (wpAny_pure ⟨_,rfl,wpAny_pure h⟩))) htake)
  | exact wpAny_bind (wpAny_bind (m:=Builtin.Tuple.tupleExact _) (wpAny_newObj_type (wpAny_pure (wpAny_pure ⟨_,rfl,wpAny_pure h⟩)) htake))
  | exact wpAny_bind (wpAny_bind (m:=Builtin.Tuple.tupleExact _) (wpAny_newObj_type (wpAny_pure ⟨_,rfl,wpAny_pure h⟩) htake))
end
end HT
namespace L2
open PySem PySem.Spec PyProof.Rows
abbrev TO:=St→Hp→(Option Int→Hp→Prop)→Prop
def PO (X:Cx) (e:Option Expr) (t:TO):Prop :=
 ∀ (pins:List (Addr × Obj)) (s:Shared) (σ:St) (H:Hp) (Q:Option Int→Hp→Prop),Inv X pins σ H s→t σ H Q →
  wpAny (model X.prog X.w) X.A (evalPart e X.env) (fun u s'=>∃ o H',Inv X pins σ H' s'∧IsPart u o∧Q o H') X.xe s
def tNoPart:TO:=fun _ H Q=>Q none H
def tPart (t:TE):TO:=fun σ H Q=>t σ H fun x H1=>∃ i,x = .int i∧Q (some i) H1
section
variable {X:Cx} {e:Expr} {te:TE} {lo hi:Option Expr} {tl th:TO} {pos p2:Pos}
theorem po_none:PO X none tNoPart:=by
 intro pins s σ H Q I h
 rw [evalPart_none]
 exact wpAny_pure ⟨none,H,I,.none,h⟩
theorem po_some (h:PE X e te):PO X (some e) (tPart te):=by
 intro pins s σ H Q I hw
 rw [evalPart_some]
 refine thn (h pins s σ H _ I hw) fun u s1 ⟨x,H1,I1,r1,q1⟩=>?_
 obtain ⟨i,rfl,q⟩:=q1
 obtain ⟨t,rfl⟩:=r1
 exact ⟨some i,H1,I1,.int i t,q⟩
def SlR (X:Cx) (r:V→Option Int→Option Int→Hp→VK→Prop):Prop :=
 ∀ (pins:List (Addr × Obj)) (s:Shared) (σ:St) (H:Hp) (x:V) (v vl vu:Value) (lo hi:Option Int) (sl:Addr) (Q:VK),Inv X pins σ H s→RelV x v→s.heap.IsSliceOf sl vl vu .none→IsPart vl lo→IsPart vu hi→r x lo hi H Q →
  ∃ T id,typeLookup (.type T) "__getitem__" = pure (some (.builtin id))∧s.TypeIs v T∧wpAny (model X.prog X.w) X.A (getItem v (.ref sl)) (EP X pins σ Q) X.xe s
def tSl (r:V→Option Int→Option Int→Hp→VK→Prop) (te:TE) (tl th:TO):TE:=fun σ H Q=>te σ H fun x H1=>tl σ H1 fun l H2=>th σ H2 fun u H3=>r x l u H3 Q
theorem pe_slice {r:V→Option Int→Option Int→Hp→VK→Prop} (hr:SlR X r) (he:PE X e te) (hl:PO X lo tl) (hu:PO X hi th):PE X (.Subscript e (.Slice lo hi none p2) pos) (tSl r te tl th):=by
 intro pins s σ H Q I h
 refine Subscript_ (thn (he pins s σ H _ I h) fun v s1 ⟨x,H1,I1,r1,q1⟩=>?_)
 refine wpAny_Slice (thn (hl pins s1 σ H1 _ I1 q1) fun vl s2 ⟨l,H2,I2,pl,q2⟩=>thn (hu pins s2 σ H2 _ I2 q2) fun vu s3 ⟨u,H3,I3,pu,q3⟩=>?_)
 rw [evalPart_none]
 refine wpAny_pure ?_
 have I4:Inv X pins σ H3 { s3 with heap:=s3.heap.push { cls:=.type "slice",data:=.fields #[vl,vu,.none] } }:=I3.kept (t':=s3.toks) fun b ob q=>Heap.get?_push_of_some _ q
 obtain ⟨T,id,hT,ht,hg⟩:=hr pins { s3 with heap:=s3.heap.push { cls:=.type "slice",data:=.fields #[vl,vu,.none] } } σ H3 x v vl vu l u s3.heap.objs.size Q I4 r1 (Heap.IsSliceOf.new ..) pl pu q3
 show wpAny (model X.prog X.w) X.A (subscriptTail e (.Slice lo hi none p2) v (.ref s3.heap.objs.size)) (EP X pins σ Q) X.xe { s3 with heap:=s3.heap.push { cls:=.type "slice",data:=.fields #[vl,vu,.none] } }
 exact tail_any (ops:=[.ref s3.heap.objs.size,v]) ht hT hg (by with_unfolding_all rfl)
def cutV (xs:List V) (lo hi:Option Int):List V:=(xs.drop (HT.sIx xs.length 0 lo)).take (HT.sIx xs.length xs.length hi - HT.sIx xs.length 0 lo)
theorem cutV_length (xs:List V) (lo hi:Option Int):(cutV xs lo hi).length≤xs.length:=by
 unfold cutV
 rw [List.length_take,List.length_drop]
 omega
def rSlT (K:PySem.W.Frag):V→Option Int→Option Int→Hp→VK→Prop:=fun x lo hi H Q=>∃ a xs,x = .ref a∧SqT K H a xs ∧
 ¬ (HT.sIx xs.length 0 lo = 0∧HT.sIx xs.length xs.length hi = xs.length)∧∀ p,H p = none→Q (.ref p) (upd H p (.tup (cutV xs lo hi)))
theorem sl_tup:SlR X (rSlT X.K):=by
 intro pins s σ H x v vl vu lo hi sl Q I rx hs pl pu h
 obtain ⟨a,xs,rfl,hx,hw,q⟩:=h
 cases rx
 obtain ⟨its,r,ht,hz⟩:=I.tuple hx
 have hlen:its.toArray.size = xs.length:=by rw [List.size_toArray]; exact r.length.symm
 refine ⟨"tuple",_,PyProof.Rows.slot_tuple_getitem.lookup,ht.typeIs,?_⟩
 refine HT.getItem_tuple_cut ht hs pl pu (by rw [hlen]; exact hw) ?_ (by rw [hlen]; exact hz)
 rw [hlen]
 refine ⟨.ref s.heap.objs.size,_,I.laid (t':=s.toks) (o:=.tup (cutV xs lo hi)) (fun b ob q=>Heap.get?_push_of_some _ q) (Nat.le_refl _) ?_,rfl,q _ (I.hok.fresh (Nat.le_refl _))⟩
 exact ⟨Nat.le_trans (cutV_length xs lo hi) hz,_,(r.drop (HT.sIx xs.length 0 lo)).take (HT.sIx xs.length xs.length hi - HT.sIx xs.length 0 lo),IsTup.new _ _⟩
def rCatT (K:PySem.W.Frag):R2:=fun x y H Q=>∃ a b xs ys,x = .ref a∧y = .ref b∧SqT K H a xs∧SqT K H b ys∧xs ≠ []∧xs.length + ys.length≤sizeLine ∧
 (ys = []→Q (.ref a) H)∧(ys ≠ []→∀ p,H p = none→Q (.ref p) (upd H p (.tup (xs ++ ys))))
theorem Vals.nil_iff {xs:List V} {us:List Value} (r:Vals xs us):us = [] ↔ xs = []:=by
 cases r with
 | nil=>simp
 | cons _ _=>simp
theorem op_catT:OpR X (binaryOp .Add) (rCatT X.K):=by
 intro pins s σ H x y v u Q I rx ry h
 obtain ⟨a,b,xs,ys,rfl,rfl,ha,hb,hx,hz,q1,q2⟩:=h
 cases rx
 cases ry
 obtain ⟨its,r1,p1,_⟩:=I.tuple ha
 obtain ⟨its2,r2,p2,_⟩:=I.tuple hb
 refine HT.cat_tup p1 p2 (fun z=>hx (r1.nil_iff.mp z)) (fun z=>⟨.ref a,H,I,rfl,q1 (r2.nil_iff.mp z)⟩) (fun z=>?_) (by rw [← r1.length,← r2.length]; exact hz)
 refine ⟨.ref s.heap.objs.size,_,I.laid (t':=s.toks) (o:=.tup (xs ++ ys)) (fun b ob q=>Heap.get?_push_of_some _ q) (Nat.le_refl _) ?_,rfl,q2 (fun w=>z (r2.nil_iff.mpr w)) _ (I.hok.fresh (Nat.le_refl _))⟩
 exact ⟨by rw [List.length_append]; exact hz,_,r1.append r2,IsTup.new _ _⟩
end
end L2
namespace L2
open PySem PySem.Spec PyProof.Rows
def ixN (n:Nat) (i:Int):Option Nat:=if 0≤i then (if i < n then some i.toNat else none) else if -(n:Int)≤i then some (i + n).toNat else none
def atI {α:Type} (xs:List α) (i:Int):Option α:=(ixN xs.length i).bind fun j=>xs[j]?
theorem ixN_seq {n:Nat} {i:Int} {j:Nat} (h:ixN n i = some j):seqIndex? i n = some j∧j < n∧-(n:Int)≤i∧i < n:=by
 unfold ixN at h
 by_cases h0:0≤i
 ·rw [if_pos h0] at h
  by_cases h1:i < n
  ·rw [if_pos h1] at h
   have e:i.toNat = j:=Option.some.inj h
   exact ⟨by rw [seqIndex_of h0 h1,e],by omega,by omega,h1⟩
  ·rw [if_neg h1] at h; cases h
 ·rw [if_neg h0] at h
  by_cases h1:-(n:Int)≤i
  ·rw [if_pos h1] at h
   have e:(i + n).toNat = j:=Option.some.inj h
   exact ⟨by rw [seqIndex_neg (by omega) h1,e],by omega,h1,by omega⟩
  ·rw [if_neg h1] at h; cases h
theorem atI_get {α:Type} {xs:List α} {i:Int} {v:α} (h:atI xs i = some v):∃ j,seqIndex? i xs.length = some j∧xs[j]? = some v∧j < xs.length∧-(xs.length:Int)≤i∧i < xs.length:=by
 unfold atI at h
 cases e:ixN xs.length i with
 | none=>rw [e] at h; cases h
 | some j =>
  rw [e] at h
  obtain ⟨h1,h2,h3,h4⟩:=ixN_seq e
  exact ⟨j,h1,h,h2,h3,h4⟩
theorem atI_nat {α:Type} {xs:List α} {j:Nat} {v:α} (h:xs[j]? = some v):atI xs (j:Int) = some v:=by
 have hj:j < xs.length:=(List.getElem?_eq_some_iff.mp h).1
 have e:ixN xs.length (j:Int) = some j:=by
  unfold ixN
  rw [if_pos (by omega),if_pos (by omega)]; simp
 unfold atI; rw [e]; exact h
def PlainIx (b:Expr):Prop:=∀ o i,subscripted b false o i = operate [o,i] (getItem o i)
def IxR (X:Cx) (r:R2):Prop :=
 ∀ (value slice:Expr) (pins:List (Addr × Obj)) (s:Shared) (σ:St) (H:Hp) (x y:V) (v u:Value) (Q:VK),Inv X pins σ H s→RelV x v→RelV y u→r x y H Q →
  subscripted slice false v u = operate [v,u] (getItem v u)→wpAny (model X.prog X.w) X.A (subscriptTail value slice v u) (EP X pins σ Q) X.xe s
def MtR (X:Cx) (id:String) (r:V→List V→Hp→VK→Prop):Prop :=
 ∀ (pins:List (Addr × Obj)) (s:Shared) (σ:St) (H:Hp) (x:V) (xs:List V) (v:Value) (us:List Value) (Q:VK),Inv X pins σ H s→RelV x v→Vals xs us→r x xs H Q →
  wpAny (model X.prog X.w) X.A (call (.builtin id) (v :: us)) (EP X pins σ Q) X.xe s
section
variable {X:Cx} {a b:Expr} {ta tb:TE} {pos:Pos}
theorem pe_ix {r:R2} (hr:IxR X r) (ha:PE X a ta) (hb:PE X b tb) (hs:PlainIx b):PE X (.Subscript a b pos) (tOp r ta tb):=by
 intro pins s σ H Q I h
 exact Subscript_ (binT ha hb I h fun v u s2 x y H2 I2 rx ry q=>hr a b pins s2 σ H2 x y v u Q I2 rx ry q (hs _ _))
def rIxL (K:PySem.W.Frag):R2:=fun x y H Q=>∃ p xs i v,x = .ref p∧y = .int i∧SqL K H p xs∧atI xs i = some v∧Q v H
def rIxT (K:PySem.W.Frag):R2:=fun x y H Q=>∃ p xs i v,x = .ref p∧y = .int i∧SqT K H p xs∧atI xs i = some v∧Q v H
def rIxS:R2:=fun x y H Q=>∃ z i c,x = .str z∧y = .int i∧z.length≤sizeLine∧atI z.cps.toList i = some c∧Q (.str ⟨#[c]⟩) H
theorem ix_list:IxR X (rIxL X.K):=by
 intro value slice pins s σ H x y v u Q I rx ry h hs
 obtain ⟨p,xs,i,z,rfl,rfl,hq,he,q⟩:=h
 cases rx
 obtain ⟨t,rfl⟩:=ry
 obtain ⟨its,r,pl,hz⟩:=I.list hq
 obtain ⟨j,h1,h2,h3,h4,h5⟩:=atI_get he
 obtain ⟨w,ew,rw'⟩:=r.get h2
 have hl:=r.length
 have hn:=line63
 have fin:EP X pins σ Q w s:=⟨z,H,I,rw',q⟩
 by_cases h0:0≤i
 ·have hj:i.toNat = j:=by
   rw [seqIndex_of h0 h5] at h1
   exact Option.some.inj h1
  exact item_listR pl.isList h0 (by omega) (by rw [hj]; simpa using ew) fin hs
 ·have hj:(i + (its.toArray.size:Int)).toNat = j:=by
   rw [seqIndex_neg (by omega) h4] at h1
   rw [List.size_toArray,← hl]
   exact Option.some.inj h1
  exact subscriptTail_builtinR (x:=w) pl.isList.typeIs slot_list_getitem.lookup
   (wpAny_getItem_list_neg (Q:=fun r s'=>r = w∧EP X pins σ Q r s') pl.isList (by omega) (by rw [List.size_toArray] <;> omega) (by omega) (by rw [hj]; simpa using ew) ⟨rfl,fin⟩) hs
theorem ix_tup:IxR X (rIxT X.K):=by
 intro value slice pins s σ H x y v u Q I rx ry h hs
 obtain ⟨p,xs,i,z,rfl,rfl,hq,he,q⟩:=h
 cases rx
 obtain ⟨t,rfl⟩:=ry
 obtain ⟨its,r,pl,hz⟩:=I.tuple hq
 obtain ⟨j,h1,h2,h3,h4,h5⟩:=atI_get he
 obtain ⟨w,ew,rw'⟩:=r.get h2
 have hl:=r.length
 have hn:=line63
 have fin:EP X pins σ Q w s:=⟨z,H,I,rw',q⟩
 exact subscriptTail_builtinR (x:=w) pl.typeIs slot_tuple_getitem.lookup
  (getItem_tuple (j:=j) (Q:=fun r s'=>r = w∧EP X pins σ Q r s') pl (by omega) (by omega) (by rw [List.size_toArray,← hl]; exact h1) (by simpa using ew) ⟨rfl,fin⟩) hs
theorem ix_str:IxR X rIxS:=by
 intro value slice pins s σ H x y v u Q I rx ry h hs
 obtain ⟨z,i,c,rfl,rfl,hz,he,q⟩:=h
 obtain ⟨t,rfl⟩:=rx
 obtain ⟨t',rfl⟩:=ry
 obtain ⟨j,h1,h2,h3,h4,h5⟩:=atI_get he
 have hl:z.cps.toList.length = z.length:=by simp [Str.length]
 rw [hl] at h1 h4 h5
 have hn:=line63
 exact tail_any (typeIs_str s z t) slot_str_getitem.lookup (getItem_str (c:=c) (by
  have e1:decide (i < -(2 ^ 63:Int)) = false:=decide_eq_false (by omega)
  have e2:decide (i ≥ 2 ^ 63) = false:=decide_eq_false (by omega)
  rw [e1,e2,Bool.or_false]) (by rw [h1]; simpa using h2) ⟨.str ⟨#[c]⟩,H,I.tok _,⟨_,rfl⟩,q⟩) hs
theorem mapSeq_set (its:List Value) (n j:Nat) (u:Value):Obj.mapSeq (·.setIfInBounds j u) { cls:=.type "list",data:=.seq its.toArray n } = { cls:=.type "list",data:=.seq (its.set j u).toArray n }:=by
 simp [Obj.mapSeq]
theorem Inv.lst {pins:List (Addr × Obj)} {σ:St} {H:Hp} {s:Shared} {p:Addr} {xs:List V} (I:Inv X pins σ H s) (h:H p = some (.lst xs)) :
  ∃ (its:List Value) (n:Nat),Vals xs its∧s.heap.get? p = some { cls:=.type "list",data:=.seq its.toArray n }∧xs.length≤sizeLine:=by
 obtain ⟨z,its,n,r,e⟩:=I.hok p _ h
 exact ⟨its,n,r,e,z⟩
theorem Inv.lstUpd {pins:List (Addr × Obj)} {σ:St} {H:Hp} {s:Shared} {p:Addr} {xs ys:List V} {its its':List Value} {n n':Nat} {f:Obj→Obj} (I:Inv X pins σ H s) (h:H p = some (.lst xs))
  (ho:s.heap.get? p = some { cls:=.type "list",data:=.seq its.toArray n }) (hf:f { cls:=.type "list",data:=.seq its.toArray n } = { cls:=.type "list",data:=.seq its'.toArray n' }) (r:Vals ys its') (hz:ys.length≤sizeLine) (t:Nat) :
  Inv X pins σ (upd H p (.lst ys)) { s with heap:=s.heap.update p f,toks:=t }:=by
 have e:(s.heap.update p f).get? p = some { cls:=.type "list",data:=.seq its'.toArray n' }:=by
  rw [Heap.get?_update_self f ho (by rw [hf] <;> rfl),hf]
 refine I.write (x:=p) (e:=p) (by rw [h]; trivial) (.inl rfl) (fun b u hb q=>(Heap.get?_update_other _ _ (Ne.symm hb)).trans q) ⟨_,e⟩ ?_
 exact ⟨hz,its',n',r,e⟩
def rSetL:V→V→V→Hp→(Hp→Prop)→Prop:=fun o i v H Q=>∃ p xs k j,o = .ref p∧i = .int k∧H p = some (.lst xs)∧ixN xs.length k = some j∧Q (upd H p (.lst (xs.set j v)))
theorem set_list:PSet X rSetL:=by
 intro pins s σ H o i v ov iv u Q I ro ri rv h
 obtain ⟨p,xs,k,j,rfl,rfl,hp,hj,q⟩:=h
 cases ro
 obtain ⟨t,rfl⟩:=ri
 obtain ⟨its,n,r,ho,hz⟩:=I.lst hp
 obtain ⟨h1,h2,h3,h4⟩:=ixN_seq hj
 have hl:=r.length
 have hn:=line63
 have I':Inv X pins σ (upd H p (.lst (xs.set j v))) { s with heap:=s.heap.update p (Obj.mapSeq (·.setIfInBounds j u)) } :=
  I.lstUpd hp ho (mapSeq_set its n j u) (r.set rv j) (by rw [List.length_set]; exact hz) s.toks
 by_cases h0:0≤k
 ·have hk:k.toNat = j:=by
   rw [seqIndex_of h0 h4] at h1
   exact Option.some.inj h1
  exact PySem.W.ki_setAt ho h0 (by omega) (by rw [List.size_toArray,← hl]; exact h4) (by rw [hk]; exact ⟨_,I',q⟩)
 ·have hk:(k + (its.toArray.size:Int)).toNat = j:=by
   rw [seqIndex_neg (by omega) h3] at h1
   rw [List.size_toArray,← hl]
   exact Option.some.inj h1
  exact PySem.W.ki_setBack ho (by omega) (by rw [List.size_toArray,← hl]; exact h3) (by omega) (by rw [hk]; exact ⟨_,I',q⟩)
theorem slice_bounds (lo hi:Option Int) (n:Nat):(sliceBounds lo hi none n).1 = ((HT.sIx n 0 lo:Nat):Int)∧(sliceBounds lo hi none n).2.1 = ((HT.sIx n n hi:Nat):Int)∧(sliceBounds lo hi none n).2.2 = 1:=by
 refine ⟨?_,?_,rfl⟩
 ·cases lo with
  | none=>simp [sliceBounds,HT.sIx]
  | some i =>
   simp only [sliceBounds,HT.sIx,Option.getD_none,show (1:Int) > 0 by decide,if_true]
   by_cases h:i < 0
   ·simp only [h,if_true] <;> omega
   ·simp only [h,if_false] <;> omega
 ·cases hi with
  | none=>simp [sliceBounds,HT.sIx]
  | some i =>
   simp only [sliceBounds,HT.sIx,Option.getD_none,show (1:Int) > 0 by decide,if_true]
   by_cases h:i < 0
   ·simp only [h,if_true] <;> omega
   ·simp only [h,if_false] <;> omega
theorem slicePick_cut (its:List Value) (lo hi:Option Int):slicePick its.toArray lo hi none = ((its.drop (HT.sIx its.length 0 lo)).take (HT.sIx its.length its.length hi - HT.sIx its.length 0 lo)).toArray:=by
 obtain ⟨h1,h2,h3⟩:=slice_bounds lo hi its.toArray.size
 unfold slicePick
 rw [h1,h2,h3]
 simp only [sliceRange_one,pick_run,List.size_toArray] <;> rfl
def rSlL (K:PySem.W.Frag):V→Option Int→Option Int→Hp→VK→Prop:=fun x lo hi H Q=>∃ a xs,x = .ref a∧SqL K H a xs∧∀ p,H p = none→Q (.ref p) (upd H p (.lst (cutV xs lo hi)))
theorem sl_list:SlR X (rSlL X.K):=by
 intro pins s σ H x v vl vu lo hi sl Q I rx hs pl pu h
 obtain ⟨a,xs,rfl,hx,q⟩:=h
 cases rx
 obtain ⟨its,r,ht,hz⟩:=I.list hx
 have hlen:=r.length
 refine ⟨"list",_,slot_list_getitem.lookup,ht.isList.typeIs,?_⟩
 refine wpAny_getItem_list_slice ht.isList hs pl pu .none (by simp) ?_ (by rw [List.size_toArray] <;> omega)
 rw [slicePick_cut,← hlen]
 refine ⟨.ref s.heap.objs.size,_,I.laid (t':=s.toks) (o:=.lst (cutV xs lo hi)) (fun b ob q=>Heap.get?_push_of_some _ q) (Nat.le_refl _) ?_,rfl,q _ (I.hok.fresh (Nat.le_refl _))⟩
 exact ⟨Nat.le_trans (cutV_length xs lo hi) hz,_,0,(r.drop (HT.sIx xs.length 0 lo)).take (HT.sIx xs.length xs.length hi - HT.sIx xs.length 0 lo),Heap.get?_push_size _ rfl⟩
def flatV:V→Bool
 | .non=>true
 | .bl _=>true
 | .int _=>true
 | .str _=>true
 | _=>false
def eqV:V→V→Bool
 | .non,.non=>true
 | .bl a,.bl b=>a == b
 | .bl a,.int b=>(if a then 1 else 0) == b
 | .int a,.bl b=>a == (if b then 1 else 0)
 | .int a,.int b=>a == b
 | .str a,.str b=>a == b
 | _,_=>false
theorem eqAt_V {A:Around} {s:Shared} {y x:V} {u v:Value} (ry:RelV y u) (rx:RelV x v) (fy:flatV y = true) (fx:flatV x = true):SeqAt.EqAt A s u v (eqV y x):=by
 cases y with
 | non =>
  cases ry
  cases x with
  | non=>cases rx; exact SeqAt.EqAt.same _
  | bl b=>cases rx; exact SeqAt.EqAt.none_bool b
  | int b=>obtain ⟨t,rfl⟩:=rx; exact SeqAt.EqAt.none_int b t
  | str b=>obtain ⟨t,rfl⟩:=rx; exact SeqAt.EqAt.none_str b t
  | _=>exact absurd (show false = true from fx) Bool.false_ne_true
 | bl a =>
  cases ry
  cases x with
  | non=>cases rx; exact SeqAt.EqAt.bool_none a
  | bl b=>cases rx; exact SeqAt.EqAt.bool_bool a b
  | int b=>obtain ⟨t,rfl⟩:=rx; exact SeqAt.EqAt.bool_int a b t
  | str b=>obtain ⟨t,rfl⟩:=rx; exact SeqAt.EqAt.bool_str a b t
  | _=>exact absurd (show false = true from fx) Bool.false_ne_true
 | int a =>
  obtain ⟨t',rfl⟩:=ry
  cases x with
  | non=>cases rx; exact SeqAt.EqAt.int_none a t'
  | bl b=>cases rx; exact SeqAt.EqAt.int_bool a t' b
  | int b=>obtain ⟨t,rfl⟩:=rx; exact SeqAt.EqAt.int_int a t' b t
  | str b=>obtain ⟨t,rfl⟩:=rx; exact SeqAt.EqAt.int_str a t' b t
  | _=>exact absurd (show false = true from fx) Bool.false_ne_true
 | str a =>
  obtain ⟨t',rfl⟩:=ry
  cases x with
  | non=>cases rx; exact SeqAt.EqAt.str_none a t'
  | bl b=>cases rx; exact SeqAt.EqAt.str_bool a t' b
  | int b=>obtain ⟨t,rfl⟩:=rx; exact SeqAt.EqAt.str_int a t' b t
  | str b=>obtain ⟨t,rfl⟩:=rx; exact SeqAt.EqAt.str_str a t' b t
  | _=>exact absurd (show false = true from fx) Bool.false_ne_true
 | _=>exact absurd (show false = true from fy) Bool.false_ne_true
theorem op_notIn_str:OpR X (compareOp .NotIn) (fun x y H Q=>∃ i j,x = .str i∧y = .str j∧Q (.bl (!(!(Builtin.Str.occurrences j i 0 j.length 1).isEmpty))) H):=by
 intro pins s σ H x y v u Q I rx ry h
 obtain ⟨i,j,rfl,rfl,q⟩:=h
 obtain ⟨t,rfl⟩:=rx
 obtain ⟨t',rfl⟩:=ry
 exact notIn_str ⟨.bl _,H,I,rfl,q⟩
theorem call_len_seq:CallR X (.builtin "len") (fun xs H Q=>∃ p ys,xs = [.ref p]∧(SqL X.K H p ys∨SqT X.K H p ys)∧Q (.int ys.length) H):=by
 intro pins s σ H xs us Q I r h
 obtain ⟨p,ys,rfl,hq,q⟩:=h
 obtain ⟨u,rfl,rx⟩:=vals1 r
 cases rx
 have hn:=line63
 rcases hq with hq | hq
 ·obtain ⟨its,r',pl,hz⟩:=I.list hq
  have hlen:=r'.length
  exact Calls.call_len_list pl.isList (by simp only [List.size_toArray] <;> omega) ⟨.int ys.length,H,I.tok _,⟨s.toks + 1,by rw [List.size_toArray,hlen]⟩,q⟩
 ·obtain ⟨its,r',pl,hz⟩:=I.tuple hq
  have hlen:=r'.length
  exact len_tuple pl (by simp only [List.size_toArray] <;> omega) ⟨.int ys.length,H,I.tok _,⟨s.toks + 1,by rw [List.size_toArray,hlen]⟩,q⟩
theorem call_len_str:CallR X (.builtin "len") (fun xs H Q=>∃ z,xs = [.str z]∧z.length≤sizeLine∧Q (.int z.length) H):=by
 intro pins s σ H xs us Q I r h
 obtain ⟨z,rfl,hz,q⟩:=h
 obtain ⟨u,rfl,t,rfl⟩:=vals1 r
 have hn:=line63
 exact len_str (by omega) ⟨.int z.length,H,I.tok _,⟨_,rfl⟩,q⟩
theorem call_list_of:CallR X (.type "list") (fun xs H Q=>∃ p ys,xs = [.ref p]∧(SqL X.K H p ys∨SqT X.K H p ys)∧∀ l,H l = none→Q (.ref l) (upd H l (.lst ys))):=by
 intro pins s σ H xs us Q I r h
 obtain ⟨p,ys,rfl,hq,q⟩:=h
 obtain ⟨u,rfl,rx⟩:=vals1 r
 cases rx
 have fin:∀ (its:List Value),Vals ys its→ys.length≤sizeLine→∀ (h':Heap) (c':Nat),(∀ b o',s.heap.get? b = some o'→h'.get? b = some o') →
   h'.get? s.heap.objs.size = some { cls:=.type "list",dict:=none,data:=.seq its.toArray c',slots:=#[] }→EP X pins σ Q (.ref s.heap.objs.size) { s with heap:=h' }:=fun its r' hz h' c' kp e =>
  ⟨.ref s.heap.objs.size,_,I.laid (t':=s.toks) kp (Nat.le_refl _) (show ObjOk X.prog X.w _ h' _ (.lst ys) from ⟨hz,its,c',r',e⟩),rfl,q _ (I.hok.fresh (Nat.le_refl _))⟩
 rcases hq with hq | hq
 ·obtain ⟨its,r',pl,hz⟩:=I.list hq
  have hlen:=r'.length
  obtain ⟨o,ho,hc,n,hd⟩:=pl.isList
  exact call_list_seq p (.inl rfl) ho hc hd (fun h' c' kp e=>fin its r' hz h' c' kp e) (by simp only [List.size_toArray] <;> omega)
 ·obtain ⟨its,r',pl,hz⟩:=I.tuple hq
  have hlen:=r'.length
  obtain ⟨o,ho,hc,n,hd⟩:=pl
  exact call_list_seq p (.inr rfl) ho hc hd (fun h' c' kp e=>fin its r' hz h' c' kp e) (by simp only [List.size_toArray] <;> omega)
def tyV (K:PySem.W.Frag) (T:String) (x:V) (H:Hp):Prop:=match x with
 | .str _=>T = "str"
 | .int _=>T = "int"
 | .ref p=>(T = "list"∧∃ xs,SqL K H p xs)∨(T = "tuple"∧∃ o,K.lookup p = some o∧o.cls = .type "tuple"∧o.dict = none) ∨
   (T = "dict"∧((∃ kvs,H p = some (.dK kvs))∨∃ kvs,H p = some (.dT kvs)))∨(T = "set"∧∃ S n,H p = some (.set S n))
 | _=>False
theorem tyV_is {pins:List (Addr × Obj)} {σ:St} {H:Hp} {s:Shared} {T:String} {x:V} {v:Value} (I:Inv X pins σ H s) (r:RelV x v) (ty:tyV X.K T x H) :
  s.TypeIs v T∧∀ a,v = .ref a→∃ ob,s.heap.get? a = some ob∧ob.dict = none:=by
 cases x with
 | str z =>
  obtain ⟨t,rfl⟩:=r
  cases (show T = "str" from ty)
  exact ⟨typeIs_str s z t,fun _ e=>nomatch e⟩
 | int i =>
  obtain ⟨t,rfl⟩:=r
  cases (show T = "int" from ty)
  exact ⟨typeIs_int s i t,fun _ e=>nomatch e⟩
 | ref p =>
  cases r
  rcases ty with ⟨rfl,xs,hq⟩ | ⟨rfl,o,hk,hc,hd⟩ | ⟨rfl,hk⟩ | ⟨rfl,S,n,hk⟩
  ·obtain ⟨its,_,pl,_⟩:=I.list hq
   refine ⟨pl.isList.typeIs,fun a e=>?_⟩
   cases e
   obtain ⟨o,n,e,c,hd,_⟩:=pl
   exact ⟨o,e,hd⟩
  ·refine ⟨⟨o,I.kIn p o hk,hc⟩,fun a e=>?_⟩
   cases e
   exact ⟨o,I.kIn _ o hk,hd⟩
  ·have z:∃ o,s.heap.get? p = some o∧o.ExactDict:=by
    rcases hk with ⟨kvs,hk⟩ | ⟨kvs,hk⟩
    ·obtain ⟨_,_,_,_,o,_,_,e,ex,_⟩:=I.hok p _ hk
     exact ⟨o,e,ex⟩
    ·obtain ⟨_,_,_,_,o,_,_,e,ex,_⟩:=I.hok p _ hk
     exact ⟨o,e,ex⟩
   obtain ⟨o,e,ex⟩:=z
   refine ⟨⟨o,e,ex.1⟩,fun a e2=>?_⟩
   cases e2
   exact ⟨o,e,ex.2.1⟩
  ·obtain ⟨o,_,_,_,e,ex,_⟩:=I.hok p _ hk
   refine ⟨⟨o,e,ex.1⟩,fun a e2=>?_⟩
   cases e2
   exact ⟨o,e,ex.2.1⟩
 | _=>exact False.elim ty
def tBM0 (K:PySem.W.Frag) (T:String) (r:V→List V→Hp→VK→Prop) (to:TE):TE:=fun σ H Q=>to σ H fun x H1=>tyV K T x H1∧r x [] H1 Q
def tBM (K:PySem.W.Frag) (T:String) (r:V→List V→Hp→VK→Prop) (to:TE) (t:TA):TE:=fun σ H Q=>to σ H fun x H1=>tyV K T x H1∧t σ H1 fun xs H2=>r x xs H2 Q
variable {o e:Expr} {es:List Expr} {to:TE} {t:TA} {name:Str} {apos cpos:Pos} {T id:String} {r:V→List V→Hp→VK→Prop}
theorem pe_bm0 (pa:PlainAttrs T) (slot:Slot T name id) (hty:typeOf (.builtin id) = pure (.type "method_descriptor")) (hm:MtR X id r) (ho:PE X o to)
  (hbase:attributeBase o name X.env (eval o X.env) = eval o X.env:=by rfl) (hline:(apos.endLine == cpos.line) = true:=by rfl):PE X (.Call (.Attribute o name apos) [] [] cpos) (tBM0 X.K T r to):=by
 intro pins s σ H Q I h
 refine wpAny_Call_method0_late hbase hline (thn (ho pins s σ H _ I h) fun v s1 ⟨x,H1,I1,r1,ty,q1⟩=>?_)
 obtain ⟨h1,h2⟩:=tyV_is I1 r1 ty
 exact ⟨T,id,pa,slot,hty,h1,h2,Calls.callWith_builtin rfl (PySem.evalArgs_none (hm pins s1 σ H1 x [] v [] Q I1 r1 .nil q1))⟩
theorem pe_bm (pa:PlainAttrs T) (slot:Slot T name id) (hty:typeOf (.builtin id) = pure (.type "method_descriptor")) (hm:MtR X id r) (ho:PE X o to) (ha:PA X (e :: es) t)
  (hbase:attributeBase o name X.env (eval o X.env) = eval o X.env:=by rfl)
  (hfew:((backTo cpos (starEach (e :: es) X.env)).all (fun x=>!x.1) && (backToKw cpos (keywordEach [] X.env)).all (fun x=>x.1.isSome)
   && decide ((e :: es).length + ([]:List Keyword).length + (if ([]:List Keyword).isEmpty then 0 else 1) < 30)) = true:=by rfl)
  (hline:(apos.endLine == cpos.line) = true:=by rfl) (hs:starEach (e :: es) X.env = (false,eval e X.env) :: starEach es X.env:=by rfl) (hplain:(backTo cpos (starEach es X.env)).any (·.1) = false:=by rfl) :
  PE X (.Call (.Attribute o name apos) (e :: es) [] cpos) (tBM X.K T r to t):=by
 intro pins s σ H Q I h
 refine wpAny_Call_method_late hbase hfew hline rfl (thn (ho pins s σ H _ I h) fun v s1 ⟨x,H1,I1,r1,ty,q1⟩=>?_)
 obtain ⟨h1,h2⟩:=tyV_is I1 r1 ty
 refine ⟨T,id,pa,slot,hty,h1,h2,?_⟩
 have hA:=ha cpos pins s1 σ H1 _ I1 q1
 rw [hs] at hA ⊢
 refine Calls.callWith_builtin (by show (false || (backTo cpos (starEach es X.env)).any (·.1)) = false; rw [hplain] <;> rfl) (Calls.evalArgs_plain ?_)
 exact thn hA fun us s2 ⟨vs,H2,I2,r2,q2⟩=>hm pins s2 σ H2 x vs v us Q I2 r1 r2 q2
/- xs.append(e),list.index on a module's tuple .. are MtR facts of 06m -/
end
end L2
namespace L2
open PySem PySem.Spec PyProof.Rows
def MtM (X:Cx) (id:String) (r:V→List V→Hp→VK→Prop):Prop :=
 ∀ (pins:List (Addr × Obj)) (s:Shared) (σ:St) (H:Hp) (x:V) (xs:List V) (v:Value) (us:List Value) (Q:VK),Inv X pins σ H s→RelV x v→Vals xs us→r x xs H Q →
  wpAny (model X.prog X.w) X.A (call (.builtin id) (v :: us)) (EP X pins σ Q) X.xe s
theorem Vals.one:∀ {x:V} {us:List Value},Vals [x] us→∃ u,us = [u]∧RelV x u
 | _,_,.cons r .nil=>⟨_,rfl,r⟩
theorem Vals.zero:∀ {us:List Value},Vals [] us→us = []
 | _,.nil=>rfl
section
variable {X:Cx} {pins:List (Addr × Obj)} {σ:St} {H:Hp} {s:Shared} {l b:Addr} {xs ys zs:List V}
theorem Inv.lset {its its':List Value} {n:Nat} {f:Array Value→Array Value} {t':Nat} (I:Inv X pins σ H s) (hH:H l = some (.lst xs))
  (e:s.heap.get? l = some { cls:=.type "list",data:=.seq its.toArray n }) (hf:f its.toArray = its'.toArray) (hv:Vals ys its') (hz:ys.length≤sizeLine) :
  Inv X pins σ (upd H l (.lst ys)) { s with heap:=s.heap.update l (Obj.mapSeq f),toks:=t' }:=by
 have q:=PySem.IsL.update e f
 rw [hf] at q
 refine I.write (x:=l) (e:=l) (by rw [hH]; exact trivial) (.inl rfl) (fun b' u hb hu=>(Heap.get?_update_other s.heap (Obj.mapSeq f) (Ne.symm hb)).trans hu) ⟨_,q⟩ ?_
 exact ⟨hz,its',_,hv,q⟩
theorem Inv.lnew {its:List Value} {t':Nat} (I:Inv X pins σ H s) (hv:Vals ys its) (hz:ys.length≤sizeLine) :
  Inv X pins σ (upd H s.heap.objs.size (.lst ys)) { s with heap:=s.heap.push { cls:=.type "list",data:=.seq its.toArray },toks:=t' } :=
 I.laid (fun _ _ q=>Heap.get?_push_of_some _ q) (Nat.le_refl _) ⟨hz,its,0,hv,Heap.get?_push_size _ rfl⟩
theorem Inv.fresh (I:Inv X pins σ H s):H s.heap.objs.size = none:=I.hok.fresh (Nat.le_refl _)
theorem Inv.lstM (I:Inv X pins σ H s) (hH:H l = some (.lst xs)):xs.length≤sizeLine∧∃ (its:List Value) (n:Nat),Vals xs its∧xs.length = its.length∧s.heap.get? l = some { cls:=.type "list",data:=.seq its.toArray n }:=by
 obtain ⟨z,its,n,r,e⟩:=I.hok l _ hH
 exact ⟨z,its,n,r,r.length,e⟩
end
section
variable {X:Cx}
def rAppend:V→List V→Hp→VK→Prop:=fun x vs H Q=>∃ l xs y,x = .ref l∧vs = [y]∧H l = some (.lst xs)∧xs.length < sizeLine∧Q .non (upd H l (.lst (xs ++ [y])))
theorem mt_append:MtM X "list.append" rAppend:=by
 intro pins s σ H x vs v us Q I rx rv h
 obtain ⟨l,xs,y,rfl,rfl,hH,hz,q⟩:=h
 cases rx
 obtain ⟨u,rfl,ru⟩:=rv.one
 obtain ⟨z,its,n,r,hl,e⟩:=I.lstM hH
 refine call_meets F.slot_list_append ⟨_,e,rfl⟩ F.entry_list_append (F.args_list_append_2 _ _) (PySem.list_append l its.toArray n u (by rw [List.size_toArray]; omega)) ⟨e,?_⟩
 refine ⟨.non,_,I.lset (its':=its ++ [u]) hH e (by simp) (r.append (.cons ru .nil)) ?_,rfl,q⟩
 rw [List.length_append,List.length_singleton]
 omega
def rClear:V→List V→Hp→VK→Prop:=fun x vs H Q=>∃ l xs,x = .ref l∧vs = []∧H l = some (.lst xs)∧Q .non (upd H l (.lst []))
theorem mt_clear:MtM X "list.clear" rClear:=by
 intro pins s σ H x vs v us Q I rx rv h
 obtain ⟨l,xs,rfl,rfl,hH,q⟩:=h
 cases rx
 have hus:=rv.zero
 subst hus
 obtain ⟨z,its,n,r,hl,e⟩:=I.lstM hH
 refine call_meets F.slot_list_clear ⟨_,e,rfl⟩ F.entry_list_clear (F.args_list_clear_1 _) (AutoSeq1.list_clear_list_0 l its.toArray n (by rw [List.size_toArray]; omega)) ⟨e,?_⟩
 exact ⟨.non,_,I.lset (its':=[]) (ys:=[]) hH e rfl .nil (Nat.zero_le _),rfl,q⟩
end
section
variable {prog:Program} {w:World} {A:Around} {E:Value→Shared→Prop} {s:Shared}
set_option maxRecDepth 100000 in
end
section
variable {X:Cx}
end
end L2
namespace Att
open PySem PySem.W PySem.Calls PyProof.Rows
theorem ints_of_wellAll {P:Params} {h:Heap}:∀ (ns:List Int) (vs:List Value),WellAll P h vs (ns.map WData.int)→IntsAre vs ns:=by
 intro ns
 induction ns with
 | nil =>
  intro vs w
  rw [List.map_nil] at w
  cases w
  exact .nil
 | cons n ns ih =>
  intro vs w
  rw [List.map_cons] at w
  cases w with
  | cons a b =>
   cases a
   exact .cons _ _ (ih _ b)
theorem script_of {l:OpenLaw} {n:Nat} (hn:l.most = some n) {P:Params} {h:Heap} {args:List WData} {vals:List Value}
  (hpre:l.row.toRowW.claim.pre args = true) (hwl:WellAll P h vals args) :
  ∃ a vs ns,vals = [Value.ref a]∧args = [WData.list (ns.map WData.int)]∧h.get? a = some { cls:=.type "list",data:=.seq vs.toArray }∧IntsAre vs ns∧ns.length≤n:=by
 have hsh:WShape.hasAll [] args [.list .int] = true:=(pre_splitW hpre).1
 have hc:l.pre.holds [] { args:=args } = true:=(pre_splitW hpre).2
 obtain ⟨d,r,rfl,h1,h2⟩:=hasAllW_cons hsh
 obtain rfl:=hasAllW_nil h2
 obtain ⟨xs,rfl,h3⟩:=hasW_list h1
 obtain ⟨ns,rfl⟩:=items_int h3
 have hlen:ns.length≤n:=by
  unfold OpenLaw.pre at hc
  have h4:(WTm.not (.lt (.lit (.int (n:Int))) (.len (.arg 0)))).holds [] { args:=[.list (ns.map .int)] } = true:=by
   have h4:=(holds_andW hc).1
   rw [hn] at h4
   exact h4
  have h5:=condW_of h4 (w_not (w_lt w_lit (w_len_list (w_arg rfl))))
  rw [List.length_map] at h5
  refine Nat.le_of_not_lt fun q=>?_
  have q':(n:Int) < ((ns.length:Nat):Int):=by omega
  first
   | (rw [decide_eq_true q'] at h5; exact absurd h5 (by decide))
   | (simp at h5; omega)
 cases hwl with
 | cons w1 w2 =>
  cases w2
  cases w1 with
  | list ho hall=>exact ⟨_,_,ns,rfl,rfl,ho,ints_of_wellAll ns _ hall,hlen⟩
theorem post_true (l:OpenLaw) (args:List WData):l.row.toRowW.claim.post args (.bool true) args = true :=
 postW_of (r:=l.row.toRowW) (X:=(true == true))
  (show WShape.has [] (.bool true) .bool = true by first | rfl | decide | simp [WShape.has,WShape.arms,WShape.armsAll])
  (show (WTm.eq .res (.lit (.bool true))).value [] { args:=args,res:=some (.bool true),after:=args } = some (.bool (true == true)) from w_eq_bool (w_res rfl) w_lit) rfl
theorem attach_call {l:OpenLaw} {n:Nat} {q:Program} {loose:List Str} {XP:(Str→Option Value)→Heap→Prop} {YP:World→Heap→Prop} {d:DefRec}
  (hn:l.most = some n) (hdf:d.params.defaults = [])
  (call:∀ (w:World) (s₀ s₁:Shared) (mg mb:Str→Option Value) (fa:Addr) (o:Obj) (pm cd doc:Value) (a:Addr) (vs:List Value) (ns:List Int),
   Ground q loose [] XP w s₀ mg mb s₁.heap→YP w s₁.heap →
   s₁.heap.get? fa = some o→o.data = .func (docDef d.name d.params d.body d.scope pm cd doc)→s₁.heap.CodeRec cd d.name→mg d.name = some (.ref fa) →
   s₁.heap.get? a = some { cls:=.type "list",data:=.seq vs.toArray }→IntsAre vs ns→ns.length≤n→s₁.gens = #[] →
   codeAny (model l.prog w) callerA (.call (.ref fa) ⟨[.ref a],[]⟩) (fun r s'=>r = .ok (.ret (.bool true))∧OldK s₁.heap s'.heap∧s'.os = s₁.os∧AllBare s'.gens) s₁) :
  WalkO q loose XP YP l.row.toRowW d [] (fun f vs=>PySem.call f vs):=by
 intro w s₀ s₁ mg mb G Y fa o pm cd doc dV kV ho hd hcd hD hmg hg args vals as hpre hlay hrd hwl hlo
 obtain rfl:dV = .none:=Dflts.none hD hdf
 obtain rfl:kV = .none:=Dflts.noKw hD
 obtain ⟨a,vs,ns,rfl,rfl,hobj,hints,hlen⟩:=script_of hn hpre hwl
 refine enter_call (codeAny_mono (call w s₀ s₁ mg mb fa o pm cd doc a vs ns G Y ho (fd_plain hd) hcd hmg hobj hints hlen hg) fun r s' hq=>?_)
 obtain ⟨rfl,h2,h3,h4⟩:=hq
 exact ⟨.inl ⟨.bool true,.bool true,[],rfl,fun _=>rfl,.bool true,post_true l _,fun _=>⟨List.Pairwise.nil,fun _ hm=>(nomatch hm)⟩⟩,h2,h3,h4⟩
section
variable {prog:Program} {w:World} {A:Around} {E:Value→Shared→Prop} {s:Shared} {K:Frag}
end
end Att
namespace L2
open PySem PySem.Spec PyProof.Rows
theorem vals_ints:∀ {vs:List Value} {ns:List Int},IntsAre vs ns→Vals (ns.map V.int) vs
 | _,_,.nil=>.nil
 | _,_,.cons n t h=>.cons ⟨t,rfl⟩ (vals_ints h)
def Only (H:Hp):Prop:=∀ b,H b = none∨∃ o xs,H b = some (.frz o (.lst xs))
theorem law_call {P:Program} {w:World} {K:PySem.W.Frag} {mg mb:Str→Option Value} {CX:CXT} {k:Nat} {fa a:Addr} {fd:FuncData} {x:Str} {sp:Sp} {s₁:Shared} {vs:List Value} {ns:List Int}
  (KX:K.In s₁.heap) (hns:s₁.heap.Ns mainGlobals mg) (hb:s₁.heap.Ns builtinsNs mb) (hbb:∀ x:Str,x ≠ "__name__"→mb x = bootBuiltins x) (hlim:s₁.heap.NoLimit) (hg:s₁.gens = #[])
  (ha:s₁.heap.get? a = some { cls:=.type "list",data:=.seq vs.toArray }) (hi:IntsAre vs ns) (hl:ns.length≤sizeLine) (hr:Room k callerA)
  (F:∀ base:Heap,K.In base→base.Ns mainGlobals mg→FnOk P w K mg base CX k fa fd [x] sp) (hbind:∀ (s:Shared) (u:Value),BindsTo s fd ⟨[u],[]⟩ [(x,u)])
  (hsp:∀ H:Hp,Only H→SqL K H a (ns.map V.int)→sp [.ref a] H (fun v _=>v = .bl true) fun _ _ _=>False)
  (hCX:∀ H e s',CX [] H s₁ (fun _ _ _=>False) e s'→False) :
  codeAny (model P w) callerA (.call (.ref fa) ⟨[.ref a],[]⟩) (fun r s'=>r = .ok (.ret (.bool true))∧OldK s₁.heap s'.heap∧s'.os = s₁.os∧AllBare s'.gens) s₁:=by
 have rv:=vals_ints hi
 have lenV:=hi.length
 have core:∀ H:Hp,Only H→SqL K H a (ns.map V.int)→HOk P w H s₁.heap→(∀ b,H b ≠ none→b = a)→(H a ≠ none→K.lookup a = none) →
   codeAny (model P w) callerA (.call (.ref fa) ⟨[.ref a],[]⟩) (fun r s'=>r = .ok (.ret (.bool true))∧OldK s₁.heap s'.heap∧s'.os = s₁.os∧AllBare s'.gens) s₁:=by
  intro H hO hS hok hA hK
  have base_of:∀ {b:Addr} {o:Obj},s₁.heap.get? b = some o→H b = none→(hidT s₁.heap H).get? b = some o:=fun e n=>hidT_get e n
  have noA:∀ {b:Addr} {o:Obj} {es:Array DictEntry} {ep:Nat},s₁.heap.get? b = some o→o.data = .dict es ep→H b = none:=fun {b o es ep} e d=>by
   cases q:H b with
   | none=>rfl
   | some u =>
    have e':b = a:=hA b (by rw [q]; simp)
    subst e'
    rw [ha] at e; cases e
    have d':Data.seq vs.toArray _ = Data.dict es ep:=d
    cases d'
  have nsK:∀ {b:Addr} {m:Str→Option Value},s₁.heap.Ns b m→(hidT s₁.heap H).Ns b m:=fun {b m} ⟨o,es,ep,e,d,r⟩=>⟨o,es,ep,base_of e (noA e d),d,r⟩
  have hKb:K.In (hidT s₁.heap H):=fun b o e=>base_of (KX b o e) (by
   cases q:H b with
   | none=>rfl
   | some u =>
    have e':b = a:=hA b (by rw [q]; simp)
    subst e'
    rw [hK (by rw [q]; simp)] at e; cases e)
  have hM:Mod K mg (hidT s₁.heap H):=⟨hKb,nsK hns,⟨mb,nsK hb,hbb⟩,let ⟨mc,h1,h2⟩:=hlim; ⟨mc,nsK h1,h2⟩⟩
  have e0:Env0 P w K mg (hidT s₁.heap H) callerA [] s₁ H:=⟨rfl,hM,fun b o e=>of_hidT e,Nat.le_of_eq (hidT_size _ _),trivial,fun b hb=>absurd (show b ∈ ([]:List Addr) from hb) (by simp),hok,.of_eq hg⟩
  refine codeAny_mono ((F _ hKb (nsK hns)).run callerA [] s₁ H ⟨[.ref a],[]⟩ [.ref a] [.ref a] _ _ hr e0 (hbind s₁ (.ref a)) (.cons rfl .nil) (hsp H hO hS)) fun r s' h=>?_
  cases r with
  | error e=>exact (hCX H e s' h).elim
  | ok fl =>
   cases fl with
   | next=>exact False.elim h
   | brk=>exact False.elim h
   | cont=>exact False.elim h
   | ret u =>
    obtain ⟨v,H',os,bare,un,hok',r',q⟩:=h
    have q':v = .bl true:=q
    subst q'
    obtain rfl:u = Value.bool true:=r'
    refine ⟨rfl,OldK.of_keep fun b o e=>?_,os,bare⟩
    cases q:H b with
    | none=>exact un.keep b o e q (by intro z; exact absurd (show b ∈ ([]:List Addr) from z) (by simp)) (by simp)
    | some u =>
     rcases hO b with z | ⟨ob,xs,z⟩
     ·rw [q] at z; cases z
     ·have z2:=un.frzs b ob _ z
      obtain ⟨e1,_⟩:=hok b _ z
      obtain ⟨e2,_⟩:=hok' b _ z2
      rw [e] at e1; cases e1
      exact e2
 cases hk:K.lookup a with
 | some o =>
  have e:=KX a o hk
  rw [ha] at e
  cases e
  refine core (fun _=>none) (fun _=>.inl rfl) (.inr ⟨_,vs.toArray,_,hk,rfl,rfl,rfl,by rw [List.size_toArray,lenV]; exact hl,by simpa using rv⟩) (fun b u z=>by have z':(none:Option HO) = some u:=z; cases z') (fun b z=>absurd rfl z) fun z=>absurd rfl z
 | none =>
  refine core (fun b=>if b = a then some (.frz { cls:=.type "list",data:=.seq vs.toArray } (.lst (ns.map V.int))) else none) (fun b=>?_) (.inl (.inr ⟨{ cls:=.type "list",data:=.seq vs.toArray },if_pos rfl⟩)) (fun b u z=>?_) (fun b z=>?_) fun _=>hk
  ·by_cases hb:b = a
   ·exact .inr ⟨_,_,if_pos hb⟩
   ·exact .inl (if_neg hb)
  ·by_cases hb:b = a
   ·have z':=(if_pos hb).symm.trans z
    cases z'
    subst hb
    exact ⟨ha,by rw [List.length_map]; exact hl,vs,_,rv,ha⟩
   ·have z':=(if_neg hb).symm.trans z
    cases z'
  ·by_cases hb:b = a
   ·exact hb
   ·exact absurd (if_neg hb) z
end L2
namespace L2
open PySem PySem.Spec PyProof.Rows
theorem walk_of {l:PySem.W.OpenLaw} {n k:Nat} {q:Program} {loose:List Str} {XP:(Str→Option Value)→Heap→Prop} {YP:World→Heap→Prop} {d:DefRec} {K:Params→PySem.W.Frag} {CX:World→CXT} {sp:World→Sp} {x:Str}
  (hn:l.most = some n) (hn2:n≤sizeLine) (hdf:d.params.defaults = []) (hr:Room k callerA)
  (hY:∀ (w:World) (h:Heap),YP w h→(K w.params).In h)
  (F:∀ (w:World) (mg:Str→Option Value) (fa:Addr) (h:Heap),(K w.params).In h→h.Ns mainGlobals mg→mg d.name = some (.ref fa) →
   ∃ fd:FuncData,(∀ (s:Shared) (u:Value),BindsTo s fd ⟨[u],[]⟩ [(x,u)]) ∧
    ∀ base:Heap,(K w.params).In base→base.Ns mainGlobals mg→FnOk l.prog w (K w.params) mg base (CX w) k fa fd [x] (sp w))
  (hsp:∀ (w:World) (H:Hp) (a:Addr) (ns:List Int),ns.length≤n→Only H→SqL (K w.params) H a (ns.map V.int)→sp w [.ref a] H (fun v _=>v = .bl true) fun _ _ _=>False)
  (hCX:∀ (w:World) (H:Hp) (s:Shared) (e:Value) (s':Shared),CX w [] H s (fun _ _ _=>False) e s'→False) :
  PySem.W.WalkO q loose XP YP l.row.toRowW d [] (fun f vs=>PySem.call f vs):=by
 refine Att.attach_call hn hdf fun w s₀ s₁ mg mb fa o pm cd doc a vs ns G Y ho hd hcd hmg hobj hints hlen hg=>?_
 have KX:=hY w _ Y
 obtain ⟨fd,hb,hF⟩:=F w mg fa _ KX G.T.g hmg
 exact law_call KX G.T.g G.T.b G.T.builtins G.T.nolimit hg hobj hints (Nat.le_trans hlen hn2) hr hF hb (fun H hO hS=>hsp w H a ns hlen hO hS) fun H e s'=>hCX w H s₁ e s'
end L2
namespace L2
open PySem PySem.Spec PyProof.Rows
def inClass (s:Stmt) (j:Nat):Stmt:=match s with
 | .ClassDef _ _ _ body _ _ _ _ _ _ _=>body.getD j (.Pass ⟨0,0,0,0⟩)
 | _=>.Pass ⟨0,0,0,0⟩
def defArgs (s:Stmt):Arguments:=match s with
 | .FunctionDef _ a _ _ _ _ _ _ _ _=>a
 | _=>{ posonlyargs:=[],args:=[],vararg:=none,kwonlyargs:=[],kw_defaults:=[],kwarg:=none,defaults:=[] }
def defBody (s:Stmt):List Stmt:=match s with
 | .FunctionDef _ _ b _ _ _ _ _ _ _=>b
 | _=>[]
def defScope (s:Stmt):Scope:=match s with
 | .FunctionDef _ _ _ _ _ _ sc _ _ _=>sc
 | _=>{ kind:=.function,names:=[],isGenerator:=false,isCoroutine:=false }
abbrev CX0:CXT:=fun _ _ _ _ _ _=>False
abbrev E0:XK:=fun _ _ _=>False
theorem pass0 {X:Cx}:Passes CX0 X E0:=fun _ _ _ _ _ _ _ h=>h.elim
structure Fun (K:PySem.W.Frag) (x qual:Str) (st:Stmt) (f:Addr) (fd:FuncData):Prop where
 ex:∃ (oc:Value) (od:Option Addr) (kV doc pm:Value) (an:Option Addr) (cdv ct:Value) (osl:Array (Option Value)),
  fd = PySem.W.fnOf x qual (defArgs st) (defBody st) (defScope st) .none kV doc pm an cdv ct∧K.lookup f = some ⟨oc,od,.func fd,osl⟩∧PySem.W.codeIn K cdv qual = true
 kp:PySem.W.keepIn K (.ref f) = true
section
variable {P:Program} {w:World} {K:PySem.W.Frag} {mg:Str→Option Value} {base:Heap}
theorem Fun.ok {x qual:Str} {st:Stmt} {f:Addr} {fd:FuncData} {N ps:List Str} {k:Nat} {sp:Sp} (F:Fun K x qual st f fd) (S:FnScope N ps (defScope st)) (len:∀ vs H Q E,sp vs H Q E→vs.length = ps.length)
  (hbody:∀ (cdv:Value) (A:Around) (outer:List Env) (s:Shared) (H:Hp) (vs:List V) (Q:VK) (E:XK),Room k (A.deeper (envOfC qual (defScope st) s.heap.objs.size f cdv))→sp vs H Q E →
   ∃ t,PSs (cxOf CX0 P w K mg base N qual (defScope st) f cdv A outer s H E).nox (defBody st) t∧t { nx:=fun _ H'=>Q .non H',rt:=Q } (start N vs) H):FnOk P w K mg base CX0 (k + 1) f fd ps sp:=by
 obtain ⟨oc,od,kV,doc,pm,an,cdv,ct,osl,rfl,lk,hcd⟩:=F.ex
 refine fn_of lk hcd S len fun A outer s H vs Q E hr hsp=>?_
 obtain ⟨t,h,q⟩:=hbody cdv A outer s H vs Q E hr hsp
 exact ⟨t,h.nox,q⟩
theorem Fun.binds {x qual:Str} {st:Stmt} {f:Addr} {fd:FuncData} {ps:List Str} (F:Fun K x qual st f fd)
  (h:∀ (kV doc pm:Value) (an:Option Addr) (cdv ct:Value) (us:List Value),us.length = ps.length→bindArgs (PySem.W.fnOf x qual (defArgs st) (defBody st) (defScope st) .none kV doc pm an cdv ct) ⟨us,[]⟩ = pure (ps.zip us)):Binds K fd ps []:=by
 obtain ⟨oc,od,kV,doc,pm,an,cdv,ct,osl,rfl,lk,hcd⟩:=F.ex
 exact .all (h kV doc pm an cdv ct)
theorem fun_mk {x qual:Str} {st:Stmt} {f:Addr} {oc:Value} {od an:Option Addr} {osl:Array (Option Value)} {kV doc pm cdv ct:Value} (l:K.lookup f = some ⟨oc,od,.func (PySem.W.fnOf x qual (defArgs st) (defBody st) (defScope st) .none kV doc pm an cdv ct),osl⟩)
  (c:PySem.W.codeIn K cdv qual = true) (k:PySem.W.keepIn K (.ref f) = true):Fun K x qual st f (PySem.W.fnOf x qual (defArgs st) (defBody st) (defScope st) .none kV doc pm an cdv ct):=⟨⟨oc,od,kV,doc,pm,an,cdv,ct,osl,rfl,l,c⟩,k⟩
end
section
variable {X:Cx}
theorem pv (i:Nat) {x:Str} {pos:Pos} (hN:X.N[i]? = some x:=by rfl) (hv:Vis X.env.scope x:=by first | exact Or.inl rfl | exact Or.inr (Or.inl rfl) | exact Or.inr (Or.inr rfl)) (hd:(x == ("__debug__":Str)) = false:=by decide)
  (hcd:(x == ("__classdict__":Str)) = false:=by decide):PE X (.Name x pos) (tVar i):=pe_var hN hv hd hcd
end
theorem iteF {A B:Prop} (h:B):if false = true then A else B:=by
 rw [if_neg Bool.false_ne_true]
 exact h
theorem iteT {A B:Prop} (h:A):if true = true then A else B:=by
 rw [if_pos rfl]
 exact h
theorem iteNS {c A B:Prop} [Decidable c] (hc:c) (h:B):if (!decide c) = true then A else B:=by
 rw [decide_eq_true hc]
 exact iteF h
def Same (H H':Hp):Prop:=∀ b o,H b = some o→H' b = some o
theorem Same.refl (H:Hp):Same H H:=fun _ _ h=>h
theorem Same.trans {H H1 H2:Hp} (a:Same H H1) (b:Same H1 H2):Same H H2:=fun c o h=>b c o (a c o h)
theorem Same.seq {K:PySem.W.Frag} {H H':Hp} {a:Addr} {xs:List V} (e:Same H H') (h:SqL K H a xs):SqL K H' a xs:=by
 rcases h with (h | ⟨o,h⟩) | h
 ·exact .inl (.inl (e _ _ h))
 ·exact .inl (.inr ⟨o,e _ _ h⟩)
 ·exact .inr h
end L2
set_option maxHeartbeats 4000000
namespace Ow
open PySem PySem.Spec PyProof.Rows L2
structure Has (P:Program) (w:World) (K:PySem.W.Frag) (mg:Str→Option Value) (base:Heap) (k:Nat) (x:Str) (ps:List Str) (sp:Sp):Prop where
 ex:∃ (f:Addr) (fd:FuncData),FnOk P w K mg base CX0 k f fd ps sp∧Binds K fd ps []∧PySem.W.keepIn K (.ref f) = true∧mg x = some (.ref f)
section
variable {X:Cx} {k:Nat} {x:Str} {ps:List Str} {sp:Sp} {p pos:Pos} {e:Expr} {es:List Expr} {t:TA}
theorem pe_fn (h:Has X.prog X.w X.K X.mg X.base k x ps sp) (hr:Room k X.A) (hg:Gl X x) (ha:PA X (e :: es) t) (hdb:(x == ("__debug__":Str)) = false:=by decide)
  (he:starEach (e :: es) X.env = (false,eval e X.env) :: starEach es X.env:=by rfl) (hpl:(backTo pos (starEach es X.env)).any (·.1) = false:=by rfl) :
  PE X (.Call (.Name x p) (e :: es) [] pos) (tCall sp [] E0 t):=by
 obtain ⟨f,fd,F,b,kp,m⟩:=h.ex
 exact pe_call F hr hg m kp b .nil pass0 ha hdb he hpl
theorem pe_fn0 (h:Has X.prog X.w X.K X.mg X.base k x ps sp) (hr:Room k X.A) (hg:Gl X x) (hdb:(x == ("__debug__":Str)) = false:=by decide) :
  PE X (.Call (.Name x p) [] [] pos) (tCall sp [] E0 tNil):=by
 obtain ⟨f,fd,F,b,kp,m⟩:=h.ex
 exact pe_call0 F hr hg m kp b .nil pass0 hdb
theorem pe_ty {T:String} (hg:Gl X x) (hm:X.mg x = none) (hv:bootBuiltins x = some (.type T)) (hn:x ≠ "__name__":=by decide) (hd:(x == ("__debug__":Str)) = false:=by decide):PE X (.Name x pos) (tC (.ty T)):=pe_bltn (v:=.ty T) hg hm hv rfl hn hd
theorem pe_cls {C:Addr} (hg:Gl X x) (hm:X.mg x = some (.ref C)) (hd:(x == ("__debug__":Str)) = false:=by decide):PE X (.Name x pos) (tC (.ref C)):=pe_glob (v:=.ref C) hg hm rfl hd
def clsV:V→Option Value
 | .ty n=>some (.type n)
 | .ref C=>some (.ref C)
 | _=>none
theorem clsV_rel {c:V} {u cv:Value} (r:RelV c u) (h:clsV c = some cv):u = cv:=by
 cases c with
 | ty n=>cases h; exact r
 | ref C=>cases h; exact r
 | _=>cases h
theorem call_isinst:CallR X (.builtin "isinstance") (fun xs H Q=>∃ x c t cv b,xs = [x,c]∧clsV c = some cv∧TyOf X.K H x t∧PySem.W.kitOne X.K t cv = some b∧Q (.bl b) H):=by
 intro pins s σ H xs us Q I r h
 obtain ⟨x,c,t,cv,b,rfl,hc,ty,e,q⟩:=h
 obtain ⟨u,u',rfl,rx,rc⟩:=vals2 r
 cases clsV_rel rc hc
 exact isinst_ok I rx ty e fun tk=>⟨.bl b,H,I.tok _,rfl,q⟩
theorem op_fdivB:OpR X (binaryOp .FloorDiv) (rI (fun _ j=>0 < j∧j.natAbs.log2 < 9000) fun i j=>.int (i / j)):=opI fun i j _ _ _ _ _ hc q=>by
 have h1:(0:Int) < j:=hc.1
 exact floordiv_int (by omega) (by rw [Int.fdiv_eq_ediv_of_nonneg i (by omega)]; exact q) (.inl (PyProof.noPylong_of_log2 hc.2))
theorem op_mulB:OpR X (binaryOp .Mult) (rI (fun i j=>Builtin.Int.intBits i≤100000∧Builtin.Int.intBits j≤100000) fun i j=>.int (i * j)):=opI fun _ _ _ _ _ _ _ hc q =>
 mul_int q (IntMulOk.of_bits (Nat.le_trans hc.1 (by decide)) (Nat.le_trans hc.2 (by decide)))
theorem op_shlB:OpR X (binaryOp .LShift) (rI (fun i j=>0≤j∧j≤100000∧Builtin.Int.intBits i≤100000) fun i j=>.int (i * 2 ^ j.toNat)):=opI fun i j _ _ _ _ _ hc q =>
 lshift_int hc.1 (by have h1:=hc.2.1; have h2:Builtin.Int.intBits i≤100000:=hc.2.2; have h3:(2:Int) ^ 27 = 134217728:=(by decide); rw [h3]; omega) q
end
theorem kit_bl_bl (K:PySem.W.Frag):PySem.W.kitOne K (.type "bool") (.type "bool") = some true:=rfl
theorem iteD {c A B:Prop} [Decidable c] (hc:c) (h:A):if decide c = true then A else B:=by
 rw [if_pos (decide_eq_true hc)]
 exact h
theorem iteDN {c A B:Prop} [Decidable c] (hc:¬ c) (h:B):if decide c = true then A else B:=by
 rw [if_neg (by rw [decide_eq_false hc]; decide)]
 exact h
theorem iteN {c A B:Prop} [Decidable c] (hc:¬ c) (h:A):if (!decide c) = true then A else B:=by
 rw [decide_eq_false hc]
 exact iteT h
theorem p_pos (n:Nat):(0:Int) < 2 ^ n:=Int.pow_pos (by decide)
theorem p_mono {m n:Nat} (h:m≤n):(2:Int) ^ m≤2 ^ n:=by
 have e:n = m + (n - m):=by omega
 rw [e,Int.pow_add]
 have h1:=p_pos m
 have h2:(1:Int)≤2 ^ (n - m):=p_pos (n - m)
 have h3:=Int.mul_le_mul_of_nonneg_left h2 (Int.le_of_lt h1)
 rw [Int.mul_one] at h3
 exact h3
def SameX (p:Addr) (H H':Hp):Prop:=∀ b o,b ≠ p→H b = some o→H' b = some o
theorem SameX.trans {p:Addr} {H H1 H2:Hp} (a:SameX p H H1) (b:SameX p H1 H2):SameX p H H2:=fun c o n h=>b c o n (a c o n h)
theorem SameX.of {p:Addr} {H H':Hp} (a:Same H H'):SameX p H H':=fun c o _ h=>a c o h
theorem SameX.upd {p:Addr} {H:Hp} {o:HO}:SameX p H (upd H p o):=fun c u n h=>by rw [upd_ne n]; exact h
theorem same_new {H:Hp} {p:Addr} (h:H p = none) (o:HO):Same H (L2.upd H p o):=fun b u q=>by rw [upd_ne (ne_of_none q h)]; exact q
def Box (H:Hp) (p:Addr):Prop:=∃ r s c:Int,H p = some (.lst [.int r,.int s,.int c])
theorem Box.same {H H':Hp} {p:Addr} (b:Box H p) (s:Same H H'):Box H' p:=by
 obtain ⟨r,s',c,h⟩:=b
 exact ⟨r,s',c,s _ _ h⟩
theorem getI (ns:List Int) (k:Nat) (h:k < ns.length):atI (ns.map V.int) (k:Int) = some (.int ns[k]):=atI_nat (by rw [List.getElem?_map,List.getElem?_eq_getElem h] <;> rfl)
end Ow
namespace Ow
open PySem PySem.Spec PyProof.Rows L2
structure MHas (P:Program) (w:World) (K:PySem.W.Frag) (mg:Str→Option Value) (base:Heap) (k:Nat) (C:Addr) (m:Str) (ps:List Str) (sp:Sp):Prop where
 cl:Cls K C
 ex:∃ (f:Addr) (fd:FuncData),Meth K C m f∧FnOk P w K mg base CX0 k f fd ps sp∧Binds K fd ps []
def tMethP (X:Cx) (k:Nat) (m:Str) (ta:TE) (t:TA):TE:=fun σ H Q=>ta σ H fun x H1=>∃ (a C dx:Addr) (fs:List (Str × V)) (ps:List Str) (sp:Sp),x = .ref a∧H1 a = some (.ins C dx fs)∧fs.lookup m = none ∧
 MHas X.prog X.w X.K X.mg X.base k C m ps sp∧t σ H1 fun vs H2=>sp (x :: (vs ++ [])) H2 Q E0
section
variable {X:Cx} {k:Nat} {x m:Str} {C:Addr} {p pos apos:Pos} {o e:Expr} {es:List Expr} {ta:TE} {t:TA}
theorem pe_methP0 {pl:Sem Bool} (he:PE X o ta) (hr:Room k X.A)
  (ht:eval (.Call (.Attribute o m apos) [] [] pos) X.env = (do
   let ov ← eval o X.env
   standAt apos.atName
   let (f,first) ← holding [ov] (getMethod ov m pl)
   callWith pos f first (backTo pos (starEach [] X.env)) (backToKw pos (keywordEach [] X.env))):=by rfl) :
  PE X (.Call (.Attribute o m apos) [] [] pos) (tMethP X k m ta tNil):=by
 intro pins s σ H Q I h
 refine PySem.W.methodCall_KW (pl:=pl) (thn (he pins s σ H _ I h) fun u s1 ⟨x,H1,I1,rx,a,C,dx,fs,ps,sp,ex,ea,l,M,q⟩=>?_) ht
 subst ex
 obtain rfl:u = Value.ref a:=rx
 obtain ⟨f,fd,hm,F,hb⟩:=M.ex
 refine getmeth_ok I1 ea M.cl hm l ?_
 exact PySem.W.callWith_K0 (first:=[.ref a]) I1.kIn hm.kp (run_fn (us:=[.ref a]) (vs:=[.ref a]) F hr hb .nil pass0 I1 (.cons rfl .nil) q)
end
end Ow
namespace Ow
open PySem PySem.Spec PyProof.Rows L2
def cxComp (X:Cx) (N:List Str) (scope:Scope) (cl:List (Str × Addr)) (C:Addr) (s2:Shared) (H2:Hp) (fp:List Addr):Cx where
 prog:=X.prog
 w:=X.w
 K:=X.K
 mg:=X.mg
 base:=X.base
 A:=X.A
 N:=N
 s₀:=s2
 H₀:=H2
 env:=compEnvC scope cl C X.env
 outer:=X.stack
 stack:=X.stack
 ex:=fp
 calm:=true
 fn:=fun _=>false
 pn:=[]
 xe:=fun _ _=>False
def tComp (wi:TI) (te:TE) (cap:L2.St→L2.St):TE:=fun σ H Q=>wi σ H fun J H1=>∀ D,H1 D = none→∃ W:Nat→Nat→Hp→Prop,(∃ m,W 0 m (upd H1 D (.lst [])))∧∀ i m H,W i m H →
 (J.stop i H∧Q (.ref D) H)∨(J.go i H∧∀ x H',J.yld i H x H'→te (some x :: cap σ) H' fun y H2=>∃ ys,H2 D = some (.lst ys)∧ys.length < sizeLine∧∃ m',m' < m∧W (i + 1) m' (upd H2 D (.lst (ys ++ [y]))))
section
variable {X:Cx} {elt iter:Expr} {x:Str} {px pos:Pos} {scope:Scope} {wi:TI} {te:TE} {N:List Str} {cl:List (Str × Addr)} {cap:L2.St→L2.St}
theorem pe_comp (hc:X.calm = true) (hclos:closureFor scope X.env = pure cl) (hsub:∀ n c,cl.lookup n = some c→X.env.cells.lookup n = some c)
  (hcell:∀ y ∈ scope.names,y.2 ≠ .cell) (hkind:scope.kind = .function) (hnames:∀ y ∈ scope.names,y.2 = .local→scope.names.lookup y.1 = some .local) (hx:scope.names.lookup x = some .local)
  (hhas:∀ y,(Env.kindOf (compEnvC scope cl 0 X.env) y = some .cell∨Env.kindOf (compEnvC scope cl 0 X.env) y = some .free)→∃ c,cl.lookup y = some c)
  (hN:(x :: N).Nodup) (hcapl:∀ σ,(cap σ).length = N.length)
  (hcap:∀ (σ:L2.St) (i:Nat) (y:Str) (v:V),σ.length = X.N.length→N[i]? = some y→(cap σ)[i]? = some (some v)→(Env.kindOf (compEnvC scope cl 0 X.env) y = some .cell∨Env.kindOf (compEnvC scope cl 0 X.env) y = some .free)∧X.env.kindOf y = some .cell∧∃ j:Nat,X.N[j]? = some y∧σ[j]? = some (some v))
  (hi:PI X (.Name x px) iter wi) (he:∀ C s2 H2 fp,PE (cxComp X (x :: N) scope cl C s2 H2 fp) elt te)
  (hs:∀ z,foldedSetIterable iter X.env z = pure z:=by intro _; rfl) :
  PE X (.ListComp elt [⟨.Name x px,iter,[],0⟩] scope pos) (tComp wi te cap):=by
 intro pins s σ H Q I h
 rw [eval_ListComp]
 refine wpAny_comprehension_free (use:=none) rfl hs hclos hkind hnames (thn (hi pins s σ H _ I h) fun xv s1 h1=>thn h1 fun itv s2 h2=>?_)
 obtain ⟨it,fp,tn,J,H2,e,I2,T,st2,f2,hW⟩:=h2
 subst e
 have hD:H2 s2.heap.objs.size = none:=I2.hok.fresh (Nat.le_refl _)
 obtain ⟨W,⟨m0,w0⟩,turn⟩:=hW s2.heap.objs.size hD
 refine wpAny_newObj_type (wpAny_newFunctionEnv hcell (by intro y hy; simp at hy) (fun h4 hns4 hsb4=>?_) hkind) (by show 0≤sizeLine; decide)
 dsimp only at hns4 hsb4 ⊢
 generalize hH3:s2.heap.push { cls:=.type "list",dict:=none,data:=.seq ([]:List Value).toArray } = H3 at hns4 hsb4 ⊢
 have hCz:H3.objs.size = s2.heap.objs.size + 1:=by rw [← hH3,Heap.size_push]
 have old3:∀ b o,s2.heap.get? b = some o→H3.get? b = some o:=fun b o e=>hH3 ▸ Heap.get?_push_of_some _ e
 have eD3:H3.get? s2.heap.objs.size = some { cls:=.type "list",dict:=none,data:=.seq ([]:List Value).toArray }:=hH3 ▸ Heap.get?_push_size _ rfl
 have old4:∀ b o,H3.get? b = some o→h4.get? b = some o:=fun b o e=>hsb4.extBut b o (Nat.ne_of_lt (Heap.lt_size e)) (Heap.get?_push_of_some _ e)
 have old:∀ b o,s2.heap.get? b = some o→h4.get? b = some o:=fun b o e=>old4 b o (old3 b o e)
 have szC:s2.heap.objs.size < H3.objs.size:=by rw [hCz]; exact Nat.lt_succ_self _
 have fpC:∀ b ∈ fp,b ≠ H3.objs.size:=fun b hb=>by
  obtain ⟨o,ho,_⟩:=T.obj 0 _ st2 b hb
  exact Nat.ne_of_lt (Nat.lt_trans (Heap.lt_size ho) szC)
 have ok':(cxComp X (x :: N) scope cl H3.objs.size s2 H2 fp).Ok:=by
  refine ⟨I2.ok.mod,hkind,I2.ok.glob,I2.ok.blt,(Nat.le_of_lt szC),fun a b c e1 e2=>I2.ok.inj a b c (hsub a c e1) (hsub b c e2),fun y hy=>hhas y hy,fun y c z _=>absurd (show false = true from z) (by decide),
   fun _=>I2.ok.hd hc,I2.ok.frames,.inl rfl,fun b hb=>⟨fpC b hb,fun y c e=>(f2 b hb).2.2.2.2.1 y c (hsub y c e)⟩,I2.bs,Nat.le_trans I2.ok.bsz I2.sz,fun b o e hb=>?_,fun b hb z=>?_,I2.stack,I2.stkFree⟩
  ·rcases (f2 b hb).2.2.2.1 with q | q
   ·exact I2.ok.noex b o e q
   ·exact absurd (Nat.lt_of_lt_of_le (Heap.lt_size e) (Nat.le_trans I2.ok.bsz q)) (Nat.lt_irrefl _)
  ·rcases List.mem_cons.mp (I2.stkSub b z) with q | q
   ·exact (f2 b hb).2.1 q
   ·exact (f2 b hb).2.2.1 q
 have okD:ObjOk X.prog X.w (upd H2 s2.heap.objs.size (.lst [])) h4 s2.heap.objs.size (.lst []):=⟨Nat.zero_le _,[],0,.nil,old4 _ _ eD3⟩
 have I4:Inv (cxComp X (x :: N) scope cl H3.objs.size s2 H2 fp) [] (none :: cap σ) (upd H2 s2.heap.objs.size (.lst [])) { s2 with heap:=h4,toks:=s2.toks + ([]:List (Str × Value)).length }:=by
  refine ⟨ok',rfl,I2.bare,Un.laid old (Nat.le_refl _) hD,⟨_,hns4,fun i y v e1 e2 _=>?_⟩,fun y c e=>?_,?_,fun y c e=>?_,fun p hp=>absurd hp (by show p ∉ ([] ++ []:List (Addr × Obj)); simp),I2.hok.laid old (Nat.le_refl _) okD,?_⟩
  ·cases i with
   | zero=>simp at e2
   | succ i =>
    obtain ⟨k1,k2,j,e3,e4⟩:=hcap σ i y v I2.len (show N[i]? = some y from e1) (show (cap σ)[i]? = some (some v) from e2)
    obtain ⟨m,_,hl⟩:=I2.loc
    obtain ⟨u,ru,lk⟩:=hl j y v e3 e4 (.inr (.inl k2))
    refine ⟨u,ru,.inr ⟨k1,?_⟩⟩
    rcases lk with ⟨z,_⟩ | ⟨_,c,e5,hcl⟩
    ·rw [k2] at z; cases z
    ·obtain ⟨c',e6⟩:=hhas y k1
     have:c' = c:=by
      have:=hsub y c' e6
      rw [e5] at this
      exact (Option.some.inj this).symm
     subst this
     obtain ⟨oc,ho,hd⟩:=hcl
     exact ⟨c',e6,oc,old _ _ ho,hd⟩
  ·obtain ⟨v,oc,ho,hd⟩:=I2.cell y c (hsub y c e)
   exact ⟨v,oc,old _ _ ho,hd⟩
  ·show upd H2 s2.heap.objs.size (.lst []) H3.objs.size = none
   rw [upd_ne (Nat.ne_of_gt szC)]
   exact I2.hok.fresh (Nat.le_of_lt szC)
  ·have h1:=I2.freeC y c (hsub y c e)
   obtain ⟨v,oc,ho,_⟩:=I2.cell y c (hsub y c e)
   rw [upd_ne (Nat.ne_of_lt (Heap.lt_size ho))]
   exact h1
  ·show (none :: cap σ).length = (x :: N).length
   simp [hcapl]
 have stat:∀ {H':Hp},(∀ b ∈ fp,H' b = none)→∀ b ∈ fp,FpOk (cxComp X (x :: N) scope cl H3.objs.size s2 H2 fp) [] H' b:=fun {H'} hn b hb =>
  ⟨hn b hb,(ok'.exf b hb).1,ok'.exfs b hb,.inl hb,(ok'.exf b hb).2,fun p hp=>absurd hp (by show p ∉ ([] ++ []:List (Addr × Obj)); simp)⟩
 have loop:codeAny (model X.prog X.w) X.A (.compLoop (.ListComp elt [⟨.Name x px,iter,[],0⟩] scope pos) 0 (.ref it) (.ref s2.heap.objs.size) (compEnvC scope cl H3.objs.size X.env))
   (compPost (model X.prog X.w) X.A X.xe none (EP X pins σ Q) (.ref s2.heap.objs.size) H3.objs.size) { s2 with heap:=h4,toks:=s2.toks + ([]:List (Str × Value)).length }:=by
  refine codeAny_compLoop_list (fun n s'=>∃ (i:Nat) (z0:Option V) (H':Hp),Inv (cxComp X (x :: N) scope cl H3.objs.size s2 H2 fp) [] (z0 :: cap σ) H' s'∧tn i s'.heap∧(∀ b ∈ fp,H' b = none)∧W i n H') ?_ m0
   ⟨0,none,_,I4,T.keep 0 _ _ st2 (fun b _ o e=>old b o e),fun b hb=>?_,w0⟩
  ·rintro n s5 ⟨i,z0,H5,I5,st5,fr5,w5⟩
   rcases turn i n H5 w5 with ⟨stop,qn⟩ | ⟨go,step⟩
   ·refine wpAny_mono (T.done (cxComp X (x :: N) scope cl H3.objs.size s2 H2 fp) rfl rfl rfl rfl i [] s5 _ H5 _ I5 (stat fr5) st5 stop) (fun r s6 ⟨hr,I6⟩=>?_) fun _ _ z=>z
    subst hr
    obtain ⟨m,hn6,_⟩:=id I6.loc
    refine ⟨m,hn6,fun h' sb=>⟨.ref s2.heap.objs.size,H5,?_,rfl,qn⟩⟩
    have kp:∀ b o,b ≠ H3.objs.size→s6.heap.get? b = some o→h'.get? b = some o:=fun b o hb e=>sb.extBut b o hb e
    have nC:∀ b o,s2.heap.get? b = some o→b ≠ H3.objs.size:=fun b o e=>Nat.ne_of_lt (Nat.lt_trans (Heap.lt_size e) szC)
    have fC:H5 H3.objs.size = none:=I6.free
    refine I2.call' (ch:=fp) (s':={ s6 with heap:=h' }) I6.os ?_ ?_ I6.bare fun b hb=>⟨(f2 b hb).2.2.2.1,(f2 b hb).2.1,(f2 b hb).2.2.2.2.1,(f2 b hb).2.2.2.2.2⟩
    ·have U:Un (frs X.stack) fp H2 H5 s2.heap s6.heap:=I6.base
     exact ⟨fun b o e n1 n2 n3=>kp b o (nC b o e) (U.keep b o e n1 n2 n3),fun b o e n1 n2 n3=>by
       obtain ⟨sl,q⟩:=U.slot b o e n1 n2 n3
       exact ⟨sl,kp b _ (nC b o e) q⟩,U.free,fun b o e n3=>by
       obtain ⟨o',q⟩:=U.there b o e n3
       exact ⟨o',kp b _ (nC b o e) q⟩,U.tups,U.frzs,U.tbls⟩
    ·intro b u e
     refine (I6.hok b u e).stay (fun c v hc q=>kp c v (fun z=>?_) q) (fun _ q=>q) fun _ _ q=>q
     rcases hc with y | y
     ·rw [← y,z,fC] at e
      cases e
     ·rw [z,fC] at y
      cases y
   ·refine wpAny_mono (T.item (cxComp X (x :: N) scope cl H3.objs.size s2 H2 fp) rfl rfl rfl rfl i [] s5 _ H5 _ I5 (stat fr5) st5 go) (fun r s6 ⟨u,hr,h6⟩=>?_) fun _ _ z=>z
    subst hr
    have key:(letOwnedTupleGo (.Name x px) (.ref it) u >>= fun _=>assign (.Name x px) (compEnvC scope cl H3.objs.size X.env) u) = assign (.Name x px) (compEnvC scope cl H3.objs.size X.env) u:=by first | rfl | exact pure_bind _ _
    dsimp only
    rw [← key]
    refine wpAny_bind (wpAny_mono h6 (fun _ s7 ⟨v,H7,I7,r7,y7,st7,fr7⟩=>?_) fun _ _ z=>z)
    have I7':=I7.pinned (stat fr7) (T.obj _ _ st7)
    refine wpAny_assign_Name (store_ok (i:=0) I7' hN rfl (.inl (lookup_relabel_local hx)) r7 (fun s8 I8=>?_) (.inr (lookup_relabel_local hx)))
    refine wpAny_mono (he H3.objs.size s2 H2 fp _ s8 (some v :: cap σ) H7 _ I8 (step v H7 y7)) (fun w9 s9 ⟨y,H9,I9,r9,ys,hys,hlt,m',hm,w9'⟩=>?_) fun _ _ z=>z.elim
    refine wpAny_mono (mt_append (X:=cxComp X (x :: N) scope cl H3.objs.size s2 H2 fp) _ s9 _ H9 (.ref s2.heap.objs.size) [y] _ [w9] (fun _ Hn=>Hn = upd H9 s2.heap.objs.size (.lst (ys ++ [y]))) I9 rfl (.cons r9 .nil) ⟨_,ys,y,rfl,rfl,hys,hlt,rfl⟩) (fun _ s10 ⟨_,H10,I10,_,e10⟩=>?_) fun _ _ z=>z.elim
    subst e10
    refine ⟨m',hm,i + 1,some v,_,I10.unpinned,T.keep _ _ _ st7 fun b hb o e=>(I10.pin (b,o) (List.mem_append_right _ (List.mem_append_right _ (mem_pinsAt hb e)))).1,fun b hb=>?_,w9'⟩
    obtain ⟨o,e,d⟩:=T.obj _ _ st7 b hb
    exact (I10.pin (b,o) (List.mem_append_right _ (List.mem_append_right _ (mem_pinsAt hb e)))).2.1
  ·obtain ⟨o,ho,_⟩:=T.obj 0 _ st2 b hb
   rw [upd_ne (Nat.ne_of_lt (Heap.lt_size ho))]
   exact (f2 b hb).1
 exact codeAny_compStart_list loop (T.self X.A 0 _ _ _ (T.keep 0 _ _ st2 (fun b _ o e=>old b o e)) loop)
theorem pe_comp0 (hc:X.calm = true) (hclos:closureFor scope X.env = pure []) (hno:∀ p ∈ scope.names,p.2 ≠ .cell∧p.2 ≠ .free) (hkind:scope.kind = .function)
  (hnames:∀ y ∈ scope.names,y.2 = .local→scope.names.lookup y.1 = some .local) (hx:scope.names.lookup x = some .local)
  (hi:PI X (.Name x px) iter wi) (he:∀ C s2 H2 fp,PE (cxComp X [x] scope [] C s2 H2 fp) elt te)
  (hs:∀ z,foldedSetIterable iter X.env z = pure z:=by intro _; rfl) :
  PE X (.ListComp elt [⟨.Name x px,iter,[],0⟩] scope pos) (tComp wi te fun _=>[]):=by
 refine pe_comp (N:=[]) (cl:=[]) hc hclos (fun _ _ e=>nomatch e) (fun y hy=>(hno y hy).1) hkind hnames hx (fun y hy=>?_) (by simp) (fun _=>rfl) (fun _ i y v _ e _=>by simp at e) hi he hs
 exfalso
 have sub:∀ (l:List (Str × NameKind)),(∀ p ∈ l,p.2 ≠ .cell∧p.2 ≠ .free)→∀ p ∈ (l.map fun (n,k)=>if (k == NameKind.free && X.env.scope.kind == ScopeKind.function && X.env.kindOf n == some NameKind.cell) then (n,NameKind.cell) else (n,k)),p.2 ≠ .cell∧p.2 ≠ .free:=by
  intro l hl p hp
  obtain ⟨q,hq,e⟩:=List.mem_map.mp hp
  have h1:=hl q hq
  obtain ⟨n,k⟩:=q
  have hf:(k == NameKind.free) = false:=by
   cases k <;> first | rfl | exact absurd rfl h1.2
  rw [← e]
  dsimp only
  rw [hf,Bool.false_and,Bool.false_and,if_neg (by decide)]
  exact h1
 have mem:∀ k,Env.kindOf (compEnvC scope [] 0 X.env) y = some k→k ≠ .cell∧k ≠ .free:=fun k e=>sub scope.names hno (y,k) (PySem.mem_of_lookup e)
 rcases hy with z | z
 ·exact (mem _ z).1 rfl
 ·exact (mem _ z).2 rfl
theorem comp_list {K:PySem.W.Frag} {a D:Addr} {xs:List V} {te':TE} {tl:L2.St} {G:Hp→Prop} {H1:Hp} (Pv:Nat→Hp→Prop) (h0:Pv 0 (upd H1 D (.lst []))) (hl:∀ i H,i≤xs.length→Pv i H→SqL K H a xs)
  (hs:∀ i x H,xs[i]? = some x→Pv i H→te' (some x :: tl) H fun y H2=>∃ ys,H2 D = some (.lst ys)∧ys.length < sizeLine∧∃ m',m' < xs.length - i∧(m' = xs.length - (i + 1)∧i + 1≤xs.length∧Pv (i + 1) (upd H2 D (.lst (ys ++ [y])))))
  (hd:∀ H,Pv xs.length H→G H) :
  ∃ W:Nat→Nat→Hp→Prop,(∃ m,W 0 m (upd H1 D (.lst [])))∧∀ i m H,W i m H →
   ((Itl K a).stop i H∧G H)∨((Itl K a).go i H∧∀ x H',(Itl K a).yld i H x H'→te' (some x :: tl) H' fun y H2=>∃ ys,H2 D = some (.lst ys)∧ys.length < sizeLine∧∃ m',m' < m∧W (i + 1) m' (upd H2 D (.lst (ys ++ [y])))):=by
 refine ⟨fun i m H=>m = xs.length - i∧i≤xs.length∧Pv i H,⟨xs.length,by simp,Nat.zero_le _,h0⟩,?_⟩
 rintro i m H ⟨rfl,hi,p⟩
 have q:=hl i H hi p
 by_cases hlt:i < xs.length
 ·refine .inr ⟨⟨xs,xs[i],q,by simp [hlt]⟩,fun x H' y=>?_⟩
  obtain ⟨e,y⟩:=y
  subst e
  exact hs i x _ (y xs q) p
 ·have e:i = xs.length:=by omega
  subst e
  exact .inl ⟨⟨xs,q,Nat.le_refl _⟩,hd H p⟩
end
def tJoin (t u:TS):TS:=fun D σ H=>∃ J:L2.St→Hp→Prop,t { D with nx:=J } σ H∧∀ σ' H',J σ' H'→u D σ' H'
theorem pss_join {X:Cx} {st:Stmt} {rest:List Stmt} {t u:TS} (h1:PS X st t) (h2:PSs X rest u):PSs X (st :: rest) (tJoin t u):=by
 intro pins s σ H D I h
 obtain ⟨J,h,hJ⟩:=h
 refine wpAny_execs_cons (thn (h1 pins s σ H { D with nx:=J } I h) fun f s1 q=>?_)
 cases f with
 | next =>
  obtain ⟨σ',H',I',q⟩:=q
  exact h2 pins s1 σ' H' D I' (hJ _ _ q)
 | ret v=>exact q
 | brk=>exact q
 | cont=>exact q
end Ow
namespace Ow
open PySem PySem.Spec PyProof.Rows L2
section
variable {X:Cx}
theorem vals_at {xs:List V} {us:List Value} (r:Vals xs us) {j:Nat} (h1:j < us.length):RelV (xs.getD j .non) us[j]:=by
 have hl:=r.length
 have hj:j < xs.length:=by omega
 obtain ⟨u,hu,ru⟩:=r.get (i:=j) (x:=xs[j]) (List.getElem?_eq_getElem hj)
 rw [List.getElem?_eq_getElem h1] at hu
 rw [List.getD_eq_getElem?_getD,List.getElem?_eq_getElem hj]
 cases hu
 exact ru
end
end Ow
namespace Ow
open PySem PySem.Spec PyProof.Rows L2
section
variable {X:Cx}
def rAddL (K:PySem.W.Frag):R2:=fun x y H Q=>∃ a b xs ys,x = .ref a∧y = .ref b∧SqL K H a xs∧SqL K H b ys∧xs.length + ys.length≤sizeLine∧∀ p,H p = none→Q (.ref p) (upd H p (.lst (xs ++ ys)))
theorem op_addL:OpR X (binaryOp .Add) (rAddL X.K):=by
 intro pins s σ H x y v u Q I rx ry h
 obtain ⟨a,b,xs,ys,rfl,rfl,ha,hb,hz,q⟩:=h
 cases rx
 cases ry
 obtain ⟨its,r,pl,_⟩:=I.list ha
 obtain ⟨its2,r2,pl2,_⟩:=I.list hb
 have hl:=r.length
 have hl2:=r2.length
 obtain ⟨⟨cls,dd,data,sl⟩,ho,hc,n,hd⟩:=id pl.isList
 obtain ⟨⟨cls2,dd2,data2,sl2⟩,ho2,hc2,n2,hd2⟩:=id pl2.isList
 simp only at hc hd hc2 hd2
 subst hc hd hc2 hd2
 have e:its.toArray ++ its2.toArray = (its ++ its2).toArray:=by simp
 refine concat_meets ⟨_,ho,rfl⟩ ⟨_,ho2,rfl⟩ noFill_list_add seq_list_add PySem.F.slot_list_add PySem.F.entry_list_add (PySem.F.args_list_add_2 _ _) (list_addW a b its.toArray its2.toArray n n2 dd dd2 sl sl2 (by simp; omega)) ⟨ho,ho2,?_⟩
 rw [e]
 exact ⟨.ref s.heap.objs.size,_,I.lnew (t':=s.toks) (r.append r2) (by rw [List.length_append]; exact hz),rfl,q _ I.fresh⟩
variable {tg:Expr}
inductive EqD (K:PySem.W.Frag) (H:Hp):Nat→V→V→Bool→Prop where
 | flat {d:Nat} {x y:V} (fx:flatV x = true) (fy:flatV y = true):EqD K H d x y (eqV x y)
 | tup {d:Nat} {p q:Addr} {xs ys:List V} {e:Nat→Bool} (hn:p ≠ q) (hx:SqT K H p xs) (hy:SqT K H q ys) (he:∀ j,j < xs.length→j < ys.length→EqD K H d (xs.getD j .non) (ys.getD j .non) (e j)) :
   EqD K H (d + 1) (.ref p) (.ref q) ((List.range (min xs.length ys.length)).all e && xs.length == ys.length)
 | lst {d:Nat} {p q:Addr} {xs ys:List V} {e:Nat→Bool} (hn:p ≠ q) (hx:SqL K H p xs) (hy:SqL K H q ys) (hl:xs.length = ys.length) (he:∀ j,j < xs.length→EqD K H d (xs.getD j .non) (ys.getD j .non) (e j)) :
   EqD K H (d + 1) (.ref p) (.ref q) ((List.range xs.length).all e)
 | same {d:Nat} {p:Addr}:EqD K H d (.ref p) (.ref p) true
theorem EqD.at {pins:List (Addr × Obj)} {σ:L2.St} {H:Hp} {s:Shared} (I:Inv X pins σ H s):∀ {d:Nat} {x y:V} {b:Bool} {u v:Value} {A:Around},EqD X.K H d x y b→RelV x u→RelV y v→A.units + d < cLine→SeqAt.EqAt A s u v b:=by
 intro d x y b u v A h
 induction h generalizing u v A with
 | flat fx fy=>intro rx ry _; exact eqAt_V rx ry fx fy
 | same=>intro rx ry _; cases rx; cases ry; exact SeqAt.EqAt.same _
 | @tup d p q xs ys e hn hx hy he ih =>
  intro rx ry hu
  cases rx
  cases ry
  obtain ⟨its,r,pl,_⟩:=I.tuple hx
  obtain ⟨its2,r2,pl2,_⟩:=I.tuple hy
  have hl:=r.length
  have hl2:=r2.length
  have:=SeqAt.EqAt.of_refs hn (SeqAt.RcAt.tuples (A:=A) (e:=e) pl pl2 (by omega) (fun j h1 h2=>by
   have h1':j < its.length:=by simpa using h1
   have h2':j < its2.length:=by simpa using h2
   have z:=ih j (by omega) (by omega) (vals_at r h1') (vals_at r2 h2') (A:=A.in1) (by show A.units + 1 + d < _; omega)
   simpa using z))
  simp only [List.size_toArray,← hl,← hl2] at this
  exact this
 | @lst d p q xs ys e hn hx hy hle he ih =>
  intro rx ry hu
  cases rx
  cases ry
  obtain ⟨its,r,pl,_⟩:=I.list hx
  obtain ⟨its2,r2,pl2,_⟩:=I.list hy
  have hl:=r.length
  have hl2:=r2.length
  have:=SeqAt.EqAt.of_refs hn (SeqAt.RcAt.lists (A:=A) (e:=e) pl.isList pl2.isList (by simp only [List.size_toArray]; omega) (by omega) (fun j h1 h2=>by
   have h1':j < its.length:=by simpa using h1
   have h2':j < its2.length:=by simpa using h2
   have z:=ih j (by omega) (vals_at r h1') (vals_at r2 h2') (A:=A.in1) (by show A.units + 1 + d < _; omega)
   simpa using z))
  simp only [List.size_toArray,← hl] at this
  exact this
def rEqLD (K:PySem.W.Frag) (d:Nat) (neg:Bool):R2:=fun x y H Q=>∃ p q xs ys e,x = .ref p∧y = .ref q∧SqL K H p xs∧SqL K H q ys∧xs.length = ys.length∧(∀ j,j < xs.length→EqD K H d (xs.getD j .non) (ys.getD j .non) (e j))∧Q (.bl (if neg = true then !(List.range xs.length).all e else (List.range xs.length).all e)) H
theorem op_eqLD {d:Nat} (hu:X.A.units + d + 1 < cLine):OpR X (compareOp .Eq) (rEqLD X.K d false):=by
 intro pins s σ H x y v u Q I rx ry h
 obtain ⟨p,q,xs,ys,e,rfl,rfl,hp,hq,hle,he,k⟩:=h
 cases rx
 cases ry
 obtain ⟨its,r,pl,_⟩:=I.list hp
 obtain ⟨its2,r2,pl2,_⟩:=I.list hq
 have hl:=r.length
 have hl2:=r2.length
 refine SeqAt.eq_listAt (e:=e) pl.isList pl2.isList (by simp only [List.size_toArray]; omega) (by omega) (fun j h1 h2=>?_) ⟨.bl _,H,I,rfl,?_⟩
 ·have h1':j < its.length:=by simpa using h1
  have h2':j < its2.length:=by simpa using h2
  have z:=(he j (by omega)).at I (vals_at r h1') (vals_at r2 h2') (A:=X.A.in1) (by show X.A.units + 1 + d < _; omega)
  simpa using z
 ·simp only [List.size_toArray,← hl]
  exact k
theorem op_neLD {d:Nat} (hu:X.A.units + d + 1 < cLine):OpR X (compareOp .NotEq) (rEqLD X.K d true):=by
 intro pins s σ H x y v u Q I rx ry h
 obtain ⟨p,q,xs,ys,e,rfl,rfl,hp,hq,hle,he,k⟩:=h
 cases rx
 cases ry
 obtain ⟨its,r,pl,_⟩:=I.list hp
 obtain ⟨its2,r2,pl2,_⟩:=I.list hq
 have hl:=r.length
 have hl2:=r2.length
 refine SeqAt.RcNeAt.lists (e:=e) pl.isList pl2.isList (by simp only [List.size_toArray]; omega) (by omega) (fun j h1 h2=>?_) X.prog X.w X.xe _ ⟨.bl _,H,I,rfl,?_⟩
 ·have h1':j < its.length:=by simpa using h1
  have h2':j < its2.length:=by simpa using h2
  have z:=(he j (by omega)).at I (vals_at r h1') (vals_at r2 h2') (A:=X.A.in1) (by show X.A.units + 1 + d < _; omega)
  simpa using z
 ·simp only [List.size_toArray,← hl]
  exact k
end
end Ow
namespace Ow
open PySem PySem.Spec PyProof.Rows L2
section
variable {X:Cx} {tg:Expr}
theorem call_all_bl (hc:X.calm = true):CallR X (.builtin "all") (fun xs H Q=>∃ (a:Addr) (bs:List Bool),xs = [.ref a]∧SqL X.K H a (bs.map V.bl)∧Q (.bl (bs.all id)) H):=by
 intro pins s σ H xs us Q I r h
 obtain ⟨a,bs,rfl,hq,q⟩:=h
 obtain ⟨u,rfl,rx⟩:=vals1 r
 cases rx
 obtain ⟨its,rv,pl,hz⟩:=I.list hq
 have hl:=rv.length
 rw [List.length_map] at hl
 refine call_all_walk (wpAny_pyIter_list pl.isList ?_)
 have hne:a ≠ s.heap.objs.size:=by
  obtain ⟨o,ho,_⟩:=pl.isList
  exact Nat.ne_of_lt (Heap.lt_size ho)
 refine ⟨s.heap.objs.size,_,_,_,_,_,fun j=>bs.getD j false,rfl,Walks.list (A:=X.A.in1) (I.ok.hd hc) s.heap.objs.size a hne its.toArray,⟨⟨_,Heap.get?_push_size _ rfl,rfl,rfl⟩,Heap.IsList.push pl.isList _⟩,?_,?_⟩
 ·intro i v s' Q' E' hP hQ'
  have hP':its[i]? = some v:=by simpa using hP
  have hi:i < its.length:=(List.getElem?_eq_some_iff.mp hP').1
  have hb:(bs.map V.bl)[i]? = some (V.bl (bs.getD i false)):=by
   rw [List.getElem?_map,List.getD_eq_getElem?_getD,List.getElem?_eq_getElem (by omega)]
   rfl
  obtain ⟨u',hu',ru'⟩:=rv.get hb
  rw [hP'] at hu'
  cases hu'
  cases ru'
  exact wpAny_truthy_bool hQ'
 ·intro h' tk hk
  refine ⟨.bl _,H,I.kept (t':=tk) fun b o e=>hk b o (fun z=>?_) (Heap.get?_push_of_some _ e),?_,q⟩
  ·have z':b = s.heap.objs.size:=by simpa using z
   exact absurd (Heap.lt_size e) (by rw [z']; exact Nat.lt_irrefl _)
  ·have e1:(List.range its.toArray.size).all (fun j=>bs.getD j false) = bs.all id:=by
    rw [List.size_toArray,← hl]
    rw [Bool.eq_iff_iff,List.all_eq_true,List.all_eq_true]
    constructor
    ·intro h x hx
     obtain ⟨j,hj,e⟩:=List.getElem_of_mem hx
     have:=h j (List.mem_range.mpr hj)
     rw [List.getD_eq_getElem?_getD,List.getElem?_eq_getElem hj] at this
     show x = true
     rw [← e]
     exact this
    ·intro h j hj
     have hj':=List.mem_range.mp hj
     rw [List.getD_eq_getElem?_getD,List.getElem?_eq_getElem hj']
     exact h _ (List.getElem_mem hj')
   rw [e1]
   rfl
variable {elt iter:Expr} {x:Str} {px pos:Pos} {scope:Scope} {wi:TI} {te:TE} {cl:List (Str × Addr)}
theorem pe_compC (js:List Nat) (ns:List Str) (hc:X.calm = true) (hclos:closureFor scope X.env = pure cl) (hcls:cl.map (·.1) = ns) (hsub:∀ p ∈ cl,X.env.cells.lookup p.1 = some p.2)
  (hno:∀ p ∈ scope.names,p.2 ≠ .cell∧(p.2 = .free→p.1 ∈ ns)) (hkind:scope.kind = .function) (hnames:∀ y ∈ scope.names,y.2 = .local→scope.names.lookup y.1 = some .local) (hx:scope.names.lookup x = some .local)
  (hN:(x :: ns).Nodup) (hkd:∀ y ∈ ns,(Env.kindOf (compEnvC scope cl 0 X.env) y = some .cell∨Env.kindOf (compEnvC scope cl 0 X.env) y = some .free)∧X.env.kindOf y = some .cell)
  (hjl:js.length = ns.length) (hj:js.map (fun j=>X.N[j]?) = ns.map some)
  (hi:PI X (.Name x px) iter wi) (he:∀ C s2 H2 fp,PE (cxComp X (x :: ns) scope cl C s2 H2 fp) elt te)
  (hs:∀ z,foldedSetIterable iter X.env z = pure z:=by intro _; rfl) :
  PE X (.ListComp elt [⟨.Name x px,iter,[],0⟩] scope pos) (tComp wi te fun σ=>js.map fun j=>(σ[j]?).getD none):=by
 refine pe_comp (N:=ns) (cl:=cl) hc hclos (fun n c e=>hsub (n,c) (PySem.mem_of_lookup e)) (fun y hy=>(hno y hy).1) hkind hnames hx (fun y hy=>?_) hN (fun σ=>by rw [List.length_map]; exact hjl) (fun σ i y v _ e1 e2=>?_) hi he hs
 ·have sub:∀ (l:List (Str × NameKind)),(∀ p ∈ l,p.2 ≠ .cell∧(p.2 = .free→p.1 ∈ ns))→∀ p ∈ (l.map fun (n,k)=>if (k == NameKind.free && X.env.scope.kind == ScopeKind.function && X.env.kindOf n == some NameKind.cell) then (n,NameKind.cell) else (n,k)),(p.2 = .cell∨p.2 = .free)→p.1 ∈ ns:=by
   intro l hl p hp hk
   obtain ⟨q,hq,e⟩:=List.mem_map.mp hp
   have h1:=hl q hq
   obtain ⟨n,k⟩:=q
   dsimp only at e
   by_cases hf:k = .free
   ·have h2:=h1.2 hf
    split at e
    ·rw [← e]; exact h2
    ·rw [← e]; exact h2
   ·have hf':(k == NameKind.free) = false:=by
     cases k <;> first | rfl | exact absurd rfl hf
    rw [hf',Bool.false_and,Bool.false_and,if_neg (by decide)] at e
    rw [← e] at hk
    rcases hk with z | z
    ·exact absurd z h1.1
    ·exact absurd z hf
  have hy':y ∈ ns:=by
   rcases hy with z | z
   ·exact sub scope.names hno (y,.cell) (PySem.mem_of_lookup z) (.inl rfl)
   ·exact sub scope.names hno (y,.free) (PySem.mem_of_lookup z) (.inr rfl)
  rw [← hcls] at hy'
  have key:∀ l:List (Str × Addr),y ∈ l.map (·.1)→∃ c,l.lookup y = some c:=by
   intro l
   induction l with
   | nil=>intro h; simp at h
   | cons p r ih =>
    intro h
    by_cases e:y = p.1
    ·exact ⟨p.2,by obtain ⟨p1,p2⟩:=p; dsimp only at e; subst e; simp [List.lookup]⟩
    ·have h':y ∈ r.map (·.1):=by
      rw [List.map_cons] at h
      exact (List.mem_cons.mp h).resolve_left e
     obtain ⟨c,hc'⟩:=ih h'
     refine ⟨c,?_⟩
     obtain ⟨p1,p2⟩:=p
     have:(y == p1) = false:=by simpa using e
     rw [List.lookup_cons,this]
     exact hc'
  exact key cl hy'
 ·have hm:y ∈ ns:=List.mem_of_getElem? e1
  refine ⟨(hkd y hm).1,(hkd y hm).2,?_⟩
  rw [List.getElem?_map] at e2
  cases hji:js[i]? with
  | none=>rw [hji] at e2; cases e2
  | some j =>
   rw [hji] at e2
   have e3:(σ[j]?).getD none = some v:=by
    have:=Option.some.inj e2
    exact this
   have e4:=congrArg (fun l=>l[i]?) hj
   rw [List.getElem?_map,List.getElem?_map,hji,e1] at e4
   have e5:X.N[j]? = some y:=by
    have:=Option.some.inj e4
    exact this
   refine ⟨j,e5,?_⟩
   cases hσ:σ[j]? with
   | none=>rw [hσ] at e3; cases e3
   | some o =>
    rw [hσ] at e3
    have e6:o = some v:=e3
    rw [e6]
structure CHas (P:Program) (w:World) (K:PySem.W.Frag) (mg:Str→Option Value) (base:Heap) (k:Nat) (C:Addr) (x:Str) (ps:List Str) (sp:Sp):Prop where
 ex:∃ (f:Addr) (fd:FuncData),Mk K C f∧FnOk P w K mg base CX0 k f fd ps sp∧Binds K fd ps []∧mg x = some (.ref C)
theorem pe_mkP {k:Nat} {C:Addr} {y:Str} {ps:List Str} {sp:Sp} {p:Pos} {e:Expr} {es:List Expr} {t:TA} (h:CHas X.prog X.w X.K X.mg X.base k C y ps sp) (hr:Room (k + 1) X.A) (hg:Gl X y) (ha:PA X (e :: es) t) (hdb:(y == ("__debug__":Str)) = false:=by decide)
  (he:starEach (e :: es) X.env = (false,eval e X.env) :: starEach es X.env:=by rfl) (hpl:(backTo pos (starEach es X.env)).any (·.1) = false:=by rfl) :
  PE X (.Call (.Name y p) (e :: es) [] pos) (tMake C sp [] E0 t):=by
 obtain ⟨f,fd,M,F,b,m⟩:=h.ex
 exact pe_make M F hr hg m b .nil pass0 ha hdb he hpl
end
end Ow
namespace Ow
open PySem PySem.Spec PyProof.Rows L2
section
variable {X:Cx}
theorem ix_listK {K:PySem.W.Frag} (h:X.K = K):IxR X (rIxL K):=by
 subst h
 exact ix_list
variable {elt iter:Expr} {x:Str} {px pos:Pos} {scope:Scope} {wi:TI} {te:TE} {cl:List (Str × Addr)}
end
end Ow
namespace Ow
open PySem PySem.Spec PyProof.Rows L2
section
variable {P:Program} {w:World} {base h h1 h2 B:Heap} {fs:List Addr} {H H':Hp} {l:List Env}
end
section
variable {P:Program} {w:World} {K:PySem.W.Frag} {mg:Str→Option Value} {base:Heap} {N:List Str} {qual:Str} {scope:Scope} {f:Addr} {cdv:Value} {A:Around} {outer:List Env} {s₀:Shared} {H₀:Hp} {E:XK}
end
section
variable {X:Cx} {pins:List (Addr × Obj)} {σ:L2.St} {H:Hp} {s:Shared} {a:Addr} {oe:Obj}
end
section
variable {X:Cx} {k i j:Nat} {f y n c:Str} {ps:List Str} {sp:Sp} {e:Expr} {es:List Expr} {ta:TA} {C₁:Addr} {b₀:Stmt} {suite:List Stmt} {tb:Addr→Obj→TS} {py p pos apos np hpos tpos:Pos}
end
section
variable {prog:Program} {w:World} {A:Around} {E:Value→Shared→Prop} {h:Heap} {g:Array GenState} {d:Drawn} {t:Nat} {os:OsState} {K:PySem.W.Frag} {a C:Addr} {o:Obj}
end
theorem kitc_of {K:PySem.W.Frag} {C D:Addr} {b:Bool} (h1:PySem.W.isClsIn K D = true) (h2:PySem.W.typeIn K (.ref D) = some (.type "type")) (h3:PySem.W.mroIn K C (.ref D) = some b):PySem.W.kitCls K (.ref C) (.ref D) = some b:=by
 unfold PySem.W.kitCls
 have e:((PySem.W.clsIn K D).isSome && PySem.W.typeIn K (.ref D) == some (.type "type")) = true:=by
  rw [h2]
  have h1':(PySem.W.clsIn K D).isSome = true:=h1
  rw [h1',Bool.true_and]
  exact beq_self_eq_true _
 show (if ((PySem.W.clsIn K D).isSome && PySem.W.typeIn K (.ref D) == some (.type "type")) = true then PySem.W.subIn K (.ref C) (.ref D) else none) = _
 rw [if_pos e]
 exact h3
theorem kit_apart {K:PySem.W.Frag} {C D:Addr} (h1:PySem.W.isClsIn K D = true) (h2:PySem.W.typeIn K (.ref D) = some (.type "type")) (h3:PySem.W.mroIn K C (.ref D) = some false) (h4:PySem.W.mroIn K D (.ref D) = some true):PySem.W.kitOne K (.ref C) (.ref D) = some false:=by
 unfold PySem.W.kitOne
 split
 ·next q =>
  have e:C = D:=Value.ref.inj (beq_iff_eq.mp q)
  subst e
  rw [h3] at h4
  cases h4
 ·exact kitc_of h1 h2 h3
end Ow
namespace Ow
open PySem PySem.Spec PyProof.Rows L2
end Ow
namespace Ow
open PySem PySem.Spec PyProof.Rows L2
section
variable {prog:Program} {w:World} {A:Around} {E:Value→Shared→Prop} {s:Shared} {a:Addr} {o:Obj} {ks:List Int} {k:Int} {tk:Tok}
end
end Ow
namespace Ow
open PySem PySem.Spec PyProof.Rows L2
section
variable {prog:Program} {w:World} {A:Around} {R:Result→Shared→Prop} {I:Addr} {fp wr:List Addr} {G:Array GenState→Array GenState→Prop} {n:Nat} {P:Nat→Value→Prop} {St:Nat→Shared→Prop}
end
section
variable {prog:Program} {w:World} {A:Around} {E:Value→Shared→Prop} {s:Shared}
end
end Ow
namespace Ow
open PySem PySem.Spec PyProof.Rows L2
section
variable {prog:Program} {w:World} {A:Around} {E:Value→Shared→Prop} {s:Shared} {S I:Addr} {es:Array (Int × Value)} {ep:Nat} {t:SetTable}
end
end Ow
namespace Ow
open PySem PySem.Spec PyProof.Rows L2
section
variable {prog:Program} {w:World} {A:Around} {E:Value→Shared→Prop} {s:Shared} {S I:Addr} {es:Array (Int × Value)} {ep:Nat} {t:SetTable}
end
end Ow
namespace Ow
open PySem PySem.Spec PyProof.Rows L2
section
variable {prog:Program} {w:World} {A:Around} {E:Value→Shared→Prop} {s:Shared} {S:Addr} {es:Array (Int × Value)} {ep:Nat} {t:SetTable}
end
end Ow
namespace Ow
open PySem PySem.Spec PyProof.Rows L2
section
variable {prog:Program} {w:World} {A:Around} {E:Value→Shared→Prop} {s:Shared} {S:Addr} {es:Array (Int × Value)} {ep:Nat} {t:SetTable}
end
end Ow
namespace Ow
open PySem PySem.Spec PyProof.Rows L2
section
variable {prog:Program} {w:World} {A:Around} {E:Value→Shared→Prop} {s:Shared} {S:Addr} {o:Obj} {ks:List Int}
end
end Ow
namespace Ow
open PySem PySem.Spec PyProof.Rows L2
theorem dk_none {P:Program} {w:World} {H:Hp} (h:Heap) (hb:sysModules < h.objs.size):ObjOk P w H (h.push { cls:=.type "dict",data:=.dict #[] }) h.objs.size (.dK []) :=
 ⟨Nat.zero_le _,beq_eq_false_iff_ne.mpr (Ne.symm (Nat.ne_of_lt hb)),[],.nil,Heap.DictOf.new h⟩
theorem inv_big {X:Cx} {pins:List (Addr × Obj)} {σ:L2.St} {H:Hp} {s:Shared} (I:Inv X pins σ H s):sysModules < s.heap.objs.size:=by
 have h1:=I.ok.mod.glob.lt
 have h2:=Nat.le_trans I.ok.bsz I.sz
 exact Nat.lt_of_lt_of_le (Nat.lt_of_le_of_lt (by decide) h1) h2
def tDNew:TE:=fun _ H Q=>∀ p,H p = none→Q (.ref p) (upd H p (.dK []))
theorem pe_dnewK {X:Cx} {pos:Pos}:PE X (.Dict [] [] pos) tDNew:=fun pins s σ H Q I h =>
 wpAny_Dict_empty ⟨.ref s.heap.objs.size,_,I.laid (a:=s.heap.objs.size) (o:=.dK []) (t':=s.toks) (fun _ _ q=>Heap.get?_push_of_some _ q) (Nat.le_refl _) (dk_none s.heap (inv_big I)),rfl,h _ (I.hok.fresh (Nat.le_refl _))⟩
inductive Th (H:Hp):V→Prop where
 | int (i:Int):Th H (.int i)
 | bl (b:Bool):Th H (.bl b)
 | str (x:Str):Th H (.str x)
 | non:Th H .non
 | lst {a:Addr} {xs:List V} (h:H a = some (.lst xs)):Th H (.ref a)
 | tup {a:Addr} {xs:List V} (h:H a = some (.tup xs)):Th H (.ref a)
 | dct {a:Addr} {kvs:List (Key × V)} (h:H a = some (.dK kvs)):Th H (.ref a)
theorem Th.same {H H':Hp} {x:V} (t:Th H x) (s:Same H H'):Th H' x:=by
 cases t with
 | int i=>exact .int i
 | bl b=>exact .bl b
 | str x=>exact .str x
 | non=>exact .non
 | lst h=>exact .lst (s _ _ h)
 | tup h=>exact .tup (s _ _ h)
 | dct h=>exact .dct (s _ _ h)
end Ow
namespace Ow
open PySem PySem.Spec PyProof.Rows L2
def tMethQ (P:Program) (w:World) (K:PySem.W.Frag) (mg:Str→Option Value) (base:Heap) (k:Nat) (m:Str) (ta:TE) (t:TA):TE:=fun σ H Q=>ta σ H fun x H1=>∃ (a C dx:Addr) (fs:List (Str × V)) (ps:List Str) (sp:Sp),x = .ref a∧H1 a = some (.ins C dx fs)∧fs.lookup m = none ∧
 MHas P w K mg base k C m ps sp∧t σ H1 fun vs H2=>sp (x :: (vs ++ [])) H2 Q E0
theorem kit_of {K:PySem.W.Frag} {C D:Addr} (h1:PySem.W.isClsIn K D = true) (h2:PySem.W.typeIn K (.ref D) = some (.type "type")) (h3:PySem.W.mroIn K C (.ref D) = some true):PySem.W.kitOne K (.ref C) (.ref D) = some true:=by
 unfold PySem.W.kitOne
 split
 ·rfl
 ·unfold PySem.W.kitCls
  have e:((PySem.W.clsIn K D).isSome && PySem.W.typeIn K (.ref D) == some (.type "type")) = true:=by
   rw [h2]
   have h1':(PySem.W.clsIn K D).isSome = true:=h1
   rw [h1',Bool.true_and]
   exact beq_self_eq_true _
  show (if ((PySem.W.clsIn K D).isSome && PySem.W.typeIn K (.ref D) == some (.type "type")) = true then PySem.W.subIn K (.ref C) (.ref D) else none) = _
  rw [if_pos e]
  exact h3
end Ow
namespace Ow
open PySem PySem.Spec PyProof.Rows L2
theorem comp_rng {lo:Int} {n:Nat} {D:Addr} {te':TE} {tl:L2.St} {G:Hp→Prop} {H1:Hp} (Pv:Nat→Hp→Prop) (h0:Pv 0 (upd H1 D (.lst [])))
  (hs:∀ (i:Nat) H,i < n→Pv i H→te' (some (.int (lo + i)) :: tl) H fun y H2=>∃ ys,H2 D = some (.lst ys)∧ys.length < sizeLine∧∃ m',m' < n - i∧(m' = n - (i + 1)∧i + 1≤n∧Pv (i + 1) (upd H2 D (.lst (ys ++ [y])))))
  (hd:∀ H,Pv n H→G H) :
  ∃ W:Nat→Nat→Hp→Prop,(∃ m,W 0 m (upd H1 D (.lst [])))∧∀ i m H,W i m H →
   ((Itr lo n).stop i H∧G H)∨((Itr lo n).go i H∧∀ x H',(Itr lo n).yld i H x H'→te' (some x :: tl) H' fun y H2=>∃ ys,H2 D = some (.lst ys)∧ys.length < sizeLine∧∃ m',m' < m∧W (i + 1) m' (upd H2 D (.lst (ys ++ [y])))):=by
 refine ⟨fun i m H=>m = n - i∧i≤n∧Pv i H,⟨n,by simp,Nat.zero_le _,h0⟩,?_⟩
 rintro i m H ⟨rfl,hi,p⟩
 by_cases hlt:i < n
 ·refine .inr ⟨hlt,fun x H' y=>?_⟩
  obtain ⟨e,y⟩:=y
  subst e y
  exact hs i _ hlt p
 ·have e:i = n:=by omega
  subst e
  exact .inl ⟨Nat.le_refl _,hd H p⟩
end Ow
namespace Ow
open PySem PySem.Spec PyProof.Rows L2
section
variable {X:Cx}
theorem sl_str:SlR X (fun x lo hi H Q=>∃ z,x = .str z∧z.length≤sizeLine∧Q (.str (Txt.slice z lo hi)) H):=by
 intro pins s σ H x v vl vu lo hi sl Q I rx hs pl pu h
 obtain ⟨z,rfl,hz,q⟩:=h
 obtain ⟨t,rfl⟩:=rx
 have fin:∀ t' k,EP X pins σ Q (.str (Txt.slice z lo hi) t') { s with toks:=k }:=fun t' k=>⟨.str _,H,I.kept (t':=k) fun b o e=>e,⟨t',rfl⟩,q⟩
 have ok:(Txt.slice z lo hi).length≤sizeLine:=Nat.le_trans (Txt.slice_le z _ _) hz
 refine ⟨"str",_,F.slot_str_getitem.lookup,typeIs_str _ _ _,?_⟩
 cases pl with
 | none =>
  cases pu with
  | none=>exact wpAny_getItem_str_slice (l:=none) (u:=none) (st:=none) hs rfl (post_val_or_str ⟨ok,fin⟩)
  | int j uj=>exact wpAny_getItem_str_slice (l:=none) (u:=some (j,uj)) (st:=none) hs rfl (post_val_or_str ⟨ok,fin⟩)
 | int i ui =>
  cases pu with
  | none=>exact wpAny_getItem_str_slice (l:=some (i,ui)) (u:=none) (st:=none) hs rfl (post_val_or_str ⟨ok,fin⟩)
  | int j uj=>exact wpAny_getItem_str_slice (l:=some (i,ui)) (u:=some (j,uj)) (st:=none) hs rfl (post_val_or_str ⟨ok,fin⟩)
theorem vals_strs {ys:List Str} {us:List Value} (h:Vals (ys.map V.str) us):StrsAre us ys:=by
 induction ys generalizing us with
 | nil=>cases h; exact .nil
 | cons y ys ih =>
  cases h with
  | cons r rr =>
   obtain ⟨t,rfl⟩:=r
   exact .cons _ _ (ih rr)
def rJoin (K:PySem.W.Frag):V→List V→Hp→VK→Prop:=fun x xs H Q=>∃ sep p ys,x = .str sep∧xs = [.ref p]∧SqL K H p (ys.map V.str)∧(ys.map (·.length)).sum + ys.length * sep.length≤16777216∧Q (.str (Txt.join sep ys)) H
theorem mt_join:MtM X "str.join" (rJoin X.K):=by
 intro pins s σ H x vs v us Q I rx rv h
 obtain ⟨sep,p,ys,rfl,rfl,hp,hok,q⟩:=h
 obtain ⟨t,rfl⟩:=rx
 obtain ⟨u,rfl,ru⟩:=rv.one
 cases (show u = Value.ref p from ru)
 obtain ⟨its,r,pl,_⟩:=I.list hp
 exact join_list pl.isList (vals_strs r) hok fun t' k=>⟨.str _,H,I.kept (t':=k) fun b o e=>e,⟨t',rfl⟩,q⟩
end
def Its (z:Str):It where
 go:=fun i _=>i < z.cps.size
 yld:=fun i H x H'=>H' = H∧∃ c,z.cps[i]? = some c∧x = .str ⟨#[c]⟩
 stop:=fun i _=>z.cps.size≤i
theorem turn_ascii {P:Program} {w:World} {K:PySem.W.Frag} {tg:Expr} (it:Addr) (z:Str) (t:Tok):Turn P w K tg (Its z) [it] it (fun i h=>h.IsStrIter it "str_ascii_iterator" z t i) where
 mem:=by simp
 obj:=fun i h st b hb=>by
  have e:b = it:=by simpa using hb
  subst e
  obtain ⟨o,e,c,d⟩:=st
  exact ⟨o,e,fun v z=>by rw [d] at z; cases z⟩
 keep:=fun i h h' st k=>let ⟨o,ho,r⟩:=st; ⟨o,k it (by simp) o ho,r⟩
 item:=by
  intro X hP hw hK hc i pins s σ H E I hf st hg
  subst hP hw hK
  obtain ⟨f0,f1,f2,f3,f4,f5⟩:=hf it (by simp)
  have hi:i < z.cps.size:=hg
  refine wpAny_pyNext_ascii_item st (c:=z.cps[i]) (by simp [hi]) fun h' st' sb=>?_
  have I1:Inv X pins σ H { s with heap:=h',toks:=s.toks + 1 }:=I.turned (t':=s.toks + 1) (fun b o hb e=>(sb.2 b hb).trans e) f0 f1 f3 f4 f5
  obtain ⟨o,e,c,d⟩:=id st'
  exact ⟨_,rfl,go_of (s:={ s with heap:=h',toks:=s.toks + 1 }) e c d (by decide) ⟨.str ⟨#[z.cps[i]]⟩,H,I1,⟨_,rfl⟩,⟨rfl,_,by simp [hi],rfl⟩,st',fun b hb=>(hf b hb).1⟩⟩
 done:=by
  intro X hP hw hK hc i pins s σ H E I hf st hg
  subst hP hw hK
  obtain ⟨f0,f1,f2,f3,f4,f5⟩:=hf it (by simp)
  have hi:z.cps.size≤i:=hg
  exact wpAny_pyNext_ascii_end (I.ok.hd hc) st (by simp [hi]) fun h' eb=>⟨rfl,I.turned (t':=s.toks) (fun b o hb e=>eb b o hb e) f0 f1 f3 f4 f5⟩
 self:=fun _ _ _ _ _ st h=>wpAny_pyIter_striter_ascii st h
theorem turn_wide {P:Program} {w:World} {K:PySem.W.Frag} {tg:Expr} (it:Addr) (z:Str) (t:Tok):Turn P w K tg (Its z) [it] it (fun i h=>h.IsStrIter it "str_iterator" z t i) where
 mem:=by simp
 obj:=fun i h st b hb=>by
  have e:b = it:=by simpa using hb
  subst e
  obtain ⟨o,e,c,d⟩:=st
  exact ⟨o,e,fun v z=>by rw [d] at z; cases z⟩
 keep:=fun i h h' st k=>let ⟨o,ho,r⟩:=st; ⟨o,k it (by simp) o ho,r⟩
 item:=by
  intro X hP hw hK hc i pins s σ H E I hf st hg
  subst hP hw hK
  obtain ⟨f0,f1,f2,f3,f4,f5⟩:=hf it (by simp)
  have hi:i < z.cps.size:=hg
  refine wpAny_pyNext_wide_item st (c:=z.cps[i]) (by simp [hi]) fun h' st' sb=>?_
  have I1:Inv X pins σ H { s with heap:=h',toks:=s.toks + 1 }:=I.turned (t':=s.toks + 1) (fun b o hb e=>(sb.2 b hb).trans e) f0 f1 f3 f4 f5
  obtain ⟨o,e,c,d⟩:=id st'
  exact ⟨_,rfl,go_of (s:={ s with heap:=h',toks:=s.toks + 1 }) e c d (by decide) ⟨.str ⟨#[z.cps[i]]⟩,H,I1,⟨_,rfl⟩,⟨rfl,_,by simp [hi],rfl⟩,st',fun b hb=>(hf b hb).1⟩⟩
 done:=by
  intro X hP hw hK hc i pins s σ H E I hf st hg
  subst hP hw hK
  obtain ⟨f0,f1,f2,f3,f4,f5⟩:=hf it (by simp)
  have hi:z.cps.size≤i:=hg
  exact wpAny_pyNext_wide_end (I.ok.hd hc) st (by simp [hi]) fun h' eb=>⟨rfl,I.turned (t':=s.toks) (fun b o hb e=>eb b o hb e) f0 f1 f3 f4 f5⟩
 self:=fun _ _ _ _ _ st h=>wpAny_pyIter_striter_wide st h
def iStr (tl:TE):TI:=fun σ H R=>tl σ H fun x H1=>∃ z,x = .str z∧R (Its z) H1
theorem pi_str {X:Cx} {tg l:Expr} {tl:TE} (hl:PE X l tl):PI X tg l (iStr tl):=by
 intro pins s σ H R I h
 refine thn (hl pins s σ H _ I h) fun v s1 ⟨x,H1,I1,r1,q1⟩=>?_
 obtain ⟨z,e,q⟩:=q1
 subst e
 obtain ⟨t,rfl⟩:=r1
 have ff:∀ b ∈ [s1.heap.objs.size],FpOk X pins H1 b:=fun b hb=>by
  have e:b = s1.heap.objs.size:=by simpa using hb
  subst e
  exact I1.fpOk (Nat.le_refl _) (I1.hok.fresh (Nat.le_refl _))
 cases ha:z.cps.all (· < 128) with
 | true=>exact wpAny_pyIter_ascii ha ⟨s1.heap.objs.size,[s1.heap.objs.size],_,_,H1,rfl,I1.kept (t':=s1.toks) fun b o e=>Heap.get?_push_of_some _ e,turn_ascii _ z t,⟨_,Heap.get?_push_size _ rfl,rfl,rfl⟩,ff,q⟩
 | false=>exact wpAny_pyIter_wide ha ⟨s1.heap.objs.size,[s1.heap.objs.size],_,_,H1,rfl,I1.kept (t':=s1.toks) fun b o e=>Heap.get?_push_of_some _ e,turn_wide _ z t,⟨_,Heap.get?_push_size _ rfl,rfl,rfl⟩,ff,q⟩
def rEqTD (K:PySem.W.Frag) (d:Nat) (neg:Bool):R2:=fun x y H Q=>∃ p q xs ys e,x = .ref p∧y = .ref q∧SqT K H p xs∧SqT K H q ys∧(∀ j,j < xs.length→j < ys.length→EqD K H d (xs.getD j .non) (ys.getD j .non) (e j))∧Q (.bl (if neg = true then !((List.range (min xs.length ys.length)).all e && xs.length == ys.length) else ((List.range (min xs.length ys.length)).all e && xs.length == ys.length))) H
theorem op_eqTD {X:Cx} {d:Nat} (hu:X.A.units + d + 1 < cLine):OpR X (compareOp .Eq) (rEqTD X.K d false):=by
 intro pins s σ H x y v u Q I rx ry h
 obtain ⟨p,q,xs,ys,e,rfl,rfl,hp,hq,he,k⟩:=h
 cases rx
 cases ry
 obtain ⟨its,r,pl,_⟩:=I.tuple hp
 obtain ⟨its2,r2,pl2,_⟩:=I.tuple hq
 have hl:=r.length
 have hl2:=r2.length
 refine SeqAt.eq_tupleAt (e:=e) pl pl2 (by omega) (fun j h1 h2=>?_) ⟨.bl _,H,I,rfl,?_⟩
 ·have h1':j < its.length:=by simpa using h1
  have h2':j < its2.length:=by simpa using h2
  have z:=(he j (by omega) (by omega)).at I (vals_at r h1') (vals_at r2 h2') (A:=X.A.in1) (by show X.A.units + 1 + d < _; omega)
  simpa using z
 ·simp only [List.size_toArray,← hl,← hl2]
  exact k
end Ow
namespace Ow
open PySem PySem.Spec PyProof.Rows L2
section
variable {prog:Program} {w:World} {K:Type} [DecidableEq K] {knd:KeyKind prog w K} {A:Around} {E:Value→Shared→Prop} {s:Shared}
end
section
variable {prog:Program} {w:World} {A:Around} {E:Value→Shared→Prop} {s:Shared}
end
section
variable {X:Cx}
def isT (t:Str):Value→Bool
 | .str y _=>y == t
 | _=>false
theorem str_at:∀ {ys:List Str} {us:List Value},Vals (ys.map V.str) us→∀ {m:Nat} {u:Value},us[m]? = some u→∃ y k,ys[m]? = some y∧u = Value.str y k
 | [],_,.nil,m,u,h=>by simp at h
 | y :: ys,_,.cons r rr,0,u,h=>by
  obtain ⟨k,rfl⟩:=r
  simp only [List.getElem?_cons_zero,Option.some.injEq] at h
  exact ⟨y,k,rfl,h.symm⟩
 | y :: ys,_,.cons r rr,m + 1,u,h=>by
  rw [List.getElem?_cons_succ] at h
  rw [List.getElem?_cons_succ]
  exact str_at rr h
theorem mt_index:MtM X "list.index" (fun x vs H Q=>∃ (l:Addr) (ys:List Str) (t:Str) (j:Nat),x = .ref l∧vs = [.str t]∧H l = some (.lst (ys.map V.str))∧ys[j]? = some t∧(∀ m,m < j→ys[m]? ≠ some t)∧Q (.int (j:Nat)) H):=by
 intro pins s σ H x vs v us Q I rx rv h
 obtain ⟨l,ys,t,j,rfl,rfl,hH,h1,h2,q⟩:=h
 cases rx
 obtain ⟨u,rfl,k,rfl⟩:=rv.one
 obtain ⟨z,its,n,r,hl,e⟩:=I.lstM hH
 have hle:ys.length = its.length:=by have:=r.length; rwa [List.length_map] at this
 have hj:j < its.toArray.size:=by rw [List.size_toArray,← hle]; exact (List.getElem?_eq_some_iff.mp h1).1
 refine call_meets F.slot_list_index ⟨_,e,rfl⟩ F.entry_list_index (F.args_list_index_2 _ _) (SeqAt.list_indexAt l its.toArray n none #[] (.str t k) (isT t) j hj ?_ ?_ ?_) ⟨e,?_,?_⟩
 ·have:its.length≤sizeLine:=by rw [← hl]; exact z
  rw [sizeLine_eq] at this
  rw [List.size_toArray] at hj
  omega
 ·obtain ⟨y,k',e1,e2⟩:=str_at r (m:=j) (u:=its.toArray[j]) (by simp)
  rw [e2]
  rw [h1] at e1
  cases e1
  show (t == t) = true
  exact beq_self_eq_true t
 ·intro m hm hmj
  obtain ⟨y,k',e1,e2⟩:=str_at r (m:=m) (u:=its.toArray[m]) (by simp)
  rw [e2]
  show (y == t) = false
  refine beq_eq_false_iff_ne.mpr fun z=>h2 m hmj ?_
  rw [e1,z]
 ·intro y hy
  obtain ⟨m,hm,rfl⟩:=Array.mem_iff_getElem.mp hy
  obtain ⟨y,k',e1,e2⟩:=str_at r (m:=m) (u:=its.toArray[m]) (by simp)
  rw [e2]
  exact SeqAt.EqAt.str_str _ _ _ _
 ·exact ⟨.int j,H,I.tok _,⟨_,rfl⟩,q⟩
end
def noStar:Expr→Bool
 | .Starred _ _=>false
 | _=>true
theorem star_cons {e:Expr} (h:noStar e = true) (rest:List Expr) (env:Env):starEach (e :: rest) env = (false,eval e env) :: starEach rest env:=by
 cases e <;> first | rfl | cases h
theorem pa_consN {X:Cx} {e:Expr} {es:List Expr} {te:TE} {t:TA} (ha:PE X e te) (hr:PA X es t) (hn:noStar e = true:=by rfl):PA X (e :: es) (tCons te t):=pa_cons ha hr (star_cons hn es X.env)
structure Sl (p:Prop):Prop where
 out:p
section
variable {X:Cx}
theorem ps_setS {i:Nat} {x:Str} {e:Expr} {te:TE} {pos pos':Pos} (hN:X.N.Nodup) (hi:X.N[i]? = some x) (hx:Loc X.env.scope x) (he:Sl (PE X e te)) (hs:swapsWith e (some (.Name x pos')) pos.line X.env = pure false:=by rfl) (hf:X.fn x = true∨X.env.scope.names.lookup x = some .local:=by first | exact .inl rfl | exact .inr rfl | assumption) :
  Sl (PS X (.Assign [.Name x pos'] e pos) (tAsg te (gName i))):=⟨ps_set hN hi hx he.out hs hf⟩
theorem pe_lstS {es:List Expr} {t:TA} {pos:Pos} (h:Sl (PA X es t)):Sl (PE X (.List es pos) (tLst t)):=⟨pe_lst h.out⟩
theorem pa_consS {e:Expr} {es:List Expr} {te:TE} {t:TA} (ha:PE X e te) (hr:Sl (PA X es t)) (hn:noStar e = true:=by rfl):Sl (PA X (e :: es) (tCons te t)):=⟨pa_consN ha hr.out hn⟩
theorem pa_nilS:Sl (PA X [] tNil):=⟨pa_nil⟩
end
end Ow
namespace L2
open PySem PySem.Spec PyProof.Rows
section
variable {κ:Type} [DecidableEq κ]
end
section
variable {P:Program} {w:World} {H:Hp} {h:Heap} {a:Addr}
end
section
variable {X:Cx} {pins:List (Addr × Obj)} {σ:St} {H:Hp} {s:Shared} {a:Addr} {y v:V} {u r:Value} {o:Option V} {A:Around} {E:Value→Shared→Prop}
end
section
variable {X:Cx} {pins:List (Addr × Obj)} {σ:St} {H:Hp} {s:Shared} {a:Addr} {kvs:List (Key × V)} {k:Key} {u:Value} {A:Around} {E:Value→Shared→Prop}
end
section
variable {X:Cx} {o i e value:Expr} {pos pos' tpos:Pos} {td ty tv:TE}
end
section
variable {X:Cx} {pos:Pos}
end
section
variable {X:Cx} {pins:List (Addr × Obj)} {σ:St} {H:Hp} {s:Shared} {a:Addr} {y d:V} {u r:Value} {o:Option V} {A:Around} {E:Value→Shared→Prop}
end
section
variable {X:Cx} {o e f:Expr} {apos cpos:Pos} {td ty tx:TE}
end
section
variable {X:Cx} {pins:List (Addr × Obj)} {σ:St} {H:Hp} {s:Shared} {a:Addr} {kvs:List (Key × V)} {A:Around} {E:Value→Shared→Prop}
end
section
variable {X:Cx} {pins:List (Addr × Obj)} {σ:St} {H:Hp} {s:Shared} {a:Addr} {y:V} {u:Value} {A:Around} {E:Value→Shared→Prop}
end
end L2
namespace L2
open PySem PySem.Spec PyProof.Rows
section
variable {κ:Type} [DecidableEq κ]
end
end L2
namespace Ow
open PySem PySem.Spec PyProof.Rows L2
section
variable {X:Cx} {pins:List (Addr × Obj)} {σ:L2.St} {H:Hp} {s:Shared}
end
section
variable {X:Cx} {tg:Expr}
end
section
variable {X:Cx}
end
theorem op_neTD {X:Cx} {d:Nat} (hu:X.A.units + d + 1 < cLine):OpR X (compareOp .NotEq) (rEqTD X.K d true):=by
 intro pins s σ H x y v u Q I rx ry h
 obtain ⟨p,q,xs,ys,e,rfl,rfl,hp,hq,he,k⟩:=h
 cases rx
 cases ry
 obtain ⟨its,r,pl,_⟩:=I.tuple hp
 obtain ⟨its2,r2,pl2,_⟩:=I.tuple hq
 have hl:=r.length
 have hl2:=r2.length
 refine SeqAt.RcNeAt.tuples (e:=e) pl pl2 (by omega) (fun j h1 h2=>?_) X.prog X.w X.xe _ ⟨.bl _,H,I,rfl,?_⟩
 ·have h1':j < its.length:=by simpa using h1
  have h2':j < its2.length:=by simpa using h2
  have z:=(he j (by omega) (by omega)).at I (vals_at r h1') (vals_at r2 h2') (A:=X.A.in1) (by show X.A.units + 1 + d < _; omega)
  simpa using z
 ·simp only [List.size_toArray,← hl,← hl2]
  exact k
end Ow
namespace Ow
open PySem PySem.Spec PyProof.Rows L2
section
variable {X:Cx}
theorem pe_ixS {a b:Expr} {r:R2} {ta tb:TE} {pos:Pos} (hr:IxR X r) (ha:Sl (PE X a ta)) (hb:PE X b tb) (hs:PlainIx b):Sl (PE X (.Subscript a b pos) (tOp r ta tb)):=⟨pe_ix hr ha.out hb hs⟩
end
end Ow
namespace Ow
open PySem PySem.Spec PyProof.Rows L2
theorem slE {X:Cx} {b:List Stmt} {R:TS→Prop} (h:∃ t,Sl (PSs X b t)∧R t):∃ t,PSs X b t∧R t:=let ⟨t,a,r⟩:=h; ⟨t,a.out,r⟩
end Ow
namespace Ow
open PySem PySem.Spec PyProof.Rows L2
theorem slIn {p:Prop} (h:p):Sl p:=⟨h⟩
section
variable {X:Cx} {st:Stmt} {rest body:List Stmt} {t u tb:TS} {e:Expr} {es:List Expr} {te:TE} {ta:TA} {pos:Pos}
theorem pss_nilZ:Sl (PSs X [] tNext):=⟨pss_nil⟩
theorem pss_oneZ (h:Sl (PS X st t)):Sl (PSs X [st] t):=⟨pss_one h.out⟩
theorem pss_consZ (h1:Sl (PS X st t)) (h2:Sl (PSs X rest u)):Sl (PSs X (st :: rest) (tSeq t u)):=⟨pss_cons h1.out h2.out⟩
theorem pss_joinZ (h1:Sl (PS X st t)) (h2:Sl (PSs X rest u)):Sl (PSs X (st :: rest) (tJoin t u)):=⟨pss_join h1.out h2.out⟩
theorem ps_ifZ {c:Expr} {a b:List Stmt} {tc:TT} (hc:PT X c tc) (ha:Sl (PSs X a t)) (hb:Sl (PSs X b u)):Sl (PS X (.If c a b pos) (tIfS tc t u)):=⟨ps_if hc ha.out hb.out⟩
theorem ps_forZ {tg iter:Expr} {wi:TI} {g:TG} (hp:PassesOwn (model X.prog X.w) X.A X.env X.xe) (hc:X.calm = true) (hi:PI X tg iter wi) (hg:PG X tg g) (hb:Sl (PSs X body tb)) (hs:∀ x,foldedSetIterable iter X.env x = pure x:=by intro _; rfl):Sl (PS X (.For tg iter body [] pos) (tFor wi g tb)):=⟨ps_for hp hc hi hg hb.out hs⟩
theorem pa_consZ (ha:Sl (PE X e te)) (hr:Sl (PA X es ta)) (hn:noStar e = true:=by rfl):Sl (PA X (e :: es) (tCons te ta)):=⟨pa_consN ha.out hr.out hn⟩
theorem pe_tupZ {x1:Nat} (h:Sl (PA X es ta)):Sl (PE X (.Tuple es x1 pos) (tTup ta)):=⟨pe_tup h.out⟩
theorem pe_opZ {a b:Expr} {op:Operator} {r:R2} {t1 t2:TE} (hr:OpR X (binaryOp op) r) (ha:Sl (PE X a t1)) (hb:Sl (PE X b t2)):Sl (PE X (.BinOp a op b pos) (tOp r t1 t2)):=⟨pe_op hr ha.out hb.out⟩
end
end Ow
namespace Ow
open PySem PySem.Spec PyProof.Rows L2
theorem comp_str {z:Str} {D:Addr} {te':TE} {tl:L2.St} {G:Hp→Prop} {H1:Hp} (Pv:Nat→Hp→Prop) (h0:Pv 0 (upd H1 D (.lst [])))
  (hs:∀ i c H,z.cps[i]? = some c→Pv i H→te' (some (.str ⟨#[c]⟩) :: tl) H fun y H2=>∃ ys,H2 D = some (.lst ys)∧ys.length < sizeLine∧∃ m',m' < z.cps.size - i∧(m' = z.cps.size - (i + 1)∧i + 1≤z.cps.size∧Pv (i + 1) (upd H2 D (.lst (ys ++ [y])))))
  (hd:∀ H,Pv z.cps.size H→G H) :
  ∃ W:Nat→Nat→Hp→Prop,(∃ m,W 0 m (upd H1 D (.lst [])))∧∀ i m H,W i m H →
   ((Its z).stop i H∧G H)∨((Its z).go i H∧∀ x H',(Its z).yld i H x H'→te' (some x :: tl) H' fun y H2=>∃ ys,H2 D = some (.lst ys)∧ys.length < sizeLine∧∃ m',m' < m∧W (i + 1) m' (upd H2 D (.lst (ys ++ [y])))):=by
 refine ⟨fun i m H=>m = z.cps.size - i∧i≤z.cps.size∧Pv i H,⟨z.cps.size,by simp,Nat.zero_le _,h0⟩,?_⟩
 rintro i m H ⟨rfl,hi,p⟩
 by_cases hlt:i < z.cps.size
 ·refine .inr ⟨hlt,fun x H' y=>?_⟩
  obtain ⟨e,c,hc,ex⟩:=y
  subst e ex
  exact hs i c _ hc p
 ·have e:i = z.cps.size:=by omega
  subst e
  exact .inl ⟨Nat.le_refl _,hd H p⟩
theorem pe_globS {X:Cx} {x v:Str} {pos:Pos} (hg:Gl X x) (hm:∃ t,X.mg x = some (.str v t)) (hd:(x == ("__debug__":Str)) = false:=by decide):PE X (.Name x pos) (tC (.str v)):=by
 obtain ⟨t,h⟩:=hm
 exact pe_glob (v:=.str v) hg h ⟨t,rfl⟩ hd
theorem pe_methQ0 {X:Cx} {P:Program} {w:World} {K:PySem.W.Frag} {mg:Str→Option Value} {base:Heap} {k:Nat} {o:Expr} {m:Str} {ta:TE} {pos apos:Pos} {pl:Sem Bool} (h1:X.prog = P) (h2:X.w = w) (h3:X.K = K) (h4:X.mg = mg) (h5:X.base = base) (he:PE X o ta) (hr:Room k X.A)
  (ht:eval (.Call (.Attribute o m apos) [] [] pos) X.env = (do
   let ov ← eval o X.env
   standAt apos.atName
   let (f,first) ← holding [ov] (getMethod ov m pl)
   callWith pos f first (backTo pos (starEach [] X.env)) (backToKw pos (keywordEach [] X.env))):=by rfl) :
  PE X (.Call (.Attribute o m apos) [] [] pos) (tMethQ P w K mg base k m ta tNil):=by
 subst h1 h2 h3 h4 h5
 exact pe_methP0 he hr ht
end Ow
namespace Ow
open PySem PySem.Spec PyProof.Rows L2
open Builtin.Int (intBits)
def top (i:Nat):Stmt:=PySem.Challenge.pw_overwise_k70_rows_told.main.body.getD i (.Pass ⟨0,0,0,0⟩)
abbrev s_is_register:Stmt:=top 19
theorem sc_is_register:FnScope ["thing"] ["thing"] (defScope s_is_register):=⟨rfl,rfl,rfl,by decide +kernel,rfl,by decide +kernel,by decide +kernel⟩
abbrev s_Set_word:Stmt:=inClass (top 22) 1
theorem sc_Set_word:FnScope ["self"] ["self"] (defScope s_Set_word):=⟨rfl,rfl,rfl,by decide +kernel,rfl,by decide +kernel,by decide +kernel⟩
abbrev s_Copy_word:Stmt:=inClass (top 23) 1
theorem sc_Copy_word:FnScope ["self"] ["self"] (defScope s_Copy_word):=⟨rfl,rfl,rfl,by decide +kernel,rfl,by decide +kernel,by decide +kernel⟩
abbrev s_Sum_word:Stmt:=inClass (top 25) 0
theorem sc_Sum_word:FnScope ["self"] ["self"] (defScope s_Sum_word):=⟨rfl,rfl,rfl,by decide +kernel,rfl,by decide +kernel,by decide +kernel⟩
abbrev s_Gap_word:Stmt:=inClass (top 26) 0
theorem sc_Gap_word:FnScope ["self"] ["self"] (defScope s_Gap_word):=⟨rfl,rfl,rfl,by decide +kernel,rfl,by decide +kernel,by decide +kernel⟩
abbrev s_Low_word:Stmt:=inClass (top 28) 0
theorem sc_Low_word:FnScope ["self"] ["self"] (defScope s_Low_word):=⟨rfl,rfl,rfl,by decide +kernel,rfl,by decide +kernel,by decide +kernel⟩
abbrev s_High_word:Stmt:=inClass (top 29) 0
theorem sc_High_word:FnScope ["self"] ["self"] (defScope s_High_word):=⟨rfl,rfl,rfl,by decide +kernel,rfl,by decide +kernel,by decide +kernel⟩
abbrev s_Left_word:Stmt:=inClass (top 31) 0
theorem sc_Left_word:FnScope ["self"] ["self"] (defScope s_Left_word):=⟨rfl,rfl,rfl,by decide +kernel,rfl,by decide +kernel,by decide +kernel⟩
abbrev s_Right_word:Stmt:=inClass (top 32) 0
theorem sc_Right_word:FnScope ["self"] ["self"] (defScope s_Right_word):=⟨rfl,rfl,rfl,by decide +kernel,rfl,by decide +kernel,by decide +kernel⟩
abbrev s_Slide_word:Stmt:=inClass (top 33) 0
theorem sc_Slide_word:FnScope ["self"] ["self"] (defScope s_Slide_word):=⟨rfl,rfl,rfl,by decide +kernel,rfl,by decide +kernel,by decide +kernel⟩
abbrev s_And_word:Stmt:=inClass (top 34) 0
theorem sc_And_word:FnScope ["self"] ["self"] (defScope s_And_word):=⟨rfl,rfl,rfl,by decide +kernel,rfl,by decide +kernel,by decide +kernel⟩
abbrev s_Or_word:Stmt:=inClass (top 35) 0
theorem sc_Or_word:FnScope ["self"] ["self"] (defScope s_Or_word):=⟨rfl,rfl,rfl,by decide +kernel,rfl,by decide +kernel,by decide +kernel⟩
abbrev s_Unlike_word:Stmt:=inClass (top 36) 0
theorem sc_Unlike_word:FnScope ["self"] ["self"] (defScope s_Unlike_word):=⟨rfl,rfl,rfl,by decide +kernel,rfl,by decide +kernel,by decide +kernel⟩
abbrev s_Under_word:Stmt:=inClass (top 37) 0
theorem sc_Under_word:FnScope ["self"] ["self"] (defScope s_Under_word):=⟨rfl,rfl,rfl,by decide +kernel,rfl,by decide +kernel,by decide +kernel⟩
abbrev s_Pick_word:Stmt:=inClass (top 38) 1
theorem sc_Pick_word:FnScope ["self"] ["self"] (defScope s_Pick_word):=⟨rfl,rfl,rfl,by decide +kernel,rfl,by decide +kernel,by decide +kernel⟩
abbrev s_Mark_word:Stmt:=inClass (top 39) 1
theorem sc_Mark_word:FnScope ["self"] ["self"] (defScope s_Mark_word):=⟨rfl,rfl,rfl,by decide +kernel,rfl,by decide +kernel,by decide +kernel⟩
abbrev s_Turns_word:Stmt:=inClass (top 40) 1
theorem sc_Turns_word:FnScope ["self"] ["self"] (defScope s_Turns_word):=⟨rfl,rfl,rfl,by decide +kernel,rfl,by decide +kernel,by decide +kernel⟩
abbrev s_Set___init__:Stmt:=inClass (top 22) 0
theorem sc_Set___init__:FnScope ["self", "goal", "bits"] ["self", "goal", "bits"] (defScope s_Set___init__):=⟨rfl,rfl,rfl,by decide +kernel,rfl,by decide +kernel,by decide +kernel⟩
abbrev s_Copy___init__:Stmt:=inClass (top 23) 0
theorem sc_Copy___init__:FnScope ["self", "goal", "one"] ["self", "goal", "one"] (defScope s_Copy___init__):=⟨rfl,rfl,rfl,by decide +kernel,rfl,by decide +kernel,by decide +kernel⟩
abbrev s_Carrying___init__:Stmt:=inClass (top 24) 0
theorem sc_Carrying___init__:FnScope ["self", "goal", "carry", "one", "other"] ["self", "goal", "carry", "one", "other"] (defScope s_Carrying___init__):=⟨rfl,rfl,rfl,by decide +kernel,rfl,by decide +kernel,by decide +kernel⟩
abbrev s_Joining___init__:Stmt:=inClass (top 27) 0
theorem sc_Joining___init__:FnScope ["self", "goal", "one", "other"] ["self", "goal", "one", "other"] (defScope s_Joining___init__):=⟨rfl,rfl,rfl,by decide +kernel,rfl,by decide +kernel,by decide +kernel⟩
abbrev s_Moving___init__:Stmt:=inClass (top 30) 0
theorem sc_Moving___init__:FnScope ["self", "goal", "one", "k"] ["self", "goal", "one", "k"] (defScope s_Moving___init__):=⟨rfl,rfl,rfl,by decide +kernel,rfl,by decide +kernel,by decide +kernel⟩
abbrev s_Pick___init__:Stmt:=inClass (top 38) 0
theorem sc_Pick___init__:FnScope ["self", "goal", "by", "one", "other"] ["self", "goal", "by", "one", "other"] (defScope s_Pick___init__):=⟨rfl,rfl,rfl,by decide +kernel,rfl,by decide +kernel,by decide +kernel⟩
abbrev s_Mark___init__:Stmt:=inClass (top 39) 0
theorem sc_Mark___init__:FnScope ["self", "line", "mark", "by"] ["self", "line", "mark", "by"] (defScope s_Mark___init__):=⟨rfl,rfl,rfl,by decide +kernel,rfl,by decide +kernel,by decide +kernel⟩
abbrev s_Turns___init__:Stmt:=inClass (top 40) 0
theorem sc_Turns___init__:FnScope ["self", "times", "steps"] ["self", "times", "steps"] (defScope s_Turns___init__):=⟨rfl,rfl,rfl,by decide +kernel,rfl,by decide +kernel,by decide +kernel⟩
abbrev s_Set_told:Stmt:=inClass (top 22) 2
theorem sc_Set_told:FnScope ["self"] ["self"] (defScope s_Set_told):=⟨rfl,rfl,rfl,by decide +kernel,rfl,by decide +kernel,by decide +kernel⟩
abbrev s_Copy_told:Stmt:=inClass (top 23) 2
theorem sc_Copy_told:FnScope ["self"] ["self"] (defScope s_Copy_told):=⟨rfl,rfl,rfl,by decide +kernel,rfl,by decide +kernel,by decide +kernel⟩
abbrev s_Carrying_told:Stmt:=inClass (top 24) 1
theorem sc_Carrying_told:FnScope ["self"] ["self"] (defScope s_Carrying_told):=⟨rfl,rfl,rfl,by decide +kernel,rfl,by decide +kernel,by decide +kernel⟩
abbrev s_Joining_told:Stmt:=inClass (top 27) 1
theorem sc_Joining_told:FnScope ["self"] ["self"] (defScope s_Joining_told):=⟨rfl,rfl,rfl,by decide +kernel,rfl,by decide +kernel,by decide +kernel⟩
abbrev s_Moving_told:Stmt:=inClass (top 30) 1
theorem sc_Moving_told:FnScope ["self"] ["self"] (defScope s_Moving_told):=⟨rfl,rfl,rfl,by decide +kernel,rfl,by decide +kernel,by decide +kernel⟩
abbrev s_Pick_told:Stmt:=inClass (top 38) 2
theorem sc_Pick_told:FnScope ["self"] ["self"] (defScope s_Pick_told):=⟨rfl,rfl,rfl,by decide +kernel,rfl,by decide +kernel,by decide +kernel⟩
abbrev s_Mark_told:Stmt:=inClass (top 39) 2
theorem sc_Mark_told:FnScope ["self"] ["self"] (defScope s_Mark_told):=⟨rfl,rfl,rfl,by decide +kernel,rfl,by decide +kernel,by decide +kernel⟩
abbrev s_Turns_told:Stmt:=inClass (top 40) 2
theorem sc_Turns_told:FnScope ["self"] ["self"] (defScope s_Turns_told):=⟨rfl,rfl,rfl,by decide +kernel,rfl,by decide +kernel,by decide +kernel⟩
abbrev s__law_cell:Stmt:=top 42
theorem sc__law_cell:FnScope ["_law_script", "_law_k", "_law_number"] ["_law_script", "_law_k"] (defScope s__law_cell):=⟨rfl,rfl,rfl,by decide +kernel,rfl,by decide +kernel,by decide +kernel⟩
abbrev s__law_begun:Stmt:=top 43
theorem sc__law_begun:FnScope ["_law_cell_here", "_law_rest"] ["_law_cell_here"] (defScope s__law_begun):=⟨rfl,rfl,rfl,by decide +kernel,rfl,by decide +kernel,by decide +kernel⟩
abbrev s__law_draw:Stmt:=top 44
theorem sc__law_draw:FnScope ["_law_state", "_law_many", "_law_found", "_law_number"] ["_law_state", "_law_many"] (defScope s__law_draw):=⟨rfl,rfl,rfl,by decide +kernel,rfl,by decide +kernel,by decide +kernel⟩
abbrev s__law_word:Stmt:=top 45
theorem sc__law_word:FnScope ["_law_state", "_law_width", "_law_size", "_law_way"] ["_law_state", "_law_width"] (defScope s__law_word):=⟨rfl,rfl,rfl,by decide +kernel,rfl,by decide +kernel,by decide +kernel⟩
abbrev s__law_names:Stmt:=top 46
theorem sc__law_names:FnScope ["_law_state", "_law_pool", "_law_signs", "_law_at", "_law_names_here", "_law_k", "_law_name_here", "_law_j"] ["_law_state"] (defScope s__law_names):=⟨rfl,rfl,rfl,by decide +kernel,rfl,by decide +kernel,by decide +kernel⟩
abbrev s__law_name:Stmt:=top 47
theorem sc__law_name:FnScope ["_law_state", "_law_names_here"] ["_law_state", "_law_names_here"] (defScope s__law_name):=⟨rfl,rfl,rfl,by decide +kernel,rfl,by decide +kernel,by decide +kernel⟩
abbrev s__law_sorts:Stmt:=top 49
theorem sc__law_sorts:FnScope ["_law_words"] [] (defScope s__law_sorts):=⟨rfl,rfl,rfl,by decide +kernel,rfl,by decide +kernel,by decide +kernel⟩
abbrev s__law_row:Stmt:=top 48
theorem sc__law_row:FnScope ["_law_state", "_law_width", "_law_names_here", "_law_at", "_law_word_here", "_law_goal", "_law_one", "_law_other", "_law_line"] ["_law_state", "_law_width", "_law_names_here", "_law_at"] (defScope s__law_row):=⟨rfl,rfl,rfl,by decide +kernel,rfl,by decide +kernel,by decide +kernel⟩
abbrev s__law_made_pair:Stmt:=top 50
theorem sc__law_made_pair:FnScope ["_law_row_here"] ["_law_row_here"] (defScope s__law_made_pair):=⟨rfl,rfl,rfl,by decide +kernel,rfl,by decide +kernel,by decide +kernel⟩
abbrev s__law_made:Stmt:=top 51
theorem sc__law_made:FnScope ["_law_row_here"] ["_law_row_here"] (defScope s__law_made):=⟨rfl,rfl,rfl,by decide +kernel,rfl,by decide +kernel,by decide +kernel⟩
abbrev s__law_kinds:Stmt:=top 52
theorem sc__law_kinds:FnScope ["_law_row_here", "_law_kinds_here"] ["_law_row_here"] (defScope s__law_kinds):=⟨rfl,rfl,rfl,by decide +kernel,rfl,by decide +kernel,by decide +kernel⟩
abbrev s__law_fields:Stmt:=top 53
theorem sc__law_fields:FnScope ["_law_row_here", "_law_word_here"] ["_law_row_here", "_law_word_here"] (defScope s__law_fields):=⟨rfl,rfl,rfl,by decide +kernel,rfl,by decide +kernel,by decide +kernel⟩
abbrev s__law_told:Stmt:=top 54
theorem sc__law_told:FnScope ["_law_row_here", "_law_due", "_law_at", "_law_told_here"] ["_law_row_here", "_law_due"] (defScope s__law_told):=⟨rfl,rfl,rfl,by decide +kernel,rfl,by decide +kernel,by decide +kernel⟩
abbrev s__law_any:Stmt:=top 55
theorem sc__law_any:FnScope ["_law_state", "_law_due", "_law_bad", "_law_at", "_law_spoilt", "_law_row_here"] ["_law_state", "_law_due"] (defScope s__law_any):=⟨rfl,rfl,rfl,by decide +kernel,rfl,by decide +kernel,by decide +kernel⟩
abbrev s__law_turns:Stmt:=top 56
theorem sc__law_turns:FnScope ["_law_state", "_law_rows", "_law_dues", "_law_rounds", "_law_handed", "_law_turns_here", "_law_due", "_law_first", "_law_outer"] ["_law_state", "_law_rows", "_law_dues"] (defScope s__law_turns):=⟨rfl,rfl,rfl,by decide +kernel,rfl,by decide +kernel,by decide +kernel⟩
abbrev s__law_names_told:Stmt:=top 57
theorem sc__law_names_told:FnScope ["_law_state", "_law_names_here", "_law_signs", "_law_drawn", "_law_bads", "_law_name_here", "_law_bad"] ["_law_state", "_law_names_here"] (defScope s__law_names_told):=⟨rfl,rfl,rfl,by decide +kernel,rfl,by decide +kernel,by decide +kernel⟩
abbrev s_law:Stmt:=top 58
theorem sc_law:FnScope ["_law_script", "_law_k", "_law_state", "_law_width", "_law_names_here", "_law_turn", "_law_rows", "_law_dues", "_law_j", "_law_due", "_law_many"] ["_law_script"] (defScope s_law):=⟨rfl,rfl,rfl,by decide +kernel,rfl,by decide +kernel,by decide +kernel⟩
def kindsAll (K:PySem.W.Frag) (cs:List Addr) (st:Addr):Bool:=PySem.W.isClsIn K st && (PySem.W.typeIn K (.ref st) == some (.type "type")) && (List.range 16).all fun k=>PySem.W.isClsIn K (cs.getD k 0) && (PySem.W.typeIn K (.ref (cs.getD k 0)) == some (.type "type")) && (PySem.W.mroIn K (cs.getD k 0) (.ref st) == some true) && (PySem.W.findIn K (.ref (cs.getD k 0)) "__class__" == some (some (.builtin "object.__class__"))) && (PySem.W.mroIn K (cs.getD k 0) (.type "object") == some true) && (List.range 16).all fun i=>PySem.W.mroIn K (cs.getD k 0) (.ref (cs.getD i 0)) == some (decide (i = k))
structure Ad where
 Set:Addr
 Copy:Addr
 Sum:Addr
 Gap:Addr
 Low:Addr
 High:Addr
 Left:Addr
 Right:Addr
 Slide:Addr
 And:Addr
 Or:Addr
 Unlike:Addr
 Under:Addr
 Pick:Addr
 Mark:Addr
 Turns:Addr
 Step:Addr
structure Txt (K:PySem.W.Frag) (mg:Str→Option Value) (c:Ad):Prop where
 n_isinstance:mg "isinstance" = none
 n_int:mg "int" = none
 n_bool:mg "bool" = none
 n_str:mg "str" = none
 n_list:mg "list" = none
 n_tuple:mg "tuple" = none
 n_dict:mg "dict" = none
 n_len:mg "len" = none
 n_max:mg "max" = none
 n_min:mg "min" = none
 n_range:mg "range" = none
 n_all:mg "all" = none
 g_Set:mg "Set" = some (.ref c.Set)
 cl_Set:Cls K c.Set
 na_Set_goal:NoAttr K c.Set "goal"
 na_Set_bits:NoAttr K c.Set "bits"
 g_Copy:mg "Copy" = some (.ref c.Copy)
 cl_Copy:Cls K c.Copy
 na_Copy_goal:NoAttr K c.Copy "goal"
 na_Copy_one:NoAttr K c.Copy "one"
 g_Sum:mg "Sum" = some (.ref c.Sum)
 cl_Sum:Cls K c.Sum
 na_Sum_goal:NoAttr K c.Sum "goal"
 na_Sum_carry:NoAttr K c.Sum "carry"
 na_Sum_one:NoAttr K c.Sum "one"
 na_Sum_other:NoAttr K c.Sum "other"
 g_Gap:mg "Gap" = some (.ref c.Gap)
 cl_Gap:Cls K c.Gap
 na_Gap_goal:NoAttr K c.Gap "goal"
 na_Gap_carry:NoAttr K c.Gap "carry"
 na_Gap_one:NoAttr K c.Gap "one"
 na_Gap_other:NoAttr K c.Gap "other"
 g_Low:mg "Low" = some (.ref c.Low)
 cl_Low:Cls K c.Low
 na_Low_goal:NoAttr K c.Low "goal"
 na_Low_one:NoAttr K c.Low "one"
 na_Low_other:NoAttr K c.Low "other"
 g_High:mg "High" = some (.ref c.High)
 cl_High:Cls K c.High
 na_High_goal:NoAttr K c.High "goal"
 na_High_one:NoAttr K c.High "one"
 na_High_other:NoAttr K c.High "other"
 g_Left:mg "Left" = some (.ref c.Left)
 cl_Left:Cls K c.Left
 na_Left_goal:NoAttr K c.Left "goal"
 na_Left_one:NoAttr K c.Left "one"
 na_Left_k:NoAttr K c.Left "k"
 g_Right:mg "Right" = some (.ref c.Right)
 cl_Right:Cls K c.Right
 na_Right_goal:NoAttr K c.Right "goal"
 na_Right_one:NoAttr K c.Right "one"
 na_Right_k:NoAttr K c.Right "k"
 g_Slide:mg "Slide" = some (.ref c.Slide)
 cl_Slide:Cls K c.Slide
 na_Slide_goal:NoAttr K c.Slide "goal"
 na_Slide_one:NoAttr K c.Slide "one"
 na_Slide_k:NoAttr K c.Slide "k"
 g_And:mg "And" = some (.ref c.And)
 cl_And:Cls K c.And
 na_And_goal:NoAttr K c.And "goal"
 na_And_one:NoAttr K c.And "one"
 na_And_other:NoAttr K c.And "other"
 g_Or:mg "Or" = some (.ref c.Or)
 cl_Or:Cls K c.Or
 na_Or_goal:NoAttr K c.Or "goal"
 na_Or_one:NoAttr K c.Or "one"
 na_Or_other:NoAttr K c.Or "other"
 g_Unlike:mg "Unlike" = some (.ref c.Unlike)
 cl_Unlike:Cls K c.Unlike
 na_Unlike_goal:NoAttr K c.Unlike "goal"
 na_Unlike_one:NoAttr K c.Unlike "one"
 na_Unlike_other:NoAttr K c.Unlike "other"
 g_Under:mg "Under" = some (.ref c.Under)
 cl_Under:Cls K c.Under
 na_Under_goal:NoAttr K c.Under "goal"
 na_Under_one:NoAttr K c.Under "one"
 na_Under_other:NoAttr K c.Under "other"
 g_Pick:mg "Pick" = some (.ref c.Pick)
 cl_Pick:Cls K c.Pick
 na_Pick_goal:NoAttr K c.Pick "goal"
 na_Pick_by:NoAttr K c.Pick "by"
 na_Pick_one:NoAttr K c.Pick "one"
 na_Pick_other:NoAttr K c.Pick "other"
 g_Mark:mg "Mark" = some (.ref c.Mark)
 cl_Mark:Cls K c.Mark
 na_Mark_line:NoAttr K c.Mark "line"
 na_Mark_mark:NoAttr K c.Mark "mark"
 na_Mark_by:NoAttr K c.Mark "by"
 g_Turns:mg "Turns" = some (.ref c.Turns)
 cl_Turns:Cls K c.Turns
 na_Turns_times:NoAttr K c.Turns "times"
 na_Turns_steps:NoAttr K c.Turns "steps"
 g_Step:mg "Step" = some (.ref c.Step)
 cl_Step:Cls K c.Step
 g_LETTERS:∃ t,mg "LETTERS" = some (.str "abcdefghijklmnopqrstuvwxyz" t)
 g_LETTERS_AND_FIGURES:∃ t,mg "LETTERS_AND_FIGURES" = some (.str "abcdefghijklmnopqrstuvwxyz0123456789" t)
 kf_og:PySem.W.specialIn K (.builtin "object.__class__") "__get__" = some (some (.builtin "getset_descriptor.__get__"))
 kf_ot:PySem.W.takesIn K (.builtin "object.__class__") = some true
 kf_kr_kinds:kindsAll K [c.Set,c.Copy,c.Sum,c.Gap,c.Low,c.High,c.Left,c.Right,c.Slide,c.And,c.Or,c.Unlike,c.Under,c.Pick,c.Mark,c.Turns] c.Step = true
theorem pw_bounds {w:Int} (h1:4≤w) (h2:w≤32):16≤(2:Int) ^ w.toNat∧(2:Int) ^ w.toNat≤4294967296:=by
 have a:(2:Int) ^ 4≤2 ^ w.toNat:=p_mono (by omega)
 have b:(2:Int) ^ w.toNat≤2 ^ 32:=p_mono (by omega)
 exact ⟨a,b⟩
theorem log_small {m:Int} (h0:0 < m) (h:m < 2 ^ 80):m.natAbs.log2 < 9000:=by
 have h1:m.natAbs ≠ 0:=by omega
 have h2:m.natAbs < 2 ^ 80:=by omega
 have:=(Nat.log2_lt h1).mpr h2
 omega
theorem cmul_mod {x y m:Int} (h0:0 < m) (h:m≤2 ^ 64):CMul (x % m) y:=by
 have a:=Int.emod_nonneg x (show m ≠ 0 by omega)
 have b:=Int.emod_lt_of_pos x h0
 exact .inl ⟨by omega,by omega⟩
def spLaw (K:PySem.W.Frag):Sp:=fun vs H Q _=>∃ (a:Addr) (ns:List Int),vs = [.ref a]∧SqL K H a (ns.map V.int)∧ns.length≤63∧∀ H',Q (.bl true) H'
theorem b200 {x:Int} (h1:-(2 ^ 200) < x) (h2:x < 2 ^ 200):intBits x≤100000:=Nat.le_trans (intBits_le_iff.mpr (show x.natAbs < 2 ^ 200 by omega)) (by decide)
def spBox:Sp:=fun vs H Q _=>∃ c:Int,vs = [.int c]∧∀ p H',H p = none→Box H' p→Same H H'→Q (.ref p) H'
def spCell (K:PySem.W.Frag):Sp:=fun vs H Q _=>∃ (a:Addr) (ns:List Int) (k:Int),vs = [.ref a,.int k]∧SqL K H a (ns.map V.int)∧0≤k∧k≤1000∧∀ c:Int,Q (.int c) H
theorem iteC {c A B:Prop} [Decidable c] (h1:c→A) (h2:¬ c→B):if decide c = true then A else B:=by
 by_cases h:c
 ·exact iteD h (h1 h)
 ·exact iteDN h (h2 h)
theorem iteI {a b:Int} {A B:Prop} (h1:a = b→A) (h2:a ≠ b→B):if decide (V.int a = V.int b) = true then A else B:=iteC (fun z=>h1 (by injection z)) (fun z=>h2 (fun e=>z (congrArg V.int e)))
local macro_rules | `(tactic| walk_at "s")=>`(tactic| first
 | omega | assumption | exact ty_int | exact rfl | (dsimp only; omega) | exact cpow1 (by omega) (by omega) | exact ⟨by decide,by decide⟩ | exact ⟨by omega,log_small (by omega) (by omega)⟩
 | exact .inr ⟨by decide,by decide⟩ | exact .inl ⟨by decide,by decide⟩ | exact .inl ⟨by omega,by omega⟩ | exact .inr ⟨by omega,by omega⟩ | exact ⟨b200 (by omega) (by omega),b200 (by omega) (by omega)⟩
 | exact ⟨by decide,by decide,by decide⟩ | exact Nat.le_of_ble_eq_true rfl)
local macro_rules | `(tactic| walk_at "q")=>`(tactic| first | exact SqT.of (by first | assumption | exact upd_same) | exact SqL.of (by first | assumption | exact upd_same) | assumption)
local macro_rules | `(tactic| walk_at "o")=>`(tactic| repeat (first
 | refine ⟨_,rfl,?_⟩ | refine ⟨_,_,rfl,rfl,?_⟩ | with_reducible refine iteF ?_ | with_reducible refine iteT ?_
 | refine ⟨_,_,_,_,rfl,rfl,(by walk_at "q"),rfl,?_⟩
 | refine And.intro (by walk_at "s") ?_
 | refine ⟨_,_,rfl,?_⟩ | refine ⟨_,_,_,rfl,?_⟩
 | refine ⟨_,_,_,_,_,rfl,rfl,TyOf.int _,kit_int_int _,?_⟩ | refine ⟨_,_,_,_,_,rfl,rfl,TyOf.int _,kit_int_bool _,?_⟩
 | refine ⟨_,_,_,_,_,rfl,rfl,TyOf.bl _,rfl,?_⟩
 | refine ⟨_,_,_,_,_,rfl,rfl,TyOf.tup (by assumption),rfl,?_⟩
 | refine ⟨_,_,rfl,.inr (SqT.of (by assumption)),?_⟩ | refine ⟨_,_,rfl,.inl (SqL.of (by assumption)),?_⟩
 | with_reducible refine iteD (by omega) ?_ | with_reducible refine iteDN (by omega) ?_ | with_reducible refine iteN (by omega) ?_ | with_reducible refine iteNS (by omega) ?_
 | with_reducible refine iteNS rfl ?_))
local macro_rules | `(tactic| walk_at "c")=>`(tactic| first | with_reducible refine iteI ?_ ?_ | with_reducible refine iteIN ?_ ?_ | with_reducible refine iteC ?_ ?_ | with_reducible refine iteCN ?_ ?_ | refine ite2 ?_ ?_)
local macro_rules | `(tactic| walk_at "n")=>`(tactic| (intro z; injection z with z; revert z; decide +kernel))
def fOf (c:Ad):Nat→Addr
 | 0=>c.Set
 | 1=>c.Copy
 | 2=>c.Sum
 | 3=>c.Gap
 | 4=>c.Low
 | 5=>c.High
 | 6=>c.Left
 | 7=>c.Right
 | 8=>c.Slide
 | 9=>c.And
 | 10=>c.Or
 | 11=>c.Unlike
 | 12=>c.Under
 | 13=>c.Pick
 | 14=>c.Mark
 | 15=>c.Turns
 | _=>0
def wOf:Nat→Str
 | 0=>"set"
 | 1=>"copy"
 | 2=>"sum"
 | 3=>"gap"
 | 4=>"low"
 | 5=>"high"
 | 6=>"left"
 | 7=>"right"
 | 8=>"slide"
 | 9=>"and"
 | 10=>"or"
 | 11=>"unlike"
 | 12=>"under"
 | 13=>"pick"
 | 14=>"mark"
 | 15=>"turns"
 | _=>""
def nOf:Nat→List Str
 | 0=>["goal", "bits"]
 | 1=>["goal", "one"]
 | 2=>["goal", "carry", "one", "other"]
 | 3=>["goal", "carry", "one", "other"]
 | 4=>["goal", "one", "other"]
 | 5=>["goal", "one", "other"]
 | 6=>["goal", "one", "k"]
 | 7=>["goal", "one", "k"]
 | 8=>["goal", "one", "k"]
 | 9=>["goal", "one", "other"]
 | 10=>["goal", "one", "other"]
 | 11=>["goal", "one", "other"]
 | 12=>["goal", "one", "other"]
 | 13=>["goal", "by", "one", "other"]
 | 14=>["line", "mark", "by"]
 | 15=>["times", "steps"]
 | _=>[]
theorem len2 {as:List V} {f g:Str} (h:as.length = [f,g].length):∃ a0 a1,as = [a0,a1]:=by
 match as,h with
 | [a,b],_=>exact ⟨a,b,rfl⟩
theorem len3 {as:List V} {f g i:Str} (h:as.length = [f,g,i].length):∃ a0 a1 a2,as = [a0,a1,a2]:=by
 match as,h with
 | [a,b,d],_=>exact ⟨a,b,d,rfl⟩
theorem len4 {as:List V} {f g i j:Str} (h:as.length = [f,g,i,j].length):∃ a0 a1 a2 a3,as = [a0,a1,a2,a3]:=by
 match as,h with
 | [a,b,d,e],_=>exact ⟨a,b,d,e,rfl⟩
def spWd (s:Str):Sp:=fun vs H Q _=>∃ x:Addr,vs = [.ref x]∧Q (.str s) H
def spInit (K:PySem.W.Frag) (fs:List Str):Sp:=fun vs H Q _=>∃ (x C dx:Addr) (as:List V),vs = .ref x :: as∧as.length = fs.length∧H x = some (.ins C dx [])∧Cls K C∧(∀ f ∈ fs,NoAttr K C f)∧∀ H',H' x = some (.ins C dx (fs.zip as))→SameX x H H'→Q .non H'
def StepAt (c:Ad) (H:Hp) (x:Addr) (k:Nat) (fs:List V):Prop:=∃ dx,H x = some (.ins (fOf c k) dx ((nOf k).zip fs))∧fs.length = (nOf k).length
def spTold (c:Ad) (ks:List Nat):Sp:=fun vs H Q _=>∃ (x:Addr) (k:Nat) (fs:List V),vs = [.ref x]∧k ∈ ks∧StepAt c H x k fs∧∀ r,H r = none→Q (.ref r) (upd H r (.tup (.str (wOf k) :: fs)))
def inS (j i:Str):Bool:=!(Builtin.Str.occurrences j i 0 j.length 1).isEmpty
def LT:Str:="abcdefghijklmnopqrstuvwxyz"
def LF:Str:="abcdefghijklmnopqrstuvwxyz0123456789"
def isReg:V→Bool
 | .str z=>decide (1≤z.length) && decide (z.length≤8) && (match z.cps[0]? with | some n=>inS LT ⟨#[n]⟩ | none=>false) && z.cps.toList.all fun n=>inS LF ⟨#[n]⟩
 | _=>false
def spReg:Sp:=fun vs H Q _=>∃ x:V,vs = [x]∧Th H x∧(∀ z,x = .str z→z.length≤sizeLine)∧∀ H',Same H H'→Q (.bl (isReg x)) H'
theorem kit_int_str (K:PySem.W.Frag):PySem.W.kitOne K (.type "int") (.type "str") = some false:=by with_unfolding_all rfl
theorem kit_bl_str (K:PySem.W.Frag):PySem.W.kitOne K (.type "bool") (.type "str") = some false:=by with_unfolding_all rfl
theorem kit_non_str (K:PySem.W.Frag):PySem.W.kitOne K (.type "NoneType") (.type "str") = some false:=by with_unfolding_all rfl
theorem kit_lst_str (K:PySem.W.Frag):PySem.W.kitOne K (.type "list") (.type "str") = some false:=by with_unfolding_all rfl
theorem kit_tup_str (K:PySem.W.Frag):PySem.W.kitOne K (.type "tuple") (.type "str") = some false:=by with_unfolding_all rfl
theorem kit_dct_str (K:PySem.W.Frag):PySem.W.kitOne K (.type "dict") (.type "str") = some false:=by with_unfolding_all rfl
theorem kit_str_str (K:PySem.W.Frag):PySem.W.kitOne K (.type "str") (.type "str") = some true:=by with_unfolding_all rfl
def spInitT (K:PySem.W.Frag):Sp:=fun vs H Q _=>∃ (x C dx l:Addr) (n:V) (xs:List V),vs = [.ref x,n,.ref l]∧H x = some (.ins C dx [])∧H l = some (.lst xs)∧Cls K C∧(∀ f ∈ ["times", "steps"],NoAttr K C f)∧∀ l' H',H l' = none→H' x = some (.ins C dx [("times",n),("steps",.ref l')])→H' l' = some (.lst xs)→SameX x H H'→Q .non H'
def TurnsAt (c:Ad) (H:Hp) (x:Addr) (n:V) (xs:List V):Prop:=∃ dx l,H x = some (.ins c.Turns dx [("times",n),("steps",.ref l)])∧H l = some (.lst xs)
def RowsAt (c:Ad) (H:Hp) (xs:List V) (rs:List (Nat × List V)):Prop:=xs.length = rs.length∧∀ (i:Nat) x r,xs[i]? = some x→rs[i]? = some r→r.1 < 15∧∃ a,x = .ref a∧StepAt c H a r.1 r.2
def ToldAt (H:Hp) (ys:List V) (rs:List (Nat × List V)):Prop:=ys.length = rs.length∧∀ (i:Nat) y r,ys[i]? = some y→rs[i]? = some r→∃ a,y = .ref a∧H a = some (.tup (.str (wOf r.1) :: r.2))
def spToldT (c:Ad):Sp:=fun vs H Q _=>∃ (x:Addr) (n:V) (xs:List V) (rs:List (Nat × List V)),vs = [.ref x]∧TurnsAt c H x n xs∧RowsAt c H xs rs∧rs.length≤100∧∀ (r L:Addr) (ys:List V) H',H r = none→H L = none→H' r = some (.tup [.str "turns",n,.ref L])→H' L = some (.lst ys)→ToldAt H' ys rs→Same H H'→Q (.ref r) H'
theorem StepAt.same {c:Ad} {H H':Hp} {x:Addr} {k:Nat} {fs:List V} (h:StepAt c H x k fs) (s:Same H H'):StepAt c H' x k fs:=let ⟨dx,e,l⟩:=h; ⟨dx,s _ _ e,l⟩
theorem ToldAt.nil {H:Hp}:ToldAt H [] []:=⟨rfl,fun i y r h=>by simp at h⟩
theorem ToldAt.same {H H':Hp} {ys:List V} {rs:List (Nat × List V)} (h:ToldAt H ys rs) (s:∀ a xs,H a = some (.tup xs)→H' a = some (.tup xs)):ToldAt H' ys rs:=⟨h.1,fun i y r e1 e2=>let ⟨a,e,t⟩:=h.2 i y r e1 e2; ⟨a,e,s _ _ t⟩⟩
theorem ToldAt.snoc {H:Hp} {ys:List V} {rs:List (Nat × List V)} {a:Addr} {r:Nat × List V} (h:ToldAt H ys rs) (t:H a = some (.tup (.str (wOf r.1) :: r.2))):ToldAt H (ys ++ [.ref a]) (rs ++ [r]):=by
 refine ⟨by rw [List.length_append,List.length_append,h.1]; rfl,fun i y q e1 e2=>?_⟩
 by_cases hi:i < ys.length
 ·rw [List.getElem?_append_left hi] at e1
  rw [List.getElem?_append_left (by rw [← h.1]; exact hi)] at e2
  exact h.2 i y q e1 e2
 ·have l:=(List.getElem?_eq_some_iff.mp e1).1
  rw [List.length_append,List.length_singleton] at l
  have e:i = ys.length:=by omega
  subst e
  rw [List.getElem?_append_right (Nat.le_refl _),Nat.sub_self] at e1
  rw [List.getElem?_append_right (by rw [h.1]; exact Nat.le_refl _),h.1,Nat.sub_self] at e2
  cases e1
  cases e2
  exact ⟨a,rfl,t⟩
theorem nOf_told {k:Nat} {fs:List V} (h:k < 15):((nOf k).zip fs).lookup ("told":Str) = none:=by
 have e:∀ (ns:List Str) (fs:List V),("told":Str) ∉ ns→(ns.zip fs).lookup ("told":Str) = none:=fun ns=>by
  induction ns with
  | nil=>intro fs _; rfl
  | cons a t ih =>
   intro fs hn
   cases fs with
   | nil=>rfl
   | cons b u =>
    show (match ("told":Str) == a with | true=>some b | false=>(t.zip u).lookup ("told":Str)) = none
    rw [show (("told":Str) == a) = false from beq_eq_false_iff_ne.mpr fun z=>hn (by rw [z]; exact List.mem_cons_self ..)]
    exact ih u fun z=>hn (List.mem_cons_of_mem _ z)
 refine e _ _ ?_
 rcases (by omega:k = 0∨k = 1∨k = 2∨k = 3∨k = 4∨k = 5∨k = 6∨k = 7∨k = 8∨k = 9∨k = 10∨k = 11∨k = 12∨k = 13∨k = 14) with rfl | rfl | rfl | rfl | rfl | rfl | rfl | rfl | rfl | rfl | rfl | rfl | rfl | rfl | rfl <;> decide +kernel
theorem Same.updL {H H':Hp} {l:Addr} {o:HO} (s:Same H H') (hl:H l = none):Same H (upd H' l o):=fun b u e=>by rw [upd_ne (ne_of_none e hl)]; exact s b u e
theorem Same.none {H H':Hp} (s:Same H H') {l:Addr} (h:H' l = none):H l = none:=by
 cases e:H l with
 | none=>rfl
 | some o=>rw [s _ _ e] at h; cases h
def spTake3:Sp:=fun vs H Q _=>∃ (p:Addr) (m:Int),vs = [.ref p,.int m]∧Box H p∧0 < m∧m < 2 ^ 80∧∀ (d:Int) H',0≤d→d < m→Box H' p→SameX p H H'→Q (.int d) H'
theorem at0 (v:V) (r:List V):atI (v :: r) 0 = some v:=by
 show atI (v :: r) ((0:Nat):Int) = some v
 rw [atI_nat]
 rfl
section
variable {P:Program} {w:World} {K:PySem.W.Frag} {mg:Str→Option Value} {base:Heap} {c:Ad}
theorem ok_Set_word {f:Addr} {fd:FuncData} (F:Fun K "word" "Set.word" s_Set_word f fd) (T:Txt K mg c) :FnOk P w K mg base CX0 1 f fd ["self"] (spWd "set"):=by
 refine F.ok sc_Set_word (fun vs H Q E h=>?_) (fun cdv A outer s H vs Q E hr h=>?_)
 ·obtain ⟨x,rfl,_⟩:=h
  rfl
 obtain ⟨x,rfl,q⟩:=h
 exact ⟨_,(pss_one (ps_ret pe_str)),q⟩
theorem ok_Copy_word {f:Addr} {fd:FuncData} (F:Fun K "word" "Copy.word" s_Copy_word f fd) (T:Txt K mg c) :FnOk P w K mg base CX0 1 f fd ["self"] (spWd "copy"):=by
 refine F.ok sc_Copy_word (fun vs H Q E h=>?_) (fun cdv A outer s H vs Q E hr h=>?_)
 ·obtain ⟨x,rfl,_⟩:=h
  rfl
 obtain ⟨x,rfl,q⟩:=h
 exact ⟨_,(pss_one (ps_ret pe_str)),q⟩
theorem ok_Sum_word {f:Addr} {fd:FuncData} (F:Fun K "word" "Sum.word" s_Sum_word f fd) (T:Txt K mg c) :FnOk P w K mg base CX0 1 f fd ["self"] (spWd "sum"):=by
 refine F.ok sc_Sum_word (fun vs H Q E h=>?_) (fun cdv A outer s H vs Q E hr h=>?_)
 ·obtain ⟨x,rfl,_⟩:=h
  rfl
 obtain ⟨x,rfl,q⟩:=h
 exact ⟨_,(pss_one (ps_ret pe_str)),q⟩
theorem ok_Gap_word {f:Addr} {fd:FuncData} (F:Fun K "word" "Gap.word" s_Gap_word f fd) (T:Txt K mg c) :FnOk P w K mg base CX0 1 f fd ["self"] (spWd "gap"):=by
 refine F.ok sc_Gap_word (fun vs H Q E h=>?_) (fun cdv A outer s H vs Q E hr h=>?_)
 ·obtain ⟨x,rfl,_⟩:=h
  rfl
 obtain ⟨x,rfl,q⟩:=h
 exact ⟨_,(pss_one (ps_ret pe_str)),q⟩
theorem ok_Low_word {f:Addr} {fd:FuncData} (F:Fun K "word" "Low.word" s_Low_word f fd) (T:Txt K mg c) :FnOk P w K mg base CX0 1 f fd ["self"] (spWd "low"):=by
 refine F.ok sc_Low_word (fun vs H Q E h=>?_) (fun cdv A outer s H vs Q E hr h=>?_)
 ·obtain ⟨x,rfl,_⟩:=h
  rfl
 obtain ⟨x,rfl,q⟩:=h
 exact ⟨_,(pss_one (ps_ret pe_str)),q⟩
theorem ok_High_word {f:Addr} {fd:FuncData} (F:Fun K "word" "High.word" s_High_word f fd) (T:Txt K mg c) :FnOk P w K mg base CX0 1 f fd ["self"] (spWd "high"):=by
 refine F.ok sc_High_word (fun vs H Q E h=>?_) (fun cdv A outer s H vs Q E hr h=>?_)
 ·obtain ⟨x,rfl,_⟩:=h
  rfl
 obtain ⟨x,rfl,q⟩:=h
 exact ⟨_,(pss_one (ps_ret pe_str)),q⟩
theorem ok_Left_word {f:Addr} {fd:FuncData} (F:Fun K "word" "Left.word" s_Left_word f fd) (T:Txt K mg c) :FnOk P w K mg base CX0 1 f fd ["self"] (spWd "left"):=by
 refine F.ok sc_Left_word (fun vs H Q E h=>?_) (fun cdv A outer s H vs Q E hr h=>?_)
 ·obtain ⟨x,rfl,_⟩:=h
  rfl
 obtain ⟨x,rfl,q⟩:=h
 exact ⟨_,(pss_one (ps_ret pe_str)),q⟩
theorem ok_Right_word {f:Addr} {fd:FuncData} (F:Fun K "word" "Right.word" s_Right_word f fd) (T:Txt K mg c) :FnOk P w K mg base CX0 1 f fd ["self"] (spWd "right"):=by
 refine F.ok sc_Right_word (fun vs H Q E h=>?_) (fun cdv A outer s H vs Q E hr h=>?_)
 ·obtain ⟨x,rfl,_⟩:=h
  rfl
 obtain ⟨x,rfl,q⟩:=h
 exact ⟨_,(pss_one (ps_ret pe_str)),q⟩
theorem ok_Slide_word {f:Addr} {fd:FuncData} (F:Fun K "word" "Slide.word" s_Slide_word f fd) (T:Txt K mg c) :FnOk P w K mg base CX0 1 f fd ["self"] (spWd "slide"):=by
 refine F.ok sc_Slide_word (fun vs H Q E h=>?_) (fun cdv A outer s H vs Q E hr h=>?_)
 ·obtain ⟨x,rfl,_⟩:=h
  rfl
 obtain ⟨x,rfl,q⟩:=h
 exact ⟨_,(pss_one (ps_ret pe_str)),q⟩
theorem ok_And_word {f:Addr} {fd:FuncData} (F:Fun K "word" "And.word" s_And_word f fd) (T:Txt K mg c) :FnOk P w K mg base CX0 1 f fd ["self"] (spWd "and"):=by
 refine F.ok sc_And_word (fun vs H Q E h=>?_) (fun cdv A outer s H vs Q E hr h=>?_)
 ·obtain ⟨x,rfl,_⟩:=h
  rfl
 obtain ⟨x,rfl,q⟩:=h
 exact ⟨_,(pss_one (ps_ret pe_str)),q⟩
theorem ok_Or_word {f:Addr} {fd:FuncData} (F:Fun K "word" "Or.word" s_Or_word f fd) (T:Txt K mg c) :FnOk P w K mg base CX0 1 f fd ["self"] (spWd "or"):=by
 refine F.ok sc_Or_word (fun vs H Q E h=>?_) (fun cdv A outer s H vs Q E hr h=>?_)
 ·obtain ⟨x,rfl,_⟩:=h
  rfl
 obtain ⟨x,rfl,q⟩:=h
 exact ⟨_,(pss_one (ps_ret pe_str)),q⟩
theorem ok_Unlike_word {f:Addr} {fd:FuncData} (F:Fun K "word" "Unlike.word" s_Unlike_word f fd) (T:Txt K mg c) :FnOk P w K mg base CX0 1 f fd ["self"] (spWd "unlike"):=by
 refine F.ok sc_Unlike_word (fun vs H Q E h=>?_) (fun cdv A outer s H vs Q E hr h=>?_)
 ·obtain ⟨x,rfl,_⟩:=h
  rfl
 obtain ⟨x,rfl,q⟩:=h
 exact ⟨_,(pss_one (ps_ret pe_str)),q⟩
theorem ok_Under_word {f:Addr} {fd:FuncData} (F:Fun K "word" "Under.word" s_Under_word f fd) (T:Txt K mg c) :FnOk P w K mg base CX0 1 f fd ["self"] (spWd "under"):=by
 refine F.ok sc_Under_word (fun vs H Q E h=>?_) (fun cdv A outer s H vs Q E hr h=>?_)
 ·obtain ⟨x,rfl,_⟩:=h
  rfl
 obtain ⟨x,rfl,q⟩:=h
 exact ⟨_,(pss_one (ps_ret pe_str)),q⟩
theorem ok_Pick_word {f:Addr} {fd:FuncData} (F:Fun K "word" "Pick.word" s_Pick_word f fd) (T:Txt K mg c) :FnOk P w K mg base CX0 1 f fd ["self"] (spWd "pick"):=by
 refine F.ok sc_Pick_word (fun vs H Q E h=>?_) (fun cdv A outer s H vs Q E hr h=>?_)
 ·obtain ⟨x,rfl,_⟩:=h
  rfl
 obtain ⟨x,rfl,q⟩:=h
 exact ⟨_,(pss_one (ps_ret pe_str)),q⟩
theorem ok_Mark_word {f:Addr} {fd:FuncData} (F:Fun K "word" "Mark.word" s_Mark_word f fd) (T:Txt K mg c) :FnOk P w K mg base CX0 1 f fd ["self"] (spWd "mark"):=by
 refine F.ok sc_Mark_word (fun vs H Q E h=>?_) (fun cdv A outer s H vs Q E hr h=>?_)
 ·obtain ⟨x,rfl,_⟩:=h
  rfl
 obtain ⟨x,rfl,q⟩:=h
 exact ⟨_,(pss_one (ps_ret pe_str)),q⟩
theorem ok_Turns_word {f:Addr} {fd:FuncData} (F:Fun K "word" "Turns.word" s_Turns_word f fd) (T:Txt K mg c) :FnOk P w K mg base CX0 1 f fd ["self"] (spWd "turns"):=by
 refine F.ok sc_Turns_word (fun vs H Q E h=>?_) (fun cdv A outer s H vs Q E hr h=>?_)
 ·obtain ⟨x,rfl,_⟩:=h
  rfl
 obtain ⟨x,rfl,q⟩:=h
 exact ⟨_,(pss_one (ps_ret pe_str)),q⟩
theorem ok_Set___init__ {f:Addr} {fd:FuncData} (F:Fun K "__init__" "Set.__init__" s_Set___init__ f fd) (T:Txt K mg c) :FnOk P w K mg base CX0 1 f fd ["self", "goal", "bits"] (spInit K ["goal", "bits"]):=by
 refine F.ok sc_Set___init__ (fun vs H Q E h=>?_) (fun cdv A outer s H vs Q E hr h=>?_)
 ·obtain ⟨x,C,dx,as,rfl,ln,_⟩:=h
  rw [List.length_cons,ln]
  rfl
 obtain ⟨x,C,dx,as,rfl,ln,hx,cl,na,q⟩:=h
 obtain ⟨a0,a1,rfl⟩:=len2 ln
 refine ⟨_,(pss_cons (ps_fld (pv 0) (pv 1) rfl)
  (pss_one (ps_fld (pv 0) (pv 2) rfl))),?_⟩
 refine ⟨_,rfl,_,rfl,x,C,dx,_,rfl,hx,cl,na _ (by simp),(by show 0 < 1000; decide),?_⟩
 refine ⟨_,rfl,_,rfl,x,C,dx,_,rfl,upd_same,cl,na _ (by simp),(by show 1 < 1000; decide),?_⟩
 exact q _ upd_same (SameX.upd.trans (SameX.upd))
theorem ok_Copy___init__ {f:Addr} {fd:FuncData} (F:Fun K "__init__" "Copy.__init__" s_Copy___init__ f fd) (T:Txt K mg c) :FnOk P w K mg base CX0 1 f fd ["self", "goal", "one"] (spInit K ["goal", "one"]):=by
 refine F.ok sc_Copy___init__ (fun vs H Q E h=>?_) (fun cdv A outer s H vs Q E hr h=>?_)
 ·obtain ⟨x,C,dx,as,rfl,ln,_⟩:=h
  rw [List.length_cons,ln]
  rfl
 obtain ⟨x,C,dx,as,rfl,ln,hx,cl,na,q⟩:=h
 obtain ⟨a0,a1,rfl⟩:=len2 ln
 refine ⟨_,(pss_cons (ps_fld (pv 0) (pv 1) rfl)
  (pss_one (ps_fld (pv 0) (pv 2) rfl))),?_⟩
 refine ⟨_,rfl,_,rfl,x,C,dx,_,rfl,hx,cl,na _ (by simp),(by show 0 < 1000; decide),?_⟩
 refine ⟨_,rfl,_,rfl,x,C,dx,_,rfl,upd_same,cl,na _ (by simp),(by show 1 < 1000; decide),?_⟩
 exact q _ upd_same (SameX.upd.trans (SameX.upd))
theorem ok_Carrying___init__ {f:Addr} {fd:FuncData} (F:Fun K "__init__" "Carrying.__init__" s_Carrying___init__ f fd) (T:Txt K mg c) :FnOk P w K mg base CX0 1 f fd ["self", "goal", "carry", "one", "other"] (spInit K ["goal", "carry", "one", "other"]):=by
 refine F.ok sc_Carrying___init__ (fun vs H Q E h=>?_) (fun cdv A outer s H vs Q E hr h=>?_)
 ·obtain ⟨x,C,dx,as,rfl,ln,_⟩:=h
  rw [List.length_cons,ln]
  rfl
 obtain ⟨x,C,dx,as,rfl,ln,hx,cl,na,q⟩:=h
 obtain ⟨a0,a1,a2,a3,rfl⟩:=len4 ln
 refine ⟨_,(pss_cons (ps_fld (pv 0) (pv 1) rfl)
  (pss_cons (ps_fld (pv 0) (pv 2) rfl)
  (pss_cons (ps_fld (pv 0) (pv 3) rfl)
  (pss_one (ps_fld (pv 0) (pv 4) rfl))))),?_⟩
 refine ⟨_,rfl,_,rfl,x,C,dx,_,rfl,hx,cl,na _ (by simp),(by show 0 < 1000; decide),?_⟩
 refine ⟨_,rfl,_,rfl,x,C,dx,_,rfl,upd_same,cl,na _ (by simp),(by show 1 < 1000; decide),?_⟩
 refine ⟨_,rfl,_,rfl,x,C,dx,_,rfl,upd_same,cl,na _ (by simp),(by show 2 < 1000; decide),?_⟩
 refine ⟨_,rfl,_,rfl,x,C,dx,_,rfl,upd_same,cl,na _ (by simp),(by show 3 < 1000; decide),?_⟩
 exact q _ upd_same (SameX.upd.trans (SameX.upd.trans (SameX.upd.trans (SameX.upd))))
theorem ok_Joining___init__ {f:Addr} {fd:FuncData} (F:Fun K "__init__" "Joining.__init__" s_Joining___init__ f fd) (T:Txt K mg c) :FnOk P w K mg base CX0 1 f fd ["self", "goal", "one", "other"] (spInit K ["goal", "one", "other"]):=by
 refine F.ok sc_Joining___init__ (fun vs H Q E h=>?_) (fun cdv A outer s H vs Q E hr h=>?_)
 ·obtain ⟨x,C,dx,as,rfl,ln,_⟩:=h
  rw [List.length_cons,ln]
  rfl
 obtain ⟨x,C,dx,as,rfl,ln,hx,cl,na,q⟩:=h
 obtain ⟨a0,a1,a2,rfl⟩:=len3 ln
 refine ⟨_,(pss_cons (ps_fld (pv 0) (pv 1) rfl)
  (pss_cons (ps_fld (pv 0) (pv 2) rfl)
  (pss_one (ps_fld (pv 0) (pv 3) rfl)))),?_⟩
 refine ⟨_,rfl,_,rfl,x,C,dx,_,rfl,hx,cl,na _ (by simp),(by show 0 < 1000; decide),?_⟩
 refine ⟨_,rfl,_,rfl,x,C,dx,_,rfl,upd_same,cl,na _ (by simp),(by show 1 < 1000; decide),?_⟩
 refine ⟨_,rfl,_,rfl,x,C,dx,_,rfl,upd_same,cl,na _ (by simp),(by show 2 < 1000; decide),?_⟩
 exact q _ upd_same (SameX.upd.trans (SameX.upd.trans (SameX.upd)))
theorem ok_Moving___init__ {f:Addr} {fd:FuncData} (F:Fun K "__init__" "Moving.__init__" s_Moving___init__ f fd) (T:Txt K mg c) :FnOk P w K mg base CX0 1 f fd ["self", "goal", "one", "k"] (spInit K ["goal", "one", "k"]):=by
 refine F.ok sc_Moving___init__ (fun vs H Q E h=>?_) (fun cdv A outer s H vs Q E hr h=>?_)
 ·obtain ⟨x,C,dx,as,rfl,ln,_⟩:=h
  rw [List.length_cons,ln]
  rfl
 obtain ⟨x,C,dx,as,rfl,ln,hx,cl,na,q⟩:=h
 obtain ⟨a0,a1,a2,rfl⟩:=len3 ln
 refine ⟨_,(pss_cons (ps_fld (pv 0) (pv 1) rfl)
  (pss_cons (ps_fld (pv 0) (pv 2) rfl)
  (pss_one (ps_fld (pv 0) (pv 3) rfl)))),?_⟩
 refine ⟨_,rfl,_,rfl,x,C,dx,_,rfl,hx,cl,na _ (by simp),(by show 0 < 1000; decide),?_⟩
 refine ⟨_,rfl,_,rfl,x,C,dx,_,rfl,upd_same,cl,na _ (by simp),(by show 1 < 1000; decide),?_⟩
 refine ⟨_,rfl,_,rfl,x,C,dx,_,rfl,upd_same,cl,na _ (by simp),(by show 2 < 1000; decide),?_⟩
 exact q _ upd_same (SameX.upd.trans (SameX.upd.trans (SameX.upd)))
theorem ok_Pick___init__ {f:Addr} {fd:FuncData} (F:Fun K "__init__" "Pick.__init__" s_Pick___init__ f fd) (T:Txt K mg c) :FnOk P w K mg base CX0 1 f fd ["self", "goal", "by", "one", "other"] (spInit K ["goal", "by", "one", "other"]):=by
 refine F.ok sc_Pick___init__ (fun vs H Q E h=>?_) (fun cdv A outer s H vs Q E hr h=>?_)
 ·obtain ⟨x,C,dx,as,rfl,ln,_⟩:=h
  rw [List.length_cons,ln]
  rfl
 obtain ⟨x,C,dx,as,rfl,ln,hx,cl,na,q⟩:=h
 obtain ⟨a0,a1,a2,a3,rfl⟩:=len4 ln
 refine ⟨_,(pss_cons (ps_fld (pv 0) (pv 1) rfl)
  (pss_cons (ps_fld (pv 0) (pv 2) rfl)
  (pss_cons (ps_fld (pv 0) (pv 3) rfl)
  (pss_one (ps_fld (pv 0) (pv 4) rfl))))),?_⟩
 refine ⟨_,rfl,_,rfl,x,C,dx,_,rfl,hx,cl,na _ (by simp),(by show 0 < 1000; decide),?_⟩
 refine ⟨_,rfl,_,rfl,x,C,dx,_,rfl,upd_same,cl,na _ (by simp),(by show 1 < 1000; decide),?_⟩
 refine ⟨_,rfl,_,rfl,x,C,dx,_,rfl,upd_same,cl,na _ (by simp),(by show 2 < 1000; decide),?_⟩
 refine ⟨_,rfl,_,rfl,x,C,dx,_,rfl,upd_same,cl,na _ (by simp),(by show 3 < 1000; decide),?_⟩
 exact q _ upd_same (SameX.upd.trans (SameX.upd.trans (SameX.upd.trans (SameX.upd))))
theorem ok_Mark___init__ {f:Addr} {fd:FuncData} (F:Fun K "__init__" "Mark.__init__" s_Mark___init__ f fd) (T:Txt K mg c) :FnOk P w K mg base CX0 1 f fd ["self", "line", "mark", "by"] (spInit K ["line", "mark", "by"]):=by
 refine F.ok sc_Mark___init__ (fun vs H Q E h=>?_) (fun cdv A outer s H vs Q E hr h=>?_)
 ·obtain ⟨x,C,dx,as,rfl,ln,_⟩:=h
  rw [List.length_cons,ln]
  rfl
 obtain ⟨x,C,dx,as,rfl,ln,hx,cl,na,q⟩:=h
 obtain ⟨a0,a1,a2,rfl⟩:=len3 ln
 refine ⟨_,(pss_cons (ps_fld (pv 0) (pv 1) rfl)
  (pss_cons (ps_fld (pv 0) (pv 2) rfl)
  (pss_one (ps_fld (pv 0) (pv 3) rfl)))),?_⟩
 refine ⟨_,rfl,_,rfl,x,C,dx,_,rfl,hx,cl,na _ (by simp),(by show 0 < 1000; decide),?_⟩
 refine ⟨_,rfl,_,rfl,x,C,dx,_,rfl,upd_same,cl,na _ (by simp),(by show 1 < 1000; decide),?_⟩
 refine ⟨_,rfl,_,rfl,x,C,dx,_,rfl,upd_same,cl,na _ (by simp),(by show 2 < 1000; decide),?_⟩
 exact q _ upd_same (SameX.upd.trans (SameX.upd.trans (SameX.upd)))
theorem Txt.clF {K:PySem.W.Frag} {mg:Str→Option Value} {c:Ad} (T:Txt K mg c) {k:Nat} (h:k < 16):Cls K (fOf c k)∧∀ f ∈ nOf k,NoAttr K (fOf c k) f:=by
 rcases (by omega:k = 0∨k = 1∨k = 2∨k = 3∨k = 4∨k = 5∨k = 6∨k = 7∨k = 8∨k = 9∨k = 10∨k = 11∨k = 12∨k = 13∨k = 14∨k = 15) with rfl | rfl | rfl | rfl | rfl | rfl | rfl | rfl | rfl | rfl | rfl | rfl | rfl | rfl | rfl | rfl
 ·exact ⟨T.cl_Set,List.forall_mem_cons.mpr ⟨T.na_Set_goal,List.forall_mem_cons.mpr ⟨T.na_Set_bits,fun _ h=>nomatch h⟩⟩⟩
 ·exact ⟨T.cl_Copy,List.forall_mem_cons.mpr ⟨T.na_Copy_goal,List.forall_mem_cons.mpr ⟨T.na_Copy_one,fun _ h=>nomatch h⟩⟩⟩
 ·exact ⟨T.cl_Sum,List.forall_mem_cons.mpr ⟨T.na_Sum_goal,List.forall_mem_cons.mpr ⟨T.na_Sum_carry,List.forall_mem_cons.mpr ⟨T.na_Sum_one,List.forall_mem_cons.mpr ⟨T.na_Sum_other,fun _ h=>nomatch h⟩⟩⟩⟩⟩
 ·exact ⟨T.cl_Gap,List.forall_mem_cons.mpr ⟨T.na_Gap_goal,List.forall_mem_cons.mpr ⟨T.na_Gap_carry,List.forall_mem_cons.mpr ⟨T.na_Gap_one,List.forall_mem_cons.mpr ⟨T.na_Gap_other,fun _ h=>nomatch h⟩⟩⟩⟩⟩
 ·exact ⟨T.cl_Low,List.forall_mem_cons.mpr ⟨T.na_Low_goal,List.forall_mem_cons.mpr ⟨T.na_Low_one,List.forall_mem_cons.mpr ⟨T.na_Low_other,fun _ h=>nomatch h⟩⟩⟩⟩
 ·exact ⟨T.cl_High,List.forall_mem_cons.mpr ⟨T.na_High_goal,List.forall_mem_cons.mpr ⟨T.na_High_one,List.forall_mem_cons.mpr ⟨T.na_High_other,fun _ h=>nomatch h⟩⟩⟩⟩
 ·exact ⟨T.cl_Left,List.forall_mem_cons.mpr ⟨T.na_Left_goal,List.forall_mem_cons.mpr ⟨T.na_Left_one,List.forall_mem_cons.mpr ⟨T.na_Left_k,fun _ h=>nomatch h⟩⟩⟩⟩
 ·exact ⟨T.cl_Right,List.forall_mem_cons.mpr ⟨T.na_Right_goal,List.forall_mem_cons.mpr ⟨T.na_Right_one,List.forall_mem_cons.mpr ⟨T.na_Right_k,fun _ h=>nomatch h⟩⟩⟩⟩
 ·exact ⟨T.cl_Slide,List.forall_mem_cons.mpr ⟨T.na_Slide_goal,List.forall_mem_cons.mpr ⟨T.na_Slide_one,List.forall_mem_cons.mpr ⟨T.na_Slide_k,fun _ h=>nomatch h⟩⟩⟩⟩
 ·exact ⟨T.cl_And,List.forall_mem_cons.mpr ⟨T.na_And_goal,List.forall_mem_cons.mpr ⟨T.na_And_one,List.forall_mem_cons.mpr ⟨T.na_And_other,fun _ h=>nomatch h⟩⟩⟩⟩
 ·exact ⟨T.cl_Or,List.forall_mem_cons.mpr ⟨T.na_Or_goal,List.forall_mem_cons.mpr ⟨T.na_Or_one,List.forall_mem_cons.mpr ⟨T.na_Or_other,fun _ h=>nomatch h⟩⟩⟩⟩
 ·exact ⟨T.cl_Unlike,List.forall_mem_cons.mpr ⟨T.na_Unlike_goal,List.forall_mem_cons.mpr ⟨T.na_Unlike_one,List.forall_mem_cons.mpr ⟨T.na_Unlike_other,fun _ h=>nomatch h⟩⟩⟩⟩
 ·exact ⟨T.cl_Under,List.forall_mem_cons.mpr ⟨T.na_Under_goal,List.forall_mem_cons.mpr ⟨T.na_Under_one,List.forall_mem_cons.mpr ⟨T.na_Under_other,fun _ h=>nomatch h⟩⟩⟩⟩
 ·exact ⟨T.cl_Pick,List.forall_mem_cons.mpr ⟨T.na_Pick_goal,List.forall_mem_cons.mpr ⟨T.na_Pick_by,List.forall_mem_cons.mpr ⟨T.na_Pick_one,List.forall_mem_cons.mpr ⟨T.na_Pick_other,fun _ h=>nomatch h⟩⟩⟩⟩⟩
 ·exact ⟨T.cl_Mark,List.forall_mem_cons.mpr ⟨T.na_Mark_line,List.forall_mem_cons.mpr ⟨T.na_Mark_mark,List.forall_mem_cons.mpr ⟨T.na_Mark_by,fun _ h=>nomatch h⟩⟩⟩⟩
 ·exact ⟨T.cl_Turns,List.forall_mem_cons.mpr ⟨T.na_Turns_times,List.forall_mem_cons.mpr ⟨T.na_Turns_steps,fun _ h=>nomatch h⟩⟩⟩
theorem ok_Set_told {f:Addr} {fd:FuncData} (F:Fun K "told" "Set.told" s_Set_told f fd) (T:Txt K mg c) :FnOk P w K mg base CX0 1 f fd ["self"] (spTold c [0]):=by
 refine F.ok sc_Set_told (fun vs H Q E h=>?_) (fun cdv A outer s H vs Q E hr h=>?_)
 ·obtain ⟨x,k,fs,rfl,_⟩:=h
  rfl
 obtain ⟨x,k,fs,rfl,hk,⟨dx,hx,ln⟩,q⟩:=h
 refine ⟨_,(pss_one (ps_ret (pe_tup (pa_cons pe_str (pa_cons (pe_fld (pv 0) rfl) (pa_cons (pe_fld (pv 0) rfl) pa_nil)))))),?_⟩
 simp only [List.mem_cons,List.not_mem_nil,or_false] at hk
 subst hk
 obtain ⟨a0,a1,rfl⟩:=len2 ln
 obtain ⟨cl,na⟩:=T.clF (k:=0) (by decide)
 refine ⟨_,rfl,x,_,dx,_,_,rfl,hx,cl,na _ (by simp [nOf]),rfl,_,rfl,x,_,dx,_,_,rfl,hx,cl,na _ (by simp [nOf]),rfl,(by show 3≤sizeLine; decide),fun r hr'=>q r hr'⟩
theorem ok_Copy_told {f:Addr} {fd:FuncData} (F:Fun K "told" "Copy.told" s_Copy_told f fd) (T:Txt K mg c) :FnOk P w K mg base CX0 1 f fd ["self"] (spTold c [1]):=by
 refine F.ok sc_Copy_told (fun vs H Q E h=>?_) (fun cdv A outer s H vs Q E hr h=>?_)
 ·obtain ⟨x,k,fs,rfl,_⟩:=h
  rfl
 obtain ⟨x,k,fs,rfl,hk,⟨dx,hx,ln⟩,q⟩:=h
 refine ⟨_,(pss_one (ps_ret (pe_tup (pa_cons pe_str (pa_cons (pe_fld (pv 0) rfl) (pa_cons (pe_fld (pv 0) rfl) pa_nil)))))),?_⟩
 simp only [List.mem_cons,List.not_mem_nil,or_false] at hk
 subst hk
 obtain ⟨a0,a1,rfl⟩:=len2 ln
 obtain ⟨cl,na⟩:=T.clF (k:=1) (by decide)
 refine ⟨_,rfl,x,_,dx,_,_,rfl,hx,cl,na _ (by simp [nOf]),rfl,_,rfl,x,_,dx,_,_,rfl,hx,cl,na _ (by simp [nOf]),rfl,(by show 3≤sizeLine; decide),fun r hr'=>q r hr'⟩
theorem ok_Carrying_told {f:Addr} {fd:FuncData} (F:Fun K "told" "Carrying.told" s_Carrying_told f fd) (T:Txt K mg c)  (MW:∀ i ∈ [2,3],MHas P w K mg base 1 (fOf c i) "word" ["self"] (spWd (wOf i))):FnOk P w K mg base CX0 2 f fd ["self"] (spTold c [2,3]):=by
 refine F.ok sc_Carrying_told (fun vs H Q E h=>?_) (fun cdv A outer s H vs Q E hr h=>?_)
 ·obtain ⟨x,k,fs,rfl,_⟩:=h
  rfl
 obtain ⟨x,k,fs,rfl,hk,⟨dx,hx,ln⟩,q⟩:=h
 refine ⟨_,(pss_one (ps_ret (pe_tup (pa_cons (pe_methP0 (k:=1) (pv 0) (hr.mono (by omega))) (pa_cons (pe_fld (pv 0) rfl) (pa_cons (pe_fld (pv 0) rfl) (pa_cons (pe_fld (pv 0) rfl) (pa_cons (pe_fld (pv 0) rfl) pa_nil)))))))),?_⟩
 have mw:=MW k hk
 simp only [List.mem_cons,List.not_mem_nil,or_false] at hk
 rcases hk with rfl | rfl
 ·obtain ⟨a0,a1,a2,a3,rfl⟩:=len4 ln
  obtain ⟨cl,na⟩:=T.clF (k:=2) (by decide)
  refine ⟨_,rfl,x,_,dx,_,_,_,rfl,hx,rfl,mw,x,rfl,_,rfl,x,_,dx,_,_,rfl,hx,cl,na _ (by simp [nOf]),rfl,_,rfl,x,_,dx,_,_,rfl,hx,cl,na _ (by simp [nOf]),rfl,_,rfl,x,_,dx,_,_,rfl,hx,cl,na _ (by simp [nOf]),rfl,_,rfl,x,_,dx,_,_,rfl,hx,cl,na _ (by simp [nOf]),rfl,(by show 5≤sizeLine; decide),fun r hr'=>q r hr'⟩
 ·obtain ⟨a0,a1,a2,a3,rfl⟩:=len4 ln
  obtain ⟨cl,na⟩:=T.clF (k:=3) (by decide)
  refine ⟨_,rfl,x,_,dx,_,_,_,rfl,hx,rfl,mw,x,rfl,_,rfl,x,_,dx,_,_,rfl,hx,cl,na _ (by simp [nOf]),rfl,_,rfl,x,_,dx,_,_,rfl,hx,cl,na _ (by simp [nOf]),rfl,_,rfl,x,_,dx,_,_,rfl,hx,cl,na _ (by simp [nOf]),rfl,_,rfl,x,_,dx,_,_,rfl,hx,cl,na _ (by simp [nOf]),rfl,(by show 5≤sizeLine; decide),fun r hr'=>q r hr'⟩
theorem ok_Joining_told {f:Addr} {fd:FuncData} (F:Fun K "told" "Joining.told" s_Joining_told f fd) (T:Txt K mg c)  (MW:∀ i ∈ [4,5,9,10,11,12],MHas P w K mg base 1 (fOf c i) "word" ["self"] (spWd (wOf i))):FnOk P w K mg base CX0 2 f fd ["self"] (spTold c [4,5,9,10,11,12]):=by
 refine F.ok sc_Joining_told (fun vs H Q E h=>?_) (fun cdv A outer s H vs Q E hr h=>?_)
 ·obtain ⟨x,k,fs,rfl,_⟩:=h
  rfl
 obtain ⟨x,k,fs,rfl,hk,⟨dx,hx,ln⟩,q⟩:=h
 refine ⟨_,(pss_one (ps_ret (pe_tup (pa_cons (pe_methP0 (k:=1) (pv 0) (hr.mono (by omega))) (pa_cons (pe_fld (pv 0) rfl) (pa_cons (pe_fld (pv 0) rfl) (pa_cons (pe_fld (pv 0) rfl) pa_nil))))))),?_⟩
 have mw:=MW k hk
 simp only [List.mem_cons,List.not_mem_nil,or_false] at hk
 rcases hk with rfl | rfl | rfl | rfl | rfl | rfl
 ·obtain ⟨a0,a1,a2,rfl⟩:=len3 ln
  obtain ⟨cl,na⟩:=T.clF (k:=4) (by decide)
  refine ⟨_,rfl,x,_,dx,_,_,_,rfl,hx,rfl,mw,x,rfl,_,rfl,x,_,dx,_,_,rfl,hx,cl,na _ (by simp [nOf]),rfl,_,rfl,x,_,dx,_,_,rfl,hx,cl,na _ (by simp [nOf]),rfl,_,rfl,x,_,dx,_,_,rfl,hx,cl,na _ (by simp [nOf]),rfl,(by show 4≤sizeLine; decide),fun r hr'=>q r hr'⟩
 ·obtain ⟨a0,a1,a2,rfl⟩:=len3 ln
  obtain ⟨cl,na⟩:=T.clF (k:=5) (by decide)
  refine ⟨_,rfl,x,_,dx,_,_,_,rfl,hx,rfl,mw,x,rfl,_,rfl,x,_,dx,_,_,rfl,hx,cl,na _ (by simp [nOf]),rfl,_,rfl,x,_,dx,_,_,rfl,hx,cl,na _ (by simp [nOf]),rfl,_,rfl,x,_,dx,_,_,rfl,hx,cl,na _ (by simp [nOf]),rfl,(by show 4≤sizeLine; decide),fun r hr'=>q r hr'⟩
 ·obtain ⟨a0,a1,a2,rfl⟩:=len3 ln
  obtain ⟨cl,na⟩:=T.clF (k:=9) (by decide)
  refine ⟨_,rfl,x,_,dx,_,_,_,rfl,hx,rfl,mw,x,rfl,_,rfl,x,_,dx,_,_,rfl,hx,cl,na _ (by simp [nOf]),rfl,_,rfl,x,_,dx,_,_,rfl,hx,cl,na _ (by simp [nOf]),rfl,_,rfl,x,_,dx,_,_,rfl,hx,cl,na _ (by simp [nOf]),rfl,(by show 4≤sizeLine; decide),fun r hr'=>q r hr'⟩
 ·obtain ⟨a0,a1,a2,rfl⟩:=len3 ln
  obtain ⟨cl,na⟩:=T.clF (k:=10) (by decide)
  refine ⟨_,rfl,x,_,dx,_,_,_,rfl,hx,rfl,mw,x,rfl,_,rfl,x,_,dx,_,_,rfl,hx,cl,na _ (by simp [nOf]),rfl,_,rfl,x,_,dx,_,_,rfl,hx,cl,na _ (by simp [nOf]),rfl,_,rfl,x,_,dx,_,_,rfl,hx,cl,na _ (by simp [nOf]),rfl,(by show 4≤sizeLine; decide),fun r hr'=>q r hr'⟩
 ·obtain ⟨a0,a1,a2,rfl⟩:=len3 ln
  obtain ⟨cl,na⟩:=T.clF (k:=11) (by decide)
  refine ⟨_,rfl,x,_,dx,_,_,_,rfl,hx,rfl,mw,x,rfl,_,rfl,x,_,dx,_,_,rfl,hx,cl,na _ (by simp [nOf]),rfl,_,rfl,x,_,dx,_,_,rfl,hx,cl,na _ (by simp [nOf]),rfl,_,rfl,x,_,dx,_,_,rfl,hx,cl,na _ (by simp [nOf]),rfl,(by show 4≤sizeLine; decide),fun r hr'=>q r hr'⟩
 ·obtain ⟨a0,a1,a2,rfl⟩:=len3 ln
  obtain ⟨cl,na⟩:=T.clF (k:=12) (by decide)
  refine ⟨_,rfl,x,_,dx,_,_,_,rfl,hx,rfl,mw,x,rfl,_,rfl,x,_,dx,_,_,rfl,hx,cl,na _ (by simp [nOf]),rfl,_,rfl,x,_,dx,_,_,rfl,hx,cl,na _ (by simp [nOf]),rfl,_,rfl,x,_,dx,_,_,rfl,hx,cl,na _ (by simp [nOf]),rfl,(by show 4≤sizeLine; decide),fun r hr'=>q r hr'⟩
theorem ok_Moving_told {f:Addr} {fd:FuncData} (F:Fun K "told" "Moving.told" s_Moving_told f fd) (T:Txt K mg c)  (MW:∀ i ∈ [6,7,8],MHas P w K mg base 1 (fOf c i) "word" ["self"] (spWd (wOf i))):FnOk P w K mg base CX0 2 f fd ["self"] (spTold c [6,7,8]):=by
 refine F.ok sc_Moving_told (fun vs H Q E h=>?_) (fun cdv A outer s H vs Q E hr h=>?_)
 ·obtain ⟨x,k,fs,rfl,_⟩:=h
  rfl
 obtain ⟨x,k,fs,rfl,hk,⟨dx,hx,ln⟩,q⟩:=h
 refine ⟨_,(pss_one (ps_ret (pe_tup (pa_cons (pe_methP0 (k:=1) (pv 0) (hr.mono (by omega))) (pa_cons (pe_fld (pv 0) rfl) (pa_cons (pe_fld (pv 0) rfl) (pa_cons (pe_fld (pv 0) rfl) pa_nil))))))),?_⟩
 have mw:=MW k hk
 simp only [List.mem_cons,List.not_mem_nil,or_false] at hk
 rcases hk with rfl | rfl | rfl
 ·obtain ⟨a0,a1,a2,rfl⟩:=len3 ln
  obtain ⟨cl,na⟩:=T.clF (k:=6) (by decide)
  refine ⟨_,rfl,x,_,dx,_,_,_,rfl,hx,rfl,mw,x,rfl,_,rfl,x,_,dx,_,_,rfl,hx,cl,na _ (by simp [nOf]),rfl,_,rfl,x,_,dx,_,_,rfl,hx,cl,na _ (by simp [nOf]),rfl,_,rfl,x,_,dx,_,_,rfl,hx,cl,na _ (by simp [nOf]),rfl,(by show 4≤sizeLine; decide),fun r hr'=>q r hr'⟩
 ·obtain ⟨a0,a1,a2,rfl⟩:=len3 ln
  obtain ⟨cl,na⟩:=T.clF (k:=7) (by decide)
  refine ⟨_,rfl,x,_,dx,_,_,_,rfl,hx,rfl,mw,x,rfl,_,rfl,x,_,dx,_,_,rfl,hx,cl,na _ (by simp [nOf]),rfl,_,rfl,x,_,dx,_,_,rfl,hx,cl,na _ (by simp [nOf]),rfl,_,rfl,x,_,dx,_,_,rfl,hx,cl,na _ (by simp [nOf]),rfl,(by show 4≤sizeLine; decide),fun r hr'=>q r hr'⟩
 ·obtain ⟨a0,a1,a2,rfl⟩:=len3 ln
  obtain ⟨cl,na⟩:=T.clF (k:=8) (by decide)
  refine ⟨_,rfl,x,_,dx,_,_,_,rfl,hx,rfl,mw,x,rfl,_,rfl,x,_,dx,_,_,rfl,hx,cl,na _ (by simp [nOf]),rfl,_,rfl,x,_,dx,_,_,rfl,hx,cl,na _ (by simp [nOf]),rfl,_,rfl,x,_,dx,_,_,rfl,hx,cl,na _ (by simp [nOf]),rfl,(by show 4≤sizeLine; decide),fun r hr'=>q r hr'⟩
theorem ok_Pick_told {f:Addr} {fd:FuncData} (F:Fun K "told" "Pick.told" s_Pick_told f fd) (T:Txt K mg c) :FnOk P w K mg base CX0 1 f fd ["self"] (spTold c [13]):=by
 refine F.ok sc_Pick_told (fun vs H Q E h=>?_) (fun cdv A outer s H vs Q E hr h=>?_)
 ·obtain ⟨x,k,fs,rfl,_⟩:=h
  rfl
 obtain ⟨x,k,fs,rfl,hk,⟨dx,hx,ln⟩,q⟩:=h
 refine ⟨_,(pss_one (ps_ret (pe_tup (pa_cons pe_str (pa_cons (pe_fld (pv 0) rfl) (pa_cons (pe_fld (pv 0) rfl) (pa_cons (pe_fld (pv 0) rfl) (pa_cons (pe_fld (pv 0) rfl) pa_nil)))))))),?_⟩
 simp only [List.mem_cons,List.not_mem_nil,or_false] at hk
 subst hk
 obtain ⟨a0,a1,a2,a3,rfl⟩:=len4 ln
 obtain ⟨cl,na⟩:=T.clF (k:=13) (by decide)
 refine ⟨_,rfl,x,_,dx,_,_,rfl,hx,cl,na _ (by simp [nOf]),rfl,_,rfl,x,_,dx,_,_,rfl,hx,cl,na _ (by simp [nOf]),rfl,_,rfl,x,_,dx,_,_,rfl,hx,cl,na _ (by simp [nOf]),rfl,_,rfl,x,_,dx,_,_,rfl,hx,cl,na _ (by simp [nOf]),rfl,(by show 5≤sizeLine; decide),fun r hr'=>q r hr'⟩
theorem ok_Mark_told {f:Addr} {fd:FuncData} (F:Fun K "told" "Mark.told" s_Mark_told f fd) (T:Txt K mg c) :FnOk P w K mg base CX0 1 f fd ["self"] (spTold c [14]):=by
 refine F.ok sc_Mark_told (fun vs H Q E h=>?_) (fun cdv A outer s H vs Q E hr h=>?_)
 ·obtain ⟨x,k,fs,rfl,_⟩:=h
  rfl
 obtain ⟨x,k,fs,rfl,hk,⟨dx,hx,ln⟩,q⟩:=h
 refine ⟨_,(pss_one (ps_ret (pe_tup (pa_cons pe_str (pa_cons (pe_fld (pv 0) rfl) (pa_cons (pe_fld (pv 0) rfl) (pa_cons (pe_fld (pv 0) rfl) pa_nil))))))),?_⟩
 simp only [List.mem_cons,List.not_mem_nil,or_false] at hk
 subst hk
 obtain ⟨a0,a1,a2,rfl⟩:=len3 ln
 obtain ⟨cl,na⟩:=T.clF (k:=14) (by decide)
 refine ⟨_,rfl,x,_,dx,_,_,rfl,hx,cl,na _ (by simp [nOf]),rfl,_,rfl,x,_,dx,_,_,rfl,hx,cl,na _ (by simp [nOf]),rfl,_,rfl,x,_,dx,_,_,rfl,hx,cl,na _ (by simp [nOf]),rfl,(by show 4≤sizeLine; decide),fun r hr'=>q r hr'⟩
theorem ok_is_register {f:Addr} {fd:FuncData} (F:Fun K "is_register" "is_register" s_is_register f fd) (T:Txt K mg c) :FnOk P w K mg base CX0 1 f fd ["thing"] spReg:=by
 refine F.ok sc_is_register (fun vs H Q E h=>?_) (fun cdv A outer s H vs Q E hr h=>?_)
 ·obtain ⟨x,rfl,_⟩:=h
  rfl
 obtain ⟨x,rfl,th,hz,q⟩:=h
 refine ⟨_,(pss_cons (ps_if (PW.pt (pw_or (pt_not (pt_val (pe_callB call_isinst rfl T.n_isinstance boot_isinstance (pa_cons (pv 0) (pa_cons (pe_ty rfl T.n_str boot_str) pa_nil))))) (pw_or (pt_not (pt_chain op_le op_le pe_int (pe_callB call_len_str rfl T.n_len boot_len (pa_cons (pv 0) pa_nil)) pe_int)) (pw_or1 (pt_cmpR op_notIn_str (pe_ix ix_str (pv 0) pe_int (fun _ _=>rfl)) (pe_globS rfl T.g_LETTERS) (by with_unfolding_all rfl))))))
   (pss_one (ps_ret pe_bl))
   pss_nil)
  (pss_one (ps_ret (pe_callB (call_all_bl rfl) rfl T.n_all boot_all (pa_cons (pe_comp0 rfl (by first | rfl | with_unfolding_all rfl) (by decide +kernel) rfl (by decide +kernel) rfl (pi_str (pv 0)) (fun C s2 H2 fp=>(pe_cmpR op_in_str (pv 0) (pe_globS rfl T.g_LETTERS_AND_FIGURES) (by with_unfolding_all rfl)))) pa_nil))))),?_⟩
 cases th with
 | int i=>exact ⟨_,rfl,_,_,_,_,_,rfl,rfl,TyOf.int _,kit_int_str _,_,rfl,iteT (q H (Same.refl _))⟩
 | bl b=>exact ⟨_,rfl,_,_,_,_,_,rfl,rfl,TyOf.bl _,kit_bl_str _,_,rfl,iteT (q H (Same.refl _))⟩
 | non=>exact ⟨_,rfl,_,_,_,_,_,rfl,rfl,TyOf.non,kit_non_str _,_,rfl,iteT (q H (Same.refl _))⟩
 | lst h=>exact ⟨_,rfl,_,_,_,_,_,rfl,rfl,TyOf.lst h,kit_lst_str _,_,rfl,iteT (q H (Same.refl _))⟩
 | tup h=>exact ⟨_,rfl,_,_,_,_,_,rfl,rfl,TyOf.tup h,kit_tup_str _,_,rfl,iteT (q H (Same.refl _))⟩
 | dct h=>exact ⟨_,rfl,_,_,_,_,_,rfl,rfl,TyOf.dK h,kit_dct_str _,_,rfl,iteT (q H (Same.refl _))⟩
 | str z =>
 have hz:=hz z rfl
 refine ⟨_,rfl,_,_,_,_,_,rfl,rfl,TyOf.str _,kit_str_str _,_,rfl,iteF ?_⟩
 have no:isReg (.str z) = false→Q (.bl false) H:=fun e=>by have:=q H (Same.refl _); rw [e] at this; exact this
 have lz:z.length = z.cps.size:=rfl
 have L1000:(1000:Nat)≤sizeLine:=by decide
 refine ⟨_,rfl,z,rfl,hz,_,_,rfl,rfl,_,rfl,?_⟩
 by_cases c1:(1:Int)≤(z.length:Int)
 rotate_left
 ·refine iteDN c1 ⟨_,rfl,iteT (no ?_)⟩
  show (decide (1≤z.length) && _ && _ && _) = false
  rw [decide_eq_false (by omega)]
  rfl
 refine iteD c1 ⟨_,_,rfl,rfl,_,rfl,?_⟩
 by_cases c2:(z.length:Int)≤8
 rotate_left
 ·refine iteN c2 (no ?_)
  show (_ && decide (z.length≤8) && _ && _) = false
  rw [decide_eq_false (show ¬ z.length≤8 by omega),Bool.and_false]
  rfl
 refine iteNS c2 ?_
 have s1:0 < z.cps.size:=by omega
 have e0:z.cps[0]? = some z.cps[0]:=Array.getElem?_eq_getElem s1
 have a0:atI z.cps.toList 0 = some z.cps[0]:=atI_nat (j:=0) (by rw [Array.getElem?_toList]; exact e0)
 refine ⟨_,rfl,z,0,_,rfl,rfl,hz,a0,_,_,rfl,rfl,_,rfl,?_⟩
 have reg:isReg (.str z) = (inS LT ⟨#[z.cps[0]]⟩ && z.cps.toList.all fun n=>inS LF ⟨#[n]⟩):=by
  show (decide (1≤z.length) && decide (z.length≤8) && (match z.cps[0]? with | some n=>inS LT ⟨#[n]⟩ | none=>false) && _) = _
  rw [decide_eq_true (show 1≤z.length by omega),decide_eq_true (show z.length≤8 by omega),e0]
  rfl
 show if (!inS LT ⟨#[z.cps[0]]⟩) = true then _ else _
 cases e3:inS LT ⟨#[z.cps[0]]⟩ with
 | false =>
  refine iteT (no ?_)
  rw [reg,e3]
  rfl
 | true =>
 refine iteF ?_
 refine ⟨_,rfl,z,rfl,fun D hD=>?_⟩
 refine comp_str (z:=z) (fun j HJ=>HJ D = some (.lst (((z.cps.toList.take j).map fun n=>inS LF ⟨#[n]⟩).map V.bl))∧Same H HJ) ⟨upd_same,same_new hD _⟩ ?_ ?_
 ·rintro j n HJ hn ⟨hy,sJ⟩
  have jl:=(Array.getElem?_eq_some_iff.mp hn).1
  refine ⟨_,rfl,_,_,rfl,rfl,_,hy,(by rw [List.length_map,List.length_map,List.length_take]; omega),_,(show z.cps.size - (j + 1) < _ by omega),rfl,(by omega),?_,Same.updL sJ hD⟩
  rw [upd_same,List.take_add_one,show z.cps.toList[j]? = some n by rw [Array.getElem?_toList]; exact hn,Option.toList_some,List.map_append,List.map_append]
  rfl
 ·rintro HJ ⟨hy,sJ⟩
  refine ⟨D,_,rfl,SqL.of hy,?_⟩
  have:=q HJ sJ
  rw [reg,e3,Bool.true_and] at this
  rw [show z.cps.toList.take z.cps.size = z.cps.toList by rw [← Array.length_toList,List.take_length],List.all_map]
  exact this
theorem ok_Turns___init__ {f:Addr} {fd:FuncData} (F:Fun K "__init__" "Turns.__init__" s_Turns___init__ f fd) (T:Txt K mg c) :FnOk P w K mg base CX0 1 f fd ["self", "times", "steps"] (spInitT K):=by
 refine F.ok sc_Turns___init__ (fun vs H Q E h=>?_) (fun cdv A outer s H vs Q E hr h=>?_)
 ·obtain ⟨x,C,dx,l,n,xs,rfl,_⟩:=h
  rfl
 obtain ⟨x,C,dx,l,n,xs,rfl,hx,hl,cl,na,q⟩:=h
 refine ⟨_,(pss_cons (ps_fld (pv 0) (pv 1) rfl)
  (pss_one (ps_fld (pv 0) (pe_ifExp (pt_val (pe_callB call_isinst rfl T.n_isinstance boot_isinstance (pa_cons (pv 2) (pa_cons (pe_ty rfl T.n_list boot_list) pa_nil)))) (pe_callTy call_list_of rfl T.n_list boot_list (pa_cons (pv 2) pa_nil)) (pv 2)) rfl))),?_⟩
 refine ⟨_,rfl,_,rfl,x,C,dx,_,rfl,hx,cl,na _ (by simp),(by show 0 < 1000; decide),?_⟩
 have nl:l ≠ x:=fun z=>by rw [z,hx] at hl; cases hl
 have hl1:upd H x (.ins C dx [("times",n)]) l = some (.lst xs):=by rw [upd_ne nl]; exact hl
 refine ⟨_,rfl,_,_,_,_,_,rfl,rfl,TyOf.lst hl1,rfl,_,rfl,iteT ⟨_,rfl,l,_,rfl,.inl (SqL.of hl1),fun l' h'=>?_⟩⟩
 have nx:x ≠ l':=fun z=>by rw [← z,upd_same] at h'; cases h'
 have h0:H l' = none:=by rw [upd_ne (Ne.symm nx)] at h'; exact h'
 refine ⟨_,rfl,x,C,dx,_,rfl,(by rw [upd_ne nx]; exact upd_same),cl,na _ (by simp),(by show 1 < 1000; decide),?_⟩
 refine q l' _ h0 upd_same (by rw [upd_ne (Ne.symm nx)]; exact upd_same) fun b o hb e=>?_
 rw [upd_ne hb,upd_ne (ne_of_none e h0),upd_ne hb]
 exact e
theorem ok_Turns_told {f:Addr} {fd:FuncData} (F:Fun K "told" "Turns.told" s_Turns_told f fd) (T:Txt K mg c)  (MT:∀ k,k < 15→MHas P w K mg base 2 (fOf c k) "told" ["self"] (spTold c [k])):FnOk P w K mg base CX0 3 f fd ["self"] (spToldT c):=by
 refine F.ok sc_Turns_told (fun vs H Q E h=>?_) (fun cdv A outer s H vs Q E hr h=>?_)
 ·obtain ⟨x,n,xs,rs,rfl,_⟩:=h
  rfl
 obtain ⟨x,n,xs,rs,rfl,⟨dx,l,hx,hl⟩,ra,ln,q⟩:=h
 refine ⟨_,(pss_one (ps_ret (pe_tup (pa_cons pe_str (pa_cons (pe_fld (pv 0) rfl) (pa_cons (pe_comp0 rfl (by first | rfl | with_unfolding_all rfl) (by decide +kernel) rfl (by decide +kernel) rfl (pi_list (pe_fld (pv 0) rfl)) (fun C s2 H2 fp=>(pe_methQ0 (k:=2) (P:=P) (w:=w) (K:=K) (mg:=mg) (base:=base) rfl rfl rfl rfl rfl (pv 0) (hr.mono (by omega))))) pa_nil)))))),?_⟩
 have L1000:(1000:Nat)≤sizeLine:=by decide
 have rl:=ra.1
 refine ⟨_,rfl,x,_,dx,_,_,rfl,hx,T.cl_Turns,T.na_Turns_times,rfl,?_⟩
 refine ⟨_,rfl,x,_,dx,_,_,rfl,hx,T.cl_Turns,T.na_Turns_steps,rfl,?_⟩
 refine ⟨l,rfl,⟨_,SqL.of hl⟩,fun D hD=>?_⟩
 refine comp_list (xs:=xs) (fun j HJ=>∃ ys,HJ D = some (.lst ys)∧ToldAt HJ ys (rs.take j)∧Same H HJ) ⟨[],upd_same,ToldAt.nil,same_new hD _⟩ ?_ ?_ ?_
 ·rintro j HJ hj ⟨ys,hy,ta,sJ⟩
  exact SqL.of (sJ _ _ hl)
 ·rintro j v HJ hv ⟨ys,hy,ta,sJ⟩
  have jl:=(List.getElem?_eq_some_iff.mp hv).1
  have er:rs[j]? = some (rs[j]'(by rw [← ra.1]; exact jl)):=List.getElem?_eq_getElem _
  obtain ⟨k15,a,rfl,sa⟩:=ra.2 j v _ hv er
  have sa':=sa.same sJ
  obtain ⟨da,ea,la⟩:=id sa'
  have yl:ys.length = j:=by rw [ta.1,List.length_take]; omega
  refine ⟨_,rfl,a,_,da,_,_,_,rfl,ea,nOf_told k15,MT _ k15,a,_,_,rfl,List.mem_singleton.mpr rfl,sa',fun r hr'=>?_⟩
  have s1:=same_new hr' (.tup (.str (wOf (rs[j]'(by rw [← ra.1]; exact jl)).1) :: (rs[j]'(by rw [← ra.1]; exact jl)).2))
  refine ⟨ys,s1 _ _ hy,by omega,_,(show xs.length - (j + 1) < _ by omega),rfl,(by omega),ys ++ [.ref r],upd_same,?_,Same.updL (sJ.trans s1) hD⟩
  rw [List.take_add_one,er,Option.toList_some]
  refine ((ta.same fun b xs e=>s1 _ _ e).snoc upd_same).same fun b xs e=>?_
  rw [upd_ne fun z=>by rw [z,s1 _ _ hy] at e; cases e]
  exact e
 ·rintro HJ ⟨ys,hy,ta,sJ⟩
  refine ⟨(by show 3≤sizeLine; decide),fun r hr'=>?_⟩
  have s1:=same_new hr' (.tup [.str "turns",n,.ref D])
  rw [ra.1,List.take_length] at ta
  exact q r D ys _ (Same.none sJ hr') hD upd_same (s1 _ _ hy) (ta.same fun b xs e=>s1 _ _ e) (sJ.trans s1)
theorem ok__law_cell {f:Addr} {fd:FuncData} (F:Fun K "_law_cell" "_law_cell" s__law_cell f fd) (T:Txt K mg c) :FnOk P w K mg base CX0 1 f fd ["_law_script", "_law_k"] (spCell K):=by
 refine F.ok sc__law_cell (fun vs H Q E h=>?_) (fun cdv A outer s H vs Q E hr h=>?_)
 ·obtain ⟨a,ns,k,rfl,_⟩:=h
  rfl
 obtain ⟨a,ns,k,rfl,hS,h0,h1,q⟩:=h
 refine ⟨_,(pss_cons (ps_if (pt_cmpR op_lt (pv 1) (pe_callB call_len_seq rfl T.n_len boot_len (pa_cons (pv 0) pa_nil)) (nomark _))
   (pss_one (ps_ret (pe_ix ix_list (pv 0) (pv 1) (fun _ _=>rfl))))
   pss_nil)
  (pss_cons (ps_set (i:=2) sc__law_cell.nd rfl (Or.inl rfl) (pe_op op_add (pe_op op_mul (pv 1) pe_int) pe_int))
  (pss_cons (ps_if (pt_cmpR op_gt (pe_callB call_len_seq rfl T.n_len boot_len (pa_cons (pv 0) pa_nil)) pe_int (nomark _))
   (pss_one (ps_set (i:=2) sc__law_cell.nd rfl (Or.inl rfl) (pe_op op_mod (pe_op op_add (pe_op op_mul (pe_ix ix_list (pv 0) (pe_op op_mod (pe_op op_mul (pv 1) pe_int) (pe_callB call_len_seq rfl T.n_len boot_len (pa_cons (pv 0) pa_nil))) (fun _ _=>rfl)) pe_int) (pe_op op_mul (pv 1) pe_int)) pe_int)))
   pss_nil)
  (pss_one (ps_ret (pe_op op_mod (pe_op op_mul (pv 2) (pv 2)) pe_int)))))),?_⟩
 have hl:(ns.map V.int).length = ns.length:=List.length_map _
 refine ⟨_,rfl,_,rfl,a,_,rfl,.inl hS,_,_,rfl,rfl,_,rfl,?_⟩
 by_cases hc:k < (((ns.map V.int).length:Nat):Int)
 ·refine iteD hc ?_
  rw [hl] at hc
  have e:k = ((k.toNat:Nat):Int):=by omega
  have g:=getI ns k.toNat (by omega)
  rw [← e] at g
  exact ⟨_,rfl,_,rfl,a,_,_,_,rfl,rfl,hS,g,q _⟩
 ·refine iteDN hc ?_
  refine ⟨_,rfl,_,_,rfl,rfl,.inr ⟨by decide,by decide⟩,_,_,rfl,rfl,?_⟩
  refine ⟨_,rfl,a,_,rfl,.inl hS,_,_,rfl,rfl,_,rfl,?_⟩
  by_cases hn:0 < (((ns.map V.int).length:Nat):Int)
  ·refine iteD hn ?_
   have j0:=Int.emod_nonneg (k * 7) (show (((ns.map V.int).length:Nat):Int) ≠ 0 by omega)
   have j1:=Int.emod_lt_of_pos (k * 7) hn
   have hj:(k * 7 % (((ns.map V.int).length:Nat):Int)).toNat < ns.length:=by rw [← hl]; omega
   have g:=getI ns _ hj
   have e:k * 7 % (((ns.map V.int).length:Nat):Int) = (((k * 7 % (((ns.map V.int).length:Nat):Int)).toNat:Nat):Int):=by omega
   rw [← e] at g
   refine ⟨_,rfl,_,rfl,_,_,rfl,rfl,.inr ⟨by decide,by decide⟩,_,rfl,a,_,rfl,.inl hS,_,_,rfl,rfl,hn,a,_,_,_,rfl,rfl,hS,g,_,_,rfl,rfl,.inr ⟨by decide,by decide⟩,_,rfl,_,_,rfl,rfl,.inr ⟨by decide,by decide⟩,_,_,rfl,rfl,_,_,rfl,rfl,(by show (0:Int) < 2147483647; decide),?_⟩
   exact ⟨_,rfl,_,rfl,_,_,rfl,rfl,cmul_mod (by decide) (by decide),_,_,rfl,rfl,(by show (0:Int) < 2147483629; decide),q _⟩
  ·refine iteDN hn ?_
   exact ⟨_,rfl,_,rfl,_,_,rfl,rfl,.inl ⟨by show -(2 ^ 64) < k * 7919 + 5; omega,by show k * 7919 + 5 < 2 ^ 64; omega⟩,_,_,rfl,rfl,(by show (0:Int) < 2147483629; decide),q _⟩
theorem ok__law_begun {f:Addr} {fd:FuncData} (F:Fun K "_law_begun" "_law_begun" s__law_begun f fd) (T:Txt K mg c) :FnOk P w K mg base CX0 1 f fd ["_law_cell_here"] spBox:=by
 refine F.ok sc__law_begun (fun vs H Q E h=>?_) (fun cdv A outer s H vs Q E hr h=>?_)
 ·obtain ⟨c,rfl,_⟩:=h
  rfl
 obtain ⟨c,rfl,q⟩:=h
 refine ⟨_,(pss_cons (ps_set (i:=1) sc__law_begun.nd rfl (Or.inl rfl) pe_int)
  (pss_cons (ps_if (pt_cmpR op_ge (pv 0) (pe_op op_pow pe_int pe_int) (nomark _))
   (pss_one (ps_set (i:=1) sc__law_begun.nd rfl (Or.inl rfl) (pv 0)))
   pss_nil)
  (pss_one (ps_ret (pe_lst (pa_cons (pv 1) (pa_cons pe_int (pa_cons (pe_op op_mod (pv 0) pe_int) pa_nil)))))))),?_⟩
 refine ⟨_,rfl,_,_,rfl,rfl,⟨by decide,by decide,by decide⟩,_,_,rfl,rfl,_,rfl,?_⟩
 by_cases hc:(10:Int) ^ (18:Int).toNat≤c
 ·refine iteD hc ?_
  refine ⟨_,rfl,?_⟩
  refine ⟨_,rfl,_,rfl,_,_,rfl,rfl,(by show (0:Int) < 2147483647; decide),(by show 3≤sizeLine; decide),fun p hp=>?_⟩
  exact q p _ hp ⟨_,_,_,upd_same⟩ (same_new hp _)
 ·refine iteDN hc ?_
  refine ⟨_,rfl,_,rfl,_,_,rfl,rfl,(by show (0:Int) < 2147483647; decide),(by show 3≤sizeLine; decide),fun p hp=>?_⟩
  exact q p _ hp ⟨_,_,_,upd_same⟩ (same_new hp _)
theorem ok__law_draw {f:Addr} {fd:FuncData} (F:Fun K "_law_draw" "_law_draw" s__law_draw f fd) (T:Txt K mg c) :FnOk P w K mg base CX0 1 f fd ["_law_state", "_law_many"] spTake3:=by
 refine F.ok sc__law_draw (fun vs H Q E h=>?_) (fun cdv A outer s H vs Q E hr h=>?_)
 ·obtain ⟨p,m,rfl,_⟩:=h
  rfl
 obtain ⟨p,m,rfl,⟨r,s1,c,hp⟩,h1,h2,q⟩:=h
 refine ⟨_,(pss_cons (ps_if (pt_cmpR op_gt (pe_ix ix_list (pv 0) pe_int (fun _ _=>rfl)) pe_int (nomark _))
   (pss_cons (ps_set (i:=2) sc__law_draw.nd rfl (Or.inl rfl) (pe_op op_mod (pe_ix ix_list (pv 0) pe_int (fun _ _=>rfl)) (pv 1)))
   (pss_cons (ps_asg (pe_op op_fdivB (pe_ix ix_list (pv 0) pe_int (fun _ _=>rfl)) (pv 1)) (pg_sub (pv 0) pe_int set_list))
   (pss_one (ps_ret (pv 2)))))
   pss_nil)
  (pss_cons (ps_asg (pe_op op_add (pe_ix ix_list (pv 0) pe_int (fun _ _=>rfl)) pe_int) (pg_sub (pv 0) pe_int set_list))
  (pss_cons (ps_set (i:=3) sc__law_draw.nd rfl (Or.inl rfl) (pe_op op_mod (pe_op op_add (pe_op op_mul (pe_ix ix_list (pv 0) pe_int (fun _ _=>rfl)) pe_int) (pe_op op_mul (pe_ix ix_list (pv 0) pe_int (fun _ _=>rfl)) pe_int)) pe_int))
  (pss_cons (ps_set (i:=3) sc__law_draw.nd rfl (Or.inl rfl) (pe_op op_mod (pe_op op_add (pe_op op_mul (pv 3) (pv 3)) (pe_op op_mul (pe_ix ix_list (pv 0) pe_int (fun _ _=>rfl)) pe_int)) pe_int))
  (pss_one (ps_ret (pe_op op_mod (pe_op op_mod (pe_op op_mul (pv 3) (pv 3)) pe_int) (pv 1)))))))),?_⟩
 refine ⟨_,rfl,p,_,_,_,rfl,rfl,SqL.of hp,rfl,_,_,rfl,rfl,_,rfl,?_⟩
 by_cases hc:0 < r
 ·refine iteD hc ?_
  refine ⟨_,rfl,p,_,_,_,rfl,rfl,SqL.of hp,rfl,_,rfl,_,_,rfl,rfl,h1,?_⟩
  refine ⟨_,rfl,p,_,_,_,rfl,rfl,SqL.of hp,rfl,_,rfl,_,_,rfl,rfl,⟨h1,log_small h1 h2⟩,?_⟩
  refine ⟨_,rfl,p,_,_,_,rfl,rfl,hp,rfl,?_⟩
  refine ⟨_,rfl,?_⟩
  exact q _ _ (Int.emod_nonneg _ (by omega)) (Int.emod_lt_of_pos _ h1) ⟨_,_,_,upd_same⟩ SameX.upd
 ·refine iteDN hc ?_
  refine ⟨_,rfl,p,_,_,_,rfl,rfl,SqL.of hp,rfl,_,_,rfl,rfl,?_⟩
  refine ⟨_,rfl,p,_,_,_,rfl,rfl,hp,rfl,?_⟩
  refine ⟨_,rfl,p,_,_,_,rfl,rfl,SqL.of upd_same,rfl,_,_,rfl,rfl,.inr ⟨by decide,by decide⟩,_,rfl,p,_,_,_,rfl,rfl,SqL.of upd_same,rfl,_,_,rfl,rfl,.inr ⟨by decide,by decide⟩,_,_,rfl,rfl,_,_,rfl,rfl,(by show (0:Int) < 2147483647; decide),?_⟩
  refine ⟨_,rfl,_,rfl,_,_,rfl,rfl,cmul_mod (by decide) (by decide),_,rfl,p,_,_,_,rfl,rfl,SqL.of upd_same,rfl,_,_,rfl,rfl,.inr ⟨by decide,by decide⟩,_,_,rfl,rfl,_,_,rfl,rfl,(by show (0:Int) < 2147483629; decide),?_⟩
  refine ⟨_,rfl,_,rfl,_,_,rfl,rfl,cmul_mod (by decide) (by decide),_,_,rfl,rfl,(by show (0:Int) < 2147483587; decide),_,rfl,_,_,rfl,rfl,h1,?_⟩
  exact q _ _ (Int.emod_nonneg _ (by omega)) (Int.emod_lt_of_pos _ h1) ⟨_,_,_,upd_same⟩ SameX.upd
theorem pickV {xs:List V} {k:Int} (h0:0≤k) (h1:k < xs.length) {Pr:V→Prop} (ha:∀ x ∈ xs,Pr x):∃ v,Pr v∧atI xs k = some v:=by
 have hk:k.toNat < xs.length:=by omega
 refine ⟨xs[k.toNat]'hk,ha _ (List.getElem_mem hk),?_⟩
 have:=atI_nat (List.getElem?_eq_getElem hk)
 rw [show ((k.toNat:Nat):Int) = k by omega] at this
 exact this
def AllV (Pr:V→Prop):List V→Prop
 | []=>True
 | x :: t=>Pr x∧AllV Pr t
theorem allV {Pr:V→Prop}:∀ {xs:List V},AllV Pr xs→∀ x ∈ xs,Pr x
 | [],_,_,h=>nomatch h
 | _ :: _,⟨a,b⟩,x,h=>(List.mem_cons.mp h).elim (fun e=>e ▸ a) (allV b x)
theorem newO {H:Hp} {p:Addr} (h:H p = none) (o:HO):∃ G,upd H p o = G∧Same H G∧G p = some o:=⟨_,rfl,same_new h _,upd_same⟩
def isInt (v:V):Prop:=∃ i:Int,v = .int i
theorem Box.ne {H:Hp} {p l:Addr} (b:Box H p) (h:H l = none):l ≠ p:=fun z=>by
 obtain ⟨r,s1,c,e⟩:=b
 rw [z,e] at h
 cases h
def spWrd:Sp:=fun vs H Q _=>∃ (p:Addr) (w:Int),vs = [.ref p,.int w]∧Box H p∧4≤w∧w≤32∧∀ (i:Int) H',Box H' p→SameX p H H'→Q (.int i) H'
theorem ok__law_word {f:Addr} {fd:FuncData} (F:Fun K "_law_word" "_law_word" s__law_word f fd) (T:Txt K mg c) (H__law_draw:Has P w K mg base 1 "_law_draw" ["_law_state", "_law_many"] spTake3):FnOk P w K mg base CX0 2 f fd ["_law_state", "_law_width"] spWrd:=by
 refine F.ok sc__law_word (fun vs H Q E h=>?_) (fun cdv A outer s H vs Q E hr h=>?_)
 ·obtain ⟨p,w',rfl,_⟩:=h
  rfl
 obtain ⟨p,w',rfl,b,w0,w1,q⟩:=h
 refine ⟨_,(pss_cons (ps_set (i:=2) sc__law_word.nd rfl (Or.inl rfl) (pe_op op_shlB pe_int (pv 1)))
  (pss_cons (ps_set (i:=3) sc__law_word.nd rfl (Or.inl rfl) (pe_fn H__law_draw (hr.mono (by omega)) rfl (pa_cons (pv 0) (pa_cons pe_int pa_nil))))
  (pss_cons (ps_if (pt_cmpR op_lt (pv 3) pe_int (nomark _))
   (pss_one (ps_ret (pe_ix ix_list (pe_lst (pa_cons pe_int (pa_cons pe_int (pa_cons (pe_op op_sub (pv 2) pe_int) pa_nil)))) (pv 3) (fun _ _=>rfl))))
   pss_nil)
  (pss_cons (ps_if (pt_cmpR op_eq (pv 3) pe_int (nomark _))
   (pss_one (ps_ret (pe_op op_sub (pe_op op_fdivB (pv 2) pe_int) (pe_fn H__law_draw (hr.mono (by omega)) rfl (pa_cons (pv 0) (pa_cons pe_int pa_nil))))))
   pss_nil)
  (pss_cons (ps_if (pt_cmpR op_eq (pv 3) pe_int (nomark _))
   (pss_one (ps_ret (pe_op op_shlB pe_int (pe_fn H__law_draw (hr.mono (by omega)) rfl (pa_cons (pv 0) (pa_cons (pv 1) pa_nil))))))
   pss_nil)
  (pss_cons (ps_if (pt_cmpR op_eq (pv 3) pe_int (nomark _))
   (pss_one (ps_ret (pe_op op_mod (pe_fn H__law_draw (hr.mono (by omega)) rfl (pa_cons (pv 0) (pa_cons pe_int pa_nil))) (pv 2))))
   pss_nil)
  (pss_one (ps_ret (pe_op op_mod (pe_op op_add (pe_op op_mulB (pe_fn H__law_draw (hr.mono (by omega)) rfl (pa_cons (pv 0) (pa_cons pe_int pa_nil))) pe_int) (pe_fn H__law_draw (hr.mono (by omega)) rfl (pa_cons (pv 0) (pa_cons pe_int pa_nil)))) (pv 2)))))))))),?_⟩
 have P:=pw_bounds w0 w1
 have shw:(0≤w'∧w'≤100000∧intBits 1≤100000):=⟨by omega,by omega,b200 (by decide) (by decide)⟩
 refine ⟨_,rfl,_,_,rfl,rfl,shw,?_⟩
 refine ⟨_,rfl,p,_,rfl,b,by decide,by decide,fun d H1 d0 d1 b1 x1=>?_⟩
 refine ⟨_,rfl,_,_,rfl,rfl,_,rfl,?_⟩
 walk_at "c" <;> intro c3
 ·refine ⟨_,rfl,_,_,rfl,rfl,(by show 3≤sizeLine; decide),fun l hl=>?_⟩
  obtain ⟨v,⟨i,rfl⟩,ev⟩:=pickV (xs:=[.int 0,.int 1,.int (1 * 2 ^ w'.toNat - 1)]) (Pr:=isInt) d0 (by show d < 3; omega) (allV ⟨⟨_,rfl⟩,⟨_,rfl⟩,⟨_,rfl⟩,trivial⟩)
  exact ⟨_,rfl,l,_,_,_,rfl,rfl,SqL.of upd_same,ev,q i _ (b1.same (same_new hl _)) (x1.trans (SameX.of (same_new hl _)))⟩
 refine ⟨_,rfl,rfl,_,rfl,?_⟩
 walk_at "c" <;> intro c4
 ·exact ⟨_,rfl,_,_,rfl,rfl,⟨by decide,by decide⟩,_,rfl,p,_,rfl,b1,by decide,by decide,fun d2 H2 _ _ b2 x2=>⟨_,_,rfl,rfl,q _ _ b2 (x1.trans x2)⟩⟩
 refine ⟨_,rfl,rfl,_,rfl,?_⟩
 walk_at "c" <;> intro c5
 ·exact ⟨_,rfl,_,rfl,p,_,rfl,b1,by omega,by omega,fun d2 H2 e0 e1 b2 x2=>⟨_,_,rfl,rfl,⟨by omega,by omega,b200 (by decide) (by decide)⟩,q _ _ b2 (x1.trans x2)⟩⟩
 refine ⟨_,rfl,rfl,_,rfl,?_⟩
 walk_at "c" <;> intro c6
 ·exact ⟨_,rfl,p,_,rfl,b1,by decide,by decide,fun d2 H2 e0 e1 b2 x2=>⟨_,rfl,_,_,rfl,rfl,(by omega),q _ _ b2 (x1.trans x2)⟩⟩
 ·refine ⟨_,rfl,p,_,rfl,b1,by decide,by decide,fun d2 H2 e0 e1 b2 x2=>⟨_,_,rfl,rfl,⟨b200 (by omega) (by omega),b200 (by decide) (by decide)⟩,?_⟩⟩
  exact ⟨_,rfl,p,_,rfl,b2,by decide,by decide,fun d3 H3 _ _ b3 x3=>⟨_,_,rfl,rfl,_,rfl,_,_,rfl,rfl,(by omega),q _ _ b3 ((x1.trans x2).trans x3)⟩⟩
structure RgA (z:Str):Prop where
 n1:1≤z.length
 fst:∀ n,z.cps[0]? = some n→inS LT ⟨#[n]⟩ = true
 al:∀ n ∈ z.cps.toList,inS LF ⟨#[n]⟩ = true
theorem RgA.reg {z:Str} (h:RgA z) (l:z.length≤8):isReg (.str z) = true:=by
 have lz:z.length = z.cps.size:=rfl
 have n1:=h.n1
 have s1:0 < z.cps.size:=by omega
 have e0:z.cps[0]? = some z.cps[0]:=Array.getElem?_eq_getElem s1
 show (decide (1≤z.length) && decide (z.length≤8) && (match z.cps[0]? with | some n=>inS LT ⟨#[n]⟩ | none=>false) && z.cps.toList.all fun n=>inS LF ⟨#[n]⟩) = true
 rw [decide_eq_true n1,decide_eq_true l,e0,List.all_eq_true.mpr h.al]
 show (true && true && inS LT ⟨#[z.cps[0]]⟩ && true) = true
 rw [h.fst _ e0]
 rfl
theorem lfC:∀ i:Nat,i < 36→∃ n,(LF.cps.toList)[i]? = some n∧inS LF ⟨#[n]⟩ = true∧(i < 26→inS LT ⟨#[n]⟩ = true):=by
 have h:∀ i ∈ List.range 36,(match (LF.cps.toList)[i]? with | some n=>inS LF ⟨#[n]⟩ && (decide (26≤i) || inS LT ⟨#[n]⟩) | none=>false) = true:=by decide +kernel
 intro i hi
 have:=h i (List.mem_range.mpr hi)
 cases e:(LF.cps.toList)[i]? with
 | none=>rw [e] at this; cases this
 | some n =>
  rw [e] at this
  have this:(inS LF ⟨#[n]⟩ && (decide (26≤i) || inS LT ⟨#[n]⟩)) = true:=this
  rw [Bool.and_eq_true,Bool.or_eq_true,decide_eq_true_eq] at this
  exact ⟨n,rfl,this.1,fun h=>this.2.resolve_left (by omega)⟩
theorem lfI {k:Int} (h0:0≤k) (h1:k < 36):∃ n,atI LF.cps.toList k = some n∧inS LF ⟨#[n]⟩ = true∧(k < 26→inS LT ⟨#[n]⟩ = true):=by
 obtain ⟨n,e,a,b⟩:=lfC k.toNat (by omega)
 have:=atI_nat e
 rw [show ((k.toNat:Nat):Int) = k by omega] at this
 exact ⟨n,this,a,fun h=>b (by omega)⟩
theorem RgA.one {n:Nat} (h1:inS LT ⟨#[n]⟩ = true) (h2:inS LF ⟨#[n]⟩ = true):RgA ⟨#[n]⟩:=⟨Nat.le_refl 1,fun m e=>by cases e; exact h1,fun m hm=>by rw [List.mem_singleton.mp hm]; exact h2⟩
theorem RgA.snoc {z:Str} {n:Nat} (h:RgA z) (h2:inS LF ⟨#[n]⟩ = true):RgA (z ++ ⟨#[n]⟩)∧(z ++ ⟨#[n]⟩:Str).length = z.length + 1:=by
 have e:(z ++ ⟨#[n]⟩:Str).cps = z.cps ++ #[n]:=rfl
 have lz:z.length = z.cps.size:=rfl
 have n1:=h.n1
 have l1:(z ++ ⟨#[n]⟩:Str).length = z.length + 1:=by show (z.cps ++ #[n]).size = _; rw [Array.size_append]; rfl
 refine ⟨⟨by omega,fun m hm=>?_,fun m hm=>?_⟩,l1⟩
 ·rw [e,Array.getElem?_append_left (by omega)] at hm
  exact h.fst m hm
 ·rw [e,Array.toList_append] at hm
  rcases List.mem_append.mp hm with hm | hm
  ·exact h.al m hm
  ·rw [List.mem_singleton.mp hm]; exact h2
def Nms (H:Hp) (l:Addr) (zs:List Str):Prop:=H l = some (.lst (zs.map V.str))∧2≤zs.length∧zs.length≤5∧∀ z ∈ zs,RgA z∧z.length≤8
def spNames:Sp:=fun vs H Q _=>∃ p:Addr,vs = [.ref p]∧Box H p∧∀ (l:Addr) (zs:List Str) H',H l = none→Nms H' l zs→Box H' p→SameX p H H'→Q (.ref l) H'
def regB (z:Str):Bool:=decide (1≤z.length) && decide (z.length≤8) && (match z.cps[0]? with | some n=>inS LT ⟨#[n]⟩ | none=>false) && z.cps.toList.all fun n=>inS LF ⟨#[n]⟩
theorem regB_ok {z:Str} (h:regB z = true):RgA z∧z.length≤8:=by
 unfold regB at h
 simp only [Bool.and_eq_true,decide_eq_true_eq] at h
 obtain ⟨⟨⟨h1,h2⟩,h3⟩,h4⟩:=h
 refine ⟨⟨h1,fun n e=>?_,fun n hn=>List.all_eq_true.mp h4 n hn⟩,h2⟩
 rw [e] at h3
 exact h3
def pool15:List Str:=["a", "ab", "b", "z9", "x", "x0", "sum", "end", "abcdefgh", "w1234567", "turns", "m", "aa", "q7", "set"]
theorem pool_ok:∀ z ∈ pool15,RgA z∧z.length≤8:=fun z hz=>regB_ok ((by decide +kernel:∀ z ∈ pool15,regB z = true) z hz)
theorem ok__law_names {f:Addr} {fd:FuncData} (F:Fun K "_law_names" "_law_names" s__law_names f fd) (T:Txt K mg c) (H__law_draw:Has P w K mg base 1 "_law_draw" ["_law_state", "_law_many"] spTake3):FnOk P w K mg base CX0 2 f fd ["_law_state"] spNames:=by
 refine F.ok sc__law_names (fun vs H Q E h=>?_) (fun cdv A outer s H vs Q E hr h=>?_)
 ·obtain ⟨p,rfl,_⟩:=h
  rfl
 obtain ⟨p,rfl,b,q⟩:=h
 refine slE ⟨_,(pss_consZ (ps_setS (i:=1) sc__law_names.nd rfl (Or.inl rfl) (pe_lstS (pa_consS pe_str (pa_consS pe_str (pa_consS pe_str (pa_consS pe_str (pa_consS pe_str (pa_consS pe_str (pa_consS pe_str (pa_consS pe_str (pa_consS pe_str (pa_consS pe_str (pa_consS pe_str (pa_consS pe_str (pa_consS pe_str (pa_consS pe_str (pa_consS pe_str pa_nilS)))))))))))))))))
  (pss_consZ (slIn (ps_set (i:=2) sc__law_names.nd rfl (Or.inl rfl) pe_str))
  (pss_consZ (slIn (ps_set (i:=3) sc__law_names.nd rfl (Or.inl rfl) (pe_fn H__law_draw (hr.mono (by omega)) rfl (pa_cons (pv 0) (pa_cons pe_int pa_nil)))))
  (pss_consZ (slIn (ps_set (i:=4) sc__law_names.nd rfl (Or.inl rfl) (pe_lst pa_nil)))
  (pss_consZ (ps_forZ PassesOwn.never rfl (pi_range1 rfl T.n_range (pa_cons (pe_op op_add pe_int (pe_fn H__law_draw (hr.mono (by omega)) rfl (pa_cons (pv 0) (pa_cons pe_int pa_nil)))) pa_nil)) (pg_name (i:=5) sc__law_names.nd rfl (Or.inl rfl))
   (pss_consZ (slIn (ps_set (i:=6) sc__law_names.nd rfl (Or.inl rfl) (pe_ix ix_list (pv 1) (pe_op op_mod (pe_op op_add (pv 3) (pe_op op_mul pe_int (pv 5))) pe_int) (fun _ _=>rfl))))
   (pss_joinZ (ps_ifZ (pt_cmpR op_eq (pe_fn H__law_draw (hr.mono (by omega)) rfl (pa_cons (pv 0) (pa_cons pe_int pa_nil))) pe_int (nomark _))
    (pss_consZ (slIn (ps_set (i:=6) sc__law_names.nd rfl (Or.inl rfl) (pe_ix ix_str (pv 2) (pe_fn H__law_draw (hr.mono (by omega)) rfl (pa_cons (pv 0) (pa_cons pe_int pa_nil))) (fun _ _=>rfl))))
    (pss_oneZ (ps_forZ PassesOwn.never rfl (pi_range1 rfl T.n_range (pa_cons (pe_fn H__law_draw (hr.mono (by omega)) rfl (pa_cons (pv 0) (pa_cons pe_int pa_nil))) pa_nil)) (pg_name (i:=7) sc__law_names.nd rfl (Or.inl rfl))
     (pss_oneZ (slIn (ps_set (i:=6) sc__law_names.nd rfl (Or.inl rfl) (pe_op op_add_str (pv 6) (pe_ix ix_str (pv 2) (pe_fn H__law_draw (hr.mono (by omega)) rfl (pa_cons (pv 0) (pa_cons pe_int pa_nil))) (fun _ _=>rfl)))))))))
    pss_nilZ)
   (pss_oneZ (slIn (ps_expr (pe_bm PySem.F.plainAttrs_list PySem.F.slot_list_append PySem.F.type_list_append mt_append (pv 4) (pa_cons (pv 6) pa_nil))))))))
  (pss_oneZ (slIn (ps_ret (pv 4))))))))),?_⟩
 have L1000:(1000:Nat)≤sizeLine:=by decide
 refine ⟨(by show 15≤sizeLine; decide),fun pl hpl=>?_⟩
 obtain ⟨G0,w0,s0,f0⟩:=newO hpl (.lst (pool15.map V.str))
 rw [show upd H pl (.lst [.str "a",.str "ab",.str "b",.str "z9",.str "x",.str "x0",.str "sum",.str "end",.str "abcdefgh",.str "w1234567",.str "turns",.str "m",.str "aa",.str "q7",.str "set"]) = G0 from w0]
 have b0:=b.same s0
 have npl:=b.ne hpl
 refine ⟨_,rfl,p,_,rfl,b0,by decide,by decide,fun d H1 d0 d1 b1 x1=>?_⟩
 refine ⟨(by show 0≤sizeLine; decide),fun l hl=>?_⟩
 have s2:=same_new hl (.lst [])
 have X2:SameX p H (upd H1 l (.lst [])):=(SameX.of s0).trans (x1.trans (SameX.of s2))
 have fr:H l = none:=by
  cases e:H l with
  | none=>rfl
  | some o =>
   by_cases c:l = p
   ·exact absurd c (b1.ne hl)
   ·rw [x1 _ _ c (s0 _ _ e)] at hl; cases hl
 have np:=b1.ne hl
 have f2:upd H1 l (.lst []) pl = some (.lst (pool15.map V.str)):=s2 _ _ (x1 _ _ npl f0)
 have nlp:l ≠ pl:=fun z=>by rw [z,x1 _ _ npl f0] at hl; cases hl
 have b2:=b1.same s2
 have g2:upd H1 l (.lst []) l = some (.lst (([]:List Str).map V.str)):=upd_same
 generalize upd H1 l (.lst []) = G at X2 f2 b2 g2 ⊢
 clear x1 b1 hl s2 b0 f0 w0 s0 hpl
 refine ⟨_,rfl,p,_,rfl,b2,by decide,by decide,fun r G1 r0 r1 b3 x3=>⟨_,_,rfl,rfl,_,rfl,by omega,by omega,for_range (n:=(2 + r).toNat) (fun j σ G=>∃ (y5 y6 y7:Option V) (zs:List Str),σ = [some (.ref p),some (.ref pl),some (.str LF),some (.int d),some (.ref l),y5,y6,y7]∧G l = some (.lst (zs.map V.str))∧zs.length = j∧(∀ z ∈ zs,RgA z∧z.length≤8)∧Box G p∧SameX p H G∧G pl = some (.lst (pool15.map V.str))) ⟨_,_,_,[],rfl,x3 _ _ np g2,rfl,(fun z hz=>by cases hz),b3,X2.trans x3,x3 _ _ npl f2⟩ ?_ ?_⟩⟩
 ·clear X2 f2 b2 g2 b3 x3
  rintro j σ G hj ⟨y5,y6,y7,zs,rfl,gl,zl,ok,bG,XG,gp⟩
  have k0:=Int.emod_nonneg (d + 4 * (0 + (j:Int))) (show (15:Int) ≠ 0 by decide)
  have k1:=Int.emod_lt_of_pos (d + 4 * (0 + (j:Int))) (show (0:Int) < 15 by decide)
  obtain ⟨v,⟨z0,rfl,z0k⟩,ev⟩:=pickV (xs:=pool15.map V.str) (Pr:=fun v=>∃ z,v = .str z∧RgA z∧z.length≤8) k0 k1 (fun x hx=>by obtain ⟨z,hz,rfl⟩:=List.mem_map.mp hx; exact ⟨z,rfl,pool_ok z hz⟩)
  refine ⟨_,rfl,_,rfl,_,rfl,_,_,rfl,rfl,.inl ⟨by decide,by decide⟩,_,_,rfl,rfl,_,_,rfl,rfl,(show (0:Int) < 15 by decide),pl,_,_,_,rfl,rfl,SqL.of gp,ev,?_⟩
  refine ⟨fun σ G'=>∃ (y7:Option V) (z:Str),σ = [some (.ref p),some (.ref pl),some (.str LF),some (.int d),some (.ref l),some (.int (0 + (j:Int))),some (.str z),y7]∧RgA z∧z.length≤8∧Box G' p∧SameX p G G',?_,?_⟩
  ·refine ⟨_,rfl,p,_,rfl,bG,by decide,by decide,fun e G1 e0 e1 b1 x1=>⟨rfl,_,rfl,?_⟩⟩
   walk_at "c" <;> intro c1
   rotate_left
   ·exact ⟨_,z0,rfl,z0k.1,z0k.2,b1,x1⟩
   refine ⟨_,rfl,_,rfl,p,_,rfl,b1,by decide,by decide,fun f G2 f0 f1 b2 x2=>?_⟩
   obtain ⟨n,en,h1,h2⟩:=lfI f0 (by omega)
   refine ⟨LF,_,n,rfl,rfl,(by show 36≤sizeLine; omega),en,?_⟩
   refine ⟨_,rfl,p,_,rfl,b2,by decide,by decide,fun g G3 g0 g1 b3 x3=>⟨_,rfl,by omega,by omega,for_range (n:=g.toNat) (fun i σ G'=>∃ (y7:Option V) (z:Str),σ = [some (.ref p),some (.ref pl),some (.str LF),some (.int d),some (.ref l),some (.int (0 + (j:Int))),some (.str z),y7]∧RgA z∧z.length = 1 + i∧Box G' p∧SameX p G G') ⟨_,_,rfl,RgA.one (h2 f1) h1,rfl,b3,(x1.trans x2).trans x3⟩ ?_ ?_⟩⟩
   ·rintro i σ G' hi ⟨y7,z,rfl,rz,lz,bz,xz⟩
    refine ⟨_,rfl,_,rfl,_,rfl,p,_,rfl,bz,by decide,by decide,fun f G4 f0 f1 b4 x4=>?_⟩
    obtain ⟨n,en,h1,_⟩:=lfI f0 f1
    have sn:=rz.snoc h1
    refine ⟨LF,_,n,rfl,rfl,(by show 36≤sizeLine; omega),en,_,_,rfl,rfl,(by show z.length + 1≤sizeLine; omega),?_⟩
    exact ⟨_,_,rfl,sn.1,by omega,b4,xz.trans x4⟩
   ·rintro σ G' ⟨y7,z,rfl,rz,lz,bz,xz⟩
    exact ⟨_,z,rfl,rz,by omega,bz,xz⟩
  rintro σ G' ⟨y7,z,rfl,rz,lz,bz,xz⟩
  refine ⟨_,rfl,.inl ⟨rfl,_,SqL.of (xz _ _ np gl)⟩,_,rfl,l,_,_,rfl,rfl,xz _ _ np gl,(by rw [List.length_map]; omega),?_⟩
  refine ⟨_,_,_,zs ++ [z],rfl,(by rw [upd_same,List.map_append]; rfl),(by rw [List.length_append,zl]; rfl),(fun w' hw=>?_),?_,?_,?_⟩
  ·rcases List.mem_append.mp hw with hw | hw
   ·exact ok w' hw
   ·rw [List.mem_singleton.mp hw]; exact ⟨rz,lz⟩
  ·obtain ⟨a1,a2,a3,e⟩:=bz
   exact ⟨a1,a2,a3,by rw [upd_ne (Ne.symm np)]; exact e⟩
  ·intro b' o hb e
   have:=xz _ _ hb (XG _ _ hb e)
   rw [upd_ne (ne_of_none e fr)]
   exact this
  ·rw [upd_ne (Ne.symm nlp)]
   exact xz _ _ npl gp
 ·rintro σ G' ⟨y5,y6,y7,zs,rfl,gl,zl,ok,bG,XG,gp⟩
  exact ⟨_,rfl,q l zs G' fr ⟨gl,by omega,by omega,ok⟩ bG XG⟩
theorem wInj {k j:Nat} (hk:k < 16) (hj:j < 16) (h:V.str (wOf k) = V.str (wOf j)):k = j:=by
 have a:∀ k ∈ List.range 16,∀ j ∈ List.range 16,decide (wOf k = wOf j) = decide (k = j):=by decide +kernel
 have:=a k (List.mem_range.mpr hk) j (List.mem_range.mpr hj)
 injection h with h
 rw [decide_eq_true h] at this
 exact of_decide_eq_true this.symm
def sorts15:List Str:=["set", "copy", "sum", "gap", "low", "high", "left", "right", "slide", "and", "or", "unlike", "under", "pick", "mark"]
theorem sorts_at {k:Int} (h0:0≤k) (h1:k < 15):atI (sorts15.map V.str) k = some (.str (wOf k.toNat)):=by
 have a:∀ i ∈ List.range 15,sorts15[i]? = some (wOf i):=by decide +kernel
 have e:=a k.toNat (List.mem_range.mpr (by omega))
 have:=atI_nat (xs:=sorts15.map V.str) (j:=k.toNat) (v:=.str (wOf k.toNat)) (by rw [List.getElem?_map,e]; rfl)
 rw [show ((k.toNat:Nat):Int) = k by omega] at this
 exact this
def spName:Sp:=fun vs H Q _=>∃ (p l:Addr) (zs:List Str),vs = [.ref p,.ref l]∧Box H p∧Nms H l zs∧l ≠ p∧∀ (z:Str) H',z ∈ zs→Box H' p→SameX p H H'→Q (.str z) H'
theorem ok__law_name {f:Addr} {fd:FuncData} (F:Fun K "_law_name" "_law_name" s__law_name f fd) (T:Txt K mg c) (H__law_draw:Has P w K mg base 1 "_law_draw" ["_law_state", "_law_many"] spTake3):FnOk P w K mg base CX0 2 f fd ["_law_state", "_law_names_here"] spName:=by
 refine F.ok sc__law_name (fun vs H Q E h=>?_) (fun cdv A outer s H vs Q E hr h=>?_)
 ·obtain ⟨p,l,zs,rfl,_⟩:=h
  rfl
 obtain ⟨p,l,zs,rfl,b,⟨hl,n2,n5,ok⟩,np,q⟩:=h
 refine ⟨_,(pss_one (ps_ret (pe_ix ix_list (pv 1) (pe_fn H__law_draw (hr.mono (by omega)) rfl (pa_cons (pv 0) (pa_cons (pe_callB call_len_seq rfl T.n_len boot_len (pa_cons (pv 1) pa_nil)) pa_nil))) (fun _ _=>rfl)))),?_⟩
 refine ⟨_,rfl,_,rfl,_,rfl,l,_,rfl,.inl (SqL.of hl),p,_,rfl,b,(by rw [List.length_map]; omega),(by rw [List.length_map]; omega),fun d H1 d0 d1 b1 x1=>?_⟩
 obtain ⟨v,⟨z,hz,rfl⟩,ev⟩:=pickV (xs:=zs.map V.str) (Pr:=fun v=>∃ z,z ∈ zs∧v = .str z) d0 d1 (fun x hx=>by obtain ⟨z,hz,rfl⟩:=List.mem_map.mp hx; exact ⟨z,hz,rfl⟩)
 exact ⟨l,_,_,_,rfl,rfl,SqL.of (x1 _ _ np hl),ev,q z H1 hz b1 x1⟩
def spSorts:Sp:=fun vs H Q _=>vs = []∧∀ (l:Addr) H',H l = none→H' l = some (.lst (sorts15.map V.str))→Same H H'→Q (.ref l) H'
theorem ok__law_sorts {f:Addr} {fd:FuncData} (F:Fun K "_law_sorts" "_law_sorts" s__law_sorts f fd) (T:Txt K mg c) :FnOk P w K mg base CX0 1 f fd [] spSorts:=by
 refine F.ok sc__law_sorts (fun vs H Q E h=>?_) (fun cdv A outer s H vs Q E hr h=>?_)
 ·obtain ⟨rfl,_⟩:=h
  rfl
 obtain ⟨rfl,q⟩:=h
 refine slE ⟨_,(pss_consZ (ps_setS (i:=0) sc__law_sorts.nd rfl (Or.inl rfl) (pe_lstS (pa_consS pe_str (pa_consS pe_str (pa_consS pe_str (pa_consS pe_str (pa_consS pe_str (pa_consS pe_str (pa_consS pe_str (pa_consS pe_str (pa_consS pe_str (pa_consS pe_str (pa_consS pe_str (pa_consS pe_str pa_nilS))))))))))))))
  (pss_oneZ (slIn (ps_ret (pe_op op_addL (pv 0) (pe_lst (pa_cons pe_str (pa_cons pe_str (pa_cons pe_str pa_nil))))))))),?_⟩
 refine ⟨(by show 12≤sizeLine; decide),fun l1 h1=>?_⟩
 obtain ⟨G1,w1,s1,f1⟩:=newO h1 (.lst [.str "set",.str "copy",.str "sum",.str "gap",.str "low",.str "high",.str "left",.str "right",.str "slide",.str "and",.str "or",.str "unlike"])
 rw [w1]
 refine ⟨_,rfl,(by show 3≤sizeLine; decide),fun l2 h2=>?_⟩
 obtain ⟨G2,w2,s2,f2⟩:=newO h2 (.lst [.str "under",.str "pick",.str "mark"])
 rw [w2]
 refine ⟨l1,l2,_,_,rfl,rfl,SqL.of (s2 _ _ f1),SqL.of f2,(by show 12 + 3≤sizeLine; decide),fun l3 h3=>?_⟩
 exact q l3 _ (Same.none (s1.trans s2) h3) upd_same ((s1.trans s2).trans (same_new h3 _))
def spRow:Sp:=fun vs H Q _=>∃ (p l:Addr) (w:Int) (k:Nat) (zs:List Str),vs = [.ref p,.int w,.ref l,.int (k:Int)]∧Box H p∧4≤w∧w≤32∧Nms H l zs∧l ≠ p∧k < 15∧∀ (t:Addr) (fs:List V) H',H' t = some (.tup (.str (wOf k) :: fs))→fs.length = (nOf k).length→(∀ f ∈ fs,flatV f = true)→Box H' p→SameX p H H'→Q (.ref t) H'
theorem Nms.sx {H H':Hp} {p l:Addr} {zs:List Str} (h:Nms H l zs) (x:SameX p H H') (n:l ≠ p):Nms H' l zs:=⟨x _ _ n h.1,h.2⟩
theorem ok__law_row {f:Addr} {fd:FuncData} (F:Fun K "_law_row" "_law_row" s__law_row f fd) (T:Txt K mg c) (H__law_name:Has P w K mg base 2 "_law_name" ["_law_state", "_law_names_here"] spName) (H__law_sorts:Has P w K mg base 1 "_law_sorts" [] spSorts) (H__law_word:Has P w K mg base 2 "_law_word" ["_law_state", "_law_width"] spWrd) (H__law_draw:Has P w K mg base 1 "_law_draw" ["_law_state", "_law_many"] spTake3):FnOk P w K mg base CX0 3 f fd ["_law_state", "_law_width", "_law_names_here", "_law_at"] spRow:=by
 refine F.ok sc__law_row (fun vs H Q E h=>?_) (fun cdv A outer s H vs Q E hr h=>?_)
 ·obtain ⟨p,l,w',k,zs,rfl,_⟩:=h
  rfl
 obtain ⟨p,l,w',k,zs,rfl,b,w0,w1,nm,np,k15,q⟩:=h
 refine slE ⟨_,(pss_consZ (slIn (ps_set (i:=4) sc__law_row.nd rfl (Or.inl rfl) (pe_ix ix_list (pe_fn0 H__law_sorts (hr.mono (by omega)) rfl) (pv 3) (fun _ _=>rfl))))
  (pss_consZ (slIn (ps_set (i:=5) sc__law_row.nd rfl (Or.inl rfl) (pe_fn H__law_name (hr.mono (by omega)) rfl (pa_cons (pv 0) (pa_cons (pv 2) pa_nil)))))
  (pss_consZ (slIn (ps_set (i:=6) sc__law_row.nd rfl (Or.inl rfl) (pe_fn H__law_name (hr.mono (by omega)) rfl (pa_cons (pv 0) (pa_cons (pv 2) pa_nil)))))
  (pss_consZ (slIn (ps_set (i:=7) sc__law_row.nd rfl (Or.inl rfl) (pe_fn H__law_name (hr.mono (by omega)) rfl (pa_cons (pv 0) (pa_cons (pv 2) pa_nil)))))
  (pss_consZ (ps_ifZ (pt_cmpR op_eq (pv 4) pe_str (nomark _))
   (pss_oneZ (slIn (ps_ret (pe_tup (pa_cons pe_str (pa_cons (pv 5) (pa_cons (pe_fn H__law_word (hr.mono (by omega)) rfl (pa_cons (pv 0) (pa_cons (pv 1) pa_nil))) pa_nil)))))))
   pss_nilZ)
  (pss_consZ (ps_ifZ (pt_cmpR op_eq (pv 4) pe_str (nomark _))
   (pss_oneZ (slIn (ps_ret (pe_tup (pa_cons pe_str (pa_cons (pv 5) (pa_cons (pv 6) pa_nil)))))))
   pss_nilZ)
  (pss_consZ (ps_ifZ (PW.pt (pw_or (pt_cmpR op_eq (pv 4) pe_str (nomark _)) (pw_or1 (pt_cmpR op_eq (pv 4) pe_str (nomark _)))))
   (pss_oneZ (slIn (ps_ret (pe_tup (pa_cons (pv 4) (pa_cons (pv 5) (pa_cons (pe_ix ix_list (pe_lst (pa_cons pe_non (pa_cons (pe_fn H__law_name (hr.mono (by omega)) rfl (pa_cons (pv 0) (pa_cons (pv 2) pa_nil))) pa_nil))) (pe_fn H__law_draw (hr.mono (by omega)) rfl (pa_cons (pv 0) (pa_cons pe_int pa_nil))) (fun _ _=>rfl)) (pa_cons (pv 6) (pa_cons (pv 7) pa_nil)))))))))
   pss_nilZ)
  (pss_consZ (ps_ifZ (PW.pt (pw_or (pt_cmpR op_eq (pv 4) pe_str (nomark _)) (pw_or (pt_cmpR op_eq (pv 4) pe_str (nomark _)) (pw_or1 (pt_cmpR op_eq (pv 4) pe_str (nomark _))))))
   (pss_oneZ (slIn (ps_ret (pe_tup (pa_cons (pv 4) (pa_cons (pv 5) (pa_cons (pv 6) (pa_cons (pe_ix ix_list (pe_lst (pa_cons pe_int (pa_cons (pe_op op_sub (pv 1) pe_int) (pa_cons (pe_fn H__law_draw (hr.mono (by omega)) rfl (pa_cons (pv 0) (pa_cons (pv 1) pa_nil))) pa_nil)))) (pe_fn H__law_draw (hr.mono (by omega)) rfl (pa_cons (pv 0) (pa_cons pe_int pa_nil))) (fun _ _=>rfl)) pa_nil))))))))
   pss_nilZ)
  (pss_consZ (ps_ifZ (pt_cmpR op_eq (pv 4) pe_str (nomark _))
   (pss_oneZ (slIn (ps_ret (pe_tup (pa_cons pe_str (pa_cons (pv 5) (pa_cons (pe_fn H__law_name (hr.mono (by omega)) rfl (pa_cons (pv 0) (pa_cons (pv 2) pa_nil))) (pa_cons (pv 6) (pa_cons (pv 7) pa_nil)))))))))
   pss_nilZ)
  (pss_consZ (ps_ifZ (pt_cmpR op_eq (pv 4) pe_str (nomark _))
   (pss_consZ (ps_setS (i:=8) sc__law_row.nd rfl (Or.inl rfl) (pe_ixS ix_list (pe_lstS (pa_consS pe_int (pa_consS pe_int (pa_consS (pe_fn H__law_draw (hr.mono (by omega)) rfl (pa_cons (pv 0) (pa_cons pe_int pa_nil))) (pa_consS (pe_fn H__law_draw (hr.mono (by omega)) rfl (pa_cons (pv 0) (pa_cons pe_int pa_nil))) pa_nilS))))) (pe_fn H__law_draw (hr.mono (by omega)) rfl (pa_cons (pv 0) (pa_cons pe_int pa_nil))) (fun _ _=>rfl)))
   (pss_oneZ (slIn (ps_ret (pe_tup (pa_cons pe_str (pa_cons (pv 8) (pa_cons (pe_ix ix_list (pe_lst (pa_cons pe_str (pa_cons pe_str (pa_cons pe_str pa_nil)))) (pe_fn H__law_draw (hr.mono (by omega)) rfl (pa_cons (pv 0) (pa_cons pe_int pa_nil))) (fun _ _=>rfl)) (pa_cons (pv 6) pa_nil)))))))))
   pss_nilZ)
  (pss_oneZ (slIn (ps_ret (pe_tup (pa_cons (pv 4) (pa_cons (pv 5) (pa_cons (pv 6) (pa_cons (pv 7) pa_nil)))))))))))))))))),?_⟩
 have sa:=sorts_at (k:=(k:Int)) (by omega) (by omega)
 rw [Int.toNat_natCast] at sa
 refine ⟨rfl,fun l0 H0 _ f0 s0=>⟨_,rfl,l0,_,_,_,rfl,rfl,SqL.of f0,sa,?_⟩⟩
 have b0:=b.same s0
 have nm0:Nms H0 l zs:=⟨s0 _ _ nm.1,nm.2⟩
 refine ⟨_,rfl,_,rfl,p,l,zs,rfl,b0,nm0,np,fun z1 H1 _ b1 x1=>?_⟩
 refine ⟨_,rfl,_,rfl,p,l,zs,rfl,b1,nm0.sx x1 np,np,fun z2 H2 _ b2 x2=>?_⟩
 refine ⟨_,rfl,_,rfl,p,l,zs,rfl,b2,nm0.sx (x1.trans x2) np,np,fun z3 H3 _ b3 x3=>?_⟩
 have X3:SameX p H H3:=(SameX.of s0).trans ((x1.trans x2).trans x3)
 have nm3:Nms H3 l zs:=nm.sx X3 np
 clear sa f0 b0 nm0 x1 x2 x3 b1 b2 s0 b nm
 have ne:∀ j,j < 16→k ≠ j→¬ V.str (wOf k) = V.str (wOf j):=fun j hj h z=>h (wInj (by omega) hj z)
 refine ⟨_,rfl,rfl,_,rfl,?_⟩
 by_cases c0:k = 0
 ·subst c0
  refine iteD rfl ⟨_,rfl,_,rfl,_,rfl,p,_,rfl,b3,w0,w1,fun i H4 b4 x4=>⟨(by show 3≤sizeLine; decide),fun t ht=>?_⟩⟩
  exact q t _ _ upd_same rfl (allV ⟨rfl,rfl,trivial⟩) (b4.same (same_new ht _)) (X3.trans (x4.trans (SameX.of (same_new ht _))))
 refine iteDN (ne 0 (by decide) c0) ⟨_,rfl,rfl,_,rfl,?_⟩
 by_cases c1:k = 1
 ·subst c1
  refine iteD rfl ⟨_,rfl,_,rfl,(by show 3≤sizeLine; decide),fun t ht=>?_⟩
  exact q t _ _ upd_same rfl (allV ⟨rfl,rfl,trivial⟩) (b3.same (same_new ht _)) (X3.trans (SameX.of (same_new ht _)))
 refine iteDN (ne 1 (by decide) c1) ?_
 refine ⟨_,rfl,rfl,_,rfl,?_⟩
 by_cases c2:k = 2
 ·subst c2
  refine iteD rfl ?_
  refine ⟨_,rfl,_,rfl,_,rfl,_,rfl,p,l,zs,rfl,b3,nm3,np,fun z4 H4 _ b4 x4=>⟨(by show 2≤sizeLine; decide),fun m hm=>?_⟩⟩
  obtain ⟨G5,w5,s5,f5⟩:=newO hm (.lst [.non,.str z4])
  rw [w5]
  refine ⟨_,rfl,p,_,rfl,b4.same s5,by decide,by decide,fun d H6 d0 d1 b6 x6=>?_⟩
  obtain ⟨v,hv,ev⟩:=pickV (xs:=[.non,.str z4]) (Pr:=fun v=>flatV v = true) d0 d1 (allV ⟨rfl,rfl,trivial⟩)
  refine ⟨m,_,_,_,rfl,rfl,SqL.of (x6 _ _ (b4.ne hm) f5),ev,_,rfl,_,rfl,(by show 5≤sizeLine; decide),fun t ht=>?_⟩
  exact q t _ _ upd_same rfl (allV ⟨rfl,hv,rfl,rfl,trivial⟩) (b6.same (same_new ht _)) (X3.trans (x4.trans ((SameX.of s5).trans (x6.trans (SameX.of (same_new ht _))))))
 refine iteDN (ne 2 (by decide) c2) ⟨_,rfl,rfl,_,rfl,?_⟩
 by_cases c3:k = 3
 ·subst c3
  refine iteD rfl ?_
  refine ⟨_,rfl,_,rfl,_,rfl,_,rfl,p,l,zs,rfl,b3,nm3,np,fun z4 H4 _ b4 x4=>⟨(by show 2≤sizeLine; decide),fun m hm=>?_⟩⟩
  obtain ⟨G5,w5,s5,f5⟩:=newO hm (.lst [.non,.str z4])
  rw [w5]
  refine ⟨_,rfl,p,_,rfl,b4.same s5,by decide,by decide,fun d H6 d0 d1 b6 x6=>?_⟩
  obtain ⟨v,hv,ev⟩:=pickV (xs:=[.non,.str z4]) (Pr:=fun v=>flatV v = true) d0 d1 (allV ⟨rfl,rfl,trivial⟩)
  refine ⟨m,_,_,_,rfl,rfl,SqL.of (x6 _ _ (b4.ne hm) f5),ev,_,rfl,_,rfl,(by show 5≤sizeLine; decide),fun t ht=>?_⟩
  exact q t _ _ upd_same rfl (allV ⟨rfl,hv,rfl,rfl,trivial⟩) (b6.same (same_new ht _)) (X3.trans (x4.trans ((SameX.of s5).trans (x6.trans (SameX.of (same_new ht _))))))
 refine iteDN (ne 3 (by decide) c3) ⟨_,rfl,rfl,_,rfl,?_⟩
 by_cases c6:k = 6
 ·subst c6
  refine iteD rfl ?_
  refine ⟨_,rfl,_,rfl,_,rfl,_,rfl,_,_,rfl,rfl,_,rfl,_,rfl,p,_,rfl,b3,by omega,by omega,fun d4 H4 _ _ b4 x4=>⟨(by show 3≤sizeLine; decide),fun m hm=>?_⟩⟩
  obtain ⟨G5,w5,s5,f5⟩:=newO hm (.lst [.int 0,.int (w' - 1),.int d4])
  rw [w5]
  refine ⟨_,rfl,p,_,rfl,b4.same s5,by decide,by decide,fun d H6 d0 d1 b6 x6=>?_⟩
  obtain ⟨v,hv,ev⟩:=pickV (xs:=[.int 0,.int (w' - 1),.int d4]) (Pr:=fun v=>flatV v = true) d0 d1 (allV ⟨rfl,rfl,rfl,trivial⟩)
  refine ⟨m,_,_,_,rfl,rfl,SqL.of (x6 _ _ (b4.ne hm) f5),ev,(by show 4≤sizeLine; decide),fun t ht=>?_⟩
  exact q t _ _ upd_same rfl (allV ⟨rfl,rfl,hv,trivial⟩) (b6.same (same_new ht _)) (X3.trans (x4.trans ((SameX.of s5).trans (x6.trans (SameX.of (same_new ht _))))))
 refine iteDN (ne 6 (by decide) c6) ⟨_,rfl,rfl,_,rfl,?_⟩
 by_cases c7:k = 7
 ·subst c7
  refine iteD rfl ?_
  refine ⟨_,rfl,_,rfl,_,rfl,_,rfl,_,_,rfl,rfl,_,rfl,_,rfl,p,_,rfl,b3,by omega,by omega,fun d4 H4 _ _ b4 x4=>⟨(by show 3≤sizeLine; decide),fun m hm=>?_⟩⟩
  obtain ⟨G5,w5,s5,f5⟩:=newO hm (.lst [.int 0,.int (w' - 1),.int d4])
  rw [w5]
  refine ⟨_,rfl,p,_,rfl,b4.same s5,by decide,by decide,fun d H6 d0 d1 b6 x6=>?_⟩
  obtain ⟨v,hv,ev⟩:=pickV (xs:=[.int 0,.int (w' - 1),.int d4]) (Pr:=fun v=>flatV v = true) d0 d1 (allV ⟨rfl,rfl,rfl,trivial⟩)
  refine ⟨m,_,_,_,rfl,rfl,SqL.of (x6 _ _ (b4.ne hm) f5),ev,(by show 4≤sizeLine; decide),fun t ht=>?_⟩
  exact q t _ _ upd_same rfl (allV ⟨rfl,rfl,hv,trivial⟩) (b6.same (same_new ht _)) (X3.trans (x4.trans ((SameX.of s5).trans (x6.trans (SameX.of (same_new ht _))))))
 refine iteDN (ne 7 (by decide) c7) ⟨_,rfl,rfl,_,rfl,?_⟩
 by_cases c8:k = 8
 ·subst c8
  refine iteD rfl ?_
  refine ⟨_,rfl,_,rfl,_,rfl,_,rfl,_,_,rfl,rfl,_,rfl,_,rfl,p,_,rfl,b3,by omega,by omega,fun d4 H4 _ _ b4 x4=>⟨(by show 3≤sizeLine; decide),fun m hm=>?_⟩⟩
  obtain ⟨G5,w5,s5,f5⟩:=newO hm (.lst [.int 0,.int (w' - 1),.int d4])
  rw [w5]
  refine ⟨_,rfl,p,_,rfl,b4.same s5,by decide,by decide,fun d H6 d0 d1 b6 x6=>?_⟩
  obtain ⟨v,hv,ev⟩:=pickV (xs:=[.int 0,.int (w' - 1),.int d4]) (Pr:=fun v=>flatV v = true) d0 d1 (allV ⟨rfl,rfl,rfl,trivial⟩)
  refine ⟨m,_,_,_,rfl,rfl,SqL.of (x6 _ _ (b4.ne hm) f5),ev,(by show 4≤sizeLine; decide),fun t ht=>?_⟩
  exact q t _ _ upd_same rfl (allV ⟨rfl,rfl,hv,trivial⟩) (b6.same (same_new ht _)) (X3.trans (x4.trans ((SameX.of s5).trans (x6.trans (SameX.of (same_new ht _))))))
 refine iteDN (ne 8 (by decide) c8) ⟨_,rfl,rfl,_,rfl,?_⟩
 by_cases c13:k = 13
 ·subst c13
  refine iteD rfl ⟨_,rfl,_,rfl,_,rfl,p,l,zs,rfl,b3,nm3,np,fun z4 H4 _ b4 x4=>⟨_,rfl,_,rfl,(by show 5≤sizeLine; decide),fun t ht=>?_⟩⟩
  exact q t _ _ upd_same rfl (allV ⟨rfl,rfl,rfl,rfl,trivial⟩) (b4.same (same_new ht _)) (X3.trans (x4.trans (SameX.of (same_new ht _))))
 refine iteDN (ne 13 (by decide) c13) ⟨_,rfl,rfl,_,rfl,?_⟩
 by_cases c14:k = 14
 ·subst c14
  refine iteD rfl ⟨_,rfl,p,_,rfl,b3,by decide,by decide,fun d4 H4 _ _ b4 x4=>⟨_,rfl,p,_,rfl,b4,by decide,by decide,fun d5 H5 _ _ b5 x5=>⟨(by show 4≤sizeLine; decide),fun m hm=>?_⟩⟩⟩
  obtain ⟨G6,w6,s6,f6⟩:=newO hm (.lst [.int 0,.int 9999,.int d4,.int d5])
  rw [w6]
  refine ⟨_,rfl,p,_,rfl,b5.same s6,by decide,by decide,fun d H7 d0 d1 b7 x7=>?_⟩
  obtain ⟨v,hv,ev⟩:=pickV (xs:=[.int 0,.int 9999,.int d4,.int d5]) (Pr:=fun v=>flatV v = true) d0 d1 (allV ⟨rfl,rfl,rfl,rfl,trivial⟩)
  refine ⟨m,_,_,_,rfl,rfl,SqL.of (x7 _ _ (b5.ne hm) f6),ev,?_⟩
  refine ⟨_,rfl,(by show 3≤sizeLine; decide),fun m' hm'=>?_⟩
  obtain ⟨G8,w8,s8,f8⟩:=newO hm' (.lst [.str "round",.str "stop",.str "nothing"])
  rw [w8]
  refine ⟨_,rfl,p,_,rfl,b7.same s8,by decide,by decide,fun d H9 d0 d1 b9 x9=>?_⟩
  obtain ⟨v',hv',ev'⟩:=pickV (xs:=[.str "round",.str "stop",.str "nothing"]) (Pr:=fun v=>flatV v = true) d0 d1 (allV ⟨rfl,rfl,rfl,trivial⟩)
  refine ⟨m',_,_,_,rfl,rfl,SqL.of (x9 _ _ (b7.ne hm') f8),ev',_,rfl,(by show 4≤sizeLine; decide),fun t ht=>?_⟩
  exact q t _ _ upd_same rfl (allV ⟨hv,hv',rfl,trivial⟩) (b9.same (same_new ht _)) (X3.trans (x4.trans (x5.trans ((SameX.of s6).trans (x7.trans ((SameX.of s8).trans (x9.trans (SameX.of (same_new ht _)))))))))
 refine iteDN (ne 14 (by decide) c14) ⟨_,rfl,_,rfl,_,rfl,_,rfl,(by show 4≤sizeLine; decide),fun t ht=>?_⟩
 have n3:(nOf k).length = 3:=by
  rcases (by omega:k = 4∨k = 5∨k = 9∨k = 10∨k = 11∨k = 12) with rfl | rfl | rfl | rfl | rfl | rfl <;> rfl
 exact q t _ _ upd_same n3.symm (allV ⟨rfl,rfl,rfl,trivial⟩) (b3.same (same_new ht _)) (X3.trans (SameX.of (same_new ht _)))
theorem made_same {x dx C:Addr} {H H':Hp} (hx:H x = none) (hd:H dx = none) (s:SameX x (upd (upd H dx (.own x)) x (.ins C dx [])) H'):Same H H':=fun b o h=>s b o (ne_of_none h hx) (by rw [upd_ne (ne_of_none h hx),upd_ne (ne_of_none h hd)]; exact h)
def spMade (c:Ad) (ks:List Nat):Sp:=fun vs H Q _=>∃ (t:Addr) (k:Nat) (fs:List V),vs = [.ref t]∧H t = some (.tup (.str (wOf k) :: fs))∧k ∈ ks∧fs.length = (nOf k).length∧∀ (x:Addr) H',H x = none→StepAt c H' x k fs→Same H H'→Q (.ref x) H'
theorem ok__law_made_pair {f:Addr} {fd:FuncData} (F:Fun K "_law_made_pair" "_law_made_pair" s__law_made_pair f fd) (T:Txt K mg c)  (C_Mark:CHas P w K mg base 1 c.Mark "Mark" ["self", "line", "mark", "by"] (spInit K ["line", "mark", "by"])) (C_Low:CHas P w K mg base 1 c.Low "Low" ["self", "goal", "one", "other"] (spInit K ["goal", "one", "other"])) (C_High:CHas P w K mg base 1 c.High "High" ["self", "goal", "one", "other"] (spInit K ["goal", "one", "other"])) (C_And:CHas P w K mg base 1 c.And "And" ["self", "goal", "one", "other"] (spInit K ["goal", "one", "other"])) (C_Or:CHas P w K mg base 1 c.Or "Or" ["self", "goal", "one", "other"] (spInit K ["goal", "one", "other"])) (C_Unlike:CHas P w K mg base 1 c.Unlike "Unlike" ["self", "goal", "one", "other"] (spInit K ["goal", "one", "other"])) (C_Under:CHas P w K mg base 1 c.Under "Under" ["self", "goal", "one", "other"] (spInit K ["goal", "one", "other"])) (C_Left:CHas P w K mg base 1 c.Left "Left" ["self", "goal", "one", "k"] (spInit K ["goal", "one", "k"])) (C_Right:CHas P w K mg base 1 c.Right "Right" ["self", "goal", "one", "k"] (spInit K ["goal", "one", "k"])) (C_Slide:CHas P w K mg base 1 c.Slide "Slide" ["self", "goal", "one", "k"] (spInit K ["goal", "one", "k"])):FnOk P w K mg base CX0 3 f fd ["_law_row_here"] (spMade c [4,5,9,10,11,12,6,7,8,14]):=by
 refine F.ok sc__law_made_pair (fun vs H Q E h=>?_) (fun cdv A outer s H vs Q E hr h=>?_)
 ·obtain ⟨t,k,fs,rfl,_⟩:=h
  rfl
 obtain ⟨t,k,fs,rfl,ht,hk,ln,q⟩:=h
 refine ⟨_,(pss_cons (ps_if (pt_cmpR op_eq (pe_ix ix_tup (pv 0) pe_int (fun _ _=>rfl)) pe_str (nomark _))
   (pss_one (ps_ret (pe_mkP C_Low (hr.mono (by omega)) rfl (pa_cons (pe_ix ix_tup (pv 0) pe_int (fun _ _=>rfl)) (pa_cons (pe_ix ix_tup (pv 0) pe_int (fun _ _=>rfl)) (pa_cons (pe_ix ix_tup (pv 0) pe_int (fun _ _=>rfl)) pa_nil))))))
   pss_nil)
  (pss_cons (ps_if (pt_cmpR op_eq (pe_ix ix_tup (pv 0) pe_int (fun _ _=>rfl)) pe_str (nomark _))
   (pss_one (ps_ret (pe_mkP C_High (hr.mono (by omega)) rfl (pa_cons (pe_ix ix_tup (pv 0) pe_int (fun _ _=>rfl)) (pa_cons (pe_ix ix_tup (pv 0) pe_int (fun _ _=>rfl)) (pa_cons (pe_ix ix_tup (pv 0) pe_int (fun _ _=>rfl)) pa_nil))))))
   pss_nil)
  (pss_cons (ps_if (pt_cmpR op_eq (pe_ix ix_tup (pv 0) pe_int (fun _ _=>rfl)) pe_str (nomark _))
   (pss_one (ps_ret (pe_mkP C_And (hr.mono (by omega)) rfl (pa_cons (pe_ix ix_tup (pv 0) pe_int (fun _ _=>rfl)) (pa_cons (pe_ix ix_tup (pv 0) pe_int (fun _ _=>rfl)) (pa_cons (pe_ix ix_tup (pv 0) pe_int (fun _ _=>rfl)) pa_nil))))))
   pss_nil)
  (pss_cons (ps_if (pt_cmpR op_eq (pe_ix ix_tup (pv 0) pe_int (fun _ _=>rfl)) pe_str (nomark _))
   (pss_one (ps_ret (pe_mkP C_Or (hr.mono (by omega)) rfl (pa_cons (pe_ix ix_tup (pv 0) pe_int (fun _ _=>rfl)) (pa_cons (pe_ix ix_tup (pv 0) pe_int (fun _ _=>rfl)) (pa_cons (pe_ix ix_tup (pv 0) pe_int (fun _ _=>rfl)) pa_nil))))))
   pss_nil)
  (pss_cons (ps_if (pt_cmpR op_eq (pe_ix ix_tup (pv 0) pe_int (fun _ _=>rfl)) pe_str (nomark _))
   (pss_one (ps_ret (pe_mkP C_Unlike (hr.mono (by omega)) rfl (pa_cons (pe_ix ix_tup (pv 0) pe_int (fun _ _=>rfl)) (pa_cons (pe_ix ix_tup (pv 0) pe_int (fun _ _=>rfl)) (pa_cons (pe_ix ix_tup (pv 0) pe_int (fun _ _=>rfl)) pa_nil))))))
   pss_nil)
  (pss_cons (ps_if (pt_cmpR op_eq (pe_ix ix_tup (pv 0) pe_int (fun _ _=>rfl)) pe_str (nomark _))
   (pss_one (ps_ret (pe_mkP C_Under (hr.mono (by omega)) rfl (pa_cons (pe_ix ix_tup (pv 0) pe_int (fun _ _=>rfl)) (pa_cons (pe_ix ix_tup (pv 0) pe_int (fun _ _=>rfl)) (pa_cons (pe_ix ix_tup (pv 0) pe_int (fun _ _=>rfl)) pa_nil))))))
   pss_nil)
  (pss_cons (ps_if (pt_cmpR op_eq (pe_ix ix_tup (pv 0) pe_int (fun _ _=>rfl)) pe_str (nomark _))
   (pss_one (ps_ret (pe_mkP C_Left (hr.mono (by omega)) rfl (pa_cons (pe_ix ix_tup (pv 0) pe_int (fun _ _=>rfl)) (pa_cons (pe_ix ix_tup (pv 0) pe_int (fun _ _=>rfl)) (pa_cons (pe_ix ix_tup (pv 0) pe_int (fun _ _=>rfl)) pa_nil))))))
   pss_nil)
  (pss_cons (ps_if (pt_cmpR op_eq (pe_ix ix_tup (pv 0) pe_int (fun _ _=>rfl)) pe_str (nomark _))
   (pss_one (ps_ret (pe_mkP C_Right (hr.mono (by omega)) rfl (pa_cons (pe_ix ix_tup (pv 0) pe_int (fun _ _=>rfl)) (pa_cons (pe_ix ix_tup (pv 0) pe_int (fun _ _=>rfl)) (pa_cons (pe_ix ix_tup (pv 0) pe_int (fun _ _=>rfl)) pa_nil))))))
   pss_nil)
  (pss_cons (ps_if (pt_cmpR op_eq (pe_ix ix_tup (pv 0) pe_int (fun _ _=>rfl)) pe_str (nomark _))
   (pss_one (ps_ret (pe_mkP C_Slide (hr.mono (by omega)) rfl (pa_cons (pe_ix ix_tup (pv 0) pe_int (fun _ _=>rfl)) (pa_cons (pe_ix ix_tup (pv 0) pe_int (fun _ _=>rfl)) (pa_cons (pe_ix ix_tup (pv 0) pe_int (fun _ _=>rfl)) pa_nil))))))
   pss_nil)
  (pss_one (ps_ret (pe_mkP C_Mark (hr.mono (by omega)) rfl (pa_cons (pe_ix ix_tup (pv 0) pe_int (fun _ _=>rfl)) (pa_cons (pe_ix ix_tup (pv 0) pe_int (fun _ _=>rfl)) (pa_cons (pe_ix ix_tup (pv 0) pe_int (fun _ _=>rfl)) pa_nil))))))))))))))),?_⟩
 have k15:k < 15:=by simp only [List.mem_cons,List.not_mem_nil,or_false] at hk; omega
 have ne:∀ j,j < 16→k ≠ j→¬ V.str (wOf k) = V.str (wOf j):=fun j hj h z=>h (wInj (by omega) hj z)
 refine ⟨_,rfl,t,_,_,_,rfl,rfl,SqT.of ht,at0 _ _,rfl,_,rfl,?_⟩
 by_cases c4:k = 4
 ·subst c4
  obtain ⟨a0,a1,a2,rfl⟩:=len3 ln
  obtain ⟨cl,na⟩:=T.clF (k:=4) (by decide)
  refine iteD rfl ⟨_,rfl,t,_,_,_,rfl,rfl,SqT.of ht,rfl,_,rfl,t,_,_,_,rfl,rfl,SqT.of ht,rfl,_,rfl,t,_,_,_,rfl,rfl,SqT.of ht,rfl,fun x dx hx hdx hne=>⟨x,_,dx,_,rfl,rfl,upd_same,cl,na,fun H' hx' sx=>⟨rfl,q x H' hx ⟨dx,hx',rfl⟩ (made_same hx hdx sx)⟩⟩⟩
 refine iteDN (ne 4 (by decide) c4) ?_
 refine ⟨_,rfl,t,_,_,_,rfl,rfl,SqT.of ht,at0 _ _,rfl,_,rfl,?_⟩
 by_cases c5:k = 5
 ·subst c5
  obtain ⟨a0,a1,a2,rfl⟩:=len3 ln
  obtain ⟨cl,na⟩:=T.clF (k:=5) (by decide)
  refine iteD rfl ⟨_,rfl,t,_,_,_,rfl,rfl,SqT.of ht,rfl,_,rfl,t,_,_,_,rfl,rfl,SqT.of ht,rfl,_,rfl,t,_,_,_,rfl,rfl,SqT.of ht,rfl,fun x dx hx hdx hne=>⟨x,_,dx,_,rfl,rfl,upd_same,cl,na,fun H' hx' sx=>⟨rfl,q x H' hx ⟨dx,hx',rfl⟩ (made_same hx hdx sx)⟩⟩⟩
 refine iteDN (ne 5 (by decide) c5) ?_
 refine ⟨_,rfl,t,_,_,_,rfl,rfl,SqT.of ht,at0 _ _,rfl,_,rfl,?_⟩
 by_cases c9:k = 9
 ·subst c9
  obtain ⟨a0,a1,a2,rfl⟩:=len3 ln
  obtain ⟨cl,na⟩:=T.clF (k:=9) (by decide)
  refine iteD rfl ⟨_,rfl,t,_,_,_,rfl,rfl,SqT.of ht,rfl,_,rfl,t,_,_,_,rfl,rfl,SqT.of ht,rfl,_,rfl,t,_,_,_,rfl,rfl,SqT.of ht,rfl,fun x dx hx hdx hne=>⟨x,_,dx,_,rfl,rfl,upd_same,cl,na,fun H' hx' sx=>⟨rfl,q x H' hx ⟨dx,hx',rfl⟩ (made_same hx hdx sx)⟩⟩⟩
 refine iteDN (ne 9 (by decide) c9) ?_
 refine ⟨_,rfl,t,_,_,_,rfl,rfl,SqT.of ht,at0 _ _,rfl,_,rfl,?_⟩
 by_cases c10:k = 10
 ·subst c10
  obtain ⟨a0,a1,a2,rfl⟩:=len3 ln
  obtain ⟨cl,na⟩:=T.clF (k:=10) (by decide)
  refine iteD rfl ⟨_,rfl,t,_,_,_,rfl,rfl,SqT.of ht,rfl,_,rfl,t,_,_,_,rfl,rfl,SqT.of ht,rfl,_,rfl,t,_,_,_,rfl,rfl,SqT.of ht,rfl,fun x dx hx hdx hne=>⟨x,_,dx,_,rfl,rfl,upd_same,cl,na,fun H' hx' sx=>⟨rfl,q x H' hx ⟨dx,hx',rfl⟩ (made_same hx hdx sx)⟩⟩⟩
 refine iteDN (ne 10 (by decide) c10) ?_
 refine ⟨_,rfl,t,_,_,_,rfl,rfl,SqT.of ht,at0 _ _,rfl,_,rfl,?_⟩
 by_cases c11:k = 11
 ·subst c11
  obtain ⟨a0,a1,a2,rfl⟩:=len3 ln
  obtain ⟨cl,na⟩:=T.clF (k:=11) (by decide)
  refine iteD rfl ⟨_,rfl,t,_,_,_,rfl,rfl,SqT.of ht,rfl,_,rfl,t,_,_,_,rfl,rfl,SqT.of ht,rfl,_,rfl,t,_,_,_,rfl,rfl,SqT.of ht,rfl,fun x dx hx hdx hne=>⟨x,_,dx,_,rfl,rfl,upd_same,cl,na,fun H' hx' sx=>⟨rfl,q x H' hx ⟨dx,hx',rfl⟩ (made_same hx hdx sx)⟩⟩⟩
 refine iteDN (ne 11 (by decide) c11) ?_
 refine ⟨_,rfl,t,_,_,_,rfl,rfl,SqT.of ht,at0 _ _,rfl,_,rfl,?_⟩
 by_cases c12:k = 12
 ·subst c12
  obtain ⟨a0,a1,a2,rfl⟩:=len3 ln
  obtain ⟨cl,na⟩:=T.clF (k:=12) (by decide)
  refine iteD rfl ⟨_,rfl,t,_,_,_,rfl,rfl,SqT.of ht,rfl,_,rfl,t,_,_,_,rfl,rfl,SqT.of ht,rfl,_,rfl,t,_,_,_,rfl,rfl,SqT.of ht,rfl,fun x dx hx hdx hne=>⟨x,_,dx,_,rfl,rfl,upd_same,cl,na,fun H' hx' sx=>⟨rfl,q x H' hx ⟨dx,hx',rfl⟩ (made_same hx hdx sx)⟩⟩⟩
 refine iteDN (ne 12 (by decide) c12) ?_
 refine ⟨_,rfl,t,_,_,_,rfl,rfl,SqT.of ht,at0 _ _,rfl,_,rfl,?_⟩
 by_cases c6:k = 6
 ·subst c6
  obtain ⟨a0,a1,a2,rfl⟩:=len3 ln
  obtain ⟨cl,na⟩:=T.clF (k:=6) (by decide)
  refine iteD rfl ⟨_,rfl,t,_,_,_,rfl,rfl,SqT.of ht,rfl,_,rfl,t,_,_,_,rfl,rfl,SqT.of ht,rfl,_,rfl,t,_,_,_,rfl,rfl,SqT.of ht,rfl,fun x dx hx hdx hne=>⟨x,_,dx,_,rfl,rfl,upd_same,cl,na,fun H' hx' sx=>⟨rfl,q x H' hx ⟨dx,hx',rfl⟩ (made_same hx hdx sx)⟩⟩⟩
 refine iteDN (ne 6 (by decide) c6) ?_
 refine ⟨_,rfl,t,_,_,_,rfl,rfl,SqT.of ht,at0 _ _,rfl,_,rfl,?_⟩
 by_cases c7:k = 7
 ·subst c7
  obtain ⟨a0,a1,a2,rfl⟩:=len3 ln
  obtain ⟨cl,na⟩:=T.clF (k:=7) (by decide)
  refine iteD rfl ⟨_,rfl,t,_,_,_,rfl,rfl,SqT.of ht,rfl,_,rfl,t,_,_,_,rfl,rfl,SqT.of ht,rfl,_,rfl,t,_,_,_,rfl,rfl,SqT.of ht,rfl,fun x dx hx hdx hne=>⟨x,_,dx,_,rfl,rfl,upd_same,cl,na,fun H' hx' sx=>⟨rfl,q x H' hx ⟨dx,hx',rfl⟩ (made_same hx hdx sx)⟩⟩⟩
 refine iteDN (ne 7 (by decide) c7) ?_
 refine ⟨_,rfl,t,_,_,_,rfl,rfl,SqT.of ht,at0 _ _,rfl,_,rfl,?_⟩
 by_cases c8:k = 8
 ·subst c8
  obtain ⟨a0,a1,a2,rfl⟩:=len3 ln
  obtain ⟨cl,na⟩:=T.clF (k:=8) (by decide)
  refine iteD rfl ⟨_,rfl,t,_,_,_,rfl,rfl,SqT.of ht,rfl,_,rfl,t,_,_,_,rfl,rfl,SqT.of ht,rfl,_,rfl,t,_,_,_,rfl,rfl,SqT.of ht,rfl,fun x dx hx hdx hne=>⟨x,_,dx,_,rfl,rfl,upd_same,cl,na,fun H' hx' sx=>⟨rfl,q x H' hx ⟨dx,hx',rfl⟩ (made_same hx hdx sx)⟩⟩⟩
 refine iteDN (ne 8 (by decide) c8) ?_
 have e14:k = 14:=by simp only [List.mem_cons,List.not_mem_nil,or_false] at hk; omega
 subst e14
 obtain ⟨a0,a1,a2,rfl⟩:=len3 ln
 obtain ⟨cl,na⟩:=T.clF (k:=14) (by decide)
 refine ⟨_,rfl,t,_,_,_,rfl,rfl,SqT.of ht,rfl,_,rfl,t,_,_,_,rfl,rfl,SqT.of ht,rfl,_,rfl,t,_,_,_,rfl,rfl,SqT.of ht,rfl,fun x dx hx hdx hne=>⟨x,_,dx,_,rfl,rfl,upd_same,cl,na,fun H' hx' sx=>⟨rfl,q x H' hx ⟨dx,hx',rfl⟩ (made_same hx hdx sx)⟩⟩⟩
theorem ok__law_made {f:Addr} {fd:FuncData} (F:Fun K "_law_made" "_law_made" s__law_made f fd) (T:Txt K mg c) (H__law_made_pair:Has P w K mg base 3 "_law_made_pair" ["_law_row_here"] (spMade c [4,5,9,10,11,12,6,7,8,14])) (C_Set:CHas P w K mg base 1 c.Set "Set" ["self", "goal", "bits"] (spInit K ["goal", "bits"])) (C_Copy:CHas P w K mg base 1 c.Copy "Copy" ["self", "goal", "one"] (spInit K ["goal", "one"])) (C_Sum:CHas P w K mg base 1 c.Sum "Sum" ["self", "goal", "carry", "one", "other"] (spInit K ["goal", "carry", "one", "other"])) (C_Gap:CHas P w K mg base 1 c.Gap "Gap" ["self", "goal", "carry", "one", "other"] (spInit K ["goal", "carry", "one", "other"])) (C_Pick:CHas P w K mg base 1 c.Pick "Pick" ["self", "goal", "by", "one", "other"] (spInit K ["goal", "by", "one", "other"])):FnOk P w K mg base CX0 4 f fd ["_law_row_here"] (spMade c [0,1,2,3,4,5,6,7,8,9,10,11,12,13,14]):=by
 refine F.ok sc__law_made (fun vs H Q E h=>?_) (fun cdv A outer s H vs Q E hr h=>?_)
 ·obtain ⟨t,k,fs,rfl,_⟩:=h
  rfl
 obtain ⟨t,k,fs,rfl,ht,hk,ln,q⟩:=h
 refine ⟨_,(pss_cons (ps_if (pt_cmpR op_eq (pe_ix ix_tup (pv 0) pe_int (fun _ _=>rfl)) pe_str (nomark _))
   (pss_one (ps_ret (pe_mkP C_Set (hr.mono (by omega)) rfl (pa_cons (pe_ix ix_tup (pv 0) pe_int (fun _ _=>rfl)) (pa_cons (pe_ix ix_tup (pv 0) pe_int (fun _ _=>rfl)) pa_nil)))))
   pss_nil)
  (pss_cons (ps_if (pt_cmpR op_eq (pe_ix ix_tup (pv 0) pe_int (fun _ _=>rfl)) pe_str (nomark _))
   (pss_one (ps_ret (pe_mkP C_Copy (hr.mono (by omega)) rfl (pa_cons (pe_ix ix_tup (pv 0) pe_int (fun _ _=>rfl)) (pa_cons (pe_ix ix_tup (pv 0) pe_int (fun _ _=>rfl)) pa_nil)))))
   pss_nil)
  (pss_cons (ps_if (pt_cmpR op_eq (pe_ix ix_tup (pv 0) pe_int (fun _ _=>rfl)) pe_str (nomark _))
   (pss_one (ps_ret (pe_mkP C_Sum (hr.mono (by omega)) rfl (pa_cons (pe_ix ix_tup (pv 0) pe_int (fun _ _=>rfl)) (pa_cons (pe_ix ix_tup (pv 0) pe_int (fun _ _=>rfl)) (pa_cons (pe_ix ix_tup (pv 0) pe_int (fun _ _=>rfl)) (pa_cons (pe_ix ix_tup (pv 0) pe_int (fun _ _=>rfl)) pa_nil)))))))
   pss_nil)
  (pss_cons (ps_if (pt_cmpR op_eq (pe_ix ix_tup (pv 0) pe_int (fun _ _=>rfl)) pe_str (nomark _))
   (pss_one (ps_ret (pe_mkP C_Gap (hr.mono (by omega)) rfl (pa_cons (pe_ix ix_tup (pv 0) pe_int (fun _ _=>rfl)) (pa_cons (pe_ix ix_tup (pv 0) pe_int (fun _ _=>rfl)) (pa_cons (pe_ix ix_tup (pv 0) pe_int (fun _ _=>rfl)) (pa_cons (pe_ix ix_tup (pv 0) pe_int (fun _ _=>rfl)) pa_nil)))))))
   pss_nil)
  (pss_cons (ps_if (pt_cmpR op_eq (pe_ix ix_tup (pv 0) pe_int (fun _ _=>rfl)) pe_str (nomark _))
   (pss_one (ps_ret (pe_mkP C_Pick (hr.mono (by omega)) rfl (pa_cons (pe_ix ix_tup (pv 0) pe_int (fun _ _=>rfl)) (pa_cons (pe_ix ix_tup (pv 0) pe_int (fun _ _=>rfl)) (pa_cons (pe_ix ix_tup (pv 0) pe_int (fun _ _=>rfl)) (pa_cons (pe_ix ix_tup (pv 0) pe_int (fun _ _=>rfl)) pa_nil)))))))
   pss_nil)
  (pss_one (ps_ret (pe_fn H__law_made_pair (hr.mono (by omega)) rfl (pa_cons (pv 0) pa_nil))))))))),?_⟩
 have k15:k < 15:=by simp only [List.mem_cons,List.not_mem_nil,or_false] at hk; omega
 have ne:∀ j,j < 16→k ≠ j→¬ V.str (wOf k) = V.str (wOf j):=fun j hj h z=>h (wInj (by omega) hj z)
 refine ⟨_,rfl,t,_,_,_,rfl,rfl,SqT.of ht,at0 _ _,rfl,_,rfl,?_⟩
 by_cases c0:k = 0
 ·subst c0
  obtain ⟨a0,a1,rfl⟩:=len2 ln
  obtain ⟨cl,na⟩:=T.clF (k:=0) (by decide)
  refine iteD rfl ⟨_,rfl,t,_,_,_,rfl,rfl,SqT.of ht,rfl,_,rfl,t,_,_,_,rfl,rfl,SqT.of ht,rfl,fun x dx hx hdx hne=>⟨x,_,dx,_,rfl,rfl,upd_same,cl,na,fun H' hx' sx=>⟨rfl,q x H' hx ⟨dx,hx',rfl⟩ (made_same hx hdx sx)⟩⟩⟩
 refine iteDN (ne 0 (by decide) c0) ?_
 refine ⟨_,rfl,t,_,_,_,rfl,rfl,SqT.of ht,at0 _ _,rfl,_,rfl,?_⟩
 by_cases c1:k = 1
 ·subst c1
  obtain ⟨a0,a1,rfl⟩:=len2 ln
  obtain ⟨cl,na⟩:=T.clF (k:=1) (by decide)
  refine iteD rfl ⟨_,rfl,t,_,_,_,rfl,rfl,SqT.of ht,rfl,_,rfl,t,_,_,_,rfl,rfl,SqT.of ht,rfl,fun x dx hx hdx hne=>⟨x,_,dx,_,rfl,rfl,upd_same,cl,na,fun H' hx' sx=>⟨rfl,q x H' hx ⟨dx,hx',rfl⟩ (made_same hx hdx sx)⟩⟩⟩
 refine iteDN (ne 1 (by decide) c1) ?_
 refine ⟨_,rfl,t,_,_,_,rfl,rfl,SqT.of ht,at0 _ _,rfl,_,rfl,?_⟩
 by_cases c2:k = 2
 ·subst c2
  obtain ⟨a0,a1,a2,a3,rfl⟩:=len4 ln
  obtain ⟨cl,na⟩:=T.clF (k:=2) (by decide)
  refine iteD rfl ⟨_,rfl,t,_,_,_,rfl,rfl,SqT.of ht,rfl,_,rfl,t,_,_,_,rfl,rfl,SqT.of ht,rfl,_,rfl,t,_,_,_,rfl,rfl,SqT.of ht,rfl,_,rfl,t,_,_,_,rfl,rfl,SqT.of ht,rfl,fun x dx hx hdx hne=>⟨x,_,dx,_,rfl,rfl,upd_same,cl,na,fun H' hx' sx=>⟨rfl,q x H' hx ⟨dx,hx',rfl⟩ (made_same hx hdx sx)⟩⟩⟩
 refine iteDN (ne 2 (by decide) c2) ?_
 refine ⟨_,rfl,t,_,_,_,rfl,rfl,SqT.of ht,at0 _ _,rfl,_,rfl,?_⟩
 by_cases c3:k = 3
 ·subst c3
  obtain ⟨a0,a1,a2,a3,rfl⟩:=len4 ln
  obtain ⟨cl,na⟩:=T.clF (k:=3) (by decide)
  refine iteD rfl ⟨_,rfl,t,_,_,_,rfl,rfl,SqT.of ht,rfl,_,rfl,t,_,_,_,rfl,rfl,SqT.of ht,rfl,_,rfl,t,_,_,_,rfl,rfl,SqT.of ht,rfl,_,rfl,t,_,_,_,rfl,rfl,SqT.of ht,rfl,fun x dx hx hdx hne=>⟨x,_,dx,_,rfl,rfl,upd_same,cl,na,fun H' hx' sx=>⟨rfl,q x H' hx ⟨dx,hx',rfl⟩ (made_same hx hdx sx)⟩⟩⟩
 refine iteDN (ne 3 (by decide) c3) ?_
 refine ⟨_,rfl,t,_,_,_,rfl,rfl,SqT.of ht,at0 _ _,rfl,_,rfl,?_⟩
 by_cases c13:k = 13
 ·subst c13
  obtain ⟨a0,a1,a2,a3,rfl⟩:=len4 ln
  obtain ⟨cl,na⟩:=T.clF (k:=13) (by decide)
  refine iteD rfl ⟨_,rfl,t,_,_,_,rfl,rfl,SqT.of ht,rfl,_,rfl,t,_,_,_,rfl,rfl,SqT.of ht,rfl,_,rfl,t,_,_,_,rfl,rfl,SqT.of ht,rfl,_,rfl,t,_,_,_,rfl,rfl,SqT.of ht,rfl,fun x dx hx hdx hne=>⟨x,_,dx,_,rfl,rfl,upd_same,cl,na,fun H' hx' sx=>⟨rfl,q x H' hx ⟨dx,hx',rfl⟩ (made_same hx hdx sx)⟩⟩⟩
 refine iteDN (ne 13 (by decide) c13) ?_
 exact ⟨_,rfl,t,k,fs,rfl,ht,(by simp only [List.mem_cons,List.not_mem_nil,or_false] at hk ⊢; omega),ln,q⟩
def csOf (c:Ad):List Addr:=[c.Set,c.Copy,c.Sum,c.Gap,c.Low,c.High,c.Left,c.Right,c.Slide,c.And,c.Or,c.Unlike,c.Under,c.Pick,c.Mark,c.Turns]
theorem cs_at {c:Ad} {k:Nat} (h:k < 16):(csOf c).getD k 0 = fOf c k:=by
 rcases (by omega:k = 0∨k = 1∨k = 2∨k = 3∨k = 4∨k = 5∨k = 6∨k = 7∨k = 8∨k = 9∨k = 10∨k = 11∨k = 12∨k = 13∨k = 14∨k = 15) with rfl | rfl | rfl | rfl | rfl | rfl | rfl | rfl | rfl | rfl | rfl | rfl | rfl | rfl | rfl | rfl <;> rfl
theorem Txt.kd {K:PySem.W.Frag} {mg:Str→Option Value} {c:Ad} (T:Txt K mg c) {k:Nat} (h:k < 16):PySem.W.isClsIn K (fOf c k) = true∧PySem.W.typeIn K (.ref (fOf c k)) = some (.type "type")∧PySem.W.mroIn K (fOf c k) (.ref c.Step) = some true∧PySem.W.findIn K (.ref (fOf c k)) "__class__" = some (some (.builtin "object.__class__"))∧PySem.W.mroIn K (fOf c k) (.type "object") = some true∧∀ i,i < 16→PySem.W.mroIn K (fOf c k) (.ref (fOf c i)) = some (decide (i = k)):=by
 have a:=T.kf_kr_kinds
 have a:kindsAll K (csOf c) c.Step = true:=a
 unfold kindsAll at a
 simp only [Bool.and_eq_true] at a
 have b:=List.all_eq_true.mp a.2 k (List.mem_range.mpr h)
 simp only [Bool.and_eq_true,beq_iff_eq] at b
 rw [cs_at h] at b
 obtain ⟨⟨⟨⟨⟨b1,b2⟩,b3⟩,b4⟩,b5⟩,b6⟩:=b
 refine ⟨b1,b2,b3,b4,b5,fun i hi=>?_⟩
 have:=List.all_eq_true.mp b6 i (List.mem_range.mpr hi)
 rw [beq_iff_eq,cs_at hi] at this
 exact this
theorem Txt.st {K:PySem.W.Frag} {mg:Str→Option Value} {c:Ad} (T:Txt K mg c):PySem.W.isClsIn K c.Step = true∧PySem.W.typeIn K (.ref c.Step) = some (.type "type"):=by
 have a:kindsAll K (csOf c) c.Step = true:=T.kf_kr_kinds
 unfold kindsAll at a
 simp only [Bool.and_eq_true,beq_iff_eq] at a
 exact a.1
theorem Txt.ty {K:PySem.W.Frag} {mg:Str→Option Value} {c:Ad} (T:Txt K mg c) {k:Nat} (h:k < 16) {H:Hp} {x dx:Addr} {fs:List (Str × V)} (e:H x = some (.ins (fOf c k) dx fs)):TyOf K H (.ref x) (.ref (fOf c k)):=TyOf.ins e (T.clF h).1 (T.kd h).2.2.2.1 T.kf_og T.kf_ot (T.kd h).2.2.2.2.1
theorem Txt.kit {K:PySem.W.Frag} {mg:Str→Option Value} {c:Ad} (T:Txt K mg c) {k i:Nat} (h:k < 16) (hi:i < 16):PySem.W.kitOne K (.ref (fOf c k)) (.ref (fOf c i)) = some (decide (i = k)):=by
 by_cases e:i = k
 ·subst e
  rw [decide_eq_true rfl]
  have:=(T.kd h).2.2.2.2.2 i h
  rw [decide_eq_true rfl] at this
  exact kit_of (T.kd h).1 (T.kd h).2.1 this
 ·rw [decide_eq_false e]
  have a:=(T.kd h).2.2.2.2.2 i hi
  have b:=(T.kd hi).2.2.2.2.2 i hi
  rw [decide_eq_false e] at a
  rw [decide_eq_true rfl] at b
  exact kit_apart (T.kd hi).1 (T.kd hi).2.1 a b
def spKinds (c:Ad):Sp:=fun vs H Q _=>∃ (x dx:Addr) (k:Nat) (fs:List (Str × V)),vs = [.ref x]∧k < 16∧H x = some (.ins (fOf c k) dx fs)∧∀ (l:Addr) H',H l = none→H' l = some (.lst ((List.range 16).map fun i=>.bl (decide (i = k))))→Same H H'→Q (.ref l) H'
theorem ok__law_kinds {f:Addr} {fd:FuncData} (F:Fun K "_law_kinds" "_law_kinds" s__law_kinds f fd) (T:Txt K mg c) :FnOk P w K mg base CX0 1 f fd ["_law_row_here"] (spKinds c):=by
 refine F.ok sc__law_kinds (fun vs H Q E h=>?_) (fun cdv A outer s H vs Q E hr h=>?_)
 ·obtain ⟨x,dx,k,fs,rfl,_⟩:=h
  rfl
 obtain ⟨x,dx,k,fs,rfl,hk,hx,q⟩:=h
 refine slE ⟨_,(pss_consZ (ps_setS (i:=1) sc__law_kinds.nd rfl (Or.inl rfl) (pe_lstS (pa_consS (pe_callB call_isinst rfl T.n_isinstance boot_isinstance (pa_cons (pv 0) (pa_cons (pe_cls rfl T.g_Set) pa_nil))) (pa_consS (pe_callB call_isinst rfl T.n_isinstance boot_isinstance (pa_cons (pv 0) (pa_cons (pe_cls rfl T.g_Copy) pa_nil))) (pa_consS (pe_callB call_isinst rfl T.n_isinstance boot_isinstance (pa_cons (pv 0) (pa_cons (pe_cls rfl T.g_Sum) pa_nil))) (pa_consS (pe_callB call_isinst rfl T.n_isinstance boot_isinstance (pa_cons (pv 0) (pa_cons (pe_cls rfl T.g_Gap) pa_nil))) pa_nilS))))))
  (pss_consZ (ps_setS (i:=1) sc__law_kinds.nd rfl (Or.inl rfl) (pe_opZ op_addL (slIn (pv 1)) (pe_lstS (pa_consS (pe_callB call_isinst rfl T.n_isinstance boot_isinstance (pa_cons (pv 0) (pa_cons (pe_cls rfl T.g_Low) pa_nil))) (pa_consS (pe_callB call_isinst rfl T.n_isinstance boot_isinstance (pa_cons (pv 0) (pa_cons (pe_cls rfl T.g_High) pa_nil))) (pa_consS (pe_callB call_isinst rfl T.n_isinstance boot_isinstance (pa_cons (pv 0) (pa_cons (pe_cls rfl T.g_Left) pa_nil))) (pa_consS (pe_callB call_isinst rfl T.n_isinstance boot_isinstance (pa_cons (pv 0) (pa_cons (pe_cls rfl T.g_Right) pa_nil))) pa_nilS)))))))
  (pss_consZ (ps_setS (i:=1) sc__law_kinds.nd rfl (Or.inl rfl) (pe_opZ op_addL (slIn (pv 1)) (pe_lstS (pa_consS (pe_callB call_isinst rfl T.n_isinstance boot_isinstance (pa_cons (pv 0) (pa_cons (pe_cls rfl T.g_Slide) pa_nil))) (pa_consS (pe_callB call_isinst rfl T.n_isinstance boot_isinstance (pa_cons (pv 0) (pa_cons (pe_cls rfl T.g_And) pa_nil))) (pa_consS (pe_callB call_isinst rfl T.n_isinstance boot_isinstance (pa_cons (pv 0) (pa_cons (pe_cls rfl T.g_Or) pa_nil))) (pa_consS (pe_callB call_isinst rfl T.n_isinstance boot_isinstance (pa_cons (pv 0) (pa_cons (pe_cls rfl T.g_Unlike) pa_nil))) pa_nilS)))))))
  (pss_oneZ (slIn (ps_ret (pe_op op_addL (pv 1) (pe_lst (pa_cons (pe_callB call_isinst rfl T.n_isinstance boot_isinstance (pa_cons (pv 0) (pa_cons (pe_cls rfl T.g_Under) pa_nil))) (pa_cons (pe_callB call_isinst rfl T.n_isinstance boot_isinstance (pa_cons (pv 0) (pa_cons (pe_cls rfl T.g_Pick) pa_nil))) (pa_cons (pe_callB call_isinst rfl T.n_isinstance boot_isinstance (pa_cons (pv 0) (pa_cons (pe_cls rfl T.g_Mark) pa_nil))) (pa_cons (pe_callB call_isinst rfl T.n_isinstance boot_isinstance (pa_cons (pv 0) (pa_cons (pe_cls rfl T.g_Turns) pa_nil))) pa_nil)))))))))))),?_⟩
 have ty:∀ {G:Hp},Same H G→TyOf K G (.ref x) (.ref (fOf c k)):=fun s=>T.ty hk (s _ _ hx)
 refine ⟨_,rfl,_,_,_,_,_,rfl,rfl,ty (Same.refl _),T.kit (i:=0) hk (by decide),_,rfl,_,_,_,_,_,rfl,rfl,ty (Same.refl _),T.kit (i:=1) hk (by decide),_,rfl,_,_,_,_,_,rfl,rfl,ty (Same.refl _),T.kit (i:=2) hk (by decide),_,rfl,_,_,_,_,_,rfl,rfl,ty (Same.refl _),T.kit (i:=3) hk (by decide),(by show 4≤sizeLine; decide),fun l1 h1=>?_⟩
 obtain ⟨G1,w1,s1,f1⟩:=newO h1 (.lst [.bl (decide (0 = k)),.bl (decide (1 = k)),.bl (decide (2 = k)),.bl (decide (3 = k))])
 rw [w1]
 refine ⟨_,rfl,_,rfl,_,_,_,_,_,rfl,rfl,ty s1,T.kit (i:=4) hk (by decide),_,rfl,_,_,_,_,_,rfl,rfl,ty s1,T.kit (i:=5) hk (by decide),_,rfl,_,_,_,_,_,rfl,rfl,ty s1,T.kit (i:=6) hk (by decide),_,rfl,_,_,_,_,_,rfl,rfl,ty s1,T.kit (i:=7) hk (by decide),(by show 4≤sizeLine; decide),fun l2 h2=>?_⟩
 obtain ⟨G2,w2,s2,f2⟩:=newO h2 (.lst [.bl (decide (4 = k)),.bl (decide (5 = k)),.bl (decide (6 = k)),.bl (decide (7 = k))])
 rw [w2]
 refine ⟨l1,l2,_,_,rfl,rfl,SqL.of (s2 _ _ f1),SqL.of f2,(by show 4 + 4≤sizeLine; decide),fun l3 h3=>?_⟩
 have z2:=s1.trans s2
 obtain ⟨G3,w3,s3,f3⟩:=newO h3 (.lst ([.bl (decide (0 = k)),.bl (decide (1 = k)),.bl (decide (2 = k)),.bl (decide (3 = k))] ++ [.bl (decide (4 = k)),.bl (decide (5 = k)),.bl (decide (6 = k)),.bl (decide (7 = k))]))
 rw [w3]
 have z3:=z2.trans s3
 refine ⟨_,rfl,_,rfl,_,_,_,_,_,rfl,rfl,ty z3,T.kit (i:=8) hk (by decide),_,rfl,_,_,_,_,_,rfl,rfl,ty z3,T.kit (i:=9) hk (by decide),_,rfl,_,_,_,_,_,rfl,rfl,ty z3,T.kit (i:=10) hk (by decide),_,rfl,_,_,_,_,_,rfl,rfl,ty z3,T.kit (i:=11) hk (by decide),(by show 4≤sizeLine; decide),fun l4 h4=>?_⟩
 obtain ⟨G4,w4,s4,f4⟩:=newO h4 (.lst [.bl (decide (8 = k)),.bl (decide (9 = k)),.bl (decide (10 = k)),.bl (decide (11 = k))])
 rw [w4]
 have z4:=z3.trans s4
 refine ⟨l3,l4,_,_,rfl,rfl,SqL.of (s4 _ _ f3),SqL.of f4,(by show 8 + 4≤sizeLine; decide),fun l5 h5=>?_⟩
 obtain ⟨G5,w5,s5,f5⟩:=newO h5 (.lst (([.bl (decide (0 = k)),.bl (decide (1 = k)),.bl (decide (2 = k)),.bl (decide (3 = k))] ++ [.bl (decide (4 = k)),.bl (decide (5 = k)),.bl (decide (6 = k)),.bl (decide (7 = k))]) ++ [.bl (decide (8 = k)),.bl (decide (9 = k)),.bl (decide (10 = k)),.bl (decide (11 = k))]))
 rw [w5]
 have z5:=z4.trans s5
 refine ⟨_,rfl,_,rfl,_,_,_,_,_,rfl,rfl,ty z5,T.kit (i:=12) hk (by decide),_,rfl,_,_,_,_,_,rfl,rfl,ty z5,T.kit (i:=13) hk (by decide),_,rfl,_,_,_,_,_,rfl,rfl,ty z5,T.kit (i:=14) hk (by decide),_,rfl,_,_,_,_,_,rfl,rfl,ty z5,T.kit (i:=15) hk (by decide),(by show 4≤sizeLine; decide),fun l6 h6=>?_⟩
 obtain ⟨G6,w6,s6,f6⟩:=newO h6 (.lst [.bl (decide (12 = k)),.bl (decide (13 = k)),.bl (decide (14 = k)),.bl (decide (15 = k))])
 rw [w6]
 have z6:=z5.trans s6
 refine ⟨l5,l6,_,_,rfl,rfl,SqL.of (s6 _ _ f5),SqL.of f6,(by show 12 + 4≤sizeLine; decide),fun l7 h7=>?_⟩
 exact q l7 _ (Same.none z6 h7) upd_same (z6.trans (same_new h7 _))
def spFields (c:Ad):Sp:=fun vs H Q _=>∃ (x:Addr) (k:Nat) (fs:List V),vs = [.ref x,.str (wOf k)]∧k < 15∧StepAt c H x k fs∧∀ t,H t = none→Q (.ref t) (upd H t (.tup fs))
theorem ok__law_fields {f:Addr} {fd:FuncData} (F:Fun K "_law_fields" "_law_fields" s__law_fields f fd) (T:Txt K mg c) :FnOk P w K mg base CX0 1 f fd ["_law_row_here", "_law_word_here"] (spFields c):=by
 refine F.ok sc__law_fields (fun vs H Q E h=>?_) (fun cdv A outer s H vs Q E hr h=>?_)
 ·obtain ⟨x,k,fs,rfl,_⟩:=h
  rfl
 obtain ⟨x,k,fs,rfl,k15,⟨dx,hx,ln⟩,q⟩:=h
 refine ⟨_,(pss_cons (ps_if (pt_cmpR op_eq (pv 1) pe_str (nomark _))
   (pss_one (ps_ret (pe_tup (pa_cons (pe_fld (pv 0) rfl) (pa_cons (pe_fld (pv 0) rfl) pa_nil)))))
   pss_nil)
  (pss_cons (ps_if (pt_cmpR op_eq (pv 1) pe_str (nomark _))
   (pss_one (ps_ret (pe_tup (pa_cons (pe_fld (pv 0) rfl) (pa_cons (pe_fld (pv 0) rfl) pa_nil)))))
   pss_nil)
  (pss_cons (ps_if (PW.pt (pw_or (pt_cmpR op_eq (pv 1) pe_str (nomark _)) (pw_or1 (pt_cmpR op_eq (pv 1) pe_str (nomark _)))))
   (pss_one (ps_ret (pe_tup (pa_cons (pe_fld (pv 0) rfl) (pa_cons (pe_fld (pv 0) rfl) (pa_cons (pe_fld (pv 0) rfl) (pa_cons (pe_fld (pv 0) rfl) pa_nil)))))))
   pss_nil)
  (pss_cons (ps_if (pt_cmpR op_eq (pv 1) pe_str (nomark _))
   (pss_one (ps_ret (pe_tup (pa_cons (pe_fld (pv 0) rfl) (pa_cons (pe_fld (pv 0) rfl) (pa_cons (pe_fld (pv 0) rfl) (pa_cons (pe_fld (pv 0) rfl) pa_nil)))))))
   pss_nil)
  (pss_cons (ps_if (pt_cmpR op_eq (pv 1) pe_str (nomark _))
   (pss_one (ps_ret (pe_tup (pa_cons (pe_fld (pv 0) rfl) (pa_cons (pe_fld (pv 0) rfl) (pa_cons (pe_fld (pv 0) rfl) pa_nil))))))
   pss_nil)
  (pss_cons (ps_if (PW.pt (pw_or (pt_cmpR op_eq (pv 1) pe_str (nomark _)) (pw_or (pt_cmpR op_eq (pv 1) pe_str (nomark _)) (pw_or1 (pt_cmpR op_eq (pv 1) pe_str (nomark _))))))
   (pss_one (ps_ret (pe_tup (pa_cons (pe_fld (pv 0) rfl) (pa_cons (pe_fld (pv 0) rfl) (pa_cons (pe_fld (pv 0) rfl) pa_nil))))))
   pss_nil)
  (pss_one (ps_ret (pe_tup (pa_cons (pe_fld (pv 0) rfl) (pa_cons (pe_fld (pv 0) rfl) (pa_cons (pe_fld (pv 0) rfl) pa_nil)))))))))))),?_⟩
 have ne:∀ j,j < 16→k ≠ j→¬ V.str (wOf k) = V.str (wOf j):=fun j hj h z=>h (wInj (by omega) hj z)
 refine ⟨_,rfl,rfl,_,rfl,?_⟩
 by_cases c0:k = 0
 ·subst c0
  obtain ⟨a0,a1,rfl⟩:=len2 ln
  obtain ⟨cl,na⟩:=T.clF (k:=0) (by decide)
  exact iteD rfl ⟨_,rfl,x,_,dx,_,_,rfl,hx,cl,na _ (by simp [nOf]),rfl,_,rfl,x,_,dx,_,_,rfl,hx,cl,na _ (by simp [nOf]),rfl,(by show 2≤sizeLine; decide),fun t ht=>q t ht⟩
 refine iteDN (ne 0 (by decide) c0) ?_
 refine ⟨_,rfl,rfl,_,rfl,?_⟩
 by_cases c1:k = 1
 ·subst c1
  obtain ⟨a0,a1,rfl⟩:=len2 ln
  obtain ⟨cl,na⟩:=T.clF (k:=1) (by decide)
  exact iteD rfl ⟨_,rfl,x,_,dx,_,_,rfl,hx,cl,na _ (by simp [nOf]),rfl,_,rfl,x,_,dx,_,_,rfl,hx,cl,na _ (by simp [nOf]),rfl,(by show 2≤sizeLine; decide),fun t ht=>q t ht⟩
 refine iteDN (ne 1 (by decide) c1) ?_
 refine ⟨_,rfl,rfl,_,rfl,?_⟩
 by_cases c2:k = 2
 ·subst c2
  obtain ⟨a0,a1,a2,a3,rfl⟩:=len4 ln
  obtain ⟨cl,na⟩:=T.clF (k:=2) (by decide)
  exact iteD rfl ⟨_,rfl,x,_,dx,_,_,rfl,hx,cl,na _ (by simp [nOf]),rfl,_,rfl,x,_,dx,_,_,rfl,hx,cl,na _ (by simp [nOf]),rfl,_,rfl,x,_,dx,_,_,rfl,hx,cl,na _ (by simp [nOf]),rfl,_,rfl,x,_,dx,_,_,rfl,hx,cl,na _ (by simp [nOf]),rfl,(by show 4≤sizeLine; decide),fun t ht=>q t ht⟩
 refine iteDN (ne 2 (by decide) c2) ?_
 refine ⟨_,rfl,rfl,_,rfl,?_⟩
 by_cases c3:k = 3
 ·subst c3
  obtain ⟨a0,a1,a2,a3,rfl⟩:=len4 ln
  obtain ⟨cl,na⟩:=T.clF (k:=3) (by decide)
  exact iteD rfl ⟨_,rfl,x,_,dx,_,_,rfl,hx,cl,na _ (by simp [nOf]),rfl,_,rfl,x,_,dx,_,_,rfl,hx,cl,na _ (by simp [nOf]),rfl,_,rfl,x,_,dx,_,_,rfl,hx,cl,na _ (by simp [nOf]),rfl,_,rfl,x,_,dx,_,_,rfl,hx,cl,na _ (by simp [nOf]),rfl,(by show 4≤sizeLine; decide),fun t ht=>q t ht⟩
 refine iteDN (ne 3 (by decide) c3) ?_
 refine ⟨_,rfl,rfl,_,rfl,?_⟩
 by_cases c13:k = 13
 ·subst c13
  obtain ⟨a0,a1,a2,a3,rfl⟩:=len4 ln
  obtain ⟨cl,na⟩:=T.clF (k:=13) (by decide)
  exact iteD rfl ⟨_,rfl,x,_,dx,_,_,rfl,hx,cl,na _ (by simp [nOf]),rfl,_,rfl,x,_,dx,_,_,rfl,hx,cl,na _ (by simp [nOf]),rfl,_,rfl,x,_,dx,_,_,rfl,hx,cl,na _ (by simp [nOf]),rfl,_,rfl,x,_,dx,_,_,rfl,hx,cl,na _ (by simp [nOf]),rfl,(by show 4≤sizeLine; decide),fun t ht=>q t ht⟩
 refine iteDN (ne 13 (by decide) c13) ?_
 refine ⟨_,rfl,rfl,_,rfl,?_⟩
 by_cases c14:k = 14
 ·subst c14
  obtain ⟨a0,a1,a2,rfl⟩:=len3 ln
  obtain ⟨cl,na⟩:=T.clF (k:=14) (by decide)
  exact iteD rfl ⟨_,rfl,x,_,dx,_,_,rfl,hx,cl,na _ (by simp [nOf]),rfl,_,rfl,x,_,dx,_,_,rfl,hx,cl,na _ (by simp [nOf]),rfl,_,rfl,x,_,dx,_,_,rfl,hx,cl,na _ (by simp [nOf]),rfl,(by show 3≤sizeLine; decide),fun t ht=>q t ht⟩
 refine iteDN (ne 14 (by decide) c14) ?_
 refine ⟨_,rfl,rfl,_,rfl,?_⟩
 by_cases c6:k = 6
 ·subst c6
  obtain ⟨a0,a1,a2,rfl⟩:=len3 ln
  obtain ⟨cl,na⟩:=T.clF (k:=6) (by decide)
  exact iteD rfl ⟨_,rfl,x,_,dx,_,_,rfl,hx,cl,na _ (by simp [nOf]),rfl,_,rfl,x,_,dx,_,_,rfl,hx,cl,na _ (by simp [nOf]),rfl,_,rfl,x,_,dx,_,_,rfl,hx,cl,na _ (by simp [nOf]),rfl,(by show 3≤sizeLine; decide),fun t ht=>q t ht⟩
 refine iteDN (ne 6 (by decide) c6) ?_
 refine ⟨_,rfl,rfl,_,rfl,?_⟩
 by_cases c7:k = 7
 ·subst c7
  obtain ⟨a0,a1,a2,rfl⟩:=len3 ln
  obtain ⟨cl,na⟩:=T.clF (k:=7) (by decide)
  exact iteD rfl ⟨_,rfl,x,_,dx,_,_,rfl,hx,cl,na _ (by simp [nOf]),rfl,_,rfl,x,_,dx,_,_,rfl,hx,cl,na _ (by simp [nOf]),rfl,_,rfl,x,_,dx,_,_,rfl,hx,cl,na _ (by simp [nOf]),rfl,(by show 3≤sizeLine; decide),fun t ht=>q t ht⟩
 refine iteDN (ne 7 (by decide) c7) ?_
 refine ⟨_,rfl,rfl,_,rfl,?_⟩
 by_cases c8:k = 8
 ·subst c8
  obtain ⟨a0,a1,a2,rfl⟩:=len3 ln
  obtain ⟨cl,na⟩:=T.clF (k:=8) (by decide)
  exact iteD rfl ⟨_,rfl,x,_,dx,_,_,rfl,hx,cl,na _ (by simp [nOf]),rfl,_,rfl,x,_,dx,_,_,rfl,hx,cl,na _ (by simp [nOf]),rfl,_,rfl,x,_,dx,_,_,rfl,hx,cl,na _ (by simp [nOf]),rfl,(by show 3≤sizeLine; decide),fun t ht=>q t ht⟩
 refine iteDN (ne 8 (by decide) c8) ?_
 rcases (by omega:k = 4∨k = 5∨k = 9∨k = 10∨k = 11∨k = 12) with rfl | rfl | rfl | rfl | rfl | rfl
 ·obtain ⟨a0,a1,a2,rfl⟩:=len3 ln
  obtain ⟨cl,na⟩:=T.clF (k:=4) (by decide)
  exact ⟨_,rfl,x,_,dx,_,_,rfl,hx,cl,na _ (by simp [nOf]),rfl,_,rfl,x,_,dx,_,_,rfl,hx,cl,na _ (by simp [nOf]),rfl,_,rfl,x,_,dx,_,_,rfl,hx,cl,na _ (by simp [nOf]),rfl,(by show 3≤sizeLine; decide),fun t ht=>q t ht⟩
 ·obtain ⟨a0,a1,a2,rfl⟩:=len3 ln
  obtain ⟨cl,na⟩:=T.clF (k:=5) (by decide)
  exact ⟨_,rfl,x,_,dx,_,_,rfl,hx,cl,na _ (by simp [nOf]),rfl,_,rfl,x,_,dx,_,_,rfl,hx,cl,na _ (by simp [nOf]),rfl,_,rfl,x,_,dx,_,_,rfl,hx,cl,na _ (by simp [nOf]),rfl,(by show 3≤sizeLine; decide),fun t ht=>q t ht⟩
 ·obtain ⟨a0,a1,a2,rfl⟩:=len3 ln
  obtain ⟨cl,na⟩:=T.clF (k:=9) (by decide)
  exact ⟨_,rfl,x,_,dx,_,_,rfl,hx,cl,na _ (by simp [nOf]),rfl,_,rfl,x,_,dx,_,_,rfl,hx,cl,na _ (by simp [nOf]),rfl,_,rfl,x,_,dx,_,_,rfl,hx,cl,na _ (by simp [nOf]),rfl,(by show 3≤sizeLine; decide),fun t ht=>q t ht⟩
 ·obtain ⟨a0,a1,a2,rfl⟩:=len3 ln
  obtain ⟨cl,na⟩:=T.clF (k:=10) (by decide)
  exact ⟨_,rfl,x,_,dx,_,_,rfl,hx,cl,na _ (by simp [nOf]),rfl,_,rfl,x,_,dx,_,_,rfl,hx,cl,na _ (by simp [nOf]),rfl,_,rfl,x,_,dx,_,_,rfl,hx,cl,na _ (by simp [nOf]),rfl,(by show 3≤sizeLine; decide),fun t ht=>q t ht⟩
 ·obtain ⟨a0,a1,a2,rfl⟩:=len3 ln
  obtain ⟨cl,na⟩:=T.clF (k:=11) (by decide)
  exact ⟨_,rfl,x,_,dx,_,_,rfl,hx,cl,na _ (by simp [nOf]),rfl,_,rfl,x,_,dx,_,_,rfl,hx,cl,na _ (by simp [nOf]),rfl,_,rfl,x,_,dx,_,_,rfl,hx,cl,na _ (by simp [nOf]),rfl,(by show 3≤sizeLine; decide),fun t ht=>q t ht⟩
 ·obtain ⟨a0,a1,a2,rfl⟩:=len3 ln
  obtain ⟨cl,na⟩:=T.clF (k:=12) (by decide)
  exact ⟨_,rfl,x,_,dx,_,_,rfl,hx,cl,na _ (by simp [nOf]),rfl,_,rfl,x,_,dx,_,_,rfl,hx,cl,na _ (by simp [nOf]),rfl,_,rfl,x,_,dx,_,_,rfl,hx,cl,na _ (by simp [nOf]),rfl,(by show 3≤sizeLine; decide),fun t ht=>q t ht⟩
theorem hu2 {A:Around} {k:Nat} (hr:Room k A):A.units + 1 + 1 < cLine:=by have:=hr.un; omega
theorem selfE {K:PySem.W.Frag} {H:Hp} {d:Nat} {x:V} (h:flatV x = true∨∃ a,x = .ref a):EqD K H d x x true:=by
 rcases h with h | ⟨a,rfl⟩
 ·have e:eqV x x = true:=by
   cases x <;> first | rfl | (cases h; done) | (simp [eqV])
  have z:=EqD.flat (K:=K) (H:=H) (d:=d) h h
  rw [e] at z
  exact z
 ·exact EqD.same
theorem aT {n:Nat}:(List.range n).all (fun _=>true) = true:=by rw [List.all_eq_true]; intro _ _; rfl
theorem eqTS {K:PySem.W.Frag} {H:Hp} {d:Nat} {p q:Addr} {xs:List V} {Q:V→Hp→Prop} (hp:H p = some (.tup xs)) (hq:H q = some (.tup xs)) (h:∀ x ∈ xs,flatV x = true∨∃ a,x = .ref a) (k:Q (.bl true) H):rEqTD K d false (.ref p) (.ref q) H Q:=by
 refine ⟨p,q,xs,xs,fun _=>true,rfl,rfl,SqT.of hp,SqT.of hq,fun j h1 _=>?_,?_⟩
 ·have e:xs.getD j .non = xs[j]:=by rw [List.getD_eq_getElem?_getD,List.getElem?_eq_getElem h1]; rfl
  rw [e]
  exact selfE (h _ (List.getElem_mem h1))
 ·rw [aT,beq_self_eq_true]
  exact k
theorem neLS {K:PySem.W.Frag} {H:Hp} {d:Nat} {p q:Addr} {xs:List V} {Q:V→Hp→Prop} (hp:H p = some (.lst xs)) (hq:H q = some (.lst xs)) (h:∀ x ∈ xs,flatV x = true∨∃ a,x = .ref a) (k:Q (.bl false) H):rEqLD K d true (.ref p) (.ref q) H Q:=by
 refine ⟨p,q,xs,xs,fun _=>true,rfl,rfl,SqL.of hp,SqL.of hq,rfl,fun j h1=>?_,?_⟩
 ·have e:xs.getD j .non = xs[j]:=by rw [List.getD_eq_getElem?_getD,List.getElem?_eq_getElem h1]; rfl
  rw [e]
  exact selfE (h _ (List.getElem_mem h1))
 ·rw [aT]
  exact k
theorem sorts_ix {k:Nat} (h:k < 15):sorts15[k]? = some (wOf k)∧∀ m,m < k→sorts15[m]? ≠ some (wOf k):=by
 have a:∀ i ∈ List.range 15,sorts15[i]? = some (wOf i):=by decide +kernel
 refine ⟨a k (List.mem_range.mpr h),fun m hm z=>?_⟩
 rw [a m (List.mem_range.mpr (by omega))] at z
 injection z with z
 have:=wInj (k:=m) (j:=k) (by omega) (by omega) (congrArg V.str z)
 omega
theorem zip_none {w:Str}:∀ (ns:List Str) (fs:List V),w ∉ ns→(ns.zip fs).lookup w = none
 | [],_,_=>rfl
 | a :: t,[],_=>rfl
 | a :: t,b :: u,hn=>by
  show (match w == a with | true=>some b | false=>(t.zip u).lookup w) = none
  rw [show (w == a) = false from beq_eq_false_iff_ne.mpr fun z=>hn (by rw [z]; exact List.mem_cons_self ..)]
  exact zip_none t u fun z=>hn (List.mem_cons_of_mem _ z)
theorem nOf_word {k:Nat} {fs:List V} (h:k < 15):((nOf k).zip fs).lookup ("word":Str) = none:=by
 have a:∀ k ∈ List.range 15,("word":Str) ∉ nOf k:=by decide +kernel
 exact zip_none _ _ (a k (List.mem_range.mpr h))
theorem cut_take (xs:List V) (k:Nat) (hk:k≤xs.length):cutV xs none (some (k:Int)) = xs.take k:=by
 unfold cutV
 rw [HT.sIx_none,HT.sIx_nat,Nat.min_eq_left hk,List.drop_zero,Nat.sub_zero]
theorem cut_drop (xs:List V) (k:Nat) (hk:k≤xs.length):cutV xs (some (k:Int)) none = xs.drop k:=by
 unfold cutV
 rw [HT.sIx_none,HT.sIx_nat,Nat.min_eq_left hk,List.take_of_length_le]
 rw [List.length_drop]
 exact Nat.le_refl _
theorem tp_cut {K:PySem.W.Frag} {H:Hp} {p:Addr} {xs:List V} (ys:List V) {lo hi:Option Int} {Q:V→Hp→Prop} (h:H p = some (.tup xs)) (nw:¬ (HT.sIx xs.length 0 lo = 0∧HT.sIx xs.length xs.length hi = xs.length)) (e:cutV xs lo hi = ys) (q:∀ t G,Same H G→G t = some (.tup ys)→Q (.ref t) G):rSlT K (.ref p) lo hi H Q :=
 ⟨p,xs,rfl,SqT.of h,nw,fun t ht=>q t _ (same_new ht _) (by rw [← e]; exact upd_same)⟩
theorem tp_cutN {K:PySem.W.Frag} {σ:L2.St} {H:Hp} {p:Addr} {xs:List V} (ys:List V) {lo:Option Int} {Q:V→Hp→Prop} (h:H p = some (.tup xs)) (nw:¬ (HT.sIx xs.length 0 lo = 0∧HT.sIx xs.length xs.length none = xs.length)) (e:cutV xs lo none = ys) (q:∀ t G,Same H G→G t = some (.tup ys)→Q (.ref t) G):tNoPart σ H (fun u H3=>rSlT K (.ref p) lo u H3 Q):=tp_cut ys h nw e q
def spLTold (c:Ad):Sp:=fun vs H Q _=>∃ (x t:Addr) (k:Nat) (fs:List V),vs = [.ref x,.ref t]∧k < 15∧StepAt c H x k fs∧H t = some (.tup (.str (wOf k) :: fs))∧(∀ f ∈ fs,flatV f = true)∧∀ H',Same H H'→Q (.bl true) H'
theorem ok__law_told {f:Addr} {fd:FuncData} (F:Fun K "_law_told" "_law_told" s__law_told f fd) (T:Txt K mg c) (H__law_sorts:Has P w K mg base 1 "_law_sorts" [] spSorts) (H__law_kinds:Has P w K mg base 1 "_law_kinds" ["_law_row_here"] (spKinds c)) (H__law_fields:Has P w K mg base 1 "_law_fields" ["_law_row_here", "_law_word_here"] (spFields c)) (MW:∀ k,k < 15→MHas P w K mg base 1 (fOf c k) "word" ["self"] (spWd (wOf k))) (MT:∀ k,k < 15→MHas P w K mg base 2 (fOf c k) "told" ["self"] (spTold c [k])):FnOk P w K mg base CX0 3 f fd ["_law_row_here", "_law_due"] (spLTold c):=by
 refine F.ok sc__law_told (fun vs H Q E h=>?_) (fun cdv A outer s H vs Q E hr h=>?_)
 ·obtain ⟨x,t,k,fs,rfl,_⟩:=h
  rfl
 obtain ⟨x,t,k,fs,rfl,k15,st,ht,ff,q⟩:=h
 refine ⟨_,(pss_cons (ps_set (i:=2) sc__law_told.nd rfl (Or.inr rfl) (pe_bm PySem.F.plainAttrs_list PySem.F.slot_list_index PySem.F.type_list_index mt_index (pe_fn0 H__law_sorts (hr.mono (by omega)) rfl) (pa_cons (pe_ix ix_tup (pv 1) pe_int (fun _ _=>rfl)) pa_nil)))
  (pss_cons (ps_if (PW.pt (pw_or (pt_not (pt_val (pe_callB call_isinst rfl T.n_isinstance boot_isinstance (pa_cons (pv 0) (pa_cons (pe_cls rfl T.g_Step) pa_nil))))) (pw_or (pt_cmpR (op_neLD (d:=1) (hu2 hr)) (pe_fn H__law_kinds (hr.mono (by omega)) rfl (pa_cons (pv 0) pa_nil)) (pe_compC [2] ["_law_at"] rfl (by first | rfl | with_unfolding_all rfl) (by rfl) (by exact (List.forall_mem_cons.mpr ⟨rfl,(fun _ h=>nomatch h)⟩)) (by decide +kernel) rfl (by decide +kernel) rfl (by decide +kernel) (by exact (List.forall_mem_cons.mpr ⟨⟨by first | exact Or.inl rfl | exact Or.inr rfl,rfl⟩,(fun _ h=>nomatch h)⟩)) rfl (by rfl) (pi_range1 rfl T.n_range (pa_cons pe_int pa_nil)) (fun C s2 H2 fp=>(pe_cmpR op_eq (pv 0) (pv 1) (nomark _)))) (nomark _)) (pw_or1 (pt_cmpR op_ne (pe_methP0 (k:=1) (pv 0) (hr.mono (by omega))) (pe_ix ix_tup (pv 1) pe_int (fun _ _=>rfl)) (nomark _))))))
   (pss_one (ps_ret pe_bl))
   pss_nil)
  (pss_cons (ps_set (i:=3) sc__law_told.nd rfl (Or.inl rfl) (pe_methP0 (k:=2) (pv 0) (hr.mono (by omega))))
  (pss_one (ps_ret (pe_and (pe_callB call_isinst rfl T.n_isinstance boot_isinstance (pa_cons (pv 3) (pa_cons (pe_ty rfl T.n_tuple boot_tuple) pa_nil))) (pe_and (pe_cmpR (op_eqTD (d:=1) (hu2 hr)) (pv 3) (pv 1) (nomark _)) (pe_one (pe_cmpR (op_eqTD (d:=1) (hu2 hr)) (pe_fn H__law_fields (hr.mono (by omega)) rfl (pa_cons (pv 0) (pa_cons (pe_ix ix_tup (pv 1) pe_int (fun _ _=>rfl)) pa_nil))) (pe_slice sl_tup (pv 1) (po_some pe_int) po_none) (nomark _)))))))))),?_⟩
 have L1000:(1000:Nat)≤sizeLine:=by decide
 obtain ⟨si,sn⟩:=sorts_ix k15
 refine ⟨rfl,fun l0 H0 _ f0 s0=>⟨.inl ⟨rfl,_,SqL.of f0⟩,_,rfl,t,_,_,_,rfl,rfl,SqT.of (s0 _ _ ht),at0 _ _,l0,sorts15,wOf k,k,rfl,rfl,f0,si,sn,?_⟩⟩
 obtain ⟨dx,hx,ln⟩:=id st
 refine ⟨_,rfl,_,_,_,_,_,rfl,rfl,T.ty (by omega) (s0 _ _ hx),kit_of T.st.1 T.st.2 (T.kd (by omega)).2.2.1,_,rfl,iteF ?_⟩
 refine ⟨_,rfl,x,dx,k,_,rfl,by omega,s0 _ _ hx,fun l1 H1 _ f1 s1=>?_⟩
 refine ⟨_,rfl,by decide,by decide,fun D hD=>?_⟩
 refine comp_rng (fun j HJ=>HJ D = some (.lst ((List.range j).map fun i=>.bl (decide (i = k))))∧Same H1 HJ) ⟨upd_same,same_new hD _⟩ ?_ ?_
 ·rintro j HJ hj ⟨hy,sJ⟩
  have hj:j < 16:=hj
  have ed:decide (V.int (0 + (j:Int)) = V.int (k:Int)) = decide (j = k):=by
   by_cases e:j = k
   ·rw [decide_eq_true e,decide_eq_true (by rw [e,Int.zero_add])]
   ·rw [decide_eq_false e,decide_eq_false (fun z=>e (by injection z; omega))]
  refine ⟨_,rfl,_,rfl,rfl,_,hy,(by rw [List.length_map,List.length_range]; omega),_,(show 16 - (j + 1) < _ by omega),rfl,(by omega),?_,Same.updL sJ hD⟩
  rw [upd_same,List.range_succ,List.map_append,ed]
  rfl
 rintro HJ ⟨hy,sJ⟩
 refine neLS (sJ _ _ f1) hy (fun v hv=>by obtain ⟨i,_,rfl⟩:=List.mem_map.mp hv; exact .inl rfl) ⟨_,rfl,iteF ?_⟩
 have z:=(s0.trans s1).trans sJ
 refine ⟨_,rfl,x,_,dx,_,_,_,rfl,z _ _ hx,nOf_word k15,MW k k15,x,rfl,_,rfl,t,_,_,_,rfl,rfl,SqT.of (z _ _ ht),at0 _ _,rfl,_,rfl,iteNS rfl ?_⟩
 refine ⟨_,rfl,x,_,dx,_,_,_,rfl,z _ _ hx,nOf_told k15,MT k k15,x,k,fs,rfl,List.mem_singleton.mpr rfl,st.same z,fun r hr'=>?_⟩
 have s2:=same_new hr' (.tup (.str (wOf k) :: fs))
 have z2:=z.trans s2
 have se:∀ v ∈ V.str (wOf k) :: fs,flatV v = true∨∃ a,v = .ref a:=fun v hv=>by
  rcases List.mem_cons.mp hv with rfl | hv
  ·exact .inl rfl
  ·exact .inl (ff v hv)
 refine ⟨_,rfl,_,_,_,_,_,rfl,rfl,TyOf.tup upd_same,rfl,_,rfl,iteT ?_⟩
 refine ⟨_,rfl,_,rfl,eqTS upd_same (z2 _ _ ht) se ⟨_,rfl,iteT ?_⟩⟩
 refine ⟨_,rfl,_,rfl,t,_,_,_,rfl,rfl,SqT.of (z2 _ _ ht),at0 _ _,x,k,fs,rfl,k15,st.same z2,fun t2 ht2=>?_⟩
 have s3:=same_new ht2 (.tup fs)
 refine ⟨_,rfl,_,rfl,tp_cutN fs ((z2.trans s3) _ _ ht) (by rw [show (1:Int) = ((1:Nat):Int) from rfl,HT.sIx_nat]; rw [List.length_cons]; omega) (cut_drop (.str (wOf k) :: fs) 1 (by rw [List.length_cons]; omega)) fun t3 G3 s4 f4=>?_⟩
 exact eqTS (s4 _ _ upd_same) f4 (fun v hv=>.inl (ff v hv)) (q _ ((z2.trans s3).trans s4))
def rCatA:R2:=fun x y H Q=>∃ a b xs ys,x = .ref a∧y = .ref b∧H a = some (.tup xs)∧H b = some (.tup ys)∧xs.length + ys.length≤sizeLine∧∀ p H',Same H H'→H' p = some (.tup (xs ++ ys))→Q (.ref p) H'
theorem op_catA {X:Cx}:OpR X (binaryOp .Add) rCatA:=by
 intro pins s σ H x y v u Q I rx ry h
 obtain ⟨a,b,xs,ys,rfl,rfl,ha,hb,hz,q⟩:=h
 by_cases hx:xs = []
 ·cases rx
  cases ry
  obtain ⟨its,r1,p1,_⟩:=I.tuple (SqT.of (K:=X.K) ha)
  obtain ⟨its2,r2,p2,_⟩:=I.tuple (SqT.of (K:=X.K) hb)
  obtain ⟨⟨cls,dd,data,sl⟩,ho,hc,n,hd⟩:=id p1
  obtain ⟨⟨cls2,dd2,data2,sl2⟩,ho2,hc2,n2,hd2⟩:=id p2
  simp only at hc hd hc2 hd2
  subst hc hd hc2 hd2
  have he:its = []:=r1.nil_iff.mpr hx
  exact concat_meets ⟨_,ho,rfl⟩ ⟨_,ho2,rfl⟩ noFill_tuple_add seq_tuple_add PySem.F.slot_tuple_add PySem.F.entry_tuple_add (PySem.F.args_tuple_add_2 _ _)
   (tuple_addW0 a b its.toArray its2.toArray n n2 dd dd2 sl sl2 (by simp [he])) ⟨ho,ho2,.ref b,H,I,rfl,q b H (Same.refl H) (by rw [hx]; exact hb)⟩
 ·exact op_catT pins s σ H _ _ v u Q I rx ry ⟨a,b,xs,ys,rfl,rfl,SqT.of ha,SqT.of hb,hx,hz,fun z=>q a H (Same.refl H) (by rw [z,List.append_nil]; exact ha),fun _ p hp=>q p _ (same_new hp _) upd_same⟩
theorem tp_cat {H:Hp} {a b:Addr} {xs ys:List V} (zs:List V) {Q:V→Hp→Prop} (h1:H a = some (.tup xs)) (h2:H b = some (.tup ys)) (e:xs ++ ys = zs) (n:zs.length≤10) (q:∀ t G,Same H G→G t = some (.tup zs)→Q (.ref t) G):rCatA (.ref a) (.ref b) H Q:=by
 subst e
 have:(1000:Nat)≤sizeLine:=by decide
 rw [List.length_append] at n
 exact ⟨a,b,xs,ys,rfl,rfl,h1,h2,by omega,fun p H' s h=>q p H' s h⟩
def spAny:Sp:=fun vs H Q _=>∃ (p t:Addr) (k:Nat) (fs:List V),vs = [.ref p,.ref t]∧Box H p∧k < 15∧H t = some (.tup (.str (wOf k) :: fs))∧fs.length = (nOf k).length∧(∀ f ∈ fs,flatV f = true)∧∀ H',Box H' p→SameX p H H'→Q (.bl true) H'
theorem nOf_len {k:Nat} (h:k < 15):2≤(nOf k).length∧(nOf k).length≤4:=by
 have a:∀ k ∈ List.range 15,2≤(nOf k).length∧(nOf k).length≤4:=by decide +kernel
 exact a k (List.mem_range.mpr h)
theorem k_mem {k:Nat} (h:k < 15):k ∈ [0,1,2,3,4,5,6,7,8,9,10,11,12,13,14]:=by simp only [List.mem_cons,List.not_mem_nil,or_false]; omega
theorem ok__law_any {f:Addr} {fd:FuncData} (F:Fun K "_law_any" "_law_any" s__law_any f fd) (T:Txt K mg c) (H__law_made:Has P w K mg base 4 "_law_made" ["_law_row_here"] (spMade c [0,1,2,3,4,5,6,7,8,9,10,11,12,13,14])) (H__law_draw:Has P w K mg base 1 "_law_draw" ["_law_state", "_law_many"] spTake3) (H__law_fields:Has P w K mg base 1 "_law_fields" ["_law_row_here", "_law_word_here"] (spFields c)) (MW:∀ k,k < 15→MHas P w K mg base 1 (fOf c k) "word" ["self"] (spWd (wOf k))):FnOk P w K mg base CX0 5 f fd ["_law_state", "_law_due"] spAny:=by
 refine F.ok sc__law_any (fun vs H Q E h=>?_) (fun cdv A outer s H vs Q E hr h=>?_)
 ·obtain ⟨p,t,k,fs,rfl,_⟩:=h
  rfl
 obtain ⟨p,t,k,fs,rfl,b,k15,ht,ln,ff,q⟩:=h
 refine slE ⟨_,(pss_consZ (ps_setS (i:=2) sc__law_any.nd rfl (Or.inl rfl) (pe_ixS ix_list (pe_lstS (pa_consS pe_non (pa_consS pe_bl (pa_consS pe_str (pa_consZ (pe_lstS (pa_consS pe_int pa_nilS)) (pa_consZ (pe_tupZ (pa_consS pe_int pa_nilS)) (pa_consS (pe_op op_sub pe_int pe_int) (pa_consS pe_str (pa_consS pe_dnewK (pa_consS (pe_op op_pow pe_int pe_int) pa_nilS)))))))))) (pe_fn H__law_draw (hr.mono (by omega)) rfl (pa_cons (pv 0) (pa_cons pe_int pa_nil))) (fun _ _=>rfl)))
  (pss_consZ (slIn (ps_set (i:=3) sc__law_any.nd rfl (Or.inl rfl) (pe_op op_add pe_int (pe_fn H__law_draw (hr.mono (by omega)) rfl (pa_cons (pv 0) (pa_cons (pe_op op_sub (pe_callB call_len_seq rfl T.n_len boot_len (pa_cons (pv 1) pa_nil)) pe_int) pa_nil))))))
  (pss_consZ (ps_setS (i:=4) sc__law_any.nd rfl (Or.inl rfl) (pe_opZ op_catA (pe_opZ op_catA (slIn (pe_slice sl_tup (pv 1) po_none (po_some (pv 3)))) (pe_tupZ (pa_consS (pv 2) pa_nilS))) (slIn (pe_slice sl_tup (pv 1) (po_some (pe_op op_add (pv 3) pe_int)) po_none))))
  (pss_consZ (slIn (ps_set (i:=5) sc__law_any.nd rfl (Or.inl rfl) (pe_fn H__law_made (hr.mono (by omega)) rfl (pa_cons (pv 4) pa_nil))))
  (pss_oneZ (slIn (ps_ret (pe_and (pe_cmpR op_eq (pe_methP0 (k:=1) (pv 5) (hr.mono (by omega))) (pe_ix ix_tup (pv 1) pe_int (fun _ _=>rfl)) (nomark _)) (pe_one (pe_cmpR (op_eqTD (d:=1) (hu2 hr)) (pe_fn H__law_fields (hr.mono (by omega)) rfl (pa_cons (pv 5) (pa_cons (pe_ix ix_tup (pv 1) pe_int (fun _ _=>rfl)) pa_nil))) (pe_slice sl_tup (pv 4) (po_some pe_int) po_none) (nomark _))))))))))),?_⟩
 have L1000:(1000:Nat)≤sizeLine:=by decide
 have nl:=nOf_len k15
 have ntp:t ≠ p:=fun z=>by obtain ⟨r,s1,c',e⟩:=b; rw [z,e] at ht; cases ht
 refine ⟨(by show 1≤sizeLine; decide),fun a1 h1=>?_⟩
 obtain ⟨G1,w1,s1,f1⟩:=newO h1 (.lst [.int 1])
 rw [w1]
 refine ⟨(by show 1≤sizeLine; decide),fun a2 h2=>?_⟩
 obtain ⟨G2,w2,s2,f2⟩:=newO h2 (.tup [.int 2])
 rw [w2]
 refine ⟨_,_,rfl,rfl,fun a3 h3=>?_⟩
 obtain ⟨G3,w3,s3,f3⟩:=newO h3 (.dK [])
 rw [w3]
 refine ⟨_,_,rfl,rfl,⟨by decide,by decide,by decide⟩,(by show 9≤sizeLine; decide),fun l hl=>?_⟩
 have z3:=(s1.trans s2).trans s3
 obtain ⟨G4,w4,s4,f4⟩:=newO hl (.lst [.non,.bl true,.str (Str.ofString ""),.ref a1,.ref a2,.int (0 - 1),.str (Str.ofString "A"),.ref a3,.int (10 ^ (39:Int).toNat)])
 rw [w4]
 have b4:=b.same (z3.trans s4)
 refine ⟨_,rfl,p,_,rfl,b4,by decide,by decide,fun d H5 d0 d1 b5 x5=>?_⟩
 obtain ⟨v,sv,ev⟩:=pickV (xs:=[.non,.bl true,.str (Str.ofString ""),.ref a1,.ref a2,.int (0 - 1),.str (Str.ofString "A"),.ref a3,.int (10 ^ (39:Int).toNat)]) (Pr:=fun v=>flatV v = true∨∃ a,v = .ref a) d0 d1 (allV ⟨.inl rfl,.inl rfl,.inl rfl,.inr ⟨_,rfl⟩,.inr ⟨_,rfl⟩,.inl rfl,.inl rfl,.inr ⟨_,rfl⟩,.inl rfl,trivial⟩)
 refine ⟨l,_,_,_,rfl,rfl,SqL.of (x5 _ _ ((b.same z3).ne hl) f4),ev,?_⟩
 have X5:SameX p H H5:=(SameX.of (z3.trans s4)).trans x5
 have ht5:=X5 _ _ ntp ht
 clear s1 s2 s3 s4 z3 f1 f2 f3 f4 w1 w2 w3 w4 h1 h2 h3 hl b4 x5 ev d0 d1
 refine ⟨_,rfl,_,rfl,t,_,rfl,.inr (SqT.of ht5),_,_,rfl,rfl,p,_,rfl,b5,(by rw [List.length_cons]; omega),(by rw [List.length_cons]; omega),fun e H6 e0 e1 b6 x6=>⟨_,_,rfl,rfl,?_⟩⟩
 rw [List.length_cons] at e1
 obtain ⟨m,rfl⟩:∃ m:Nat,e = (m:Int):=⟨e.toNat,by omega⟩
 have mn:m < fs.length:=by omega
 have X6:=X5.trans x6
 have ht6:=X6 _ _ ntp ht
 have i1:(1:Int) + (m:Int) = ((m + 1:Nat):Int):=by omega
 have i2:(1:Int) + (m:Int) + 1 = ((m + 2:Nat):Int):=by omega
 have c1:cutV (.str (wOf k) :: fs) none (some (1 + (m:Int))) = .str (wOf k) :: fs.take m:=by rw [i1,cut_take _ _ (by rw [List.length_cons]; omega)]; rfl
 have c2:cutV (.str (wOf k) :: fs) (some (1 + (m:Int) + 1)) none = fs.drop (m + 1):=by rw [i2,cut_drop _ _ (by rw [List.length_cons]; omega)]; rfl
 refine ⟨_,rfl,_,rfl,_,rfl,tp_cut (.str (wOf k) :: fs.take m) ht6 (by rw [i1,HT.sIx_nat,List.length_cons]; omega) c1 fun t1 G1 s1 f1=>?_⟩
 refine ⟨_,rfl,(by show 1≤sizeLine; decide),fun t2 h2=>?_⟩
 obtain ⟨G2,w2,s2,f2⟩:=newO h2 (.tup [v])
 rw [w2]
 refine tp_cat (.str (wOf k) :: (fs.take m ++ [v])) (s2 _ _ f1) f2 rfl (by rw [List.length_cons,List.length_append,List.length_take]; show _ + 1 + 1≤10; omega) fun t3 G3 s3 f3=>?_
 have z3:=(s1.trans s2).trans s3
 refine ⟨_,rfl,_,rfl,_,_,rfl,rfl,_,rfl,tp_cutN (fs.drop (m + 1)) (z3 _ _ ht6) (by rw [i2,HT.sIx_nat,List.length_cons]; omega) c2 fun t4 G4 s4 f4=>?_⟩
 refine tp_cat (.str (wOf k) :: (fs.take m ++ [v] ++ fs.drop (m + 1))) (s4 _ _ f3) f4 rfl (by rw [List.length_cons,List.length_append,List.length_append,List.length_take,List.length_drop]; show _ + 1 + _ + 1≤10; omega) fun t5 G5 s5 f5=>?_
 have z5:=(z3.trans s4).trans s5
 have gl:(fs.take m ++ [v] ++ fs.drop (m + 1)).length = (nOf k).length:=by rw [List.length_append,List.length_append,List.length_take,List.length_drop]; show _ + 1 + _ = _; omega
 have sf:∀ y ∈ fs.take m ++ [v] ++ fs.drop (m + 1),flatV y = true∨∃ a,y = .ref a:=fun y hy=>by
  rcases List.mem_append.mp hy with hy | hy
  ·rcases List.mem_append.mp hy with hy | hy
   ·exact .inl (ff y (List.mem_of_mem_take hy))
   ·rw [List.mem_singleton.mp hy]; exact sv
  ·exact .inl (ff y (List.mem_of_mem_drop hy))
 have ht5':=z5 _ _ ht6
 generalize fs.take m ++ [v] ++ fs.drop (m + 1) = gs at f5 gl sf ⊢
 refine ⟨_,rfl,t5,k,gs,rfl,f5,k_mem k15,gl,fun x H7 hx st s7=>?_⟩
 obtain ⟨dx,ex,_⟩:=id st
 refine ⟨_,rfl,x,_,dx,_,_,_,rfl,ex,nOf_word k15,MW k k15,x,rfl,_,rfl,t,_,_,_,rfl,rfl,SqT.of (s7 _ _ ht5'),at0 _ _,rfl,_,rfl,iteD rfl ?_⟩
 refine ⟨_,rfl,_,rfl,t,_,_,_,rfl,rfl,SqT.of (s7 _ _ ht5'),at0 _ _,x,k,gs,rfl,k15,st,fun t6 h6=>?_⟩
 have s8:=same_new h6 (.tup gs)
 refine ⟨_,rfl,_,rfl,tp_cutN gs ((s7.trans s8) _ _ f5) (by rw [show (1:Int) = ((1:Nat):Int) from rfl,HT.sIx_nat,List.length_cons]; omega) (cut_drop (.str (wOf k) :: gs) 1 (by rw [List.length_cons]; omega)) fun t7 G9 s9 f9=>?_⟩
 have zz:=((z5.trans s7).trans s8).trans s9
 exact eqTS (s9 _ _ upd_same) f9 sf (q _ (b6.same zz) (X6.trans (SameX.of zz)))
def spTurnsL (c:Ad):Sp:=fun vs H Q _=>∃ (p lr ld:Addr) (xs ys:List V) (rs:List (Nat × List V)),vs = [.ref p,.ref lr,.ref ld]∧Box H p∧lr ≠ p∧ld ≠ p∧H lr = some (.lst xs)∧RowsAt c H xs rs∧H ld = some (.lst ys)∧ToldAt H ys rs∧2≤rs.length∧rs.length≤10∧(∀ r ∈ rs,∀ f ∈ r.2,flatV f = true)∧∀ H',Box H' p→SameX p H H'→Q (.bl true) H'
def spNTold:Sp:=fun vs H Q _=>∃ (p l:Addr) (zs:List Str),vs = [.ref p,.ref l]∧Box H p∧Nms H l zs∧l ≠ p∧∀ H',Box H' p→SameX p H H'→Q (.bl true) H'
theorem Box.lst {H:Hp} {p:Addr} (b:Box H p):∃ xs,H p = some (.lst xs):=let ⟨_,_,_,e⟩:=b; ⟨_,e⟩
theorem StepAt.sx {c:Ad} {H H':Hp} {p x:Addr} {k:Nat} {fs:List V} (h:StepAt c H x k fs) (s:SameX p H H') (b:∃ xs,H p = some (.lst xs)):StepAt c H' x k fs:=by
 obtain ⟨dx,e,l⟩:=h
 obtain ⟨xs,ep⟩:=b
 exact ⟨dx,s _ _ (fun z=>by rw [z,ep] at e; cases e) e,l⟩
theorem RowsAt.sx {c:Ad} {H H':Hp} {p:Addr} {xs:List V} {rs:List (Nat × List V)} (h:RowsAt c H xs rs) (s:SameX p H H') (b:∃ xs,H p = some (.lst xs)):RowsAt c H' xs rs:=⟨h.1,fun i x r e1 e2=>let ⟨k,a,e,st⟩:=h.2 i x r e1 e2; ⟨k,a,e,st.sx s b⟩⟩
theorem RowsAt.same {c:Ad} {H H':Hp} {xs:List V} {rs:List (Nat × List V)} (h:RowsAt c H xs rs) (s:Same H H'):RowsAt c H' xs rs:=⟨h.1,fun i x r e1 e2=>let ⟨k,a,e,st⟩:=h.2 i x r e1 e2; ⟨k,a,e,st.same s⟩⟩
theorem ToldAt.sx {H H':Hp} {p:Addr} {ys:List V} {rs:List (Nat × List V)} (h:ToldAt H ys rs) (s:SameX p H H') (b:∃ xs,H p = some (.lst xs)):ToldAt H' ys rs:=h.same fun a xs e=>s _ _ (fun z=>by obtain ⟨ys,ep⟩:=b; rw [z,ep] at e; cases e) e
theorem RowsAt.snoc {c:Ad} {H:Hp} {xs:List V} {rs:List (Nat × List V)} {a:Addr} {r:Nat × List V} (h:RowsAt c H xs rs) (k:r.1 < 15) (t:StepAt c H a r.1 r.2):RowsAt c H (xs ++ [.ref a]) (rs ++ [r]):=by
 refine ⟨by rw [List.length_append,List.length_append,h.1]; rfl,fun i y q e1 e2=>?_⟩
 by_cases hi:i < xs.length
 ·rw [List.getElem?_append_left hi] at e1
  rw [List.getElem?_append_left (by rw [← h.1]; exact hi)] at e2
  exact h.2 i y q e1 e2
 ·have l:=(List.getElem?_eq_some_iff.mp e1).1
  rw [List.length_append,List.length_singleton] at l
  have e:i = xs.length:=by omega
  subst e
  rw [List.getElem?_append_right (Nat.le_refl _),Nat.sub_self] at e1
  rw [List.getElem?_append_right (by rw [h.1]; exact Nat.le_refl _),h.1,Nat.sub_self] at e2
  cases e1
  cases e2
  exact ⟨k,a,rfl,t⟩
theorem cut_mid {xs:List V} (i m:Nat) (h:i + m≤xs.length):cutV xs (some (i:Int)) (some ((i:Int) + (m:Int))) = (xs.drop i).take m:=by
 unfold cutV
 rw [show (i:Int) + (m:Int) = ((i + m:Nat):Int) by omega,HT.sIx_nat,HT.sIx_nat,Nat.min_eq_left (show i≤xs.length by omega),Nat.min_eq_left h,show i + m - i = m by omega]
theorem RowsAt.mid {c:Ad} {H:Hp} {xs:List V} {rs:List (Nat × List V)} (h:RowsAt c H xs rs) (i m:Nat):RowsAt c H ((xs.drop i).take m) ((rs.drop i).take m):=by
 refine ⟨by rw [List.length_take,List.length_take,List.length_drop,List.length_drop,h.1],fun j y q e1 e2=>?_⟩
 rw [List.getElem?_take] at e1 e2
 split at e1
 ·next c=>rw [if_pos c] at e2; rw [List.getElem?_drop] at e1 e2; exact h.2 (i + j) y q e1 e2
 ·cases e1
theorem ToldAt.mid {H:Hp} {xs:List V} {rs:List (Nat × List V)} (h:ToldAt H xs rs) (i m:Nat):ToldAt H ((xs.drop i).take m) ((rs.drop i).take m):=by
 refine ⟨by rw [List.length_take,List.length_take,List.length_drop,List.length_drop,h.1],fun j y q e1 e2=>?_⟩
 rw [List.getElem?_take] at e1 e2
 split at e1
 ·next c=>rw [if_pos c] at e2; rw [List.getElem?_drop] at e1 e2; exact h.2 (i + j) y q e1 e2
 ·cases e1
structure LR (c:Ad) (H0 H:Hp) (p l lr ld:Addr) (zs:List Str) (xs ys:List V) (rs:List (Nat × List V)):Prop where
 b:Box H p
 nm:Nms H l zs
 hr:H lr = some (.lst xs)
 ra:RowsAt c H xs rs
 hd:H ld = some (.lst ys)
 ta:ToldAt H ys rs
 ff:∀ r ∈ rs,∀ f ∈ r.2,flatV f = true
 x:SameX p H0 H
 nl:l ≠ p
 nr:lr ≠ p
 nd:ld ≠ p
 rd:lr ≠ ld
 rl:lr ≠ l
 dl:ld ≠ l
 fr:H0 lr = none
 fd:H0 ld = none
theorem LR.sx {c:Ad} {H0 H H':Hp} {p l lr ld:Addr} {zs:List Str} {xs ys:List V} {rs:List (Nat × List V)} (h:LR c H0 H p l lr ld zs xs ys rs) (s:SameX p H H') (b:Box H' p):LR c H0 H' p l lr ld zs xs ys rs :=
 ⟨b,h.nm.sx s h.nl,s _ _ h.nr h.hr,h.ra.sx s h.b.lst,s _ _ h.nd h.hd,h.ta.sx s h.b.lst,h.ff,h.x.trans s,h.nl,h.nr,h.nd,h.rd,h.rl,h.dl,h.fr,h.fd⟩
theorem LR.same {c:Ad} {H0 H H':Hp} {p l lr ld:Addr} {zs:List Str} {xs ys:List V} {rs:List (Nat × List V)} (h:LR c H0 H p l lr ld zs xs ys rs) (s:Same H H'):LR c H0 H' p l lr ld zs xs ys rs:=h.sx (SameX.of s) (h.b.same s)
theorem RowsAt.imp {c:Ad} {H H':Hp} {xs:List V} {rs:List (Nat × List V)} (h:RowsAt c H xs rs) (s:∀ b C dx d,H b = some (.ins C dx d)→H' b = some (.ins C dx d)):RowsAt c H' xs rs:=⟨h.1,fun i x r e1 e2=>let ⟨k,a,e,dx,st,l⟩:=h.2 i x r e1 e2; ⟨k,a,e,dx,s _ _ _ _ st,l⟩⟩
theorem LR.app {c:Ad} {H0 H:Hp} {p l lr ld:Addr} {zs:List Str} {xs ys:List V} {rs:List (Nat × List V)} (h:LR c H0 H p l lr ld zs xs ys rs) {t x:Addr} {k:Nat} {fs:List V} (hk:k < 15) (ht:H t = some (.tup (.str (wOf k) :: fs))) (st:StepAt c H x k fs) (ff:∀ f ∈ fs,flatV f = true) :
  LR c H0 (upd (upd H lr (.lst (xs ++ [.ref x]))) ld (.lst (ys ++ [.ref t]))) p l lr ld zs (xs ++ [.ref x]) (ys ++ [.ref t]) (rs ++ [(k,fs)])∧upd (upd H lr (.lst (xs ++ [.ref x]))) ld (.lst (ys ++ [.ref t])) t = some (.tup (.str (wOf k) :: fs)):=by
 have u:∀ {b:Addr} {o:HO},H b = some o→b ≠ lr→b ≠ ld→upd (upd H lr (.lst (xs ++ [.ref x]))) ld (.lst (ys ++ [.ref t])) b = some o:=fun {b o} e n1 n2=>by rw [upd_ne n2,upd_ne n1]; exact e
 have ui:∀ b C dx d,H b = some (.ins C dx d)→upd (upd H lr (.lst (xs ++ [.ref x]))) ld (.lst (ys ++ [.ref t])) b = some (.ins C dx d):=fun b C dx d e=>u e (fun z=>by rw [z,h.hr] at e; cases e) (fun z=>by rw [z,h.hd] at e; cases e)
 have ut:∀ b xs',H b = some (.tup xs')→upd (upd H lr (.lst (xs ++ [.ref x]))) ld (.lst (ys ++ [.ref t])) b = some (.tup xs'):=fun b xs' e=>u e (fun z=>by rw [z,h.hr] at e; cases e) (fun z=>by rw [z,h.hd] at e; cases e)
 refine ⟨⟨?_,⟨u h.nm.1 (Ne.symm h.rl) (Ne.symm h.dl),h.nm.2⟩,by rw [upd_ne h.rd]; exact upd_same,(h.ra.imp ui).snoc hk (let ⟨dx,e,l'⟩:=st; ⟨dx,ui _ _ _ _ e,l'⟩),upd_same,(h.ta.same ut).snoc (ut _ _ ht),?_,?_,h.nl,h.nr,h.nd,h.rd,h.rl,h.dl,h.fr,h.fd⟩,ut _ _ ht⟩
 ·obtain ⟨a1,a2,a3,e⟩:=h.b
  exact ⟨a1,a2,a3,u e (Ne.symm h.nr) (Ne.symm h.nd)⟩
 ·intro r hr'
  rcases List.mem_append.mp hr' with hr' | hr'
  ·exact h.ff r hr'
  ·rw [List.mem_singleton.mp hr']; exact ff
 ·intro b o hb e
  exact u (h.x _ _ hb e) (ne_of_none e h.fr) (ne_of_none e h.fd)
theorem LR.row {c:Ad} {H0 H:Hp} {p l lr ld:Addr} {zs:List Str} {xs ys:List V} {rs:List (Nat × List V)} (h:LR c H0 H p l lr ld zs xs ys rs) {j:Nat} (hj:j < rs.length):∃ (x t:Addr) (k:Nat) (fs:List V),xs[j]? = some (.ref x)∧ys[j]? = some (.ref t)∧k < 15∧StepAt c H x k fs∧H t = some (.tup (.str (wOf k) :: fs))∧∀ f ∈ fs,flatV f = true:=by
 have e1:=List.getElem?_eq_getElem (show j < xs.length by rw [h.ra.1]; exact hj)
 have e2:=List.getElem?_eq_getElem (show j < ys.length by rw [h.ta.1]; exact hj)
 have e3:=List.getElem?_eq_getElem hj
 obtain ⟨k,x,ex,st⟩:=h.ra.2 j _ _ e1 e3
 obtain ⟨t,et,ht⟩:=h.ta.2 j _ _ e2 e3
 rw [ex] at e1
 rw [et] at e2
 exact ⟨x,t,_,_,e1,e2,k,st,ht,h.ff _ (List.getElem_mem hj)⟩
theorem ok_law {f:Addr} {fd:FuncData} (F:Fun K "law" "law" s_law f fd) (T:Txt K mg c) (H__law_begun:Has P w K mg base 1 "_law_begun" ["_law_cell_here"] spBox) (H__law_names:Has P w K mg base 2 "_law_names" ["_law_state"] spNames) (H__law_draw:Has P w K mg base 1 "_law_draw" ["_law_state", "_law_many"] spTake3) (H__law_cell:Has P w K mg base 1 "_law_cell" ["_law_script", "_law_k"] (spCell K)) (H__law_names_told:Has P w K mg base 2 "_law_names_told" ["_law_state", "_law_names_here"] spNTold) (H__law_row:Has P w K mg base 3 "_law_row" ["_law_state", "_law_width", "_law_names_here", "_law_at"] spRow) (H__law_turns:Has P w K mg base 5 "_law_turns" ["_law_state", "_law_rows", "_law_dues"] (spTurnsL c)) (H__law_made:Has P w K mg base 4 "_law_made" ["_law_row_here"] (spMade c [0,1,2,3,4,5,6,7,8,9,10,11,12,13,14])) (H__law_any:Has P w K mg base 5 "_law_any" ["_law_state", "_law_due"] spAny) (H__law_told:Has P w K mg base 3 "_law_told" ["_law_row_here", "_law_due"] (spLTold c)):FnOk P w K mg base CX0 6 f fd ["_law_script"] (spLaw K):=by
 refine F.ok sc_law (fun vs H Q E h=>?_) (fun cdv A outer s H vs Q E hr h=>?_)
 ·obtain ⟨a,ns,rfl,_⟩:=h
  rfl
 obtain ⟨a,ns,rfl,hS,hlen,q⟩:=h
 have hl:(ns.map V.int).length = ns.length:=List.length_map _
 have L1000:(1000:Nat)≤sizeLine:=by decide
 refine ⟨_,(pss_cons (ps_for PassesOwn.never rfl (pi_range1 rfl T.n_range (pa_cons (pe_callB (call_max2 rfl) rfl T.n_max boot_max (pa_cons pe_int (pa_cons (pe_callB (call_min2 rfl) rfl T.n_min boot_min (pa_cons pe_int (pa_cons (pe_callB call_len_seq rfl T.n_len boot_len (pa_cons (pv 0) pa_nil)) pa_nil))) pa_nil))) pa_nil)) (pg_name (i:=1) sc_law.nd rfl (Or.inl rfl))
   (pss_cons (ps_set (i:=2) sc_law.nd rfl (Or.inl rfl) (pe_fn H__law_begun (hr.mono (by omega)) rfl (pa_cons (pe_fn H__law_cell (hr.mono (by omega)) rfl (pa_cons (pv 0) (pa_cons (pv 1) pa_nil))) pa_nil)))
   (pss_cons (ps_set (i:=3) sc_law.nd rfl (Or.inl rfl) (pe_op op_add pe_int (pe_fn H__law_draw (hr.mono (by omega)) rfl (pa_cons (pv 2) (pa_cons pe_int pa_nil)))))
   (pss_cons (ps_set (i:=4) sc_law.nd rfl (Or.inl rfl) (pe_fn H__law_names (hr.mono (by omega)) rfl (pa_cons (pv 2) pa_nil)))
   (pss_cons (ps_if (pt_not (pt_val (pe_fn H__law_names_told (hr.mono (by omega)) rfl (pa_cons (pv 2) (pa_cons (pv 4) pa_nil)))))
    (pss_one (ps_ret pe_bl))
    pss_nil)
   (pss_cons (ps_set (i:=5) sc_law.nd rfl (Or.inl rfl) (pe_fn H__law_draw (hr.mono (by omega)) rfl (pa_cons (pv 2) (pa_cons pe_int pa_nil))))
   (pss_cons (ps_set (i:=6) sc_law.nd rfl (Or.inr rfl) (pe_lst pa_nil))
   (pss_cons (ps_set (i:=7) sc_law.nd rfl (Or.inr rfl) (pe_lst pa_nil))
   (pss_cons (ps_for PassesOwn.never rfl (pi_range1 rfl T.n_range (pa_cons pe_int pa_nil)) (pg_name (i:=8) sc_law.nd rfl (Or.inl rfl))
    (pss_cons (ps_set (i:=9) sc_law.nd rfl (Or.inl rfl) (pe_fn H__law_row (hr.mono (by omega)) rfl (pa_cons (pv 2) (pa_cons (pv 3) (pa_cons (pv 4) (pa_cons (pe_op op_mod (pe_op op_add (pv 5) (pe_op op_mul (pv 8) pe_int)) pe_int) pa_nil))))))
    (pss_cons (ps_expr (pe_bm PySem.F.plainAttrs_list PySem.F.slot_list_append PySem.F.type_list_append mt_append (pv 6) (pa_cons (pe_fn H__law_made (hr.mono (by omega)) rfl (pa_cons (pv 9) pa_nil)) pa_nil)))
    (pss_cons (ps_expr (pe_bm PySem.F.plainAttrs_list PySem.F.slot_list_append PySem.F.type_list_append mt_append (pv 7) (pa_cons (pv 9) pa_nil)))
    (pss_one (ps_if (pt_not (pt_val (pe_fn H__law_any (hr.mono (by omega)) rfl (pa_cons (pv 2) (pa_cons (pv 9) pa_nil)))))
     (pss_one (ps_ret pe_bl))
     pss_nil))))))
   (pss_cons (ps_if (pt_not (pt_val (pe_callB (call_all_bl rfl) rfl T.n_all boot_all (pa_cons (pe_compC [6,7] ["_law_rows", "_law_dues"] rfl (by first | rfl | with_unfolding_all rfl) (by rfl) (by exact (List.forall_mem_cons.mpr ⟨rfl,(List.forall_mem_cons.mpr ⟨rfl,(fun _ h=>nomatch h)⟩)⟩)) (by decide +kernel) rfl (by decide +kernel) rfl (by decide +kernel) (by exact (List.forall_mem_cons.mpr ⟨⟨by first | exact Or.inl rfl | exact Or.inr rfl,rfl⟩,(List.forall_mem_cons.mpr ⟨⟨by first | exact Or.inl rfl | exact Or.inr rfl,rfl⟩,(fun _ h=>nomatch h)⟩)⟩)) rfl (by rfl) (pi_range1 rfl T.n_range (pa_cons pe_int pa_nil)) (fun C s2 H2 fp=>(pe_fn H__law_told (hr.mono (by omega)) rfl (pa_cons (pe_ix (ix_listK (K:=K) rfl) (pv 1) (pv 0) (fun _ _=>rfl)) (pa_cons (pe_ix (ix_listK (K:=K) rfl) (pv 2) (pv 0) (fun _ _=>rfl)) pa_nil))))) pa_nil))))
    (pss_one (ps_ret pe_bl))
    pss_nil)
   (pss_cons (ps_set (i:=10) sc_law.nd rfl (Or.inl rfl) (pe_op op_add pe_int (pe_fn H__law_draw (hr.mono (by omega)) rfl (pa_cons (pv 2) (pa_cons pe_int pa_nil)))))
   (pss_cons (ps_if (pt_not (pt_val (pe_fn H__law_turns (hr.mono (by omega)) rfl (pa_cons (pv 2) (pa_cons (pe_slice sl_list (pv 6) (po_some (pe_op op_mod (pv 5) pe_int)) (po_some (pe_op op_add (pe_op op_mod (pv 5) pe_int) (pv 10)))) (pa_cons (pe_slice sl_list (pv 7) (po_some (pe_op op_mod (pv 5) pe_int)) (po_some (pe_op op_add (pe_op op_mod (pv 5) pe_int) (pv 10)))) pa_nil))))))
    (pss_one (ps_ret pe_bl))
    pss_nil)
   (pss_one (ps_if (pt_not (pt_val (pe_callB (call_all_bl rfl) rfl T.n_all boot_all (pa_cons (pe_compC [6,7] ["_law_rows", "_law_dues"] rfl (by first | rfl | with_unfolding_all rfl) (by rfl) (by exact (List.forall_mem_cons.mpr ⟨rfl,(List.forall_mem_cons.mpr ⟨rfl,(fun _ h=>nomatch h)⟩)⟩)) (by decide +kernel) rfl (by decide +kernel) rfl (by decide +kernel) (by exact (List.forall_mem_cons.mpr ⟨⟨by first | exact Or.inl rfl | exact Or.inr rfl,rfl⟩,(List.forall_mem_cons.mpr ⟨⟨by first | exact Or.inl rfl | exact Or.inr rfl,rfl⟩,(fun _ h=>nomatch h)⟩)⟩)) rfl (by rfl) (pi_range1 rfl T.n_range (pa_cons pe_int pa_nil)) (fun C s2 H2 fp=>(pe_fn H__law_told (hr.mono (by omega)) rfl (pa_cons (pe_ix (ix_listK (K:=K) rfl) (pv 1) (pv 0) (fun _ _=>rfl)) (pa_cons (pe_ix (ix_listK (K:=K) rfl) (pv 2) (pv 0) (fun _ _=>rfl)) pa_nil))))) pa_nil))))
    (pss_one (ps_ret pe_bl))
    pss_nil))))))))))))))
  (pss_one (ps_ret pe_bl))),?_⟩
 refine ⟨_,rfl,a,_,rfl,.inl hS,_,_,rfl,_,_,rfl,_,rfl,(by rw [hl]; split <;> (try split) <;> omega),(by rw [hl]; split <;> (try split) <;> omega),for_range (fun i σ H2=>∃ y1 y2 y3 y4 y5 y6 y7 y8 y9 y10:Option V,σ = [some (.ref a),y1,y2,y3,y4,y5,y6,y7,y8,y9,y10]∧Same H H2) ⟨_,_,_,_,_,_,_,_,_,_,rfl,Same.refl _⟩ ?_ ?_⟩
 rotate_left
 ·rintro σ H2 ⟨y1,y2,y3,y4,y5,y6,y7,y8,y9,y10,rfl,s2⟩
  exact q H2
 rintro i σ H2 hi ⟨y1,y2,y3,y4,y5,y6,y7,y8,y9,y10,rfl,s2⟩
 have hi':(i:Int) < 100:=by
  rw [hl] at hi
  revert hi
  split <;> (try split) <;> omega
 refine ⟨_,rfl,_,rfl,a,ns,_,rfl,s2.seq hS,by omega,by omega,fun cc=>⟨cc,rfl,fun p H3 p0 b3 s3=>?_⟩⟩
 refine ⟨_,rfl,p,_,rfl,b3,by decide,by decide,fun d H4 d0 d1 b4 x4=>⟨_,_,rfl,rfl,?_⟩⟩
 refine ⟨_,rfl,p,rfl,b4,fun l zs H5 l0 nm5 b5 x5=>?_⟩
 have nlp:l ≠ p:=fun z=>by obtain ⟨r,s1,c',e⟩:=b4; rw [z,e] at l0; cases l0
 refine ⟨_,rfl,_,rfl,p,l,zs,rfl,b5,nm5,nlp,fun H6 b6 x6=>⟨_,rfl,iteF ?_⟩⟩
 refine ⟨_,rfl,p,_,rfl,b6,by decide,by decide,fun t H7 t0 t1 b7 x7=>?_⟩
 have X7:SameX p H2 H7:=(SameX.of s3).trans ((x4.trans x5).trans (x6.trans x7))
 have nm7:Nms H7 l zs:=nm5.sx (x6.trans x7) nlp
 refine ⟨(by show 0≤sizeLine; decide),fun lr hlr=>?_⟩
 obtain ⟨G8,w8,s8,f8⟩:=newO hlr (.lst [])
 rw [w8]
 refine ⟨(by show 0≤sizeLine; decide),fun ld hld=>?_⟩
 obtain ⟨G9,w9,s9,f9⟩:=newO hld (.lst [])
 rw [w9]
 have fresh:∀ {b':Addr},H7 b' = none→H2 b' = none:=fun {b'} e=>by
  cases e':H2 b' with
  | none=>rfl
  | some o =>
   by_cases c:b' = p
   ·rw [c] at e; obtain ⟨r,s1,c',e''⟩:=b7; rw [e''] at e; cases e
   ·rw [X7 _ _ c e'] at e; cases e
 have hld7:H7 ld = none:=Same.none s8 hld
 have lr0:LR c H2 G9 p l lr ld zs [] [] []:=⟨b7.same (s8.trans s9),⟨(s8.trans s9) _ _ nm7.1,nm7.2⟩,s9 _ _ f8,⟨rfl,fun i x r e=>by simp at e⟩,f9,ToldAt.nil,(fun r hr'=>by cases hr'),X7.trans (SameX.of (s8.trans s9)),nlp,b7.ne hlr,b7.ne hld7,(fun z=>by rw [← z,f8] at hld; cases hld),(fun z=>by rw [z,nm7.1] at hlr; cases hlr),(fun z=>by rw [z,nm7.1] at hld7; cases hld7),fresh hlr,fresh hld7⟩
 refine ⟨_,rfl,by decide,by decide,for_range (n:=15) (fun j σ G=>∃ (y8 y9 y10:Option V) (xs ys:List V) (rs:List (Nat × List V)),σ = [some (.ref a),some (.int (0 + (i:Int))),some (.ref p),some (.int (4 + d)),some (.ref l),some (.int t),some (.ref lr),some (.ref ld),y8,y9,y10]∧LR c H2 G p l lr ld zs xs ys rs∧rs.length = j) ⟨_,_,_,[],[],[],rfl,lr0,rfl⟩ ?_ ?_⟩
 ·rintro j σ G hj ⟨y8,y9,y10,xs,ys,rs,rfl,h,hn⟩
  have hj:j < 15:=hj
  obtain ⟨k,ek⟩:∃ k:Nat,(t + (0 + (j:Int)) * 4) % 15 = (k:Int):=⟨_,(Int.toNat_of_nonneg (Int.emod_nonneg _ (by decide))).symm⟩
  have hk:k < 15:=by have:=Int.emod_lt_of_pos (t + (0 + (j:Int)) * 4) (show (0:Int) < 15 by decide); omega
  refine ⟨_,rfl,_,rfl,_,rfl,_,rfl,_,rfl,_,_,rfl,rfl,.inr ⟨by decide,by decide⟩,_,_,rfl,rfl,_,_,rfl,rfl,(show (0:Int) < 15 by decide),?_⟩
  refine ⟨p,l,4 + d,k,zs,congrArg (fun z=>[V.ref p,V.int (4 + d),V.ref l,V.int z]) ek,h.b,by omega,by omega,h.nm,h.nl,hk,fun t' fs G1 ht ln ff b1 x1=>?_⟩
  have h1:=h.sx x1 b1
  refine ⟨_,rfl,.inl ⟨rfl,_,SqL.of h1.hr⟩,_,rfl,t',k,fs,rfl,ht,k_mem hk,ln,fun x G2 _ st s2=>?_⟩
  have h2:=h1.same s2
  have lx:xs.length = j:=h.ra.1.trans hn
  have ly:ys.length = j:=h.ta.1.trans hn
  refine ⟨lr,_,_,rfl,rfl,h2.hr,by omega,?_⟩
  refine ⟨_,rfl,.inl ⟨rfl,_,SqL.of (by rw [upd_ne (Ne.symm h.rd)]; exact h2.hd)⟩,_,rfl,ld,_,_,rfl,rfl,(by rw [upd_ne (Ne.symm h.rd)]; exact h2.hd),by omega,?_⟩
  obtain ⟨h3,ht3⟩:=h2.app hk (s2 _ _ ht) st ff
  refine ⟨_,rfl,_,rfl,p,t',k,fs,rfl,h3.b,hk,ht3,ln,ff,fun G4 b4 x4=>⟨_,rfl,iteF ?_⟩⟩
  exact ⟨_,_,_,_,_,_,rfl,h3.sx x4 b4,by rw [List.length_append,hn]; rfl⟩
 ·rintro σ G ⟨y8,y9,y10,xs,ys,rs,rfl,h,hn⟩
  refine ⟨_,rfl,by decide,by decide,fun D1 hD1=>?_⟩
  refine comp_rng (fun j HJ=>HJ D1 = some (.lst ((List.replicate j true).map V.bl))∧Same G HJ) ⟨upd_same,same_new hD1 _⟩ ?_ ?_
  ·rintro j HJ hj ⟨hy,sJ⟩
   have hj:j < 15:=hj
   obtain ⟨x,t',k',fs,ex,et,k15,st,ht,ff⟩:=h.row (j:=j) (by omega)
   refine ⟨_,rfl,_,rfl,lr,_,_,_,rfl,rfl,SqL.of (sJ _ _ h.hr),(by rw [Int.zero_add]; exact atI_nat ex),?_⟩
   refine ⟨_,rfl,_,rfl,ld,_,_,_,rfl,rfl,SqL.of (sJ _ _ h.hd),(by rw [Int.zero_add]; exact atI_nat et),?_⟩
   refine ⟨x,t',k',fs,rfl,k15,st.same sJ,sJ _ _ ht,ff,fun HK sK=>?_⟩
   refine ⟨_,sK _ _ hy,(by rw [List.length_map,List.length_replicate]; omega),_,(show 15 - (j + 1) < _ by omega),rfl,(by omega),?_,Same.updL (sJ.trans sK) hD1⟩
   rw [upd_same,List.replicate_succ',List.map_append]
   rfl
  rintro HJ1 ⟨hy1,sJ1⟩
  refine ⟨D1,_,rfl,SqL.of hy1,_,rfl,iteF ?_⟩
  have h1:=h.same sJ1
  refine ⟨_,rfl,p,_,rfl,h1.b,by decide,by decide,fun e G2 e0 e1 b2 x2=>⟨_,_,rfl,rfl,?_⟩⟩
  have h2:=h1.sx x2 b2
  obtain ⟨m,em⟩:∃ m:Nat,t % 9 = (m:Int):=⟨_,(Int.toNat_of_nonneg (Int.emod_nonneg _ (by decide))).symm⟩
  have hm:m < 9:=by have:=Int.emod_lt_of_pos t (show (0:Int) < 9 by decide); omega
  obtain ⟨n,en⟩:∃ n:Nat,2 + e = (n:Int):=⟨_,(Int.toNat_of_nonneg (by omega)).symm⟩
  have lx:xs.length = 15:=h.ra.1.trans hn
  have ly:ys.length = 15:=h.ta.1.trans hn
  have cx:cutV xs (some (t % 9)) (some (t % 9 + (2 + e))) = (xs.drop m).take n:=by rw [em,en]; exact cut_mid m n (by omega)
  have cy:cutV ys (some (t % 9)) (some (t % 9 + (2 + e))) = (ys.drop m).take n:=by rw [em,en]; exact cut_mid m n (by omega)
  refine ⟨_,rfl,_,rfl,_,rfl,_,_,rfl,rfl,(show (0:Int) < 9 by decide),?_⟩
  refine ⟨_,rfl,_,rfl,_,_,rfl,rfl,(show (0:Int) < 9 by decide),_,rfl,_,_,rfl,rfl,_,rfl,lr,_,rfl,SqL.of h2.hr,fun q1 hq1=>?_⟩
  rw [show (.lst (cutV xs (some (t % 9)) (some (t % 9 + (2 + e)))):HO) = .lst ((xs.drop m).take n) from congrArg _ cx]
  obtain ⟨G3,w3,s3',f3⟩:=newO hq1 (.lst ((xs.drop m).take n))
  rw [w3]
  have h3:=h2.same s3'
  refine ⟨_,rfl,_,rfl,_,_,rfl,rfl,(show (0:Int) < 9 by decide),_,rfl,_,rfl,_,_,rfl,rfl,(show (0:Int) < 9 by decide),_,rfl,_,_,rfl,rfl,_,rfl,ld,_,rfl,SqL.of h3.hd,fun q2 hq2=>?_⟩
  rw [show (.lst (cutV ys (some (t % 9)) (some (t % 9 + (2 + e)))):HO) = .lst ((ys.drop m).take n) from congrArg _ cy]
  obtain ⟨G4,w4,s4',f4⟩:=newO hq2 (.lst ((ys.drop m).take n))
  rw [w4]
  have h4:=h3.same s4'
  have lm:((rs.drop m).take n).length = n:=by rw [List.length_take,List.length_drop,hn]; omega
  refine ⟨p,q1,q2,_,_,(rs.drop m).take n,rfl,h4.b,h2.b.ne hq1,h3.b.ne hq2,s4' _ _ f3,h4.ra.mid m n,f4,h4.ta.mid m n,by omega,by omega,(fun r hr'=>h4.ff r (List.mem_of_mem_drop (List.mem_of_mem_take hr'))),fun G5 b5 x5=>⟨_,rfl,iteF ?_⟩⟩
  have h5:=h4.sx x5 b5
  refine ⟨_,rfl,by decide,by decide,fun D2 hD2=>?_⟩
  refine comp_rng (fun j HJ=>HJ D2 = some (.lst ((List.replicate j true).map V.bl))∧Same G5 HJ) ⟨upd_same,same_new hD2 _⟩ ?_ ?_
  ·rintro j HJ hj ⟨hy,sJ⟩
   have hj:j < 15:=hj
   obtain ⟨x,t',k',fs,ex,et,k15,st,ht,ff⟩:=h5.row (j:=j) (by omega)
   refine ⟨_,rfl,_,rfl,lr,_,_,_,rfl,rfl,SqL.of (sJ _ _ h5.hr),(by rw [Int.zero_add]; exact atI_nat ex),?_⟩
   refine ⟨_,rfl,_,rfl,ld,_,_,_,rfl,rfl,SqL.of (sJ _ _ h5.hd),(by rw [Int.zero_add]; exact atI_nat et),?_⟩
   refine ⟨x,t',k',fs,rfl,k15,st.same sJ,sJ _ _ ht,ff,fun HK sK=>?_⟩
   refine ⟨_,sK _ _ hy,(by rw [List.length_map,List.length_replicate]; omega),_,(show 15 - (j + 1) < _ by omega),rfl,(by omega),?_,Same.updL (sJ.trans sK) hD2⟩
   rw [upd_same,List.replicate_succ',List.map_append]
   rfl
  rintro HJ2 ⟨hy2,sJ2⟩
  refine ⟨D2,_,rfl,SqL.of hy2,_,rfl,iteF ?_⟩
  exact ⟨_,_,_,_,_,_,_,_,_,_,rfl,s2.trans (fun b o e'=>by
   refine sJ2 _ _ (h5.x _ _ (fun z=>?_) e')
   rw [z,p0] at e'
   cases e')⟩
theorem hu5 {A:Around} {k d:Nat} (hr:Room k A) (h:d≤5:=by decide):A.units + d + 1 < cLine:=by have:=hr.un; omega
theorem MHas.mono {P:Program} {w:World} {K:PySem.W.Frag} {mg:Str→Option Value} {base:Heap} {j k:Nat} {C:Addr} {m:Str} {ps:List Str} {sp:Sp} (h:MHas P w K mg base j C m ps sp) (i:j≤k):MHas P w K mg base k C m ps sp:=let ⟨f,fd,a,o,b⟩:=h.ex; ⟨h.cl,f,fd,a,o.mono i,b⟩
theorem MHas.imp {P:Program} {w:World} {K:PySem.W.Frag} {mg:Str→Option Value} {base:Heap} {k:Nat} {C:Addr} {m:Str} {ps:List Str} {sp sp':Sp} (h:MHas P w K mg base k C m ps sp) (i:∀ vs H Q E,sp' vs H Q E→sp vs H Q E):MHas P w K mg base k C m ps sp':=let ⟨f,fd,a,o,b⟩:=h.ex; ⟨h.cl,f,fd,a,o.imp i,b⟩
theorem spTold_one {c:Ad} {ks:List Nat} {k:Nat} {vs:List V} {H:Hp} {Q:VK} {E:XK} (hk:k ∈ ks) (h:spTold c [k] vs H Q E):spTold c ks vs H Q E:=by
 obtain ⟨x,k',fs,e,m,st,q⟩:=h
 rw [List.mem_singleton.mp m] at st q
 exact ⟨x,k,fs,e,hk,st,q⟩
abbrev Itm:=Sum (Nat × List V) (V × List (Nat × List V))
def ItAt (c:Ad) (H:Hp) (x:V):Itm→Prop
 | .inl r=>r.1 < 15∧∃ a,x = .ref a∧StepAt c H a r.1 r.2
 | .inr q=>∃ a xs,x = .ref a∧TurnsAt c H a q.1 xs∧RowsAt c H xs q.2∧q.2.length≤100
def OutE (D:Addr) (H:Hp) (y:V):Itm→Prop
 | .inl r=>∃ a,y = .ref a∧H a = some (.tup (.str (wOf r.1) :: r.2))
 | .inr q=>∃ a L ys,y = .ref a∧H a = some (.tup [.str "turns",q.1,.ref L])∧H L = some (.lst ys)∧L ≠ D∧ToldAt H ys q.2
def OutsE (D:Addr) (H:Hp) (ys:List V) (its:List Itm):Prop:=ys.length = its.length∧∀ (i:Nat) y q,ys[i]? = some y→its[i]? = some q→OutE D H y q
def spToldO (c:Ad):Sp:=fun vs H Q _=>∃ (x:Addr) (n:V) (xs:List V) (its:List Itm),vs = [.ref x]∧TurnsAt c H x n xs∧xs.length = its.length∧(∀ (i:Nat) x q,xs[i]? = some x→its[i]? = some q→ItAt c H x q)∧its.length≤100∧∀ (r L:Addr) (ys:List V) H',H r = none→H L = none→H' r = some (.tup [.str "turns",n,.ref L])→H' L = some (.lst ys)→OutsE L H' ys its→Same H H'→Q (.ref r) H'
theorem ToldAt.upd {H:Hp} {ys:List V} {rs:List (Nat × List V)} {D:Addr} {xs xs':List V} (h:ToldAt H ys rs) (hD:H D = some (.lst xs)):ToldAt (upd H D (.lst xs')) ys rs:=h.same fun b zs e=>by rw [upd_ne fun z=>by rw [z,hD] at e; cases e]; exact e
theorem OutE.same {D:Addr} {H H':Hp} {y:V} {q:Itm} (h:OutE D H y q) (s:Same H H'):OutE D H' y q:=by
 cases q with
 | inl r=>obtain ⟨a,e,h⟩:=h; exact ⟨a,e,s _ _ h⟩
 | inr q=>obtain ⟨a,L,ys,e,h,hL,n,t⟩:=h; exact ⟨a,L,ys,e,s _ _ h,s _ _ hL,n,t.same fun b xs e=>s _ _ e⟩
theorem OutE.upd {D:Addr} {H:Hp} {y:V} {q:Itm} {xs xs':List V} (h:OutE D H y q) (hD:H D = some (.lst xs)):OutE D (upd H D (.lst xs')) y q:=by
 cases q with
 | inl r=>obtain ⟨a,e,h⟩:=h; exact ⟨a,e,by rw [upd_ne fun z=>by rw [z,hD] at h; cases h]; exact h⟩
 | inr q=>obtain ⟨a,L,ys,e,h,hL,n,t⟩:=h; exact ⟨a,L,ys,e,by rw [upd_ne fun z=>by rw [z,hD] at h; cases h]; exact h,by rw [upd_ne n]; exact hL,n,t.upd hD⟩
theorem OutsE.snoc {D:Addr} {H:Hp} {ys:List V} {its:List Itm} {y:V} {q:Itm} (h:OutsE D H ys its) (t:OutE D H y q):OutsE D H (ys ++ [y]) (its ++ [q]):=by
 refine ⟨by rw [List.length_append,List.length_append,h.1]; rfl,fun i z p e1 e2=>?_⟩
 by_cases hi:i < ys.length
 ·rw [List.getElem?_append_left hi] at e1
  rw [List.getElem?_append_left (by rw [← h.1]; exact hi)] at e2
  exact h.2 i z p e1 e2
 ·have l:=(List.getElem?_eq_some_iff.mp e1).1
  rw [List.length_append,List.length_singleton] at l
  have e:i = ys.length:=by omega
  subst e
  rw [List.getElem?_append_right (Nat.le_refl _),Nat.sub_self] at e1
  rw [List.getElem?_append_right (by rw [h.1]; exact Nat.le_refl _),h.1,Nat.sub_self] at e2
  cases e1
  cases e2
  exact t
theorem TurnsAt.same {c:Ad} {H H':Hp} {x:Addr} {n:V} {xs:List V} (h:TurnsAt c H x n xs) (s:Same H H'):TurnsAt c H' x n xs:=let ⟨dx,l,e,f⟩:=h; ⟨dx,l,s _ _ e,s _ _ f⟩
theorem ok_Turns_told2 {f:Addr} {fd:FuncData} (F:Fun K "told" "Turns.told" s_Turns_told f fd) (T:Txt K mg c) (MT:∀ k,k < 15→MHas P w K mg base 2 (fOf c k) "told" ["self"] (spTold c [k])) (MU:MHas P w K mg base 3 c.Turns "told" ["self"] (spToldT c)):FnOk P w K mg base CX0 4 f fd ["self"] (spToldO c):=by
 refine F.ok sc_Turns_told (fun vs H Q E h=>?_) (fun cdv A outer s H vs Q E hr h=>?_)
 ·obtain ⟨x,n,xs,its,rfl,_⟩:=h
  rfl
 obtain ⟨x,n,xs,its,rfl,⟨dx,l,hx,hl⟩,rl,ia,ln,q⟩:=h
 refine ⟨_,(pss_one (ps_ret (pe_tup (pa_cons pe_str (pa_cons (pe_fld (pv 0) rfl) (pa_cons (pe_comp0 rfl (by first | rfl | with_unfolding_all rfl) (by decide +kernel) rfl (by decide +kernel) rfl (pi_list (pe_fld (pv 0) rfl)) (fun C s2 H2 fp=>(pe_methQ0 (k:=3) (P:=P) (w:=w) (K:=K) (mg:=mg) (base:=base) rfl rfl rfl rfl rfl (pv 0) (hr.mono (by omega))))) pa_nil)))))),?_⟩
 have L1000:(1000:Nat)≤sizeLine:=by decide
 refine ⟨_,rfl,x,_,dx,_,_,rfl,hx,T.cl_Turns,T.na_Turns_times,rfl,?_⟩
 refine ⟨_,rfl,x,_,dx,_,_,rfl,hx,T.cl_Turns,T.na_Turns_steps,rfl,?_⟩
 refine ⟨l,rfl,⟨_,SqL.of hl⟩,fun D hD=>?_⟩
 refine comp_list (xs:=xs) (fun j HJ=>∃ ys,HJ D = some (.lst ys)∧OutsE D HJ ys (its.take j)∧Same H HJ) ⟨[],upd_same,⟨rfl,fun i y r h=>by simp at h⟩,same_new hD _⟩ ?_ ?_ ?_
 ·rintro j HJ hj ⟨ys,hy,ta,sJ⟩
  exact SqL.of (sJ _ _ hl)
 ·rintro j v HJ hv ⟨ys,hy,ta,sJ⟩
  have jl:=(List.getElem?_eq_some_iff.mp hv).1
  obtain ⟨it,er⟩:∃ it,its[j]? = some it:=⟨_,List.getElem?_eq_getElem (by rw [← rl]; exact jl)⟩
  have yl:ys.length = j:=by rw [ta.1,List.length_take]; omega
  have fin:∀ (y:V) (G:Hp),Same HJ G→OutE D G y it→∃ ys,(G D = some (.lst ys))∧ys.length < sizeLine∧∃ m',m' < xs.length - j∧(m' = xs.length - (j + 1)∧j + 1≤xs.length∧∃ zs,upd G D (.lst (ys ++ [y])) D = some (.lst zs)∧OutsE D (upd G D (.lst (ys ++ [y]))) zs (its.take (j + 1))∧Same H (upd G D (.lst (ys ++ [y])))):=fun y G s1 o=>by
   refine ⟨ys,s1 _ _ hy,by omega,_,(show xs.length - (j + 1) < _ by omega),rfl,(by omega),ys ++ [y],upd_same,?_,Same.updL (sJ.trans s1) hD⟩
   rw [List.take_add_one,er,Option.toList_some]
   have t1:OutsE D (upd G D (.lst (ys ++ [y]))) ys (its.take j):=⟨ta.1,fun i y' q' e1 e2=>((ta.2 i y' q' e1 e2).same s1).upd (s1 _ _ hy)⟩
   exact t1.snoc (o.upd (s1 _ _ hy))
  have hit:=ia j v it hv er
  cases it with
  | inl r =>
   obtain ⟨k15,a,rfl,sa⟩:=hit
   have sa':=sa.same sJ
   obtain ⟨da,ea,la⟩:=id sa'
   refine ⟨_,rfl,a,_,da,_,_,_,rfl,ea,nOf_told k15,(MT _ k15).mono (by decide),a,_,_,rfl,List.mem_singleton.mpr rfl,sa',fun r' hr'=>?_⟩
   exact fin _ _ (same_new hr' _) ⟨_,rfl,upd_same⟩
  | inr q' =>
   obtain ⟨a,xs',rfl,ha,ra,l100⟩:=hit
   have ha':=ha.same sJ
   obtain ⟨da,la,ea,_⟩:=id ha'
   refine ⟨_,rfl,a,_,da,_,_,_,rfl,ea,rfl,MU,a,_,_,_,rfl,ha',ra.same sJ,l100,fun r' L zs H' r0 L0 h1 h2 h3 s1=>?_⟩
   exact fin _ _ s1 ⟨_,L,zs,rfl,h1,h2,(fun z=>by rw [z,hy] at L0; cases L0),h3⟩
 ·rintro HJ ⟨ys,hy,ta,sJ⟩
  refine ⟨(by show 3≤sizeLine; decide),fun r hr'=>?_⟩
  have s1:=same_new hr' (.tup [.str "turns",n,.ref D])
  rw [rl,List.take_length] at ta
  exact q r D ys _ (Same.none sJ hr') hD upd_same (s1 _ _ hy) ⟨ta.1,fun i y' q' e1 e2=>(ta.2 i y' q' e1 e2).same s1⟩ (sJ.trans s1)
theorem eqRow {K:PySem.W.Frag} {H:Hp} {d:Nat} {a b:Addr} {xs:List V} (ha:H a = some (.tup xs)) (hb:H b = some (.tup xs)) (h:∀ x ∈ xs,flatV x = true∨∃ a,x = .ref a):EqD K H (d + 1) (.ref a) (.ref b) true:=by
 by_cases e:a = b
 ·rw [e]; exact EqD.same
 have z:=EqD.tup (K:=K) (H:=H) (d:=d) (e:=fun _=>true) e (SqT.of ha) (SqT.of hb) fun j h1 _=>by
  have e:xs.getD j .non = xs[j]:=by rw [List.getD_eq_getElem?_getD,List.getElem?_eq_getElem h1]; rfl
  rw [e]
  exact selfE (h _ (List.getElem_mem h1))
 rw [aT,beq_self_eq_true] at z
 exact z
def FlatR (rs:List (Nat × List V)):Prop:=∀ r ∈ rs,∀ f ∈ r.2,flatV f = true
theorem flatW {k:Nat} {fs:List V} (ff:∀ f ∈ fs,flatV f = true):∀ x ∈ V.str (wOf k) :: fs,flatV x = true∨∃ a,x = .ref a:=fun v hv=>by
 rcases List.mem_cons.mp hv with rfl | hv
 ·exact .inl rfl
 ·exact .inl (ff v hv)
theorem eqTold {K:PySem.W.Frag} {H:Hp} {d:Nat} {zs ys:List V} {rs:List (Nat × List V)} (a:ToldAt H zs rs) (b:ToldAt H ys rs) (ff:FlatR rs) (j:Nat) (hj:j < zs.length):EqD K H (d + 1) (zs.getD j .non) (ys.getD j .non) true:=by
 have hr:j < rs.length:=by rw [← a.1]; exact hj
 have hy:j < ys.length:=by rw [b.1]; exact hr
 obtain ⟨a1,e1,h1⟩:=a.2 j _ _ (List.getElem?_eq_getElem hj) (List.getElem?_eq_getElem hr)
 obtain ⟨a2,e2,h2⟩:=b.2 j _ _ (List.getElem?_eq_getElem hy) (List.getElem?_eq_getElem hr)
 rw [List.getD_eq_getElem?_getD,List.getD_eq_getElem?_getD,List.getElem?_eq_getElem hj,List.getElem?_eq_getElem hy,e1,e2]
 exact eqRow h1 h2 (flatW (ff _ (List.getElem_mem hr)))
theorem eqLst {K:PySem.W.Frag} {H:Hp} {d:Nat} {L l:Addr} {zs ys:List V} {rs:List (Nat × List V)} (hL:H L = some (.lst zs)) (hl:H l = some (.lst ys)) (a:ToldAt H zs rs) (b:ToldAt H ys rs) (ff:FlatR rs):EqD K H (d + 2) (.ref L) (.ref l) true:=by
 by_cases e:L = l
 ·rw [e]; exact EqD.same
 have z:=EqD.lst (K:=K) (H:=H) (d:=d + 1) (e:=fun _=>true) e (SqL.of hL) (SqL.of hl) (by rw [a.1,b.1]) (eqTold a b ff)
 rw [aT] at z
 exact z
structure TT (H:Hp) (r:Addr) (n:Int) (rs:List (Nat × List V)):Prop where
 ex:∃ L zs,H r = some (.tup [.str "turns",.int n,.ref L])∧H L = some (.lst zs)∧ToldAt H zs rs
theorem TT.same {H H':Hp} {r:Addr} {n:Int} {rs:List (Nat × List V)} (h:TT H r n rs) (s:Same H H'):TT H' r n rs:=let ⟨L,zs,e,f,t⟩:=h.ex; ⟨L,zs,s _ _ e,s _ _ f,t.same fun _ _ e=>s _ _ e⟩
theorem tt_el {K:PySem.W.Frag} {H:Hp} {d:Nat} {L l:Addr} {n:Int} {zs ys:List V} {rs:List (Nat × List V)} (hL:H L = some (.lst zs)) (hl:H l = some (.lst ys)) (a:ToldAt H zs rs) (b:ToldAt H ys rs) (ff:FlatR rs):∀ j,j < [V.str "turns",.int n,.ref L].length→j < [V.str "turns",.int n,.ref l].length→EqD K H (d + 2) ([V.str "turns",.int n,.ref L].getD j .non) ([V.str "turns",.int n,.ref l].getD j .non) true:=fun j h1 _=>by
 rcases (show j = 0∨j = 1∨j = 2 by simp only [List.length_cons,List.length_nil] at h1; omega) with rfl | rfl | rfl
 ·exact selfE (.inl rfl)
 ·exact selfE (.inl rfl)
 ·exact eqLst hL hl a b ff
theorem TT.eq {K:PySem.W.Frag} {H:Hp} {d:Nat} {r q:Addr} {n:Int} {rs:List (Nat × List V)} (a:TT H r n rs) (b:TT H q n rs) (ff:FlatR rs):EqD K H (d + 3) (.ref r) (.ref q) true:=by
 by_cases e:r = q
 ·rw [e]; exact EqD.same
 obtain ⟨L,zs,e1,f1,t1⟩:=a.ex
 obtain ⟨l,ys,e2,f2,t2⟩:=b.ex
 have z:=EqD.tup (K:=K) (H:=H) (d:=d + 2) (e:=fun _=>true) e (SqT.of e1) (SqT.of e2) (tt_el f1 f2 t1 t2 ff)
 rw [aT] at z
 exact z
theorem TT.cmp {K:PySem.W.Frag} {H:Hp} {r q:Addr} {n:Int} {rs:List (Nat × List V)} {g:Bool} {Q:V→Hp→Prop} (a:TT H r n rs) (b:TT H q n rs) (ff:FlatR rs) (k:Q (.bl (!g)) H):rEqTD K 2 g (.ref r) (.ref q) H Q:=by
 obtain ⟨L,zs,e1,f1,t1⟩:=a.ex
 obtain ⟨l,ys,e2,f2,t2⟩:=b.ex
 refine ⟨r,q,_,_,fun _=>true,rfl,rfl,SqT.of e1,SqT.of e2,tt_el f1 f2 t1 t2 ff,?_⟩
 rw [aT]
 cases g <;> exact k
theorem cmpO {K:PySem.W.Frag} {H:Hp} {r q L l tD a0:Addr} {n:Int} {rs:List (Nat × List V)} {r0:Nat × List V} {zs:List V} {Q:V→Hp→Prop} (hr:H r = some (.tup [.str "turns",.int 2,.ref L])) (hq:H q = some (.tup [.str "turns",.int 2,.ref l])) (hL:H L = some (.lst zs)) (hl:H l = some (.lst [.ref tD,.ref a0,.ref tD])) (ne:L ≠ l) (o:OutsE L H zs [.inr (.int n,rs),.inl r0,.inr (.int n,rs)]) (t:TT H tD n rs) (h0:H a0 = some (.tup (.str (wOf r0.1) :: r0.2))) (ff:FlatR rs) (f0:∀ f ∈ r0.2,flatV f = true) (k:Q (.bl false) H):rEqTD K 4 true (.ref r) (.ref q) H Q:=by
 have lz:zs.length = 3:=o.1
 have el:EqD K H 4 (.ref L) (.ref l) true:=by
  have z:=EqD.lst (K:=K) (H:=H) (d:=3) (e:=fun _=>true) ne (SqL.of hL) (SqL.of hl) lz fun j hj=>by
   have g:zs.getD j .non = zs[j]:=by rw [List.getD_eq_getElem?_getD,List.getElem?_eq_getElem hj]; rfl
   have e1:=List.getElem?_eq_getElem hj
   rw [g]
   rcases (show j = 0∨j = 1∨j = 2 by omega) with rfl | rfl | rfl
   ·obtain ⟨a,L',ys',e,e2,e3,_,e4⟩:=o.2 0 _ _ e1 rfl
    rw [e]
    exact TT.eq (d:=0) ⟨L',ys',e2,e3,e4⟩ t ff
   ·obtain ⟨a,e,e2⟩:=o.2 1 _ _ e1 rfl
    rw [e]
    exact eqRow (d:=2) e2 h0 (flatW f0)
   ·obtain ⟨a,L',ys',e,e2,e3,_,e4⟩:=o.2 2 _ _ e1 rfl
    rw [e]
    exact TT.eq (d:=0) ⟨L',ys',e2,e3,e4⟩ t ff
  rw [aT] at z
  exact z
 refine ⟨r,q,_,_,fun _=>true,rfl,rfl,SqT.of hr,SqT.of hq,fun j h1 _=>?_,?_⟩
 ·rcases (show j = 0∨j = 1∨j = 2 by simp only [List.length_cons,List.length_nil] at h1; omega) with rfl | rfl | rfl
  ·exact selfE (.inl rfl)
  ·exact selfE (.inl rfl)
  ·exact el
 rw [aT]
 exact k
structure TH (c:Ad) (H:Hp) (lr ld x l tD:Addr) (xs ys:List V) (n:Int) (rs:List (Nat × List V)):Prop where
 hr:H lr = some (.lst xs)
 ra:RowsAt c H xs rs
 hd:H ld = some (.lst ys)
 ta:ToldAt H ys rs
 tu:∃ dx,H x = some (.ins c.Turns dx [("times",.int n),("steps",.ref l)])
 hl:H l = some (.lst xs)
 hD:H tD = some (.tup [.str "turns",.int n,.ref ld])
theorem TH.same {c:Ad} {H H':Hp} {lr ld x l tD:Addr} {xs ys:List V} {n:Int} {rs:List (Nat × List V)} (h:TH c H lr ld x l tD xs ys n rs) (s:Same H H'):TH c H' lr ld x l tD xs ys n rs:=⟨s _ _ h.hr,h.ra.same s,s _ _ h.hd,h.ta.same fun _ _ e=>s _ _ e,(let ⟨dx,e⟩:=h.tu; ⟨dx,s _ _ e⟩),s _ _ h.hl,s _ _ h.hD⟩
theorem TH.at {c:Ad} {H:Hp} {lr ld x l tD:Addr} {xs ys:List V} {n:Int} {rs:List (Nat × List V)} (h:TH c H lr ld x l tD xs ys n rs):TurnsAt c H x (.int n) xs:=let ⟨dx,e⟩:=h.tu; ⟨dx,l,e,h.hl⟩
theorem TH.due {c:Ad} {H:Hp} {lr ld x l tD:Addr} {xs ys:List V} {n:Int} {rs:List (Nat × List V)} (h:TH c H lr ld x l tD xs ys n rs):TT H tD n rs:=⟨ld,ys,h.hD,h.hd,h.ta⟩
theorem ixN_in {n:Nat} {k:Int} (h0:0≤k) (h1:k < n):ixN n k = some k.toNat:=by
 unfold ixN
 simp only [h0,h1,if_true,and_self,true_and]
theorem ok__law_turns {f:Addr} {fd:FuncData} (F:Fun K "_law_turns" "_law_turns" s__law_turns f fd) (T:Txt K mg c) (H__law_draw:Has P w K mg base 1 "_law_draw" ["_law_state", "_law_many"] spTake3) (H__law_kinds:Has P w K mg base 1 "_law_kinds" ["_law_row_here"] (spKinds c)) (C_Turns:CHas P w K mg base 1 c.Turns "Turns" ["self", "times", "steps"] (spInitT K)) (MT:∀ k,k < 15→MHas P w K mg base 2 (fOf c k) "told" ["self"] (spTold c [k])) (MU:MHas P w K mg base 3 c.Turns "told" ["self"] (spToldT c)) (MO:MHas P w K mg base 4 c.Turns "told" ["self"] (spToldO c)) (MWT:MHas P w K mg base 1 c.Turns "word" ["self"] (spWd "turns")):FnOk P w K mg base CX0 5 f fd ["_law_state", "_law_rows", "_law_dues"] (spTurnsL c):=by
 refine F.ok sc__law_turns (fun vs H Q E h=>?_) (fun cdv A outer s H vs Q E hr h=>?_)
 ·obtain ⟨p,lr,ld,xs,ys,rs,rfl,_⟩:=h
  rfl
 obtain ⟨p,lr,ld,xs,ys,rs,rfl,b,nlr,nld,hlr,ra,hld,ta,r2,r10,ff,q⟩:=h
 refine ⟨_,(pss_cons (ps_set (i:=3) sc__law_turns.nd rfl (Or.inl rfl) (pe_op op_add pe_int (pe_fn H__law_draw (hr.mono (by omega)) rfl (pa_cons (pv 0) (pa_cons pe_int pa_nil)))))
  (pss_cons (ps_set (i:=4) sc__law_turns.nd rfl (Or.inl rfl) (pe_callTy call_list_of rfl T.n_list boot_list (pa_cons (pv 1) pa_nil)))
  (pss_cons (ps_set (i:=5) sc__law_turns.nd rfl (Or.inl rfl) (pe_mkP C_Turns (hr.mono (by omega)) rfl (pa_cons (pv 3) (pa_cons (pv 4) pa_nil))))
  (pss_cons (ps_set (i:=6) sc__law_turns.nd rfl (Or.inl rfl) (pe_tup (pa_cons pe_str (pa_cons (pv 3) (pa_cons (pv 2) pa_nil)))))
  (pss_cons (ps_expr (pe_bm PySem.F.plainAttrs_list PySem.F.slot_list_append PySem.F.type_list_append mt_append (pv 4) (pa_cons (pe_ix ix_list (pv 1) pe_int (fun _ _=>rfl)) pa_nil)))
  (pss_cons (ps_asg (pe_ix ix_list (pv 1) pe_int (fun _ _=>rfl)) (pg_sub (pv 4) pe_int set_list))
  (pss_cons (ps_set (i:=7) sc__law_turns.nd rfl (Or.inl rfl) (pe_methP0 (k:=4) (pv 5) (hr.mono (by omega))))
  (pss_cons (ps_if (PW.pt (pw_or (pt_not (pt_val (pe_ix ix_list (pe_fn H__law_kinds (hr.mono (by omega)) rfl (pa_cons (pv 5) pa_nil)) pe_int (fun _ _=>rfl)))) (pw_or (pt_not (pt_val (pe_callB call_isinst rfl T.n_isinstance boot_isinstance (pa_cons (pv 5) (pa_cons (pe_cls rfl T.g_Step) pa_nil))))) (pw_or (pt_cmpR op_ne (pe_methP0 (k:=1) (pv 5) (hr.mono (by omega))) pe_str (nomark _)) (pw_or1 (pt_cmpR (op_neTD (d:=2) (hu5 (d:=2) hr (by decide))) (pv 7) (pv 6) (nomark _)))))))
   (pss_one (ps_ret pe_bl))
   pss_nil)
  (pss_cons (ps_expr (pe_bm0 PySem.F.plainAttrs_list PySem.F.slot_list_clear PySem.F.type_list_clear mt_clear (pe_ix ix_tup (pv 7) pe_int (fun _ _=>rfl))))
  (pss_cons (ps_set (i:=8) sc__law_turns.nd rfl (Or.inl rfl) (pe_mkP C_Turns (hr.mono (by omega)) rfl (pa_cons pe_int (pa_cons (pe_lst (pa_cons (pv 5) (pa_cons (pe_ix ix_list (pv 1) pe_int (fun _ _=>rfl)) (pa_cons (pv 5) pa_nil)))) pa_nil))))
  (pss_cons (ps_if (PW.pt (pw_or (pt_cmpR (op_neTD (d:=4) (hu5 (d:=4) hr (by decide))) (pe_methP0 (k:=4) (pv 8) (hr.mono (by omega))) (pe_tup (pa_cons pe_str (pa_cons pe_int (pa_cons (pe_lst (pa_cons (pv 6) (pa_cons (pe_ix ix_list (pv 2) pe_int (fun _ _=>rfl)) (pa_cons (pv 6) pa_nil)))) pa_nil)))) (nomark _)) (pw_or1 (pt_not (pt_val (pe_callB call_isinst rfl T.n_isinstance boot_isinstance (pa_cons (pe_methP0 (k:=4) (pv 8) (hr.mono (by omega))) (pa_cons (pe_ty rfl T.n_tuple boot_tuple) pa_nil))))))))
   (pss_one (ps_ret pe_bl))
   pss_nil)
  (pss_one (ps_ret (pe_and (pe_cmpR (op_eqTD (d:=2) (hu5 (d:=2) hr (by decide))) (pe_methP0 (k:=4) (pv 5) (hr.mono (by omega))) (pv 6) (nomark _)) (pe_and (pe_cmpR op_eq (pe_fld (pv 5) rfl) (pv 3) (nomark _)) (pe_one (pe_cmpR (op_eqLD (d:=1) (hu5 (d:=1) hr (by decide))) (pe_comp0 rfl (by first | rfl | with_unfolding_all rfl) (by decide +kernel) rfl (by decide +kernel) rfl (pi_list (pe_fld (pv 5) rfl)) (fun C s2 H2 fp=>(pe_methQ0 (k:=4) (P:=P) (w:=w) (K:=K) (mg:=mg) (base:=base) rfl rfl rfl rfl rfl (pv 0) (hr.mono (by omega))))) (pv 2) (nomark _)))))))))))))))))),?_⟩
 have L1000:(1000:Nat)≤sizeLine:=by decide
 refine ⟨_,rfl,p,_,rfl,b,by decide,by decide,fun d H1 d0 d1 b1 x1=>⟨_,_,rfl,rfl,?_⟩⟩
 refine ⟨_,rfl,lr,_,rfl,.inl (SqL.of (x1 _ _ nlr hlr)),fun l2 hl2=>?_⟩
 obtain ⟨G2,w2,s2,f2⟩:=newO hl2 (.lst xs)
 rw [w2]
 refine ⟨_,rfl,_,rfl,fun x dx hx hdx hne=>?_⟩
 have n2x:l2 ≠ x:=ne_of_none f2 hx
 have n2d:l2 ≠ dx:=ne_of_none f2 hdx
 refine ⟨x,c.Turns,dx,l2,_,xs,rfl,upd_same,(by rw [upd_ne n2x,upd_ne n2d]; exact f2),T.cl_Turns,List.forall_mem_cons.mpr ⟨T.na_Turns_times,List.forall_mem_cons.mpr ⟨T.na_Turns_steps,fun _ h=>nomatch h⟩⟩,fun l' G3 l0 hx3 hl3 sx=>⟨rfl,?_⟩⟩
 have s3:Same G2 G3:=made_same hx hdx sx
 have n2l:l2 ≠ l':=fun z=>by rw [← z,upd_ne n2x,upd_ne n2d,f2] at l0; cases l0
 refine ⟨_,rfl,_,rfl,(by show 3≤sizeLine; decide),fun tD htD=>?_⟩
 obtain ⟨G4,w4,s4,f4⟩:=newO htD (.tup [.str "turns",.int (1 + d),.ref ld])
 rw [show upd G3 tD (.tup [.str "turns",.int (1 + d),.ref ld]) = G4 from w4]
 have hl24:G4 l2 = some (.lst xs):=s4 _ _ (s3 _ _ f2)
 have S14:Same H1 G4:=s2.trans (s3.trans s4)
 have hr4:G4 lr = some (.lst xs):=S14 _ _ (x1 _ _ nlr hlr)
 have lx:xs.length = rs.length:=ra.1
 obtain ⟨v0,ev0⟩:∃ v,xs[0]? = some v:=⟨_,List.getElem?_eq_getElem (by omega)⟩
 obtain ⟨v1,ev1⟩:∃ v,xs[1]? = some v:=⟨_,List.getElem?_eq_getElem (by omega)⟩
 have n2r:l2 ≠ lr:=fun z=>by rw [z,x1 _ _ nlr hlr] at hl2; cases hl2
 refine ⟨_,rfl,.inl ⟨rfl,_,SqL.of hl24⟩,_,rfl,lr,_,_,_,rfl,rfl,SqL.of hr4,atI_nat (j:=0) ev0,l2,_,_,rfl,rfl,hl24,by omega,?_⟩
 refine ⟨_,rfl,lr,_,_,_,rfl,rfl,SqL.of (by rw [upd_ne (Ne.symm n2r)]; exact hr4),atI_nat (j:=1) ev1,?_⟩
 refine ⟨_,rfl,l2,_,_,_,rfl,rfl,upd_same,ixN_in (by decide) (by rw [List.length_append]; omega),?_⟩
 have u5:∀ {b o},G4 b = some o→b ≠ l2→upd (upd G4 l2 (.lst (xs ++ [v0]))) l2 (.lst ((xs ++ [v0]).set (0:Int).toNat v1)) b = some o:=fun {b o} e n=>by rw [upd_ne n,upd_ne n]; exact e
 have S5:Same H1 (upd (upd G4 l2 (.lst (xs ++ [v0]))) l2 (.lst ((xs ++ [v0]).set (0:Int).toNat v1))):=Same.updL (Same.updL S14 hl2) hl2
 have n2y:l2 ≠ ld:=fun z=>by rw [z,x1 _ _ nld hld] at hl2; cases hl2
 have t5:TH c (upd (upd G4 l2 (.lst (xs ++ [v0]))) l2 (.lst ((xs ++ [v0]).set (0:Int).toNat v1))) lr ld x l' tD xs ys (1 + d) rs:=⟨u5 hr4 (Ne.symm n2r),(ra.sx x1 b.lst).same S5,u5 (S14 _ _ (x1 _ _ nld hld)) (Ne.symm n2y),(ta.sx x1 b.lst).same fun _ _ e=>S5 _ _ e,⟨dx,u5 (s4 _ _ hx3) (Ne.symm n2x)⟩,u5 (s4 _ _ hl3) (Ne.symm n2l),u5 f4 (fun z=>by rw [z,s3 _ _ f2] at htD; cases htD)⟩
 have X5:SameX p H (upd (upd G4 l2 (.lst (xs ++ [v0]))) l2 (.lst ((xs ++ [v0]).set (0:Int).toNat v1))):=x1.trans (SameX.of S5)
 have b5:=b1.same S5
 generalize upd (upd G4 l2 (.lst (xs ++ [v0]))) l2 (.lst ((xs ++ [v0]).set (0:Int).toNat v1)) = G5 at t5 X5 b5 ⊢
 clear u5 S5 n2y n2r hl24 S14 hr4 f4 w4 s4 htD n2l s3 hx3 hl3 sx l0 n2d n2x f2 w2 s2 hx hdx hne hl2 b1 x1 G4 G3 G2 H1
 refine (fun fin=>?_:(∀ G',Same G5 G'→Q (.bl true) G')→_) (fun G' s'=>q G' (b5.same s') (X5.trans (SameX.of s')))
 clear q X5 b5 b hlr ra hld ta
 obtain ⟨ex5,hx5⟩:=t5.tu
 refine ⟨_,rfl,x,_,ex5,_,_,_,rfl,hx5,rfl,MU.mono (by decide),x,_,_,rs,rfl,t5.at,t5.ra,by omega,fun r L zs G6 r0 L0 h61 h62 h63 s6=>?_⟩
 have t6:=t5.same s6
 obtain ⟨ex6,hx6⟩:=t6.tu
 refine ⟨_,rfl,x,ex6,15,_,rfl,by omega,hx6,fun lk G7 lk0 hlk s7=>?_⟩
 have t7:=t6.same s7
 obtain ⟨ex7,hx7⟩:=t7.tu
 refine ⟨lk,_,_,_,rfl,rfl,SqL.of hlk,(show atI ((List.range 16).map fun i=>V.bl (decide (i = 15))) 15 = some (.bl true) by decide +kernel),?_⟩
 refine ⟨_,rfl,iteF ?_⟩
 refine ⟨_,rfl,_,_,_,_,_,rfl,rfl,T.ty (k:=15) (by omega) hx7,kit_of T.st.1 T.st.2 (T.kd (k:=15) (by omega)).2.2.1,_,rfl,iteF ?_⟩
 refine ⟨_,rfl,x,_,ex7,_,_,_,rfl,hx7,rfl,MWT.mono (by decide),x,rfl,?_⟩
 refine ⟨rfl,_,rfl,iteNS rfl ?_⟩
 have ff':FlatR rs:=ff
 have tt6:TT G6 r (1 + d) rs:=⟨L,zs,h61,h62,h63⟩
 refine ⟨_,rfl,_,rfl,TT.cmp (tt6.same s7) t7.due ff' ⟨_,rfl,iteF ?_⟩⟩
 refine ⟨_,rfl,r,_,_,_,rfl,rfl,SqT.of (s7 _ _ h61),rfl,.inl ⟨rfl,_,SqL.of (s7 _ _ h62)⟩,L,_,rfl,rfl,s7 _ _ h62,?_⟩
 have S8:Same G5 (upd G7 L (.lst [])):=Same.updL (s6.trans s7) L0
 generalize upd G7 L (.lst []) = G8 at S8 ⊢
 have t8:=t5.same S8
 clear tt6 hlk lk0 ex7 hx7 t7 ex6 hx6 t6 s7 s6 h63 h62 h61 L0 r0
 refine ⟨_,rfl,_,rfl,lr,_,_,_,rfl,rfl,SqL.of t8.hr,atI_nat (j:=0) ev0,_,rfl,(by show 3≤sizeLine; decide),fun l3 hl3 x3 dx3 hx3 hdx3 hne3=>?_⟩
 have s9:=same_new hl3 (.lst [.ref x,v0,.ref x])
 have f9:upd G8 l3 (.lst [.ref x,v0,.ref x]) l3 = some (.lst [.ref x,v0,.ref x]):=upd_same
 refine ⟨x3,c.Turns,dx3,l3,.int 2,_,rfl,upd_same,(by rw [upd_ne (ne_of_none f9 hx3),upd_ne (ne_of_none f9 hdx3)]; exact f9),T.cl_Turns,List.forall_mem_cons.mpr ⟨T.na_Turns_times,List.forall_mem_cons.mpr ⟨T.na_Turns_steps,fun _ h=>nomatch h⟩⟩,fun l4 G10 l40 hx10 hl10 sx=>⟨rfl,?_⟩⟩
 have s10:Same G8 G10:=s9.trans (made_same hx3 hdx3 sx)
 have S10:=S8.trans s10
 have t10:=t5.same S10
 clear s9 f9 sx l40 hne3 hdx3 hl3 s10 t8 S8
 have rl:0 < rs.length:=by omega
 have e0:rs[0]? = some rs[0]:=List.getElem?_eq_getElem rl
 have items:∀ {G:Hp},TH c G lr ld x l' tD xs ys (1 + d) rs→∀ (i:Nat) z q,[V.ref x,v0,V.ref x][i]? = some z→[Sum.inr (.int (1 + d),rs),Sum.inl rs[0],(Sum.inr (.int (1 + d),rs):Itm)][i]? = some q→ItAt c G z q:=fun {G} h i z q e1 e2=>by
  have hT:ItAt c G (.ref x) (.inr (.int (1 + d),rs)):=⟨x,xs,rfl,h.at,h.ra,by show rs.length≤100; omega⟩
  rcases i with _ | _ | _ | i
  ·cases e1; cases e2; exact hT
  ·cases e1; cases e2; obtain ⟨k15,a,e,st⟩:=h.ra.2 0 v0 _ ev0 e0; exact ⟨k15,a,e,st⟩
  ·cases e1; cases e2; exact hT
  ·simp at e1
 refine ⟨_,rfl,x3,_,dx3,_,_,_,rfl,hx10,rfl,MO,x3,.int 2,[.ref x,v0,.ref x],[.inr (.int (1 + d),rs),.inl rs[0],.inr (.int (1 + d),rs)],rfl,⟨dx3,l4,hx10,hl10⟩,rfl,items t10,(by show 3≤100; decide),fun r3 L3 zs3 G11 r30 L30 h1 h2 h3 s11=>?_⟩
 have t11:=t5.same (S10.trans s11)
 obtain ⟨v0',ey0⟩:∃ v,ys[0]? = some v:=⟨_,List.getElem?_eq_getElem (by rw [t5.ta.1]; omega)⟩
 obtain ⟨a0,ea0,ha0⟩:=t11.ta.2 0 _ _ ey0 e0
 subst ea0
 refine ⟨_,rfl,_,rfl,ld,_,_,_,rfl,rfl,SqL.of t11.hd,atI_nat (j:=0) ey0,_,rfl,(by show 3≤sizeLine; decide),fun l5 hl5=>?_⟩
 have s12:=same_new hl5 (.lst [.ref tD,.ref a0,.ref tD])
 have f12:upd G11 l5 (.lst [.ref tD,.ref a0,.ref tD]) l5 = some (.lst [.ref tD,.ref a0,.ref tD]):=upd_same
 generalize upd G11 l5 (.lst [.ref tD,.ref a0,.ref tD]) = G12 at s12 f12 ⊢
 refine ⟨(by show 3≤sizeLine; decide),fun t3 ht3=>?_⟩
 have s13:=same_new ht3 (.tup [.str "turns",.int 2,.ref l5])
 have f13:upd G12 t3 (.tup [.str "turns",.int 2,.ref l5]) t3 = some (.tup [.str "turns",.int 2,.ref l5]):=upd_same
 generalize upd G12 t3 (.tup [.str "turns",.int 2,.ref l5]) = G13 at s13 f13 ⊢
 have z13:=s12.trans s13
 have t13:=t11.same z13
 refine cmpO (z13 _ _ h1) f13 (z13 _ _ h2) (s13 _ _ f12) (fun z=>by rw [z,hl5] at h2; cases h2) ⟨h3.1,fun i y q e1 e2=>(h3.2 i y q e1 e2).same z13⟩ t13.due (z13 _ _ ha0) ff' (ff _ (List.getElem_mem rl)) ⟨_,rfl,iteF ?_⟩
 have S13:Same G10 G13:=s11.trans z13
 refine ⟨_,rfl,x3,_,dx3,_,_,_,rfl,S13 _ _ hx10,rfl,MO,x3,.int 2,[.ref x,v0,.ref x],[.inr (.int (1 + d),rs),.inl rs[0],.inr (.int (1 + d),rs)],rfl,⟨dx3,l4,S13 _ _ hx10,S13 _ _ hl10⟩,rfl,items t13,(by show 3≤100; decide),fun r4 L4 zs4 G14 _ _ h41 h42 h43 s14=>?_⟩
 refine ⟨_,_,_,_,_,rfl,rfl,TyOf.tup h41,rfl,_,rfl,iteF ?_⟩
 have t14:=t13.same s14
 obtain ⟨ex14,hx14⟩:=t14.tu
 refine ⟨_,rfl,x,_,ex14,_,_,_,rfl,hx14,rfl,MU.mono (by decide),x,_,_,rs,rfl,t14.at,t14.ra,by omega,fun r5 L5 zs5 G15 _ _ h51 h52 h53 s15=>?_⟩
 have t15:=t14.same s15
 obtain ⟨ex15,hx15⟩:=t15.tu
 refine ⟨_,rfl,TT.cmp ⟨L5,zs5,h51,h52,h53⟩ t15.due ff' ⟨_,rfl,iteT ?_⟩⟩
 refine ⟨_,rfl,x,_,ex15,_,_,rfl,hx15,T.cl_Turns,T.na_Turns_times,rfl,_,rfl,?_⟩
 refine ⟨rfl,_,rfl,iteD rfl ?_⟩
 refine ⟨_,rfl,x,_,ex15,_,_,rfl,hx15,T.cl_Turns,T.na_Turns_steps,rfl,l',rfl,⟨_,SqL.of t15.hl⟩,fun D hD=>?_⟩
 have ra15:=t15.ra
 refine comp_list (xs:=xs) (fun j HJ=>∃ ys,HJ D = some (.lst ys)∧ToldAt HJ ys (rs.take j)∧Same G15 HJ) ⟨[],upd_same,ToldAt.nil,same_new hD _⟩ ?_ ?_ ?_
 ·rintro j HJ hj ⟨ys,hy,ta,sJ⟩
  exact SqL.of (sJ _ _ t15.hl)
 ·rintro j v HJ hv ⟨ys,hy,ta,sJ⟩
  have jl:=(List.getElem?_eq_some_iff.mp hv).1
  have er:rs[j]? = some (rs[j]'(by rw [← lx]; exact jl)):=List.getElem?_eq_getElem _
  obtain ⟨k15,a,rfl,sa⟩:=ra15.2 j v _ hv er
  have sa':=sa.same sJ
  obtain ⟨da,ea,la⟩:=id sa'
  have yl:ys.length = j:=by rw [ta.1,List.length_take]; omega
  refine ⟨_,rfl,a,_,da,_,_,_,rfl,ea,nOf_told k15,(MT _ k15).mono (by decide),a,_,_,rfl,List.mem_singleton.mpr rfl,sa',fun r hr'=>?_⟩
  have s1:=same_new hr' (.tup (.str (wOf (rs[j]'(by rw [← lx]; exact jl)).1) :: (rs[j]'(by rw [← lx]; exact jl)).2))
  refine ⟨ys,s1 _ _ hy,by omega,_,(show xs.length - (j + 1) < _ by omega),rfl,(by omega),ys ++ [.ref r],upd_same,?_,Same.updL (sJ.trans s1) hD⟩
  rw [List.take_add_one,er,Option.toList_some]
  refine ((ta.same fun b xs e=>s1 _ _ e).snoc upd_same).same fun b xs e=>?_
  rw [upd_ne fun z=>by rw [z,s1 _ _ hy] at e; cases e]
  exact e
 ·rintro HJ ⟨zs,hy,ta,sJ⟩
  rw [lx,List.take_length] at ta
  have tJ:=t15.same sJ
  refine ⟨_,rfl,D,ld,_,_,fun _=>true,rfl,rfl,SqL.of hy,SqL.of tJ.hd,by rw [ta.1,tJ.ta.1],eqTold ta tJ.ta ff',?_⟩
  rw [aT]
  exact fin HJ (((S10.trans S13).trans s14).trans (s15.trans sJ))
theorem join0s:∀ ys:List Str,(Str.join ⟨#[]⟩ ys).cps.toList = (ys.map (·.cps.toList)).flatten
 | []=>rfl
 | [y]=>by show y.cps.toList = _; simp
 | y :: z :: r=>by
  rw [List.map_cons,List.flatten_cons,← join0s (z :: r)]
  show ((y.cps ++ #[]) ++ (Str.join ⟨#[]⟩ (z :: r)).cps).toList = _
  simp
theorem join0 (ys:List Str):(Txt.join ⟨#[]⟩ ys).cps.toList = (ys.map (·.cps.toList)).flatten:=by
 rw [← join0s]
 show (Builtin.Str.glued ⟨#[]⟩ ys).cps.toList = _
 rw [PySem.StrLaws.glued_eq_join]
theorem nreg_mem {z:Str} {n:Nat} (h:n ∈ z.cps.toList) (b:inS LF ⟨#[n]⟩ = false):isReg (.str z) = false:=by
 cases e:isReg (.str z) with
 | false=>rfl
 | true =>
  have e:(decide (1≤z.length) && decide (z.length≤8) && (match z.cps[0]? with | some n=>inS LT ⟨#[n]⟩ | none=>false) && z.cps.toList.all fun n=>inS LF ⟨#[n]⟩) = true:=e
  rw [Bool.and_eq_true] at e
  have:=List.all_eq_true.mp e.2 n h
  rw [b] at this
  cases this
theorem nreg_fst {z:Str} {n:Nat} (h:z.cps[0]? = some n) (b:inS LT ⟨#[n]⟩ = false):isReg (.str z) = false:=by
 cases e:isReg (.str z) with
 | false=>rfl
 | true =>
  have e:(decide (1≤z.length) && decide (z.length≤8) && (match z.cps[0]? with | some n=>inS LT ⟨#[n]⟩ | none=>false) && z.cps.toList.all fun n=>inS LF ⟨#[n]⟩) = true:=e
  rw [Bool.and_eq_true,Bool.and_eq_true,h] at e
  have e2:inS LT ⟨#[n]⟩ = true:=e.1.2
  rw [b] at e2
  cases e2
theorem nreg_len {z:Str} (h:8 < z.length):isReg (.str z) = false:=by
 show (decide (1≤z.length) && decide (z.length≤8) && (match z.cps[0]? with | some n=>inS LT ⟨#[n]⟩ | none=>false) && z.cps.toList.all fun n=>inS LF ⟨#[n]⟩) = false
 rw [decide_eq_false (show ¬ z.length≤8 by omega),Bool.and_false,Bool.false_and,Bool.false_and]
def oneS (ns:List Nat):List Str:=ns.map fun n=>⟨#[n]⟩
theorem join_one (ns:List Nat):(Txt.join ⟨#[]⟩ (oneS ns)).cps.toList = ns:=by
 rw [join0,oneS,List.map_map]
 induction ns with
 | nil=>rfl
 | cons n r ih=>rw [List.map_cons,List.flatten_cons,ih]; rfl
theorem one_len (ns:List Nat):((oneS ns).map (·.length)).sum = ns.length:=by
 rw [oneS,List.map_map]
 induction ns with
 | nil=>rfl
 | cons n r ih=>rw [List.map_cons,List.sum_cons,ih,List.length_cons]; show 1 + r.length = _; omega
theorem rg_join {ns:List Nat} (h1:1≤ns.length) (h2:∀ n ∈ ns,inS LF ⟨#[n]⟩ = true) (h3:∀ n,ns[0]? = some n→inS LT ⟨#[n]⟩ = true):RgA (Txt.join ⟨#[]⟩ (oneS ns))∧(Txt.join ⟨#[]⟩ (oneS ns)).length = ns.length:=by
 have e:=join_one ns
 have l:(Txt.join ⟨#[]⟩ (oneS ns)).length = ns.length:=by
  show (Txt.join ⟨#[]⟩ (oneS ns)).cps.size = _
  rw [← Array.length_toList,e]
 refine ⟨⟨by omega,fun n hn=>h3 n ?_,fun n hn=>h2 n (by rw [e] at hn; exact hn)⟩,l⟩
 rw [← Array.getElem?_toList,e] at hn
 exact hn
theorem strL (a b:Str):(a ++ b:Str).length = a.length + b.length:=by show (a.cps ++ b.cps).size = _; rw [Array.size_append]; rfl
theorem strM (a b:Str):(a ++ b:Str).cps.toList = a.cps.toList ++ b.cps.toList:=by show (a.cps ++ b.cps).toList = _; rw [Array.toList_append]
def bads17 (la tb dc:Addr):List V:=[.str "",.str "A",.str "1a",.str "abcdefghi",.str "a b",.str "a-",.str "aB",.str " a",.str "a_",.int 3,.bl true,.ref la,.ref tb,.ref dc,.str "-",.non,.str "a "]
theorem bad_all {H:Hp} {la tb dc:Addr} {z u v:Str} {xs ys:List V} (ha:H la = some (.lst xs)) (hb:H tb = some (.tup ys)) (hc:H dc = some (.dK [])) (z1:1≤z.length) (z8:z.length≤8) (u8:u.length≤8) (v8:v.length≤8):∀ x ∈ bads17 la tb dc ++ [.str (z ++ ("_":Str)),.str (("0":Str) ++ u),.str (z ++ ("abcdefgh":Str)),.str (v ++ (" ":Str))],Th H x∧(∀ z,x = .str z→z.length≤sizeLine)∧isReg x = false:=by
 have L1000:(1000:Nat)≤sizeLine:=by decide
 exact allV (Pr:=fun x=>Th H x∧(∀ z,x = .str z→z.length≤sizeLine)∧isReg x = false) (show AllV _ (bads17 la tb dc ++ _) from ⟨⟨.str _,(fun z e=>by cases e; decide +kernel),by decide +kernel⟩,
  ⟨.str _,(fun z e=>by cases e; decide +kernel),by decide +kernel⟩,
  ⟨.str _,(fun z e=>by cases e; decide +kernel),by decide +kernel⟩,
  ⟨.str _,(fun z e=>by cases e; decide +kernel),by decide +kernel⟩,
  ⟨.str _,(fun z e=>by cases e; decide +kernel),by decide +kernel⟩,
  ⟨.str _,(fun z e=>by cases e; decide +kernel),by decide +kernel⟩,
  ⟨.str _,(fun z e=>by cases e; decide +kernel),by decide +kernel⟩,
  ⟨.str _,(fun z e=>by cases e; decide +kernel),by decide +kernel⟩,
  ⟨.str _,(fun z e=>by cases e; decide +kernel),by decide +kernel⟩,
  ⟨.int _,(fun z e=>by cases e),rfl⟩,
  ⟨.bl _,(fun z e=>by cases e),rfl⟩,
  ⟨.lst ha,(fun z e=>by cases e),rfl⟩,
  ⟨.tup hb,(fun z e=>by cases e),rfl⟩,
  ⟨.dct hc,(fun z e=>by cases e),rfl⟩,
  ⟨.str _,(fun z e=>by cases e; decide +kernel),by decide +kernel⟩,
  ⟨.non,(fun z e=>by cases e),rfl⟩,
  ⟨.str _,(fun z e=>by cases e; decide +kernel),by decide +kernel⟩,
  ⟨.str _,(fun z e=>by cases e; rw [strL]; show _ + 1≤_; omega),nreg_mem (n:=95) (by rw [strM]; exact List.mem_append_right _ (by decide +kernel)) (by decide +kernel)⟩,
  ⟨.str _,(fun z e=>by cases e; rw [strL]; show 1 + _≤_; omega),nreg_fst (n:=48) (by show (_ ++ _:Array Nat)[0]? = _; rw [Array.getElem?_append_left (by decide +kernel)]; decide +kernel) (by decide +kernel)⟩,
  ⟨.str _,(fun z e=>by cases e; rw [strL]; show _ + 8≤_; omega),nreg_len (by rw [strL]; show 8 < _ + 8; omega)⟩,
  ⟨.str _,(fun z e=>by cases e; rw [strL]; show _ + 1≤_; omega),nreg_mem (n:=32) (by rw [strM]; exact List.mem_append_right _ (by decide +kernel)) (by decide +kernel)⟩,trivial⟩)
theorem ok__law_names_told {f:Addr} {fd:FuncData} (F:Fun K "_law_names_told" "_law_names_told" s__law_names_told f fd) (T:Txt K mg c) (H_is_register:Has P w K mg base 1 "is_register" ["thing"] spReg) (H__law_draw:Has P w K mg base 1 "_law_draw" ["_law_state", "_law_many"] spTake3):FnOk P w K mg base CX0 2 f fd ["_law_state", "_law_names_here"] spNTold:=by
 refine F.ok sc__law_names_told (fun vs H Q E h=>?_) (fun cdv A outer s H vs Q E hr h=>?_)
 ·obtain ⟨p,l,zs,rfl,_⟩:=h
  rfl
 obtain ⟨p,l,zs,rfl,b,nm,nl,q⟩:=h
 refine slE ⟨_,(pss_consZ (slIn (ps_set (i:=2) sc__law_names_told.nd rfl (Or.inr rfl) pe_str))
  (pss_consZ (slIn (ps_set (i:=3) sc__law_names_told.nd rfl (Or.inl rfl) (pe_bm PySem.F.plainAttrs_str PySem.F.slot_str_join PySem.F.type_str_join mt_join pe_str (pa_cons (pe_compC [0,2] ["_law_state", "_law_signs"] rfl (by first | rfl | with_unfolding_all rfl) (by rfl) (by exact (List.forall_mem_cons.mpr ⟨rfl,(List.forall_mem_cons.mpr ⟨rfl,(fun _ h=>nomatch h)⟩)⟩)) (by decide +kernel) rfl (by decide +kernel) rfl (by decide +kernel) (by exact (List.forall_mem_cons.mpr ⟨⟨by first | exact Or.inl rfl | exact Or.inr rfl,rfl⟩,(List.forall_mem_cons.mpr ⟨⟨by first | exact Or.inl rfl | exact Or.inr rfl,rfl⟩,(fun _ h=>nomatch h)⟩)⟩)) rfl (by rfl) (pi_range1 rfl T.n_range (pa_cons (pe_op op_add pe_int (pe_fn H__law_draw (hr.mono (by omega)) rfl (pa_cons (pv 0) (pa_cons pe_int pa_nil)))) pa_nil)) (fun C s2 H2 fp=>(pe_ix ix_str (pv 2) (pe_fn H__law_draw (hr.mono (by omega)) rfl (pa_cons (pv 1) (pa_cons (pe_op op_add pe_int (pe_op op_mul pe_int (pe_callTy call_int1 rfl T.n_int boot_int (pa_cons (pe_cmpR op_gt (pv 0) pe_int (nomark _)) pa_nil)))) pa_nil))) (fun _ _=>rfl)))) pa_nil))))
  (pss_consZ (ps_setS (i:=4) sc__law_names_told.nd rfl (Or.inl rfl) (pe_lstS (pa_consS pe_str (pa_consS pe_str (pa_consS pe_str (pa_consS pe_str (pa_consS pe_str (pa_consS pe_str (pa_consS pe_str (pa_consS pe_str (pa_consS pe_str (pa_consS pe_int (pa_consS pe_bl (pa_consZ (pe_lstS (pa_consS pe_str pa_nilS)) (pa_consZ (pe_tupZ (pa_consS pe_str pa_nilS)) (pa_consS pe_dnewK (pa_consS pe_str (pa_consS pe_non (pa_consS pe_str pa_nilS)))))))))))))))))))
  (pss_consZ (ps_setS (i:=4) sc__law_names_told.nd rfl (Or.inl rfl) (pe_opZ op_addL (slIn (pv 4)) (pe_lstS (pa_consS (pe_op op_add_str (pv 3) pe_str) (pa_consS (pe_op op_add_str pe_str (pe_slice sl_str (pv 3) (po_some pe_int) po_none)) (pa_consS (pe_op op_add_str (pv 3) pe_str) (pa_consS (pe_op op_add_str (pe_slice sl_str (pv 3) po_none (po_some pe_int)) pe_str) pa_nilS)))))))
  (pss_consZ (ps_forZ PassesOwn.never rfl (pi_list (pe_op op_addL (pv 1) (pe_lst (pa_cons (pv 3) (pa_cons pe_str (pa_cons pe_str pa_nil)))))) (pg_name (i:=5) sc__law_names_told.nd rfl (Or.inl rfl))
   (pss_oneZ (ps_ifZ (PW.pt (pw_or (pt_not (pt_val (pe_callB call_isinst rfl T.n_isinstance boot_isinstance (pa_cons (pe_fn H_is_register (hr.mono (by omega)) rfl (pa_cons (pv 5) pa_nil)) (pa_cons (pe_ty rfl T.n_bool boot_bool) pa_nil))))) (pw_or1 (pt_not (pt_val (pe_fn H_is_register (hr.mono (by omega)) rfl (pa_cons (pv 5) pa_nil)))))))
    (pss_oneZ (slIn (ps_ret pe_bl)))
    pss_nilZ)))
  (pss_consZ (ps_forZ PassesOwn.never rfl (pi_list (pv 4)) (pg_name (i:=6) sc__law_names_told.nd rfl (Or.inl rfl))
   (pss_oneZ (ps_ifZ (PW.pt (pw_or (pt_not (pt_val (pe_callB call_isinst rfl T.n_isinstance boot_isinstance (pa_cons (pe_fn H_is_register (hr.mono (by omega)) rfl (pa_cons (pv 6) pa_nil)) (pa_cons (pe_ty rfl T.n_bool boot_bool) pa_nil))))) (pw_or1 (pt_val (pe_fn H_is_register (hr.mono (by omega)) rfl (pa_cons (pv 6) pa_nil))))))
    (pss_oneZ (slIn (ps_ret pe_bl)))
    pss_nilZ)))
  (pss_oneZ (slIn (ps_ret (pe_fn H_is_register (hr.mono (by omega)) rfl (pa_cons (pv 3) pa_nil))))))))))),?_⟩
 have L1000:(1000:Nat)≤sizeLine:=by decide
 refine ⟨rfl,_,rfl,p,_,rfl,b,by decide,by decide,fun d H1 d0 d1 b1 x1=>⟨_,_,rfl,rfl,_,rfl,by omega,by omega,fun D hD=>?_⟩⟩
 have nD:=b1.ne hD
 refine comp_rng (n:=(1 + d).toNat) (fun j HJ=>∃ ns:List Nat,HJ D = some (.lst ((oneS ns).map V.str))∧ns.length = j∧(∀ n ∈ ns,inS LF ⟨#[n]⟩ = true)∧(∀ n,ns[0]? = some n→inS LT ⟨#[n]⟩ = true)∧Box HJ p∧SameX p H1 HJ) ⟨[],upd_same,rfl,(fun n h=>nomatch h),(fun n h=>nomatch h),b1.same (same_new hD _),SameX.of (same_new hD _)⟩ ?_ ?_
 ·rintro j HJ hj ⟨ns,hy,hn,h2,h3,bJ,xJ⟩
  refine ⟨_,rfl,_,rfl,_,rfl,_,_,rfl,rfl,.inr ⟨_,rfl,_,_,rfl,rfl,.inl ⟨by decide,by decide⟩,_,_,rfl,rfl,?_⟩⟩
  refine ⟨p,_,rfl,bJ,(by split <;> omega),(by split <;> omega),fun e G e0 e1 bG xG=>?_⟩
  have e36:e < 36:=by revert e1; split <;> omega
  have e26:j = 0→e < 26:=fun hj0=>by
   subst hj0
   rw [show decide ((0:Int) < 0 + ((0:Nat):Int)) = false from rfl] at e1
   exact e1
  obtain ⟨n,en,g1,g2⟩:=lfI e0 e36
  refine ⟨LF,_,n,rfl,rfl,(by show 36≤sizeLine; omega),en,?_⟩
  refine ⟨_,xG _ _ nD hy,(by rw [List.length_map,oneS,List.length_map]; omega),_,(show (1 + d).toNat - (j + 1) < _ by omega),rfl,(by omega),ns ++ [n],?_,(by rw [List.length_append,hn]; rfl),?_,?_,?_,?_⟩
  ·rw [upd_same,oneS,oneS,List.map_append,List.map_append]; rfl
  ·intro m hm
   rcases List.mem_append.mp hm with hm | hm
   ·exact h2 m hm
   ·rw [List.mem_singleton.mp hm]; exact g1
  ·intro m hm
   cases ns with
   | nil=>cases hm; exact g2 (e26 (by rw [← hn]; rfl))
   | cons a r=>exact h3 m hm
  ·obtain ⟨a1,a2,a3,e'⟩:=bG
   exact ⟨a1,a2,a3,by rw [upd_ne (Ne.symm nD)]; exact e'⟩
  ·intro b' o hb e'
   rw [upd_ne (ne_of_none e' hD)]
   exact xG _ _ hb (xJ _ _ hb e')
 rintro HJ ⟨ns,hy,hn,h2,h3,bJ,xJ⟩
 obtain ⟨rg,lz⟩:=rg_join (ns:=ns) (by omega) h2 h3
 refine ⟨⟨#[]⟩,D,oneS ns,rfl,rfl,SqL.of hy,(by rw [one_len]; show ns.length + (oneS ns).length * 0≤16777216; omega),?_⟩
 generalize Txt.join ⟨#[]⟩ (oneS ns) = z at rg lz ⊢
 have z8:z.length≤8:=by omega
 have z1:=rg.n1
 have X1:SameX p H HJ:=x1.trans xJ
 have nmJ:=nm.sx X1 nl
 clear hy h2 h3 xJ nD hD b1 x1 b nm
 refine ⟨(by show 1≤sizeLine; decide),fun la hla=>?_⟩
 obtain ⟨G1,w1,s1,f1⟩:=newO hla (.lst [.str "a"])
 rw [show upd HJ la (.lst [.str "a"]) = G1 from w1]
 refine ⟨(by show 1≤sizeLine; decide),fun tb htb=>?_⟩
 obtain ⟨G2,w2,s2,f2⟩:=newO htb (.tup [.str "a"])
 rw [show upd G1 tb (.tup [.str "a"]) = G2 from w2]
 intro dc hdc
 obtain ⟨G3,w3,s3,f3⟩:=newO hdc (.dK [])
 rw [show upd G2 dc (.dK []) = G3 from w3]
 refine ⟨(by show 17≤sizeLine; decide),fun lb hlb=>?_⟩
 obtain ⟨G4,w4,s4,f4⟩:=newO hlb (.lst (bads17 la tb dc))
 rw [show upd G3 lb (.lst [.str "",.str "A",.str "1a",.str "abcdefghi",.str "a b",.str "a-",.str "aB",.str " a",.str "a_",.int 3,.bl true,.ref la,.ref tb,.ref dc,.str "-",.non,.str "a "]) = G4 from w4]
 have S4:Same HJ G4:=(s1.trans s2).trans (s3.trans s4)
 have sl1:=Txt.slice_le z (some 1) none
 have sl3:=Txt.slice_le z none (some 3)
 refine ⟨_,rfl,_,rfl,_,_,rfl,rfl,(by show z.length + 1≤sizeLine; omega),?_⟩
 refine ⟨_,rfl,_,rfl,z,rfl,by omega,_,_,rfl,rfl,(by show 1 + (Txt.slice z (some 1) none).length≤sizeLine; omega),?_⟩
 refine ⟨_,rfl,_,_,rfl,rfl,(by show z.length + 8≤sizeLine; omega),?_⟩
 refine ⟨_,rfl,_,rfl,z,rfl,by omega,_,_,rfl,rfl,(by show (Txt.slice z none (some 3)).length + 1≤sizeLine; omega),?_⟩
 refine ⟨(by show 4≤sizeLine; decide),fun lc hlc=>?_⟩
 obtain ⟨G5,w5,s5,f5⟩:=newO hlc (.lst [.str (z ++ ("_":Str)),.str (("0":Str) ++ Txt.slice z (some 1) none),.str (z ++ ("abcdefgh":Str)),.str (Txt.slice z none (some 3) ++ (" ":Str))])
 rw [show upd G4 lc (.lst [.str (z ++ ("_":Str)),.str (("0":Str) ++ Txt.slice z (some 1) none),.str (z ++ ("abcdefgh":Str)),.str (Txt.slice z none (some 3) ++ (" ":Str))]) = G5 from w5]
 refine ⟨lb,lc,_,_,rfl,rfl,SqL.of (s5 _ _ f4),SqL.of f5,(by show 17 + 4≤sizeLine; omega),fun le hle=>?_⟩
 obtain ⟨G6,w6,s6,f6⟩:=newO hle (.lst (bads17 la tb dc ++ [.str (z ++ ("_":Str)),.str (("0":Str) ++ Txt.slice z (some 1) none),.str (z ++ ("abcdefgh":Str)),.str (Txt.slice z none (some 3) ++ (" ":Str))]))
 rw [w6]
 have S6:Same HJ G6:=S4.trans (s5.trans s6)
 have s36:Same G3 G6:=s4.trans (s5.trans s6)
 have bad:=bad_all (H:=G6) (z:=z) (u:=Txt.slice z (some 1) none) (v:=Txt.slice z none (some 3)) (s36 _ _ (s3 _ _ (s2 _ _ f1))) (s36 _ _ (s3 _ _ f2)) (s36 _ _ f3) z1 z8 (by omega) (by omega)
 generalize bads17 la tb dc ++ [.str (z ++ ("_":Str)),.str (("0":Str) ++ Txt.slice z (some 1) none),.str (z ++ ("abcdefgh":Str)),.str (Txt.slice z none (some 3) ++ (" ":Str))] = bs at f6 bad ⊢
 refine ⟨_,rfl,_,rfl,(by show 3≤sizeLine; decide),fun lf hlf=>?_⟩
 have s7:=same_new hlf (.lst [.str z,.str "a",.str "z9999999"])
 have f7:upd G6 lf (.lst [.str z,.str "a",.str "z9999999"]) lf = some (.lst [.str z,.str "a",.str "z9999999"]):=upd_same
 generalize upd G6 lf (.lst [.str z,.str "a",.str "z9999999"]) = G7 at s7 f7 ⊢
 refine ⟨l,lf,_,_,rfl,rfl,SqL.of (s7 _ _ (S6 _ _ nmJ.1)),SqL.of f7,(by have:=nmJ.2.2.1; rw [List.length_map]; show zs.length + 3≤sizeLine; omega),fun lg hlg=>?_⟩
 obtain ⟨G8,w8,s8,f8⟩:=newO hlg (.lst (zs.map V.str ++ [.str z,.str "a",.str "z9999999"]))
 rw [w8]
 have S8:Same G6 G8:=s7.trans s8
 have good:∀ v ∈ zs.map V.str ++ [.str z,.str "a",.str "z9999999"],∃ y,v = .str y∧RgA y∧y.length≤8:=fun v hv=>by
  rcases List.mem_append.mp hv with hv | hv
  ·obtain ⟨y,hy,rfl⟩:=List.mem_map.mp hv
   exact ⟨y,rfl,nmJ.2.2.2 y hy⟩
  ·exact allV (Pr:=fun v=>∃ y,v = .str y∧RgA y∧y.length≤8) (show AllV _ [V.str z,.str "a",.str "z9999999"] from ⟨⟨z,rfl,rg,z8⟩,⟨_,rfl,regB_ok (by decide +kernel)⟩,⟨_,rfl,regB_ok (by decide +kernel)⟩,trivial⟩) v hv
 refine ⟨lg,rfl,⟨_,SqL.of f8⟩,for_list (xs:=zs.map V.str ++ [.str z,.str "a",.str "z9999999"]) (fun i σ G=>∃ y5 y6:Option V,σ = [some (.ref p),some (.ref l),some (.str LF),some (.str z),some (.ref le),y5,y6]∧Same G8 G) ⟨_,_,rfl,Same.refl _⟩ ?_ ?_ ?_⟩
 ·rintro i σ G hi ⟨y5,y6,rfl,sG⟩
  exact SqL.of (sG _ _ f8)
 ·rintro i v σ G hi ⟨y5,y6,rfl,sG⟩
  obtain ⟨y,rfl,ry,y8⟩:=good v (List.mem_of_getElem? hi)
  refine ⟨_,rfl,.str y,rfl,.str _,(fun z' e=>by cases e; omega),fun Ga sa=>?_⟩
  refine ⟨_,_,_,_,_,rfl,rfl,TyOf.bl _,kit_bl_bl _,_,rfl,iteF ?_⟩
  refine ⟨_,rfl,.str y,rfl,.str _,(fun z' e=>by cases e; omega),fun Gb sb=>?_⟩
  rw [ry.reg y8]
  exact ⟨_,rfl,iteF ⟨_,_,rfl,sG.trans (sa.trans sb)⟩⟩
 rintro σ G9 ⟨y5,y6,rfl,s9⟩
 have S9:Same G6 G9:=S8.trans s9
 refine ⟨_,rfl,le,rfl,⟨_,SqL.of (S9 _ _ f6)⟩,for_list (xs:=bs) (fun i σ G=>∃ y6:Option V,σ = [some (.ref p),some (.ref l),some (.str LF),some (.str z),some (.ref le),y5,y6]∧Same G6 G) ⟨_,rfl,S9⟩ ?_ ?_ ?_⟩
 ·rintro i σ G hi ⟨y6,rfl,sG⟩
  exact SqL.of (sG _ _ f6)
 ·rintro i v σ G hi ⟨y6,rfl,sG⟩
  obtain ⟨th,sz,nr⟩:=bad v (List.mem_of_getElem? hi)
  refine ⟨_,rfl,v,rfl,th.same sG,sz,fun Ga sa=>?_⟩
  refine ⟨_,_,_,_,_,rfl,rfl,TyOf.bl _,kit_bl_bl _,_,rfl,iteF ?_⟩
  refine ⟨_,rfl,v,rfl,th.same (sG.trans sa),sz,fun Gb sb=>?_⟩
  rw [nr]
  exact ⟨_,rfl,iteF ⟨_,rfl,sG.trans (sa.trans sb)⟩⟩
 rintro σ G10 ⟨y6,rfl,s10⟩
 refine ⟨_,rfl,.str z,rfl,.str _,(fun z' e=>by cases e; omega),fun Ga sa=>?_⟩
 rw [rg.reg z8]
 have SZ:=S6.trans (s10.trans sa)
 exact q Ga (bJ.same SZ) (X1.trans (SameX.of SZ))
end
theorem all_mk {l:PySem.W.OpenLaw} {w:World} {K:PySem.W.Frag} {h:Heap} {mg:Str→Option Value} {fa f1 f2 f3 f4 f5 f6 f7 f8 f9 f10 f11 f12 f13 f14 f15 f16 f17 f18 f19 f20 f21 f22 f23 f24 f25 f26 f27 f28 f29 f30 f31 f32 f33 f34 f35 f36 f37 f38 f39 f40 f41 f42 f43 f44 f45 f46 f47 f48 f49 f50 c_Set c_Copy c_Sum c_Gap c_Low c_High c_Left c_Right c_Slide c_And c_Or c_Unlike c_Under c_Pick c_Mark c_Turns c_Step:Addr} (X:K.In h) (G:h.Ns mainGlobals mg) (hfa:mg "law" = some (.ref fa))
  {od1 an1 od2 an2 od3 an3 od4 an4 od5 an5 od6 an6 od7 an7 od8 an8 od9 an9 od10 an10 od11 an11 od12 an12 od13 an13 od14 an14 od15 an15 od16 an16 od17 an17 od18 an18 od19 an19 od20 an20 od21 an21 od22 an22 od23 an23 od24 an24 od25 an25 od26 an26 od27 an27 od28 an28 od29 an29 od30 an30 od31 an31 od32 an32 od33 an33 od34 an34 od35 an35 od36 an36 od37 an37 od38 an38 od39 an39 od40 an40 od41 an41 od42 an42 od43 an43 od44 an44 od45 an45 od46 an46 od47 an47 od48 an48 od49 an49 od50 an50:Option Addr} {sl1 sl2 sl3 sl4 sl5 sl6 sl7 sl8 sl9 sl10 sl11 sl12 sl13 sl14 sl15 sl16 sl17 sl18 sl19 sl20 sl21 sl22 sl23 sl24 sl25 sl26 sl27 sl28 sl29 sl30 sl31 sl32 sl33 sl34 sl35 sl36 sl37 sl38 sl39 sl40 sl41 sl42 sl43 sl44 sl45 sl46 sl47 sl48 sl49 sl50:Array (Option Value)} {oc1 kV1 dc1 pm1 cd1 ct1 oc2 kV2 dc2 pm2 cd2 ct2 oc3 kV3 dc3 pm3 cd3 ct3 oc4 kV4 dc4 pm4 cd4 ct4 oc5 kV5 dc5 pm5 cd5 ct5 oc6 kV6 dc6 pm6 cd6 ct6 oc7 kV7 dc7 pm7 cd7 ct7 oc8 kV8 dc8 pm8 cd8 ct8 oc9 kV9 dc9 pm9 cd9 ct9 oc10 kV10 dc10 pm10 cd10 ct10 oc11 kV11 dc11 pm11 cd11 ct11 oc12 kV12 dc12 pm12 cd12 ct12 oc13 kV13 dc13 pm13 cd13 ct13 oc14 kV14 dc14 pm14 cd14 ct14 oc15 kV15 dc15 pm15 cd15 ct15 oc16 kV16 dc16 pm16 cd16 ct16 oc17 kV17 dc17 pm17 cd17 ct17 oc18 kV18 dc18 pm18 cd18 ct18 oc19 kV19 dc19 pm19 cd19 ct19 oc20 kV20 dc20 pm20 cd20 ct20 oc21 kV21 dc21 pm21 cd21 ct21 oc22 kV22 dc22 pm22 cd22 ct22 oc23 kV23 dc23 pm23 cd23 ct23 oc24 kV24 dc24 pm24 cd24 ct24 oc25 kV25 dc25 pm25 cd25 ct25 oc26 kV26 dc26 pm26 cd26 ct26 oc27 kV27 dc27 pm27 cd27 ct27 oc28 kV28 dc28 pm28 cd28 ct28 oc29 kV29 dc29 pm29 cd29 ct29 oc30 kV30 dc30 pm30 cd30 ct30 oc31 kV31 dc31 pm31 cd31 ct31 oc32 kV32 dc32 pm32 cd32 ct32 oc33 kV33 dc33 pm33 cd33 ct33 oc34 kV34 dc34 pm34 cd34 ct34 oc35 kV35 dc35 pm35 cd35 ct35 oc36 kV36 dc36 pm36 cd36 ct36 oc37 kV37 dc37 pm37 cd37 ct37 oc38 kV38 dc38 pm38 cd38 ct38 oc39 kV39 dc39 pm39 cd39 ct39 oc40 kV40 dc40 pm40 cd40 ct40 oc41 kV41 dc41 pm41 cd41 ct41 oc42 kV42 dc42 pm42 cd42 ct42 oc43 kV43 dc43 pm43 cd43 ct43 oc44 kV44 dc44 pm44 cd44 ct44 oc45 kV45 dc45 pm45 cd45 ct45 oc46 kV46 dc46 pm46 cd46 ct46 oc47 kV47 dc47 pm47 cd47 ct47 oc48 kV48 dc48 pm48 cd48 ct48 oc49 kV49 dc49 pm49 cd49 ct49 oc50 kV50 dc50 pm50 cd50 ct50:Value}
  (a1:PySem.W.nsIn K mainGlobals "is_register" = some (some (.ref f1)))
  (l1:K.lookup f1 = some ⟨oc1,od1,.func (PySem.W.fnOf "is_register" "is_register" (defArgs s_is_register) (defBody s_is_register) (defScope s_is_register) .none kV1 dc1 pm1 an1 cd1 ct1),sl1⟩) (c1:PySem.W.codeIn K cd1 "is_register" = true) (k1:PySem.W.keepIn K (.ref f1) = true)
  (a2:PySem.W.findIn K (.ref c_Set) "word" = some (some (.ref f2))) (i2:PySem.W.isFn K (.ref f2) = true)
  (l2:K.lookup f2 = some ⟨oc2,od2,.func (PySem.W.fnOf "word" "Set.word" (defArgs s_Set_word) (defBody s_Set_word) (defScope s_Set_word) .none kV2 dc2 pm2 an2 cd2 ct2),sl2⟩) (c2:PySem.W.codeIn K cd2 "Set.word" = true) (k2:PySem.W.keepIn K (.ref f2) = true)
  (a3:PySem.W.findIn K (.ref c_Copy) "word" = some (some (.ref f3))) (i3:PySem.W.isFn K (.ref f3) = true)
  (l3:K.lookup f3 = some ⟨oc3,od3,.func (PySem.W.fnOf "word" "Copy.word" (defArgs s_Copy_word) (defBody s_Copy_word) (defScope s_Copy_word) .none kV3 dc3 pm3 an3 cd3 ct3),sl3⟩) (c3:PySem.W.codeIn K cd3 "Copy.word" = true) (k3:PySem.W.keepIn K (.ref f3) = true)
  (a4:PySem.W.findIn K (.ref c_Sum) "word" = some (some (.ref f4))) (i4:PySem.W.isFn K (.ref f4) = true)
  (l4:K.lookup f4 = some ⟨oc4,od4,.func (PySem.W.fnOf "word" "Sum.word" (defArgs s_Sum_word) (defBody s_Sum_word) (defScope s_Sum_word) .none kV4 dc4 pm4 an4 cd4 ct4),sl4⟩) (c4:PySem.W.codeIn K cd4 "Sum.word" = true) (k4:PySem.W.keepIn K (.ref f4) = true)
  (a5:PySem.W.findIn K (.ref c_Gap) "word" = some (some (.ref f5))) (i5:PySem.W.isFn K (.ref f5) = true)
  (l5:K.lookup f5 = some ⟨oc5,od5,.func (PySem.W.fnOf "word" "Gap.word" (defArgs s_Gap_word) (defBody s_Gap_word) (defScope s_Gap_word) .none kV5 dc5 pm5 an5 cd5 ct5),sl5⟩) (c5:PySem.W.codeIn K cd5 "Gap.word" = true) (k5:PySem.W.keepIn K (.ref f5) = true)
  (a6:PySem.W.findIn K (.ref c_Low) "word" = some (some (.ref f6))) (i6:PySem.W.isFn K (.ref f6) = true)
  (l6:K.lookup f6 = some ⟨oc6,od6,.func (PySem.W.fnOf "word" "Low.word" (defArgs s_Low_word) (defBody s_Low_word) (defScope s_Low_word) .none kV6 dc6 pm6 an6 cd6 ct6),sl6⟩) (c6:PySem.W.codeIn K cd6 "Low.word" = true) (k6:PySem.W.keepIn K (.ref f6) = true)
  (a7:PySem.W.findIn K (.ref c_High) "word" = some (some (.ref f7))) (i7:PySem.W.isFn K (.ref f7) = true)
  (l7:K.lookup f7 = some ⟨oc7,od7,.func (PySem.W.fnOf "word" "High.word" (defArgs s_High_word) (defBody s_High_word) (defScope s_High_word) .none kV7 dc7 pm7 an7 cd7 ct7),sl7⟩) (c7:PySem.W.codeIn K cd7 "High.word" = true) (k7:PySem.W.keepIn K (.ref f7) = true)
  (a8:PySem.W.findIn K (.ref c_Left) "word" = some (some (.ref f8))) (i8:PySem.W.isFn K (.ref f8) = true)
  (l8:K.lookup f8 = some ⟨oc8,od8,.func (PySem.W.fnOf "word" "Left.word" (defArgs s_Left_word) (defBody s_Left_word) (defScope s_Left_word) .none kV8 dc8 pm8 an8 cd8 ct8),sl8⟩) (c8:PySem.W.codeIn K cd8 "Left.word" = true) (k8:PySem.W.keepIn K (.ref f8) = true)
  (a9:PySem.W.findIn K (.ref c_Right) "word" = some (some (.ref f9))) (i9:PySem.W.isFn K (.ref f9) = true)
  (l9:K.lookup f9 = some ⟨oc9,od9,.func (PySem.W.fnOf "word" "Right.word" (defArgs s_Right_word) (defBody s_Right_word) (defScope s_Right_word) .none kV9 dc9 pm9 an9 cd9 ct9),sl9⟩) (c9:PySem.W.codeIn K cd9 "Right.word" = true) (k9:PySem.W.keepIn K (.ref f9) = true)
  (a10:PySem.W.findIn K (.ref c_Slide) "word" = some (some (.ref f10))) (i10:PySem.W.isFn K (.ref f10) = true)
  (l10:K.lookup f10 = some ⟨oc10,od10,.func (PySem.W.fnOf "word" "Slide.word" (defArgs s_Slide_word) (defBody s_Slide_word) (defScope s_Slide_word) .none kV10 dc10 pm10 an10 cd10 ct10),sl10⟩) (c10:PySem.W.codeIn K cd10 "Slide.word" = true) (k10:PySem.W.keepIn K (.ref f10) = true)
  (a11:PySem.W.findIn K (.ref c_And) "word" = some (some (.ref f11))) (i11:PySem.W.isFn K (.ref f11) = true)
  (l11:K.lookup f11 = some ⟨oc11,od11,.func (PySem.W.fnOf "word" "And.word" (defArgs s_And_word) (defBody s_And_word) (defScope s_And_word) .none kV11 dc11 pm11 an11 cd11 ct11),sl11⟩) (c11:PySem.W.codeIn K cd11 "And.word" = true) (k11:PySem.W.keepIn K (.ref f11) = true)
  (a12:PySem.W.findIn K (.ref c_Or) "word" = some (some (.ref f12))) (i12:PySem.W.isFn K (.ref f12) = true)
  (l12:K.lookup f12 = some ⟨oc12,od12,.func (PySem.W.fnOf "word" "Or.word" (defArgs s_Or_word) (defBody s_Or_word) (defScope s_Or_word) .none kV12 dc12 pm12 an12 cd12 ct12),sl12⟩) (c12:PySem.W.codeIn K cd12 "Or.word" = true) (k12:PySem.W.keepIn K (.ref f12) = true)
  (a13:PySem.W.findIn K (.ref c_Unlike) "word" = some (some (.ref f13))) (i13:PySem.W.isFn K (.ref f13) = true)
  (l13:K.lookup f13 = some ⟨oc13,od13,.func (PySem.W.fnOf "word" "Unlike.word" (defArgs s_Unlike_word) (defBody s_Unlike_word) (defScope s_Unlike_word) .none kV13 dc13 pm13 an13 cd13 ct13),sl13⟩) (c13:PySem.W.codeIn K cd13 "Unlike.word" = true) (k13:PySem.W.keepIn K (.ref f13) = true)
  (a14:PySem.W.findIn K (.ref c_Under) "word" = some (some (.ref f14))) (i14:PySem.W.isFn K (.ref f14) = true)
  (l14:K.lookup f14 = some ⟨oc14,od14,.func (PySem.W.fnOf "word" "Under.word" (defArgs s_Under_word) (defBody s_Under_word) (defScope s_Under_word) .none kV14 dc14 pm14 an14 cd14 ct14),sl14⟩) (c14:PySem.W.codeIn K cd14 "Under.word" = true) (k14:PySem.W.keepIn K (.ref f14) = true)
  (a15:PySem.W.findIn K (.ref c_Pick) "word" = some (some (.ref f15))) (i15:PySem.W.isFn K (.ref f15) = true)
  (l15:K.lookup f15 = some ⟨oc15,od15,.func (PySem.W.fnOf "word" "Pick.word" (defArgs s_Pick_word) (defBody s_Pick_word) (defScope s_Pick_word) .none kV15 dc15 pm15 an15 cd15 ct15),sl15⟩) (c15:PySem.W.codeIn K cd15 "Pick.word" = true) (k15:PySem.W.keepIn K (.ref f15) = true)
  (a16:PySem.W.findIn K (.ref c_Mark) "word" = some (some (.ref f16))) (i16:PySem.W.isFn K (.ref f16) = true)
  (l16:K.lookup f16 = some ⟨oc16,od16,.func (PySem.W.fnOf "word" "Mark.word" (defArgs s_Mark_word) (defBody s_Mark_word) (defScope s_Mark_word) .none kV16 dc16 pm16 an16 cd16 ct16),sl16⟩) (c16:PySem.W.codeIn K cd16 "Mark.word" = true) (k16:PySem.W.keepIn K (.ref f16) = true)
  (a17:PySem.W.findIn K (.ref c_Turns) "word" = some (some (.ref f17))) (i17:PySem.W.isFn K (.ref f17) = true)
  (l17:K.lookup f17 = some ⟨oc17,od17,.func (PySem.W.fnOf "word" "Turns.word" (defArgs s_Turns_word) (defBody s_Turns_word) (defScope s_Turns_word) .none kV17 dc17 pm17 an17 cd17 ct17),sl17⟩) (c17:PySem.W.codeIn K cd17 "Turns.word" = true) (k17:PySem.W.keepIn K (.ref f17) = true)
  (a18:PySem.W.findIn K (.ref c_Set) "__init__" = some (some (.ref f18))) (i18:PySem.W.isFn K (.ref f18) = true)
  (l18:K.lookup f18 = some ⟨oc18,od18,.func (PySem.W.fnOf "__init__" "Set.__init__" (defArgs s_Set___init__) (defBody s_Set___init__) (defScope s_Set___init__) .none kV18 dc18 pm18 an18 cd18 ct18),sl18⟩) (c18:PySem.W.codeIn K cd18 "Set.__init__" = true) (k18:PySem.W.keepIn K (.ref f18) = true)
  (a19:PySem.W.findIn K (.ref c_Copy) "__init__" = some (some (.ref f19))) (i19:PySem.W.isFn K (.ref f19) = true)
  (l19:K.lookup f19 = some ⟨oc19,od19,.func (PySem.W.fnOf "__init__" "Copy.__init__" (defArgs s_Copy___init__) (defBody s_Copy___init__) (defScope s_Copy___init__) .none kV19 dc19 pm19 an19 cd19 ct19),sl19⟩) (c19:PySem.W.codeIn K cd19 "Copy.__init__" = true) (k19:PySem.W.keepIn K (.ref f19) = true)
  (a20:PySem.W.findIn K (.ref c_Sum) "__init__" = some (some (.ref f20))) (i20:PySem.W.isFn K (.ref f20) = true) (h_Gap___init__:PySem.W.findIn K (.ref c_Gap) "__init__" = some (some (.ref f20)))
  (l20:K.lookup f20 = some ⟨oc20,od20,.func (PySem.W.fnOf "__init__" "Carrying.__init__" (defArgs s_Carrying___init__) (defBody s_Carrying___init__) (defScope s_Carrying___init__) .none kV20 dc20 pm20 an20 cd20 ct20),sl20⟩) (c20:PySem.W.codeIn K cd20 "Carrying.__init__" = true) (k20:PySem.W.keepIn K (.ref f20) = true)
  (a21:PySem.W.findIn K (.ref c_Low) "__init__" = some (some (.ref f21))) (i21:PySem.W.isFn K (.ref f21) = true) (h_High___init__:PySem.W.findIn K (.ref c_High) "__init__" = some (some (.ref f21))) (h_And___init__:PySem.W.findIn K (.ref c_And) "__init__" = some (some (.ref f21))) (h_Or___init__:PySem.W.findIn K (.ref c_Or) "__init__" = some (some (.ref f21))) (h_Unlike___init__:PySem.W.findIn K (.ref c_Unlike) "__init__" = some (some (.ref f21))) (h_Under___init__:PySem.W.findIn K (.ref c_Under) "__init__" = some (some (.ref f21)))
  (l21:K.lookup f21 = some ⟨oc21,od21,.func (PySem.W.fnOf "__init__" "Joining.__init__" (defArgs s_Joining___init__) (defBody s_Joining___init__) (defScope s_Joining___init__) .none kV21 dc21 pm21 an21 cd21 ct21),sl21⟩) (c21:PySem.W.codeIn K cd21 "Joining.__init__" = true) (k21:PySem.W.keepIn K (.ref f21) = true)
  (a22:PySem.W.findIn K (.ref c_Left) "__init__" = some (some (.ref f22))) (i22:PySem.W.isFn K (.ref f22) = true) (h_Right___init__:PySem.W.findIn K (.ref c_Right) "__init__" = some (some (.ref f22))) (h_Slide___init__:PySem.W.findIn K (.ref c_Slide) "__init__" = some (some (.ref f22)))
  (l22:K.lookup f22 = some ⟨oc22,od22,.func (PySem.W.fnOf "__init__" "Moving.__init__" (defArgs s_Moving___init__) (defBody s_Moving___init__) (defScope s_Moving___init__) .none kV22 dc22 pm22 an22 cd22 ct22),sl22⟩) (c22:PySem.W.codeIn K cd22 "Moving.__init__" = true) (k22:PySem.W.keepIn K (.ref f22) = true)
  (a23:PySem.W.findIn K (.ref c_Pick) "__init__" = some (some (.ref f23))) (i23:PySem.W.isFn K (.ref f23) = true)
  (l23:K.lookup f23 = some ⟨oc23,od23,.func (PySem.W.fnOf "__init__" "Pick.__init__" (defArgs s_Pick___init__) (defBody s_Pick___init__) (defScope s_Pick___init__) .none kV23 dc23 pm23 an23 cd23 ct23),sl23⟩) (c23:PySem.W.codeIn K cd23 "Pick.__init__" = true) (k23:PySem.W.keepIn K (.ref f23) = true)
  (a24:PySem.W.findIn K (.ref c_Mark) "__init__" = some (some (.ref f24))) (i24:PySem.W.isFn K (.ref f24) = true)
  (l24:K.lookup f24 = some ⟨oc24,od24,.func (PySem.W.fnOf "__init__" "Mark.__init__" (defArgs s_Mark___init__) (defBody s_Mark___init__) (defScope s_Mark___init__) .none kV24 dc24 pm24 an24 cd24 ct24),sl24⟩) (c24:PySem.W.codeIn K cd24 "Mark.__init__" = true) (k24:PySem.W.keepIn K (.ref f24) = true)
  (a25:PySem.W.findIn K (.ref c_Turns) "__init__" = some (some (.ref f25))) (i25:PySem.W.isFn K (.ref f25) = true)
  (l25:K.lookup f25 = some ⟨oc25,od25,.func (PySem.W.fnOf "__init__" "Turns.__init__" (defArgs s_Turns___init__) (defBody s_Turns___init__) (defScope s_Turns___init__) .none kV25 dc25 pm25 an25 cd25 ct25),sl25⟩) (c25:PySem.W.codeIn K cd25 "Turns.__init__" = true) (k25:PySem.W.keepIn K (.ref f25) = true)
  (a26:PySem.W.findIn K (.ref c_Set) "told" = some (some (.ref f26))) (i26:PySem.W.isFn K (.ref f26) = true)
  (l26:K.lookup f26 = some ⟨oc26,od26,.func (PySem.W.fnOf "told" "Set.told" (defArgs s_Set_told) (defBody s_Set_told) (defScope s_Set_told) .none kV26 dc26 pm26 an26 cd26 ct26),sl26⟩) (c26:PySem.W.codeIn K cd26 "Set.told" = true) (k26:PySem.W.keepIn K (.ref f26) = true)
  (a27:PySem.W.findIn K (.ref c_Copy) "told" = some (some (.ref f27))) (i27:PySem.W.isFn K (.ref f27) = true)
  (l27:K.lookup f27 = some ⟨oc27,od27,.func (PySem.W.fnOf "told" "Copy.told" (defArgs s_Copy_told) (defBody s_Copy_told) (defScope s_Copy_told) .none kV27 dc27 pm27 an27 cd27 ct27),sl27⟩) (c27:PySem.W.codeIn K cd27 "Copy.told" = true) (k27:PySem.W.keepIn K (.ref f27) = true)
  (a28:PySem.W.findIn K (.ref c_Sum) "told" = some (some (.ref f28))) (i28:PySem.W.isFn K (.ref f28) = true) (h_Gap_told:PySem.W.findIn K (.ref c_Gap) "told" = some (some (.ref f28)))
  (l28:K.lookup f28 = some ⟨oc28,od28,.func (PySem.W.fnOf "told" "Carrying.told" (defArgs s_Carrying_told) (defBody s_Carrying_told) (defScope s_Carrying_told) .none kV28 dc28 pm28 an28 cd28 ct28),sl28⟩) (c28:PySem.W.codeIn K cd28 "Carrying.told" = true) (k28:PySem.W.keepIn K (.ref f28) = true)
  (a29:PySem.W.findIn K (.ref c_Low) "told" = some (some (.ref f29))) (i29:PySem.W.isFn K (.ref f29) = true) (h_High_told:PySem.W.findIn K (.ref c_High) "told" = some (some (.ref f29))) (h_And_told:PySem.W.findIn K (.ref c_And) "told" = some (some (.ref f29))) (h_Or_told:PySem.W.findIn K (.ref c_Or) "told" = some (some (.ref f29))) (h_Unlike_told:PySem.W.findIn K (.ref c_Unlike) "told" = some (some (.ref f29))) (h_Under_told:PySem.W.findIn K (.ref c_Under) "told" = some (some (.ref f29)))
  (l29:K.lookup f29 = some ⟨oc29,od29,.func (PySem.W.fnOf "told" "Joining.told" (defArgs s_Joining_told) (defBody s_Joining_told) (defScope s_Joining_told) .none kV29 dc29 pm29 an29 cd29 ct29),sl29⟩) (c29:PySem.W.codeIn K cd29 "Joining.told" = true) (k29:PySem.W.keepIn K (.ref f29) = true)
  (a30:PySem.W.findIn K (.ref c_Left) "told" = some (some (.ref f30))) (i30:PySem.W.isFn K (.ref f30) = true) (h_Right_told:PySem.W.findIn K (.ref c_Right) "told" = some (some (.ref f30))) (h_Slide_told:PySem.W.findIn K (.ref c_Slide) "told" = some (some (.ref f30)))
  (l30:K.lookup f30 = some ⟨oc30,od30,.func (PySem.W.fnOf "told" "Moving.told" (defArgs s_Moving_told) (defBody s_Moving_told) (defScope s_Moving_told) .none kV30 dc30 pm30 an30 cd30 ct30),sl30⟩) (c30:PySem.W.codeIn K cd30 "Moving.told" = true) (k30:PySem.W.keepIn K (.ref f30) = true)
  (a31:PySem.W.findIn K (.ref c_Pick) "told" = some (some (.ref f31))) (i31:PySem.W.isFn K (.ref f31) = true)
  (l31:K.lookup f31 = some ⟨oc31,od31,.func (PySem.W.fnOf "told" "Pick.told" (defArgs s_Pick_told) (defBody s_Pick_told) (defScope s_Pick_told) .none kV31 dc31 pm31 an31 cd31 ct31),sl31⟩) (c31:PySem.W.codeIn K cd31 "Pick.told" = true) (k31:PySem.W.keepIn K (.ref f31) = true)
  (a32:PySem.W.findIn K (.ref c_Mark) "told" = some (some (.ref f32))) (i32:PySem.W.isFn K (.ref f32) = true)
  (l32:K.lookup f32 = some ⟨oc32,od32,.func (PySem.W.fnOf "told" "Mark.told" (defArgs s_Mark_told) (defBody s_Mark_told) (defScope s_Mark_told) .none kV32 dc32 pm32 an32 cd32 ct32),sl32⟩) (c32:PySem.W.codeIn K cd32 "Mark.told" = true) (k32:PySem.W.keepIn K (.ref f32) = true)
  (a33:PySem.W.findIn K (.ref c_Turns) "told" = some (some (.ref f33))) (i33:PySem.W.isFn K (.ref f33) = true)
  (l33:K.lookup f33 = some ⟨oc33,od33,.func (PySem.W.fnOf "told" "Turns.told" (defArgs s_Turns_told) (defBody s_Turns_told) (defScope s_Turns_told) .none kV33 dc33 pm33 an33 cd33 ct33),sl33⟩) (c33:PySem.W.codeIn K cd33 "Turns.told" = true) (k33:PySem.W.keepIn K (.ref f33) = true)
  (a34:PySem.W.nsIn K mainGlobals "_law_cell" = some (some (.ref f34)))
  (l34:K.lookup f34 = some ⟨oc34,od34,.func (PySem.W.fnOf "_law_cell" "_law_cell" (defArgs s__law_cell) (defBody s__law_cell) (defScope s__law_cell) .none kV34 dc34 pm34 an34 cd34 ct34),sl34⟩) (c34:PySem.W.codeIn K cd34 "_law_cell" = true) (k34:PySem.W.keepIn K (.ref f34) = true)
  (a35:PySem.W.nsIn K mainGlobals "_law_begun" = some (some (.ref f35)))
  (l35:K.lookup f35 = some ⟨oc35,od35,.func (PySem.W.fnOf "_law_begun" "_law_begun" (defArgs s__law_begun) (defBody s__law_begun) (defScope s__law_begun) .none kV35 dc35 pm35 an35 cd35 ct35),sl35⟩) (c35:PySem.W.codeIn K cd35 "_law_begun" = true) (k35:PySem.W.keepIn K (.ref f35) = true)
  (a36:PySem.W.nsIn K mainGlobals "_law_draw" = some (some (.ref f36)))
  (l36:K.lookup f36 = some ⟨oc36,od36,.func (PySem.W.fnOf "_law_draw" "_law_draw" (defArgs s__law_draw) (defBody s__law_draw) (defScope s__law_draw) .none kV36 dc36 pm36 an36 cd36 ct36),sl36⟩) (c36:PySem.W.codeIn K cd36 "_law_draw" = true) (k36:PySem.W.keepIn K (.ref f36) = true)
  (a37:PySem.W.nsIn K mainGlobals "_law_word" = some (some (.ref f37)))
  (l37:K.lookup f37 = some ⟨oc37,od37,.func (PySem.W.fnOf "_law_word" "_law_word" (defArgs s__law_word) (defBody s__law_word) (defScope s__law_word) .none kV37 dc37 pm37 an37 cd37 ct37),sl37⟩) (c37:PySem.W.codeIn K cd37 "_law_word" = true) (k37:PySem.W.keepIn K (.ref f37) = true)
  (a38:PySem.W.nsIn K mainGlobals "_law_names" = some (some (.ref f38)))
  (l38:K.lookup f38 = some ⟨oc38,od38,.func (PySem.W.fnOf "_law_names" "_law_names" (defArgs s__law_names) (defBody s__law_names) (defScope s__law_names) .none kV38 dc38 pm38 an38 cd38 ct38),sl38⟩) (c38:PySem.W.codeIn K cd38 "_law_names" = true) (k38:PySem.W.keepIn K (.ref f38) = true)
  (a39:PySem.W.nsIn K mainGlobals "_law_name" = some (some (.ref f39)))
  (l39:K.lookup f39 = some ⟨oc39,od39,.func (PySem.W.fnOf "_law_name" "_law_name" (defArgs s__law_name) (defBody s__law_name) (defScope s__law_name) .none kV39 dc39 pm39 an39 cd39 ct39),sl39⟩) (c39:PySem.W.codeIn K cd39 "_law_name" = true) (k39:PySem.W.keepIn K (.ref f39) = true)
  (a40:PySem.W.nsIn K mainGlobals "_law_sorts" = some (some (.ref f40)))
  (l40:K.lookup f40 = some ⟨oc40,od40,.func (PySem.W.fnOf "_law_sorts" "_law_sorts" (defArgs s__law_sorts) (defBody s__law_sorts) (defScope s__law_sorts) .none kV40 dc40 pm40 an40 cd40 ct40),sl40⟩) (c40:PySem.W.codeIn K cd40 "_law_sorts" = true) (k40:PySem.W.keepIn K (.ref f40) = true)
  (a41:PySem.W.nsIn K mainGlobals "_law_row" = some (some (.ref f41)))
  (l41:K.lookup f41 = some ⟨oc41,od41,.func (PySem.W.fnOf "_law_row" "_law_row" (defArgs s__law_row) (defBody s__law_row) (defScope s__law_row) .none kV41 dc41 pm41 an41 cd41 ct41),sl41⟩) (c41:PySem.W.codeIn K cd41 "_law_row" = true) (k41:PySem.W.keepIn K (.ref f41) = true)
  (a42:PySem.W.nsIn K mainGlobals "_law_made_pair" = some (some (.ref f42)))
  (l42:K.lookup f42 = some ⟨oc42,od42,.func (PySem.W.fnOf "_law_made_pair" "_law_made_pair" (defArgs s__law_made_pair) (defBody s__law_made_pair) (defScope s__law_made_pair) .none kV42 dc42 pm42 an42 cd42 ct42),sl42⟩) (c42:PySem.W.codeIn K cd42 "_law_made_pair" = true) (k42:PySem.W.keepIn K (.ref f42) = true)
  (a43:PySem.W.nsIn K mainGlobals "_law_made" = some (some (.ref f43)))
  (l43:K.lookup f43 = some ⟨oc43,od43,.func (PySem.W.fnOf "_law_made" "_law_made" (defArgs s__law_made) (defBody s__law_made) (defScope s__law_made) .none kV43 dc43 pm43 an43 cd43 ct43),sl43⟩) (c43:PySem.W.codeIn K cd43 "_law_made" = true) (k43:PySem.W.keepIn K (.ref f43) = true)
  (a44:PySem.W.nsIn K mainGlobals "_law_kinds" = some (some (.ref f44)))
  (l44:K.lookup f44 = some ⟨oc44,od44,.func (PySem.W.fnOf "_law_kinds" "_law_kinds" (defArgs s__law_kinds) (defBody s__law_kinds) (defScope s__law_kinds) .none kV44 dc44 pm44 an44 cd44 ct44),sl44⟩) (c44:PySem.W.codeIn K cd44 "_law_kinds" = true) (k44:PySem.W.keepIn K (.ref f44) = true)
  (a45:PySem.W.nsIn K mainGlobals "_law_fields" = some (some (.ref f45)))
  (l45:K.lookup f45 = some ⟨oc45,od45,.func (PySem.W.fnOf "_law_fields" "_law_fields" (defArgs s__law_fields) (defBody s__law_fields) (defScope s__law_fields) .none kV45 dc45 pm45 an45 cd45 ct45),sl45⟩) (c45:PySem.W.codeIn K cd45 "_law_fields" = true) (k45:PySem.W.keepIn K (.ref f45) = true)
  (a46:PySem.W.nsIn K mainGlobals "_law_told" = some (some (.ref f46)))
  (l46:K.lookup f46 = some ⟨oc46,od46,.func (PySem.W.fnOf "_law_told" "_law_told" (defArgs s__law_told) (defBody s__law_told) (defScope s__law_told) .none kV46 dc46 pm46 an46 cd46 ct46),sl46⟩) (c46:PySem.W.codeIn K cd46 "_law_told" = true) (k46:PySem.W.keepIn K (.ref f46) = true)
  (a47:PySem.W.nsIn K mainGlobals "_law_any" = some (some (.ref f47)))
  (l47:K.lookup f47 = some ⟨oc47,od47,.func (PySem.W.fnOf "_law_any" "_law_any" (defArgs s__law_any) (defBody s__law_any) (defScope s__law_any) .none kV47 dc47 pm47 an47 cd47 ct47),sl47⟩) (c47:PySem.W.codeIn K cd47 "_law_any" = true) (k47:PySem.W.keepIn K (.ref f47) = true)
  (a48:PySem.W.nsIn K mainGlobals "_law_turns" = some (some (.ref f48)))
  (l48:K.lookup f48 = some ⟨oc48,od48,.func (PySem.W.fnOf "_law_turns" "_law_turns" (defArgs s__law_turns) (defBody s__law_turns) (defScope s__law_turns) .none kV48 dc48 pm48 an48 cd48 ct48),sl48⟩) (c48:PySem.W.codeIn K cd48 "_law_turns" = true) (k48:PySem.W.keepIn K (.ref f48) = true)
  (a49:PySem.W.nsIn K mainGlobals "_law_names_told" = some (some (.ref f49)))
  (l49:K.lookup f49 = some ⟨oc49,od49,.func (PySem.W.fnOf "_law_names_told" "_law_names_told" (defArgs s__law_names_told) (defBody s__law_names_told) (defScope s__law_names_told) .none kV49 dc49 pm49 an49 cd49 ct49),sl49⟩) (c49:PySem.W.codeIn K cd49 "_law_names_told" = true) (k49:PySem.W.keepIn K (.ref f49) = true)
  (a50:PySem.W.nsIn K mainGlobals "law" = some (some (.ref f50)))
  (l50:K.lookup f50 = some ⟨oc50,od50,.func (PySem.W.fnOf "law" "law" (defArgs s_law) (defBody s_law) (defScope s_law) .none kV50 dc50 pm50 an50 cd50 ct50),sl50⟩) (c50:PySem.W.codeIn K cd50 "law" = true) (k50:PySem.W.keepIn K (.ref f50) = true)
  (aC_Set:PySem.W.nsIn K mainGlobals "Set" = some (some (.ref c_Set))) (pg_Set:PySem.W.plainGet K c_Set Str.empty = true) (hd_Set:PySem.W.hasDictIn K c_Set = true) (po_Set:PySem.W.plainOver K c_Set = true) (sa_Set:PySem.W.findIn K (.ref c_Set) "__setattr__" = some (some (.builtin "object.__setattr__")))
  (mk_Set:PySem.W.makesIn K c_Set = true) (kc_Set:PySem.W.keepIn K (.ref c_Set) = true)
  (na_Set_goal:PySem.W.findIn K (.ref c_Set) "goal" = some none)
  (na_Set_bits:PySem.W.findIn K (.ref c_Set) "bits" = some none)
  (aC_Copy:PySem.W.nsIn K mainGlobals "Copy" = some (some (.ref c_Copy))) (pg_Copy:PySem.W.plainGet K c_Copy Str.empty = true) (hd_Copy:PySem.W.hasDictIn K c_Copy = true) (po_Copy:PySem.W.plainOver K c_Copy = true) (sa_Copy:PySem.W.findIn K (.ref c_Copy) "__setattr__" = some (some (.builtin "object.__setattr__")))
  (mk_Copy:PySem.W.makesIn K c_Copy = true) (kc_Copy:PySem.W.keepIn K (.ref c_Copy) = true)
  (na_Copy_goal:PySem.W.findIn K (.ref c_Copy) "goal" = some none)
  (na_Copy_one:PySem.W.findIn K (.ref c_Copy) "one" = some none)
  (aC_Sum:PySem.W.nsIn K mainGlobals "Sum" = some (some (.ref c_Sum))) (pg_Sum:PySem.W.plainGet K c_Sum Str.empty = true) (hd_Sum:PySem.W.hasDictIn K c_Sum = true) (po_Sum:PySem.W.plainOver K c_Sum = true) (sa_Sum:PySem.W.findIn K (.ref c_Sum) "__setattr__" = some (some (.builtin "object.__setattr__")))
  (mk_Sum:PySem.W.makesIn K c_Sum = true) (kc_Sum:PySem.W.keepIn K (.ref c_Sum) = true)
  (na_Sum_goal:PySem.W.findIn K (.ref c_Sum) "goal" = some none)
  (na_Sum_carry:PySem.W.findIn K (.ref c_Sum) "carry" = some none)
  (na_Sum_one:PySem.W.findIn K (.ref c_Sum) "one" = some none)
  (na_Sum_other:PySem.W.findIn K (.ref c_Sum) "other" = some none)
  (aC_Gap:PySem.W.nsIn K mainGlobals "Gap" = some (some (.ref c_Gap))) (pg_Gap:PySem.W.plainGet K c_Gap Str.empty = true) (hd_Gap:PySem.W.hasDictIn K c_Gap = true) (po_Gap:PySem.W.plainOver K c_Gap = true) (sa_Gap:PySem.W.findIn K (.ref c_Gap) "__setattr__" = some (some (.builtin "object.__setattr__")))
  (mk_Gap:PySem.W.makesIn K c_Gap = true) (kc_Gap:PySem.W.keepIn K (.ref c_Gap) = true)
  (na_Gap_goal:PySem.W.findIn K (.ref c_Gap) "goal" = some none)
  (na_Gap_carry:PySem.W.findIn K (.ref c_Gap) "carry" = some none)
  (na_Gap_one:PySem.W.findIn K (.ref c_Gap) "one" = some none)
  (na_Gap_other:PySem.W.findIn K (.ref c_Gap) "other" = some none)
  (aC_Low:PySem.W.nsIn K mainGlobals "Low" = some (some (.ref c_Low))) (pg_Low:PySem.W.plainGet K c_Low Str.empty = true) (hd_Low:PySem.W.hasDictIn K c_Low = true) (po_Low:PySem.W.plainOver K c_Low = true) (sa_Low:PySem.W.findIn K (.ref c_Low) "__setattr__" = some (some (.builtin "object.__setattr__")))
  (mk_Low:PySem.W.makesIn K c_Low = true) (kc_Low:PySem.W.keepIn K (.ref c_Low) = true)
  (na_Low_goal:PySem.W.findIn K (.ref c_Low) "goal" = some none)
  (na_Low_one:PySem.W.findIn K (.ref c_Low) "one" = some none)
  (na_Low_other:PySem.W.findIn K (.ref c_Low) "other" = some none)
  (aC_High:PySem.W.nsIn K mainGlobals "High" = some (some (.ref c_High))) (pg_High:PySem.W.plainGet K c_High Str.empty = true) (hd_High:PySem.W.hasDictIn K c_High = true) (po_High:PySem.W.plainOver K c_High = true) (sa_High:PySem.W.findIn K (.ref c_High) "__setattr__" = some (some (.builtin "object.__setattr__")))
  (mk_High:PySem.W.makesIn K c_High = true) (kc_High:PySem.W.keepIn K (.ref c_High) = true)
  (na_High_goal:PySem.W.findIn K (.ref c_High) "goal" = some none)
  (na_High_one:PySem.W.findIn K (.ref c_High) "one" = some none)
  (na_High_other:PySem.W.findIn K (.ref c_High) "other" = some none)
  (aC_Left:PySem.W.nsIn K mainGlobals "Left" = some (some (.ref c_Left))) (pg_Left:PySem.W.plainGet K c_Left Str.empty = true) (hd_Left:PySem.W.hasDictIn K c_Left = true) (po_Left:PySem.W.plainOver K c_Left = true) (sa_Left:PySem.W.findIn K (.ref c_Left) "__setattr__" = some (some (.builtin "object.__setattr__")))
  (mk_Left:PySem.W.makesIn K c_Left = true) (kc_Left:PySem.W.keepIn K (.ref c_Left) = true)
  (na_Left_goal:PySem.W.findIn K (.ref c_Left) "goal" = some none)
  (na_Left_one:PySem.W.findIn K (.ref c_Left) "one" = some none)
  (na_Left_k:PySem.W.findIn K (.ref c_Left) "k" = some none)
  (aC_Right:PySem.W.nsIn K mainGlobals "Right" = some (some (.ref c_Right))) (pg_Right:PySem.W.plainGet K c_Right Str.empty = true) (hd_Right:PySem.W.hasDictIn K c_Right = true) (po_Right:PySem.W.plainOver K c_Right = true) (sa_Right:PySem.W.findIn K (.ref c_Right) "__setattr__" = some (some (.builtin "object.__setattr__")))
  (mk_Right:PySem.W.makesIn K c_Right = true) (kc_Right:PySem.W.keepIn K (.ref c_Right) = true)
  (na_Right_goal:PySem.W.findIn K (.ref c_Right) "goal" = some none)
  (na_Right_one:PySem.W.findIn K (.ref c_Right) "one" = some none)
  (na_Right_k:PySem.W.findIn K (.ref c_Right) "k" = some none)
  (aC_Slide:PySem.W.nsIn K mainGlobals "Slide" = some (some (.ref c_Slide))) (pg_Slide:PySem.W.plainGet K c_Slide Str.empty = true) (hd_Slide:PySem.W.hasDictIn K c_Slide = true) (po_Slide:PySem.W.plainOver K c_Slide = true) (sa_Slide:PySem.W.findIn K (.ref c_Slide) "__setattr__" = some (some (.builtin "object.__setattr__")))
  (mk_Slide:PySem.W.makesIn K c_Slide = true) (kc_Slide:PySem.W.keepIn K (.ref c_Slide) = true)
  (na_Slide_goal:PySem.W.findIn K (.ref c_Slide) "goal" = some none)
  (na_Slide_one:PySem.W.findIn K (.ref c_Slide) "one" = some none)
  (na_Slide_k:PySem.W.findIn K (.ref c_Slide) "k" = some none)
  (aC_And:PySem.W.nsIn K mainGlobals "And" = some (some (.ref c_And))) (pg_And:PySem.W.plainGet K c_And Str.empty = true) (hd_And:PySem.W.hasDictIn K c_And = true) (po_And:PySem.W.plainOver K c_And = true) (sa_And:PySem.W.findIn K (.ref c_And) "__setattr__" = some (some (.builtin "object.__setattr__")))
  (mk_And:PySem.W.makesIn K c_And = true) (kc_And:PySem.W.keepIn K (.ref c_And) = true)
  (na_And_goal:PySem.W.findIn K (.ref c_And) "goal" = some none)
  (na_And_one:PySem.W.findIn K (.ref c_And) "one" = some none)
  (na_And_other:PySem.W.findIn K (.ref c_And) "other" = some none)
  (aC_Or:PySem.W.nsIn K mainGlobals "Or" = some (some (.ref c_Or))) (pg_Or:PySem.W.plainGet K c_Or Str.empty = true) (hd_Or:PySem.W.hasDictIn K c_Or = true) (po_Or:PySem.W.plainOver K c_Or = true) (sa_Or:PySem.W.findIn K (.ref c_Or) "__setattr__" = some (some (.builtin "object.__setattr__")))
  (mk_Or:PySem.W.makesIn K c_Or = true) (kc_Or:PySem.W.keepIn K (.ref c_Or) = true)
  (na_Or_goal:PySem.W.findIn K (.ref c_Or) "goal" = some none)
  (na_Or_one:PySem.W.findIn K (.ref c_Or) "one" = some none)
  (na_Or_other:PySem.W.findIn K (.ref c_Or) "other" = some none)
  (aC_Unlike:PySem.W.nsIn K mainGlobals "Unlike" = some (some (.ref c_Unlike))) (pg_Unlike:PySem.W.plainGet K c_Unlike Str.empty = true) (hd_Unlike:PySem.W.hasDictIn K c_Unlike = true) (po_Unlike:PySem.W.plainOver K c_Unlike = true) (sa_Unlike:PySem.W.findIn K (.ref c_Unlike) "__setattr__" = some (some (.builtin "object.__setattr__")))
  (mk_Unlike:PySem.W.makesIn K c_Unlike = true) (kc_Unlike:PySem.W.keepIn K (.ref c_Unlike) = true)
  (na_Unlike_goal:PySem.W.findIn K (.ref c_Unlike) "goal" = some none)
  (na_Unlike_one:PySem.W.findIn K (.ref c_Unlike) "one" = some none)
  (na_Unlike_other:PySem.W.findIn K (.ref c_Unlike) "other" = some none)
  (aC_Under:PySem.W.nsIn K mainGlobals "Under" = some (some (.ref c_Under))) (pg_Under:PySem.W.plainGet K c_Under Str.empty = true) (hd_Under:PySem.W.hasDictIn K c_Under = true) (po_Under:PySem.W.plainOver K c_Under = true) (sa_Under:PySem.W.findIn K (.ref c_Under) "__setattr__" = some (some (.builtin "object.__setattr__")))
  (mk_Under:PySem.W.makesIn K c_Under = true) (kc_Under:PySem.W.keepIn K (.ref c_Under) = true)
  (na_Under_goal:PySem.W.findIn K (.ref c_Under) "goal" = some none)
  (na_Under_one:PySem.W.findIn K (.ref c_Under) "one" = some none)
  (na_Under_other:PySem.W.findIn K (.ref c_Under) "other" = some none)
  (aC_Pick:PySem.W.nsIn K mainGlobals "Pick" = some (some (.ref c_Pick))) (pg_Pick:PySem.W.plainGet K c_Pick Str.empty = true) (hd_Pick:PySem.W.hasDictIn K c_Pick = true) (po_Pick:PySem.W.plainOver K c_Pick = true) (sa_Pick:PySem.W.findIn K (.ref c_Pick) "__setattr__" = some (some (.builtin "object.__setattr__")))
  (mk_Pick:PySem.W.makesIn K c_Pick = true) (kc_Pick:PySem.W.keepIn K (.ref c_Pick) = true)
  (na_Pick_goal:PySem.W.findIn K (.ref c_Pick) "goal" = some none)
  (na_Pick_by:PySem.W.findIn K (.ref c_Pick) "by" = some none)
  (na_Pick_one:PySem.W.findIn K (.ref c_Pick) "one" = some none)
  (na_Pick_other:PySem.W.findIn K (.ref c_Pick) "other" = some none)
  (aC_Mark:PySem.W.nsIn K mainGlobals "Mark" = some (some (.ref c_Mark))) (pg_Mark:PySem.W.plainGet K c_Mark Str.empty = true) (hd_Mark:PySem.W.hasDictIn K c_Mark = true) (po_Mark:PySem.W.plainOver K c_Mark = true) (sa_Mark:PySem.W.findIn K (.ref c_Mark) "__setattr__" = some (some (.builtin "object.__setattr__")))
  (mk_Mark:PySem.W.makesIn K c_Mark = true) (kc_Mark:PySem.W.keepIn K (.ref c_Mark) = true)
  (na_Mark_line:PySem.W.findIn K (.ref c_Mark) "line" = some none)
  (na_Mark_mark:PySem.W.findIn K (.ref c_Mark) "mark" = some none)
  (na_Mark_by:PySem.W.findIn K (.ref c_Mark) "by" = some none)
  (aC_Turns:PySem.W.nsIn K mainGlobals "Turns" = some (some (.ref c_Turns))) (pg_Turns:PySem.W.plainGet K c_Turns Str.empty = true) (hd_Turns:PySem.W.hasDictIn K c_Turns = true) (po_Turns:PySem.W.plainOver K c_Turns = true) (sa_Turns:PySem.W.findIn K (.ref c_Turns) "__setattr__" = some (some (.builtin "object.__setattr__")))
  (mk_Turns:PySem.W.makesIn K c_Turns = true) (kc_Turns:PySem.W.keepIn K (.ref c_Turns) = true)
  (na_Turns_times:PySem.W.findIn K (.ref c_Turns) "times" = some none)
  (na_Turns_steps:PySem.W.findIn K (.ref c_Turns) "steps" = some none)
  (aC_Step:PySem.W.nsIn K mainGlobals "Step" = some (some (.ref c_Step))) (pg_Step:PySem.W.plainGet K c_Step Str.empty = true) (hd_Step:PySem.W.hasDictIn K c_Step = true) (po_Step:PySem.W.plainOver K c_Step = true) (sa_Step:PySem.W.findIn K (.ref c_Step) "__setattr__" = some (some (.builtin "object.__setattr__")))
  {tS_LETTERS:Tok} (aS_LETTERS:PySem.W.nsIn K mainGlobals "LETTERS" = some (some (.str "abcdefghijklmnopqrstuvwxyz" tS_LETTERS)))
  {tS_LETTERS_AND_FIGURES:Tok} (aS_LETTERS_AND_FIGURES:PySem.W.nsIn K mainGlobals "LETTERS_AND_FIGURES" = some (some (.str "abcdefghijklmnopqrstuvwxyz0123456789" tS_LETTERS_AND_FIGURES)))
  (kf_og:PySem.W.specialIn K (.builtin "object.__class__") "__get__" = some (some (.builtin "getset_descriptor.__get__")))
  (kf_ot:PySem.W.takesIn K (.builtin "object.__class__") = some true)
  (kf_kr_kinds:kindsAll K [c_Set,c_Copy,c_Sum,c_Gap,c_Low,c_High,c_Left,c_Right,c_Slide,c_And,c_Or,c_Unlike,c_Under,c_Pick,c_Mark,c_Turns] c_Step = true)
  (z_isinstance:PySem.W.nsIn K mainGlobals "isinstance" = some none) (z_int:PySem.W.nsIn K mainGlobals "int" = some none) (z_bool:PySem.W.nsIn K mainGlobals "bool" = some none) (z_str:PySem.W.nsIn K mainGlobals "str" = some none) (z_list:PySem.W.nsIn K mainGlobals "list" = some none) (z_tuple:PySem.W.nsIn K mainGlobals "tuple" = some none) (z_dict:PySem.W.nsIn K mainGlobals "dict" = some none) (z_len:PySem.W.nsIn K mainGlobals "len" = some none) (z_max:PySem.W.nsIn K mainGlobals "max" = some none) (z_min:PySem.W.nsIn K mainGlobals "min" = some none) (z_range:PySem.W.nsIn K mainGlobals "range" = some none) (z_all:PySem.W.nsIn K mainGlobals "all" = some none) :
  ∃ fd:FuncData,(∀ (s:Shared) (v:Value),BindsTo s fd ⟨[v],[]⟩ [("_law_script",v)])∧∀ base:Heap,K.In base→base.Ns mainGlobals mg→FnOk l.prog w K mg base CX0 6 fa fd ["_law_script"] ((spLaw K)):=by
 have e:=hfa.symm.trans (PySem.W.mg_of X G a50)
 cases e
 have T:Txt K mg ⟨c_Set,c_Copy,c_Sum,c_Gap,c_Low,c_High,c_Left,c_Right,c_Slide,c_And,c_Or,c_Unlike,c_Under,c_Pick,c_Mark,c_Turns,c_Step⟩:=⟨PySem.W.mg_none_of X G z_isinstance,PySem.W.mg_none_of X G z_int,PySem.W.mg_none_of X G z_bool,PySem.W.mg_none_of X G z_str,PySem.W.mg_none_of X G z_list,PySem.W.mg_none_of X G z_tuple,PySem.W.mg_none_of X G z_dict,PySem.W.mg_none_of X G z_len,PySem.W.mg_none_of X G z_max,PySem.W.mg_none_of X G z_min,PySem.W.mg_none_of X G z_range,PySem.W.mg_none_of X G z_all,PySem.W.mg_of X G aC_Set,⟨pg_Set,hd_Set,po_Set,sa_Set⟩,na_Set_goal,na_Set_bits,PySem.W.mg_of X G aC_Copy,⟨pg_Copy,hd_Copy,po_Copy,sa_Copy⟩,na_Copy_goal,na_Copy_one,PySem.W.mg_of X G aC_Sum,⟨pg_Sum,hd_Sum,po_Sum,sa_Sum⟩,na_Sum_goal,na_Sum_carry,na_Sum_one,na_Sum_other,PySem.W.mg_of X G aC_Gap,⟨pg_Gap,hd_Gap,po_Gap,sa_Gap⟩,na_Gap_goal,na_Gap_carry,na_Gap_one,na_Gap_other,PySem.W.mg_of X G aC_Low,⟨pg_Low,hd_Low,po_Low,sa_Low⟩,na_Low_goal,na_Low_one,na_Low_other,PySem.W.mg_of X G aC_High,⟨pg_High,hd_High,po_High,sa_High⟩,na_High_goal,na_High_one,na_High_other,PySem.W.mg_of X G aC_Left,⟨pg_Left,hd_Left,po_Left,sa_Left⟩,na_Left_goal,na_Left_one,na_Left_k,PySem.W.mg_of X G aC_Right,⟨pg_Right,hd_Right,po_Right,sa_Right⟩,na_Right_goal,na_Right_one,na_Right_k,PySem.W.mg_of X G aC_Slide,⟨pg_Slide,hd_Slide,po_Slide,sa_Slide⟩,na_Slide_goal,na_Slide_one,na_Slide_k,PySem.W.mg_of X G aC_And,⟨pg_And,hd_And,po_And,sa_And⟩,na_And_goal,na_And_one,na_And_other,PySem.W.mg_of X G aC_Or,⟨pg_Or,hd_Or,po_Or,sa_Or⟩,na_Or_goal,na_Or_one,na_Or_other,PySem.W.mg_of X G aC_Unlike,⟨pg_Unlike,hd_Unlike,po_Unlike,sa_Unlike⟩,na_Unlike_goal,na_Unlike_one,na_Unlike_other,PySem.W.mg_of X G aC_Under,⟨pg_Under,hd_Under,po_Under,sa_Under⟩,na_Under_goal,na_Under_one,na_Under_other,PySem.W.mg_of X G aC_Pick,⟨pg_Pick,hd_Pick,po_Pick,sa_Pick⟩,na_Pick_goal,na_Pick_by,na_Pick_one,na_Pick_other,PySem.W.mg_of X G aC_Mark,⟨pg_Mark,hd_Mark,po_Mark,sa_Mark⟩,na_Mark_line,na_Mark_mark,na_Mark_by,PySem.W.mg_of X G aC_Turns,⟨pg_Turns,hd_Turns,po_Turns,sa_Turns⟩,na_Turns_times,na_Turns_steps,PySem.W.mg_of X G aC_Step,⟨pg_Step,hd_Step,po_Step,sa_Step⟩,⟨_,PySem.W.mg_of X G aS_LETTERS⟩,⟨_,PySem.W.mg_of X G aS_LETTERS_AND_FIGURES⟩,kf_og,kf_ot,kf_kr_kinds⟩
 have F1:=fun_mk (st:=s_is_register) l1 c1 k1
 have b1:=F1.binds (ps:=["thing"]) fun _ _ _ _ _ _ us hl=>match us,hl with | [_],_=>rfl
 have F2:=fun_mk (st:=s_Set_word) l2 c2 k2
 have b2:=F2.binds (ps:=["self"]) fun _ _ _ _ _ _ us hl=>match us,hl with | [_],_=>rfl
 have F3:=fun_mk (st:=s_Copy_word) l3 c3 k3
 have b3:=F3.binds (ps:=["self"]) fun _ _ _ _ _ _ us hl=>match us,hl with | [_],_=>rfl
 have F4:=fun_mk (st:=s_Sum_word) l4 c4 k4
 have b4:=F4.binds (ps:=["self"]) fun _ _ _ _ _ _ us hl=>match us,hl with | [_],_=>rfl
 have F5:=fun_mk (st:=s_Gap_word) l5 c5 k5
 have b5:=F5.binds (ps:=["self"]) fun _ _ _ _ _ _ us hl=>match us,hl with | [_],_=>rfl
 have F6:=fun_mk (st:=s_Low_word) l6 c6 k6
 have b6:=F6.binds (ps:=["self"]) fun _ _ _ _ _ _ us hl=>match us,hl with | [_],_=>rfl
 have F7:=fun_mk (st:=s_High_word) l7 c7 k7
 have b7:=F7.binds (ps:=["self"]) fun _ _ _ _ _ _ us hl=>match us,hl with | [_],_=>rfl
 have F8:=fun_mk (st:=s_Left_word) l8 c8 k8
 have b8:=F8.binds (ps:=["self"]) fun _ _ _ _ _ _ us hl=>match us,hl with | [_],_=>rfl
 have F9:=fun_mk (st:=s_Right_word) l9 c9 k9
 have b9:=F9.binds (ps:=["self"]) fun _ _ _ _ _ _ us hl=>match us,hl with | [_],_=>rfl
 have F10:=fun_mk (st:=s_Slide_word) l10 c10 k10
 have b10:=F10.binds (ps:=["self"]) fun _ _ _ _ _ _ us hl=>match us,hl with | [_],_=>rfl
 have F11:=fun_mk (st:=s_And_word) l11 c11 k11
 have b11:=F11.binds (ps:=["self"]) fun _ _ _ _ _ _ us hl=>match us,hl with | [_],_=>rfl
 have F12:=fun_mk (st:=s_Or_word) l12 c12 k12
 have b12:=F12.binds (ps:=["self"]) fun _ _ _ _ _ _ us hl=>match us,hl with | [_],_=>rfl
 have F13:=fun_mk (st:=s_Unlike_word) l13 c13 k13
 have b13:=F13.binds (ps:=["self"]) fun _ _ _ _ _ _ us hl=>match us,hl with | [_],_=>rfl
 have F14:=fun_mk (st:=s_Under_word) l14 c14 k14
 have b14:=F14.binds (ps:=["self"]) fun _ _ _ _ _ _ us hl=>match us,hl with | [_],_=>rfl
 have F15:=fun_mk (st:=s_Pick_word) l15 c15 k15
 have b15:=F15.binds (ps:=["self"]) fun _ _ _ _ _ _ us hl=>match us,hl with | [_],_=>rfl
 have F16:=fun_mk (st:=s_Mark_word) l16 c16 k16
 have b16:=F16.binds (ps:=["self"]) fun _ _ _ _ _ _ us hl=>match us,hl with | [_],_=>rfl
 have F17:=fun_mk (st:=s_Turns_word) l17 c17 k17
 have b17:=F17.binds (ps:=["self"]) fun _ _ _ _ _ _ us hl=>match us,hl with | [_],_=>rfl
 have F18:=fun_mk (st:=s_Set___init__) l18 c18 k18
 have b18:=F18.binds (ps:=["self", "goal", "bits"]) fun _ _ _ _ _ _ us hl=>match us,hl with | [_,_,_],_=>rfl
 have F19:=fun_mk (st:=s_Copy___init__) l19 c19 k19
 have b19:=F19.binds (ps:=["self", "goal", "one"]) fun _ _ _ _ _ _ us hl=>match us,hl with | [_,_,_],_=>rfl
 have F20:=fun_mk (st:=s_Carrying___init__) l20 c20 k20
 have b20:=F20.binds (ps:=["self", "goal", "carry", "one", "other"]) fun _ _ _ _ _ _ us hl=>match us,hl with | [_,_,_,_,_],_=>rfl
 have F21:=fun_mk (st:=s_Joining___init__) l21 c21 k21
 have b21:=F21.binds (ps:=["self", "goal", "one", "other"]) fun _ _ _ _ _ _ us hl=>match us,hl with | [_,_,_,_],_=>rfl
 have F22:=fun_mk (st:=s_Moving___init__) l22 c22 k22
 have b22:=F22.binds (ps:=["self", "goal", "one", "k"]) fun _ _ _ _ _ _ us hl=>match us,hl with | [_,_,_,_],_=>rfl
 have F23:=fun_mk (st:=s_Pick___init__) l23 c23 k23
 have b23:=F23.binds (ps:=["self", "goal", "by", "one", "other"]) fun _ _ _ _ _ _ us hl=>match us,hl with | [_,_,_,_,_],_=>rfl
 have F24:=fun_mk (st:=s_Mark___init__) l24 c24 k24
 have b24:=F24.binds (ps:=["self", "line", "mark", "by"]) fun _ _ _ _ _ _ us hl=>match us,hl with | [_,_,_,_],_=>rfl
 have F25:=fun_mk (st:=s_Turns___init__) l25 c25 k25
 have b25:=F25.binds (ps:=["self", "times", "steps"]) fun _ _ _ _ _ _ us hl=>match us,hl with | [_,_,_],_=>rfl
 have F26:=fun_mk (st:=s_Set_told) l26 c26 k26
 have b26:=F26.binds (ps:=["self"]) fun _ _ _ _ _ _ us hl=>match us,hl with | [_],_=>rfl
 have F27:=fun_mk (st:=s_Copy_told) l27 c27 k27
 have b27:=F27.binds (ps:=["self"]) fun _ _ _ _ _ _ us hl=>match us,hl with | [_],_=>rfl
 have F28:=fun_mk (st:=s_Carrying_told) l28 c28 k28
 have b28:=F28.binds (ps:=["self"]) fun _ _ _ _ _ _ us hl=>match us,hl with | [_],_=>rfl
 have F29:=fun_mk (st:=s_Joining_told) l29 c29 k29
 have b29:=F29.binds (ps:=["self"]) fun _ _ _ _ _ _ us hl=>match us,hl with | [_],_=>rfl
 have F30:=fun_mk (st:=s_Moving_told) l30 c30 k30
 have b30:=F30.binds (ps:=["self"]) fun _ _ _ _ _ _ us hl=>match us,hl with | [_],_=>rfl
 have F31:=fun_mk (st:=s_Pick_told) l31 c31 k31
 have b31:=F31.binds (ps:=["self"]) fun _ _ _ _ _ _ us hl=>match us,hl with | [_],_=>rfl
 have F32:=fun_mk (st:=s_Mark_told) l32 c32 k32
 have b32:=F32.binds (ps:=["self"]) fun _ _ _ _ _ _ us hl=>match us,hl with | [_],_=>rfl
 have F33:=fun_mk (st:=s_Turns_told) l33 c33 k33
 have b33:=F33.binds (ps:=["self"]) fun _ _ _ _ _ _ us hl=>match us,hl with | [_],_=>rfl
 have F34:=fun_mk (st:=s__law_cell) l34 c34 k34
 have b34:=F34.binds (ps:=["_law_script", "_law_k"]) fun _ _ _ _ _ _ us hl=>match us,hl with | [_,_],_=>rfl
 have F35:=fun_mk (st:=s__law_begun) l35 c35 k35
 have b35:=F35.binds (ps:=["_law_cell_here"]) fun _ _ _ _ _ _ us hl=>match us,hl with | [_],_=>rfl
 have F36:=fun_mk (st:=s__law_draw) l36 c36 k36
 have b36:=F36.binds (ps:=["_law_state", "_law_many"]) fun _ _ _ _ _ _ us hl=>match us,hl with | [_,_],_=>rfl
 have F37:=fun_mk (st:=s__law_word) l37 c37 k37
 have b37:=F37.binds (ps:=["_law_state", "_law_width"]) fun _ _ _ _ _ _ us hl=>match us,hl with | [_,_],_=>rfl
 have F38:=fun_mk (st:=s__law_names) l38 c38 k38
 have b38:=F38.binds (ps:=["_law_state"]) fun _ _ _ _ _ _ us hl=>match us,hl with | [_],_=>rfl
 have F39:=fun_mk (st:=s__law_name) l39 c39 k39
 have b39:=F39.binds (ps:=["_law_state", "_law_names_here"]) fun _ _ _ _ _ _ us hl=>match us,hl with | [_,_],_=>rfl
 have F40:=fun_mk (st:=s__law_sorts) l40 c40 k40
 have b40:=F40.binds (ps:=[]) fun _ _ _ _ _ _ us hl=>match us,hl with | [],_=>rfl
 have F41:=fun_mk (st:=s__law_row) l41 c41 k41
 have b41:=F41.binds (ps:=["_law_state", "_law_width", "_law_names_here", "_law_at"]) fun _ _ _ _ _ _ us hl=>match us,hl with | [_,_,_,_],_=>rfl
 have F42:=fun_mk (st:=s__law_made_pair) l42 c42 k42
 have b42:=F42.binds (ps:=["_law_row_here"]) fun _ _ _ _ _ _ us hl=>match us,hl with | [_],_=>rfl
 have F43:=fun_mk (st:=s__law_made) l43 c43 k43
 have b43:=F43.binds (ps:=["_law_row_here"]) fun _ _ _ _ _ _ us hl=>match us,hl with | [_],_=>rfl
 have F44:=fun_mk (st:=s__law_kinds) l44 c44 k44
 have b44:=F44.binds (ps:=["_law_row_here"]) fun _ _ _ _ _ _ us hl=>match us,hl with | [_],_=>rfl
 have F45:=fun_mk (st:=s__law_fields) l45 c45 k45
 have b45:=F45.binds (ps:=["_law_row_here", "_law_word_here"]) fun _ _ _ _ _ _ us hl=>match us,hl with | [_,_],_=>rfl
 have F46:=fun_mk (st:=s__law_told) l46 c46 k46
 have b46:=F46.binds (ps:=["_law_row_here", "_law_due"]) fun _ _ _ _ _ _ us hl=>match us,hl with | [_,_],_=>rfl
 have F47:=fun_mk (st:=s__law_any) l47 c47 k47
 have b47:=F47.binds (ps:=["_law_state", "_law_due"]) fun _ _ _ _ _ _ us hl=>match us,hl with | [_,_],_=>rfl
 have F48:=fun_mk (st:=s__law_turns) l48 c48 k48
 have b48:=F48.binds (ps:=["_law_state", "_law_rows", "_law_dues"]) fun _ _ _ _ _ _ us hl=>match us,hl with | [_,_,_],_=>rfl
 have F49:=fun_mk (st:=s__law_names_told) l49 c49 k49
 have b49:=F49.binds (ps:=["_law_state", "_law_names_here"]) fun _ _ _ _ _ _ us hl=>match us,hl with | [_,_],_=>rfl
 have F50:=fun_mk (st:=s_law) l50 c50 k50
 refine ⟨PySem.W.fnOf "law" "law" (defArgs s_law) (defBody s_law) (defScope s_law) .none kV50 dc50 pm50 an50 cd50 ct50,fun s v=>.of_eq rfl,fun base _ _=>?_⟩
 have M_Set_word:MHas l.prog w K mg base 1 c_Set "word" ["self"] (spWd "set"):=⟨T.cl_Set,_,_,⟨a2,i2,k2⟩,ok_Set_word F2 T ,b2⟩
 have M_Copy_word:MHas l.prog w K mg base 1 c_Copy "word" ["self"] (spWd "copy"):=⟨T.cl_Copy,_,_,⟨a3,i3,k3⟩,ok_Copy_word F3 T ,b3⟩
 have M_Sum_word:MHas l.prog w K mg base 1 c_Sum "word" ["self"] (spWd "sum"):=⟨T.cl_Sum,_,_,⟨a4,i4,k4⟩,ok_Sum_word F4 T ,b4⟩
 have M_Gap_word:MHas l.prog w K mg base 1 c_Gap "word" ["self"] (spWd "gap"):=⟨T.cl_Gap,_,_,⟨a5,i5,k5⟩,ok_Gap_word F5 T ,b5⟩
 have M_Low_word:MHas l.prog w K mg base 1 c_Low "word" ["self"] (spWd "low"):=⟨T.cl_Low,_,_,⟨a6,i6,k6⟩,ok_Low_word F6 T ,b6⟩
 have M_High_word:MHas l.prog w K mg base 1 c_High "word" ["self"] (spWd "high"):=⟨T.cl_High,_,_,⟨a7,i7,k7⟩,ok_High_word F7 T ,b7⟩
 have M_Left_word:MHas l.prog w K mg base 1 c_Left "word" ["self"] (spWd "left"):=⟨T.cl_Left,_,_,⟨a8,i8,k8⟩,ok_Left_word F8 T ,b8⟩
 have M_Right_word:MHas l.prog w K mg base 1 c_Right "word" ["self"] (spWd "right"):=⟨T.cl_Right,_,_,⟨a9,i9,k9⟩,ok_Right_word F9 T ,b9⟩
 have M_Slide_word:MHas l.prog w K mg base 1 c_Slide "word" ["self"] (spWd "slide"):=⟨T.cl_Slide,_,_,⟨a10,i10,k10⟩,ok_Slide_word F10 T ,b10⟩
 have M_And_word:MHas l.prog w K mg base 1 c_And "word" ["self"] (spWd "and"):=⟨T.cl_And,_,_,⟨a11,i11,k11⟩,ok_And_word F11 T ,b11⟩
 have M_Or_word:MHas l.prog w K mg base 1 c_Or "word" ["self"] (spWd "or"):=⟨T.cl_Or,_,_,⟨a12,i12,k12⟩,ok_Or_word F12 T ,b12⟩
 have M_Unlike_word:MHas l.prog w K mg base 1 c_Unlike "word" ["self"] (spWd "unlike"):=⟨T.cl_Unlike,_,_,⟨a13,i13,k13⟩,ok_Unlike_word F13 T ,b13⟩
 have M_Under_word:MHas l.prog w K mg base 1 c_Under "word" ["self"] (spWd "under"):=⟨T.cl_Under,_,_,⟨a14,i14,k14⟩,ok_Under_word F14 T ,b14⟩
 have M_Pick_word:MHas l.prog w K mg base 1 c_Pick "word" ["self"] (spWd "pick"):=⟨T.cl_Pick,_,_,⟨a15,i15,k15⟩,ok_Pick_word F15 T ,b15⟩
 have M_Mark_word:MHas l.prog w K mg base 1 c_Mark "word" ["self"] (spWd "mark"):=⟨T.cl_Mark,_,_,⟨a16,i16,k16⟩,ok_Mark_word F16 T ,b16⟩
 have M_Turns_word:MHas l.prog w K mg base 1 c_Turns "word" ["self"] (spWd "turns"):=⟨T.cl_Turns,_,_,⟨a17,i17,k17⟩,ok_Turns_word F17 T ,b17⟩
 have C_Set:CHas l.prog w K mg base 1 c_Set "Set" ["self", "goal", "bits"] (spInit K ["goal", "bits"]):=⟨_,_,⟨mk_Set,a18,i18,kc_Set⟩,ok_Set___init__ F18 T ,b18,PySem.W.mg_of X G aC_Set⟩
 have C_Copy:CHas l.prog w K mg base 1 c_Copy "Copy" ["self", "goal", "one"] (spInit K ["goal", "one"]):=⟨_,_,⟨mk_Copy,a19,i19,kc_Copy⟩,ok_Copy___init__ F19 T ,b19,PySem.W.mg_of X G aC_Copy⟩
 have C_Sum:CHas l.prog w K mg base 1 c_Sum "Sum" ["self", "goal", "carry", "one", "other"] (spInit K ["goal", "carry", "one", "other"]):=⟨_,_,⟨mk_Sum,a20,i20,kc_Sum⟩,ok_Carrying___init__ F20 T ,b20,PySem.W.mg_of X G aC_Sum⟩
 have C_Gap:CHas l.prog w K mg base 1 c_Gap "Gap" ["self", "goal", "carry", "one", "other"] (spInit K ["goal", "carry", "one", "other"]):=⟨_,_,⟨mk_Gap,h_Gap___init__,i20,kc_Gap⟩,ok_Carrying___init__ F20 T ,b20,PySem.W.mg_of X G aC_Gap⟩
 have C_Low:CHas l.prog w K mg base 1 c_Low "Low" ["self", "goal", "one", "other"] (spInit K ["goal", "one", "other"]):=⟨_,_,⟨mk_Low,a21,i21,kc_Low⟩,ok_Joining___init__ F21 T ,b21,PySem.W.mg_of X G aC_Low⟩
 have C_High:CHas l.prog w K mg base 1 c_High "High" ["self", "goal", "one", "other"] (spInit K ["goal", "one", "other"]):=⟨_,_,⟨mk_High,h_High___init__,i21,kc_High⟩,ok_Joining___init__ F21 T ,b21,PySem.W.mg_of X G aC_High⟩
 have C_And:CHas l.prog w K mg base 1 c_And "And" ["self", "goal", "one", "other"] (spInit K ["goal", "one", "other"]):=⟨_,_,⟨mk_And,h_And___init__,i21,kc_And⟩,ok_Joining___init__ F21 T ,b21,PySem.W.mg_of X G aC_And⟩
 have C_Or:CHas l.prog w K mg base 1 c_Or "Or" ["self", "goal", "one", "other"] (spInit K ["goal", "one", "other"]):=⟨_,_,⟨mk_Or,h_Or___init__,i21,kc_Or⟩,ok_Joining___init__ F21 T ,b21,PySem.W.mg_of X G aC_Or⟩
 have C_Unlike:CHas l.prog w K mg base 1 c_Unlike "Unlike" ["self", "goal", "one", "other"] (spInit K ["goal", "one", "other"]):=⟨_,_,⟨mk_Unlike,h_Unlike___init__,i21,kc_Unlike⟩,ok_Joining___init__ F21 T ,b21,PySem.W.mg_of X G aC_Unlike⟩
 have C_Under:CHas l.prog w K mg base 1 c_Under "Under" ["self", "goal", "one", "other"] (spInit K ["goal", "one", "other"]):=⟨_,_,⟨mk_Under,h_Under___init__,i21,kc_Under⟩,ok_Joining___init__ F21 T ,b21,PySem.W.mg_of X G aC_Under⟩
 have C_Left:CHas l.prog w K mg base 1 c_Left "Left" ["self", "goal", "one", "k"] (spInit K ["goal", "one", "k"]):=⟨_,_,⟨mk_Left,a22,i22,kc_Left⟩,ok_Moving___init__ F22 T ,b22,PySem.W.mg_of X G aC_Left⟩
 have C_Right:CHas l.prog w K mg base 1 c_Right "Right" ["self", "goal", "one", "k"] (spInit K ["goal", "one", "k"]):=⟨_,_,⟨mk_Right,h_Right___init__,i22,kc_Right⟩,ok_Moving___init__ F22 T ,b22,PySem.W.mg_of X G aC_Right⟩
 have C_Slide:CHas l.prog w K mg base 1 c_Slide "Slide" ["self", "goal", "one", "k"] (spInit K ["goal", "one", "k"]):=⟨_,_,⟨mk_Slide,h_Slide___init__,i22,kc_Slide⟩,ok_Moving___init__ F22 T ,b22,PySem.W.mg_of X G aC_Slide⟩
 have C_Pick:CHas l.prog w K mg base 1 c_Pick "Pick" ["self", "goal", "by", "one", "other"] (spInit K ["goal", "by", "one", "other"]):=⟨_,_,⟨mk_Pick,a23,i23,kc_Pick⟩,ok_Pick___init__ F23 T ,b23,PySem.W.mg_of X G aC_Pick⟩
 have C_Mark:CHas l.prog w K mg base 1 c_Mark "Mark" ["self", "line", "mark", "by"] (spInit K ["line", "mark", "by"]):=⟨_,_,⟨mk_Mark,a24,i24,kc_Mark⟩,ok_Mark___init__ F24 T ,b24,PySem.W.mg_of X G aC_Mark⟩
 have C_Turns:CHas l.prog w K mg base 1 c_Turns "Turns" ["self", "times", "steps"] (spInitT K):=⟨_,_,⟨mk_Turns,a25,i25,kc_Turns⟩,ok_Turns___init__ F25 T ,b25,PySem.W.mg_of X G aC_Turns⟩
 have M_Set_told:MHas l.prog w K mg base 1 c_Set "told" ["self"] (spTold ⟨c_Set,c_Copy,c_Sum,c_Gap,c_Low,c_High,c_Left,c_Right,c_Slide,c_And,c_Or,c_Unlike,c_Under,c_Pick,c_Mark,c_Turns,c_Step⟩ [0]):=⟨T.cl_Set,_,_,⟨a26,i26,k26⟩,ok_Set_told F26 T ,b26⟩
 have M_Copy_told:MHas l.prog w K mg base 1 c_Copy "told" ["self"] (spTold ⟨c_Set,c_Copy,c_Sum,c_Gap,c_Low,c_High,c_Left,c_Right,c_Slide,c_And,c_Or,c_Unlike,c_Under,c_Pick,c_Mark,c_Turns,c_Step⟩ [1]):=⟨T.cl_Copy,_,_,⟨a27,i27,k27⟩,ok_Copy_told F27 T ,b27⟩
 have M_Gap_told:MHas l.prog w K mg base 2 c_Gap "told" ["self"] (spTold ⟨c_Set,c_Copy,c_Sum,c_Gap,c_Low,c_High,c_Left,c_Right,c_Slide,c_And,c_Or,c_Unlike,c_Under,c_Pick,c_Mark,c_Turns,c_Step⟩ [2,3]):=⟨T.cl_Gap,_,_,⟨h_Gap_told,i28,k28⟩,ok_Carrying_told F28 T  (fun i hi=>by simp only [List.mem_cons,List.not_mem_nil,or_false] at hi; rcases hi with rfl | rfl <;> first | exact M_Sum_word | exact M_Gap_word),b28⟩
 have M_Carrying_told:MHas l.prog w K mg base 2 c_Sum "told" ["self"] (spTold ⟨c_Set,c_Copy,c_Sum,c_Gap,c_Low,c_High,c_Left,c_Right,c_Slide,c_And,c_Or,c_Unlike,c_Under,c_Pick,c_Mark,c_Turns,c_Step⟩ [2,3]):=⟨T.cl_Sum,_,_,⟨a28,i28,k28⟩,ok_Carrying_told F28 T  (fun i hi=>by simp only [List.mem_cons,List.not_mem_nil,or_false] at hi; rcases hi with rfl | rfl <;> first | exact M_Sum_word | exact M_Gap_word),b28⟩
 have M_High_told:MHas l.prog w K mg base 2 c_High "told" ["self"] (spTold ⟨c_Set,c_Copy,c_Sum,c_Gap,c_Low,c_High,c_Left,c_Right,c_Slide,c_And,c_Or,c_Unlike,c_Under,c_Pick,c_Mark,c_Turns,c_Step⟩ [4,5,9,10,11,12]):=⟨T.cl_High,_,_,⟨h_High_told,i29,k29⟩,ok_Joining_told F29 T  (fun i hi=>by simp only [List.mem_cons,List.not_mem_nil,or_false] at hi; rcases hi with rfl | rfl | rfl | rfl | rfl | rfl <;> first | exact M_Low_word | exact M_High_word | exact M_And_word | exact M_Or_word | exact M_Unlike_word | exact M_Under_word),b29⟩
 have M_And_told:MHas l.prog w K mg base 2 c_And "told" ["self"] (spTold ⟨c_Set,c_Copy,c_Sum,c_Gap,c_Low,c_High,c_Left,c_Right,c_Slide,c_And,c_Or,c_Unlike,c_Under,c_Pick,c_Mark,c_Turns,c_Step⟩ [4,5,9,10,11,12]):=⟨T.cl_And,_,_,⟨h_And_told,i29,k29⟩,ok_Joining_told F29 T  (fun i hi=>by simp only [List.mem_cons,List.not_mem_nil,or_false] at hi; rcases hi with rfl | rfl | rfl | rfl | rfl | rfl <;> first | exact M_Low_word | exact M_High_word | exact M_And_word | exact M_Or_word | exact M_Unlike_word | exact M_Under_word),b29⟩
 have M_Or_told:MHas l.prog w K mg base 2 c_Or "told" ["self"] (spTold ⟨c_Set,c_Copy,c_Sum,c_Gap,c_Low,c_High,c_Left,c_Right,c_Slide,c_And,c_Or,c_Unlike,c_Under,c_Pick,c_Mark,c_Turns,c_Step⟩ [4,5,9,10,11,12]):=⟨T.cl_Or,_,_,⟨h_Or_told,i29,k29⟩,ok_Joining_told F29 T  (fun i hi=>by simp only [List.mem_cons,List.not_mem_nil,or_false] at hi; rcases hi with rfl | rfl | rfl | rfl | rfl | rfl <;> first | exact M_Low_word | exact M_High_word | exact M_And_word | exact M_Or_word | exact M_Unlike_word | exact M_Under_word),b29⟩
 have M_Unlike_told:MHas l.prog w K mg base 2 c_Unlike "told" ["self"] (spTold ⟨c_Set,c_Copy,c_Sum,c_Gap,c_Low,c_High,c_Left,c_Right,c_Slide,c_And,c_Or,c_Unlike,c_Under,c_Pick,c_Mark,c_Turns,c_Step⟩ [4,5,9,10,11,12]):=⟨T.cl_Unlike,_,_,⟨h_Unlike_told,i29,k29⟩,ok_Joining_told F29 T  (fun i hi=>by simp only [List.mem_cons,List.not_mem_nil,or_false] at hi; rcases hi with rfl | rfl | rfl | rfl | rfl | rfl <;> first | exact M_Low_word | exact M_High_word | exact M_And_word | exact M_Or_word | exact M_Unlike_word | exact M_Under_word),b29⟩
 have M_Under_told:MHas l.prog w K mg base 2 c_Under "told" ["self"] (spTold ⟨c_Set,c_Copy,c_Sum,c_Gap,c_Low,c_High,c_Left,c_Right,c_Slide,c_And,c_Or,c_Unlike,c_Under,c_Pick,c_Mark,c_Turns,c_Step⟩ [4,5,9,10,11,12]):=⟨T.cl_Under,_,_,⟨h_Under_told,i29,k29⟩,ok_Joining_told F29 T  (fun i hi=>by simp only [List.mem_cons,List.not_mem_nil,or_false] at hi; rcases hi with rfl | rfl | rfl | rfl | rfl | rfl <;> first | exact M_Low_word | exact M_High_word | exact M_And_word | exact M_Or_word | exact M_Unlike_word | exact M_Under_word),b29⟩
 have M_Joining_told:MHas l.prog w K mg base 2 c_Low "told" ["self"] (spTold ⟨c_Set,c_Copy,c_Sum,c_Gap,c_Low,c_High,c_Left,c_Right,c_Slide,c_And,c_Or,c_Unlike,c_Under,c_Pick,c_Mark,c_Turns,c_Step⟩ [4,5,9,10,11,12]):=⟨T.cl_Low,_,_,⟨a29,i29,k29⟩,ok_Joining_told F29 T  (fun i hi=>by simp only [List.mem_cons,List.not_mem_nil,or_false] at hi; rcases hi with rfl | rfl | rfl | rfl | rfl | rfl <;> first | exact M_Low_word | exact M_High_word | exact M_And_word | exact M_Or_word | exact M_Unlike_word | exact M_Under_word),b29⟩
 have M_Right_told:MHas l.prog w K mg base 2 c_Right "told" ["self"] (spTold ⟨c_Set,c_Copy,c_Sum,c_Gap,c_Low,c_High,c_Left,c_Right,c_Slide,c_And,c_Or,c_Unlike,c_Under,c_Pick,c_Mark,c_Turns,c_Step⟩ [6,7,8]):=⟨T.cl_Right,_,_,⟨h_Right_told,i30,k30⟩,ok_Moving_told F30 T  (fun i hi=>by simp only [List.mem_cons,List.not_mem_nil,or_false] at hi; rcases hi with rfl | rfl | rfl <;> first | exact M_Left_word | exact M_Right_word | exact M_Slide_word),b30⟩
 have M_Slide_told:MHas l.prog w K mg base 2 c_Slide "told" ["self"] (spTold ⟨c_Set,c_Copy,c_Sum,c_Gap,c_Low,c_High,c_Left,c_Right,c_Slide,c_And,c_Or,c_Unlike,c_Under,c_Pick,c_Mark,c_Turns,c_Step⟩ [6,7,8]):=⟨T.cl_Slide,_,_,⟨h_Slide_told,i30,k30⟩,ok_Moving_told F30 T  (fun i hi=>by simp only [List.mem_cons,List.not_mem_nil,or_false] at hi; rcases hi with rfl | rfl | rfl <;> first | exact M_Left_word | exact M_Right_word | exact M_Slide_word),b30⟩
 have M_Moving_told:MHas l.prog w K mg base 2 c_Left "told" ["self"] (spTold ⟨c_Set,c_Copy,c_Sum,c_Gap,c_Low,c_High,c_Left,c_Right,c_Slide,c_And,c_Or,c_Unlike,c_Under,c_Pick,c_Mark,c_Turns,c_Step⟩ [6,7,8]):=⟨T.cl_Left,_,_,⟨a30,i30,k30⟩,ok_Moving_told F30 T  (fun i hi=>by simp only [List.mem_cons,List.not_mem_nil,or_false] at hi; rcases hi with rfl | rfl | rfl <;> first | exact M_Left_word | exact M_Right_word | exact M_Slide_word),b30⟩
 have M_Pick_told:MHas l.prog w K mg base 1 c_Pick "told" ["self"] (spTold ⟨c_Set,c_Copy,c_Sum,c_Gap,c_Low,c_High,c_Left,c_Right,c_Slide,c_And,c_Or,c_Unlike,c_Under,c_Pick,c_Mark,c_Turns,c_Step⟩ [13]):=⟨T.cl_Pick,_,_,⟨a31,i31,k31⟩,ok_Pick_told F31 T ,b31⟩
 have M_Mark_told:MHas l.prog w K mg base 1 c_Mark "told" ["self"] (spTold ⟨c_Set,c_Copy,c_Sum,c_Gap,c_Low,c_High,c_Left,c_Right,c_Slide,c_And,c_Or,c_Unlike,c_Under,c_Pick,c_Mark,c_Turns,c_Step⟩ [14]):=⟨T.cl_Mark,_,_,⟨a32,i32,k32⟩,ok_Mark_told F32 T ,b32⟩
 have MW:∀ k,k < 15→MHas l.prog w K mg base 1 (fOf ⟨c_Set,c_Copy,c_Sum,c_Gap,c_Low,c_High,c_Left,c_Right,c_Slide,c_And,c_Or,c_Unlike,c_Under,c_Pick,c_Mark,c_Turns,c_Step⟩ k) "word" ["self"] (spWd (wOf k)):=fun k hk=>by
  rcases (by omega:k = 0∨k = 1∨k = 2∨k = 3∨k = 4∨k = 5∨k = 6∨k = 7∨k = 8∨k = 9∨k = 10∨k = 11∨k = 12∨k = 13∨k = 14) with rfl | rfl | rfl | rfl | rfl | rfl | rfl | rfl | rfl | rfl | rfl | rfl | rfl | rfl | rfl
  ·exact M_Set_word
  ·exact M_Copy_word
  ·exact M_Sum_word
  ·exact M_Gap_word
  ·exact M_Low_word
  ·exact M_High_word
  ·exact M_Left_word
  ·exact M_Right_word
  ·exact M_Slide_word
  ·exact M_And_word
  ·exact M_Or_word
  ·exact M_Unlike_word
  ·exact M_Under_word
  ·exact M_Pick_word
  ·exact M_Mark_word
 have MT:∀ k,k < 15→MHas l.prog w K mg base 2 (fOf ⟨c_Set,c_Copy,c_Sum,c_Gap,c_Low,c_High,c_Left,c_Right,c_Slide,c_And,c_Or,c_Unlike,c_Under,c_Pick,c_Mark,c_Turns,c_Step⟩ k) "told" ["self"] (spTold ⟨c_Set,c_Copy,c_Sum,c_Gap,c_Low,c_High,c_Left,c_Right,c_Slide,c_And,c_Or,c_Unlike,c_Under,c_Pick,c_Mark,c_Turns,c_Step⟩ [k]):=fun k hk=>by
  rcases (by omega:k = 0∨k = 1∨k = 2∨k = 3∨k = 4∨k = 5∨k = 6∨k = 7∨k = 8∨k = 9∨k = 10∨k = 11∨k = 12∨k = 13∨k = 14) with rfl | rfl | rfl | rfl | rfl | rfl | rfl | rfl | rfl | rfl | rfl | rfl | rfl | rfl | rfl
  ·exact (M_Set_told.mono (by decide)).imp fun vs H Q E h=>spTold_one (by decide) h
  ·exact (M_Copy_told.mono (by decide)).imp fun vs H Q E h=>spTold_one (by decide) h
  ·exact (M_Carrying_told.mono (by decide)).imp fun vs H Q E h=>spTold_one (by decide) h
  ·exact (M_Gap_told.mono (by decide)).imp fun vs H Q E h=>spTold_one (by decide) h
  ·exact (M_Joining_told.mono (by decide)).imp fun vs H Q E h=>spTold_one (by decide) h
  ·exact (M_High_told.mono (by decide)).imp fun vs H Q E h=>spTold_one (by decide) h
  ·exact (M_Moving_told.mono (by decide)).imp fun vs H Q E h=>spTold_one (by decide) h
  ·exact (M_Right_told.mono (by decide)).imp fun vs H Q E h=>spTold_one (by decide) h
  ·exact (M_Slide_told.mono (by decide)).imp fun vs H Q E h=>spTold_one (by decide) h
  ·exact (M_And_told.mono (by decide)).imp fun vs H Q E h=>spTold_one (by decide) h
  ·exact (M_Or_told.mono (by decide)).imp fun vs H Q E h=>spTold_one (by decide) h
  ·exact (M_Unlike_told.mono (by decide)).imp fun vs H Q E h=>spTold_one (by decide) h
  ·exact (M_Under_told.mono (by decide)).imp fun vs H Q E h=>spTold_one (by decide) h
  ·exact (M_Pick_told.mono (by decide)).imp fun vs H Q E h=>spTold_one (by decide) h
  ·exact (M_Mark_told.mono (by decide)).imp fun vs H Q E h=>spTold_one (by decide) h
 have MU:MHas l.prog w K mg base 3 c_Turns "told" ["self"] (spToldT ⟨c_Set,c_Copy,c_Sum,c_Gap,c_Low,c_High,c_Left,c_Right,c_Slide,c_And,c_Or,c_Unlike,c_Under,c_Pick,c_Mark,c_Turns,c_Step⟩):=⟨T.cl_Turns,_,_,⟨a33,i33,k33⟩,ok_Turns_told F33 T MT,b33⟩
 have MO:MHas l.prog w K mg base 4 c_Turns "told" ["self"] (spToldO ⟨c_Set,c_Copy,c_Sum,c_Gap,c_Low,c_High,c_Left,c_Right,c_Slide,c_And,c_Or,c_Unlike,c_Under,c_Pick,c_Mark,c_Turns,c_Step⟩):=⟨T.cl_Turns,_,_,⟨a33,i33,k33⟩,ok_Turns_told2 F33 T MT MU,b33⟩
 have H__law_begun:Has l.prog w K mg base 1 "_law_begun" ["_law_cell_here"] spBox:=⟨_,_,ok__law_begun F35 T ,b35,k35,PySem.W.mg_of X G a35⟩
 have H__law_draw:Has l.prog w K mg base 1 "_law_draw" ["_law_state", "_law_many"] spTake3:=⟨_,_,ok__law_draw F36 T ,b36,k36,PySem.W.mg_of X G a36⟩
 have H__law_names:Has l.prog w K mg base 2 "_law_names" ["_law_state"] spNames:=⟨_,_,ok__law_names F38 T H__law_draw,b38,k38,PySem.W.mg_of X G a38⟩
 have H__law_cell:Has l.prog w K mg base 1 "_law_cell" ["_law_script", "_law_k"] (spCell K):=⟨_,_,ok__law_cell F34 T ,b34,k34,PySem.W.mg_of X G a34⟩
 have H_is_register:Has l.prog w K mg base 1 "is_register" ["thing"] spReg:=⟨_,_,ok_is_register F1 T ,b1,k1,PySem.W.mg_of X G a1⟩
 have H__law_names_told:Has l.prog w K mg base 2 "_law_names_told" ["_law_state", "_law_names_here"] spNTold:=⟨_,_,ok__law_names_told F49 T H_is_register H__law_draw,b49,k49,PySem.W.mg_of X G a49⟩
 have H__law_name:Has l.prog w K mg base 2 "_law_name" ["_law_state", "_law_names_here"] spName:=⟨_,_,ok__law_name F39 T H__law_draw,b39,k39,PySem.W.mg_of X G a39⟩
 have H__law_sorts:Has l.prog w K mg base 1 "_law_sorts" [] spSorts:=⟨_,_,ok__law_sorts F40 T ,b40,k40,PySem.W.mg_of X G a40⟩
 have H__law_word:Has l.prog w K mg base 2 "_law_word" ["_law_state", "_law_width"] spWrd:=⟨_,_,ok__law_word F37 T H__law_draw,b37,k37,PySem.W.mg_of X G a37⟩
 have H__law_row:Has l.prog w K mg base 3 "_law_row" ["_law_state", "_law_width", "_law_names_here", "_law_at"] spRow:=⟨_,_,ok__law_row F41 T H__law_name H__law_sorts H__law_word H__law_draw,b41,k41,PySem.W.mg_of X G a41⟩
 have H__law_kinds:Has l.prog w K mg base 1 "_law_kinds" ["_law_row_here"] (spKinds ⟨c_Set,c_Copy,c_Sum,c_Gap,c_Low,c_High,c_Left,c_Right,c_Slide,c_And,c_Or,c_Unlike,c_Under,c_Pick,c_Mark,c_Turns,c_Step⟩):=⟨_,_,ok__law_kinds F44 T ,b44,k44,PySem.W.mg_of X G a44⟩
 have H__law_turns:Has l.prog w K mg base 5 "_law_turns" ["_law_state", "_law_rows", "_law_dues"] (spTurnsL ⟨c_Set,c_Copy,c_Sum,c_Gap,c_Low,c_High,c_Left,c_Right,c_Slide,c_And,c_Or,c_Unlike,c_Under,c_Pick,c_Mark,c_Turns,c_Step⟩):=⟨_,_,ok__law_turns F48 T H__law_draw H__law_kinds C_Turns MT MU MO M_Turns_word,b48,k48,PySem.W.mg_of X G a48⟩
 have H__law_made_pair:Has l.prog w K mg base 3 "_law_made_pair" ["_law_row_here"] (spMade ⟨c_Set,c_Copy,c_Sum,c_Gap,c_Low,c_High,c_Left,c_Right,c_Slide,c_And,c_Or,c_Unlike,c_Under,c_Pick,c_Mark,c_Turns,c_Step⟩ [4,5,9,10,11,12,6,7,8,14]):=⟨_,_,ok__law_made_pair F42 T C_Mark C_Low C_High C_And C_Or C_Unlike C_Under C_Left C_Right C_Slide,b42,k42,PySem.W.mg_of X G a42⟩
 have H__law_made:Has l.prog w K mg base 4 "_law_made" ["_law_row_here"] (spMade ⟨c_Set,c_Copy,c_Sum,c_Gap,c_Low,c_High,c_Left,c_Right,c_Slide,c_And,c_Or,c_Unlike,c_Under,c_Pick,c_Mark,c_Turns,c_Step⟩ [0,1,2,3,4,5,6,7,8,9,10,11,12,13,14]):=⟨_,_,ok__law_made F43 T H__law_made_pair C_Set C_Copy C_Sum C_Gap C_Pick,b43,k43,PySem.W.mg_of X G a43⟩
 have H__law_fields:Has l.prog w K mg base 1 "_law_fields" ["_law_row_here", "_law_word_here"] (spFields ⟨c_Set,c_Copy,c_Sum,c_Gap,c_Low,c_High,c_Left,c_Right,c_Slide,c_And,c_Or,c_Unlike,c_Under,c_Pick,c_Mark,c_Turns,c_Step⟩):=⟨_,_,ok__law_fields F45 T ,b45,k45,PySem.W.mg_of X G a45⟩
 have H__law_any:Has l.prog w K mg base 5 "_law_any" ["_law_state", "_law_due"] spAny:=⟨_,_,ok__law_any F47 T H__law_made H__law_draw H__law_fields MW,b47,k47,PySem.W.mg_of X G a47⟩
 have H__law_told:Has l.prog w K mg base 3 "_law_told" ["_law_row_here", "_law_due"] (spLTold ⟨c_Set,c_Copy,c_Sum,c_Gap,c_Low,c_High,c_Left,c_Right,c_Slide,c_And,c_Or,c_Unlike,c_Under,c_Pick,c_Mark,c_Turns,c_Step⟩):=⟨_,_,ok__law_told F46 T H__law_sorts H__law_kinds H__law_fields MW MT,b46,k46,PySem.W.mg_of X G a46⟩
 exact ok_law F50 T H__law_begun H__law_names H__law_draw H__law_cell H__law_names_told H__law_row H__law_turns H__law_made H__law_any H__law_told
theorem walk {l:PySem.W.OpenLaw} {q:Program} {loose:List Str} {XP:(Str→Option Value)→Heap→Prop} {YP:World→Heap→Prop} {d:DefRec} {K:Params→PySem.W.Frag} (hn:l.most = some 63) (hdf:d.params.defaults = [])
  (hY:∀ (w:World) (h:Heap),YP w h→(K w.params).In h)
  (F:∀ (w:World) (mg:Str→Option Value) (fa:Addr) (h:Heap),(K w.params).In h→h.Ns mainGlobals mg→mg d.name = some (.ref fa) →
   ∃ fd:FuncData,(∀ (s:Shared) (u:Value),BindsTo s fd ⟨[u],[]⟩ [("_law_script",u)])∧∀ base:Heap,(K w.params).In base→base.Ns mainGlobals mg→FnOk l.prog w (K w.params) mg base CX0 6 fa fd ["_law_script"] (spLaw (K w.params))) :
  PySem.W.WalkO q loose XP YP l.row.toRowW d [] (fun f vs=>PySem.call f vs) :=
 L2.walk_of (n:=63) (k:=6) (x:="_law_script") (CX:=fun _=>CX0) (sp:=fun w=>spLaw (K w.params)) hn (by decide) hdf ⟨rfl,by decide,by decide,rfl⟩ hY F (fun _ _ a ns hl _ hS=>⟨a,ns,rfl,hS,hl,fun _=>rfl⟩) fun _ _ _ _ _ z=>z
end Ow
open PySem PySem.W PyProof.Rows
def PySem.W.Fast.tw8223580303694719457:Nat:=0
def PySem.W.Fast.tw4390550340659368993:Nat:=0
def PySem.W.Fast.tw8043405960972998956:Nat:=0
def PySem.W.Fast.tw14844526166224576940:Nat:=0
def PySem.W.Fast.tw18443667495422608165:Nat:=0
def PySem.W.Fast.tw6370795006351849393:Nat:=0
def PySem.W.Fast.tw11466296425734596986:Nat:=0
def PySem.W.Fast.tw7261109128806744159:Nat:=0
def PySem.W.Fast.tw13883145718329147975:Nat:=0
def PySem.W.Fast.tw6006847604391421296:Nat:=0
def PySem.W.Fast.tw12524022813639433607:Nat:=0
def PySem.W.Fast.tw5037381410960670561:Nat:=0
def PySem.W.Fast.tw2822153084784359484:Nat:=0
def PySem.W.Fast.tw1318296387546502915:Nat:=0
def PySem.W.Fast.tw13977665063367035936:Nat:=0
def PySem.W.Fast.tw16517338379821246960:Nat:=0
def PySem.W.Fast.tw1509085605243478092:Nat:=0
def PySem.W.Fast.tw18408050190552724551:Nat:=0
def PySem.W.Fast.tw6706375943202886903:Nat:=0
def PySem.W.Fast.tw13235606442358601253:Nat:=0
def PySem.W.Fast.tw10748290448128334366:Nat:=0
def PySem.W.Fast.tw2006094932436565499:Nat:=0
def PySem.W.Fast.tw15100149703637121705:Nat:=0
def PySem.W.Fast.tw11823341614055680715:Nat:=0
def PySem.W.Fast.tw13004158752600735242:Nat:=0
def PySem.W.Fast.tw8225818154074166873:Nat:=0
def PySem.W.Fast.tw1929369367015388717:Nat:=0
def PySem.W.Fast.tw7847926423135189803:Nat:=0
def PySem.W.Fast.tw6128623489048305779:Nat:=0
def PySem.W.Fast.tw3022390145106251391:Nat:=0
def PySem.W.Fast.tw1697952328151404198:Nat:=0
def PySem.W.Fast.tw5168823668824805954:Nat:=0
def PySem.W.Fast.tw5491945282352156923:Nat:=0
def PySem.W.Fast.tw16914498908631761640:Nat:=0
def PySem.W.Fast.tw3395824375348934312:Nat:=0
def PySem.W.Fast.tw18315431168819718692:Nat:=0
def PySem.W.Fast.tw8139340358220183096:Nat:=0
def PySem.W.Fast.tw3904565501609835938:Nat:=0
def PySem.W.Fast.tw1184225083347275430:Nat:=0
def PySem.W.Fast.tw9501097581798724400:Nat:=0
def PySem.W.Fast.tw2341837645502784652:Nat:=0
def PySem.W.Fast.tw18433462198772681600:Nat:=0
def PySem.W.Fast.tw12140232346947465739:Nat:=0
def PySem.W.Fast.tw2572334410561222460:Nat:=0
def PySem.W.Fast.tw9634432565763095470:Nat:=0
def PySem.W.Fast.tw15320858936386040170:Nat:=0
def PySem.W.Fast.tw4451572177955780902:Nat:=0
def PySem.W.Fast.tw16202014686053769861:Nat:=0
def PySem.W.Fast.tw18262516801519361295:Nat:=0
def PySem.W.Fast.tw12302093639145015861:Nat:=0
def PySem.W.Fast.tw11731193609518990567:Nat:=0
def PySem.W.Fast.tw16035796711168429263:Nat:=0
def PySem.W.Fast.tw4258511418073237449:Nat:=0
def PySem.W.Fast.tw15929957582883534501:Nat:=0
def PySem.W.Fast.tw11720128542288999114:Nat:=0
def PySem.W.Fast.tw3767377218768898903:Nat:=0
set_option maxRecDepth 100000 in
set_option maxHeartbeats 0 in
theorem PySem.Challenge.cw_overwise_k70_rows_told_holds : PySem.Challenge.rw_overwise_k70_rows_told.Holds := by
 w_on; o_law; k_head; (case hw=>w_witness2)
 k_fill
 refine Ow.walk (l:=PySem.Challenge.rw_overwise_k70_rows_told) rfl rfl (fun w h Y=>PySem.W.kIn_of Y) ?F
 case F =>
  intro w mg fa h KX G hmg
  refine' Ow.all_mk KX G hmg ?a1 ?l1 ?c1 ?k1 ?a2 ?i2 ?l2 ?c2 ?k2 ?a3 ?i3 ?l3 ?c3 ?k3 ?a4 ?i4 ?l4 ?c4 ?k4 ?a5 ?i5 ?l5 ?c5 ?k5 ?a6 ?i6 ?l6 ?c6 ?k6 ?a7 ?i7 ?l7 ?c7 ?k7 ?a8 ?i8 ?l8 ?c8 ?k8 ?a9 ?i9 ?l9 ?c9 ?k9 ?a10 ?i10 ?l10 ?c10 ?k10 ?a11 ?i11 ?l11 ?c11 ?k11 ?a12 ?i12 ?l12 ?c12 ?k12 ?a13 ?i13 ?l13 ?c13 ?k13 ?a14 ?i14 ?l14 ?c14 ?k14 ?a15 ?i15 ?l15 ?c15 ?k15 ?a16 ?i16 ?l16 ?c16 ?k16 ?a17 ?i17 ?l17 ?c17 ?k17 ?a18 ?i18 ?l18 ?c18 ?k18 ?a19 ?i19 ?l19 ?c19 ?k19 ?a20 ?i20 ?h_Gap___init__ ?l20 ?c20 ?k20 ?a21 ?i21 ?h_High___init__ ?h_And___init__ ?h_Or___init__ ?h_Unlike___init__ ?h_Under___init__ ?l21 ?c21 ?k21 ?a22 ?i22 ?h_Right___init__ ?h_Slide___init__ ?l22 ?c22 ?k22 ?a23 ?i23 ?l23 ?c23 ?k23 ?a24 ?i24 ?l24 ?c24 ?k24 ?a25 ?i25 ?l25 ?c25 ?k25 ?a26 ?i26 ?l26 ?c26 ?k26 ?a27 ?i27 ?l27 ?c27 ?k27 ?a28 ?i28 ?h_Gap_told ?l28 ?c28 ?k28 ?a29 ?i29 ?h_High_told ?h_And_told ?h_Or_told ?h_Unlike_told ?h_Under_told ?l29 ?c29 ?k29 ?a30 ?i30 ?h_Right_told ?h_Slide_told ?l30 ?c30 ?k30 ?a31 ?i31 ?l31 ?c31 ?k31 ?a32 ?i32 ?l32 ?c32 ?k32 ?a33 ?i33 ?l33 ?c33 ?k33 ?a34 ?l34 ?c34 ?k34 ?a35 ?l35 ?c35 ?k35 ?a36 ?l36 ?c36 ?k36 ?a37 ?l37 ?c37 ?k37 ?a38 ?l38 ?c38 ?k38 ?a39 ?l39 ?c39 ?k39 ?a40 ?l40 ?c40 ?k40 ?a41 ?l41 ?c41 ?k41 ?a42 ?l42 ?c42 ?k42 ?a43 ?l43 ?c43 ?k43 ?a44 ?l44 ?c44 ?k44 ?a45 ?l45 ?c45 ?k45 ?a46 ?l46 ?c46 ?k46 ?a47 ?l47 ?c47 ?k47 ?a48 ?l48 ?c48 ?k48 ?a49 ?l49 ?c49 ?k49 ?a50 ?l50 ?c50 ?k50 ?aC_Set ?pg_Set ?hd_Set ?po_Set ?sa_Set ?mk_Set ?kc_Set ?na_Set_goal ?na_Set_bits ?aC_Copy ?pg_Copy ?hd_Copy ?po_Copy ?sa_Copy ?mk_Copy ?kc_Copy ?na_Copy_goal ?na_Copy_one ?aC_Sum ?pg_Sum ?hd_Sum ?po_Sum ?sa_Sum ?mk_Sum ?kc_Sum ?na_Sum_goal ?na_Sum_carry ?na_Sum_one ?na_Sum_other ?aC_Gap ?pg_Gap ?hd_Gap ?po_Gap ?sa_Gap ?mk_Gap ?kc_Gap ?na_Gap_goal ?na_Gap_carry ?na_Gap_one ?na_Gap_other ?aC_Low ?pg_Low ?hd_Low ?po_Low ?sa_Low ?mk_Low ?kc_Low ?na_Low_goal ?na_Low_one ?na_Low_other ?aC_High ?pg_High ?hd_High ?po_High ?sa_High ?mk_High ?kc_High ?na_High_goal ?na_High_one ?na_High_other ?aC_Left ?pg_Left ?hd_Left ?po_Left ?sa_Left ?mk_Left ?kc_Left ?na_Left_goal ?na_Left_one ?na_Left_k ?aC_Right ?pg_Right ?hd_Right ?po_Right ?sa_Right ?mk_Right ?kc_Right ?na_Right_goal ?na_Right_one ?na_Right_k ?aC_Slide ?pg_Slide ?hd_Slide ?po_Slide ?sa_Slide ?mk_Slide ?kc_Slide ?na_Slide_goal ?na_Slide_one ?na_Slide_k ?aC_And ?pg_And ?hd_And ?po_And ?sa_And ?mk_And ?kc_And ?na_And_goal ?na_And_one ?na_And_other ?aC_Or ?pg_Or ?hd_Or ?po_Or ?sa_Or ?mk_Or ?kc_Or ?na_Or_goal ?na_Or_one ?na_Or_other ?aC_Unlike ?pg_Unlike ?hd_Unlike ?po_Unlike ?sa_Unlike ?mk_Unlike ?kc_Unlike ?na_Unlike_goal ?na_Unlike_one ?na_Unlike_other ?aC_Under ?pg_Under ?hd_Under ?po_Under ?sa_Under ?mk_Under ?kc_Under ?na_Under_goal ?na_Under_one ?na_Under_other ?aC_Pick ?pg_Pick ?hd_Pick ?po_Pick ?sa_Pick ?mk_Pick ?kc_Pick ?na_Pick_goal ?na_Pick_by ?na_Pick_one ?na_Pick_other ?aC_Mark ?pg_Mark ?hd_Mark ?po_Mark ?sa_Mark ?mk_Mark ?kc_Mark ?na_Mark_line ?na_Mark_mark ?na_Mark_by ?aC_Turns ?pg_Turns ?hd_Turns ?po_Turns ?sa_Turns ?mk_Turns ?kc_Turns ?na_Turns_times ?na_Turns_steps ?aC_Step ?pg_Step ?hd_Step ?po_Step ?sa_Step      ?aS_LETTERS ?aS_LETTERS_AND_FIGURES ?kf_og ?kf_ot ?kf_kr_kinds ?z_isinstance ?z_int ?z_bool ?z_str ?z_list ?z_tuple ?z_dict ?z_len ?z_max ?z_min ?z_range ?z_all
  (case aC_Set=>k_is); (case pg_Set=>k_is); (case hd_Set=>k_is); (case po_Set=>k_is); (case sa_Set=>k_is)
  (case mk_Set=>k_is); (case kc_Set=>k_is)
  (case na_Set_goal=>k_is)
  (case na_Set_bits=>k_is)
  (case aC_Copy=>k_is); (case pg_Copy=>k_is); (case hd_Copy=>k_is); (case po_Copy=>k_is); (case sa_Copy=>k_is)
  (case mk_Copy=>k_is); (case kc_Copy=>k_is)
  (case na_Copy_goal=>k_is)
  (case na_Copy_one=>k_is)
  (case aC_Sum=>k_is); (case pg_Sum=>k_is); (case hd_Sum=>k_is); (case po_Sum=>k_is); (case sa_Sum=>k_is)
  (case mk_Sum=>k_is); (case kc_Sum=>k_is)
  (case na_Sum_goal=>k_is)
  (case na_Sum_carry=>k_is)
  (case na_Sum_one=>k_is)
  (case na_Sum_other=>k_is)
  (case aC_Gap=>k_is); (case pg_Gap=>k_is); (case hd_Gap=>k_is); (case po_Gap=>k_is); (case sa_Gap=>k_is)
  (case mk_Gap=>k_is); (case kc_Gap=>k_is)
  (case na_Gap_goal=>k_is)
  (case na_Gap_carry=>k_is)
  (case na_Gap_one=>k_is)
  (case na_Gap_other=>k_is)
  (case aC_Low=>k_is); (case pg_Low=>k_is); (case hd_Low=>k_is); (case po_Low=>k_is); (case sa_Low=>k_is)
  (case mk_Low=>k_is); (case kc_Low=>k_is)
  (case na_Low_goal=>k_is)
  (case na_Low_one=>k_is)
  (case na_Low_other=>k_is)
  (case aC_High=>k_is); (case pg_High=>k_is); (case hd_High=>k_is); (case po_High=>k_is); (case sa_High=>k_is)
  (case mk_High=>k_is); (case kc_High=>k_is)
  (case na_High_goal=>k_is)
  (case na_High_one=>k_is)
  (case na_High_other=>k_is)
  (case aC_Left=>k_is); (case pg_Left=>k_is); (case hd_Left=>k_is); (case po_Left=>k_is); (case sa_Left=>k_is)
  (case mk_Left=>k_is); (case kc_Left=>k_is)
  (case na_Left_goal=>k_is)
  (case na_Left_one=>k_is)
  (case na_Left_k=>k_is)
  (case aC_Right=>k_is); (case pg_Right=>k_is); (case hd_Right=>k_is); (case po_Right=>k_is); (case sa_Right=>k_is)
  (case mk_Right=>k_is); (case kc_Right=>k_is)
  (case na_Right_goal=>k_is)
  (case na_Right_one=>k_is)
  (case na_Right_k=>k_is)
  (case aC_Slide=>k_is); (case pg_Slide=>k_is); (case hd_Slide=>k_is); (case po_Slide=>k_is); (case sa_Slide=>k_is)
  (case mk_Slide=>k_is); (case kc_Slide=>k_is)
  (case na_Slide_goal=>k_is)
  (case na_Slide_one=>k_is)
  (case na_Slide_k=>k_is)
  (case aC_And=>k_is); (case pg_And=>k_is); (case hd_And=>k_is); (case po_And=>k_is); (case sa_And=>k_is)
  (case mk_And=>k_is); (case kc_And=>k_is)
  (case na_And_goal=>k_is)
  (case na_And_one=>k_is)
  (case na_And_other=>k_is)
  (case aC_Or=>k_is); (case pg_Or=>k_is); (case hd_Or=>k_is); (case po_Or=>k_is); (case sa_Or=>k_is)
  (case mk_Or=>k_is); (case kc_Or=>k_is)
  (case na_Or_goal=>k_is)
  (case na_Or_one=>k_is)
  (case na_Or_other=>k_is)
  (case aC_Unlike=>k_is); (case pg_Unlike=>k_is); (case hd_Unlike=>k_is); (case po_Unlike=>k_is); (case sa_Unlike=>k_is)
  (case mk_Unlike=>k_is); (case kc_Unlike=>k_is)
  (case na_Unlike_goal=>k_is)
  (case na_Unlike_one=>k_is)
  (case na_Unlike_other=>k_is)
  (case aC_Under=>k_is); (case pg_Under=>k_is); (case hd_Under=>k_is); (case po_Under=>k_is); (case sa_Under=>k_is)
  (case mk_Under=>k_is); (case kc_Under=>k_is)
  (case na_Under_goal=>k_is)
  (case na_Under_one=>k_is)
  (case na_Under_other=>k_is)
  (case aC_Pick=>k_is); (case pg_Pick=>k_is); (case hd_Pick=>k_is); (case po_Pick=>k_is); (case sa_Pick=>k_is)
  (case mk_Pick=>k_is); (case kc_Pick=>k_is)
  (case na_Pick_goal=>k_is)
  (case na_Pick_by=>k_is)
  (case na_Pick_one=>k_is)
  (case na_Pick_other=>k_is)
  (case aC_Mark=>k_is); (case pg_Mark=>k_is); (case hd_Mark=>k_is); (case po_Mark=>k_is); (case sa_Mark=>k_is)
  (case mk_Mark=>k_is); (case kc_Mark=>k_is)
  (case na_Mark_line=>k_is)
  (case na_Mark_mark=>k_is)
  (case na_Mark_by=>k_is)
  (case aC_Turns=>k_is); (case pg_Turns=>k_is); (case hd_Turns=>k_is); (case po_Turns=>k_is); (case sa_Turns=>k_is)
  (case mk_Turns=>k_is); (case kc_Turns=>k_is)
  (case na_Turns_times=>k_is)
  (case na_Turns_steps=>k_is)
  (case aC_Step=>k_is); (case pg_Step=>k_is); (case hd_Step=>k_is); (case po_Step=>k_is); (case sa_Step=>k_is)
  (case a1=>k_is); (case l1=>k_is); (case c1=>k_is); (case k1=>k_is)
  (case a2=>k_is); (case i2=>k_is); (case l2=>k_is); (case c2=>k_is); (case k2=>k_is)
  (case a3=>k_is); (case i3=>k_is); (case l3=>k_is); (case c3=>k_is); (case k3=>k_is)
  (case a4=>k_is); (case i4=>k_is); (case l4=>k_is); (case c4=>k_is); (case k4=>k_is)
  (case a5=>k_is); (case i5=>k_is); (case l5=>k_is); (case c5=>k_is); (case k5=>k_is)
  (case a6=>k_is); (case i6=>k_is); (case l6=>k_is); (case c6=>k_is); (case k6=>k_is)
  (case a7=>k_is); (case i7=>k_is); (case l7=>k_is); (case c7=>k_is); (case k7=>k_is)
  (case a8=>k_is); (case i8=>k_is); (case l8=>k_is); (case c8=>k_is); (case k8=>k_is)
  (case a9=>k_is); (case i9=>k_is); (case l9=>k_is); (case c9=>k_is); (case k9=>k_is)
  (case a10=>k_is); (case i10=>k_is); (case l10=>k_is); (case c10=>k_is); (case k10=>k_is)
  (case a11=>k_is); (case i11=>k_is); (case l11=>k_is); (case c11=>k_is); (case k11=>k_is)
  (case a12=>k_is); (case i12=>k_is); (case l12=>k_is); (case c12=>k_is); (case k12=>k_is)
  (case a13=>k_is); (case i13=>k_is); (case l13=>k_is); (case c13=>k_is); (case k13=>k_is)
  (case a14=>k_is); (case i14=>k_is); (case l14=>k_is); (case c14=>k_is); (case k14=>k_is)
  (case a15=>k_is); (case i15=>k_is); (case l15=>k_is); (case c15=>k_is); (case k15=>k_is)
  (case a16=>k_is); (case i16=>k_is); (case l16=>k_is); (case c16=>k_is); (case k16=>k_is)
  (case a17=>k_is); (case i17=>k_is); (case l17=>k_is); (case c17=>k_is); (case k17=>k_is)
  (case a18=>k_is); (case i18=>k_is); (case l18=>k_is); (case c18=>k_is); (case k18=>k_is)
  (case a19=>k_is); (case i19=>k_is); (case l19=>k_is); (case c19=>k_is); (case k19=>k_is)
  (case a20=>k_is); (case i20=>k_is); (case h_Gap___init__=>k_is); (case l20=>k_is); (case c20=>k_is); (case k20=>k_is)
  (case a21=>k_is); (case i21=>k_is); (case h_High___init__=>k_is); (case h_And___init__=>k_is); (case h_Or___init__=>k_is); (case h_Unlike___init__=>k_is); (case h_Under___init__=>k_is); (case l21=>k_is); (case c21=>k_is); (case k21=>k_is)
  (case a22=>k_is); (case i22=>k_is); (case h_Right___init__=>k_is); (case h_Slide___init__=>k_is); (case l22=>k_is); (case c22=>k_is); (case k22=>k_is)
  (case a23=>k_is); (case i23=>k_is); (case l23=>k_is); (case c23=>k_is); (case k23=>k_is)
  (case a24=>k_is); (case i24=>k_is); (case l24=>k_is); (case c24=>k_is); (case k24=>k_is)
  (case a25=>k_is); (case i25=>k_is); (case l25=>k_is); (case c25=>k_is); (case k25=>k_is)
  (case a26=>k_is); (case i26=>k_is); (case l26=>k_is); (case c26=>k_is); (case k26=>k_is)
  (case a27=>k_is); (case i27=>k_is); (case l27=>k_is); (case c27=>k_is); (case k27=>k_is)
  (case a28=>k_is); (case i28=>k_is); (case h_Gap_told=>k_is); (case l28=>k_is); (case c28=>k_is); (case k28=>k_is)
  (case a29=>k_is); (case i29=>k_is); (case h_High_told=>k_is); (case h_And_told=>k_is); (case h_Or_told=>k_is); (case h_Unlike_told=>k_is); (case h_Under_told=>k_is); (case l29=>k_is); (case c29=>k_is); (case k29=>k_is)
  (case a30=>k_is); (case i30=>k_is); (case h_Right_told=>k_is); (case h_Slide_told=>k_is); (case l30=>k_is); (case c30=>k_is); (case k30=>k_is)
  (case a31=>k_is); (case i31=>k_is); (case l31=>k_is); (case c31=>k_is); (case k31=>k_is)
  (case a32=>k_is); (case i32=>k_is); (case l32=>k_is); (case c32=>k_is); (case k32=>k_is)
  (case a33=>k_is); (case i33=>k_is); (case l33=>k_is); (case c33=>k_is); (case k33=>k_is)
  (case a34=>k_is); (case l34=>k_is); (case c34=>k_is); (case k34=>k_is)
  (case a35=>k_is); (case l35=>k_is); (case c35=>k_is); (case k35=>k_is)
  (case a36=>k_is); (case l36=>k_is); (case c36=>k_is); (case k36=>k_is)
  (case a37=>k_is); (case l37=>k_is); (case c37=>k_is); (case k37=>k_is)
  (case a38=>k_is); (case l38=>k_is); (case c38=>k_is); (case k38=>k_is)
  (case a39=>k_is); (case l39=>k_is); (case c39=>k_is); (case k39=>k_is)
  (case a40=>k_is); (case l40=>k_is); (case c40=>k_is); (case k40=>k_is)
  (case a41=>k_is); (case l41=>k_is); (case c41=>k_is); (case k41=>k_is)
  (case a42=>k_is); (case l42=>k_is); (case c42=>k_is); (case k42=>k_is)
  (case a43=>k_is); (case l43=>k_is); (case c43=>k_is); (case k43=>k_is)
  (case a44=>k_is); (case l44=>k_is); (case c44=>k_is); (case k44=>k_is)
  (case a45=>k_is); (case l45=>k_is); (case c45=>k_is); (case k45=>k_is)
  (case a46=>k_is); (case l46=>k_is); (case c46=>k_is); (case k46=>k_is)
  (case a47=>k_is); (case l47=>k_is); (case c47=>k_is); (case k47=>k_is)
  (case a48=>k_is); (case l48=>k_is); (case c48=>k_is); (case k48=>k_is)
  (case a49=>k_is); (case l49=>k_is); (case c49=>k_is); (case k49=>k_is)
  (case a50=>k_is); (case l50=>k_is); (case c50=>k_is); (case k50=>k_is)
  (case aS_LETTERS=>k_is)
  (case aS_LETTERS_AND_FIGURES=>k_is)
  (case kf_og=>k_is)
  (case kf_ot=>k_is)
  (case kf_kr_kinds=>kernel_rfl)
  (case z_isinstance=>k_is)
  (case z_int=>k_is)
  (case z_bool=>k_is)
  (case z_str=>k_is)
  (case z_list=>k_is)
  (case z_tuple=>k_is)
  (case z_dict=>k_is)
  (case z_len=>k_is)
  (case z_max=>k_is)
  (case z_min=>k_is)
  (case z_range=>k_is)
  (case z_all=>k_is)
