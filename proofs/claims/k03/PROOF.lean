import PyProof.Rows.All
import Wide.All
import OpenK.AllK
import Wide.FinOn
import Lean
import PyProof.EqAt
import PyProof.EqKinds
import PyProof.TupleCall
import KE.BitLaws
import KE.IntBitsLaws
import KE.KIntText
import PySem.Challenge.RW_overwise_k03_shown_and_read
set_option Elab.async false
set_option linter.all false
set_option maxRecDepth 100000
namespace L2
open PySem PySem.Spec PyProof.Rows
abbrev Key:=Sum Int Str
def keyIs:Key→Value→Bool
 | .inl k,v=>Value.isInt k v
 | .inr x,v=>Value.isStrOf x v
def keyH (w:World):Key→Int
 | .inl k=>hashInt k
 | .inr x=>hashStr w x
theorem keyIs_shape:∀ {k:Key} {v:Value},keyIs k v = true→(∃ i t,k = Sum.inl i∧v = Value.int i t)∨(∃ x t,k = Sum.inr x∧v = Value.str x t)
 | .inl i,v,h=>by
  obtain ⟨t,e⟩:=Value.isInt_shape (k:=i) (v:=v) h
  exact .inl ⟨i,t,rfl,e⟩
 | .inr x,v,h=>by
  obtain ⟨t,e⟩:=Value.isStrOf_shape (x:=x) (v:=v) h
  exact .inr ⟨x,t,rfl,e⟩
theorem key_ll (a b:Int):decide ((Sum.inl a:Key) = Sum.inl b) = (a == b):=by
 by_cases e:a = b
 ·subst e; simp
 ·have h:¬ (Sum.inl a:Key) = Sum.inl b:=fun q=>e (Sum.inl.inj q)
  rw [decide_eq_false h]
  exact (beq_eq_false_iff_ne.mpr e).symm
theorem key_rr (a b:Str):decide ((Sum.inr a:Key) = Sum.inr b) = decide (a = b):=by
 by_cases e:a = b
 ·subst e; simp
 ·have h:¬ (Sum.inr a:Key) = Sum.inr b:=fun q=>e (Sum.inr.inj q)
  rw [decide_eq_false h,decide_eq_false e]
theorem key_lr (a:Int) (b:Str):decide ((Sum.inl a:Key) = Sum.inr b) = false:=decide_eq_false (fun q=>nomatch q)
theorem key_rl (a:Str) (b:Int):decide ((Sum.inr a:Key) = Sum.inl b) = false:=decide_eq_false (fun q=>nomatch q)
def mixKind (prog:Program) (w:World):PySem.KeyKind prog w Key where
 is:=keyIs
 hash:=keyH w
 inj:=fun v a b ha hb=>by
  rcases keyIs_shape ha with ⟨i,t,rfl,rfl⟩ | ⟨x,t,rfl,rfl⟩
  ·rcases keyIs_shape hb with ⟨j,u,rfl,e⟩ | ⟨y,u,rfl,e⟩
   ·injection e with e1 _; rw [e1]
   ·exact nomatch e
  ·rcases keyIs_shape hb with ⟨j,u,rfl,e⟩ | ⟨y,u,rfl,e⟩
   ·exact nomatch e
   ·injection e with e1 _; rw [e1]
 byValue:=fun k v h=>by
  rcases keyIs_shape h with ⟨i,t,rfl,rfl⟩ | ⟨x,t,rfl,rfl⟩ <;> rfl
 pyHash:=fun hv h=>by
  rcases keyIs_shape hv with ⟨i,t,rfl,rfl⟩ | ⟨x,t,rfl,rfl⟩
  ·exact wpAny_pyHash_int h
  ·exact wpAny_pyHash_str h
 eqBool:=fun hu hv h=>by
  rcases keyIs_shape hu with ⟨i,t,rfl,rfl⟩ | ⟨x,t,rfl,rfl⟩
  ·rcases keyIs_shape hv with ⟨j,u,rfl,rfl⟩ | ⟨y,u,rfl,rfl⟩
   ·rw [key_ll] at h; exact wpAny_eqBool_int h
   ·rw [key_lr] at h; exact SeqAt.EqAt.int_str i t y u _ _ _ _ h
  ·rcases keyIs_shape hv with ⟨j,u,rfl,rfl⟩ | ⟨y,u,rfl,rfl⟩
   ·rw [key_rl] at h; exact SeqAt.EqAt.str_int x t j u _ _ _ _ h
   ·rw [key_rr] at h; exact wpAny_eqBool_str h
 «strs»:=fun k x t v h=>by
  rcases keyIs_shape h with ⟨i,u,rfl,e⟩ | ⟨y,u,rfl,e⟩
  ·exact nomatch e
  ·injection e with e1 _
   subst e1
   cases v <;> rfl
end L2
namespace L2
open PySem PySem.Spec PyProof.Rows
inductive V where
 | non | bl (b:Bool) | int (i:Int) | str (x:Str) | byt (b:Array UInt8) | flt (b:UInt64) | ref (a:Addr) | ty (n:String)
 deriving DecidableEq
def RelV:V→Value→Prop
 | .non,u=>u = Value.none
 | .bl b,u=>u = Value.bool b
 | .int i,u=>∃ t,u = Value.int i t
 | .str x,u=>∃ t,u = Value.str x t
 | .byt b,u=>∃ t,u = Value.bytes b t
 | .flt b,u=>∃ t,u = Value.float b t
 | .ref a,u=>u = Value.ref a
 | .ty n,u=>u = Value.type n
abbrev Vals:List V→List Value→Prop:=Paired RelV
theorem Vals.length {xs:List V} {us:List Value} (r:Vals xs us):xs.length = us.length:=Paired.length r
theorem Vals.get:∀ {xs:List V} {us:List Value} {i:Nat} {x:V},Vals xs us→xs[i]? = some x→∃ u,us[i]? = some u∧RelV x u
 | _,_,_,_,.nil,e=>by simp at e
 | _,_,0,_,.cons r _,e=>by simp at e; subst e; exact ⟨_,rfl,r⟩
 | _,_,i + 1,x,.cons _ t,e=>by
  obtain ⟨u,h1,h2⟩:=Vals.get (i:=i) (x:=x) t (by simpa using e)
  exact ⟨u,by simpa using h1,h2⟩
theorem Vals.set {x:V} {u:Value} (r:RelV x u):∀ {xs:List V} {us:List Value} (i:Nat),Vals xs us→Vals (xs.set i x) (us.set i u)
 | _,_,_,.nil=>.nil
 | _,_,0,.cons _ t=>.cons r t
 | _,_,i + 1,.cons q t=>.cons q (Vals.set r i t)
theorem Vals.append:∀ {xs ys:List V} {us ws:List Value},Vals xs us→Vals ys ws→Vals (xs ++ ys) (us ++ ws)
 | _,_,_,_,.nil,s=>s
 | _,_,_,_,.cons r t,s=>.cons r (Vals.append t s)
def RelO:Option V→Option Value→Prop
 | some v,some u=>RelV v u
 | none,none=>True
 | _,_=>False
def KV {κ:Type}:List (κ × V)→List (κ × Value)→Prop:=Paired fun (p:κ × V) (q:κ × Value)=>p.1 = q.1∧RelV p.2 q.2
def kV:Key→V
 | .inl i=>.int i
 | .inr x=>.str x
inductive HO where
 /-- a list -/
 | lst (xs:List V)
 /-- a tuple (never changes) -/
 | tup (xs:List V)
 /-- a dict whose keys are ints and texts; one whose keys are tuples of ints and texts (the empty one is both) -/
 | dK (kvs:List (Key × V)) | dT (kvs:List (List Key × V))
 /-- a set of ints: its members,its size -/
 | set (S:Int→Bool) (n:Nat)
 /-- an instance of the class at C,its dict at dx,its attributes -/
 | ins (C dx:Addr) (fs:List (Str × V))
 /-- the dict of the instance at x -/
 | own (x:Addr)
 /-- the dict of an exception -/
 | xd (fs:List (Str × V))
 /-- a bound method,f of x -/
 | met (f x:Addr)
 /-- a range object lo,lo + 1,.. below hi -/
 | rng (lo hi:Int)
 /-- a thing that is known to the object (the script; a dict while a loop walks it): read,never written while it is so -/
 | frz (o:Obj) (u:HO)
 /-- a code object's table -/
 | tbl (ps:Array Value)
 /-- any other thing,by what is true of its one object (a def of one's own: SetO a S n:=HO.ext fun h=>..) -/
 | ext (φ:Heap→Prop)
abbrev Hp:=Addr→Option HO
def upd (H:Hp) (a:Addr) (o:HO):Hp:=fun b=>if b = a then some o else H b
theorem upd_same {H:Hp} {a:Addr} {o:HO}:upd H a o a = some o:=by unfold upd; rw [if_pos rfl]
theorem upd_ne {H:Hp} {a b:Addr} {o:HO} (h:b ≠ a):upd H a o b = H b:=by unfold upd; rw [if_neg h]
theorem ne_of_none {H:Hp} {a b:Addr} {o:HO} (h:H a = some o) (h':H b = none):a ≠ b:=by
 intro e; subst e; rw [h] at h'; cases h'
section
variable (P:Program) (w:World)
def ObjOk (H:Hp) (h:Heap) (a:Addr):HO→Prop
 | .lst xs=>xs.length≤sizeLine∧∃ (its:List Value) (n:Nat),Vals xs its∧h.get? a = some { cls:=.type "list",data:=.seq its.toArray n }
 | .tup xs=>xs.length≤sizeLine∧∃ its:List Value,Vals xs its∧IsTup h a its.toArray
 | .dK kvs=>kvs.length≤sizeLine∧(a == sysModules) = false∧∃ vs,KV kvs vs∧h.DictOf (mixKind P w) a vs
 | .dT kvs=>kvs.length≤sizeLine∧(a == sysModules) = false∧∃ xs:List (List Key × Addr × Value),
   Paired (fun (p:List Key × V) (q:List Key × Addr × Value)=>p.1 = q.1∧H q.2.1 = some (.tup (p.1.map kV))∧RelV p.2 q.2.2) kvs xs ∧
   ∃ o es ep,h.get? a = some o∧o.ExactDict∧o.data = .dict es ep∧es.toList = xs.map (entryOfKey (tupleKind (mixKind P w)))∧(xs.map (·.1)).Nodup
 | .set S n=>h.SetOf (intKind P w) a S n
 | .ins C dx fs=>H dx = some (.own a)∧fs.length≤1000∧dx ≠ a∧h.get? a = some (PySem.W.instObj C dx) ∧
   ∃ mA,h.Ns1 dx mA∧(∀ f,RelO (fs.lookup f) (mA f))∧PySem.Within mA (fs.map (·.1))
 | .own _=>∃ o,h.get? a = some o
 | .xd fs=>∃ mA,h.Ns1 a mA∧∀ f,RelO (fs.lookup f) (mA f)
 | .rng lo hi=>∃ t u v,h.get? a = some { cls:=.type "range",data:=.fields #[.int lo t,.int hi u,.int 1 v] }
 | .frz o u=>h.get? a = some o∧ObjOk H h a u
 | .tbl ps=>h.get? a = some { cls:=.none,data:=.fields ps }
 | .met f x=>h.get? a = some (PySem.W.methodObj (.ref f) (.ref x))
 | .ext φ=>φ h∧(∃ o,h.get? a = some o)∧∀ h1 h2:Heap,φ h1→(∀ o,h1.get? a = some o→h2.get? a = some o)→φ h2
def HOk (H:Hp) (h:Heap):Prop:=∀ a o,H a = some o→ObjOk P w H h a o
end
section
variable {P:Program} {w:World} {H H':Hp} {h h':Heap} {a:Addr} {o:HO}
theorem ObjOk.lt (x:ObjOk P w H h a o):a < h.objs.size:=by
 cases o with
 | lst xs=>obtain ⟨_,_,_,_,e⟩:=x; exact Heap.lt_size e
 | tup xs=>obtain ⟨_,_,_,p⟩:=x; exact p.lt
 | dK kvs=>obtain ⟨_,_,_,_,o,_,_,e,_⟩:=x; exact Heap.lt_size e
 | dT kvs=>obtain ⟨_,_,_,_,o,_,_,e,_⟩:=x; exact Heap.lt_size e
 | set S n=>obtain ⟨o,_,_,_,e,_⟩:=x; exact Heap.lt_size e
 | ins C dx fs=>obtain ⟨_,_,_,e,_⟩:=x; exact Heap.lt_size e
 | own y=>obtain ⟨_,e⟩:=x; exact Heap.lt_size e
 | xd fs=>obtain ⟨_,⟨_,_,_,e,_⟩,_⟩:=x; exact Heap.lt_size e
 | rng lo hi=>obtain ⟨_,_,_,e⟩:=x; exact Heap.lt_size e
 | frz ob u=>obtain ⟨e,_⟩:=x; exact Heap.lt_size e
 | tbl ps=>exact Heap.lt_size (show h.get? a = some _ from x)
 | met f y=>exact Heap.lt_size (show h.get? a = some _ from x)
 | ext φ=>obtain ⟨_,⟨_,e⟩,_⟩:=x; exact Heap.lt_size e
theorem Paired.mapP {α β:Type} {F G:α→β→Prop}:∀ {l₁:List α} {l₂:List β},Paired F l₁ l₂→(∀ a b,F a b→G a b)→Paired G l₁ l₂
 | _,_,.nil,_=>.nil
 | _,_,.cons r t,f=>.cons (f _ _ r) (Paired.mapP t f)
theorem ObjOk.stay (x:ObjOk P w H h a o) (k:∀ b u,(b = a∨H b = some (.own a))→h.get? b = some u→h'.get? b = some u)
  (ho:∀ b,H b = some (.own a)→H' b = some (.own a)) (ht:∀ b xs,H b = some (.tup xs)→H' b = some (.tup xs)):ObjOk P w H' h' a o:=by
 induction o with
 | lst xs=>obtain ⟨z,its,n,r,e⟩:=x; exact ⟨z,its,n,r,k _ _ (.inl rfl) e⟩
 | tup xs=>obtain ⟨z,its,r,ob,e,c⟩:=x; exact ⟨z,its,r,ob,k _ _ (.inl rfl) e,c⟩
 | dK kvs=>obtain ⟨z,y,vs,r,ob,es,ep,e,c⟩:=x; exact ⟨z,y,vs,r,ob,es,ep,k _ _ (.inl rfl) e,c⟩
 | dT kvs =>
  obtain ⟨z,y,xs,r,ob,es,ep,e,c⟩:=x
  exact ⟨z,y,xs,Paired.mapP r fun p q z=>⟨z.1,ht _ _ z.2.1,z.2.2⟩,ob,es,ep,k _ _ (.inl rfl) e,c⟩
 | set S n=>obtain ⟨ob,es,ep,t,e,c⟩:=x; exact ⟨ob,es,ep,t,k _ _ (.inl rfl) e,c⟩
 | ins C dx fs =>
  obtain ⟨d,z,ne,e,mA,⟨od,es,ep,e2,c⟩,r⟩:=x
  exact ⟨ho _ d,z,ne,k _ _ (.inl rfl) e,mA,⟨od,es,ep,k _ _ (.inr d) e2,c⟩,r⟩
 | own y=>obtain ⟨ob,e⟩:=x; exact ⟨ob,k _ _ (.inl rfl) e⟩
 | xd fs=>obtain ⟨mA,⟨od,es,ep,e,c⟩,r⟩:=x; exact ⟨mA,⟨od,es,ep,k _ _ (.inl rfl) e,c⟩,r⟩
 | rng lo hi=>obtain ⟨t,u,v,e⟩:=x; exact ⟨t,u,v,k _ _ (.inl rfl) e⟩
 | frz ob u ih=>obtain ⟨e,q⟩:=x; exact ⟨k _ _ (.inl rfl) e,ih q⟩
 | tbl ps =>
  have e:h.get? a = some { cls:=.none,data:=.fields ps }:=x
  show h'.get? a = some { cls:=.none,data:=.fields ps }
  exact k a _ (.inl rfl) e
 | met f y =>
  have e:h.get? a = some (PySem.W.methodObj (.ref f) (.ref y)):=x
  show h'.get? a = some (PySem.W.methodObj (.ref f) (.ref y))
  exact k a _ (.inl rfl) e
 | ext φ=>obtain ⟨p,⟨o,e⟩,st⟩:=x; exact ⟨st _ _ p fun o q=>k _ _ (.inl rfl) q,⟨o,k _ _ (.inl rfl) e⟩,st⟩
theorem HOk.lt (x:HOk P w H h) (e:H a = some o):a < h.objs.size:=(x a o e).lt
theorem HOk.fresh (x:HOk P w H h) (e:h.objs.size≤a):H a = none:=by
 cases q:H a with
 | none=>rfl
 | some u=>exact absurd (Nat.lt_of_lt_of_le (x.lt q) e) (Nat.lt_irrefl _)
theorem HOk.kept (x:HOk P w H h) (k:∀ b u,h.get? b = some u→h'.get? b = some u):HOk P w H h':=fun a o e =>
 (x a o e).stay (fun b u _ q=>k b u q) (fun _ q=>q) fun _ _ q=>q
theorem HOk.laid (x:HOk P w H h) (k:∀ b u,h.get? b = some u→h'.get? b = some u) (hp:h.objs.size≤a) (new:ObjOk P w (upd H a o) h' a o):HOk P w (upd H a o) h':=fun b u e=>by
 have hn:=x.fresh hp
 by_cases hb:b = a
 ·subst hb; rw [upd_same] at e; cases e; exact new
 ·rw [upd_ne hb] at e
  exact (x b u e).stay (fun c v _ q=>k c v q) (fun c q=>by rw [upd_ne (ne_of_none q hn)]; exact q) fun c xs q=>by rw [upd_ne (ne_of_none q hn)]; exact q
end
def Rd (H:Hp) (a:Addr) (u:HO):Prop:=H a = some u∨∃ o,H a = some (.frz o u)
theorem Rd.ok {P:Program} {w:World} {H:Hp} {h:Heap} {a:Addr} {u:HO} (r:Rd H a u) (x:HOk P w H h):ObjOk P w H h a u:=by
 rcases r with r | ⟨o,r⟩
 ·exact x a u r
 ·obtain ⟨_,q⟩:=x a _ r
  exact q
def Mut:Option HO→Prop
 | some (.lst _)=>True
 | some (.dK _)=>True
 | some (.dT _)=>True
 | some (.set _ _)=>True
 | some (.ins _ _ _)=>True
 | some (.ext _)=>True
 | _=>False
section
variable {P:Program} {w:World} {H:Hp} {h h':Heap} {x e:Addr} {o':HO}
theorem HOk.write (ok:HOk P w H h) (mu:Mut (H x)) (he:e = x∨H e = some (.own x)) (k:∀ b u,b ≠ e→h.get? b = some u→h'.get? b = some u) (heo:∃ u,h'.get? e = some u)
  (new:ObjOk P w (upd H x o') h' x o'):HOk P w (upd H x o') h':=fun b u q=>by
 have nown:∀ c y,H c = some (.own y)→c ≠ x:=fun c y r z=>by subst z; rw [r] at mu; exact mu
 have ntup:∀ c xs,H c = some (.tup xs)→c ≠ x:=fun c xs r z=>by subst z; rw [r] at mu; exact mu
 by_cases hb:b = x
 ·subst hb; rw [upd_same] at q; cases q; exact new
 ·rw [upd_ne hb] at q
  by_cases hbe:b = e
  ·have q':H b = some (.own x):=by
    rcases he with z | z
    ·exact absurd (hbe.trans z) hb
    ·rw [hbe]; exact z
   rw [q] at q'; cases q'
   obtain ⟨v,hv⟩:=heo
   exact ⟨v,by rw [hbe]; exact hv⟩
  ·refine (ok b u q).stay (fun c v hc r=>k c v ?_ r) (fun c r=>by rw [upd_ne (nown c b r)]; exact r) fun c xs r=>by rw [upd_ne (ntup c xs r)]; exact r
   rcases hc with rfl | hc
   ·exact hbe
   ·rintro rfl
    rcases he with z | z
    ·exact nown c b hc z
    ·rw [hc] at z; cases z; exact hb rfl
end
structure Un (fs ex:List Addr) (H H':Hp) (h h':Heap):Prop where
 keep:∀ b o,h.get? b = some o→H b = none→b ∉ fs→b ∉ ex→h'.get? b = some o
 slot:∀ b o,h.get? b = some o→H b = none→b ∈ fs→b ∉ ex→∃ sl,h'.get? b = some { o with slots:=sl }
 free:∀ b o,h.get? b = some o→H b = none→b ∉ ex→H' b = none
 there:∀ b o,h.get? b = some o→b ∉ ex→∃ o',h'.get? b = some o'
 tups:∀ b xs,H b = some (.tup xs)→H' b = some (.tup xs)
 frzs:∀ b o u,H b = some (.frz o u)→H' b = some (.frz o u)
 tbls:∀ b ps,H b = some (.tbl ps)→∃ more,H' b = some (.tbl (ps ++ more))
section
variable {fs fs' ex ex':List Addr} {H H1 H2:Hp} {h h1 h2 h':Heap} {a x e:Addr} {o:HO}
theorem Un.any (u:Un fs ex H H1 h h1) {b:Addr} {ob:Obj} (q:h.get? b = some ob) (n:H b = none) (hx:b ∉ ex):∃ sl,h1.get? b = some { ob with slots:=sl }:=by
 by_cases hb:b ∈ fs
 ·exact u.slot b ob q n hb hx
 ·exact ⟨ob.slots,u.keep b ob q n hb hx⟩
theorem Un.kept (k:∀ b u,h.get? b = some u→h'.get? b = some u):Un fs ex H H h h' :=
 ⟨fun b ob q _ _ _=>k b ob q,fun b ob q _ _ _=>⟨ob.slots,k b ob q⟩,fun _ _ _ n _=>n,fun b ob q _=>⟨ob,k b ob q⟩,fun _ _ q=>q,fun _ _ _ q=>q,fun _ ps q=>⟨#[],by rw [q]; simp⟩⟩
theorem Un.refl:Un fs ex H H h h:=Un.kept fun _ _ q=>q
theorem Un.laid (k:∀ b u,h.get? b = some u→h'.get? b = some u) (hp:h.objs.size≤a) (hn:H a = none):Un fs ex H (upd H a o) h h' where
 keep:=fun b u q _ _ _=>k b u q
 slot:=fun b u q _ _ _=>⟨u.slots,k b u q⟩
 free:=fun b u q n _=>by rw [upd_ne (Nat.ne_of_lt (Nat.lt_of_lt_of_le (Heap.lt_size q) hp))]; exact n
 there:=fun b u q _=>⟨u,k b u q⟩
 tups:=fun b xs q=>by rw [upd_ne (ne_of_none q hn)]; exact q
 frzs:=fun b u xs q=>by rw [upd_ne (ne_of_none q hn)]; exact q
 tbls:=fun b ps q=>⟨#[],by rw [upd_ne (ne_of_none q hn),q]; simp⟩
theorem Un.write (mu:Mut (H x)) (he:e = x∨H e = some (.own x)) (k:∀ b u,b ≠ e→h.get? b = some u→h'.get? b = some u) (heo:∃ u,h'.get? e = some u):Un fs ex H (upd H x o) h h':=by
 have hx:∀ b,H b = none→b ≠ x:=fun b n z=>by subst z; rw [n] at mu; exact mu
 have hb:∀ b,H b = none→b ≠ e:=fun b n z=>by
  subst z
  rcases he with r | r
  ·exact hx b n r
  ·rw [n] at r; cases r
 have hm:∀ b u,H b = some u→¬ Mut (some u)→b ≠ x:=fun b u q nm z=>by subst z; rw [q] at mu; exact nm mu
 refine ⟨fun b u q n _ _=>k b u (hb b n) q,fun b u q n _ _=>⟨u.slots,k b u (hb b n) q⟩,fun b u q n _=>by rw [upd_ne (hx b n)]; exact n,fun b u q _=>?_,
  fun b xs q=>by rw [upd_ne (hm b _ q fun z=>z)]; exact q,fun b u xs q=>by rw [upd_ne (hm b _ q fun z=>z)]; exact q,fun b ps q=>⟨#[],by rw [upd_ne (hm b _ q fun z=>z),q]; simp⟩⟩
 by_cases hbe:b = e
 ·subst hbe; exact heo
 ·exact ⟨u,k b u hbe q⟩
end
def trk (h:Heap) (H:Hp):List Addr:=(List.range h.objs.size).filter fun a=>(H a).isSome
def hidT (h:Heap) (H:Hp):Heap:=PySem.W.hideAll h (trk h H)
theorem hidT_size (h:Heap) (H:Hp):(hidT h H).objs.size = h.objs.size:=PySem.W.hideAll_size _ _
theorem hidT_get {h:Heap} {H:Hp} {b:Addr} {o:Obj} (e:h.get? b = some o) (n:H b = none):(hidT h H).get? b = some o :=
 PySem.W.hideAll_get _ e fun hm=>by
  have q:(H b).isSome = true:=(List.mem_filter.mp hm).2
  rw [n] at q; simp at q
theorem of_hidT {h:Heap} {H:Hp} {b:Addr} {o:Obj} (e:(hidT h H).get? b = some o):h.get? b = some o∧H b = none:=by
 have e':h.get? b = some o:=PySem.W.of_hideAll (trk h H) e
 refine ⟨e',?_⟩
 cases q:H b with
 | none=>rfl
 | some x =>
  have hm:b ∈ trk h H:=List.mem_filter.mpr ⟨List.mem_range.mpr (Heap.lt_size e'),by simp [q]⟩
  have z:(hidT h H).get? b = none:=PySem.W.hideAll_none (trk h H) hm
  rw [z] at e; cases e
end L2
namespace L2
open PySem PySem.Spec PyProof.Rows
structure Mod (K:PySem.W.Frag) (mg:Str→Option Value) (base:Heap):Prop where
 kin:K.In base
 glob:base.Ns mainGlobals mg
 blt:∃ mb,base.Ns builtinsNs mb∧∀ x:Str,x ≠ "__name__"→mb x = bootBuiltins x
 nolimit:base.NoLimit
structure Cx where
 prog:Program
 w:World
 K:PySem.W.Frag
 mg:Str→Option Value
 base:Heap
 A:Around
 N:List Str
 s₀:Shared
 H₀:Hp
 env:Env
 outer:List Env
 stack:List Env
 ex:List Addr
 fn:Str→Bool
 calm:Bool
 pn:List (Addr × Obj)
 xe:Value→Shared→Prop
def frs (l:List Env):List Addr:=l.filterMap (·.frame)
abbrev Cx.fs (X:Cx):List Addr:=frs X.outer
def Vis (sc:Scope) (x:Str):Prop:=sc.names.lookup x = some .local∨sc.names.lookup x = some .cell∨sc.names.lookup x = some .free
def Loc (sc:Scope) (x:Str):Prop:=sc.names.lookup x = some .local∨sc.names.lookup x = some .cell
def Look (env:Env) (h:Heap) (m:Str→Option Value) (x:Str) (u:Value):Prop :=
 (env.kindOf x = some .local∧m x = some u)∨((env.kindOf x = some .cell∨env.kindOf x = some .free)∧∃ c,env.cells.lookup x = some c∧h.IsCell c (some u))
structure Cx.Ok (X:Cx):Prop where
 mod:Mod X.K X.mg X.base
 kind:X.env.scope.kind = .function
 glob:X.env.globals = mainGlobals
 blt:X.env.builtins = builtinsNs
 above:X.s₀.heap.objs.size≤X.env.locals
 inj:∀ x y c,X.env.cells.lookup x = some c→X.env.cells.lookup y = some c→x = y
 has:∀ x,(X.env.kindOf x = some .cell∨X.env.kindOf x = some .free)→∃ c,X.env.cells.lookup x = some c
 cab:∀ x c,X.fn x = true→X.env.cells.lookup x = some c→X.s₀.heap.objs.size≤c
 hd:X.calm = true→X.A.handled = none
 frames:X.A.frames = some X.stack
 stk:X.stack = X.outer∨(X.stack = X.env :: X.outer∧X.env.frame = some X.env.locals)
 exf:∀ b ∈ X.ex,b ≠ X.env.locals∧∀ x c,X.env.cells.lookup x = some c→c ≠ b
 bs:∀ b o,X.base.get? b = some o→X.s₀.heap.get? b = some o∧X.H₀ b = none
 bsz:X.base.objs.size≤X.s₀.heap.objs.size
 noex:∀ b o,X.base.get? b = some o→b ∉ X.ex
 exfs:∀ b ∈ X.ex,b ∉ X.fs
 funs:X.s₀.heap.FunFrames X.base X.outer
 frf:∀ b ∈ X.fs,X.H₀ b = none
structure Inv (X:Cx) (pins:List (Addr × Obj)) (σ:List (Option V)) (H:Hp) (s:Shared):Prop where
 ok:X.Ok
 os:s.os = X.s₀.os
 bare:AllBare s.gens
 base:Un X.fs X.ex X.H₀ H X.s₀.heap s.heap
 loc:∃ m,s.heap.Ns X.env.locals m∧∀ (i:Nat) (x:Str) (v:V),X.N[i]? = some x→σ[i]? = some (some v)→Vis X.env.scope x→∃ u,RelV v u∧Look X.env s.heap m x u
 cell:∀ x c,X.env.cells.lookup x = some c→∃ v,s.heap.IsCell c v
 free:H X.env.locals = none
 freeC:∀ x c,X.env.cells.lookup x = some c→H c = none
 pin:∀ p ∈ X.pn ++ pins,s.heap.get? p.1 = some p.2∧H p.1 = none∧p.1 ≠ X.env.locals∧p.1 ∉ X.fs∧∀ v,p.2.data ≠ .cell v
 hok:HOk X.prog X.w H s.heap
 len:σ.length = X.N.length
section
variable {X:Cx} {pins:List (Addr × Obj)} {σ:List (Option V)} {H H':Hp} {s:Shared} {h':Heap}
theorem Cx.Ok.nofr (ok:X.Ok) {b:Addr} {o:Obj} (e:X.base.get? b = some o):b ∉ X.fs:=fun hb=>by
 have:=(ok.funs.mem hb).1
 rw [e] at this; cases this
theorem Inv.bs (I:Inv X pins σ H s):∀ b o,X.base.get? b = some o→s.heap.get? b = some o∧H b = none:=fun b o e =>
 ⟨I.base.keep b o (I.ok.bs b o e).1 (I.ok.bs b o e).2 (I.ok.nofr e) (I.ok.noex b o e),I.base.free b o (I.ok.bs b o e).1 (I.ok.bs b o e).2 (I.ok.noex b o e)⟩
theorem Inv.bk (I:Inv X pins σ H s):∀ b o,X.base.get? b = some o→s.heap.get? b = some o:=fun b o e=>(I.bs b o e).1
theorem Inv.mod (I:Inv X pins σ H s):Mod X.K X.mg X.base:=I.ok.mod
theorem Inv.kIn (I:Inv X pins σ H s):X.K.In s.heap:=I.ok.mod.kin.keeps I.bk
theorem Inv.lt (I:Inv X pins σ H s):X.env.locals < s.heap.objs.size:=let ⟨_,hn,_⟩:=I.loc; hn.lt
theorem Inv.sz (I:Inv X pins σ H s):X.s₀.heap.objs.size≤s.heap.objs.size:=Nat.le_trans I.ok.above (Nat.le_of_lt I.lt)
theorem Inv.nofs (I:Inv X pins σ H s) {a:Addr} (h:s.heap.objs.size≤a):a ∉ X.fs:=fun hb=>by
 obtain ⟨_,o,ho,_⟩:=I.ok.funs.mem hb
 exact absurd (Nat.lt_of_lt_of_le (Heap.lt_size ho) (Nat.le_trans I.sz h)) (Nat.lt_irrefl _)
theorem Inv.cne (I:Inv X pins σ H s):∀ x c,X.env.cells.lookup x = some c→c ≠ X.env.locals:=fun x c e z=>by
 obtain ⟨v,o,ho,hd⟩:=I.cell x c e
 obtain ⟨m,⟨o',es,ep,ho',hd',_⟩,_⟩:=I.loc
 rw [z,ho'] at ho; cases ho; rw [hd'] at hd; cases hd
theorem Inv.funs (I:Inv X pins σ H s):s.heap.FunFrames X.base X.outer:=by
 have all:∀ (l:List Env),(∀ b ∈ frs l,b ∈ X.fs)→X.s₀.heap.FunFrames X.base l→s.heap.FunFrames X.base l:=by
  intro l
  induction l with
  | nil=>intro _ _; trivial
  | cons env r ih =>
   intro hs hl
   obtain ⟨hk,⟨L,o,hf,hn,ho,hd⟩,hr⟩:=hl
   have hL:L ∈ X.fs:=hs L (by unfold frs; rw [List.filterMap_cons,hf]; exact List.mem_cons_self)
   obtain ⟨sl,e⟩:=I.base.slot L o ho (I.ok.frf L hL) hL fun z=>I.ok.exfs L z hL
   exact ⟨hk,⟨L,_,hf,hn,e,hd⟩,ih (fun b hb=>hs b (by unfold frs; rw [List.filterMap_cons,hf]; exact List.mem_cons_of_mem _ hb)) hr⟩
 exact all X.outer (fun _ hb=>hb) I.ok.funs
theorem Inv.stack (I:Inv X pins σ H s):s.heap.FunFrames X.base X.stack:=by
 rcases I.ok.stk with e | ⟨e,hf⟩
 ·rw [e]; exact I.funs
 ·rw [e]
  obtain ⟨m,hn,_⟩:=I.loc
  refine .cons (by rw [I.ok.kind]; decide) hf hn ?_ I.funs
  exact Heap.get?_none_of_le (Nat.le_trans I.ok.bsz I.ok.above)
theorem Inv.stkSub (I:Inv X pins σ H s):∀ b ∈ frs X.stack,b ∈ X.env.locals :: X.fs:=fun b hb=>by
 rcases I.ok.stk with e | ⟨e,hf⟩
 ·rw [e] at hb; exact List.mem_cons_of_mem _ hb
 ·rw [e] at hb
  unfold frs at hb
  rw [List.filterMap_cons,hf] at hb
  exact hb
theorem Inv.stkFree (I:Inv X pins σ H s):∀ b ∈ frs X.stack,H b = none:=fun b hb=>by
 rcases List.mem_cons.mp (I.stkSub b hb) with e | hb
 ·rw [e]; exact I.free
 ·obtain ⟨_,o,ho,_⟩:=I.ok.funs.mem hb
  exact I.base.free b o ho (I.ok.frf b hb) fun z=>I.ok.exfs b z hb
theorem Inv.step {g':Array GenState} {t':Nat} {d':Drawn} {ch:List Addr} (I:Inv X pins σ H s)
  (hch:∀ b ∈ ch,(b ∈ X.ex∨X.s₀.heap.objs.size≤b)∧b ≠ X.env.locals∧(∀ x c,X.env.cells.lookup x = some c→c ≠ b)∧∀ p ∈ X.pn ++ pins,p.1 ≠ b)
  (keep:∀ b o,b ≠ X.env.locals→b ∉ X.fs→b ∉ ch→s.heap.get? b = some o→H b = none→h'.get? b = some o)
  (slot:∀ b o,b ≠ X.env.locals→b ∈ X.fs→b ∉ ch→s.heap.get? b = some o→H b = none→∃ sl,h'.get? b = some { o with slots:=sl }) (free:∀ b o,b ∉ ch→s.heap.get? b = some o→H b = none→H' b = none)
  (there:∀ b o,b ∉ ch→s.heap.get? b = some o→∃ o',h'.get? b = some o')
  (tups:∀ b xs,H b = some (.tup xs)→H' b = some (.tup xs)) (frzs:∀ b o u,H b = some (.frz o u)→H' b = some (.frz o u)) (tbls:∀ b ps,H b = some (.tbl ps)→∃ more,H' b = some (.tbl (ps ++ more)))
  (ns:∀ m,s.heap.Ns X.env.locals m→h'.Ns X.env.locals m) (hok:HOk X.prog X.w H' h') (hg:AllBare g') :
  Inv X pins σ H' { s with heap:=h',gens:=g',drawn:=d',toks:=t' }:=by
 have neL:∀ b o,X.s₀.heap.get? b = some o→b ≠ X.env.locals:=fun b o e=>Nat.ne_of_lt (Nat.lt_of_lt_of_le (Heap.lt_size e) I.ok.above)
 have neC:∀ b o,X.s₀.heap.get? b = some o→b ∉ X.ex→b ∉ ch:=fun b o e hx hb=>by
  rcases (hch b hb).1 with z | z
  ·exact hx z
  ·exact absurd (Nat.lt_of_lt_of_le (Heap.lt_size e) z) (Nat.lt_irrefl _)
 have cellK:∀ x c,X.env.cells.lookup x = some c→∀ v,s.heap.IsCell c v→h'.IsCell c v:=fun x c e v ⟨o,ho,hd⟩=>by
  have nch:c ∉ ch:=fun z=>(hch c z).2.2.1 x c e rfl
  by_cases hc:c ∈ X.fs
  ·obtain ⟨sl,q⟩:=slot c o (I.cne x c e) hc nch ho (I.freeC x c e)
   exact ⟨_,q,hd⟩
  ·exact ⟨o,keep c o (I.cne x c e) hc nch ho (I.freeC x c e),hd⟩
 refine ⟨I.ok,I.os,hg,⟨fun b o e n hb hx=>?_,fun b o e n hb hx=>?_,fun b o e n hx=>?_,fun b o e hx=>?_,fun b xs e=>tups b xs (I.base.tups b xs e),fun b o xs e=>frzs b o xs (I.base.frzs b o xs e),fun b ps e=>?_⟩,?_,fun x c e=>?_,?_,fun x c e=>?_,fun p hp=>?_,hok,I.len⟩
 ·exact keep b o (neL b o e) hb (neC b o e hx) (I.base.keep b o e n hb hx) (I.base.free b o e n hx)
 ·obtain ⟨sl,e1⟩:=I.base.slot b o e n hb hx
  obtain ⟨sl',e2⟩:=slot b _ (neL b o e) hb (neC b o e hx) e1 (I.base.free b o e n hx)
  exact ⟨sl',e2⟩
 ·obtain ⟨o',e1⟩:=I.base.there b o e hx
  exact free b o' (neC b o e hx) e1 (I.base.free b o e n hx)
 ·obtain ⟨o',e1⟩:=I.base.there b o e hx
  exact there b o' (neC b o e hx) e1
 ·obtain ⟨m1,e1⟩:=I.base.tbls b ps e
  obtain ⟨m2,e2⟩:=tbls b _ e1
  exact ⟨m1 ++ m2,by rw [e2,Array.append_assoc]⟩
 ·obtain ⟨m,hn,hl⟩:=I.loc
  refine ⟨m,ns m hn,fun i x v e1 e2 e3=>?_⟩
  obtain ⟨u,r,l⟩:=hl i x v e1 e2 e3
  refine ⟨u,r,?_⟩
  rcases l with l | ⟨k,c,e,z⟩
  ·exact .inl l
  ·exact .inr ⟨k,c,e,cellK x c e _ z⟩
 ·obtain ⟨v,z⟩:=I.cell x c e
  exact ⟨v,cellK x c e v z⟩
 ·obtain ⟨m,⟨o,_,_,ho,_⟩,_⟩:=I.loc
  exact free _ o (fun z=>(hch _ z).2.1 rfl) ho I.free
 ·obtain ⟨v,o,ho,hd⟩:=I.cell x c e
  exact free c o (fun z=>(hch c z).2.2.1 x c e rfl) ho (I.freeC x c e)
 ·obtain ⟨e,n,ne,nf,d⟩:=I.pin p hp
  have nch:p.1 ∉ ch:=fun z=>(hch p.1 z).2.2.2 p hp rfl
  exact ⟨keep p.1 p.2 ne nf nch e n,free p.1 p.2 nch e n,ne,nf,d⟩
theorem Inv.un {t':Nat} (I:Inv X pins σ H s) (u:Un X.fs [] H H' s.heap h') (hok:HOk X.prog X.w H' h'):Inv X pins σ H' { s with heap:=h',toks:=t' }:=by
 obtain ⟨m,⟨o,es,ep,ho,r⟩,_⟩:=id I.loc
 obtain ⟨sl,hL⟩:=u.any ho I.free (by simp)
 exact I.step (g':=s.gens) (d':=s.drawn) (ch:=[]) (fun _ z=>nomatch z) (fun b o _ hb _ e n=>u.keep b o e n hb (by simp)) (fun b o _ hb _ e n=>u.slot b o e n hb (by simp)) (fun b o _ e n=>u.free b o e n (by simp)) (fun b o _ e=>u.there b o e (by simp)) u.tups u.frzs u.tbls (fun m' hm=>by
  obtain ⟨o',es',ep',ho',r'⟩:=hm
  rw [ho] at ho'; cases ho'
  exact ⟨_,es',ep',hL,r'⟩) hok I.bare
theorem Inv.call {g':Array GenState} {t':Nat} {d':Drawn} {ch:List Addr} (I:Inv X pins σ H s) (u:Un (frs X.stack) ch H H' s.heap h') (hok:HOk X.prog X.w H' h') (hg:AllBare g')
  (hch:∀ b ∈ ch,(b ∈ X.ex∨X.s₀.heap.objs.size≤b)∧b ≠ X.env.locals∧(∀ x c,X.env.cells.lookup x = some c→c ≠ b)∧∀ p ∈ X.pn ++ pins,p.1 ≠ b) :
  Inv X pins σ H' { s with heap:=h',gens:=g',drawn:=d',toks:=t' }:=by
 obtain ⟨m,⟨o,es,ep,ho,r⟩,_⟩:=id I.loc
 obtain ⟨sl,hL⟩:=u.any ho I.free fun z=>(hch _ z).2.1 rfl
 exact I.step (ch:=ch) hch (fun b o hL hb hc e n=>u.keep b o e n (fun z=>(List.mem_cons.mp (I.stkSub b z)).elim hL hb) hc) (fun b o _ _ hc e n=>u.any e n hc) (fun b o hc e n=>u.free b o e n hc) (fun b o hc e=>u.there b o e hc) u.tups u.frzs u.tbls (fun m' hm=>by
  obtain ⟨o',es',ep',ho',r'⟩:=hm
  rw [ho] at ho'; cases ho'
  exact ⟨_,es',ep',hL,r'⟩) hok hg
theorem Inv.turned {t':Nat} {it:Addr} (I:Inv X pins σ H s) (k:∀ b o,b ≠ it→s.heap.get? b = some o→h'.get? b = some o) (hn:H it = none) (hL:it ≠ X.env.locals)
  (h1:it ∈ X.ex∨X.s₀.heap.objs.size≤it) (h2:∀ x c,X.env.cells.lookup x = some c→c ≠ it) (h3:∀ p ∈ X.pn ++ pins,p.1 ≠ it):Inv X pins σ H { s with heap:=h',toks:=t' }:=by
 have nit:∀ b u,H b = some u→b ≠ it:=fun b u e z=>by rw [z,hn] at e; cases e
 refine I.step (g':=s.gens) (d':=s.drawn) (ch:=[it]) (fun b hb=>?_) (fun b o _ _ hc e _=>k b o (fun z=>hc (by simp [z])) e) (fun b o _ _ hc e _=>⟨o.slots,k b o (fun z=>hc (by simp [z])) e⟩) (fun _ _ _ _ n=>n)
  (fun b o hc e=>⟨o,k b o (fun z=>hc (by simp [z])) e⟩) (fun _ _ e=>e) (fun _ _ _ e=>e) (fun b ps e=>⟨#[],by rw [e]; simp⟩) (fun m hm=>?_) (fun b u e=>?_) I.bare
 ·have e:b = it:=by simpa using hb
  subst e
  exact ⟨h1,hL,h2,h3⟩
 ·obtain ⟨o,es,ep,ho,r⟩:=hm
  exact ⟨o,es,ep,k _ o (Ne.symm hL) ho,r⟩
 ·refine (I.hok b u e).stay (fun c v hc q=>k c v ?_ q) (fun _ q=>q) fun _ _ q=>q
  rcases hc with z | z
  ·rw [z]; exact nit b u e
  ·exact nit c _ z
theorem Inv.tok (I:Inv X pins σ H s) (t:Nat):Inv X pins σ H { s with toks:=t }:=I.un (h':=s.heap) (t':=t) Un.refl I.hok
theorem Inv.kept {t':Nat} (I:Inv X pins σ H s) (k:∀ b u,s.heap.get? b = some u→h'.get? b = some u):Inv X pins σ H { s with heap:=h',toks:=t' }:=I.un (Un.kept k) (I.hok.kept k)
theorem Inv.laid {a:Addr} {o:HO} {t':Nat} (I:Inv X pins σ H s) (k:∀ b u,s.heap.get? b = some u→h'.get? b = some u) (hp:s.heap.objs.size≤a) (new:ObjOk X.prog X.w (upd H a o) h' a o) :
  Inv X pins σ (upd H a o) { s with heap:=h',toks:=t' }:=I.un (Un.laid k hp (I.hok.fresh hp)) (I.hok.laid k hp new)
theorem Inv.write {x e:Addr} {o:HO} {t':Nat} (I:Inv X pins σ H s) (mu:Mut (H x)) (he:e = x∨H e = some (.own x)) (k:∀ b u,b ≠ e→s.heap.get? b = some u→h'.get? b = some u) (heo:∃ u,h'.get? e = some u)
  (new:ObjOk X.prog X.w (upd H x o) h' x o):Inv X pins σ (upd H x o) { s with heap:=h',toks:=t' }:=I.un (Un.write mu he k heo) (I.hok.write mu he k heo new)
theorem Inv.pins_of {pins':List (Addr × Obj)} (I:Inv X pins σ H s) (h:∀ p ∈ pins',s.heap.get? p.1 = some p.2∧H p.1 = none∧p.1 ≠ X.env.locals∧p.1 ∉ X.fs∧∀ v,p.2.data ≠ .cell v):Inv X pins' σ H s :=
 ⟨I.ok,I.os,I.bare,I.base,I.loc,I.cell,I.free,I.freeC,fun p hp=>(List.mem_append.mp hp).elim (fun z=>I.pin p (List.mem_append_left _ z)) (h p),I.hok,I.len⟩
theorem nodup_ix {N:List Str} (hN:N.Nodup) {i j:Nat} {x:Str} (a:N[i]? = some x) (b:N[j]? = some x):i = j:=by
 obtain ⟨h1,e1⟩:=List.getElem?_eq_some_iff.mp a
 obtain ⟨h2,e2⟩:=List.getElem?_eq_some_iff.mp b
 exact (List.getElem_inj hN).mp (e1.trans e2.symm)
theorem store_ok2 {M:Model} {A:Around} {E:Value→Shared→Prop} {i:Nat} {x:Str} {v:V} {u:Value} {Q:Unit→Shared→Prop} (I:Inv X pins σ H s) (hN:X.N.Nodup) (hi:X.N[i]? = some x) (hx:Loc X.env.scope x) (r:RelV v u)
  (h:∀ s',Inv X pins (σ.set i (some v)) H s'→(∃ a,Heap.SameBut a s.heap s'.heap∧(a = X.env.locals∨X.env.cells.lookup x = some a))→Q () s') (hf:X.fn x = true∨X.env.scope.names.lookup x = some .local:=by first | exact .inl rfl | exact .inr rfl | assumption):wpAny M A (storeName X.env x u) Q E s:=by
 obtain ⟨m,hn,hl⟩:=id I.loc
 have hcls:(X.env.scope.kind == .class || (X.env.scope.kind == .module && X.env.locals != X.env.globals)) = false:=by rw [I.ok.kind]; rfl
 have hiσ:i < σ.length:=by rw [I.len]; exact (List.getElem?_eq_some_iff.mp hi).1
 have cne:=I.cne
 have tracked:∀ {a:Addr} {h':Heap},(∃ o,s.heap.get? a = some o∧H a = none)→Heap.SameBut a s.heap h'→HOk X.prog X.w H h':=fun {a h'} ha hs b ob e=>by
  obtain ⟨_,_,hfree⟩:=ha
  refine (I.hok b ob e).stay (fun c w' hc q=>(hs.2 c ?_).trans q) (fun _ q=>q) fun _ _ q=>q
  rintro rfl
  rcases hc with rfl | hc
  ·rw [hfree] at e; cases e
  ·rw [hfree] at hc; cases hc
 rcases hx with hk | hk
 ·refine wpAny_storeName_local hk hn (fun h' hn' hs=>?_) hcls
  obtain ⟨oL,_,_,hoL,_⟩:=id hn
  refine h _ ⟨I.ok,I.os,I.bare,⟨fun b o e n hb hx=>?_,fun b o e n hb hx=>?_,I.base.free,fun b o e hx=>?_,I.base.tups,I.base.frzs,I.base.tbls⟩,⟨_,hn',fun j y v' e1 e2 e3=>?_⟩,fun y c e=>?_,I.free,I.freeC,fun p hp=>?_,tracked ⟨oL,hoL,I.free⟩ hs,by simpa using I.len⟩ ⟨_,hs,.inl rfl⟩
  ·exact (hs.2 b (Nat.ne_of_lt (Nat.lt_of_lt_of_le (Heap.lt_size e) I.ok.above))).trans (I.base.keep b o e n hb hx)
  ·obtain ⟨sl,e1⟩:=I.base.slot b o e n hb hx
   exact ⟨sl,(hs.2 b (Nat.ne_of_lt (Nat.lt_of_lt_of_le (Heap.lt_size e) I.ok.above))).trans e1⟩
  ·obtain ⟨o',e1⟩:=I.base.there b o e hx
   exact ⟨o',(hs.2 b (Nat.ne_of_lt (Nat.lt_of_lt_of_le (Heap.lt_size e) I.ok.above))).trans e1⟩
  ·by_cases hj:j = i
   ·subst hj
    rw [hi] at e1; cases e1
    rw [List.getElem?_set_self hiσ] at e2
    cases e2
    exact ⟨u,r,.inl ⟨hk,by simp⟩⟩
   ·rw [List.getElem?_set_ne (Ne.symm hj)] at e2
    obtain ⟨u',r',q⟩:=hl j y v' e1 e2 e3
    refine ⟨u',r',?_⟩
    rcases q with ⟨k,e⟩ | ⟨k,c,e,z⟩
    ·refine .inl ⟨k,?_⟩
     have:y ≠ x:=fun e=>hj (nodup_ix hN e1 (e ▸ hi))
     simp [this,e]
    ·exact .inr ⟨k,c,e,z.sameBut hs (cne y c e)⟩
  ·obtain ⟨w',z⟩:=I.cell y c e
   exact ⟨w',z.sameBut hs (cne y c e)⟩
  ·obtain ⟨e,n,ne,nf,d⟩:=I.pin p hp
   exact ⟨(hs.2 p.1 ne).trans e,n,ne,nf,d⟩
 ·have hfn:X.fn x = true:=by
   rcases hf with z | z
   ·exact z
   ·rw [z] at hk; cases hk
  obtain ⟨c,hc⟩:=I.ok.has x (.inl hk)
  obtain ⟨w',z⟩:=I.cell x c hc
  refine wpAny_storeName_cell I.ok.kind hk hc z (fun h' hc' hs=>?_)
  obtain ⟨oc,hoc,hocd⟩:=id z
  refine h { s with heap:=h' } ⟨I.ok,I.os,I.bare,⟨fun b o e n hb hx=>?_,fun b o e n hb hx=>?_,I.base.free,fun b o e hx=>?_,I.base.tups,I.base.frzs,I.base.tbls⟩,⟨m,hn.sameBut hs (Ne.symm (cne x c hc)),fun j y v' e1 e2 e3=>?_⟩,fun y c' e=>?_,I.free,I.freeC,fun p hp=>?_,tracked ⟨oc,hoc,I.freeC x c hc⟩ hs,by simpa using I.len⟩ ⟨c,hs,.inr hc⟩
  ·exact (hs.2 b (Nat.ne_of_lt (Nat.lt_of_lt_of_le (Heap.lt_size e) (I.ok.cab x c hfn hc)))).trans (I.base.keep b o e n hb hx)
  ·obtain ⟨sl,e1⟩:=I.base.slot b o e n hb hx
   exact ⟨sl,(hs.2 b (Nat.ne_of_lt (Nat.lt_of_lt_of_le (Heap.lt_size e) (I.ok.cab x c hfn hc)))).trans e1⟩
  ·obtain ⟨o',e1⟩:=I.base.there b o e hx
   exact ⟨o',(hs.2 b (Nat.ne_of_lt (Nat.lt_of_lt_of_le (Heap.lt_size e) (I.ok.cab x c hfn hc)))).trans e1⟩
  ·by_cases hj:j = i
   ·subst hj
    rw [hi] at e1; cases e1
    rw [List.getElem?_set_self hiσ] at e2
    cases e2
    exact ⟨u,r,.inr ⟨.inl hk,c,hc,hc'⟩⟩
   ·rw [List.getElem?_set_ne (Ne.symm hj)] at e2
    obtain ⟨u',r',q⟩:=hl j y v' e1 e2 e3
    refine ⟨u',r',?_⟩
    rcases q with q | ⟨k,c',e,z'⟩
    ·exact .inl q
    ·refine .inr ⟨k,c',e,z'.sameBut hs ?_⟩
     rintro rfl
     exact hj (nodup_ix hN e1 (I.ok.inj _ _ _ e hc ▸ hi))
  ·by_cases hcc:c' = c
   ·subst hcc; exact ⟨_,hc'⟩
   ·obtain ⟨w2,z2⟩:=I.cell y c' e
    exact ⟨w2,z2.sameBut hs hcc⟩
  ·obtain ⟨e,n,ne,nf,d⟩:=I.pin p hp
   refine ⟨(hs.2 p.1 ?_).trans e,n,ne,nf,d⟩
   intro q
   rw [q,hoc] at e
   have q':oc = p.2:=Option.some.inj e
   exact d w' (by rw [← q']; exact hocd)
theorem store_ok {M:Model} {A:Around} {E:Value→Shared→Prop} {i:Nat} {x:Str} {v:V} {u:Value} {Q:Unit→Shared→Prop} (I:Inv X pins σ H s) (hN:X.N.Nodup) (hi:X.N[i]? = some x) (hx:Loc X.env.scope x) (r:RelV v u)
  (h:∀ s',Inv X pins (σ.set i (some v)) H s'→Q () s') (hf:X.fn x = true∨X.env.scope.names.lookup x = some .local:=by first | exact .inl rfl | exact .inr rfl | assumption):wpAny M A (storeName X.env x u) Q E s :=
 store_ok2 I hN hi hx r (fun s' I' _=>h s' I') hf
theorem Inv.call' {s':Shared} {ch:List Addr} (I:Inv X pins σ H s) (ho:s'.os = s.os) (u:Un (frs X.stack) ch H H' s.heap s'.heap) (hok:HOk X.prog X.w H' s'.heap) (hg:AllBare s'.gens)
  (hch:∀ b ∈ ch,(b ∈ X.ex∨X.s₀.heap.objs.size≤b)∧b ≠ X.env.locals∧(∀ x c,X.env.cells.lookup x = some c→c ≠ b)∧∀ p ∈ X.pn ++ pins,p.1 ≠ b):Inv X pins σ H' s':=by
 obtain ⟨h',g',d',t',o'⟩:=s'
 have e:o' = s.os:=ho
 subst e
 exact I.call (g':=g') (t':=t') (d':=d') u hok hg hch
end
abbrev XK:=Value→Option Addr→Hp→Prop
abbrev St:=List (Option V)
abbrev VK:=V→Hp→Prop
abbrev TE:=St→Hp→VK→Prop
abbrev TT:=St→Hp→(Bool→Hp→Prop)→Prop
abbrev TA:=St→Hp→(List V→Hp→Prop)→Prop
structure Ends where
 nx:St→Hp→Prop
 rt:VK
 bk:St→Hp→Prop:=fun _ _=>False
 ct:St→Hp→Prop:=fun _ _=>False
abbrev TS:=Ends→St→Hp→Prop
def EP (X:Cx) (pins:List (Addr × Obj)) (σ:St) (Q:VK) (u:Value) (s':Shared):Prop:=∃ v H',Inv X pins σ H' s'∧RelV v u∧Q v H'
def TP (X:Cx) (pins:List (Addr × Obj)) (σ:St) (Q:Bool→Hp→Prop) (b:Bool) (s':Shared):Prop:=∃ H',Inv X pins σ H' s'∧Q b H'
def AP (X:Cx) (pins:List (Addr × Obj)) (σ:St) (Q:List V→Hp→Prop) (us:List Value) (s':Shared):Prop:=∃ vs H',Inv X pins σ H' s'∧Vals vs us∧Q vs H'
def SP (X:Cx) (pins:List (Addr × Obj)) (D:Ends) (f:Flow) (s':Shared):Prop :=
 match f with
 | .next=>∃ σ' H',Inv X pins σ' H' s'∧D.nx σ' H'
 | .brk=>∃ σ' H',Inv X pins σ' H' s'∧D.bk σ' H'
 | .cont=>∃ σ' H',Inv X pins σ' H' s'∧D.ct σ' H'
 | .ret u=>∃ v σ' H',Inv X pins σ' H' s'∧RelV v u∧D.rt v H'
def PE (X:Cx) (e:Expr) (t:TE):Prop :=
 ∀ (pins:List (Addr × Obj)) (s:Shared) (σ:St) (H:Hp) (Q:VK),Inv X pins σ H s→t σ H Q→wpAny (model X.prog X.w) X.A (eval e X.env) (EP X pins σ Q) X.xe s
def PT (X:Cx) (e:Expr) (t:TT):Prop :=
 ∀ (pins:List (Addr × Obj)) (s:Shared) (σ:St) (H:Hp) (Q:Bool→Hp→Prop),Inv X pins σ H s→t σ H Q→wpAny (model X.prog X.w) X.A (isTrue e X.env (eval e X.env)) (TP X pins σ Q) X.xe s
def PW (X:Cx) (e:Expr) (t:TT):Prop :=
 ∀ (whole:Sem Value) (pins:List (Addr × Obj)) (s:Shared) (σ:St) (H:Hp) (Q:Bool→Hp→Prop),Inv X pins σ H s→t σ H Q→wpAny (model X.prog X.w) X.A (isTrue e X.env whole) (TP X pins σ Q) X.xe s
theorem PW.pt {X:Cx} {e:Expr} {t:TT} (h:PW X e t):PT X e t:=h _
def PA (X:Cx) (es:List Expr) (t:TA):Prop :=
 ∀ (pos:Pos) (pins:List (Addr × Obj)) (s:Shared) (σ:St) (H:Hp) (Q:List V→Hp→Prop),Inv X pins σ H s→t σ H Q→wpAny (model X.prog X.w) X.A (spliced (backTo pos (starEach es X.env))) (AP X pins σ Q) X.xe s
def PS (X:Cx) (st:Stmt) (t:TS):Prop :=
 ∀ (pins:List (Addr × Obj)) (s:Shared) (σ:St) (H:Hp) (D:Ends),Inv X pins σ H s→t D σ H→wpAny (model X.prog X.w) X.A (exec st X.env) (SP X pins D) X.xe s
def PSs (X:Cx) (st:List Stmt) (t:TS):Prop :=
 ∀ (pins:List (Addr × Obj)) (s:Shared) (σ:St) (H:Hp) (D:Ends),Inv X pins σ H s→t D σ H→wpAny (model X.prog X.w) X.A (execs st X.env) (SP X pins D) X.xe s
theorem thn {α:Type} {t:Sem α} {Q Q':α→Shared→Prop} {M:Model} {A:Around} {E:Value→Shared→Prop} {s:Shared} (h:wpAny M A t Q E s) (hQ:∀ a s,Q a s→Q' a s):wpAny M A t Q' E s:=wpAny_mono h hQ fun _ _ x=>x
end L2
namespace L2
open PySem PySem.Spec PyProof.Rows
section
variable {X:Cx}
def tVar (i:Nat):TE:=fun σ H Q=>∃ v,σ[i]? = some (some v)∧Q v H
def tC (v:V):TE:=fun _ H Q=>Q v H
theorem pe_var {i:Nat} {x:Str} {pos:Pos} (hN:X.N[i]? = some x) (hv:Vis X.env.scope x) (hd:(x == ("__debug__":Str)) = false:=by decide) (hcd:(x == ("__classdict__":Str)) = false:=by decide):PE X (.Name x pos) (tVar i):=by
 intro pins s σ H Q I h
 obtain ⟨v,e,h⟩:=h
 obtain ⟨m,hn,hl⟩:=I.loc
 obtain ⟨u,r,l⟩:=hl i x v hN e hv
 have fin:EP X pins σ Q u s:=⟨v,H,I,r,h⟩
 rcases l with ⟨hk,hm⟩ | ⟨hk,c,hc,hcell⟩
 ·exact wpAny_Name (wpAny_loadName_local I.ok.kind hk hn hm fin) hd
 ·rcases hk with hk | hk
  ·exact wpAny_Name (wpAny_loadName_cell I.ok.kind hk hc hcell fin) hd
  ·exact wpAny_Name (wpAny_loadName_free I.ok.kind hk hc hcell fin hcd) hd
theorem pe_int {i j pos}:PE X (.Constant (.int i) j pos) (tC (.int i)):=fun _ _ _ H _ I h=>wpAny_Constant_int ⟨.int i,H,I.tok _,⟨_,rfl⟩,h⟩
theorem pe_bl {b j pos}:PE X (.Constant (.bool b) j pos) (tC (.bl b)):=fun _ _ _ H _ I h=>Constant_bool ⟨.bl b,H,I,rfl,h⟩
theorem pe_non {j pos}:PE X (.Constant .none j pos) (tC .non):=fun _ _ _ H _ I h=>Constant_none ⟨.non,H,I,rfl,h⟩
theorem pe_str {x j pos}:PE X (.Constant (.str x) j pos) (tC (.str x)):=fun _ _ _ H _ I h=>Calls.Constant_str ⟨.str x,H,I.tok _,⟨_,rfl⟩,h⟩
def Gl (X:Cx) (x:Str):Prop:=X.env.kindOf x = some .globalImplicit
theorem ld_glob {E:Value→Shared→Prop} {pins:List (Addr × Obj)} {s:Shared} {σ:St} {H:Hp} {x:Str} {u:Value} {pos:Pos} {Q:Value→Shared→Prop} (I:Inv X pins σ H s) (hg:Gl X x) (hm:X.mg x = some u) (h:Q u s)
  (hd:(x == ("__debug__":Str)) = false:=by decide):wpAny (model X.prog X.w) X.A (eval (.Name x pos) X.env) Q E s :=
 Calls.Name_function_global I.ok.kind hg (Calls.loadGlobal_global (by rw [I.ok.glob]; exact I.mod.glob.keeps I.bk) hm h) hd
theorem ld_blt {E:Value→Shared→Prop} {pins:List (Addr × Obj)} {s:Shared} {σ:St} {H:Hp} {x:Str} {u:Value} {pos:Pos} {Q:Value→Shared→Prop} (I:Inv X pins σ H s) (hg:Gl X x) (hm:X.mg x = none) (hv:bootBuiltins x = some u) (h:Q u s)
  (hn:x ≠ "__name__":=by decide) (hd:(x == ("__debug__":Str)) = false:=by decide):wpAny (model X.prog X.w) X.A (eval (.Name x pos) X.env) Q E s:=by
 obtain ⟨mb,h1,h2⟩:=I.mod.blt
 exact Calls.Name_function_global I.ok.kind hg (Calls.loadGlobal_builtin (by rw [I.ok.glob]; exact I.mod.glob.keeps I.bk) hm (by rw [I.ok.blt]; exact h1.keeps I.bk) ((h2 x hn).trans hv) h) hd
theorem pe_glob {x:Str} {v:V} {u:Value} {pos:Pos} (hg:Gl X x) (hm:X.mg x = some u) (r:RelV v u) (hd:(x == ("__debug__":Str)) = false:=by decide):PE X (.Name x pos) (tC v) :=
 fun _ _ _ H _ I h=>ld_glob I hg hm ⟨v,H,I,r,h⟩ hd
theorem pe_bltn {x:Str} {v:V} {u:Value} {pos:Pos} (hg:Gl X x) (hm:X.mg x = none) (hv:bootBuiltins x = some u) (r:RelV v u) (hn:x ≠ "__name__":=by decide) (hd:(x == ("__debug__":Str)) = false:=by decide):PE X (.Name x pos) (tC v) :=
 fun _ _ _ H _ I h=>ld_blt I hg hm hv ⟨v,H,I,r,h⟩ hn hd
variable {a b:Expr} {ta tb:TE} {pos:Pos}
def tB (t:TE):TT:=fun σ H Q=>t σ H fun x H1=>∃ c,x = .bl c∧Q c H1
theorem pt_val {e:Expr} {t:TE} (h:PE X e t) (he:∀ whole,isTrue e X.env whole = (do let v ← whole; standAt e.pos; holding [v] (truthy v)):=by intro _; rfl):PT X e (tB t):=by
 intro pins s σ H Q I hw
 refine isTrue_plain (thn (h pins s σ H _ I hw) fun v s1 ⟨x,H1,I1,r1,q1⟩=>?_) (he _)
 obtain ⟨d,rfl,q⟩:=q1
 cases r1
 exact wpAny_truthy_bool ⟨H1,I1,q⟩
variable {tA tB':TT} {rest:List Expr}
def tAnd (t u:TT):TT:=fun σ H Q=>t σ H fun c H1=>if c = true then u σ H1 Q else Q false H1
def tOr (t u:TT):TT:=fun σ H Q=>t σ H fun c H1=>if c = true then Q true H1 else u σ H1 Q
def tNot (t:TT):TT:=fun σ H Q=>t σ H fun c H1=>Q (!c) H1
theorem pw_and1 (ha:PT X a tA):PW X (.BoolOp .And [a] pos) tA:=by
 intro wh pins s σ H Q I h
 refine isTrue_and (thn (ha pins s σ H Q I h) fun c s1 e=>?_)
 cases c with
 | true=>exact isTrue_and_nil e
 | false=>exact e
theorem pw_or1 (ha:PT X a tA):PW X (.BoolOp .Or [a] pos) tA:=by
 intro wh pins s σ H Q I h
 refine isTrue_or (thn (ha pins s σ H Q I h) fun c s1 e=>?_)
 cases c with
 | false=>exact isTrue_or_nil e
 | true=>exact e
theorem pw_and (ha:PT X a tA) (hb:PW X (.BoolOp .And (b :: rest) pos) tB'):PW X (.BoolOp .And (a :: b :: rest) pos) (tAnd tA tB'):=by
 intro wh pins s σ H Q I h
 refine isTrue_and (thn (ha pins s σ H _ I h) fun c s1 ⟨H1,I1,q1⟩=>?_)
 cases c with
 | true=>exact hb wh pins s1 σ H1 Q I1 q1
 | false=>exact ⟨H1,I1,q1⟩
theorem pw_or (ha:PT X a tA) (hb:PW X (.BoolOp .Or (b :: rest) pos) tB'):PW X (.BoolOp .Or (a :: b :: rest) pos) (tOr tA tB'):=by
 intro wh pins s σ H Q I h
 refine isTrue_or (thn (ha pins s σ H _ I h) fun c s1 ⟨H1,I1,q1⟩=>?_)
 cases c with
 | true=>exact ⟨H1,I1,q1⟩
 | false=>exact hb wh pins s1 σ H1 Q I1 q1
theorem pt_not (ha:PT X a tA):PT X (.UnaryOp .Not a pos) (tNot tA):=by
 intro pins s σ H Q I h
 exact isTrue_not (ha pins s σ H (fun c H1=>Q (!c) H1) I h)
def tAndV (ta tb:TE):TE:=fun σ H Q=>ta σ H fun x H1=>∃ c,x = .bl c∧if c = true then tb σ H1 Q else Q (.bl false) H1
def tNotV (ta:TE):TE:=fun σ H Q=>ta σ H fun x H1=>∃ c,x = .bl c∧Q (.bl (!c)) H1
theorem pe_one {op} {t:TE} (h:PE X a t):PE X (.BoolOp op [a] pos) t:=fun pins s σ H Q I hw=>BoolOp_one (h pins s σ H Q I hw)
theorem pe_and (ha:PE X a ta) (hb:PE X (.BoolOp .And (b :: rest) pos) tb):PE X (.BoolOp .And (a :: b :: rest) pos) (tAndV ta tb):=by
 intro pins s σ H Q I h
 refine BoolOp_and (thn (ha pins s σ H _ I h) fun v s1 ⟨x,H1,I1,r1,q1⟩=>?_)
 obtain ⟨c,rfl,q1⟩:=q1
 cases r1
 refine wpAny_truthy_bool ?_
 cases c with
 | true=>exact hb pins s1 σ H1 Q I1 q1
 | false=>exact ⟨.bl false,H1,I1,rfl,q1⟩
theorem pe_not (ha:PE X a ta):PE X (.UnaryOp .Not a pos) (tNotV ta):=by
 intro pins s σ H Q I h
 refine UnaryOp_ (thn (ha pins s σ H _ I h) fun v s1 ⟨x,H1,I1,r1,q1⟩=>?_)
 obtain ⟨c,rfl,q1⟩:=q1
 cases r1
 exact not_of (wpAny_truthy_bool ⟨.bl (!c),H1,I1,rfl,q1⟩)
def tIf (t:TT) (ta tb:TE):TE:=fun σ H Q=>t σ H fun c H1=>if c = true then ta σ H1 Q else tb σ H1 Q
theorem pe_ifExp {c:Expr} (hc:PT X c tA) (ha:PE X a ta) (hb:PE X b tb):PE X (.IfExp c a b pos) (tIf tA ta tb):=by
 intro pins s σ H Q I h
 refine wpAny_IfExp (thn (hc pins s σ H _ I h) fun d s1 ⟨H1,I1,q1⟩=>?_)
 cases d with
 | true=>exact ha pins s1 σ H1 Q I1 q1
 | false=>exact hb pins s1 σ H1 Q I1 q1
end
end L2
namespace L2
open PySem PySem.Spec PyProof.Rows
def SqL (K:PySem.W.Frag) (H:Hp) (a:Addr) (xs:List V):Prop :=
 Rd H a (.lst xs) ∨
  ∃ (o:Obj) (its:Array Value) (n:Nat),K.lookup a = some o∧o.cls = .type "list"∧o.dict = none∧o.data = .seq its n∧its.size≤sizeLine∧Vals xs its.toList
def SqT (K:PySem.W.Frag) (H:Hp) (a:Addr) (xs:List V):Prop :=
 Rd H a (.tup xs) ∨
  ∃ (o:Obj) (its:Array Value) (n:Nat),K.lookup a = some o∧o.cls = .type "tuple"∧o.data = .seq its n∧its.size≤sizeLine∧Vals xs its.toList
def absV:Value→Option V
 | .none=>some .non
 | .bool b=>some (.bl b)
 | .int i _=>some (.int i)
 | .str x _=>some (.str x)
 | .bytes b _=>some (.byt b)
 | .float b _=>some (.flt b)
 | .ref a=>some (.ref a)
 | .type n=>some (.ty n)
 | _=>none
theorem RelV.abs {x:V} {u:Value} (r:RelV x u):absV u = some x:=by
 cases x with
 | non=>cases r; rfl
 | bl _=>cases r; rfl
 | int _=>obtain ⟨t,rfl⟩:=r; rfl
 | str _=>obtain ⟨t,rfl⟩:=r; rfl
 | byt _=>obtain ⟨t,rfl⟩:=r; rfl
 | flt _=>obtain ⟨t,rfl⟩:=r; rfl
 | ref _=>cases r; rfl
 | ty _=>cases r; rfl
theorem RelV.inj {x y:V} {u:Value} (r:RelV x u) (q:RelV y u):x = y:=Option.some.inj (r.abs.symm.trans q.abs)
theorem Vals.inj:∀ {xs ys:List V} {us:List Value},Vals xs us→Vals ys us→xs = ys
 | _,_,_,.nil,.nil=>rfl
 | _,_,_,.cons r t,.cons r' t'=>by rw [r.inj r',Vals.inj t t']
section
variable {X:Cx} {pins:List (Addr × Obj)} {σ:St} {H:Hp} {s:Shared} {a:Addr} {xs ys:List V}
theorem SqL.of {K:PySem.W.Frag} (h:H a = some (.lst xs)):SqL K H a xs:=.inl (.inl h)
theorem SqT.of {K:PySem.W.Frag} (h:H a = some (.tup xs)):SqT K H a xs:=.inl (.inl h)
theorem Inv.list (I:Inv X pins σ H s) (h:SqL X.K H a xs):∃ its:List Value,Vals xs its∧PlainL s.heap a its.toArray∧xs.length≤sizeLine:=by
 rcases h with h | ⟨o,its,n,hk,hc,hd,hs,hz,r⟩
 ·obtain ⟨z,its,n,r,e⟩:=h.ok I.hok
  exact ⟨its,r,⟨_,n,e,rfl,rfl,rfl⟩,z⟩
 ·refine ⟨its.toList,r,⟨o,n,I.kIn a o hk,hc,hd,by simpa using hs⟩,?_⟩
  have e:=r.length
  simp only [Array.length_toList] at e
  omega
theorem Inv.tuple (I:Inv X pins σ H s) (h:SqT X.K H a xs):∃ its:List Value,Vals xs its∧IsTup s.heap a its.toArray∧xs.length≤sizeLine:=by
 rcases h with h | ⟨o,its,n,hk,hc,hs,hz,r⟩
 ·obtain ⟨z,its,r,p⟩:=h.ok I.hok
  exact ⟨its,r,p,z⟩
 ·refine ⟨its.toList,r,⟨o,I.kIn a o hk,hc,n,by simpa using hs⟩,?_⟩
  have e:=r.length
  simp only [Array.length_toList] at e
  omega
theorem Inv.list_inj (I:Inv X pins σ H s) (h:SqL X.K H a xs) (h':SqL X.K H a ys):xs = ys:=by
 obtain ⟨its,r,⟨o,n,e,_,_,d⟩,_⟩:=I.list h
 obtain ⟨its',r',⟨o',n',e',_,_,d'⟩,_⟩:=I.list h'
 rw [e] at e'; cases e'
 rw [d] at d'
 injection d' with d1 _
 have:its = its':=by simpa using congrArg Array.toList d1
 subst this
 exact r.inj r'
end
abbrev Cx.wish (X:Cx) (E:Value→Shared→Prop):Cx:={ X with xe:=E }
abbrev Cx.nox (X:Cx):Cx:=X.wish fun _ _=>False
theorem Cx.Ok.wish {X:Cx} (ok:X.Ok) (E:Value→Shared→Prop):(X.wish E).Ok :=
 ⟨ok.mod,ok.kind,ok.glob,ok.blt,ok.above,ok.inj,ok.has,ok.cab,ok.hd,ok.frames,ok.stk,ok.exf,ok.bs,ok.bsz,ok.noex,ok.exfs,ok.funs,ok.frf⟩
theorem Cx.Ok.unwish {X:Cx} {E:Value→Shared→Prop} (ok:(X.wish E).Ok):X.Ok :=
 ⟨ok.mod,ok.kind,ok.glob,ok.blt,ok.above,ok.inj,ok.has,ok.cab,ok.hd,ok.frames,ok.stk,ok.exf,ok.bs,ok.bsz,ok.noex,ok.exfs,ok.funs,ok.frf⟩
section
variable {X:Cx} {pins:List (Addr × Obj)} {σ:St} {H:Hp} {s:Shared} {E:Value→Shared→Prop}
theorem Inv.wish (I:Inv X pins σ H s) (E:Value→Shared→Prop):Inv (X.wish E) pins σ H s:=⟨I.ok.wish E,I.os,I.bare,I.base,I.loc,I.cell,I.free,I.freeC,I.pin,I.hok,I.len⟩
theorem Inv.unwish (I:Inv (X.wish E) pins σ H s):Inv X pins σ H s:=⟨I.ok.unwish,I.os,I.bare,I.base,I.loc,I.cell,I.free,I.freeC,I.pin,I.hok,I.len⟩
theorem SP.unwish {D:Ends} {f:Flow} {s':Shared} (h:SP (X.wish E) pins D f s'):SP X pins D f s':=by
 cases f with
 | next=>obtain ⟨σ',H',I,q⟩:=h; exact ⟨σ',H',I.unwish,q⟩
 | brk=>obtain ⟨σ',H',I,q⟩:=h; exact ⟨σ',H',I.unwish,q⟩
 | cont=>obtain ⟨σ',H',I,q⟩:=h; exact ⟨σ',H',I.unwish,q⟩
 | ret u=>obtain ⟨v,σ',H',I,r,q⟩:=h; exact ⟨v,σ',H',I.unwish,r,q⟩
theorem PSs.nox {st:List Stmt} {t:TS} (h:PSs X.nox st t):PSs X st t:=fun pins s σ H D I hw =>
 wpAny_mono (h pins s σ H D (I.wish _) hw) (fun _ _ q=>q.unwish) fun _ _ z=>False.elim z
end
section
variable {X:Cx} {st:Stmt} {rest:List Stmt} {t u:TS} {e:Expr} {te:TE} {pos:Pos}
def tNext:TS:=fun D σ H=>D.nx σ H
def tSeq (t u:TS):TS:=fun D σ H=>t { D with nx:=u D } σ H
theorem pss_nil:PSs X [] tNext:=fun _ _ σ H _ I h=>wpAny_execs_nil ⟨σ,H,I,h⟩
theorem pss_cons (h1:PS X st t) (h2:PSs X rest u):PSs X (st :: rest) (tSeq t u):=by
 intro pins s σ H D I h
 refine wpAny_execs_cons (thn (h1 pins s σ H { D with nx:=u D } I h) fun f s1 q=>?_)
 cases f with
 | next =>
  obtain ⟨σ',H',I',q⟩:=q
  exact h2 pins s1 σ' H' D I' q
 | ret v=>exact q
 | brk=>exact q
 | cont=>exact q
theorem pss_one (h1:PS X st t):PSs X [st] t:=by
 intro pins s σ H D I h
 refine wpAny_execs_cons (thn (h1 pins s σ H D I h) fun f s1 q=>?_)
 cases f with
 | next=>exact wpAny_execs_nil q
 | ret v=>exact q
 | brk=>exact q
 | cont=>exact q
theorem Inv.quiet {pins:List (Addr × Obj)} {σ:St} {H:Hp} {s:Shared} (I:Inv X pins σ H s):interactive X.env = false:=by simp [interactive,I.ok.kind]
def tDrop (te:TE):TS:=fun D σ H=>te σ H fun _ H1=>D.nx σ H1
theorem ps_expr (he:PE X e te) (hs:swapsWith e none pos.line X.env = pure false:=by rfl):PS X (.Expr e pos) (tDrop te):=by
 intro pins s σ H D I h
 exact wpAny_Expr_any (thn (he pins s σ H _ I h) fun v s1 ⟨x,H1,I1,r1,q1⟩=>⟨σ,H1,I1,q1⟩) I.quiet hs
def tRet (te:TE):TS:=fun D σ H=>te σ H D.rt
theorem ps_ret (he:PE X e te):PS X (.Return (some e) pos) (tRet te):=by
 intro pins s σ H D I h
 exact wpAny_Return_some (thn (he pins s σ H _ I h) fun v s1 ⟨x,H1,I1,r1,q1⟩=>⟨x,σ,H1,I1,r1,q1⟩)
def tIfS (c:TT) (t u:TS):TS:=fun D σ H=>c σ H fun b H1=>if b = true then t D σ H1 else u D σ H1
theorem ps_if {c:Expr} {a b:List Stmt} {tc:TT} (hc:PT X c tc) (ha:PSs X a t) (hb:PSs X b u):PS X (.If c a b pos) (tIfS tc t u):=by
 intro pins s σ H D I h
 refine wpAny_If (thn (hc pins s σ H _ I h) fun d s1 ⟨H1,I1,q1⟩=>?_)
 cases d with
 | true=>exact ha pins s1 σ H1 D I1 q1
 | false=>exact hb pins s1 σ H1 D I1 q1
def tNever:TS:=fun _ _ _=>False
theorem ps_never:PS X st tNever:=fun _ _ _ _ _ _ h=>h.elim
end
abbrev TG:=V→St→Hp→(St→Hp→Prop)→Prop
abbrev TGs:=List V→St→Hp→(St→Hp→Prop)→Prop
def PG (X:Cx) (target:Expr) (t:TG):Prop :=
 ∀ (pins:List (Addr × Obj)) (s:Shared) (σ:St) (H:Hp) (v:V) (u:Value) (Q:St→Hp→Prop),Inv X pins σ H s→RelV v u→t v σ H Q →
  wpAny (model X.prog X.w) X.A (assign target X.env u) (fun _ s'=>∃ σ' H',Inv X pins σ' H' s'∧Q σ' H') X.xe s
def PGs (X:Cx) (ts:List Expr) (t:TGs):Prop :=
 ∀ (pins:List (Addr × Obj)) (s:Shared) (σ:St) (H:Hp) (vs:List V) (us:List Value) (Q:St→Hp→Prop),Inv X pins σ H s→Vals vs us→t vs σ H Q →
  wpAny (model X.prog X.w) X.A (assignInOrder ((assignEach ts X.env).map (·.2)) us) (fun _ s'=>∃ σ' H',Inv X pins σ' H' s'∧Q σ' H') X.xe s
abbrev TSet:=V→V→V→Hp→(Hp→Prop)→Prop
def PSet (X:Cx) (t:TSet):Prop :=
 ∀ (pins:List (Addr × Obj)) (s:Shared) (σ:St) (H:Hp) (o i v:V) (ov iv u:Value) (Q:Hp→Prop),Inv X pins σ H s→RelV o ov→RelV i iv→RelV v u→t o i v H Q →
  wpAny (model X.prog X.w) X.A (setItem ov iv u) (fun _ s'=>∃ H',Inv X pins σ H' s'∧Q H') X.xe s
section
variable {X:Cx} {pos:Pos}
def gName (i:Nat):TG:=fun v σ H Q=>Q (σ.set i (some v)) H
theorem pg_name {i:Nat} {x:Str} (hN:X.N.Nodup) (hi:X.N[i]? = some x) (hx:Loc X.env.scope x) (hf:X.fn x = true∨X.env.scope.names.lookup x = some .local:=by first | exact .inl rfl | exact .inr rfl | assumption):PG X (.Name x pos) (gName i):=by
 intro pins s σ H v u Q I r h
 exact wpAny_assign_Name (store_ok I hN hi hx r (fun s' I'=>⟨_,H,I',h⟩) hf)
def gNil:TGs:=fun vs σ H Q=>vs = []∧Q σ H
def gCons (t:TG) (u:TGs):TGs:=fun vs σ H Q=>∃ v r,vs = v :: r∧t v σ H fun σ' H'=>u r σ' H' Q
theorem pgs_nil:PGs X [] gNil:=by
 intro pins s σ H vs us Q I r h
 obtain ⟨e,h⟩:=h
 subst e
 cases r
 exact assignInOrder_nil ⟨σ,H,I,h⟩
theorem pgs_cons {e:Expr} {es:List Expr} {t:TG} {u:TGs} (h1:PG X e t) (h2:PGs X es u)
  (hs:(assignEach (e :: es) X.env).map (·.2) = assign e X.env :: (assignEach es X.env).map (·.2):=by rfl):PGs X (e :: es) (gCons t u):=by
 intro pins s σ H vs us Q I r h
 obtain ⟨v,vr,e1,h⟩:=h
 subst e1
 cases r with
 | cons r rr =>
  rw [hs]
  refine assignInOrder_cons (thn (h1 pins s σ H _ _ _ I r h) fun _ s1 ⟨σ1,H1,I1,q1⟩=>?_)
  exact h2 pins s1 σ1 H1 _ _ Q I1 rr q1
def gTup (K:PySem.W.Frag) (n:Nat) (t:TGs):TG:=fun v σ H Q=>∃ a xs,v = .ref a∧SqT K H a xs∧xs.length = n∧t xs σ H Q
theorem pg_tup {es:List Expr} {k:Nat} {t:TGs} {n:Nat} (hc:X.calm = true) (h:PGs X es t)
  (hn:(assignEach es X.env).length = n:=by rfl) (hst:(assignEach es X.env).findIdx? (·.1) = none:=by rfl):PG X (.Tuple es k pos) (gTup X.K n t):=by
 intro pins s σ H v u Q I r hw
 obtain ⟨a,xs,e1,hq,hl,hw⟩:=hw
 subst e1
 cases r
 obtain ⟨its,rv,ht,hz⟩:=I.tuple hq
 refine assign_Tuple_tuple (I.ok.hd hc) ht (by simp [hn,← hl,rv.length]) hst fun h' hx=>?_
 have I1:Inv X pins σ H { s with heap:=h' }:=I.kept (t':=s.toks) fun b o e=>hx b o (Nat.ne_of_lt (Heap.lt_size e)) e
 exact h pins _ σ H xs _ Q I1 (by simpa using rv) hw
def gSub (to ti:TE) (t:TSet):TG:=fun v σ H Q=>to σ H fun o H1=>ti σ H1 fun i H2=>t o i v H2 fun H3=>Q σ H3
theorem pg_sub {o i:Expr} {to ti:TE} {t:TSet} (ho:PE X o to) (hi:PE X i ti) (hs:PSet X t)
  (ha:∀ v,assign (.Subscript o i pos) X.env v = (do
   let ov ← holding [v] (eval o X.env)
   let iv ← holding [v,ov] (eval i X.env)
   standAt pos
   holding [v,ov,iv] (setItem ov iv v)
   release [v,ov,iv] []):=by intro _; rfl):PG X (.Subscript o i pos) (gSub to ti t):=by
 intro pins s σ H v u Q I r h
 rw [ha]
 refine wpAny_bind (wpAny_holding (thn (ho pins s σ H _ I h) fun ov s1 ⟨x,H1,I1,r1,q1⟩=>?_))
 refine wpAny_bind (wpAny_holding (thn (hi pins s1 σ H1 _ I1 q1) fun iv s2 ⟨y,H2,I2,r2,q2⟩=>?_))
 refine wpAny_bind (wpAny_standAt (wpAny_bind (wpAny_holding (thn (hs pins s2 σ H2 x y v ov iv u _ I2 r1 r2 r q2) fun _ s3 ⟨H3,I3,q3⟩=>?_))))
 exact wpAny_release ⟨σ,H3,I3,q3⟩
def tAsg (te:TE) (g:TG):TS:=fun D σ H=>te σ H fun x H1=>g x σ H1 D.nx
theorem ps_asg {tg e:Expr} {te:TE} {g:TG} (he:PE X e te) (hg:PG X tg g) (hs:swapsWithSole [tg] e pos.line X.env = pure false:=by rfl) (hw:swappedStores [tg] e X.env = pure none:=by rfl)
  (h1:(assignEach [tg] X.env).map (·.2) = [assign tg X.env]:=by rfl):PS X (.Assign [tg] e pos) (tAsg te g):=by
 intro pins s σ H D I h
 refine wpAny_Assign_stores (thn (he pins s σ H _ I h) fun v s1 ⟨x,H1,I1,r1,q1⟩=>?_) hs hw
 rw [h1]
 exact thn (hg pins s1 σ H1 x v _ I1 r1 q1) fun _ s2 q=>q
theorem ps_set {i:Nat} {x:Str} {e:Expr} {te:TE} {pos':Pos} (hN:X.N.Nodup) (hi:X.N[i]? = some x) (hx:Loc X.env.scope x) (he:PE X e te) (hs:swapsWith e (some (.Name x pos')) pos.line X.env = pure false:=by rfl) (hf:X.fn x = true∨X.env.scope.names.lookup x = some .local:=by first | exact .inl rfl | exact .inr rfl | assumption) :
  PS X (.Assign [.Name x pos'] e pos) (tAsg te (gName i)):=by
 intro pins s σ H D I h
 refine wpAny_Assign_Name (thn (he pins s σ H _ I h) fun v s1 ⟨y,H1,I1,r1,q1⟩=>?_) hs
 exact store_ok I1 hN hi hx r1 (fun s2 I2=>⟨_,H1,I2,q1⟩) hf
end
section
variable {X:Cx} {pos:Pos}
def tWhile (c:TT) (tb:TS):TS:=fun D σ H=>∃ W:Nat→St→Hp→Prop,(∃ m,W m σ H)∧∀ m σ H,W m σ H →
 c σ H fun b H1=>if b = true then ∃ N:St→Hp→Prop,(∀ σ' H',N σ' H'→∃ m',m' < m∧W m' σ' H')∧tb { D with nx:=N,ct:=N,bk:=D.nx } σ H1 else D.nx σ H1
theorem ps_while {c:Expr} {body:List Stmt} {tc:TT} {tb:TS} (hp:PassesOwn (model X.prog X.w) X.A X.env X.xe) (hc:PT X c tc) (hb:PSs X body tb):PS X (.While c body [] pos) (tWhile tc tb):=by
 intro pins s σ H D I h
 obtain ⟨W,⟨m0,w0⟩,turn⟩:=h
 refine wpAny_While (codeAny_whileLoop (fun n s'=>∃ σ' H',Inv X pins σ' H' s'∧W n σ' H') ?_ m0 ⟨σ,H,I,w0⟩)
 rintro n s1 ⟨σ1,H1,I1,w1⟩
 refine wpAny_passesOwn hp (thn (hc pins s1 σ1 H1 _ I1 (turn n σ1 H1 w1)) fun b s2 ⟨H2,I2,q2⟩=>?_)
 cases b with
 | true =>
  obtain ⟨N,hN,q2⟩:=q2
  rw [if_pos rfl]
  refine wpAny_passesOwn hp (thn (hb pins s2 σ1 H2 _ I2 q2) fun f s3 q3=>?_)
  cases f with
  | next =>
   obtain ⟨σ3,H3,I3,n3⟩:=q3
   obtain ⟨m',hm,w3⟩:=hN σ3 H3 n3
   exact ⟨m',hm,σ3,H3,I3,w3⟩
  | cont =>
   obtain ⟨σ3,H3,I3,n3⟩:=q3
   obtain ⟨m',hm,w3⟩:=hN σ3 H3 n3
   exact ⟨m',hm,σ3,H3,I3,w3⟩
  | brk=>exact q3
  | ret v=>exact q3
 | false =>
  rw [if_neg Bool.false_ne_true]
  exact wpAny_execs_nil ⟨σ1,H2,I2,q2⟩
end
structure It where
 go:Nat→Hp→Prop
 yld:Nat→Hp→V→Hp→Prop
 stop:Nat→Hp→Prop
def FpOk (X:Cx) (pins:List (Addr × Obj)) (H:Hp) (b:Addr):Prop :=
 H b = none∧b ≠ X.env.locals∧b ∉ X.fs∧(b ∈ X.ex∨X.s₀.heap.objs.size≤b)∧(∀ x c,X.env.cells.lookup x = some c→c ≠ b)∧∀ p ∈ X.pn ++ pins,p.1 ≠ b
theorem Inv.fpOk {X:Cx} {pins:List (Addr × Obj)} {σ:St} {H H':Hp} {s:Shared} {b:Addr} (I:Inv X pins σ H s) (hb:s.heap.objs.size≤b) (hn:H' b = none):FpOk X pins H' b:=by
 refine ⟨hn,Nat.ne_of_gt (Nat.lt_of_lt_of_le I.lt hb),I.nofs hb,.inr (Nat.le_trans I.sz hb),fun x c e z=>?_,fun p hp z=>?_⟩
 ·obtain ⟨v,q⟩:=I.cell x c e
  exact absurd (Nat.lt_of_lt_of_le q.lt (by rw [z]; exact hb)) (Nat.lt_irrefl _)
 ·exact absurd (Nat.lt_of_lt_of_le (Heap.lt_size (I.pin p hp).1) (by rw [z]; exact hb)) (Nat.lt_irrefl _)
structure Turn (P:Program) (w:World) (K:PySem.W.Frag) (tg:Expr) (J:It) (fp:List Addr) (it:Addr) (tn:Nat→Heap→Prop):Prop where
 mem:it ∈ fp
 obj:∀ i h,tn i h→∀ b ∈ fp,∃ o,h.get? b = some o∧∀ v,o.data ≠ .cell v
 keep:∀ i h h',tn i h→(∀ b ∈ fp,∀ o,h.get? b = some o→h'.get? b = some o)→tn i h'
 item:∀ (X:Cx),X.prog = P→X.w = w→X.K = K→X.calm = true→∀ (i:Nat) (pins:List (Addr × Obj)) (s:Shared) (σ:St) (H:Hp) (E:Value→Shared→Prop),Inv X pins σ H s→(∀ b ∈ fp,FpOk X pins H b)→tn i s.heap→J.go i H →
  wpAny (model P w) X.A (pyNext (.ref it)) (fun r s1=>∃ u,r = some u ∧
   wpAny (model P w) X.A (letOwnedTupleGo tg (.ref it) u) (fun _ s2=>∃ x H',Inv X pins σ H' s2∧RelV x u∧J.yld i H x H'∧tn (i + 1) s2.heap∧∀ b ∈ fp,H' b = none) E s1) E s
 done:∀ (X:Cx),X.prog = P→X.w = w→X.K = K→X.calm = true→∀ (i:Nat) (pins:List (Addr × Obj)) (s:Shared) (σ:St) (H:Hp) (E:Value→Shared→Prop),Inv X pins σ H s→(∀ b ∈ fp,FpOk X pins H b)→tn i s.heap→J.stop i H →
  wpAny (model P w) X.A (pyNext (.ref it)) (fun r s1=>r = none∧Inv X pins σ H s1) E s
 self:∀ (A:Around) (i:Nat) (s:Shared) (Q:Value→Shared→Prop) (E:Value→Shared→Prop),tn i s.heap→Q (.ref it) s→wpAny (model P w) A (pyIter (.ref it)) Q E s
abbrev TI:=St→Hp→(It→Hp→Prop)→Prop
def PIE (X:Cx) (pins:List (Addr × Obj)) (σ:St) (tg:Expr) (R:It→Hp→Prop) (itv:Value) (s2:Shared):Prop :=
 ∃ (it:Addr) (fp:List Addr) (tn:Nat→Heap→Prop) (J:It) (H':Hp),itv = .ref it∧Inv X pins σ H' s2∧Turn X.prog X.w X.K tg J fp it tn∧tn 0 s2.heap∧(∀ b ∈ fp,FpOk X pins H' b)∧R J H'
def PI (X:Cx) (tg iter:Expr) (wi:TI):Prop :=
 ∀ (pins:List (Addr × Obj)) (s:Shared) (σ:St) (H:Hp) (R:It→Hp→Prop),Inv X pins σ H s→wi σ H R →
  wpAny (model X.prog X.w) X.A (eval iter X.env) (fun v s1=>wpAny (model X.prog X.w) X.A (pyIter v) (PIE X pins σ tg R) X.xe s1) X.xe s
theorem go_of {M:Model} {A:Around} {E:Value→Shared→Prop} {s:Shared} {tg:Expr} {it:Addr} {u:Value} {o:Obj} {n:String} {vs:Array Value} {Q:Unit→Shared→Prop} (ho:s.heap.get? it = some o) (hc:o.cls = .type n) (hd:o.data = .fields vs)
  (hn:["enumerate", "zip", "dict_itemiterator", "dict_reverseitemiterator", "odict_iterator", "itertools.zip_longest", "itertools.pairwise"].contains n = false) (hQ:Q () s):wpAny M A (letOwnedTupleGo tg (.ref it) u) Q E s:=by
 unfold letOwnedTupleGo
 cases tg <;> first
  | exact wpAny_pure hQ
  | (cases u <;> first
    | exact wpAny_pure hQ
    | (refine wpAny_bind (wpAny_load ho ?_)
       rw [hc,hd]
       show wpAny M A (if (["enumerate", "zip", "dict_itemiterator", "dict_reverseitemiterator", "odict_iterator", "itertools.zip_longest", "itertools.pairwise"].contains n && vs[0]? == some (rawInt _)) = true then _ else _) Q E s
       rw [if_neg (by intro h; rw [hn,Bool.false_and] at h; cases h)]
       exact wpAny_pure hQ))
def Itl (K:PySem.W.Frag) (a:Addr):It :=
 ⟨fun i H=>∃ xs x,SqL K H a xs∧xs[i]? = some x,fun i H x H'=>H' = H∧∀ xs,SqL K H a xs→xs[i]? = some x,fun i H=>∃ xs,SqL K H a xs∧xs.length≤i⟩
def Itr (lo:Int) (n:Nat):It:=⟨fun i _=>i < n,fun i H x H'=>H' = H∧x = .int (lo + i),fun i _=>n≤i⟩
theorem turn_list {P:Program} {w:World} {K:PySem.W.Frag} {tg:Expr} (a it:Addr):Turn P w K tg (Itl K a) [it] it (fun i h=>h.IsListIter it a i) where
 mem:=by simp
 obj:=fun i h st b hb=>by
  have e:b = it:=by simpa using hb
  subst e
  obtain ⟨o,e,c,d⟩:=st
  exact ⟨o,e,fun v z=>by rw [d] at z; cases z⟩
 keep:=fun i h h' st k=>st.at fun o e=>k it (by simp) o e
 item:=by
  intro X hP hw hK hc i pins s σ H E I hf st hg
  subst hP hw hK
  obtain ⟨xs,x,hq,hx⟩:=hg
  obtain ⟨its,rv,p,hz⟩:=I.list hq
  obtain ⟨u,hu,ru⟩:=rv.get hx
  obtain ⟨f0,f1,f2,f3,f4,f5⟩:=hf it (by simp)
  refine wpAny_pyNext_list_item st p.isList (x:=u) (by simpa using hu) fun h' st' sb=>?_
  have I1:Inv X pins σ H { s with heap:=h' }:=I.turned (t':=s.toks) (fun b o hb e=>(sb.2 b hb).trans e) f0 f1 f3 f4 f5
  obtain ⟨o,e,c,d⟩:=id st'
  exact ⟨u,rfl,go_of (s:={ s with heap:=h' }) e c d (by decide) ⟨x,H,I1,ru,⟨rfl,fun ys hy=>by rw [I.list_inj hy hq]; exact hx⟩,st',fun b hb=>(hf b hb).1⟩⟩
 done:=by
  intro X hP hw hK hc i pins s σ H E I hf st hg
  subst hP hw hK
  obtain ⟨xs,hq,hx⟩:=hg
  obtain ⟨its,rv,p,hz⟩:=I.list hq
  obtain ⟨f0,f1,f2,f3,f4,f5⟩:=hf it (by simp)
  have hl:=rv.length
  exact wpAny_pyNext_list_end (I.ok.hd hc) st p.isList (by simp; omega) fun h' eb=>⟨rfl,I.turned (t':=s.toks) (fun b o hb e=>eb b o hb e) f0 f1 f3 f4 f5⟩
 self:=fun _ _ _ _ _ st h=>wpAny_pyIter_listiter st h
theorem turn_range {P:Program} {w:World} {K:PySem.W.Frag} {tg:Expr} (it:Addr) (lo:Int) (n:Nat):Turn P w K tg (Itr lo n) [it] it (fun i h=>IsRangeIter h it (lo + (i:Nat) * 1) ((n:Int) - (i:Nat)) 1) where
 mem:=by simp
 obj:=fun i h st b hb=>by
  have e:b = it:=by simpa using hb
  subst e
  exact ⟨_,st,fun v z=>by
   have z':Data.fields _ = Data.cell v:=z
   cases z'⟩
 keep:=fun i h h' st k=>k it (by simp) _ st
 item:=by
  intro X hP hw hK hc i pins s σ H E I hf st hg
  subst hP hw hK
  obtain ⟨f0,f1,f2,f3,f4,f5⟩:=hf it (by simp)
  have W:=Walks.range (prog:=X.prog) (w:=X.w) (I.ok.hd hc) it lo 1 n
  refine W.item i s _ _ hg st fun v h' tk hv st' kk=>?_
  obtain ⟨t,rfl⟩:=hv
  have I1:Inv X pins σ H { s with heap:=h',toks:=tk }:=I.turned (fun b o hb e=>kk b o (by simpa using hb) e) f0 f1 f3 f4 f5
  refine ⟨_,rfl,go_of (s:={ s with heap:=h',toks:=tk }) (n:="range_iterator") st' rfl rfl (by decide) ⟨.int (lo + i),H,I1,⟨t,?_⟩,⟨rfl,rfl⟩,st',fun b hb=>(hf b hb).1⟩⟩
  rw [Int.mul_one]
 done:=by
  intro X hP hw hK hc i pins s σ H E I hf st hg
  subst hP hw hK
  obtain ⟨f0,f1,f2,f3,f4,f5⟩:=hf it (by simp)
  exact wpAny_pyNext_range_end (I.ok.hd hc) st (by have:n≤i:=hg; omega) fun h' eb=>⟨rfl,I.turned (t':=s.toks) (fun b o hb e=>eb b o hb e) f0 f1 f3 f4 f5⟩
 self:=fun _ _ _ _ _ st h=>wpAny_pyIter_rangeiter st h
end L2
namespace L2
open PySem PySem.Spec PyProof.Rows
section
variable {X:Cx} {tg:Expr}
def iList (K:PySem.W.Frag) (tl:TE):TI:=fun σ H R=>tl σ H fun x H1=>∃ a,x = .ref a∧(∃ xs,SqL K H1 a xs)∧R (Itl K a) H1
theorem pi_list {l:Expr} {tl:TE} (hl:PE X l tl):PI X tg l (iList X.K tl):=by
 intro pins s σ H R I h
 refine thn (hl pins s σ H _ I h) fun v s1 ⟨x,H1,I1,r1,q1⟩=>?_
 obtain ⟨a,e,⟨xs,hq⟩,q⟩:=q1
 subst e
 cases r1
 obtain ⟨its,rv,p,hz⟩:=I1.list hq
 refine wpAny_pyIter_list p.isList ?_
 refine ⟨s1.heap.objs.size,[s1.heap.objs.size],_,_,H1,rfl,I1.kept (t':=s1.toks) fun b o e=>Heap.get?_push_of_some _ e,turn_list a _,⟨_,Heap.get?_push_size _ rfl,rfl,rfl⟩,fun b hb=>?_,q⟩
 have e:b = s1.heap.objs.size:=by simpa using hb
 subst e
 exact I1.fpOk (Nat.le_refl _) (I1.hok.fresh (Nat.le_refl _))
theorem range_it {pins:List (Addr × Obj)} {σ:St} {H:Hp} {s:Shared} {R:It→Hp→Prop} {E:Value→Shared→Prop} {lo hi:Int} {t u v:Tok} {tk:Nat} (I:Inv X pins σ H s) (h1:-(2 ^ 62)≤lo) (h2:lo < 2 ^ 62) (h3:-(2 ^ 62)≤hi) (h4:hi < 2 ^ 62)
  (q:R (Itr lo (hi - lo).toNat) H):wpAny (model X.prog X.w) X.A (pyIter (.ref s.heap.objs.size)) (PIE X pins σ tg R) E { s with heap:=s.heap.push { cls:=.type "range",data:=.fields #[.int lo t,.int hi u,.int 1 v] },toks:=tk }:=by
 refine wpAny_pyIter_range (IsRange.new ..) (small_one h1 h2 h3 h4) ?_
 have I1:Inv X pins σ H { s with heap:=s.heap.push { cls:=.type "range",data:=.fields #[.int lo t,.int hi u,.int 1 v] },toks:=tk }:=I.kept fun b o e=>Heap.get?_push_of_some _ e
 refine ⟨(s.heap.push { cls:=.type "range",data:=.fields #[.int lo t,.int hi u,.int 1 v] }).objs.size,[(s.heap.push { cls:=.type "range",data:=.fields #[.int lo t,.int hi u,.int 1 v] }).objs.size],_,_,H,rfl,
  I1.kept (t':=tk) fun b o e=>Heap.get?_push_of_some _ e,turn_range _ lo (hi - lo).toNat,?_,fun b hb=>?_,q⟩
 ·have e1:lo + ((0:Nat):Int) * 1 = lo:=by simp
  have e2:(((hi - lo).toNat:Nat):Int) - ((0:Nat):Int) = Builtin.Range.rangeSize lo hi 1:=by rw [rangeSize_one]; split <;> omega
  show IsRangeIter _ _ (lo + ((0:Nat):Int) * 1) ((((hi - lo).toNat:Nat):Int) - ((0:Nat):Int)) 1
  rw [e1,e2]
  exact Heap.get?_push_size _ rfl
 ·have e:b = (s.heap.push { cls:=.type "range",data:=.fields #[.int lo t,.int hi u,.int 1 v] }).objs.size:=by simpa using hb
  subst e
  exact I1.fpOk (Nat.le_refl _) (I1.hok.fresh (Nat.le_refl _))
def iRng1 (ta:TA):TI:=fun σ H R=>ta σ H fun vs H1=>∃ j:Int,vs = [.int j]∧-(2 ^ 62)≤j∧j < 2 ^ 62∧R (Itr 0 j.toNat) H1
theorem pi_range1 {a:Expr} {ta:TA} {p pos:Pos} (hg:Gl X "range") (hm:X.mg "range" = none) (ha:PA X [a] ta) (hs:starEach [a] X.env = [(false,eval a X.env)]:=by rfl):PI X tg (.Call (.Name "range" p) [a] [] pos) (iRng1 ta):=by
 intro pins s σ H R I h
 refine Call_ (ld_blt I hg hm boot_range (PyProof.Rows.callWith_type1 (thn (ha pos pins s σ H _ I h) fun us s1 ⟨vs,H1,I1,r1,q1⟩=>?_) hs rfl))
 obtain ⟨j,e,q1,q2,q⟩:=q1
 subst e
 cases r1 with
 | cons r rr =>
  cases rr
  obtain ⟨t,rfl⟩:=r
  exact call_range_1 (range_it I1 (by omega) (by omega) q1 q2 (by simpa using q))
def tFor (wi:TI) (g:TG) (tb:TS):TS:=fun D σ H=>wi σ H fun J H1=>∃ W:Nat→Nat→St→Hp→Prop,(∃ m,W 0 m σ H1)∧∀ i m σ H,W i m σ H →
 (J.stop i H∧D.nx σ H)∨(J.go i H∧∃ N:St→Hp→Prop,(∀ σ' H',N σ' H'→∃ m',m' < m∧W (i + 1) m' σ' H')∧∀ x H',J.yld i H x H'→g x σ H' fun σ2 H2=>tb { D with nx:=N,ct:=N,bk:=D.nx } σ2 H2)
def pinsAt (fp:List Addr) (h:Heap):List (Addr × Obj):=fp.filterMap fun b=>(h.get? b).map fun o=>(b,o)
theorem mem_pinsAt {fp:List Addr} {h:Heap} {b:Addr} {o:Obj} (hb:b ∈ fp) (e:h.get? b = some o):(b,o) ∈ pinsAt fp h:=List.mem_filterMap.mpr ⟨b,hb,by rw [e]; rfl⟩
theorem of_pinsAt {fp:List Addr} {h:Heap} {p:Addr × Obj} (hp:p ∈ pinsAt fp h):p.1 ∈ fp∧h.get? p.1 = some p.2:=by
 obtain ⟨b,hb,e⟩:=List.mem_filterMap.mp hp
 cases q:h.get? b with
 | none=>rw [q] at e; cases e
 | some o =>
  rw [q] at e
  have e':(b,o) = p:=Option.some.inj e
  subst e'
  exact ⟨hb,q⟩
theorem Inv.pinned {pins:List (Addr × Obj)} {σ:St} {H:Hp} {s:Shared} {fp:List Addr} (I:Inv X pins σ H s) (hf:∀ b ∈ fp,FpOk X pins H b) (ho:∀ b ∈ fp,∃ o,s.heap.get? b = some o∧∀ v,o.data ≠ .cell v):Inv X (pins ++ pinsAt fp s.heap) σ H s :=
 I.pins_of fun p hp=>(List.mem_append.mp hp).elim (fun z=>I.pin p (List.mem_append_right _ z)) fun z=>by
  obtain ⟨hb,e⟩:=of_pinsAt z
  obtain ⟨f0,f1,f2,_⟩:=hf p.1 hb
  obtain ⟨o,e',d⟩:=ho p.1 hb
  rw [e] at e'; cases e'
  exact ⟨e,f0,f1,f2,d⟩
theorem Inv.unpinned {pins pl:List (Addr × Obj)} {σ:St} {H:Hp} {s:Shared} (I:Inv X (pins ++ pl) σ H s):Inv X pins σ H s:=I.pins_of fun p hp=>I.pin p (List.mem_append_right _ (List.mem_append_left _ hp))
theorem ps_for {iter:Expr} {body:List Stmt} {wi:TI} {g:TG} {tb:TS} {pos:Pos} (hp:PassesOwn (model X.prog X.w) X.A X.env X.xe) (hc:X.calm = true) (hi:PI X tg iter wi) (hg:PG X tg g) (hb:PSs X body tb)
  (hs:∀ x,foldedSetIterable iter X.env x = pure x:=by intro _; rfl):PS X (.For tg iter body [] pos) (tFor wi g tb):=by
 intro pins s σ H D I h
 refine wpAny_For (thn (hi pins s σ H _ I h) fun v s1 h1=>thn h1 fun itv s2 h2=>?_) hs
 obtain ⟨it,fp,tn,J,H2,e,I2,T,st2,f2,W,⟨m0,w0⟩,turn⟩:=h2
 subst e
 have stat:∀ {H':Hp},(∀ b ∈ fp,H' b = none)→∀ b ∈ fp,FpOk X pins H' b:=fun hn b hb=>⟨hn b hb,(f2 b hb).2⟩
 refine codeAny_forLoop_any (fun n s'=>∃ i σ' H',Inv X pins σ' H' s'∧tn i s'.heap∧(∀ b ∈ fp,H' b = none)∧W i n σ' H') ?_ m0 ⟨0,σ,H2,I2,st2,fun b hb=>(f2 b hb).1,w0⟩
 rintro n s3 ⟨i,σ3,H3,I3,st3,fr3,w3⟩
 rcases turn i n σ3 H3 w3 with ⟨stop,qn⟩ | ⟨go,N,hN,step⟩
 ·refine wpAny_passesOwn hp (thn (T.done X rfl rfl rfl hc i pins s3 σ3 H3 X.xe I3 (stat fr3) st3 stop) fun r s4 ⟨hr,I4⟩=>?_)
  subst hr
  exact wpAny_execs_nil ⟨σ3,H3,I4,qn⟩
 ·refine wpAny_passesOwn hp (thn (T.item X rfl rfl rfl hc i pins s3 σ3 H3 X.xe I3 (stat fr3) st3 go) fun r s4 ⟨u,hr,h4⟩=>?_)
  subst hr
  refine wpAny_passesOwn hp (thn h4 fun _ s5 ⟨x,H5,I5,r5,y5,st5,fr5⟩=>?_)
  have I5':=I5.pinned (stat fr5) (T.obj _ _ st5)
  refine wpAny_passesOwn hp (thn (hg _ s5 σ3 H5 x u _ I5' r5 (step x H5 y5)) fun _ s6 ⟨σ6,H6,I6,q6⟩=>?_)
  refine wpAny_passesOwn hp (thn (hb _ s6 σ6 H6 _ I6 q6) fun f s7 q7=>?_)
  have again:∀ {σ7:St} {H7:Hp},Inv X (pins ++ pinsAt fp s5.heap) σ7 H7 s7→N σ7 H7→∃ m,m < n∧∃ i σ' H',Inv X pins σ' H' s7∧tn i s7.heap∧(∀ b ∈ fp,H' b = none)∧W i m σ' H':=fun {σ7 H7} I7 n7=>by
   obtain ⟨m',hm,w7⟩:=hN σ7 H7 n7
   refine ⟨m',hm,i + 1,σ7,H7,I7.unpinned,T.keep _ _ _ st5 fun b hb o e=>(I7.pin (b,o) (List.mem_append_right _ (List.mem_append_right _ (mem_pinsAt hb e)))).1,fun b hb=>?_,w7⟩
   obtain ⟨o,e,d⟩:=T.obj _ _ st5 b hb
   exact (I7.pin (b,o) (List.mem_append_right _ (List.mem_append_right _ (mem_pinsAt hb e)))).2.1
  cases f with
  | next=>obtain ⟨σ7,H7,I7,n7⟩:=q7; exact again I7 n7
  | cont=>obtain ⟨σ7,H7,I7,n7⟩:=q7; exact again I7 n7
  | brk=>obtain ⟨σ7,H7,I7,q7⟩:=q7; exact ⟨σ7,H7,I7.unpinned,q7⟩
  | ret v=>obtain ⟨x7,σ7,H7,I7,r7,q7⟩:=q7; exact ⟨x7,σ7,H7,I7.unpinned,r7,q7⟩
end
theorem for_list {K:PySem.W.Frag} {a:Addr} {xs:List V} {g:TG} {tb:TS} {D:Ends} {σ:St} {H:Hp} (Pv:Nat→St→Hp→Prop) (h0:Pv 0 σ H) (hl:∀ i σ H,i≤xs.length→Pv i σ H→SqL K H a xs)
  (hs:∀ i x σ H,xs[i]? = some x→Pv i σ H→g x σ H fun σ2 H2=>tb { D with nx:=Pv (i + 1),ct:=Pv (i + 1),bk:=D.nx } σ2 H2) (hd:∀ σ H,Pv xs.length σ H→D.nx σ H) :
  ∃ W:Nat→Nat→St→Hp→Prop,(∃ m,W 0 m σ H)∧∀ i m σ H,W i m σ H →
   ((Itl K a).stop i H∧D.nx σ H)∨((Itl K a).go i H∧∃ N:St→Hp→Prop,(∀ σ' H',N σ' H'→∃ m',m' < m∧W (i + 1) m' σ' H')∧∀ x H',(Itl K a).yld i H x H'→g x σ H' fun σ2 H2=>tb { D with nx:=N,ct:=N,bk:=D.nx } σ2 H2):=by
 refine ⟨fun i m σ H=>m = xs.length - i∧i≤xs.length∧Pv i σ H,⟨xs.length,by simp,Nat.zero_le _,h0⟩,?_⟩
 rintro i m σ H ⟨rfl,hi,p⟩
 have q:=hl i σ H hi p
 by_cases hlt:i < xs.length
 ·refine .inr ⟨⟨xs,xs[i],q,by simp [hlt]⟩,Pv (i + 1),fun σ' H' p'=>⟨xs.length - (i + 1),by omega,rfl,hlt,p'⟩,fun x H' y=>?_⟩
  obtain ⟨e,y⟩:=y
  subst e
  exact hs i x σ _ (y xs q) p
 ·have e:i = xs.length:=by omega
  subst e
  exact .inl ⟨⟨xs,q,Nat.le_refl _⟩,hd σ H p⟩
theorem for_range {lo:Int} {n:Nat} {g:TG} {tb:TS} {D:Ends} {σ:St} {H:Hp} (Pv:Nat→St→Hp→Prop) (h0:Pv 0 σ H)
  (hs:∀ i σ H,i < n→Pv i σ H→g (.int (lo + i)) σ H fun σ2 H2=>tb { D with nx:=Pv (i + 1),ct:=Pv (i + 1),bk:=D.nx } σ2 H2) (hd:∀ σ H,Pv n σ H→D.nx σ H) :
  ∃ W:Nat→Nat→St→Hp→Prop,(∃ m,W 0 m σ H)∧∀ i m σ H,W i m σ H →
   ((Itr lo n).stop i H∧D.nx σ H)∨((Itr lo n).go i H∧∃ N:St→Hp→Prop,(∀ σ' H',N σ' H'→∃ m',m' < m∧W (i + 1) m' σ' H')∧∀ x H',(Itr lo n).yld i H x H'→g x σ H' fun σ2 H2=>tb { D with nx:=N,ct:=N,bk:=D.nx } σ2 H2):=by
 refine ⟨fun i m σ H=>m = n - i∧i≤n∧Pv i σ H,⟨n,by simp,Nat.zero_le _,h0⟩,?_⟩
 rintro i m σ H ⟨rfl,hi,p⟩
 by_cases hlt:i < n
 ·refine .inr ⟨hlt,Pv (i + 1),fun σ' H' p'=>⟨n - (i + 1),by omega,rfl,hlt,p'⟩,fun x H' y=>?_⟩
  obtain ⟨e,y⟩:=y
  subst e y
  exact hs i σ _ hlt p
 ·have e:i = n:=by omega
  subst e
  exact .inl ⟨Nat.le_refl _,hd σ H p⟩
theorem while_by {c:TT} {tb:TS} {D:Ends} {σ:St} {H:Hp} (Pv:St→Hp→Prop) (μ:St→Hp→Nat) (h0:Pv σ H)
  (hs:∀ σ H,Pv σ H→c σ H fun b H1=>if b = true then tb { D with nx:=fun σ' H'=>Pv σ' H'∧μ σ' H' < μ σ H,ct:=fun σ' H'=>Pv σ' H'∧μ σ' H' < μ σ H,bk:=D.nx } σ H1 else D.nx σ H1)
  (mono:∀ σ H Q Q',(∀ b H1,Q b H1→Q' b H1)→c σ H Q→c σ H Q'):tWhile c tb D σ H:=by
 refine ⟨fun m σ H=>m = μ σ H∧Pv σ H,⟨_,rfl,h0⟩,?_⟩
 rintro m σ H ⟨rfl,p⟩
 refine mono σ H _ _ (fun b H1 q=>?_) (hs σ H p)
 cases b with
 | true=>exact ⟨_,fun σ' H' ⟨p',l⟩=>⟨_,l,rfl,p'⟩,q⟩
 | false=>exact q
end L2
namespace L2
open PySem PySem.Spec PyProof.Rows
abbrev R2:=V→V→Hp→VK→Prop
def OpR (X:Cx) (f:Value→Value→Sem Value) (r:R2):Prop :=
 ∀ (pins:List (Addr × Obj)) (s:Shared) (σ:St) (H:Hp) (x y:V) (v u:Value) (Q:VK),Inv X pins σ H s→RelV x v→RelV y u→r x y H Q →
  wpAny (model X.prog X.w) X.A (f v u) (EP X pins σ Q) X.xe s
def UnR (X:Cx) (f:Value→Sem Value) (r:V→Hp→VK→Prop):Prop :=
 ∀ (pins:List (Addr × Obj)) (s:Shared) (σ:St) (H:Hp) (x:V) (v:Value) (Q:VK),Inv X pins σ H s→RelV x v→r x H Q →
  wpAny (model X.prog X.w) X.A (f v) (EP X pins σ Q) X.xe s
def CallR (X:Cx) (f:Value) (r:List V→Hp→VK→Prop):Prop :=
 ∀ (pins:List (Addr × Obj)) (s:Shared) (σ:St) (H:Hp) (xs:List V) (us:List Value) (Q:VK),Inv X pins σ H s→Vals xs us→r xs H Q →
  wpAny (model X.prog X.w) X.A (call f us) (EP X pins σ Q) X.xe s
def tOp (r:R2) (ta tb:TE):TE:=fun σ H Q=>ta σ H fun x H1=>tb σ H1 fun y H2=>r x y H2 Q
def tUn (r:V→Hp→VK→Prop) (ta:TE):TE:=fun σ H Q=>ta σ H fun x H1=>r x H1 Q
def rI (C:Int→Int→Prop) (g:Int→Int→V):R2:=fun x y H Q=>∃ i j,x = .int i∧y = .int j∧C i j∧Q (g i j) H
def rI0 (g:Int→Int→V):R2:=fun x y H Q=>∃ i j,x = .int i∧y = .int j∧Q (g i j) H
def rU (g:Int→V):V→Hp→VK→Prop:=fun x H Q=>∃ i,x = .int i∧Q (g i) H
section
variable {X:Cx} {a b c:Expr} {ta tb tc:TE} {pos:Pos}
theorem binT (ha:PE X a ta) (hb:PE X b tb) {pins:List (Addr × Obj)} {s:Shared} {σ:St} {H:Hp} {R:V→V→Hp→Prop} (I:Inv X pins σ H s)
  (h:ta σ H fun x H1=>tb σ H1 fun y H2=>R x y H2) {Q:Value→Shared→Prop} {f:Value→Value→Sem Value}
  (hf:∀ v u s2 x y H2,Inv X pins σ H2 s2→RelV x v→RelV y u→R x y H2→wpAny (model X.prog X.w) X.A (f v u) Q X.xe s2) :
  wpAny (model X.prog X.w) X.A (eval a X.env) (fun v s₁=>wpAny (model X.prog X.w) X.A (eval b X.env) (fun u s₂=>wpAny (model X.prog X.w) X.A (f v u) Q X.xe s₂) X.xe s₁) X.xe s:=by
 refine thn (ha pins s σ H _ I h) fun v s1 ⟨x,H1,I1,r1,q1⟩=>?_
 refine thn (hb pins s1 σ H1 _ I1 q1) fun u s2 ⟨y,H2,I2,r2,q2⟩=>?_
 exact hf v u s2 x y H2 I2 r1 r2 q2
theorem pe_op {op:Operator} {r:R2} (ho:OpR X (binaryOp op) r) (ha:PE X a ta) (hb:PE X b tb):PE X (.BinOp a op b pos) (tOp r ta tb):=by
 intro pins s σ H Q I h
 exact wpAny_BinOp (binT ha hb I h fun v u s2 x y H2 I2 rx ry q=>ho pins s2 σ H2 x y v u Q I2 rx ry q)
theorem pe_un {op:UnaryOp} {r:V→Hp→VK→Prop} (ho:UnR X (unaryOp op) r) (ha:PE X a ta):PE X (.UnaryOp op a pos) (tUn r ta):=by
 intro pins s σ H Q I h
 exact UnaryOp_ (thn (ha pins s σ H _ I h) fun v s1 ⟨x,H1,I1,r1,q1⟩=>ho pins s1 σ H1 x v Q I1 r1 q1)
theorem opI {f:Value→Value→Sem Value} {C:Int→Int→Prop} {g:Int→Int→Int}
  (rule:∀ (i j:Int) (t u:Tok) (s:Shared) (Q:Value→Shared→Prop) (E:Value→Shared→Prop),C i j→Q (.int (g i j) s.toks) { s with toks:=s.toks + 1 }→wpAny (model X.prog X.w) X.A (f (.int i t) (.int j u)) Q E s) :
  OpR X f (rI C fun i j=>.int (g i j)):=by
 intro pins s σ H x y v u Q I rx ry h
 obtain ⟨i,j,rfl,rfl,hc,q⟩:=h
 obtain ⟨t,rfl⟩:=rx
 obtain ⟨t',rfl⟩:=ry
 exact rule i j t t' s _ _ hc ⟨.int (g i j),H,I.tok _,⟨_,rfl⟩,q⟩
theorem opI0 {f:Value→Value→Sem Value} {g:Int→Int→Int}
  (rule:∀ (i j:Int) (t u:Tok) (s:Shared) (Q:Value→Shared→Prop) (E:Value→Shared→Prop),Q (.int (g i j) s.toks) { s with toks:=s.toks + 1 }→wpAny (model X.prog X.w) X.A (f (.int i t) (.int j u)) Q E s) :
  OpR X f (rI0 fun i j=>.int (g i j)):=by
 intro pins s σ H x y v u Q I rx ry h
 obtain ⟨i,j,rfl,rfl,q⟩:=h
 obtain ⟨t,rfl⟩:=rx
 obtain ⟨t',rfl⟩:=ry
 exact rule i j t t' s _ _ ⟨.int (g i j),H,I.tok _,⟨_,rfl⟩,q⟩
theorem opB0 {f:Value→Value→Sem Value} {g:Int→Int→Bool}
  (rule:∀ (i j:Int) (t u:Tok) (s:Shared) (Q:Value→Shared→Prop) (E:Value→Shared→Prop),Q (.bool (g i j)) s→wpAny (model X.prog X.w) X.A (f (.int i t) (.int j u)) Q E s) :
  OpR X f (rI0 fun i j=>.bl (g i j)):=by
 intro pins s σ H x y v u Q I rx ry h
 obtain ⟨i,j,rfl,rfl,q⟩:=h
 obtain ⟨t,rfl⟩:=rx
 obtain ⟨t',rfl⟩:=ry
 exact rule i j t t' s _ _ ⟨.bl (g i j),H,I,rfl,q⟩
def CPow (i j:Int):Prop:=0≤j∧j≤1000000∧i.natAbs < 2 ^ 64
def CMul (i j:Int):Prop:=(-(2 ^ 64) < i∧i < 2 ^ 64)∨(-(2 ^ 64) < j∧j < 2 ^ 64)
theorem CMul.ok {i j:Int} (h:CMul i j):IntMulOk i j:=by
 rcases h with ⟨h1,h2⟩ | ⟨h1,h2⟩
 ·exact .of_left (intBits_le_64 h1 h2)
 ·exact .of_right (intBits_le_64 h1 h2)
theorem two_pow_nn (k:Nat):(0:Int)≤2 ^ k:=by
 rw [two_pow_cast]
 exact Int.natCast_nonneg _
theorem op_add:OpR X (binaryOp .Add) (rI0 fun i j=>.int (i + j)):=opI0 fun _ _ _ _ _ _ _ q=>add_int q
theorem op_sub:OpR X (binaryOp .Sub) (rI0 fun i j=>.int (i - j)):=opI0 fun _ _ _ _ _ _ _ q=>sub_int q
theorem op_mul:OpR X (binaryOp .Mult) (rI CMul fun i j=>.int (i * j)):=opI fun _ _ _ _ _ _ _ hc q=>mul_int q hc.ok
theorem op_mod:OpR X (binaryOp .Mod) (rI (fun _ j=>0 < j) fun i j=>.int (i % j)):=opI fun i j _ _ _ _ _ hc q=>by
 have h1:(0:Int) < j:=hc
 exact mod_int' (by omega) (by rw [Int.fmod_eq_emod_of_nonneg i (by omega)]; exact q)
theorem op_pow:OpR X (binaryOp .Pow) (rI CPow fun i j=>.int (i ^ j.toNat)):=opI fun _ _ _ _ _ _ _ hc q=>pow_int_small hc.1 hc.2.1 hc.2.2 q
theorem op_shl:OpR X (binaryOp .LShift) (rI CPow fun i j=>.int (i * 2 ^ j.toNat)):=opI fun _ _ _ _ _ _ _ hc q=>lshift_int_small hc.1 hc.2.1 hc.2.2 q
theorem op_shr:OpR X (binaryOp .RShift) (rI (fun _ j=>0≤j) fun i j=>.int (i / 2 ^ j.toNat)):=opI fun i j _ _ _ _ _ hc q =>
 rshift_int hc (by rw [Int.fdiv_eq_ediv_of_nonneg i (two_pow_nn _)]; exact q)
theorem op_and:OpR X (binaryOp .BitAnd) (rI0 fun i j=>.int (Builtin.bitAnd i j)):=opI0 fun _ _ _ _ _ _ _ q=>and_int q
theorem op_or:OpR X (binaryOp .BitOr) (rI0 fun i j=>.int (Builtin.bitOr i j)):=opI0 fun _ _ _ _ _ _ _ q=>or_int q
theorem unI {f:Value→Sem Value} {g:Int→Int}
  (rule:∀ (i:Int) (t:Tok) (s:Shared) (Q:Value→Shared→Prop) (E:Value→Shared→Prop),Q (.int (g i) s.toks) { s with toks:=s.toks + 1 }→wpAny (model X.prog X.w) X.A (f (.int i t)) Q E s) :
  UnR X f (rU fun i=>.int (g i)):=by
 intro pins s σ H x v Q I rx h
 obtain ⟨i,rfl,q⟩:=h
 obtain ⟨t,rfl⟩:=rx
 exact rule i t s _ _ ⟨.int (g i),H,I.tok _,⟨_,rfl⟩,q⟩
theorem un_neg:UnR X (unaryOp .USub) (rU fun i=>.int (-i)):=unI fun _ _ _ _ _ q=>neg_int q
end
def scal:V→V→Bool
 | .non,.non=>true | .non,.int _=>true | .int _,.non=>true | .non,.bl _=>true | .bl _,.non=>true | .non,.str _=>true | .str _,.non=>true
 | .int _,.int _=>true | .bl _,.bl _=>true | .str _,.str _=>true | .byt _,.byt _=>true
 | .int _,.str _=>true | .str _,.int _=>true | .bl _,.str _=>true | .str _,.bl _=>true
 | _,_=>false
def rEq:R2:=fun x y H Q=>scal x y = true∧Q (.bl (decide (x = y))) H
def rNe:R2:=fun x y H Q=>scal x y = true∧Q (.bl (!decide (x = y))) H
theorem dec_int {i j:Int}:decide (V.int i = V.int j) = (i == j):=by
 rw [Bool.eq_iff_iff]
 simp
theorem dec_bl {i j:Bool}:decide (V.bl i = V.bl j) = (i == j):=by
 rw [Bool.eq_iff_iff]
 simp
theorem dec_str {i j:Str}:decide (V.str i = V.str j) = (i == j):=by
 rw [Bool.eq_iff_iff]
 simp
theorem dec_byt {i j:Array UInt8}:decide (V.byt i = V.byt j) = (i.toList == j.toList):=by
 rw [Bool.eq_iff_iff]
 cases i
 cases j
 simp
section
variable {X:Cx} {a b c:Expr} {ta tb tc:TE} {pos:Pos}
theorem fin_bl {pins:List (Addr × Obj)} {σ:St} {H:Hp} {s:Shared} {Q:VK} {k k':Bool} (I:Inv X pins σ H s) (q:Q (.bl k) H) (e:k = k'):EP X pins σ Q (.bool k') s:=by
 subst e
 exact ⟨.bl k,H,I,rfl,q⟩
theorem op_eq:OpR X (compareOp .Eq) rEq:=by
 intro pins s σ H x y v u Q I rx ry h
 obtain ⟨hs,q⟩:=h
 cases x with
 | non =>
  cases rx
  cases y with
  | non=>cases ry; exact PySem.EqNone.eq_none_none (fin_bl I q (by simp))
  | bl j=>cases ry; exact PySem.EqNone.eq_none_bool (fin_bl I q (by simp))
  | int j=>obtain ⟨t',rfl⟩:=ry; exact PySem.EqNone.eq_none_int (fin_bl I q (by simp))
  | str j=>obtain ⟨t',rfl⟩:=ry; exact PySem.EqNone.eq_none_str (fin_bl I q (by simp))
  | _=>exact absurd (show false = true from hs) Bool.false_ne_true
 | bl i =>
  cases rx
  cases y with
  | non=>cases ry; exact PySem.EqNone.eq_bool_none (fin_bl I q (by simp))
  | bl j=>cases ry; exact eq_bool (fin_bl I q dec_bl)
  | str j=>obtain ⟨t',rfl⟩:=ry; exact PySem.EqMixed.eq_bool_str (fin_bl I q (by simp))
  | _=>exact absurd (show false = true from hs) Bool.false_ne_true
 | int i =>
  obtain ⟨t,rfl⟩:=rx
  cases y with
  | non=>cases ry; exact PySem.EqNone.eq_int_none (fin_bl I q (by simp))
  | int j=>obtain ⟨t',rfl⟩:=ry; exact eq_int (fin_bl I q dec_int)
  | str j=>obtain ⟨t',rfl⟩:=ry; exact PySem.EqMixed.eq_int_str (fin_bl I q (by simp))
  | _=>exact absurd (show false = true from hs) Bool.false_ne_true
 | str i =>
  obtain ⟨t,rfl⟩:=rx
  cases y with
  | non=>cases ry; exact PySem.EqNone.eq_str_none (fin_bl I q (by simp))
  | bl j=>cases ry; exact PySem.EqMixed.eq_str_bool (fin_bl I q (by simp))
  | int j=>obtain ⟨t',rfl⟩:=ry; exact PySem.EqMixed.eq_str_int (fin_bl I q (by simp))
  | str j=>obtain ⟨t',rfl⟩:=ry; exact eq_str (fin_bl I q dec_str)
  | _=>exact absurd (show false = true from hs) Bool.false_ne_true
 | byt i =>
  obtain ⟨t,rfl⟩:=rx
  cases y with
  | byt j=>obtain ⟨t',rfl⟩:=ry; exact PySem.W.eq_bytes (fin_bl I q dec_byt)
  | _=>exact absurd (show false = true from hs) Bool.false_ne_true
 | _=>cases y <;> exact absurd (show false = true from hs) Bool.false_ne_true
theorem op_ne:OpR X (compareOp .NotEq) rNe:=by
 intro pins s σ H x y v u Q I rx ry h
 obtain ⟨hs,q⟩:=h
 cases x with
 | non =>
  cases rx
  cases y with
  | non=>cases ry; exact PySem.EqNone.ne_none_none (fin_bl I q (by simp))
  | bl j=>cases ry; exact PySem.EqNone.ne_none_bool (fin_bl I q (by simp))
  | int j=>obtain ⟨t',rfl⟩:=ry; exact PySem.EqNone.ne_none_int (fin_bl I q (by simp))
  | str j=>obtain ⟨t',rfl⟩:=ry; exact PySem.EqNone.ne_none_str (fin_bl I q (by simp))
  | _=>exact absurd (show false = true from hs) Bool.false_ne_true
 | bl i =>
  cases rx
  cases y with
  | non=>cases ry; exact PySem.EqNone.ne_bool_none (fin_bl I q (by simp))
  | bl j=>cases ry; exact ne_bool (fin_bl I q (congrArg not dec_bl))
  | str j=>obtain ⟨t',rfl⟩:=ry; exact PySem.EqMixed.ne_bool_str (fin_bl I q (by simp))
  | _=>exact absurd (show false = true from hs) Bool.false_ne_true
 | int i =>
  obtain ⟨t,rfl⟩:=rx
  cases y with
  | non=>cases ry; exact PySem.EqNone.ne_int_none (fin_bl I q (by simp))
  | int j=>obtain ⟨t',rfl⟩:=ry; exact ne_int (fin_bl I q (congrArg not dec_int))
  | str j=>obtain ⟨t',rfl⟩:=ry; exact PySem.EqMixed.ne_int_str (fin_bl I q (by simp))
  | _=>exact absurd (show false = true from hs) Bool.false_ne_true
 | str i =>
  obtain ⟨t,rfl⟩:=rx
  cases y with
  | non=>cases ry; exact PySem.EqNone.ne_str_none (fin_bl I q (by simp))
  | bl j=>cases ry; exact PySem.EqMixed.ne_str_bool (fin_bl I q (by simp))
  | int j=>obtain ⟨t',rfl⟩:=ry; exact PySem.EqMixed.ne_str_int (fin_bl I q (by simp))
  | str j=>obtain ⟨t',rfl⟩:=ry; exact ne_str (fin_bl I q (congrArg not dec_str))
  | _=>exact absurd (show false = true from hs) Bool.false_ne_true
 | byt i =>
  obtain ⟨t,rfl⟩:=rx
  cases y with
  | byt j=>obtain ⟨t',rfl⟩:=ry; exact PySem.W.ne_bytes (fin_bl I q (congrArg not dec_byt))
  | _=>exact absurd (show false = true from hs) Bool.false_ne_true
 | _=>cases y <;> exact absurd (show false = true from hs) Bool.false_ne_true
theorem op_lt:OpR X (compareOp .Lt) (rI0 fun i j=>.bl (decide (i < j))):=opB0 fun _ _ _ _ _ _ _ q=>lt_int q
theorem op_le:OpR X (compareOp .LtE) (rI0 fun i j=>.bl (decide (i≤j))):=opB0 fun _ _ _ _ _ _ _ q=>le_int q
theorem op_gt:OpR X (compareOp .Gt) (rI0 fun i j=>.bl (decide (j < i))):=opB0 fun _ _ _ _ _ _ _ q=>gt_int q
theorem op_isN:OpR X (compareOp .Is) (fun x y H Q=>y = .non∧Q (.bl (decide (x = .non))) H):=by
 intro pins s σ H x y v u Q I rx ry h
 obtain ⟨rfl,q⟩:=h
 cases ry
 refine is_none_gen (fin_bl I q ?_)
 cases x <;> first
  | (cases rx; rfl)
  | (obtain ⟨t,rfl⟩:=rx; rfl)
theorem op_notin_str:OpR X (compareOp .NotIn) (fun x y H Q=>∃ i j,x = .str i∧y = .str j∧Q (.bl (!(!(Builtin.Str.occurrences j i 0 j.length 1).isEmpty))) H):=by
 intro pins s σ H x y v u Q I rx ry h
 obtain ⟨i,j,rfl,rfl,q⟩:=h
 obtain ⟨t,rfl⟩:=rx
 obtain ⟨t',rfl⟩:=ry
 exact notIn_str (fin_bl I q rfl)
theorem nomark (b:Expr) {op:CmpOp} (h:op ≠ .In:=by decide) (h2:op ≠ .NotIn:=by decide):behindInMarks op b = false:=by
 have e1:(op == CmpOp.In) = false:=by cases op <;> first | rfl | exact absurd rfl h
 have e2:(op == CmpOp.NotIn) = false:=by cases op <;> first | rfl | exact absurd rfl h2
 cases b <;> simp [behindInMarks,e1,e2]
theorem pe_cmpR {op:CmpOp} {r:R2} (ho:OpR X (compareOp op) r) (ha:PE X a ta) (hb:PE X b tb) (hm:behindInMarks op b = false):PE X (.Compare a [op] [b] pos) (tOp r ta tb):=by
 intro pins s σ H Q I h
 exact wpAny_Compare1 (binT ha hb I h fun v u s2 x y H2 I2 rx ry q=>ho pins s2 σ H2 x y v u Q I2 rx ry q) hm
def tTest (t:TE):TT:=fun σ H Q=>t σ H fun x H'=>∃ k,x = .bl k∧Q k H'
theorem pt_cmpR {op:CmpOp} {r:R2} (ho:OpR X (compareOp op) r) (ha:PE X a ta) (hb:PE X b tb) (hm:behindInMarks op b = false):PT X (.Compare a [op] [b] pos) (tTest (tOp r ta tb)):=by
 intro pins s σ H Q I h
 refine wpAny_isTrue_Compare1 (thn (ha pins s σ H _ I h) fun v s1 ⟨x,H1,I1,r1,q1⟩=>thn (hb pins s1 σ H1 _ I1 q1) fun u s2 ⟨y,H2,I2,r2,q2⟩ =>
  thn (ho pins s2 σ H2 x y v u _ I2 r1 r2 q2) fun c s3 ⟨z,H3,I3,r3,k,e,q3⟩=>?_) hm
 subst e
 cases r3
 exact wpAny_truthy_bool ⟨H3,I3,q3⟩
def tChain (r r':R2) (ta tb tc:TE):TE:=fun σ H Q=>ta σ H fun x H1=>tb σ H1 fun y H2=>r x y H2 fun z H3=>∃ k,z = .bl k ∧
 (if k = true then tc σ H3 fun w' H4=>r' y w' H4 Q else Q (.bl false) H3)
theorem pe_chain {op op':CmpOp} {r r':R2} (ho:OpR X (compareOp op) r) (ho':OpR X (compareOp op') r') (ha:PE X a ta) (hb:PE X b tb) (hc:PE X c tc)
  (hm:lastMarks [op,op'] [b,c] = false:=by with_unfolding_all rfl):PE X (.Compare a [op,op'] [b,c] pos) (tChain r r' ta tb tc):=by
 intro pins s σ H Q I h
 refine Compare_chain (thn (ha pins s σ H _ I h) fun v s1 ⟨x,H1,I1,r1,q1⟩=>chain_link (thn (hb pins s1 σ H1 _ I1 q1) fun u s2 ⟨y,H2,I2,r2,q2⟩ =>
  thn (ho pins s2 σ H2 x y v u _ I2 r1 r2 q2) fun d s3 ⟨z,H3,I3,r3,k,e,q3⟩=>?_)) hm
 subst e
 cases r3
 refine wpAny_truthy_bool ?_
 cases k with
 | false=>exact ite_ff ⟨.bl false,H3,I3,rfl,q3⟩
 | true=>exact ite_tt (chain_last (thn (hc pins s3 σ H3 _ I3 q3) fun w' s4 ⟨z',H4,I4,r4,q4⟩=>ho' pins s4 σ H4 y z' u w' Q I4 r2 r4 q4))
theorem pt_chain {op op':CmpOp} {r r':R2} (ho:OpR X (compareOp op) r) (ho':OpR X (compareOp op') r') (ha:PE X a ta) (hb:PE X b tb) (hc:PE X c tc)
  (hm:lastMarks [op,op'] [b,c] = false:=by with_unfolding_all rfl):PT X (.Compare a [op,op'] [b,c] pos) (tTest (tChain r r' ta tb tc)):=by
 intro pins s σ H Q I h
 refine isTrue_chain (thn (ha pins s σ H _ I h) fun v s1 ⟨x,H1,I1,r1,q1⟩=>test_link (thn (hb pins s1 σ H1 _ I1 q1) fun u s2 ⟨y,H2,I2,r2,q2⟩ =>
  thn (ho pins s2 σ H2 x y v u _ I2 r1 r2 q2) fun d s3 ⟨z,H3,I3,r3,k,e,q3⟩=>?_)) hm
 subst e
 cases r3
 refine wpAny_truthy_bool ?_
 cases k with
 | false =>
  obtain ⟨k',e',q'⟩:=q3
  cases e'
  exact ite_ff ⟨H3,I3,q'⟩
 | true =>
  refine ite_tt (test_last (thn (hc pins s3 σ H3 _ I3 q3) fun w' s4 ⟨z',H4,I4,r4,q4⟩=>thn (ho' pins s4 σ H4 y z' u w' _ I4 r2 r4 q4) fun d' s5 ⟨z2,H5,I5,r5,k2,e2,q5⟩=>?_))
  subst e2
  cases r5
  exact wpAny_truthy_bool ⟨H5,I5,q5⟩
theorem line63:(sizeLine:Nat) < 2 ^ 63:=by rw [sizeLine_eq]; decide
theorem op_add_str:OpR X (binaryOp .Add) (fun x y H Q=>∃ i j,x = .str i∧y = .str j∧i.length + j.length≤sizeLine∧Q (.str (i ++ j)) H):=by
 intro pins s σ H x y v u Q I rx ry h
 obtain ⟨i,j,rfl,rfl,hz,q⟩:=h
 obtain ⟨t,rfl⟩:=rx
 obtain ⟨t',rfl⟩:=ry
 exact add_str (fun t' tk=>⟨.str (i ++ j),H,I.tok _,⟨_,rfl⟩,q⟩) hz
theorem vals1 {x:V} {us:List Value} (r:Vals [x] us):∃ u,us = [u]∧RelV x u:=by
 cases r with
 | cons r1 r2=>cases r2; exact ⟨_,rfl,r1⟩
theorem vals2 {x y:V} {us:List Value} (r:Vals [x,y] us):∃ u w',us = [u,w']∧RelV x u∧RelV y w':=by
 cases r with
 | cons r1 r2 =>
  cases r2 with
  | cons r3 r4=>cases r4; exact ⟨_,_,rfl,r1,r3⟩
theorem call_abs:CallR X (.builtin "abs") (fun xs H Q=>∃ i,xs = [.int i]∧Q (.int (if i < 0 then -i else i)) H):=by
 intro pins s σ H xs us Q I r h
 obtain ⟨i,rfl,q⟩:=h
 obtain ⟨u,rfl,t,rfl⟩:=vals1 r
 exact call_abs_int fun u tk=>⟨.int (if i < 0 then -i else i),H,I.tok _,⟨_,rfl⟩,q⟩
theorem call_max2 (hc:X.calm = true):CallR X (.builtin "max") (fun xs H Q=>∃ i j,xs = [.int i,.int j]∧Q (.int (if j > i then j else i)) H):=by
 intro pins s σ H xs us Q I r h
 obtain ⟨i,j,rfl,q⟩:=h
 obtain ⟨u,w',rfl,⟨t,rfl⟩,⟨t',rfl⟩⟩:=vals2 r
 refine max_two_ints (I.ok.hd hc) fun h' tk k=>⟨_,H,I.kept k,?_,q⟩
 by_cases hj:j > i
 ·rw [if_pos hj,if_pos hj]; exact ⟨_,rfl⟩
 ·rw [if_neg hj,if_neg hj]; exact ⟨_,rfl⟩
theorem call_min2 (hc:X.calm = true):CallR X (.builtin "min") (fun xs H Q=>∃ i j,xs = [.int i,.int j]∧Q (.int (if j < i then j else i)) H):=by
 intro pins s σ H xs us Q I r h
 obtain ⟨i,j,rfl,q⟩:=h
 obtain ⟨u,w',rfl,⟨t,rfl⟩,⟨t',rfl⟩⟩:=vals2 r
 refine min_two_ints (I.ok.hd hc) fun h' tk k=>⟨_,H,I.kept k,?_,q⟩
 by_cases hj:j < i
 ·rw [if_pos hj,if_pos hj]; exact ⟨_,rfl⟩
 ·rw [if_neg hj,if_neg hj]; exact ⟨_,rfl⟩
end
end L2
namespace L2
open PySem PySem.Spec PyProof.Rows
structure ObjM (h:Heap) (x dx C:Addr) (mA:Str→Option Value):Prop where
 obj:h.get? x = some (PySem.W.instObj C dx)
 ns:h.Ns1 dx mA
 ne:dx ≠ x
theorem lookIn_ns {h:Heap} {dx:Addr} {mA:Str→Option Value} (n:h.Ns1 dx mA):∃ od,h.get? dx = some od∧∀ name,PySem.W.lookIn name od = some (mA name):=by
 obtain ⟨o,es,ep,ho,hd,hk,_,hm⟩:=n
 refine ⟨o,ho,fun name=>?_⟩
 have e:=hm name
 unfold nsFind findBy at e
 rw [← Array.find?_toList] at e
 unfold PySem.W.lookIn
 rw [hd]
 dsimp only
 split
 ·rename_i y q
  rw [q] at e
  exact congrArg some e
 ·rename_i q
  rw [q] at e
  have a:es.toList.any (·.refKey) = false:=by
   rw [List.any_eq_false]
   intro y hy
   obtain ⟨z,t,hkey⟩:=hk y (Array.mem_toList_iff.mp hy)
   simp [DictEntry.refKey,hkey]
  have a':¬ es.toList.any (·.refKey) = true:=by rw [a]; exact Bool.false_ne_true
  rw [if_neg a']
  exact congrArg some e
theorem ObjM.look {h:Heap} {x dx C:Addr} {mA:Str→Option Value} (I:ObjM h x dx C mA):∃ od,PySem.W.InstAt h x (PySem.W.instObj C dx) C (some od)∧∀ name,PySem.W.lookIn name od = some (mA name) :=
 let ⟨od,ho,hl⟩:=lookIn_ns I.ns
 ⟨od,⟨I.obj,rfl,rfl,ho⟩,hl⟩
section
variable {prog:Program} {w:World} {A:Around} {E:Value→Shared→Prop} {s:Shared} {K:PySem.W.Frag} {x dx C f:Addr} {mA:Str→Option Value} {name:Str} {v:Value}
theorem get_map {expr:Bool} {Q:Value→Shared→Prop} (X:K.In s.heap) (I:ObjM s.heap x dx C mA) (hg:PySem.W.plainGet K C name = true) (hh:PySem.W.hasDictIn K C = true)
  (ha:PySem.W.findIn K (.ref C) name = some none) (hv:mA name = some v) (hv':PySem.W.handedIn v = true) (h:Q v { s with toks:=s.toks + 1 }) :
  wpAny (model prog w) A (getAttr (.ref x) name expr) Q E s:=by
 obtain ⟨od,J,hl⟩:=I.look
 exact PySem.W.get_value X J (PySem.W.plainGet_of hg).1 (PySem.W.findObj_own hh ha rfl (by rw [hl,hv])) hv' h
theorem get_meth {pl:Sem Bool} {Q:Value × List Value→Shared→Prop} (X:K.In s.heap) (I:ObjM s.heap x dx C mA) (hg:PySem.W.plainGet K C name = true)
  (hf:PySem.W.findIn K (.ref C) name = some (some (.ref f))) (ht:PySem.W.isFn K (.ref f) = true) (hv:mA name = none) (h:Q (.ref f,[.ref x]) s) :
  wpAny (model prog w) A (getMethod (.ref x) name pl) Q E s:=by
 obtain ⟨od,J,hl⟩:=I.look
 exact PySem.W.method_fn X J (PySem.W.plainGet_of hg).1 (PySem.W.plainGet_of hg).2 hf (beq_iff_eq.mp ht) (by show (PySem.W.lookIn name od).map (·.isSome) = some false; rw [hl,hv]; rfl) h
theorem set_map {ns:List Str} {Q:Unit→Shared→Prop} (X:K.In s.heap) (I:ObjM s.heap x dx C mA)
  (hs:PySem.W.findIn K (.ref C) "__setattr__" = some (some (.builtin "object.__setattr__"))) (hp:PySem.W.plainOver K C = true) (ht:PySem.W.takerIn K C name = some none) (hh:PySem.W.hasDictIn K C = true)
  (hw:PySem.Within mA ns) (hsz:ns.length≤sizeLine)
  (h:∀ h',ObjM h' x dx C (fun y=>if y = name then some v else mA y)→Heap.SameBut dx s.heap h'→Q () { s with heap:=h',toks:=s.toks + 2 }) :
  wpAny (model prog w) A (setAttr (.ref x) name v) Q E s:=by
 obtain ⟨od,J,hl⟩:=I.look
 refine PySem.W.set_plain X J hs (PySem.W.osa_open (s:={ s with toks:=s.toks + 1 }) (r:=none) X J hp ht fun b=>?_)
 obtain ⟨cd,hc,hd'⟩:=PySem.W.any_some hh
 have hx:s.heap.get? x = some ⟨.ref C,some dx,.plain,#[]⟩:=I.obj
 refine wpAny_bind (wpAny_pure (wpAny_bind (wpAny_bind (wpAny_loadPart hx (wpAny_bind (PySem.W.Looks.here (s:={ s with toks:=s.toks + 1 }) (PySem.W.looks_clsIn X hc) ?_))))))
 rw [hd']
 refine wpAny_pure (a:=some dx) (wpAny_bind (wpAny_pure (wpAny_bind ?_)))
 refine wpAny_nsSet1 (s:={ s with toks:=s.toks + 1 }) I.ns fun h' hn2 hs2=>?_
 obtain ⟨oD,esD,epD,hoD,hdD,hcD⟩:=hn2.count (PySem.Within.cons name v hw)
 refine wpAny_bind (wpAny_lookBehind hoD (by rw [hdD]; exact pastItsLine_dict (Nat.le_trans hcD (by rw [List.length_cons]; omega))) ?_)
 exact wpAny_pure (h _ ⟨(hs2.2 _ (Ne.symm I.ne)).trans I.obj,hn2,I.ne⟩ hs2)
theorem make_map {R:Result→Shared→Prop} {vs:List Value} {kw:List (Str × Value)} (X:K.In s.heap) (hm:PySem.W.makesIn K C = true)
  (hi:PySem.W.findIn K (.ref C) "__init__" = some (some (.ref f))) (hf:PySem.W.typeIn K (.ref f) = some (.type "function"))
  (h:codeAny (model prog w) (A.under (.builtin "type.__call__" ⟨.ref C :: vs,kw⟩)) (.call (.ref f) ⟨.ref (s.heap.objs.size + 1) :: vs,kw⟩) (PySem.W.InitBack (s.heap.objs.size + 1) R)
   { s with heap:=(s.heap.push PySem.W.emptyDict).push (PySem.W.instObj C s.heap.objs.size) }) :
  codeAny (model prog w) A (.call (.ref C) ⟨vs,kw⟩) R s:=by
 obtain ⟨hh,g,d,t,os⟩:=s
 exact PySem.W.make_core (PySem.W.makes_of X hm) (PySem.W.looks_findIn X hi) (fun self=>PySem.W.bind_fn X self hf) (.inl rfl) h
end
def putF (f:Str) (v:V):List (Str × V)→List (Str × V)
 | []=>[(f,v)]
 | (g,x) :: r=>if g = f then (g,v) :: r else (g,x) :: putF f v r
theorem lookup_putF (f g:Str) (v:V):∀ fs:List (Str × V),(putF f v fs).lookup g = if g = f then some v else fs.lookup g
 | []=>by
  show List.lookup g [(f,v)] = _
  by_cases h:g = f
  ·have hb:(g == f) = true:=beq_iff_eq.mpr h
   simp only [List.lookup,hb,if_pos h]
  ·have hb:(g == f) = false:=beq_eq_false_iff_ne.mpr h
   simp only [List.lookup,hb,if_neg h]
 | (k,x) :: r=>by
  have ih:=lookup_putF f g v r
  rw [show putF f v ((k,x) :: r) = (if k = f then (k,v) :: r else (k,x) :: putF f v r) from rfl]
  by_cases hk:k = f
  ·rw [if_pos hk]
   by_cases h:g = k
   ·have hb:(g == k) = true:=beq_iff_eq.mpr h
    simp only [List.lookup,hb,if_pos (h.trans hk)]
   ·have hb:(g == k) = false:=beq_eq_false_iff_ne.mpr h
    simp only [List.lookup,hb,if_neg (fun e:g = f=>h (e.trans hk.symm))]
  ·rw [if_neg hk]
   by_cases h:g = k
   ·have hb:(g == k) = true:=beq_iff_eq.mpr h
    simp only [List.lookup,hb,if_neg (fun e:g = f=>hk (h.symm.trans e))]
   ·have hb:(g == k) = false:=beq_eq_false_iff_ne.mpr h
    simp only [List.lookup,hb]
    exact ih
theorem keys_putF (f:Str) (v:V):∀ fs:List (Str × V),f ∈ (putF f v fs).map (·.1)∧∀ g,g ∈ fs.map (·.1)→g ∈ (putF f v fs).map (·.1)
 | []=>⟨by simp [putF],fun g h=>by simp at h⟩
 | (k,x) :: r=>by
  obtain ⟨i1,i2⟩:=keys_putF f v r
  rw [show putF f v ((k,x) :: r) = (if k = f then (k,v) :: r else (k,x) :: putF f v r) from rfl]
  by_cases hk:k = f
  ·rw [if_pos hk]
   subst hk
   exact ⟨by simp,fun g h=>by simpa using h⟩
  ·rw [if_neg hk]
   refine ⟨?_,fun g h=>?_⟩
   ·rw [List.map_cons]
    exact List.mem_cons_of_mem _ i1
   ·rw [List.map_cons] at h ⊢
    rcases List.mem_cons.mp h with e | e
    ·exact List.mem_cons.mpr (.inl e)
    ·exact List.mem_cons_of_mem _ (i2 g e)
theorem length_putF (f:Str) (v:V):∀ fs:List (Str × V),(putF f v fs).length≤fs.length + 1
 | []=>by simp [putF]
 | (k,x) :: r=>by
  have ih:=length_putF f v r
  rw [show putF f v ((k,x) :: r) = (if k = f then (k,v) :: r else (k,x) :: putF f v r) from rfl]
  by_cases hk:k = f
  ·rw [if_pos hk,List.length_cons,List.length_cons]; omega
  ·rw [if_neg hk,List.length_cons,List.length_cons]; omega
theorem RelO.some_of {v:V} {o:Option Value} (r:RelO (some v) o):∃ u,o = some u∧RelV v u:=by
 cases o with
 | none=>exact (show False from r).elim
 | some u=>exact ⟨u,rfl,r⟩
theorem RelO.none_of {o:Option Value} (r:RelO none o):o = none:=by
 cases o with
 | none=>rfl
 | some u=>exact (show False from r).elim
theorem handed_of {v:V} {u:Value} (r:RelV v u):PySem.W.handedIn u = true:=by
 cases v with
 | non=>cases (show u = Value.none from r); rfl
 | bl b=>cases (show u = Value.bool b from r); rfl
 | int i=>obtain ⟨t,e⟩:=(show ∃ t,u = Value.int i t from r); cases e; rfl
 | str x=>obtain ⟨t,e⟩:=(show ∃ t,u = Value.str x t from r); cases e; rfl
 | byt b=>obtain ⟨t,e⟩:=(show ∃ t,u = Value.bytes b t from r); cases e; rfl
 | flt b=>obtain ⟨t,e⟩:=(show ∃ t,u = Value.float b t from r); cases e; rfl
 | ref a=>cases (show u = Value.ref a from r); rfl
 | ty n=>cases (show u = Value.type n from r); rfl
section
variable {P:Program} {w:World} {H H':Hp} {h h':Heap} {a C dx:Addr} {fs fs':List (Str × V)}
theorem ins_get (hok:HOk P w H h) (e:H a = some (.ins C dx fs)):∃ mA,ObjM h a dx C mA∧(∀ f,RelO (fs.lookup f) (mA f))∧PySem.Within mA (fs.map (·.1))∧fs.length≤1000∧H dx = some (.own a):=by
 obtain ⟨d,z,ne,ob,mA,n,r,q⟩:=(show ObjOk P w H h a (.ins C dx fs) from hok a _ e)
 exact ⟨mA,⟨ob,n,ne⟩,r,q,z,d⟩
end
structure Cls (K:PySem.W.Frag) (C:Addr):Prop where
 pg:PySem.W.plainGet K C Str.empty = true
 hd:PySem.W.hasDictIn K C = true
 po:PySem.W.plainOver K C = true
 sa:PySem.W.findIn K (.ref C) "__setattr__" = some (some (.builtin "object.__setattr__"))
theorem Cls.get {K:PySem.W.Frag} {C:Addr} (c:Cls K C) (f:Str):PySem.W.plainGet K C f = true:=c.pg
def NoAttr (K:PySem.W.Frag) (C:Addr) (f:Str):Prop:=PySem.W.findIn K (.ref C) f = some none
theorem NoAttr.taker {K:PySem.W.Frag} {C:Addr} {f:Str} (n:NoAttr K C f):PySem.W.takerIn K C f = some none:=by
 unfold PySem.W.takerIn
 rw [show PySem.W.findIn K (.ref C) f = some none from n]
 rfl
structure Meth (K:PySem.W.Frag) (C:Addr) (m:Str) (f:Addr):Prop where
 at_:PySem.W.findIn K (.ref C) m = some (some (.ref f))
 fn:PySem.W.isFn K (.ref f) = true
 kp:PySem.W.keepIn K (.ref f) = true
section
variable {X:Cx} {pins:List (Addr × Obj)} {σ:St} {H:Hp} {s:Shared} {a C dx:Addr} {fs:List (Str × V)} {f:Str} {v:V} {A:Around} {E:Value→Shared→Prop}
theorem getattr_ok {b:Bool} {Q:Value→Shared→Prop} (I:Inv X pins σ H s) (e:H a = some (.ins C dx fs)) (c:Cls X.K C) (n:NoAttr X.K C f) (l:fs.lookup f = some v)
  (h:∀ u s',Inv X pins σ H s'→RelV v u→Q u s'):wpAny (model X.prog X.w) A (getAttr (.ref a) f b) Q E s:=by
 obtain ⟨mA,O,r,_,_,_⟩:=ins_get I.hok e
 obtain ⟨u,hu,ru⟩:=RelO.some_of (v:=v) (o:=mA f) (by rw [← l]; exact r f)
 exact get_map I.kIn O (c.get f) c.hd n hu (handed_of ru) (h u _ (I.tok _) ru)
theorem getmeth_ok {m:Str} {g:Addr} {pl:Sem Bool} {Q:Value × List Value→Shared→Prop} (I:Inv X pins σ H s) (e:H a = some (.ins C dx fs)) (c:Cls X.K C) (k:Meth X.K C m g) (l:fs.lookup m = none)
  (h:Q (.ref g,[.ref a]) s):wpAny (model X.prog X.w) A (getMethod (.ref a) m pl) Q E s:=by
 obtain ⟨mA,O,r,_,_,_⟩:=ins_get I.hok e
 have hn:mA m = none:=RelO.none_of (by rw [← l]; exact r m)
 exact get_meth I.kIn O (c.get m) k.at_ k.fn hn h
theorem setattr_ok {y:V} {u:Value} {Q:Unit→Shared→Prop} (I:Inv X pins σ H s) (e:H a = some (.ins C dx fs)) (c:Cls X.K C) (n:NoAttr X.K C f) (hl:fs.length < 1000) (ry:RelV y u)
  (h:∀ s',Inv X pins σ (upd H a (.ins C dx (putF f y fs))) s'→Q () s'):wpAny (model X.prog X.w) A (setAttr (.ref a) f u) Q E s:=by
 obtain ⟨mA,O,r,wi,_,ho⟩:=ins_get I.hok e
 have hz:(fs.map (·.1)).length≤sizeLine:=by rw [List.length_map,sizeLine_eq]; omega
 refine set_map I.kIn O c.sa c.po n.taker c.hd wi hz fun h' O' sb=>h _ ?_
 have hd:∃ o,h'.get? dx = some o:=let ⟨o,_,_,e',_⟩:=O'.ns; ⟨o,e'⟩
 refine I.write (x:=a) (e:=dx) (by rw [e]; exact True.intro) (.inr ho) (fun b q hb z=>(sb.2 b hb).trans z) hd ?_
 refine ⟨by rw [upd_ne O.ne]; exact ho,?_,O.ne,O'.obj,_,O'.ns,fun g=>?_,fun g hg=>?_⟩
 ·have:=length_putF f y fs; omega
 ·show RelO ((putF f y fs).lookup g) (if g = f then some u else mA g)
  rw [lookup_putF]
  by_cases q:g = f
  ·rw [if_pos q,if_pos q]; exact ry
  ·rw [if_neg q,if_neg q]; exact r g
 ·by_cases q:g = f
  ·rw [q]; exact (keys_putF f y fs).1
  ·refine (keys_putF f y fs).2 g (wi g fun z=>hg ?_)
   show (if g = f then some u else mA g) = none
   rw [if_neg q]; exact z
theorem Inv.made (I:Inv X pins σ H s):Inv X pins σ (upd (upd H s.heap.objs.size (.own (s.heap.objs.size + 1))) (s.heap.objs.size + 1) (.ins C s.heap.objs.size []))
  { s with heap:=(s.heap.push PySem.W.emptyDict).push (PySem.W.instObj C s.heap.objs.size) }:=by
 have e1:(s.heap.push PySem.W.emptyDict).get? s.heap.objs.size = some PySem.W.emptyDict:=Heap.get?_push_size s.heap rfl
 have e2:((s.heap.push PySem.W.emptyDict).push (PySem.W.instObj C s.heap.objs.size)).get? (s.heap.objs.size + 1) = some (PySem.W.instObj C s.heap.objs.size):=by
  have:=Heap.get?_push_size (s.heap.push PySem.W.emptyDict) (o:=PySem.W.instObj C s.heap.objs.size) rfl
  rwa [Heap.size_push] at this
 have e3:(s.heap.push PySem.W.emptyDict).Ns s.heap.objs.size (fun _=>none):=⟨PySem.W.emptyDict,#[],_,e1,rfl,(fun e he=>absurd he (by simp)),fun _=>rfl⟩
 have I1:=I.laid (a:=s.heap.objs.size) (o:=.own (s.heap.objs.size + 1)) (h':=s.heap.push PySem.W.emptyDict) (t':=s.toks) (fun b u q=>Heap.get?_push_of_some _ q) (Nat.le_refl _) ⟨_,e1⟩
 refine I1.laid (a:=s.heap.objs.size + 1) (o:=.ins C s.heap.objs.size []) (t':=s.toks) (fun b u q=>Heap.get?_push_of_some _ q) (Nat.le_of_eq (Heap.size_push _ _)) ?_
 have ne:s.heap.objs.size ≠ s.heap.objs.size + 1:=Nat.ne_of_lt (Nat.lt_succ_self _)
 refine ⟨by rw [upd_ne ne,upd_same],Nat.zero_le _,ne,e2,fun _=>none,(Heap.Ns1.of_empty e3).at fun o q=>Heap.get?_push_of_some _ q,fun _=>True.intro,fun y hy=>absurd rfl hy⟩
theorem attr_of {prog:Program} {w:World} {env:Env} {e:Expr} {f:Str} {pos:Pos} {s:Shared} {Q:Value→Shared→Prop} (hb:attributeBase e f env (eval e env) = eval e env)
  (h:wpAny (model prog w) A (eval e env) (fun o s₁=>wpAny (model prog w) A (getAttr o f true) Q E s₁) E s):wpAny (model prog w) A (eval (.Attribute e f pos) env) Q E s :=
 Attribute_any_ h (by rw [arm_eval_Attribute,hb])
end
def tFld (K:PySem.W.Frag) (ta:TE) (f:Str):TE:=fun σ H Q=>ta σ H fun x H1=>∃ a C dx fs v,x = .ref a∧H1 a = some (.ins C dx fs)∧Cls K C∧NoAttr K C f∧fs.lookup f = some v∧Q v H1
def sFld (K:PySem.W.Frag) (ta tv:TE) (f:Str):TS:=fun D σ H=>tv σ H fun y H1=>ta σ H1 fun x H2=>∃ a C dx fs,x = .ref a∧H2 a = some (.ins C dx fs)∧Cls K C∧NoAttr K C f∧fs.length < 1000 ∧
 D.nx σ (upd H2 a (.ins C dx (putF f y fs)))
section
variable {X:Cx} {o e value:Expr} {f:Str} {pos pos' tpos:Pos} {ta tv:TE}
theorem pe_fld (he:PE X e ta) (hb:attributeBase e f X.env (eval e X.env) = eval e X.env):PE X (.Attribute e f pos) (tFld X.K ta f):=by
 intro pins s σ H Q I h
 refine attr_of hb (thn (he pins s σ H _ I h) fun u s1 ⟨x,H1,I1,rx,a,C,dx,fs,v,ex,ea,c,n,l,q⟩=>?_)
 subst ex
 obtain rfl:u = Value.ref a:=rx
 exact getattr_ok I1 ea c n l fun u' s2 I2 ru=>⟨v,H1,I2,ru,q⟩
theorem ps_fld (ha:PE X o ta) (hv:PE X value tv) (hs:swapsWith value (some (.Attribute o f pos')) pos.line X.env = pure false):PS X (.Assign [.Attribute o f pos'] value pos) (sFld X.K ta tv f):=by
 intro pins s σ H D I h
 refine plainObj_wpAny_Assign_Attribute (thn (hv pins s σ H _ I h) fun u s1 ⟨y,H1,I1,ry,q⟩=>thn (ha pins s1 σ H1 _ I1 q) fun ov s2 ⟨x,H2,I2,rx,a,C,dx,fs,ex,ea,c,n,l,q2⟩=>?_) hs
 subst ex
 obtain rfl:ov = Value.ref a:=rx
 exact setattr_ok I2 ea c n l ry fun s3 I3=>⟨σ,_,I3,q2⟩
end
section
variable {X:Cx} {pins:List (Addr × Obj)} {σ:St} {H:Hp} {s:Shared} {A:Around} {E:Value→Shared→Prop} {Q:Value→Shared→Prop} {c:Value} {b:Bool}
inductive TyOf (K:PySem.W.Frag) (H:Hp):V→Value→Prop where
 | non:TyOf K H .non (.type "NoneType")
 | bl (x:Bool):TyOf K H (.bl x) (.type "bool")
 | int (i:Int):TyOf K H (.int i) (.type "int")
 | str (x:Str):TyOf K H (.str x) (.type "str")
 | flt (x:UInt64):TyOf K H (.flt x) (.type "float")
 | lst {a:Addr} {xs:List V} (e:H a = some (.lst xs)):TyOf K H (.ref a) (.type "list")
 | frz {a:Addr} {o:Obj} {xs:List V} (e:H a = some (.frz o (.lst xs))):TyOf K H (.ref a) (.type "list")
 | tup {a:Addr} {xs:List V} (e:H a = some (.tup xs)):TyOf K H (.ref a) (.type "tuple")
 | dK {a:Addr} {kvs:List (Key × V)} (e:H a = some (.dK kvs)):TyOf K H (.ref a) (.type "dict")
 | dT {a:Addr} {kvs:List (List Key × V)} (e:H a = some (.dT kvs)):TyOf K H (.ref a) (.type "dict")
 | ins {a C dx:Addr} {fs:List (Str × V)} (e:H a = some (.ins C dx fs)) (cl:Cls K C) (ha:PySem.W.findIn K (.ref C) "__class__" = some (some (.builtin "object.__class__")))
   (hn:PySem.W.specialIn K (.builtin "object.__class__") "__get__" = some (some (.builtin "getset_descriptor.__get__"))) (htk:PySem.W.takesIn K (.builtin "object.__class__") = some true)
   (hm:PySem.W.mroIn K C (.type "object") = some true):TyOf K H (.ref a) (.ref C)
theorem isinst_ok {x:V} {u t:Value} (I:Inv X pins σ H s) (rx:RelV x u) (ty:TyOf X.K H x t) (e:PySem.W.kitOne X.K t c = some b) (h:∀ tk,Q (.bool b) { s with toks:=tk }) :
  wpAny (model X.prog X.w) A (call (.builtin "isinstance") [u,c]) Q E s:=by
 cases ty with
 | non=>cases (show u = Value.none from rx); exact PySem.W.kia_one PySem.W.kitx_none I.kIn True.intro e (fun z=>nomatch z) h
 | bl y=>cases (show u = Value.bool y from rx); exact PySem.W.kia_one PySem.W.kitx_bool I.kIn True.intro e (fun z=>nomatch z) h
 | int i=>obtain ⟨t,q⟩:=(show ∃ t,u = Value.int i t from rx); cases q; exact PySem.W.kia_one PySem.W.kitx_int I.kIn True.intro e (fun z=>nomatch z) h
 | str y=>obtain ⟨t,q⟩:=(show ∃ t,u = Value.str y t from rx); cases q; exact PySem.W.kia_one PySem.W.kitx_str I.kIn True.intro e (fun z=>nomatch z) h
 | flt y=>obtain ⟨t,q⟩:=(show ∃ t,u = Value.float y t from rx); cases q; exact PySem.W.kia_one PySem.W.kitx_float I.kIn True.intro e (fun z=>nomatch z) h
 | @lst a xs ea =>
  cases (show u = Value.ref a from rx)
  obtain ⟨_,_,n,_,h1⟩:=(show ObjOk X.prog X.w H s.heap a (.lst xs) from I.hok a _ ea)
  exact PySem.W.kia_one PySem.W.kitx_list I.kIn ⟨_,h1,rfl⟩ e (fun z=>nomatch z) h
 | @frz a ob xs ea =>
  cases (show u = Value.ref a from rx)
  obtain ⟨_,_,_,n,_,h1⟩:=(show ObjOk X.prog X.w H s.heap a (.frz ob (.lst xs)) from I.hok a _ ea)
  exact PySem.W.kia_one PySem.W.kitx_list I.kIn ⟨_,h1,rfl⟩ e (fun z=>nomatch z) h
 | @tup a xs ea =>
  cases (show u = Value.ref a from rx)
  obtain ⟨_,_,_,p⟩:=(show ObjOk X.prog X.w H s.heap a (.tup xs) from I.hok a _ ea)
  obtain ⟨o,h1,h2,_⟩:=p
  exact PySem.W.kia_one PySem.W.kitx_tuple I.kIn ⟨o,h1,h2⟩ e (fun z=>nomatch z) h
 | @dK a kvs ea =>
  cases (show u = Value.ref a from rx)
  obtain ⟨_,_,vs,_,p⟩:=(show ObjOk X.prog X.w H s.heap a (.dK kvs) from I.hok a _ ea)
  obtain ⟨o,es,ep,h1,h2,_⟩:=p
  exact PySem.W.kia_one PySem.W.kitx_dict I.kIn ⟨o,h1,h2.1⟩ e (fun z=>nomatch z) h
 | @dT a kvs ea =>
  cases (show u = Value.ref a from rx)
  obtain ⟨_,_,xs,_,o,es,ep,h1,h2,_⟩:=(show ObjOk X.prog X.w H s.heap a (.dT kvs) from I.hok a _ ea)
  exact PySem.W.kia_one PySem.W.kitx_dict I.kIn ⟨o,h1,h2.1⟩ e (fun z=>nomatch z) h
 | @ins a C dx fs ea cl ha hn htk hm =>
  cases (show u = Value.ref a from rx)
  obtain ⟨mA,O,_⟩:=ins_get I.hok ea
  obtain ⟨od,J,_⟩:=O.look
  exact PySem.W.kia_one (PySem.W.kitx_own (cl.get _) cl.hd ha hn htk hm) I.kIn J e (fun z=>nomatch z) h
end
end L2
namespace L2
open PySem PySem.Spec PyProof.Rows
structure Room (k:Nat) (A:Around):Prop where
 hd:A.handled = none
 dp:A.depth + 3 * k + 5 < recursionLimit
 un:A.units + 16 * k + 200 < cLine
 gd:A.guards = some []
theorem Room.mono {j k:Nat} {A:Around} (r:Room k A) (h:j≤k):Room j A:=⟨r.hd,by have:=r.dp; omega,by have:=r.un; omega,r.gd⟩
theorem Room.deeper {k:Nat} {A:Around} (r:Room (k + 1) A) (env:Env):Room k (A.deeper env) :=
 ⟨r.hd,by have:=r.dp; show A.depth + 1 + 3 * k + 5 < _; omega,by have:=r.un; show A.units + 3 + 16 * k + 200 < _; omega,r.gd⟩
theorem make_depth {A:Around} {C:Addr} {us:List Value} {kw:List (Str × Value)}:(A.under (.builtin "type.__call__" ⟨.ref C :: us,kw⟩)).depth = A.depth + 1:=by
 first | rfl | simp [Around.under,Code.weight,Code.isCreation,Code.isGuard,Code.isCaller,Code.frames,Code.isFrame,guardIds]
theorem make_units {A:Around} {C:Addr} {us:List Value} {kw:List (Str × Value)}:(A.under (.builtin "type.__call__" ⟨.ref C :: us,kw⟩)).units = A.units + 1:=by
 first | rfl | simp [Around.under,Code.cUnits,Code.frames,Code.isFrame]
theorem Room.make {k:Nat} {A:Around} (r:Room (k + 1) A) (C:Addr) (us:List Value) (kw:List (Str × Value)):Room k (A.under (.builtin "type.__call__" ⟨.ref C :: us,kw⟩)) :=
 ⟨r.hd,by have:=r.dp; rw [make_depth]; omega,by have:=r.un; rw [make_units]; omega,r.gd⟩
theorem Room.depth {k:Nat} {A:Around} (r:Room k A):A.depth < recursionLimit:=by have:=r.dp; omega
theorem Room.units {k:Nat} {A:Around} (r:Room k A):A.units + 64 < cLine:=by have:=r.un; omega
def tNil:TA:=fun _ H Q=>Q [] H
def tCons (ta:TE) (tr:TA):TA:=fun σ H Q=>ta σ H fun x H1=>tr σ H1 fun xs H2=>Q (x :: xs) H2
section
variable {X:Cx} {e:Expr} {es:List Expr} {te:TE} {t:TA} {pos:Pos}
theorem pa_nil:PA X [] tNil:=fun _ _ _ _ H Q I h=>Calls.spliced_nil ⟨[],H,I,.nil,h⟩
theorem pa_cons (ha:PE X e te) (hr:PA X es t) (hs:starEach (e :: es) X.env = (false,eval e X.env) :: starEach es X.env:=by rfl):PA X (e :: es) (tCons te t):=by
 intro pos pins s σ H Q I h
 rw [hs]
 show wpAny _ _ (spliced ((false,eval e X.env) :: backTo pos (starEach es X.env))) _ _ s
 refine Calls.spliced_cons (thn (ha pins s σ H _ I h) fun u s1 ⟨x,H1,I1,r1,q1⟩=>?_)
 exact thn (hr pos pins s1 σ H1 _ I1 q1) fun us s2 ⟨xs,H2,I2,r2,q2⟩=>⟨x :: xs,H2,I2,.cons r1 r2,q2⟩
def tTup (t:TA):TE:=fun σ H Q=>t σ H fun xs H1=>xs.length≤sizeLine∧∀ p,H1 p = none→Q (.ref p) (upd H1 p (.tup xs))
def tLst (t:TA):TE:=fun σ H Q=>t σ H fun xs H1=>xs.length≤sizeLine∧∀ p,H1 p = none→Q (.ref p) (upd H1 p (.lst xs))
theorem pe_tup {x1} (h:PA X es t):PE X (.Tuple es x1 pos) (tTup t):=by
 intro pins s σ H Q I hq
 refine wpAny_Tuple_spliced (thn (h pos pins s σ H _ I hq) fun us s1 ⟨xs,H1,I1,r,z,q⟩=>⟨by rw [← r.length]; exact z,?_⟩)
 have hf:H1 s1.heap.objs.size = none:=I1.hok.fresh (Nat.le_refl _)
 refine ⟨.ref s1.heap.objs.size,upd H1 s1.heap.objs.size (.tup xs),I1.laid (t':=s1.toks) (fun b u e=>Heap.get?_push_of_some _ e) (Nat.le_refl _) ?_,rfl,q _ hf⟩
 exact ⟨z,us,r,⟨_,Heap.get?_push_size _ rfl,rfl,_,rfl⟩⟩
theorem pe_lst (h:PA X es t):PE X (.List es pos) (tLst t):=by
 intro pins s σ H Q I hq
 refine wpAny_List_spliced (thn (h pos pins s σ H _ I hq) fun us s1 ⟨xs,H1,I1,r,z,q⟩=>⟨by rw [← r.length]; exact z,?_⟩)
 have hf:H1 s1.heap.objs.size = none:=I1.hok.fresh (Nat.le_refl _)
 refine ⟨.ref s1.heap.objs.size,upd H1 s1.heap.objs.size (.lst xs),I1.laid (t':=s1.toks) (fun b u e=>Heap.get?_push_of_some _ e) (Nat.le_refl _) ?_,rfl,q _ hf⟩
 exact ⟨z,us,0,r,Heap.get?_push_size _ rfl⟩
end
abbrev Sp:=List V→Hp→VK→XK→Prop
abbrev CXT:=List Env→Hp→Shared→XK→Value→Shared→Prop
structure Env0 (P:Program) (w:World) (K:PySem.W.Frag) (mg:Str→Option Value) (base:Heap) (A:Around) (outer:List Env) (s:Shared) (H:Hp):Prop where
 frames:A.frames = some outer
 mod:Mod K mg base
 bs:∀ b o,base.get? b = some o→s.heap.get? b = some o∧H b = none
 bsz:base.objs.size≤s.heap.objs.size
 funs:s.heap.FunFrames base outer
 frf:∀ b ∈ frs outer,H b = none
 hok:HOk P w H s.heap
 bare:AllBare s.gens
def CE (outer:List Env) (P:Program) (w:World) (H:Hp) (s:Shared) (Q:VK) (u:Value) (s':Shared):Prop :=
 ∃ v H',s'.os = s.os∧AllBare s'.gens∧Un (frs outer) [] H H' s.heap s'.heap∧HOk P w H' s'.heap∧RelV v u∧Q v H'
def CR (CX:CXT) (outer:List Env) (P:Program) (w:World) (H:Hp) (s:Shared) (Q:VK) (E:XK) (r:Result) (s':Shared):Prop :=
 match r with
 | .ok (.ret u)=>CE outer P w H s Q u s'
 | .ok _=>False
 | .error e=>CX outer H s E e s'
structure FnOk (P:Program) (w:World) (K:PySem.W.Frag) (mg:Str→Option Value) (base:Heap) (CX:CXT) (k:Nat) (f:Addr) (fd:FuncData) (ps:List Str) (sp:Sp):Prop where
 len:∀ vs H Q E,sp vs H Q E→vs.length = ps.length
 run:∀ (A:Around) (outer:List Env) (s:Shared) (H:Hp) (args:Args) (us:List Value) (vs:List V) (Q:VK) (E:XK),Room k A→Env0 P w K mg base A outer s H→BindsTo s fd args (ps.zip us)→Vals vs us→sp vs H Q E →
  codeAny (model P w) A (.call (.ref f) args) (CR CX outer P w H s Q E) s
theorem FnOk.imp {P:Program} {w:World} {K:PySem.W.Frag} {mg:Str→Option Value} {base:Heap} {CX:CXT} {k:Nat} {f:Addr} {fd:FuncData} {ps:List Str} {sp sp':Sp} (F:FnOk P w K mg base CX k f fd ps sp)
  (h:∀ vs H Q E,sp' vs H Q E→sp vs H Q E):FnOk P w K mg base CX k f fd ps sp' :=
 ⟨fun vs H Q E q=>F.len vs H Q E (h _ _ _ _ q),fun A outer s H args us vs Q E hr he hb hv hs=>F.run A outer s H args us vs Q E hr he hb hv (h _ _ _ _ hs)⟩
theorem Env0.make {P:Program} {w:World} {K:PySem.W.Frag} {mg:Str→Option Value} {base:Heap} {A:Around} {outer:List Env} {s:Shared} {H:Hp} (e:Env0 P w K mg base A outer s H) (C:Addr) (us:List Value) (kw:List (Str × Value)) :
  Env0 P w K mg base (A.under (.builtin "type.__call__" ⟨.ref C :: us,kw⟩)) outer s H:=⟨by first | exact e.frames | (simpa [Around.under,Code.envs,Code.isFrame,pushEnvs] using e.frames),e.mod,e.bs,e.bsz,e.funs,e.frf,e.hok,e.bare⟩
section
variable {X:Cx} {pins:List (Addr × Obj)} {σ:St} {H:Hp} {s s':Shared}
theorem Inv.env0 (I:Inv X pins σ H s):Env0 X.prog X.w X.K X.mg X.base X.A X.stack s H :=
 ⟨I.ok.frames,I.ok.mod,I.bs,Nat.le_trans I.ok.bsz I.sz,I.stack,I.stkFree,I.hok,I.bare⟩
theorem Inv.after {Q:VK} {u:Value} (I:Inv X pins σ H s) (h:CE X.stack X.prog X.w H s Q u s'):EP X pins σ Q u s':=by
 obtain ⟨v,H',os,bare,un,hok,r,q⟩:=h
 obtain ⟨hh,g,d,t,os'⟩:=s'
 obtain rfl:os' = s.os:=os
 exact ⟨v,H',I.call (h':=hh) (g':=g) (d':=d) (t':=t) (ch:=[]) un hok bare (fun b z=>absurd z (by simp)),r,q⟩
end
def tCall (sp:Sp) (dvs:List V) (E:XK) (t:TA):TE:=fun σ H Q=>t σ H fun vs H1=>sp (vs ++ dvs) H1 Q E
def tMake (C:Addr) (sp:Sp) (dvs:List V) (E:XK) (t:TA):TE:=fun σ H Q=>t σ H fun vs H1=>∀ x dx,H1 x = none→H1 dx = none→dx ≠ x →
 sp (.ref x :: (vs ++ dvs)) (upd (upd H1 dx (.own x)) x (.ins C dx [])) (fun v H2=>v = .non∧Q (.ref x) H2) E
def Binds (K:PySem.W.Frag) (fd:FuncData) (ps:List Str) (ds:List Value):Prop :=
 ∀ (s:Shared) (us:List Value),K.In s.heap→(us ++ ds).length = ps.length→BindsTo s fd ⟨us,[]⟩ (ps.zip (us ++ ds))
theorem Binds.all {K:PySem.W.Frag} {fd:FuncData} {ps:List Str} (h:∀ us:List Value,us.length = ps.length→bindArgs fd ⟨us,[]⟩ = pure (ps.zip us)):Binds K fd ps []:=fun s us _ hl=>by
 rw [List.append_nil] at hl ⊢
 exact .of_eq (h us hl)
def Passes (CX:CXT) (X:Cx) (E:XK):Prop:=∀ (pins:List (Addr × Obj)) (σ:St) (H:Hp) (s:Shared) (e:Value) (s':Shared),Inv X pins σ H s→CX X.stack H s E e s'→X.xe e s'
section
variable {X:Cx} {CX:CXT} {k:Nat} {f C:Addr} {fd:FuncData} {ps:List Str} {sp:Sp} {dvs:List V} {ds:List Value} {E:XK} {x m:Str} {p pos apos:Pos} {e o:Expr} {es:List Expr} {ta:TE} {t:TA}
theorem run_fn {pins:List (Addr × Obj)} {σ:St} {H:Hp} {s:Shared} {Q:VK} {us:List Value} {vs:List V} (F:FnOk X.prog X.w X.K X.mg X.base CX k f fd ps sp) (hr:Room k X.A) (hb:Binds X.K fd ps ds) (hd:Vals dvs ds) (hx:Passes CX X E)
  (I:Inv X pins σ H s) (r:Vals vs us) (h:sp (vs ++ dvs) H Q E):wpAny (model X.prog X.w) X.A (call (.ref f) us) (EP X pins σ Q) X.xe s:=by
 have r2:Vals (vs ++ dvs) (us ++ ds):=r.append hd
 have hl:(us ++ ds).length = ps.length:=by rw [← r2.length]; exact F.len _ _ _ _ h
 refine wpAny_call (codeAny_mono (F.run X.A X.stack s H ⟨us,[]⟩ (us ++ ds) (vs ++ dvs) Q E hr I.env0 (hb s us I.kIn hl) r2 h) fun r s' hq=>?_)
 cases r with
 | error e=>exact hx pins σ H s e s' I hq
 | ok fl =>
  cases fl with
  | ret u=>exact I.after hq
  | next=>exact False.elim hq
  | brk=>exact False.elim hq
  | cont=>exact False.elim hq
theorem pe_call (F:FnOk X.prog X.w X.K X.mg X.base CX k f fd ps sp) (hr:Room k X.A) (hg:Gl X x) (hm:X.mg x = some (.ref f)) (hk:PySem.W.keepIn X.K (.ref f) = true) (hb:Binds X.K fd ps ds) (hd:Vals dvs ds) (hx:Passes CX X E)
  (ha:PA X (e :: es) t) (hdb:(x == ("__debug__":Str)) = false:=by decide) (he:starEach (e :: es) X.env = (false,eval e X.env) :: starEach es X.env:=by rfl) (hpl:(backTo pos (starEach es X.env)).any (·.1) = false:=by rfl) :
  PE X (.Call (.Name x p) (e :: es) [] pos) (tCall sp dvs E t):=by
 intro pins s σ H Q I h
 refine wpAny_Call_Name_kw (ld_glob I hg hm ?_ hdb)
 refine PySem.W.callWith_K (h₀:=X.base) I.ok.mod.kin hk (thn (ha pos pins s σ H _ I h) fun us s1 ⟨vs,H1,I1,r,q⟩=>⟨I1.kIn,?_⟩) he hpl
 exact run_fn F hr hb hd hx I1 r q
structure Mk (K:PySem.W.Frag) (C f:Addr):Prop where
 makes:PySem.W.makesIn K C = true
 init:PySem.W.findIn K (.ref C) "__init__" = some (some (.ref f))
 fn:PySem.W.isFn K (.ref f) = true
 kp:PySem.W.keepIn K (.ref C) = true
theorem run_make {pins:List (Addr × Obj)} {σ:St} {H:Hp} {s:Shared} {Q:VK} {us:List Value} {vs:List V} (M:Mk X.K C f) (F:FnOk X.prog X.w X.K X.mg X.base CX k f fd ps sp) (hr:Room (k + 1) X.A) (hb:Binds X.K fd ps ds) (hd:Vals dvs ds)
  (hx:Passes CX X E) (I:Inv X pins σ H s) (r:Vals vs us)
  (h:∀ x dx,H x = none→H dx = none→dx ≠ x→sp (.ref x :: (vs ++ dvs)) (upd (upd H dx (.own x)) x (.ins C dx [])) (fun v H2=>v = .non∧Q (.ref x) H2) E) :
  wpAny (model X.prog X.w) X.A (call (.ref C) us) (EP X pins σ Q) X.xe s:=by
 have hq:=h (s.heap.objs.size + 1) s.heap.objs.size (I.hok.fresh (Nat.le_succ _)) (I.hok.fresh (Nat.le_refl _)) (Nat.ne_of_lt (Nat.lt_succ_self _))
 have I2:=Inv.made (C:=C) I
 have r2:Vals (V.ref (s.heap.objs.size + 1) :: (vs ++ dvs)) (Value.ref (s.heap.objs.size + 1) :: (us ++ ds)):=.cons rfl (r.append hd)
 have hl:(Value.ref (s.heap.objs.size + 1) :: us ++ ds).length = ps.length:=by
  have e:=r2.length
  rw [F.len _ _ _ _ hq] at e
  exact e.symm
 refine wpAny_call (make_map (f:=f) I.kIn M.makes M.init (beq_iff_eq.mp M.fn) (codeAny_mono (F.run _ X.stack _ _ ⟨Value.ref (s.heap.objs.size + 1) :: us,[]⟩ (Value.ref (s.heap.objs.size + 1) :: (us ++ ds)) _ _ E (hr.make C us [])
  (I2.env0.make C us []) (hb _ (Value.ref (s.heap.objs.size + 1) :: us) I2.kIn hl) r2 hq) fun r s' hq'=>?_))
 cases r with
 | error e=>exact hx pins σ _ _ e s' I2 hq'
 | ok fl =>
  cases fl with
  | ret u =>
   obtain ⟨v,H',I3,rv,ev,q3⟩:=I2.after hq'
   subst ev
   exact ⟨rv,⟨V.ref (s.heap.objs.size + 1),H',I3,rfl,q3⟩⟩
  | next=>exact False.elim hq'
  | brk=>exact False.elim hq'
  | cont=>exact False.elim hq'
theorem pe_make (M:Mk X.K C f) (F:FnOk X.prog X.w X.K X.mg X.base CX k f fd ps sp) (hr:Room (k + 1) X.A) (hg:Gl X x) (hm:X.mg x = some (.ref C)) (hb:Binds X.K fd ps ds) (hd:Vals dvs ds) (hx:Passes CX X E)
  (ha:PA X (e :: es) t) (hdb:(x == ("__debug__":Str)) = false:=by decide) (he:starEach (e :: es) X.env = (false,eval e X.env) :: starEach es X.env:=by rfl) (hpl:(backTo pos (starEach es X.env)).any (·.1) = false:=by rfl) :
  PE X (.Call (.Name x p) (e :: es) [] pos) (tMake C sp dvs E t):=by
 intro pins s σ H Q I h
 refine wpAny_Call_Name_kw (ld_glob I hg hm ?_ hdb)
 refine PySem.W.callWith_K (h₀:=X.base) I.ok.mod.kin M.kp (thn (ha pos pins s σ H _ I h) fun us s1 ⟨vs,H1,I1,r,q⟩=>⟨I1.kIn,?_⟩) he hpl
 exact run_make M F hr hb hd hx I1 r q
end
section
variable {X:Cx} {CX:CXT} {k:Nat} {f C:Addr} {fd:FuncData} {ps ks:List Str} {sp:Sp} {E:XK} {x m:Str} {p pos apos kpos:Pos} {e o:Expr} {es:List Expr} {kws:List Keyword} {te ta:TE} {t tk:TA} {nm:Option Str}
variable {g:List Value→List Value→List Value} {gV:List V→List V→List V}
end
structure FnScope (N P:List Str) (sc:Scope):Prop where
 kind:sc.kind = .function
 co:sc.isCoroutine = false
 gen:sc.isGenerator = false
 nd:N.Nodup
 pre:N.take P.length = P
 par:∀ x ∈ P,sc.names.lookup x = some .local∨sc.names.lookup x = some .cell
 nofree:∀ y ∈ sc.names,y.2 ≠ .free
theorem bindL_out {kindOf:Str→Option NameKind} {x:Str}:∀ {binds:List (Str × Value)} {m:Str→Option Value},(∀ v,(x,v) ∉ binds)→bindL kindOf binds m x = m x
 | [],_,_=>rfl
 | (n,v) :: r,m,h=>by
  unfold bindL
  rw [bindL_out fun w hw=>h w (List.mem_cons_of_mem _ hw)]
  split
  ·have:x ≠ n:=by rintro rfl; exact h v List.mem_cons_self
   simp [this]
  ·rfl
theorem bindC_out {kindOf:Str→Option NameKind} {x:Str}:∀ {binds:List (Str × Value)} {m:Str→Option Value},(∀ v,(x,v) ∉ binds)→bindC kindOf binds m x = m x
 | [],_,_=>rfl
 | (n,v) :: r,m,h=>by
  unfold bindC
  rw [bindC_out fun w hw=>h w (List.mem_cons_of_mem _ hw)]
  split
  ·rfl
  ·have:x ≠ n:=by rintro rfl; exact h v List.mem_cons_self
   simp [this]
theorem bindL_get {kindOf:Str→Option NameKind} {x:Str} {v:Value}:∀ {P:List Str} {vs:List Value} {i:Nat} {m:Str→Option Value},P.Nodup→P[i]? = some x→vs[i]? = some v→kindOf x = some .local →
  bindL kindOf (P.zip vs) m x = some v
 | [],_,_,_,_,h,_,_=>by simp at h
 | _ :: _,[],_,_,_,_,h,_=>by simp at h
 | p :: P,w :: vs,0,m,nd,h1,h2,hk=>by
  simp at h1 h2; subst h1; subst h2
  show bindL kindOf ((p,w) :: P.zip vs) m p = _
  unfold bindL
  rw [bindL_out fun v hv=>(List.nodup_cons.mp nd).1 (List.of_mem_zip hv).1,if_pos hk]
  simp
 | p :: P,w :: vs,i + 1,m,nd,h1,h2,hk=>by
  show bindL kindOf ((p,w) :: P.zip vs) m x = _
  unfold bindL
  exact bindL_get (i:=i) (List.nodup_cons.mp nd).2 (by simpa using h1) (by simpa using h2) hk
theorem bindC_get {kindOf:Str→Option NameKind} {x:Str} {v:Value}:∀ {P:List Str} {vs:List Value} {i:Nat} {m:Str→Option Value},P.Nodup→P[i]? = some x→vs[i]? = some v→kindOf x ≠ some .local →
  bindC kindOf (P.zip vs) m x = some v
 | [],_,_,_,_,h,_,_=>by simp at h
 | _ :: _,[],_,_,_,_,h,_=>by simp at h
 | p :: P,w :: vs,0,m,nd,h1,h2,hk=>by
  simp at h1 h2; subst h1; subst h2
  show bindC kindOf ((p,w) :: P.zip vs) m p = _
  unfold bindC
  rw [bindC_out fun v hv=>(List.nodup_cons.mp nd).1 (List.of_mem_zip hv).1,if_neg hk]
  simp
 | p :: P,w :: vs,i + 1,m,nd,h1,h2,hk=>by
  show bindC kindOf ((p,w) :: P.zip vs) m x = _
  unfold bindC
  exact bindC_get (i:=i) (List.nodup_cons.mp nd).2 (by simpa using h1) (by simpa using h2) hk
def start (N:List Str) (vs:List V):St:=vs.map some ++ List.replicate (N.length - vs.length) none
def cxOf (CX:CXT) (P:Program) (w:World) (K:PySem.W.Frag) (mg:Str→Option Value) (base:Heap) (N:List Str) (qual:Str) (scope:Scope) (f:Addr) (cd:Value) (A:Around) (outer:List Env) (s:Shared) (H:Hp) (E:XK):Cx where
 prog:=P
 w:=w
 K:=K
 mg:=mg
 base:=base
 A:=A.deeper (envOfC qual scope s.heap.objs.size f cd)
 N:=N
 s₀:=s
 H₀:=H
 env:=envOfC qual scope s.heap.objs.size f cd
 outer:=outer
 stack:=envOfC qual scope s.heap.objs.size f cd :: outer
 ex:=[]
 calm:=true
 fn:=fun _=>true
 pn:=[]
 xe:=fun e s'=>wpAny (model P w) (A.deeper (envOfC qual scope s.heap.objs.size f cd)) (leaving (envOfC qual scope s.heap.objs.size f cd) e) (fun _ s''=>CX outer H s E e s'') (fun e' s''=>CX outer H s E e' s'') s'
theorem cell_has {sc:Scope} {n:Nat} {x:Str} (h:sc.names.lookup x = some .cell):∃ c,(cellsFrom n sc.names []).lookup x = some c:=by
 have q:=PySem.W.cellsFrom_some sc.names n [] (.inl h)
 exact Option.isSome_iff_exists.mp q
theorem inv_start {CX:CXT} {P:Program} {w:World} {K:PySem.W.Frag} {mg:Str→Option Value} {base:Heap} {N ps:List Str} {qual:Str} {scope:Scope} {f:Addr} {cd:Value} {A:Around} {outer:List Env} {s s1:Shared} {H:Hp} {E:XK} {us:List Value} {vs:List V}
  (S:FnScope N ps scope) (hd:A.handled = none) (e0:Env0 P w K mg base A outer s H) (hl:vs.length = ps.length) (r:Vals vs us)
  (x:InCallC s s.heap.objs.size (bindL (envOfC qual scope s.heap.objs.size f cd).kindOf (ps.zip us) fun _=>none) (cellsFrom (s.heap.objs.size + 1) scope.names []) (bindC (envOfC qual scope s.heap.objs.size f cd).kindOf (ps.zip us) fun _=>none) s1) :
  Inv (cxOf CX P w K mg base N qual scope f cd A outer s H E) [] (start N vs) H s1:=by
 have hpl:ps.length≤N.length:=by have:=congrArg List.length S.pre; rw [List.length_take] at this; omega
 obtain ⟨h1,tk,rfl,hk⟩:=x.done
 have noA:∀ b:Addr,b ∉ (cxOf CX P w K mg base N qual scope f cd A outer s H E).ex:=fun b z=>absurd (show b ∈ ([]:List Addr) from z) (by simp)
 refine ⟨⟨e0.mod,S.kind,rfl,rfl,Nat.le_refl _,fun y z c h1 h2=>?_,fun y hy=>?_,fun y c _ h=>?_,fun _=>hd,Around.frames_deeper e0.frames,.inr ⟨rfl,rfl⟩,fun b z=>absurd z (noA b),e0.bs,e0.bsz,fun b _ _=>noA b,fun b z=>absurd z (noA b),e0.funs,e0.frf⟩,
  rfl,e0.bare,Un.kept hk,⟨_,x.toInCall.ns,fun i y v h1 h2 h3=>?_⟩,fun y c h=>⟨_,x.cell y c h⟩,e0.hok.fresh (Nat.le_refl _),fun y c h=>?_,fun p hp=>absurd (show p ∈ ([]:List (Addr × Obj)) from hp) (by simp),e0.hok.kept hk,?_⟩
 ·exact name_of_addr x.apart (PySem.mem_of_lookup h1) (PySem.mem_of_lookup h2)
 ·have hy:scope.names.lookup y = some .cell∨scope.names.lookup y = some .free:=hy
  rcases hy with hy | hy
  ·exact cell_has hy
  ·exact absurd rfl (S.nofree _ (PySem.mem_of_lookup hy))
 ·exact Nat.le_of_lt (x.above y c (PySem.mem_of_lookup h))
 ·have hi:i < vs.length:=by
   unfold start at h2
   by_cases hi:i < vs.length
   ·exact hi
   ·rw [List.getElem?_append_right (by simpa using hi)] at h2
    rw [List.getElem?_replicate] at h2
    split at h2 <;> cases h2
  have ha:vs[i]? = some v:=by
   unfold start at h2
   rw [List.getElem?_append_left (by simpa using hi),List.getElem?_map] at h2
   cases e:vs[i]? with
   | none=>rw [e] at h2; cases h2
   | some a=>rw [e] at h2; cases h2; rfl
  obtain ⟨u,hu,rv⟩:=r.get ha
  have hp:ps[i]? = some y:=by
   rw [← S.pre,List.getElem?_take_of_lt (by omega)]; exact h1
  have ndP:ps.Nodup:=by rw [← S.pre]; exact S.nd.sublist (List.take_sublist _ _)
  refine ⟨u,rv,?_⟩
  rcases S.par y (List.mem_of_getElem? hp) with k | k
  ·exact .inl ⟨k,bindL_get ndP hp hu k⟩
  ·obtain ⟨c,e⟩:=cell_has (n:=s.heap.objs.size + 1) k
   refine .inr ⟨.inl k,c,e,?_⟩
   have q:=x.cell y c e
   rw [bindC_get ndP hp hu (by show scope.names.lookup y ≠ _; rw [k]; decide)] at q
   exact q
 ·exact e0.hok.fresh (Nat.le_of_lt (x.above y c (PySem.mem_of_lookup h)))
 ·unfold start
  show _ = N.length
  rw [List.length_append,List.length_map,List.length_replicate]
  omega
theorem fn_of {CX:CXT} {P:Program} {w:World} {K:PySem.W.Frag} {mg:Str→Option Value} {base:Heap} {k:Nat} {f:Addr} {name qual:Str} {params:Arguments} {body:List Stmt} {scope:Scope} {dV kV doc pm cdv ct oc:Value} {an od:Option Addr}
  {osl:Array (Option Value)} {N ps:List Str} {sp:Sp} (lk:K.lookup f = some ⟨oc,od,.func (PySem.W.fnOf name qual params body scope dV kV doc pm an cdv ct),osl⟩) (hcd:PySem.W.codeIn K cdv qual = true) (S:FnScope N ps scope)
  (len:∀ vs H Q E,sp vs H Q E→vs.length = ps.length)
  (hbody:∀ (A:Around) (outer:List Env) (s:Shared) (H:Hp) (vs:List V) (Q:VK) (E:XK),Room k (A.deeper (envOfC qual scope s.heap.objs.size f cdv))→sp vs H Q E →
   ∃ t,PSs (cxOf CX P w K mg base N qual scope f cdv A outer s H E) body t∧t { nx:=fun _ H'=>Q .non H',rt:=Q } (start N vs) H) :
  FnOk P w K mg base CX (k + 1) f (PySem.W.fnOf name qual params body scope dV kV doc pm an cdv ct) ps sp:=by
 refine ⟨len,fun A outer s H args us vs Q E hr e0 hb r hsp=>?_⟩
 have hl:=len _ _ _ _ hsp
 have KX:K.In s.heap:=e0.mod.kin.keeps fun b o e=>(e0.bs b o e).1
 have lim:s.heap.NoLimit:=e0.mod.nolimit.keeps fun b o e=>(e0.bs b o e).1
 have hkind:∀ y ∈ ps.zip us,scope.names.lookup y.1 = some .local∨(scope.names.lookup y.1 = some .cell∧((cellsFrom (s.heap.objs.size + 1) scope.names []).lookup y.1).isSome = true):=fun ⟨n,v⟩ hy=>by
  rcases S.par n (List.of_mem_zip hy).1 with q | q
  ·exact .inl q
  ·exact .inr ⟨q,PySem.W.cellsFrom_some _ _ _ (.inl q)⟩
 refine codeAny_call_function hr.depth (KX _ _ lk) rfl S.co S.gen rfl (PySem.W.codeRec_of KX hcd) (hb _ _ _ _ ?_)
 refine wpAny_newFunctionEnv_cells S.kind hkind fun env he s1 x=>?_
 subst he
 refine ⟨lim.keeps x.toInCall.keep,codeAny_func ?_⟩
 obtain ⟨t,ht,hq⟩:=hbody A outer s H vs Q E (hr.deeper _) hsp
 have I:Inv (cxOf CX P w K mg base N qual scope f cdv A outer s H E) [] (start N vs) H s1:=inv_start S hr.hd e0 hl r x
 refine wpAny_mono (ht [] s1 (start N vs) H _ I hq) (fun fl s' hs=>?_) fun e s' hs=>hs
 have fin:∀ {σ':St} {H':Hp} {v:V} {u:Value},Inv (cxOf CX P w K mg base N qual scope f cdv A outer s H E) [] σ' H' s'→RelV v u→Q v H'→CE outer P w H s Q u s' :=
  fun {σ' H' v u} J rv q=>⟨v,H',J.os,J.bare,J.base,J.hok,rv,q⟩
 cases fl with
 | ret u =>
  obtain ⟨v,σ',H',J,rv,q⟩:=hs
  exact fin J rv q
 | next =>
  obtain ⟨σ',H',J,q⟩:=hs
  exact fin (v:=V.non) (u:=Value.none) J rfl q
 | brk =>
  obtain ⟨_,_,_,q⟩:=hs
  exact False.elim q
 | cont =>
  obtain ⟨_,_,_,q⟩:=hs
  exact False.elim q
end L2
namespace L2
open PySem PySem.Spec PyProof.Rows
section
variable {X:Cx} {x:Str} {p pos:Pos} {e:Expr} {es:List Expr} {t:TA} {id T:String} {r:List V→Hp→VK→Prop}
def tCB (r:List V→Hp→VK→Prop) (t:TA):TE:=fun σ H Q=>t σ H fun vs H1=>r vs H1 Q
theorem pe_callB (hc:CallR X (.builtin id) r) (hg:Gl X x) (hm:X.mg x = none) (hv:bootBuiltins x = some (.builtin id)) (ha:PA X (e :: es) t) (hn:x ≠ "__name__":=by decide) (hdb:(x == ("__debug__":Str)) = false:=by decide)
  (he:starEach (e :: es) X.env = (false,eval e X.env) :: starEach es X.env:=by rfl) (hpl:(backTo pos (starEach es X.env)).any (·.1) = false:=by rfl):PE X (.Call (.Name x p) (e :: es) [] pos) (tCB r t):=by
 intro pins s σ H Q I h
 refine wpAny_Call_Name_kw (ld_blt I hg hm hv ?_ hn hdb)
 exact PyProof.Rows.callWith_builtin1 (thn (ha pos pins s σ H _ I h) fun us s1 ⟨vs,H1,I1,r1,q1⟩=>hc pins s1 σ H1 vs us Q I1 r1 q1) he hpl
theorem pe_callTy (hc:CallR X (.type T) r) (hg:Gl X x) (hm:X.mg x = none) (hv:bootBuiltins x = some (.type T)) (ha:PA X (e :: es) t) (hn:x ≠ "__name__":=by decide) (hdb:(x == ("__debug__":Str)) = false:=by decide)
  (he:starEach (e :: es) X.env = (false,eval e X.env) :: starEach es X.env:=by rfl) (hpl:(backTo pos (starEach es X.env)).any (·.1) = false:=by rfl):PE X (.Call (.Name x p) (e :: es) [] pos) (tCB r t):=by
 intro pins s σ H Q I h
 refine wpAny_Call_Name_kw (ld_blt I hg hm hv ?_ hn hdb)
 exact PyProof.Rows.callWith_type1 (thn (ha pos pins s σ H _ I h) fun us s1 ⟨vs,H1,I1,r1,q1⟩=>hc pins s1 σ H1 vs us Q I1 r1 q1) he hpl
end
end L2
namespace HT
open PySem PyProof.Rows
section
open PySem.SeqAt
open PySem.AutoSeq1 (wpAny_loadPart')
open PySem.MeetsSeq PySem.MeetsSeq2 PySem.MeetsSeq3
end
section
variable {prog:Program} {w:World} {A:Around} {E:Value→Shared→Prop} {s:Shared}
end
end HT
namespace L2
open PySem PySem.Spec PyProof.Rows
abbrev TO:=St→Hp→(Option Int→Hp→Prop)→Prop
def PO (X:Cx) (e:Option Expr) (t:TO):Prop :=
 ∀ (pins:List (Addr × Obj)) (s:Shared) (σ:St) (H:Hp) (Q:Option Int→Hp→Prop),Inv X pins σ H s→t σ H Q →
  wpAny (model X.prog X.w) X.A (evalPart e X.env) (fun u s'=>∃ o H',Inv X pins σ H' s'∧IsPart u o∧Q o H') X.xe s
def tNoPart:TO:=fun _ H Q=>Q none H
def tPart (t:TE):TO:=fun σ H Q=>t σ H fun x H1=>∃ i,x = .int i∧Q (some i) H1
section
variable {X:Cx} {e:Expr} {te:TE} {lo hi:Option Expr} {tl th:TO} {pos p2:Pos}
theorem po_none:PO X none tNoPart:=by
 intro pins s σ H Q I h
 rw [evalPart_none]
 exact wpAny_pure ⟨none,H,I,.none,h⟩
theorem po_some (h:PE X e te):PO X (some e) (tPart te):=by
 intro pins s σ H Q I hw
 rw [evalPart_some]
 refine thn (h pins s σ H _ I hw) fun u s1 ⟨x,H1,I1,r1,q1⟩=>?_
 obtain ⟨i,rfl,q⟩:=q1
 obtain ⟨t,rfl⟩:=r1
 exact ⟨some i,H1,I1,.int i t,q⟩
def SlR (X:Cx) (r:V→Option Int→Option Int→Hp→VK→Prop):Prop :=
 ∀ (pins:List (Addr × Obj)) (s:Shared) (σ:St) (H:Hp) (x:V) (v vl vu:Value) (lo hi:Option Int) (sl:Addr) (Q:VK),Inv X pins σ H s→RelV x v→s.heap.IsSliceOf sl vl vu .none→IsPart vl lo→IsPart vu hi→r x lo hi H Q →
  ∃ T id,typeLookup (.type T) "__getitem__" = pure (some (.builtin id))∧s.TypeIs v T∧wpAny (model X.prog X.w) X.A (getItem v (.ref sl)) (EP X pins σ Q) X.xe s
def tSl (r:V→Option Int→Option Int→Hp→VK→Prop) (te:TE) (tl th:TO):TE:=fun σ H Q=>te σ H fun x H1=>tl σ H1 fun l H2=>th σ H2 fun u H3=>r x l u H3 Q
theorem pe_slice {r:V→Option Int→Option Int→Hp→VK→Prop} (hr:SlR X r) (he:PE X e te) (hl:PO X lo tl) (hu:PO X hi th):PE X (.Subscript e (.Slice lo hi none p2) pos) (tSl r te tl th):=by
 intro pins s σ H Q I h
 refine Subscript_ (thn (he pins s σ H _ I h) fun v s1 ⟨x,H1,I1,r1,q1⟩=>?_)
 refine wpAny_Slice (thn (hl pins s1 σ H1 _ I1 q1) fun vl s2 ⟨l,H2,I2,pl,q2⟩=>thn (hu pins s2 σ H2 _ I2 q2) fun vu s3 ⟨u,H3,I3,pu,q3⟩=>?_)
 rw [evalPart_none]
 refine wpAny_pure ?_
 have I4:Inv X pins σ H3 { s3 with heap:=s3.heap.push { cls:=.type "slice",data:=.fields #[vl,vu,.none] } }:=I3.kept (t':=s3.toks) fun b ob q=>Heap.get?_push_of_some _ q
 obtain ⟨T,id,hT,ht,hg⟩:=hr pins { s3 with heap:=s3.heap.push { cls:=.type "slice",data:=.fields #[vl,vu,.none] } } σ H3 x v vl vu l u s3.heap.objs.size Q I4 r1 (Heap.IsSliceOf.new ..) pl pu q3
 show wpAny (model X.prog X.w) X.A (subscriptTail e (.Slice lo hi none p2) v (.ref s3.heap.objs.size)) (EP X pins σ Q) X.xe { s3 with heap:=s3.heap.push { cls:=.type "slice",data:=.fields #[vl,vu,.none] } }
 exact tail_any (ops:=[.ref s3.heap.objs.size,v]) ht hT hg (by with_unfolding_all rfl)
end
end L2
namespace L2
open PySem PySem.Spec PyProof.Rows
def ixN (n:Nat) (i:Int):Option Nat:=if 0≤i then (if i < n then some i.toNat else none) else if -(n:Int)≤i then some (i + n).toNat else none
def atI {α:Type} (xs:List α) (i:Int):Option α:=(ixN xs.length i).bind fun j=>xs[j]?
theorem ixN_seq {n:Nat} {i:Int} {j:Nat} (h:ixN n i = some j):seqIndex? i n = some j∧j < n∧-(n:Int)≤i∧i < n:=by
 unfold ixN at h
 by_cases h0:0≤i
 ·rw [if_pos h0] at h
  by_cases h1:i < n
  ·rw [if_pos h1] at h
   have e:i.toNat = j:=Option.some.inj h
   exact ⟨by rw [seqIndex_of h0 h1,e],by omega,by omega,h1⟩
  ·rw [if_neg h1] at h; cases h
 ·rw [if_neg h0] at h
  by_cases h1:-(n:Int)≤i
  ·rw [if_pos h1] at h
   have e:(i + n).toNat = j:=Option.some.inj h
   exact ⟨by rw [seqIndex_neg (by omega) h1,e],by omega,h1,by omega⟩
  ·rw [if_neg h1] at h; cases h
theorem atI_get {α:Type} {xs:List α} {i:Int} {v:α} (h:atI xs i = some v):∃ j,seqIndex? i xs.length = some j∧xs[j]? = some v∧j < xs.length∧-(xs.length:Int)≤i∧i < xs.length:=by
 unfold atI at h
 cases e:ixN xs.length i with
 | none=>rw [e] at h; cases h
 | some j =>
  rw [e] at h
  obtain ⟨h1,h2,h3,h4⟩:=ixN_seq e
  exact ⟨j,h1,h,h2,h3,h4⟩
theorem atI_nat {α:Type} {xs:List α} {j:Nat} {v:α} (h:xs[j]? = some v):atI xs (j:Int) = some v:=by
 have hj:j < xs.length:=(List.getElem?_eq_some_iff.mp h).1
 have e:ixN xs.length (j:Int) = some j:=by
  unfold ixN
  rw [if_pos (by omega),if_pos (by omega)]; simp
 unfold atI; rw [e]; exact h
def PlainIx (b:Expr):Prop:=∀ o i,subscripted b false o i = operate [o,i] (getItem o i)
def IxR (X:Cx) (r:R2):Prop :=
 ∀ (value slice:Expr) (pins:List (Addr × Obj)) (s:Shared) (σ:St) (H:Hp) (x y:V) (v u:Value) (Q:VK),Inv X pins σ H s→RelV x v→RelV y u→r x y H Q →
  subscripted slice false v u = operate [v,u] (getItem v u)→wpAny (model X.prog X.w) X.A (subscriptTail value slice v u) (EP X pins σ Q) X.xe s
def MtR (X:Cx) (id:String) (r:V→List V→Hp→VK→Prop):Prop :=
 ∀ (pins:List (Addr × Obj)) (s:Shared) (σ:St) (H:Hp) (x:V) (xs:List V) (v:Value) (us:List Value) (Q:VK),Inv X pins σ H s→RelV x v→Vals xs us→r x xs H Q →
  wpAny (model X.prog X.w) X.A (call (.builtin id) (v :: us)) (EP X pins σ Q) X.xe s
section
variable {X:Cx} {a b:Expr} {ta tb:TE} {pos:Pos}
theorem pe_ix {r:R2} (hr:IxR X r) (ha:PE X a ta) (hb:PE X b tb) (hs:PlainIx b):PE X (.Subscript a b pos) (tOp r ta tb):=by
 intro pins s σ H Q I h
 exact Subscript_ (binT ha hb I h fun v u s2 x y H2 I2 rx ry q=>hr a b pins s2 σ H2 x y v u Q I2 rx ry q (hs _ _))
def rIxL (K:PySem.W.Frag):R2:=fun x y H Q=>∃ p xs i v,x = .ref p∧y = .int i∧SqL K H p xs∧atI xs i = some v∧Q v H
def rIxT (K:PySem.W.Frag):R2:=fun x y H Q=>∃ p xs i v,x = .ref p∧y = .int i∧SqT K H p xs∧atI xs i = some v∧Q v H
def rIxS:R2:=fun x y H Q=>∃ z i c,x = .str z∧y = .int i∧z.length≤sizeLine∧atI z.cps.toList i = some c∧Q (.str ⟨#[c]⟩) H
theorem ix_list:IxR X (rIxL X.K):=by
 intro value slice pins s σ H x y v u Q I rx ry h hs
 obtain ⟨p,xs,i,z,rfl,rfl,hq,he,q⟩:=h
 cases rx
 obtain ⟨t,rfl⟩:=ry
 obtain ⟨its,r,pl,hz⟩:=I.list hq
 obtain ⟨j,h1,h2,h3,h4,h5⟩:=atI_get he
 obtain ⟨w,ew,rw'⟩:=r.get h2
 have hl:=r.length
 have hn:=line63
 have fin:EP X pins σ Q w s:=⟨z,H,I,rw',q⟩
 by_cases h0:0≤i
 ·have hj:i.toNat = j:=by
   rw [seqIndex_of h0 h5] at h1
   exact Option.some.inj h1
  exact item_listR pl.isList h0 (by omega) (by rw [hj]; simpa using ew) fin hs
 ·have hj:(i + (its.toArray.size:Int)).toNat = j:=by
   rw [seqIndex_neg (by omega) h4] at h1
   rw [List.size_toArray,← hl]
   exact Option.some.inj h1
  exact subscriptTail_builtinR (x:=w) pl.isList.typeIs slot_list_getitem.lookup
   (wpAny_getItem_list_neg (Q:=fun r s'=>r = w∧EP X pins σ Q r s') pl.isList (by omega) (by rw [List.size_toArray] <;> omega) (by omega) (by rw [hj]; simpa using ew) ⟨rfl,fin⟩) hs
theorem ix_tup:IxR X (rIxT X.K):=by
 intro value slice pins s σ H x y v u Q I rx ry h hs
 obtain ⟨p,xs,i,z,rfl,rfl,hq,he,q⟩:=h
 cases rx
 obtain ⟨t,rfl⟩:=ry
 obtain ⟨its,r,pl,hz⟩:=I.tuple hq
 obtain ⟨j,h1,h2,h3,h4,h5⟩:=atI_get he
 obtain ⟨w,ew,rw'⟩:=r.get h2
 have hl:=r.length
 have hn:=line63
 have fin:EP X pins σ Q w s:=⟨z,H,I,rw',q⟩
 exact subscriptTail_builtinR (x:=w) pl.typeIs slot_tuple_getitem.lookup
  (getItem_tuple (j:=j) (Q:=fun r s'=>r = w∧EP X pins σ Q r s') pl (by omega) (by omega) (by rw [List.size_toArray,← hl]; exact h1) (by simpa using ew) ⟨rfl,fin⟩) hs
theorem ix_str:IxR X rIxS:=by
 intro value slice pins s σ H x y v u Q I rx ry h hs
 obtain ⟨z,i,c,rfl,rfl,hz,he,q⟩:=h
 obtain ⟨t,rfl⟩:=rx
 obtain ⟨t',rfl⟩:=ry
 obtain ⟨j,h1,h2,h3,h4,h5⟩:=atI_get he
 have hl:z.cps.toList.length = z.length:=by simp [Str.length]
 rw [hl] at h1 h4 h5
 have hn:=line63
 exact tail_any (typeIs_str s z t) slot_str_getitem.lookup (getItem_str (c:=c) (by
  have e1:decide (i < -(2 ^ 63:Int)) = false:=decide_eq_false (by omega)
  have e2:decide (i ≥ 2 ^ 63) = false:=decide_eq_false (by omega)
  rw [e1,e2,Bool.or_false]) (by rw [h1]; simpa using h2) ⟨.str ⟨#[c]⟩,H,I.tok _,⟨_,rfl⟩,q⟩) hs
theorem mapSeq_set (its:List Value) (n j:Nat) (u:Value):Obj.mapSeq (·.setIfInBounds j u) { cls:=.type "list",data:=.seq its.toArray n } = { cls:=.type "list",data:=.seq (its.set j u).toArray n }:=by
 simp [Obj.mapSeq]
theorem Inv.lst {pins:List (Addr × Obj)} {σ:St} {H:Hp} {s:Shared} {p:Addr} {xs:List V} (I:Inv X pins σ H s) (h:H p = some (.lst xs)) :
  ∃ (its:List Value) (n:Nat),Vals xs its∧s.heap.get? p = some { cls:=.type "list",data:=.seq its.toArray n }∧xs.length≤sizeLine:=by
 obtain ⟨z,its,n,r,e⟩:=I.hok p _ h
 exact ⟨its,n,r,e,z⟩
theorem Inv.lstUpd {pins:List (Addr × Obj)} {σ:St} {H:Hp} {s:Shared} {p:Addr} {xs ys:List V} {its its':List Value} {n n':Nat} {f:Obj→Obj} (I:Inv X pins σ H s) (h:H p = some (.lst xs))
  (ho:s.heap.get? p = some { cls:=.type "list",data:=.seq its.toArray n }) (hf:f { cls:=.type "list",data:=.seq its.toArray n } = { cls:=.type "list",data:=.seq its'.toArray n' }) (r:Vals ys its') (hz:ys.length≤sizeLine) (t:Nat) :
  Inv X pins σ (upd H p (.lst ys)) { s with heap:=s.heap.update p f,toks:=t }:=by
 have e:(s.heap.update p f).get? p = some { cls:=.type "list",data:=.seq its'.toArray n' }:=by
  rw [Heap.get?_update_self f ho (by rw [hf] <;> rfl),hf]
 refine I.write (x:=p) (e:=p) (by rw [h]; trivial) (.inl rfl) (fun b u hb q=>(Heap.get?_update_other _ _ (Ne.symm hb)).trans q) ⟨_,e⟩ ?_
 exact ⟨hz,its',n',r,e⟩
def rSetL:V→V→V→Hp→(Hp→Prop)→Prop:=fun o i v H Q=>∃ p xs k j,o = .ref p∧i = .int k∧H p = some (.lst xs)∧ixN xs.length k = some j∧Q (upd H p (.lst (xs.set j v)))
theorem set_list:PSet X rSetL:=by
 intro pins s σ H o i v ov iv u Q I ro ri rv h
 obtain ⟨p,xs,k,j,rfl,rfl,hp,hj,q⟩:=h
 cases ro
 obtain ⟨t,rfl⟩:=ri
 obtain ⟨its,n,r,ho,hz⟩:=I.lst hp
 obtain ⟨h1,h2,h3,h4⟩:=ixN_seq hj
 have hl:=r.length
 have hn:=line63
 have I':Inv X pins σ (upd H p (.lst (xs.set j v))) { s with heap:=s.heap.update p (Obj.mapSeq (·.setIfInBounds j u)) } :=
  I.lstUpd hp ho (mapSeq_set its n j u) (r.set rv j) (by rw [List.length_set]; exact hz) s.toks
 by_cases h0:0≤k
 ·have hk:k.toNat = j:=by
   rw [seqIndex_of h0 h4] at h1
   exact Option.some.inj h1
  exact PySem.W.ki_setAt ho h0 (by omega) (by rw [List.size_toArray,← hl]; exact h4) (by rw [hk]; exact ⟨_,I',q⟩)
 ·have hk:(k + (its.toArray.size:Int)).toNat = j:=by
   rw [seqIndex_neg (by omega) h3] at h1
   rw [List.size_toArray,← hl]
   exact Option.some.inj h1
  exact PySem.W.ki_setBack ho (by omega) (by rw [List.size_toArray,← hl]; exact h3) (by omega) (by rw [hk]; exact ⟨_,I',q⟩)
def flatV:V→Bool
 | .non=>true
 | .bl _=>true
 | .int _=>true
 | .str _=>true
 | _=>false
def eqV:V→V→Bool
 | .non,.non=>true
 | .bl a,.bl b=>a == b
 | .bl a,.int b=>(if a then 1 else 0) == b
 | .int a,.bl b=>a == (if b then 1 else 0)
 | .int a,.int b=>a == b
 | .str a,.str b=>a == b
 | _,_=>false
theorem eqAt_V {A:Around} {s:Shared} {y x:V} {u v:Value} (ry:RelV y u) (rx:RelV x v) (fy:flatV y = true) (fx:flatV x = true):SeqAt.EqAt A s u v (eqV y x):=by
 cases y with
 | non =>
  cases ry
  cases x with
  | non=>cases rx; exact SeqAt.EqAt.same _
  | bl b=>cases rx; exact SeqAt.EqAt.none_bool b
  | int b=>obtain ⟨t,rfl⟩:=rx; exact SeqAt.EqAt.none_int b t
  | str b=>obtain ⟨t,rfl⟩:=rx; exact SeqAt.EqAt.none_str b t
  | _=>exact absurd (show false = true from fx) Bool.false_ne_true
 | bl a =>
  cases ry
  cases x with
  | non=>cases rx; exact SeqAt.EqAt.bool_none a
  | bl b=>cases rx; exact SeqAt.EqAt.bool_bool a b
  | int b=>obtain ⟨t,rfl⟩:=rx; exact SeqAt.EqAt.bool_int a b t
  | str b=>obtain ⟨t,rfl⟩:=rx; exact SeqAt.EqAt.bool_str a b t
  | _=>exact absurd (show false = true from fx) Bool.false_ne_true
 | int a =>
  obtain ⟨t',rfl⟩:=ry
  cases x with
  | non=>cases rx; exact SeqAt.EqAt.int_none a t'
  | bl b=>cases rx; exact SeqAt.EqAt.int_bool a t' b
  | int b=>obtain ⟨t,rfl⟩:=rx; exact SeqAt.EqAt.int_int a t' b t
  | str b=>obtain ⟨t,rfl⟩:=rx; exact SeqAt.EqAt.int_str a t' b t
  | _=>exact absurd (show false = true from fx) Bool.false_ne_true
 | str a =>
  obtain ⟨t',rfl⟩:=ry
  cases x with
  | non=>cases rx; exact SeqAt.EqAt.str_none a t'
  | bl b=>cases rx; exact SeqAt.EqAt.str_bool a t' b
  | int b=>obtain ⟨t,rfl⟩:=rx; exact SeqAt.EqAt.str_int a t' b t
  | str b=>obtain ⟨t,rfl⟩:=rx; exact SeqAt.EqAt.str_str a t' b t
  | _=>exact absurd (show false = true from fx) Bool.false_ne_true
 | _=>exact absurd (show false = true from fy) Bool.false_ne_true
theorem call_len_seq:CallR X (.builtin "len") (fun xs H Q=>∃ p ys,xs = [.ref p]∧(SqL X.K H p ys∨SqT X.K H p ys)∧Q (.int ys.length) H):=by
 intro pins s σ H xs us Q I r h
 obtain ⟨p,ys,rfl,hq,q⟩:=h
 obtain ⟨u,rfl,rx⟩:=vals1 r
 cases rx
 have hn:=line63
 rcases hq with hq | hq
 ·obtain ⟨its,r',pl,hz⟩:=I.list hq
  have hlen:=r'.length
  exact Calls.call_len_list pl.isList (by simp only [List.size_toArray] <;> omega) ⟨.int ys.length,H,I.tok _,⟨s.toks + 1,by rw [List.size_toArray,hlen]⟩,q⟩
 ·obtain ⟨its,r',pl,hz⟩:=I.tuple hq
  have hlen:=r'.length
  exact len_tuple pl (by simp only [List.size_toArray] <;> omega) ⟨.int ys.length,H,I.tok _,⟨s.toks + 1,by rw [List.size_toArray,hlen]⟩,q⟩
theorem call_len_str:CallR X (.builtin "len") (fun xs H Q=>∃ z,xs = [.str z]∧z.length≤sizeLine∧Q (.int z.length) H):=by
 intro pins s σ H xs us Q I r h
 obtain ⟨z,rfl,hz,q⟩:=h
 obtain ⟨u,rfl,t,rfl⟩:=vals1 r
 have hn:=line63
 exact len_str (by omega) ⟨.int z.length,H,I.tok _,⟨_,rfl⟩,q⟩
def tyV (K:PySem.W.Frag) (T:String) (x:V) (H:Hp):Prop:=match x with
 | .str _=>T = "str"
 | .int _=>T = "int"
 | .ref p=>(T = "list"∧∃ xs,SqL K H p xs)∨(T = "tuple"∧∃ o,K.lookup p = some o∧o.cls = .type "tuple"∧o.dict = none) ∨
   (T = "dict"∧((∃ kvs,H p = some (.dK kvs))∨∃ kvs,H p = some (.dT kvs)))∨(T = "set"∧∃ S n,H p = some (.set S n))
 | _=>False
theorem tyV_is {pins:List (Addr × Obj)} {σ:St} {H:Hp} {s:Shared} {T:String} {x:V} {v:Value} (I:Inv X pins σ H s) (r:RelV x v) (ty:tyV X.K T x H) :
  s.TypeIs v T∧∀ a,v = .ref a→∃ ob,s.heap.get? a = some ob∧ob.dict = none:=by
 cases x with
 | str z =>
  obtain ⟨t,rfl⟩:=r
  cases (show T = "str" from ty)
  exact ⟨typeIs_str s z t,fun _ e=>nomatch e⟩
 | int i =>
  obtain ⟨t,rfl⟩:=r
  cases (show T = "int" from ty)
  exact ⟨typeIs_int s i t,fun _ e=>nomatch e⟩
 | ref p =>
  cases r
  rcases ty with ⟨rfl,xs,hq⟩ | ⟨rfl,o,hk,hc,hd⟩ | ⟨rfl,hk⟩ | ⟨rfl,S,n,hk⟩
  ·obtain ⟨its,_,pl,_⟩:=I.list hq
   refine ⟨pl.isList.typeIs,fun a e=>?_⟩
   cases e
   obtain ⟨o,n,e,c,hd,_⟩:=pl
   exact ⟨o,e,hd⟩
  ·refine ⟨⟨o,I.kIn p o hk,hc⟩,fun a e=>?_⟩
   cases e
   exact ⟨o,I.kIn _ o hk,hd⟩
  ·have z:∃ o,s.heap.get? p = some o∧o.ExactDict:=by
    rcases hk with ⟨kvs,hk⟩ | ⟨kvs,hk⟩
    ·obtain ⟨_,_,_,_,o,_,_,e,ex,_⟩:=I.hok p _ hk
     exact ⟨o,e,ex⟩
    ·obtain ⟨_,_,_,_,o,_,_,e,ex,_⟩:=I.hok p _ hk
     exact ⟨o,e,ex⟩
   obtain ⟨o,e,ex⟩:=z
   refine ⟨⟨o,e,ex.1⟩,fun a e2=>?_⟩
   cases e2
   exact ⟨o,e,ex.2.1⟩
  ·obtain ⟨o,_,_,_,e,ex,_⟩:=I.hok p _ hk
   refine ⟨⟨o,e,ex.1⟩,fun a e2=>?_⟩
   cases e2
   exact ⟨o,e,ex.2.1⟩
 | _=>exact False.elim ty
def tBM (K:PySem.W.Frag) (T:String) (r:V→List V→Hp→VK→Prop) (to:TE) (t:TA):TE:=fun σ H Q=>to σ H fun x H1=>tyV K T x H1∧t σ H1 fun xs H2=>r x xs H2 Q
variable {o e:Expr} {es:List Expr} {to:TE} {t:TA} {name:Str} {apos cpos:Pos} {T id:String} {r:V→List V→Hp→VK→Prop}
theorem pe_bm (pa:PlainAttrs T) (slot:Slot T name id) (hty:typeOf (.builtin id) = pure (.type "method_descriptor")) (hm:MtR X id r) (ho:PE X o to) (ha:PA X (e :: es) t)
  (hbase:attributeBase o name X.env (eval o X.env) = eval o X.env:=by rfl)
  (hfew:((backTo cpos (starEach (e :: es) X.env)).all (fun x=>!x.1) && (backToKw cpos (keywordEach [] X.env)).all (fun x=>x.1.isSome)
   && decide ((e :: es).length + ([]:List Keyword).length + (if ([]:List Keyword).isEmpty then 0 else 1) < 30)) = true:=by rfl)
  (hline:(apos.endLine == cpos.line) = true:=by rfl) (hs:starEach (e :: es) X.env = (false,eval e X.env) :: starEach es X.env:=by rfl) (hplain:(backTo cpos (starEach es X.env)).any (·.1) = false:=by rfl) :
  PE X (.Call (.Attribute o name apos) (e :: es) [] cpos) (tBM X.K T r to t):=by
 intro pins s σ H Q I h
 refine wpAny_Call_method_late hbase hfew hline rfl (thn (ho pins s σ H _ I h) fun v s1 ⟨x,H1,I1,r1,ty,q1⟩=>?_)
 obtain ⟨h1,h2⟩:=tyV_is I1 r1 ty
 refine ⟨T,id,pa,slot,hty,h1,h2,?_⟩
 have hA:=ha cpos pins s1 σ H1 _ I1 q1
 rw [hs] at hA ⊢
 refine Calls.callWith_builtin (by show (false || (backTo cpos (starEach es X.env)).any (·.1)) = false; rw [hplain] <;> rfl) (Calls.evalArgs_plain ?_)
 exact thn hA fun us s2 ⟨vs,H2,I2,r2,q2⟩=>hm pins s2 σ H2 x vs v us Q I2 r1 r2 q2
/- xs.append(e),list.index on a module's tuple .. are MtR facts of 06m -/
end
end L2
namespace L2
open PySem PySem.Spec PyProof.Rows
def MtM (X:Cx) (id:String) (r:V→List V→Hp→VK→Prop):Prop :=
 ∀ (pins:List (Addr × Obj)) (s:Shared) (σ:St) (H:Hp) (x:V) (xs:List V) (v:Value) (us:List Value) (Q:VK),Inv X pins σ H s→RelV x v→Vals xs us→r x xs H Q →
  wpAny (model X.prog X.w) X.A (call (.builtin id) (v :: us)) (EP X pins σ Q) X.xe s
theorem Vals.one:∀ {x:V} {us:List Value},Vals [x] us→∃ u,us = [u]∧RelV x u
 | _,_,.cons r .nil=>⟨_,rfl,r⟩
section
variable {X:Cx} {pins:List (Addr × Obj)} {σ:St} {H:Hp} {s:Shared} {l b:Addr} {xs ys zs:List V}
theorem Inv.lset {its its':List Value} {n:Nat} {f:Array Value→Array Value} {t':Nat} (I:Inv X pins σ H s) (hH:H l = some (.lst xs))
  (e:s.heap.get? l = some { cls:=.type "list",data:=.seq its.toArray n }) (hf:f its.toArray = its'.toArray) (hv:Vals ys its') (hz:ys.length≤sizeLine) :
  Inv X pins σ (upd H l (.lst ys)) { s with heap:=s.heap.update l (Obj.mapSeq f),toks:=t' }:=by
 have q:=PySem.IsL.update e f
 rw [hf] at q
 refine I.write (x:=l) (e:=l) (by rw [hH]; exact trivial) (.inl rfl) (fun b' u hb hu=>(Heap.get?_update_other s.heap (Obj.mapSeq f) (Ne.symm hb)).trans hu) ⟨_,q⟩ ?_
 exact ⟨hz,its',_,hv,q⟩
theorem Inv.lnew {its:List Value} {t':Nat} (I:Inv X pins σ H s) (hv:Vals ys its) (hz:ys.length≤sizeLine) :
  Inv X pins σ (upd H s.heap.objs.size (.lst ys)) { s with heap:=s.heap.push { cls:=.type "list",data:=.seq its.toArray },toks:=t' } :=
 I.laid (fun _ _ q=>Heap.get?_push_of_some _ q) (Nat.le_refl _) ⟨hz,its,0,hv,Heap.get?_push_size _ rfl⟩
theorem Inv.fresh (I:Inv X pins σ H s):H s.heap.objs.size = none:=I.hok.fresh (Nat.le_refl _)
theorem Inv.lstM (I:Inv X pins σ H s) (hH:H l = some (.lst xs)):xs.length≤sizeLine∧∃ (its:List Value) (n:Nat),Vals xs its∧xs.length = its.length∧s.heap.get? l = some { cls:=.type "list",data:=.seq its.toArray n }:=by
 obtain ⟨z,its,n,r,e⟩:=I.hok l _ hH
 exact ⟨z,its,n,r,r.length,e⟩
end
section
variable {X:Cx}
def rAppend:V→List V→Hp→VK→Prop:=fun x vs H Q=>∃ l xs y,x = .ref l∧vs = [y]∧H l = some (.lst xs)∧xs.length < sizeLine∧Q .non (upd H l (.lst (xs ++ [y])))
theorem mt_append:MtM X "list.append" rAppend:=by
 intro pins s σ H x vs v us Q I rx rv h
 obtain ⟨l,xs,y,rfl,rfl,hH,hz,q⟩:=h
 cases rx
 obtain ⟨u,rfl,ru⟩:=rv.one
 obtain ⟨z,its,n,r,hl,e⟩:=I.lstM hH
 refine call_meets F.slot_list_append ⟨_,e,rfl⟩ F.entry_list_append (F.args_list_append_2 _ _) (PySem.list_append l its.toArray n u (by rw [List.size_toArray]; omega)) ⟨e,?_⟩
 refine ⟨.non,_,I.lset (its':=its ++ [u]) hH e (by simp) (r.append (.cons ru .nil)) ?_,rfl,q⟩
 rw [List.length_append,List.length_singleton]
 omega
end
section
variable {prog:Program} {w:World} {A:Around} {E:Value→Shared→Prop} {s:Shared}
set_option maxRecDepth 100000 in
end
section
variable {X:Cx}
end
end L2
namespace Att
open PySem PySem.W PySem.Calls PyProof.Rows
theorem ints_of_wellAll {P:Params} {h:Heap}:∀ (ns:List Int) (vs:List Value),WellAll P h vs (ns.map WData.int)→IntsAre vs ns:=by
 intro ns
 induction ns with
 | nil =>
  intro vs w
  rw [List.map_nil] at w
  cases w
  exact .nil
 | cons n ns ih =>
  intro vs w
  rw [List.map_cons] at w
  cases w with
  | cons a b =>
   cases a
   exact .cons _ _ (ih _ b)
theorem script_of {l:OpenLaw} {n:Nat} (hn:l.most = some n) {P:Params} {h:Heap} {args:List WData} {vals:List Value}
  (hpre:l.row.toRowW.claim.pre args = true) (hwl:WellAll P h vals args) :
  ∃ a vs ns,vals = [Value.ref a]∧args = [WData.list (ns.map WData.int)]∧h.get? a = some { cls:=.type "list",data:=.seq vs.toArray }∧IntsAre vs ns∧ns.length≤n:=by
 have hsh:WShape.hasAll [] args [.list .int] = true:=(pre_splitW hpre).1
 have hc:l.pre.holds [] { args:=args } = true:=(pre_splitW hpre).2
 obtain ⟨d,r,rfl,h1,h2⟩:=hasAllW_cons hsh
 obtain rfl:=hasAllW_nil h2
 obtain ⟨xs,rfl,h3⟩:=hasW_list h1
 obtain ⟨ns,rfl⟩:=items_int h3
 have hlen:ns.length≤n:=by
  unfold OpenLaw.pre at hc
  have h4:(WTm.not (.lt (.lit (.int (n:Int))) (.len (.arg 0)))).holds [] { args:=[.list (ns.map .int)] } = true:=by
   have h4:=(holds_andW hc).1
   rw [hn] at h4
   exact h4
  have h5:=condW_of h4 (w_not (w_lt w_lit (w_len_list (w_arg rfl))))
  rw [List.length_map] at h5
  refine Nat.le_of_not_lt fun q=>?_
  have q':(n:Int) < ((ns.length:Nat):Int):=by omega
  first
   | (rw [decide_eq_true q'] at h5; exact absurd h5 (by decide))
   | (simp at h5; omega)
 cases hwl with
 | cons w1 w2 =>
  cases w2
  cases w1 with
  | list ho hall=>exact ⟨_,_,ns,rfl,rfl,ho,ints_of_wellAll ns _ hall,hlen⟩
theorem post_true (l:OpenLaw) (args:List WData):l.row.toRowW.claim.post args (.bool true) args = true :=
 postW_of (r:=l.row.toRowW) (X:=(true == true))
  (show WShape.has [] (.bool true) .bool = true by first | rfl | decide | simp [WShape.has,WShape.arms,WShape.armsAll])
  (show (WTm.eq .res (.lit (.bool true))).value [] { args:=args,res:=some (.bool true),after:=args } = some (.bool (true == true)) from w_eq_bool (w_res rfl) w_lit) rfl
theorem attach_call {l:OpenLaw} {n:Nat} {q:Program} {loose:List Str} {XP:(Str→Option Value)→Heap→Prop} {YP:World→Heap→Prop} {d:DefRec}
  (hn:l.most = some n) (hdf:d.params.defaults = [])
  (call:∀ (w:World) (s₀ s₁:Shared) (mg mb:Str→Option Value) (fa:Addr) (o:Obj) (pm cd doc:Value) (a:Addr) (vs:List Value) (ns:List Int),
   Ground q loose [] XP w s₀ mg mb s₁.heap→YP w s₁.heap →
   s₁.heap.get? fa = some o→o.data = .func (docDef d.name d.params d.body d.scope pm cd doc)→s₁.heap.CodeRec cd d.name→mg d.name = some (.ref fa) →
   s₁.heap.get? a = some { cls:=.type "list",data:=.seq vs.toArray }→IntsAre vs ns→ns.length≤n→s₁.gens = #[] →
   codeAny (model l.prog w) callerA (.call (.ref fa) ⟨[.ref a],[]⟩) (fun r s'=>r = .ok (.ret (.bool true))∧OldK s₁.heap s'.heap∧s'.os = s₁.os∧AllBare s'.gens) s₁) :
  WalkO q loose XP YP l.row.toRowW d [] (fun f vs=>PySem.call f vs):=by
 intro w s₀ s₁ mg mb G Y fa o pm cd doc dV kV ho hd hcd hD hmg hg args vals as hpre hlay hrd hwl hlo
 obtain rfl:dV = .none:=Dflts.none hD hdf
 obtain rfl:kV = .none:=Dflts.noKw hD
 obtain ⟨a,vs,ns,rfl,rfl,hobj,hints,hlen⟩:=script_of hn hpre hwl
 refine enter_call (codeAny_mono (call w s₀ s₁ mg mb fa o pm cd doc a vs ns G Y ho (fd_plain hd) hcd hmg hobj hints hlen hg) fun r s' hq=>?_)
 obtain ⟨rfl,h2,h3,h4⟩:=hq
 exact ⟨.inl ⟨.bool true,.bool true,[],rfl,fun _=>rfl,.bool true,post_true l _,fun _=>⟨List.Pairwise.nil,fun _ hm=>(nomatch hm)⟩⟩,h2,h3,h4⟩
section
variable {prog:Program} {w:World} {A:Around} {E:Value→Shared→Prop} {s:Shared} {K:Frag}
end
end Att
namespace L2
open PySem PySem.Spec PyProof.Rows
theorem vals_ints:∀ {vs:List Value} {ns:List Int},IntsAre vs ns→Vals (ns.map V.int) vs
 | _,_,.nil=>.nil
 | _,_,.cons n t h=>.cons ⟨t,rfl⟩ (vals_ints h)
def Only (H:Hp):Prop:=∀ b,H b = none∨∃ o xs,H b = some (.frz o (.lst xs))
theorem law_call {P:Program} {w:World} {K:PySem.W.Frag} {mg mb:Str→Option Value} {CX:CXT} {k:Nat} {fa a:Addr} {fd:FuncData} {x:Str} {sp:Sp} {s₁:Shared} {vs:List Value} {ns:List Int}
  (KX:K.In s₁.heap) (hns:s₁.heap.Ns mainGlobals mg) (hb:s₁.heap.Ns builtinsNs mb) (hbb:∀ x:Str,x ≠ "__name__"→mb x = bootBuiltins x) (hlim:s₁.heap.NoLimit) (hg:s₁.gens = #[])
  (ha:s₁.heap.get? a = some { cls:=.type "list",data:=.seq vs.toArray }) (hi:IntsAre vs ns) (hl:ns.length≤sizeLine) (hr:Room k callerA)
  (F:∀ base:Heap,K.In base→base.Ns mainGlobals mg→FnOk P w K mg base CX k fa fd [x] sp) (hbind:∀ (s:Shared) (u:Value),BindsTo s fd ⟨[u],[]⟩ [(x,u)])
  (hsp:∀ H:Hp,Only H→SqL K H a (ns.map V.int)→sp [.ref a] H (fun v _=>v = .bl true) fun _ _ _=>False)
  (hCX:∀ H e s',CX [] H s₁ (fun _ _ _=>False) e s'→False) :
  codeAny (model P w) callerA (.call (.ref fa) ⟨[.ref a],[]⟩) (fun r s'=>r = .ok (.ret (.bool true))∧OldK s₁.heap s'.heap∧s'.os = s₁.os∧AllBare s'.gens) s₁:=by
 have rv:=vals_ints hi
 have lenV:=hi.length
 have core:∀ H:Hp,Only H→SqL K H a (ns.map V.int)→HOk P w H s₁.heap→(∀ b,H b ≠ none→b = a)→(H a ≠ none→K.lookup a = none) →
   codeAny (model P w) callerA (.call (.ref fa) ⟨[.ref a],[]⟩) (fun r s'=>r = .ok (.ret (.bool true))∧OldK s₁.heap s'.heap∧s'.os = s₁.os∧AllBare s'.gens) s₁:=by
  intro H hO hS hok hA hK
  have base_of:∀ {b:Addr} {o:Obj},s₁.heap.get? b = some o→H b = none→(hidT s₁.heap H).get? b = some o:=fun e n=>hidT_get e n
  have noA:∀ {b:Addr} {o:Obj} {es:Array DictEntry} {ep:Nat},s₁.heap.get? b = some o→o.data = .dict es ep→H b = none:=fun {b o es ep} e d=>by
   cases q:H b with
   | none=>rfl
   | some u =>
    have e':b = a:=hA b (by rw [q]; simp)
    subst e'
    rw [ha] at e; cases e
    have d':Data.seq vs.toArray _ = Data.dict es ep:=d
    cases d'
  have nsK:∀ {b:Addr} {m:Str→Option Value},s₁.heap.Ns b m→(hidT s₁.heap H).Ns b m:=fun {b m} ⟨o,es,ep,e,d,r⟩=>⟨o,es,ep,base_of e (noA e d),d,r⟩
  have hKb:K.In (hidT s₁.heap H):=fun b o e=>base_of (KX b o e) (by
   cases q:H b with
   | none=>rfl
   | some u =>
    have e':b = a:=hA b (by rw [q]; simp)
    subst e'
    rw [hK (by rw [q]; simp)] at e; cases e)
  have hM:Mod K mg (hidT s₁.heap H):=⟨hKb,nsK hns,⟨mb,nsK hb,hbb⟩,let ⟨mc,h1,h2⟩:=hlim; ⟨mc,nsK h1,h2⟩⟩
  have e0:Env0 P w K mg (hidT s₁.heap H) callerA [] s₁ H:=⟨rfl,hM,fun b o e=>of_hidT e,Nat.le_of_eq (hidT_size _ _),trivial,fun b hb=>absurd (show b ∈ ([]:List Addr) from hb) (by simp),hok,.of_eq hg⟩
  refine codeAny_mono ((F _ hKb (nsK hns)).run callerA [] s₁ H ⟨[.ref a],[]⟩ [.ref a] [.ref a] _ _ hr e0 (hbind s₁ (.ref a)) (.cons rfl .nil) (hsp H hO hS)) fun r s' h=>?_
  cases r with
  | error e=>exact (hCX H e s' h).elim
  | ok fl =>
   cases fl with
   | next=>exact False.elim h
   | brk=>exact False.elim h
   | cont=>exact False.elim h
   | ret u =>
    obtain ⟨v,H',os,bare,un,hok',r',q⟩:=h
    have q':v = .bl true:=q
    subst q'
    obtain rfl:u = Value.bool true:=r'
    refine ⟨rfl,OldK.of_keep fun b o e=>?_,os,bare⟩
    cases q:H b with
    | none=>exact un.keep b o e q (by intro z; exact absurd (show b ∈ ([]:List Addr) from z) (by simp)) (by simp)
    | some u =>
     rcases hO b with z | ⟨ob,xs,z⟩
     ·rw [q] at z; cases z
     ·have z2:=un.frzs b ob _ z
      obtain ⟨e1,_⟩:=hok b _ z
      obtain ⟨e2,_⟩:=hok' b _ z2
      rw [e] at e1; cases e1
      exact e2
 cases hk:K.lookup a with
 | some o =>
  have e:=KX a o hk
  rw [ha] at e
  cases e
  refine core (fun _=>none) (fun _=>.inl rfl) (.inr ⟨_,vs.toArray,_,hk,rfl,rfl,rfl,by rw [List.size_toArray,lenV]; exact hl,by simpa using rv⟩) (fun b u z=>by have z':(none:Option HO) = some u:=z; cases z') (fun b z=>absurd rfl z) fun z=>absurd rfl z
 | none =>
  refine core (fun b=>if b = a then some (.frz { cls:=.type "list",data:=.seq vs.toArray } (.lst (ns.map V.int))) else none) (fun b=>?_) (.inl (.inr ⟨{ cls:=.type "list",data:=.seq vs.toArray },if_pos rfl⟩)) (fun b u z=>?_) (fun b z=>?_) fun _=>hk
  ·by_cases hb:b = a
   ·exact .inr ⟨_,_,if_pos hb⟩
   ·exact .inl (if_neg hb)
  ·by_cases hb:b = a
   ·have z':=(if_pos hb).symm.trans z
    cases z'
    subst hb
    exact ⟨ha,by rw [List.length_map]; exact hl,vs,_,rv,ha⟩
   ·have z':=(if_neg hb).symm.trans z
    cases z'
  ·by_cases hb:b = a
   ·exact hb
   ·exact absurd (if_neg hb) z
end L2
namespace L2
open PySem PySem.Spec PyProof.Rows
theorem walk_of {l:PySem.W.OpenLaw} {n k:Nat} {q:Program} {loose:List Str} {XP:(Str→Option Value)→Heap→Prop} {YP:World→Heap→Prop} {d:DefRec} {K:Params→PySem.W.Frag} {CX:World→CXT} {sp:World→Sp} {x:Str}
  (hn:l.most = some n) (hn2:n≤sizeLine) (hdf:d.params.defaults = []) (hr:Room k callerA)
  (hY:∀ (w:World) (h:Heap),YP w h→(K w.params).In h)
  (F:∀ (w:World) (mg:Str→Option Value) (fa:Addr) (h:Heap),(K w.params).In h→h.Ns mainGlobals mg→mg d.name = some (.ref fa) →
   ∃ fd:FuncData,(∀ (s:Shared) (u:Value),BindsTo s fd ⟨[u],[]⟩ [(x,u)]) ∧
    ∀ base:Heap,(K w.params).In base→base.Ns mainGlobals mg→FnOk l.prog w (K w.params) mg base (CX w) k fa fd [x] (sp w))
  (hsp:∀ (w:World) (H:Hp) (a:Addr) (ns:List Int),ns.length≤n→Only H→SqL (K w.params) H a (ns.map V.int)→sp w [.ref a] H (fun v _=>v = .bl true) fun _ _ _=>False)
  (hCX:∀ (w:World) (H:Hp) (s:Shared) (e:Value) (s':Shared),CX w [] H s (fun _ _ _=>False) e s'→False) :
  PySem.W.WalkO q loose XP YP l.row.toRowW d [] (fun f vs=>PySem.call f vs):=by
 refine Att.attach_call hn hdf fun w s₀ s₁ mg mb fa o pm cd doc a vs ns G Y ho hd hcd hmg hobj hints hlen hg=>?_
 have KX:=hY w _ Y
 obtain ⟨fd,hb,hF⟩:=F w mg fa _ KX G.T.g hmg
 exact law_call KX G.T.g G.T.b G.T.builtins G.T.nolimit hg hobj hints (Nat.le_trans hlen hn2) hr hF hb (fun H hO hS=>hsp w H a ns hlen hO hS) fun H e s'=>hCX w H s₁ e s'
end L2
namespace L2
open PySem PySem.Spec PyProof.Rows
def inClass (s:Stmt) (j:Nat):Stmt:=match s with
 | .ClassDef _ _ _ body _ _ _ _ _ _ _=>body.getD j (.Pass ⟨0,0,0,0⟩)
 | _=>.Pass ⟨0,0,0,0⟩
def defArgs (s:Stmt):Arguments:=match s with
 | .FunctionDef _ a _ _ _ _ _ _ _ _=>a
 | _=>{ posonlyargs:=[],args:=[],vararg:=none,kwonlyargs:=[],kw_defaults:=[],kwarg:=none,defaults:=[] }
def defBody (s:Stmt):List Stmt:=match s with
 | .FunctionDef _ _ b _ _ _ _ _ _ _=>b
 | _=>[]
def defScope (s:Stmt):Scope:=match s with
 | .FunctionDef _ _ _ _ _ _ sc _ _ _=>sc
 | _=>{ kind:=.function,names:=[],isGenerator:=false,isCoroutine:=false }
abbrev CX0:CXT:=fun _ _ _ _ _ _=>False
abbrev E0:XK:=fun _ _ _=>False
theorem pass0 {X:Cx}:Passes CX0 X E0:=fun _ _ _ _ _ _ _ h=>h.elim
structure Fun (K:PySem.W.Frag) (x qual:Str) (st:Stmt) (f:Addr) (fd:FuncData):Prop where
 ex:∃ (oc:Value) (od:Option Addr) (kV doc pm:Value) (an:Option Addr) (cdv ct:Value) (osl:Array (Option Value)),
  fd = PySem.W.fnOf x qual (defArgs st) (defBody st) (defScope st) .none kV doc pm an cdv ct∧K.lookup f = some ⟨oc,od,.func fd,osl⟩∧PySem.W.codeIn K cdv qual = true
 kp:PySem.W.keepIn K (.ref f) = true
section
variable {P:Program} {w:World} {K:PySem.W.Frag} {mg:Str→Option Value} {base:Heap}
theorem Fun.ok {x qual:Str} {st:Stmt} {f:Addr} {fd:FuncData} {N ps:List Str} {k:Nat} {sp:Sp} (F:Fun K x qual st f fd) (S:FnScope N ps (defScope st)) (len:∀ vs H Q E,sp vs H Q E→vs.length = ps.length)
  (hbody:∀ (cdv:Value) (A:Around) (outer:List Env) (s:Shared) (H:Hp) (vs:List V) (Q:VK) (E:XK),Room k (A.deeper (envOfC qual (defScope st) s.heap.objs.size f cdv))→sp vs H Q E →
   ∃ t,PSs (cxOf CX0 P w K mg base N qual (defScope st) f cdv A outer s H E).nox (defBody st) t∧t { nx:=fun _ H'=>Q .non H',rt:=Q } (start N vs) H):FnOk P w K mg base CX0 (k + 1) f fd ps sp:=by
 obtain ⟨oc,od,kV,doc,pm,an,cdv,ct,osl,rfl,lk,hcd⟩:=F.ex
 refine fn_of lk hcd S len fun A outer s H vs Q E hr hsp=>?_
 obtain ⟨t,h,q⟩:=hbody cdv A outer s H vs Q E hr hsp
 exact ⟨t,h.nox,q⟩
theorem Fun.binds {x qual:Str} {st:Stmt} {f:Addr} {fd:FuncData} {ps:List Str} (F:Fun K x qual st f fd)
  (h:∀ (kV doc pm:Value) (an:Option Addr) (cdv ct:Value) (us:List Value),us.length = ps.length→bindArgs (PySem.W.fnOf x qual (defArgs st) (defBody st) (defScope st) .none kV doc pm an cdv ct) ⟨us,[]⟩ = pure (ps.zip us)):Binds K fd ps []:=by
 obtain ⟨oc,od,kV,doc,pm,an,cdv,ct,osl,rfl,lk,hcd⟩:=F.ex
 exact .all (h kV doc pm an cdv ct)
theorem fun_mk {x qual:Str} {st:Stmt} {f:Addr} {oc:Value} {od an:Option Addr} {osl:Array (Option Value)} {kV doc pm cdv ct:Value} (l:K.lookup f = some ⟨oc,od,.func (PySem.W.fnOf x qual (defArgs st) (defBody st) (defScope st) .none kV doc pm an cdv ct),osl⟩)
  (c:PySem.W.codeIn K cdv qual = true) (k:PySem.W.keepIn K (.ref f) = true):Fun K x qual st f (PySem.W.fnOf x qual (defArgs st) (defBody st) (defScope st) .none kV doc pm an cdv ct):=⟨⟨oc,od,kV,doc,pm,an,cdv,ct,osl,rfl,l,c⟩,k⟩
end
theorem hu_of {A:Around} {k:Nat} (hr:Room k A):A.units + 1 < cLine:=Nat.lt_of_le_of_lt (Nat.add_le_add_left (by decide:1≤64) _) hr.units
section
variable {X:Cx}
theorem pv (i:Nat) {x:Str} {pos:Pos} (hN:X.N[i]? = some x:=by rfl) (hv:Vis X.env.scope x:=by first | exact Or.inl rfl | exact Or.inr (Or.inl rfl) | exact Or.inr (Or.inr rfl)) (hd:(x == ("__debug__":Str)) = false:=by decide)
  (hcd:(x == ("__classdict__":Str)) = false:=by decide):PE X (.Name x pos) (tVar i):=pe_var hN hv hd hcd
end
theorem iteF {A B:Prop} (h:B):if false = true then A else B:=by
 rw [if_neg Bool.false_ne_true]
 exact h
theorem iteT {A B:Prop} (h:A):if true = true then A else B:=by
 rw [if_pos rfl]
 exact h
theorem iteNS {c A B:Prop} [Decidable c] (hc:c) (h:B):if (!decide c) = true then A else B:=by
 rw [decide_eq_true hc]
 exact iteF h
def Same (H H':Hp):Prop:=∀ b o,H b = some o→H' b = some o
theorem Same.refl (H:Hp):Same H H:=fun _ _ h=>h
theorem Same.trans {H H1 H2:Hp} (a:Same H H1) (b:Same H1 H2):Same H H2:=fun c o h=>b c o (a c o h)
theorem Same.seq {K:PySem.W.Frag} {H H':Hp} {a:Addr} {xs:List V} (e:Same H H') (h:SqL K H a xs):SqL K H' a xs:=by
 rcases h with (h | ⟨o,h⟩) | h
 ·exact .inl (.inl (e _ _ h))
 ·exact .inl (.inr ⟨o,e _ _ h⟩)
 ·exact .inr h
end L2
set_option maxHeartbeats 4000000
namespace Ow
open PySem PySem.Spec PyProof.Rows L2
structure Has (P:Program) (w:World) (K:PySem.W.Frag) (mg:Str→Option Value) (base:Heap) (k:Nat) (x:Str) (ps:List Str) (sp:Sp):Prop where
 ex:∃ (f:Addr) (fd:FuncData),FnOk P w K mg base CX0 k f fd ps sp∧Binds K fd ps []∧PySem.W.keepIn K (.ref f) = true∧mg x = some (.ref f)
section
variable {X:Cx} {k:Nat} {x:Str} {ps:List Str} {sp:Sp} {p pos:Pos} {e:Expr} {es:List Expr} {t:TA}
theorem pe_fn (h:Has X.prog X.w X.K X.mg X.base k x ps sp) (hr:Room k X.A) (hg:Gl X x) (ha:PA X (e :: es) t) (hdb:(x == ("__debug__":Str)) = false:=by decide)
  (he:starEach (e :: es) X.env = (false,eval e X.env) :: starEach es X.env:=by rfl) (hpl:(backTo pos (starEach es X.env)).any (·.1) = false:=by rfl) :
  PE X (.Call (.Name x p) (e :: es) [] pos) (tCall sp [] E0 t):=by
 obtain ⟨f,fd,F,b,kp,m⟩:=h.ex
 exact pe_call F hr hg m kp b .nil pass0 ha hdb he hpl
theorem pe_ty {T:String} (hg:Gl X x) (hm:X.mg x = none) (hv:bootBuiltins x = some (.type T)) (hn:x ≠ "__name__":=by decide) (hd:(x == ("__debug__":Str)) = false:=by decide):PE X (.Name x pos) (tC (.ty T)):=pe_bltn (v:=.ty T) hg hm hv rfl hn hd
theorem pe_cls {C:Addr} (hg:Gl X x) (hm:X.mg x = some (.ref C)) (hd:(x == ("__debug__":Str)) = false:=by decide):PE X (.Name x pos) (tC (.ref C)):=pe_glob (v:=.ref C) hg hm rfl hd
def clsV:V→Option Value
 | .ty n=>some (.type n)
 | .ref C=>some (.ref C)
 | _=>none
theorem clsV_rel {c:V} {u cv:Value} (r:RelV c u) (h:clsV c = some cv):u = cv:=by
 cases c with
 | ty n=>cases h; exact r
 | ref C=>cases h; exact r
 | _=>cases h
theorem call_isinst:CallR X (.builtin "isinstance") (fun xs H Q=>∃ x c t cv b,xs = [x,c]∧clsV c = some cv∧TyOf X.K H x t∧PySem.W.kitOne X.K t cv = some b∧Q (.bl b) H):=by
 intro pins s σ H xs us Q I r h
 obtain ⟨x,c,t,cv,b,rfl,hc,ty,e,q⟩:=h
 obtain ⟨u,u',rfl,rx,rc⟩:=vals2 r
 cases clsV_rel rc hc
 exact isinst_ok I rx ty e fun tk=>⟨.bl b,H,I.tok _,rfl,q⟩
theorem op_fdivB:OpR X (binaryOp .FloorDiv) (rI (fun _ j=>0 < j∧j.natAbs.log2 < 9000) fun i j=>.int (i / j)):=opI fun i j _ _ _ _ _ hc q=>by
 have h1:(0:Int) < j:=hc.1
 exact floordiv_int (by omega) (by rw [Int.fdiv_eq_ediv_of_nonneg i (by omega)]; exact q) (.inl (PyProof.noPylong_of_log2 hc.2))
theorem op_mulB:OpR X (binaryOp .Mult) (rI (fun i j=>Builtin.Int.intBits i≤100000∧Builtin.Int.intBits j≤100000) fun i j=>.int (i * j)):=opI fun _ _ _ _ _ _ _ hc q =>
 mul_int q (IntMulOk.of_bits (Nat.le_trans hc.1 (by decide)) (Nat.le_trans hc.2 (by decide)))
theorem op_shlB:OpR X (binaryOp .LShift) (rI (fun i j=>0≤j∧j≤100000∧Builtin.Int.intBits i≤100000) fun i j=>.int (i * 2 ^ j.toNat)):=opI fun i j _ _ _ _ _ hc q =>
 lshift_int hc.1 (by have h1:=hc.2.1; have h2:Builtin.Int.intBits i≤100000:=hc.2.2; have h3:(2:Int) ^ 27 = 134217728:=(by decide); rw [h3]; omega) q
end
theorem kit_int_int (K:PySem.W.Frag):PySem.W.kitOne K (.type "int") (.type "int") = some true:=rfl
theorem kit_int_bool (K:PySem.W.Frag):PySem.W.kitOne K (.type "int") (.type "bool") = some false:=by with_unfolding_all rfl
theorem kit_bl_int (K:PySem.W.Frag):PySem.W.kitOne K (.type "bool") (.type "int") = some true:=by with_unfolding_all rfl
theorem kit_bl_bl (K:PySem.W.Frag):PySem.W.kitOne K (.type "bool") (.type "bool") = some true:=rfl
theorem iteD {c A B:Prop} [Decidable c] (hc:c) (h:A):if decide c = true then A else B:=by
 rw [if_pos (decide_eq_true hc)]
 exact h
theorem iteDN {c A B:Prop} [Decidable c] (hc:¬ c) (h:B):if decide c = true then A else B:=by
 rw [if_neg (by rw [decide_eq_false hc]; decide)]
 exact h
theorem iteN {c A B:Prop} [Decidable c] (hc:¬ c) (h:A):if (!decide c) = true then A else B:=by
 rw [decide_eq_false hc]
 exact iteT h
theorem p1_pos (n:Nat):(0:Int) < 1 * 2 ^ n:=by
 rw [Int.one_mul]
 exact Int.pow_pos (by decide)
theorem p_pos (n:Nat):(0:Int) < 2 ^ n:=Int.pow_pos (by decide)
theorem p_mono {m n:Nat} (h:m≤n):(2:Int) ^ m≤2 ^ n:=by
 have e:n = m + (n - m):=by omega
 rw [e,Int.pow_add]
 have h1:=p_pos m
 have h2:(1:Int)≤2 ^ (n - m):=p_pos (n - m)
 have h3:=Int.mul_le_mul_of_nonneg_left h2 (Int.le_of_lt h1)
 rw [Int.mul_one] at h3
 exact h3
def SameX (p:Addr) (H H':Hp):Prop:=∀ b o,b ≠ p→H b = some o→H' b = some o
theorem SameX.trans {p:Addr} {H H1 H2:Hp} (a:SameX p H H1) (b:SameX p H1 H2):SameX p H H2:=fun c o n h=>b c o n (a c o n h)
theorem SameX.of {p:Addr} {H H':Hp} (a:Same H H'):SameX p H H':=fun c o _ h=>a c o h
theorem SameX.upd {p:Addr} {H:Hp} {o:HO}:SameX p H (upd H p o):=fun c u n h=>by rw [upd_ne n]; exact h
theorem same_new {H:Hp} {p:Addr} (h:H p = none) (o:HO):Same H (L2.upd H p o):=fun b u q=>by rw [upd_ne (ne_of_none q h)]; exact q
theorem SameX.fresh {p:Addr} {H H1:Hp} (h:H p = none) (a:SameX p H H1):Same H H1:=fun b o q=>a b o (ne_of_none q h) q
def Box (H:Hp) (p:Addr):Prop:=∃ r s c:Int,H p = some (.lst [.int r,.int s,.int c])
theorem Box.same {H H':Hp} {p:Addr} (b:Box H p) (s:Same H H'):Box H' p:=by
 obtain ⟨r,s',c,h⟩:=b
 exact ⟨r,s',c,s _ _ h⟩
theorem getI (ns:List Int) (k:Nat) (h:k < ns.length):atI (ns.map V.int) (k:Int) = some (.int ns[k]):=atI_nat (by rw [List.getElem?_map,List.getElem?_eq_getElem h] <;> rfl)
end Ow
namespace Ow
open PySem PySem.Spec PyProof.Rows L2
structure MHas (P:Program) (w:World) (K:PySem.W.Frag) (mg:Str→Option Value) (base:Heap) (k:Nat) (C:Addr) (m:Str) (ps:List Str) (sp:Sp):Prop where
 cl:Cls K C
 ex:∃ (f:Addr) (fd:FuncData),Meth K C m f∧FnOk P w K mg base CX0 k f fd ps sp∧Binds K fd ps []
def tMethP (X:Cx) (k:Nat) (m:Str) (ta:TE) (t:TA):TE:=fun σ H Q=>ta σ H fun x H1=>∃ (a C dx:Addr) (fs:List (Str × V)) (ps:List Str) (sp:Sp),x = .ref a∧H1 a = some (.ins C dx fs)∧fs.lookup m = none ∧
 MHas X.prog X.w X.K X.mg X.base k C m ps sp∧t σ H1 fun vs H2=>sp (x :: (vs ++ [])) H2 Q E0
section
variable {X:Cx} {k:Nat} {x m:Str} {C:Addr} {p pos apos:Pos} {o e:Expr} {es:List Expr} {ta:TE} {t:TA}
theorem pe_methP {pl:Sem Bool} (he:PE X o ta) (hr:Room k X.A) (ha:PA X (e :: es) t)
  (hst:starEach (e :: es) X.env = (false,eval e X.env) :: starEach es X.env:=by rfl) (hpl:(backTo pos (starEach es X.env)).any (·.1) = false:=by rfl)
  (ht:eval (.Call (.Attribute o m apos) (e :: es) [] pos) X.env = (do
   let ov ← eval o X.env
   standAt apos.atName
   let (f,first) ← holding [ov] (getMethod ov m pl)
   callWith pos f first (backTo pos (starEach (e :: es) X.env)) (backToKw pos (keywordEach [] X.env))):=by rfl) :
  PE X (.Call (.Attribute o m apos) (e :: es) [] pos) (tMethP X k m ta t):=by
 intro pins s σ H Q I h
 refine PySem.W.methodCall_KW (pl:=pl) (thn (he pins s σ H _ I h) fun u s1 ⟨x,H1,I1,rx,a,C,dx,fs,ps,sp,ex,ea,l,M,q⟩=>?_) ht
 subst ex
 obtain rfl:u = Value.ref a:=rx
 obtain ⟨f,fd,hm,F,hb⟩:=M.ex
 refine getmeth_ok I1 ea M.cl hm l ?_
 refine PySem.W.callWith_K (first:=[.ref a]) (h₀:=X.base) I.ok.mod.kin hm.kp (thn (ha pos pins s1 σ H1 _ I1 q) fun us s2 ⟨vs,H2,I2,r,q2⟩=>⟨I2.kIn,?_⟩) hst hpl
 exact run_fn (us:=.ref a :: us) (vs:=.ref a :: vs) F hr hb .nil pass0 I2 (.cons rfl r) q2
theorem pe_methP0 {pl:Sem Bool} (he:PE X o ta) (hr:Room k X.A)
  (ht:eval (.Call (.Attribute o m apos) [] [] pos) X.env = (do
   let ov ← eval o X.env
   standAt apos.atName
   let (f,first) ← holding [ov] (getMethod ov m pl)
   callWith pos f first (backTo pos (starEach [] X.env)) (backToKw pos (keywordEach [] X.env))):=by rfl) :
  PE X (.Call (.Attribute o m apos) [] [] pos) (tMethP X k m ta tNil):=by
 intro pins s σ H Q I h
 refine PySem.W.methodCall_KW (pl:=pl) (thn (he pins s σ H _ I h) fun u s1 ⟨x,H1,I1,rx,a,C,dx,fs,ps,sp,ex,ea,l,M,q⟩=>?_) ht
 subst ex
 obtain rfl:u = Value.ref a:=rx
 obtain ⟨f,fd,hm,F,hb⟩:=M.ex
 refine getmeth_ok I1 ea M.cl hm l ?_
 exact PySem.W.callWith_K0 (first:=[.ref a]) I1.kIn hm.kp (run_fn (us:=[.ref a]) (vs:=[.ref a]) F hr hb .nil pass0 I1 (.cons rfl .nil) q)
end
end Ow
namespace Ow
open PySem PySem.Spec PyProof.Rows L2
def cxComp (X:Cx) (N:List Str) (scope:Scope) (cl:List (Str × Addr)) (C:Addr) (s2:Shared) (H2:Hp) (fp:List Addr):Cx where
 prog:=X.prog
 w:=X.w
 K:=X.K
 mg:=X.mg
 base:=X.base
 A:=X.A
 N:=N
 s₀:=s2
 H₀:=H2
 env:=compEnvC scope cl C X.env
 outer:=X.stack
 stack:=X.stack
 ex:=fp
 calm:=true
 fn:=fun _=>false
 pn:=[]
 xe:=fun _ _=>False
def tComp (wi:TI) (te:TE) (cap:L2.St→L2.St):TE:=fun σ H Q=>wi σ H fun J H1=>∀ D,H1 D = none→∃ W:Nat→Nat→Hp→Prop,(∃ m,W 0 m (upd H1 D (.lst [])))∧∀ i m H,W i m H →
 (J.stop i H∧Q (.ref D) H)∨(J.go i H∧∀ x H',J.yld i H x H'→te (some x :: cap σ) H' fun y H2=>∃ ys,H2 D = some (.lst ys)∧ys.length < sizeLine∧∃ m',m' < m∧W (i + 1) m' (upd H2 D (.lst (ys ++ [y]))))
section
variable {X:Cx} {elt iter:Expr} {x:Str} {px pos:Pos} {scope:Scope} {wi:TI} {te:TE} {N:List Str} {cl:List (Str × Addr)} {cap:L2.St→L2.St}
theorem ps_comp {i:Nat} {y:Str} {py spos:Pos} (hNX:X.N.Nodup) (hiy:X.N[i]? = some y) (hly:Loc X.env.scope y) (hsw:swapsWith (.ListComp elt [⟨.Name x px,iter,[],0⟩] scope pos) (some (.Name y py)) spos.line X.env = pure true) (hc:X.calm = true) (hclos:closureFor scope X.env = pure cl) (hsub:∀ n c,cl.lookup n = some c→X.env.cells.lookup n = some c)
  (hcell:∀ y ∈ scope.names,y.2 ≠ .cell) (hkind:scope.kind = .function) (hnames:∀ y ∈ scope.names,y.2 = .local→scope.names.lookup y.1 = some .local) (hx:scope.names.lookup x = some .local)
  (hhas:∀ y,(Env.kindOf (compEnvC scope cl 0 X.env) y = some .cell∨Env.kindOf (compEnvC scope cl 0 X.env) y = some .free)→∃ c,cl.lookup y = some c)
  (hN:(x :: N).Nodup) (hcapl:∀ σ,(cap σ).length = N.length)
  (hcap:∀ (σ:L2.St) (i:Nat) (y:Str) (v:V),σ.length = X.N.length→N[i]? = some y→(cap σ)[i]? = some (some v)→(Env.kindOf (compEnvC scope cl 0 X.env) y = some .cell∨Env.kindOf (compEnvC scope cl 0 X.env) y = some .free)∧X.env.kindOf y = some .cell∧∃ j:Nat,X.N[j]? = some y∧σ[j]? = some (some v))
  (hi:PI X (.Name x px) iter wi) (he:∀ C s2 H2 fp,PE (cxComp X (x :: N) scope cl C s2 H2 fp) elt te)
  (hs:∀ z,foldedSetIterable iter X.env z = pure z:=by intro _; rfl) (hf:X.fn y = true∨X.env.scope.names.lookup y = some .local:=by first | exact .inl rfl | exact .inr rfl | assumption) :
  PS X (.Assign [.Name y py] (.ListComp elt [⟨.Name x px,iter,[],0⟩] scope pos) spos) (tAsg (tComp wi te cap) (gName i)):=by
 intro pins s σ H DD I h
 rw [exec_Assign_Name_used _ _ _ _ hsw]
 refine wpAny_bind (wpAny_standAt (wpAny_bind ?_))
 show wpAny _ X.A (do let _ ← comprehension (.ListComp elt [⟨.Name x px,iter,[],0⟩] scope pos) scope X.env _ (newList []) false (eval iter X.env) (some (assign (.Name y py) X.env))) _ _ s
 refine wpAny_bind (wpAny_mono (wpAny_comprehension_free (use:=some (assign (.Name y py) X.env)) (Q:=fun _ s'=>SP X pins DD .next s') rfl hs hclos hkind hnames (thn (hi pins s σ H _ I h) fun xv s1 h1=>thn h1 fun itv s2 h2=>?_)) (fun _ s' hq=>wpAny_pure (wpAny_pure hq)) fun _ _ e=>e)
 obtain ⟨it,fp,tn,J,H2,e,I2,T,st2,f2,hW⟩:=h2
 subst e
 have hD:H2 s2.heap.objs.size = none:=I2.hok.fresh (Nat.le_refl _)
 obtain ⟨W,⟨m0,w0⟩,turn⟩:=hW s2.heap.objs.size hD
 refine wpAny_newObj_type (wpAny_newFunctionEnv hcell (by intro y hy; simp at hy) (fun h4 hns4 hsb4=>?_) hkind) (by show 0≤sizeLine; decide)
 dsimp only at hns4 hsb4 ⊢
 generalize hH3:s2.heap.push { cls:=.type "list",dict:=none,data:=.seq ([]:List Value).toArray } = H3 at hns4 hsb4 ⊢
 have hCz:H3.objs.size = s2.heap.objs.size + 1:=by rw [← hH3,Heap.size_push]
 have old3:∀ b o,s2.heap.get? b = some o→H3.get? b = some o:=fun b o e=>hH3 ▸ Heap.get?_push_of_some _ e
 have eD3:H3.get? s2.heap.objs.size = some { cls:=.type "list",dict:=none,data:=.seq ([]:List Value).toArray }:=hH3 ▸ Heap.get?_push_size _ rfl
 have old4:∀ b o,H3.get? b = some o→h4.get? b = some o:=fun b o e=>hsb4.extBut b o (Nat.ne_of_lt (Heap.lt_size e)) (Heap.get?_push_of_some _ e)
 have old:∀ b o,s2.heap.get? b = some o→h4.get? b = some o:=fun b o e=>old4 b o (old3 b o e)
 have szC:s2.heap.objs.size < H3.objs.size:=by rw [hCz]; exact Nat.lt_succ_self _
 have fpC:∀ b ∈ fp,b ≠ H3.objs.size:=fun b hb=>by
  obtain ⟨o,ho,_⟩:=T.obj 0 _ st2 b hb
  exact Nat.ne_of_lt (Nat.lt_trans (Heap.lt_size ho) szC)
 have ok':(cxComp X (x :: N) scope cl H3.objs.size s2 H2 fp).Ok:=by
  refine ⟨I2.ok.mod,hkind,I2.ok.glob,I2.ok.blt,(Nat.le_of_lt szC),fun a b c e1 e2=>I2.ok.inj a b c (hsub a c e1) (hsub b c e2),fun y hy=>hhas y hy,fun y c z _=>absurd (show false = true from z) (by decide),
   fun _=>I2.ok.hd hc,I2.ok.frames,.inl rfl,fun b hb=>⟨fpC b hb,fun y c e=>(f2 b hb).2.2.2.2.1 y c (hsub y c e)⟩,I2.bs,Nat.le_trans I2.ok.bsz I2.sz,fun b o e hb=>?_,fun b hb z=>?_,I2.stack,I2.stkFree⟩
  ·rcases (f2 b hb).2.2.2.1 with q | q
   ·exact I2.ok.noex b o e q
   ·exact absurd (Nat.lt_of_lt_of_le (Heap.lt_size e) (Nat.le_trans I2.ok.bsz q)) (Nat.lt_irrefl _)
  ·rcases List.mem_cons.mp (I2.stkSub b z) with q | q
   ·exact (f2 b hb).2.1 q
   ·exact (f2 b hb).2.2.1 q
 have okD:ObjOk X.prog X.w (upd H2 s2.heap.objs.size (.lst [])) h4 s2.heap.objs.size (.lst []):=⟨Nat.zero_le _,[],0,.nil,old4 _ _ eD3⟩
 have I4:Inv (cxComp X (x :: N) scope cl H3.objs.size s2 H2 fp) [] (none :: cap σ) (upd H2 s2.heap.objs.size (.lst [])) { s2 with heap:=h4,toks:=s2.toks + ([]:List (Str × Value)).length }:=by
  refine ⟨ok',rfl,I2.bare,Un.laid old (Nat.le_refl _) hD,⟨_,hns4,fun i y v e1 e2 _=>?_⟩,fun y c e=>?_,?_,fun y c e=>?_,fun p hp=>absurd hp (by show p ∉ ([] ++ []:List (Addr × Obj)); simp),I2.hok.laid old (Nat.le_refl _) okD,?_⟩
  ·cases i with
   | zero=>simp at e2
   | succ i =>
    obtain ⟨k1,k2,j,e3,e4⟩:=hcap σ i y v I2.len (show N[i]? = some y from e1) (show (cap σ)[i]? = some (some v) from e2)
    obtain ⟨m,_,hl⟩:=I2.loc
    obtain ⟨u,ru,lk⟩:=hl j y v e3 e4 (.inr (.inl k2))
    refine ⟨u,ru,.inr ⟨k1,?_⟩⟩
    rcases lk with ⟨z,_⟩ | ⟨_,c,e5,hcl⟩
    ·rw [k2] at z; cases z
    ·obtain ⟨c',e6⟩:=hhas y k1
     have:c' = c:=by
      have:=hsub y c' e6
      rw [e5] at this
      exact (Option.some.inj this).symm
     subst this
     obtain ⟨oc,ho,hd⟩:=hcl
     exact ⟨c',e6,oc,old _ _ ho,hd⟩
  ·obtain ⟨v,oc,ho,hd⟩:=I2.cell y c (hsub y c e)
   exact ⟨v,oc,old _ _ ho,hd⟩
  ·show upd H2 s2.heap.objs.size (.lst []) H3.objs.size = none
   rw [upd_ne (Nat.ne_of_gt szC)]
   exact I2.hok.fresh (Nat.le_of_lt szC)
  ·have h1:=I2.freeC y c (hsub y c e)
   obtain ⟨v,oc,ho,_⟩:=I2.cell y c (hsub y c e)
   rw [upd_ne (Nat.ne_of_lt (Heap.lt_size ho))]
   exact h1
  ·show (none :: cap σ).length = (x :: N).length
   simp [hcapl]
 have stat:∀ {H':Hp},(∀ b ∈ fp,H' b = none)→∀ b ∈ fp,FpOk (cxComp X (x :: N) scope cl H3.objs.size s2 H2 fp) [] H' b:=fun {H'} hn b hb =>
  ⟨hn b hb,(ok'.exf b hb).1,ok'.exfs b hb,.inl hb,(ok'.exf b hb).2,fun p hp=>absurd hp (by show p ∉ ([] ++ []:List (Addr × Obj)); simp)⟩
 have loop:codeAny (model X.prog X.w) X.A (.compLoop (.ListComp elt [⟨.Name x px,iter,[],0⟩] scope pos) 0 (.ref it) (.ref s2.heap.objs.size) (compEnvC scope cl H3.objs.size X.env))
   (compPost (model X.prog X.w) X.A X.xe (some (assign (.Name y py) X.env)) (fun _ s'=>SP X pins DD .next s') (.ref s2.heap.objs.size) H3.objs.size) { s2 with heap:=h4,toks:=s2.toks + ([]:List (Str × Value)).length }:=by
  refine codeAny_compLoop_list (fun n s'=>∃ (i:Nat) (z0:Option V) (H':Hp),Inv (cxComp X (x :: N) scope cl H3.objs.size s2 H2 fp) [] (z0 :: cap σ) H' s'∧tn i s'.heap∧(∀ b ∈ fp,H' b = none)∧W i n H') ?_ m0
   ⟨0,none,_,I4,T.keep 0 _ _ st2 (fun b _ o e=>old b o e),fun b hb=>?_,w0⟩
  ·rintro n s5 ⟨i,z0,H5,I5,st5,fr5,w5⟩
   rcases turn i n H5 w5 with ⟨stop,qn⟩ | ⟨go,step⟩
   ·refine wpAny_mono (T.done (cxComp X (x :: N) scope cl H3.objs.size s2 H2 fp) rfl rfl rfl rfl i [] s5 _ H5 _ I5 (stat fr5) st5 stop) (fun r s6 ⟨hr,I6⟩=>?_) fun _ _ z=>z
    subst hr
    obtain ⟨m,hn6,_⟩:=id I6.loc
    have I6X:Inv X pins σ H5 s6:=I2.call' (ch:=fp) (s':=s6) I6.os I6.base I6.hok I6.bare fun b hb=>⟨(f2 b hb).2.2.2.1,(f2 b hb).2.1,(f2 b hb).2.2.2.2.1,(f2 b hb).2.2.2.2.2⟩
    have fC:H5 H3.objs.size = none:=I6.free
    have nL:H3.objs.size ≠ X.env.locals:=Ne.symm (Nat.ne_of_lt (Nat.lt_trans I2.lt szC))
    have nCl:∀ z c,X.env.cells.lookup z = some c→c ≠ H3.objs.size:=fun z c e=>by
     obtain ⟨v,oc,ho,_⟩:=I2.cell z c e
     exact Nat.ne_of_lt (Nat.lt_trans (Heap.lt_size ho) szC)
    refine wpAny_assign_Name (store_ok2 I6X hNX hiy hly (v:=.ref s2.heap.objs.size) rfl (fun s7 I7 ⟨ad,sb7,had⟩=>?_) hf)
    have nA:H3.objs.size ≠ ad:=by
     rcases had with e | e
     ·rw [e]; exact nL
     ·exact Ne.symm (nCl _ _ e)
    refine ⟨m,hn6.sameBut sb7 nA,fun h' sb=>⟨_,H5,?_,qn⟩⟩
    refine I7.turned (it:=H3.objs.size) (t':=s7.toks) (fun b o hb e=>sb.extBut b o hb e) fC nL (.inr (Nat.le_trans I2.sz (Nat.le_of_lt szC))) nCl fun p hp=>?_
    exact Nat.ne_of_lt (Nat.lt_trans (Heap.lt_size (I2.pin p hp).1) szC)
   ·refine wpAny_mono (T.item (cxComp X (x :: N) scope cl H3.objs.size s2 H2 fp) rfl rfl rfl rfl i [] s5 _ H5 _ I5 (stat fr5) st5 go) (fun r s6 ⟨u,hr,h6⟩=>?_) fun _ _ z=>z
    subst hr
    have key:(letOwnedTupleGo (.Name x px) (.ref it) u >>= fun _=>assign (.Name x px) (compEnvC scope cl H3.objs.size X.env) u) = assign (.Name x px) (compEnvC scope cl H3.objs.size X.env) u:=by first | rfl | exact pure_bind _ _
    dsimp only
    rw [← key]
    refine wpAny_bind (wpAny_mono h6 (fun _ s7 ⟨v,H7,I7,r7,y7,st7,fr7⟩=>?_) fun _ _ z=>z)
    have I7':=I7.pinned (stat fr7) (T.obj _ _ st7)
    refine wpAny_assign_Name (store_ok (i:=0) I7' hN rfl (.inl (lookup_relabel_local hx)) r7 (fun s8 I8=>?_) (.inr (lookup_relabel_local hx)))
    refine wpAny_mono (he H3.objs.size s2 H2 fp _ s8 (some v :: cap σ) H7 _ I8 (step v H7 y7)) (fun w9 s9 ⟨yv,H9,I9,r9,ys,hys,hlt,m',hm,w9'⟩=>?_) fun _ _ z=>z.elim
    refine wpAny_mono (mt_append (X:=cxComp X (x :: N) scope cl H3.objs.size s2 H2 fp) _ s9 _ H9 (.ref s2.heap.objs.size) [yv] _ [w9] (fun _ Hn=>Hn = upd H9 s2.heap.objs.size (.lst (ys ++ [yv]))) I9 rfl (.cons r9 .nil) ⟨_,ys,yv,rfl,rfl,hys,hlt,rfl⟩) (fun _ s10 ⟨_,H10,I10,_,e10⟩=>?_) fun _ _ z=>z.elim
    subst e10
    refine ⟨m',hm,i + 1,some v,_,I10.unpinned,T.keep _ _ _ st7 fun b hb o e=>(I10.pin (b,o) (List.mem_append_right _ (List.mem_append_right _ (mem_pinsAt hb e)))).1,fun b hb=>?_,w9'⟩
    obtain ⟨o,e,d⟩:=T.obj _ _ st7 b hb
    exact (I10.pin (b,o) (List.mem_append_right _ (List.mem_append_right _ (mem_pinsAt hb e)))).2.1
  ·obtain ⟨o,ho,_⟩:=T.obj 0 _ st2 b hb
   rw [upd_ne (Nat.ne_of_lt (Heap.lt_size ho))]
   exact (f2 b hb).1
 exact codeAny_compStart_list loop (T.self X.A 0 _ _ _ (T.keep 0 _ _ st2 (fun b _ o e=>old b o e)) loop)
end
def tJoin (t u:TS):TS:=fun D σ H=>∃ J:L2.St→Hp→Prop,t { D with nx:=J } σ H∧∀ σ' H',J σ' H'→u D σ' H'
theorem pss_join {X:Cx} {st:Stmt} {rest:List Stmt} {t u:TS} (h1:PS X st t) (h2:PSs X rest u):PSs X (st :: rest) (tJoin t u):=by
 intro pins s σ H D I h
 obtain ⟨J,h,hJ⟩:=h
 refine wpAny_execs_cons (thn (h1 pins s σ H { D with nx:=J } I h) fun f s1 q=>?_)
 cases f with
 | next =>
  obtain ⟨σ',H',I',q⟩:=q
  exact h2 pins s1 σ' H' D I' (hJ _ _ q)
 | ret v=>exact q
 | brk=>exact q
 | cont=>exact q
end Ow
namespace Ow
open PySem PySem.Spec PyProof.Rows L2
section
variable {X:Cx}
theorem vals_at {xs:List V} {us:List Value} (r:Vals xs us) {j:Nat} (h1:j < us.length):RelV (xs.getD j .non) us[j]:=by
 have hl:=r.length
 have hj:j < xs.length:=by omega
 obtain ⟨u,hu,ru⟩:=r.get (i:=j) (x:=xs[j]) (List.getElem?_eq_getElem hj)
 rw [List.getElem?_eq_getElem h1] at hu
 rw [List.getD_eq_getElem?_getD,List.getElem?_eq_getElem hj]
 cases hu
 exact ru
structure ClsFn (K:PySem.W.Frag) (C:Addr) (m:Str) (f:Addr):Prop where
 reads:PySem.W.readsIn K C (.type "type") = true
 ga:PySem.W.specialIn K (.ref C) "__getattribute__" = some (some (.builtin "type.__getattribute__"))
 fnd:PySem.W.findCls K (.ref C) (.type "type") m = some (.val (.ref f))
 hd:PySem.W.handedIn (.ref f) = true
 kp:PySem.W.keepIn K (.ref f) = true
theorem pe_clsm {pl:Sem Bool} {k:Nat} {f C:Addr} {fd:FuncData} {ps:List Str} {sp:Sp} {cn m:Str} {p pos apos:Pos} {e:Expr} {es:List Expr} {t:TA} (hg:Gl X cn) (hC:X.mg cn = some (.ref C)) (cf:ClsFn X.K C m f)
  (F:FnOk X.prog X.w X.K X.mg X.base CX0 k f fd ps sp) (hr:Room k X.A) (hb:Binds X.K fd ps []) (ha:PA X (e :: es) t) (hdb:(cn == ("__debug__":Str)) = false:=by decide)
  (hst:starEach (e :: es) X.env = (false,eval e X.env) :: starEach es X.env:=by rfl) (hpl:(backTo pos (starEach es X.env)).any (·.1) = false:=by rfl)
  (ht:eval (.Call (.Attribute (.Name cn p) m apos) (e :: es) [] pos) X.env = (do
   let ov ← eval (.Name cn p) X.env
   standAt apos.atName
   let (f,first) ← holding [ov] (getMethod ov m pl)
   callWith pos f first (backTo pos (starEach (e :: es) X.env)) (backToKw pos (keywordEach [] X.env))):=by rfl) :
  PE X (.Call (.Attribute (.Name cn p) m apos) (e :: es) [] pos) (tCall sp [] E0 t):=by
 intro pins s σ H Q I h
 refine PySem.W.methodCall_KW (pl:=pl) (ld_glob I hg hC ?_ hdb) ht
 refine PySem.W.method_cls I.kIn cf.ga (PySem.W.cls_value I.kIn cf.reads cf.fnd cf.hd ?_)
 have I1:=I.tok (s.toks + 1)
 refine PySem.W.callWith_K (first:=[]) (h₀:=X.base) I.ok.mod.kin cf.kp (thn (ha pos pins _ σ H _ I1 h) fun us s2 ⟨vs,H2,I2,r,q2⟩=>⟨I2.kIn,?_⟩) hst hpl
 exact run_fn (us:=us) (vs:=vs) F hr hb .nil pass0 I2 r q2
end
end Ow
namespace Ow
open PySem PySem.Spec PyProof.Rows L2
section
variable {X:Cx}
def rAddL (K:PySem.W.Frag):R2:=fun x y H Q=>∃ a b xs ys,x = .ref a∧y = .ref b∧SqL K H a xs∧SqL K H b ys∧xs.length + ys.length≤sizeLine∧∀ p,H p = none→Q (.ref p) (upd H p (.lst (xs ++ ys)))
theorem op_addL:OpR X (binaryOp .Add) (rAddL X.K):=by
 intro pins s σ H x y v u Q I rx ry h
 obtain ⟨a,b,xs,ys,rfl,rfl,ha,hb,hz,q⟩:=h
 cases rx
 cases ry
 obtain ⟨its,r,pl,_⟩:=I.list ha
 obtain ⟨its2,r2,pl2,_⟩:=I.list hb
 have hl:=r.length
 have hl2:=r2.length
 obtain ⟨⟨cls,dd,data,sl⟩,ho,hc,n,hd⟩:=id pl.isList
 obtain ⟨⟨cls2,dd2,data2,sl2⟩,ho2,hc2,n2,hd2⟩:=id pl2.isList
 simp only at hc hd hc2 hd2
 subst hc hd hc2 hd2
 have e:its.toArray ++ its2.toArray = (its ++ its2).toArray:=by simp
 refine concat_meets ⟨_,ho,rfl⟩ ⟨_,ho2,rfl⟩ noFill_list_add seq_list_add PySem.F.slot_list_add PySem.F.entry_list_add (PySem.F.args_list_add_2 _ _) (list_addW a b its.toArray its2.toArray n n2 dd dd2 sl sl2 (by simp; omega)) ⟨ho,ho2,?_⟩
 rw [e]
 exact ⟨.ref s.heap.objs.size,_,I.lnew (t':=s.toks) (r.append r2) (by rw [List.length_append]; exact hz),rfl,q _ I.fresh⟩
variable {tg:Expr}
inductive EqD (K:PySem.W.Frag) (H:Hp):Nat→V→V→Bool→Prop where
 | flat {d:Nat} {x y:V} (fx:flatV x = true) (fy:flatV y = true):EqD K H d x y (eqV x y)
 | tup {d:Nat} {p q:Addr} {xs ys:List V} {e:Nat→Bool} (hn:p ≠ q) (hx:SqT K H p xs) (hy:SqT K H q ys) (he:∀ j,j < xs.length→j < ys.length→EqD K H d (xs.getD j .non) (ys.getD j .non) (e j)) :
   EqD K H (d + 1) (.ref p) (.ref q) ((List.range (min xs.length ys.length)).all e && xs.length == ys.length)
 | lst {d:Nat} {p q:Addr} {xs ys:List V} {e:Nat→Bool} (hn:p ≠ q) (hx:SqL K H p xs) (hy:SqL K H q ys) (hl:xs.length = ys.length) (he:∀ j,j < xs.length→EqD K H d (xs.getD j .non) (ys.getD j .non) (e j)) :
   EqD K H (d + 1) (.ref p) (.ref q) ((List.range xs.length).all e)
 | same {d:Nat} {p:Addr}:EqD K H d (.ref p) (.ref p) true
theorem EqD.at {pins:List (Addr × Obj)} {σ:L2.St} {H:Hp} {s:Shared} (I:Inv X pins σ H s):∀ {d:Nat} {x y:V} {b:Bool} {u v:Value} {A:Around},EqD X.K H d x y b→RelV x u→RelV y v→A.units + d < cLine→SeqAt.EqAt A s u v b:=by
 intro d x y b u v A h
 induction h generalizing u v A with
 | flat fx fy=>intro rx ry _; exact eqAt_V rx ry fx fy
 | same=>intro rx ry _; cases rx; cases ry; exact SeqAt.EqAt.same _
 | @tup d p q xs ys e hn hx hy he ih =>
  intro rx ry hu
  cases rx
  cases ry
  obtain ⟨its,r,pl,_⟩:=I.tuple hx
  obtain ⟨its2,r2,pl2,_⟩:=I.tuple hy
  have hl:=r.length
  have hl2:=r2.length
  have:=SeqAt.EqAt.of_refs hn (SeqAt.RcAt.tuples (A:=A) (e:=e) pl pl2 (by omega) (fun j h1 h2=>by
   have h1':j < its.length:=by simpa using h1
   have h2':j < its2.length:=by simpa using h2
   have z:=ih j (by omega) (by omega) (vals_at r h1') (vals_at r2 h2') (A:=A.in1) (by show A.units + 1 + d < _; omega)
   simpa using z))
  simp only [List.size_toArray,← hl,← hl2] at this
  exact this
 | @lst d p q xs ys e hn hx hy hle he ih =>
  intro rx ry hu
  cases rx
  cases ry
  obtain ⟨its,r,pl,_⟩:=I.list hx
  obtain ⟨its2,r2,pl2,_⟩:=I.list hy
  have hl:=r.length
  have hl2:=r2.length
  have:=SeqAt.EqAt.of_refs hn (SeqAt.RcAt.lists (A:=A) (e:=e) pl.isList pl2.isList (by simp only [List.size_toArray]; omega) (by omega) (fun j h1 h2=>by
   have h1':j < its.length:=by simpa using h1
   have h2':j < its2.length:=by simpa using h2
   have z:=ih j (by omega) (vals_at r h1') (vals_at r2 h2') (A:=A.in1) (by show A.units + 1 + d < _; omega)
   simpa using z))
  simp only [List.size_toArray,← hl] at this
  exact this
end
end Ow
namespace Ow
open PySem PySem.Spec PyProof.Rows L2
section
variable {X:Cx} {tg:Expr}
variable {elt iter:Expr} {x:Str} {px pos:Pos} {scope:Scope} {wi:TI} {te:TE} {cl:List (Str × Addr)}
theorem comp_range {lo:Int} {n:Nat} {D:Addr} {te':TE} {tl:L2.St} {G:Hp→Prop} {H1:Hp} (Pv:Nat→Hp→Prop) (h0:Pv 0 (upd H1 D (.lst [])))
  (hs:∀ (i:Nat) H,i < n→Pv i H→te' (some (.int (lo + i)) :: tl) H fun y H2=>∃ ys,H2 D = some (.lst ys)∧ys.length < sizeLine∧Pv (i + 1) (upd H2 D (.lst (ys ++ [y]))))
  (mono:∀ (σ:L2.St) H Q Q',(∀ y H2,Q y H2→Q' y H2)→te' σ H Q→te' σ H Q')
  (hd:∀ H,Pv n H→G H) :
  ∃ W:Nat→Nat→Hp→Prop,(∃ m,W 0 m (upd H1 D (.lst [])))∧∀ i m H,W i m H →
   ((Itr lo n).stop i H∧G H)∨((Itr lo n).go i H∧∀ x H',(Itr lo n).yld i H x H'→te' (some x :: tl) H' fun y H2=>∃ ys,H2 D = some (.lst ys)∧ys.length < sizeLine∧∃ m',m' < m∧W (i + 1) m' (upd H2 D (.lst (ys ++ [y])))):=by
 refine ⟨fun i m H=>m = n - i∧i≤n∧Pv i H,⟨n,by simp,Nat.zero_le _,h0⟩,?_⟩
 rintro i m H ⟨rfl,hi,p⟩
 by_cases hlt:i < n
 ·refine .inr ⟨hlt,fun x H' y=>?_⟩
  obtain ⟨e,y⟩:=y
  subst e y
  refine mono _ _ _ _ (fun y H2 ⟨ys,a,b,c⟩=>⟨ys,a,b,n - (i + 1),by omega,rfl,hlt,c⟩) (hs i _ hlt p)
 ·have e:i = n:=by omega
  subst e
  exact .inl ⟨Nat.le_refl _,hd H p⟩
structure CHas (P:Program) (w:World) (K:PySem.W.Frag) (mg:Str→Option Value) (base:Heap) (k:Nat) (C:Addr) (x:Str) (ps:List Str) (sp:Sp):Prop where
 ex:∃ (f:Addr) (fd:FuncData),Mk K C f∧FnOk P w K mg base CX0 k f fd ps sp∧Binds K fd ps []∧mg x = some (.ref C)
theorem pe_mkP {k:Nat} {C:Addr} {y:Str} {ps:List Str} {sp:Sp} {p:Pos} {e:Expr} {es:List Expr} {t:TA} (h:CHas X.prog X.w X.K X.mg X.base k C y ps sp) (hr:Room (k + 1) X.A) (hg:Gl X y) (ha:PA X (e :: es) t) (hdb:(y == ("__debug__":Str)) = false:=by decide)
  (he:starEach (e :: es) X.env = (false,eval e X.env) :: starEach es X.env:=by rfl) (hpl:(backTo pos (starEach es X.env)).any (·.1) = false:=by rfl) :
  PE X (.Call (.Name y p) (e :: es) [] pos) (tMake C sp [] E0 t):=by
 obtain ⟨f,fd,M,F,b,m⟩:=h.ex
 exact pe_make M F hr hg m b .nil pass0 ha hdb he hpl
structure BHas (P:Program) (w:World) (K:PySem.W.Frag) (mg:Str→Option Value) (base:Heap) (k:Nat) (x m:Str) (ps:List Str) (sp:Sp):Prop where
 ex:∃ (C f:Addr) (fd:FuncData),ClsFn K C m f∧FnOk P w K mg base CX0 k f fd ps sp∧Binds K fd ps []∧mg x = some (.ref C)
theorem pe_clsP {pl:Sem Bool} {k:Nat} {ps:List Str} {sp:Sp} {cn m:Str} {p apos:Pos} {e:Expr} {es:List Expr} {t:TA} (h:BHas X.prog X.w X.K X.mg X.base k cn m ps sp) (hr:Room k X.A) (hg:Gl X cn) (ha:PA X (e :: es) t) (hdb:(cn == ("__debug__":Str)) = false:=by decide)
  (hst:starEach (e :: es) X.env = (false,eval e X.env) :: starEach es X.env:=by rfl) (hpl:(backTo pos (starEach es X.env)).any (·.1) = false:=by rfl)
  (ht:eval (.Call (.Attribute (.Name cn p) m apos) (e :: es) [] pos) X.env = (do
   let ov ← eval (.Name cn p) X.env
   standAt apos.atName
   let (f,first) ← holding [ov] (getMethod ov m pl)
   callWith pos f first (backTo pos (starEach (e :: es) X.env)) (backToKw pos (keywordEach [] X.env))):=by rfl) :
  PE X (.Call (.Attribute (.Name cn p) m apos) (e :: es) [] pos) (tCall sp [] E0 t):=by
 obtain ⟨C,f,fd,cf,F,b,g⟩:=h.ex
 exact pe_clsm hg g cf F hr b ha hdb hst hpl ht
end
end Ow
namespace Ow
open PySem PySem.Spec PyProof.Rows L2
section
variable {X:Cx}
theorem ix_tupK {K:PySem.W.Frag} (h:X.K = K):IxR X (rIxT K):=by
 subst h
 exact ix_tup
variable {elt iter:Expr} {x:Str} {px pos:Pos} {scope:Scope} {wi:TI} {te:TE} {cl:List (Str × Addr)}
theorem ps_compC {i:Nat} {y:Str} {py spos:Pos} (hNX:X.N.Nodup) (hiy:X.N[i]? = some y) (hly:Loc X.env.scope y) (hsw:swapsWith (.ListComp elt [⟨.Name x px,iter,[],0⟩] scope pos) (some (.Name y py)) spos.line X.env = pure true) (js:List Nat) (ns:List Str) (hc:X.calm = true) (hclos:closureFor scope X.env = pure cl) (hcls:cl.map (·.1) = ns) (hsub:∀ p ∈ cl,X.env.cells.lookup p.1 = some p.2)
  (hno:∀ p ∈ scope.names,p.2 ≠ .cell∧(p.2 = .free→p.1 ∈ ns)) (hkind:scope.kind = .function) (hnames:∀ y ∈ scope.names,y.2 = .local→scope.names.lookup y.1 = some .local) (hx:scope.names.lookup x = some .local)
  (hN:(x :: ns).Nodup) (hkd:∀ y ∈ ns,(Env.kindOf (compEnvC scope cl 0 X.env) y = some .cell∨Env.kindOf (compEnvC scope cl 0 X.env) y = some .free)∧X.env.kindOf y = some .cell)
  (hjl:js.length = ns.length) (hj:js.map (fun j=>X.N[j]?) = ns.map some)
  (hi:PI X (.Name x px) iter wi) (he:∀ C s2 H2 fp,PE (cxComp X (x :: ns) scope cl C s2 H2 fp) elt te)
  (hs:∀ z,foldedSetIterable iter X.env z = pure z:=by intro _; rfl) (hf:X.fn y = true∨X.env.scope.names.lookup y = some .local:=by first | exact .inl rfl | exact .inr rfl | assumption) :
  PS X (.Assign [.Name y py] (.ListComp elt [⟨.Name x px,iter,[],0⟩] scope pos) spos) (tAsg (tComp wi te fun σ=>js.map fun j=>(σ[j]?).getD none) (gName i)):=by
 refine ps_comp hNX hiy hly hsw (N:=ns) (cl:=cl) hc hclos (fun n c e=>hsub (n,c) (PySem.mem_of_lookup e)) (fun y hy=>(hno y hy).1) hkind hnames hx (fun y hy=>?_) hN (fun σ=>by rw [List.length_map]; exact hjl) (fun σ i y v _ e1 e2=>?_) hi he hs hf
 ·have sub:∀ (l:List (Str × NameKind)),(∀ p ∈ l,p.2 ≠ .cell∧(p.2 = .free→p.1 ∈ ns))→∀ p ∈ (l.map fun (n,k)=>if (k == NameKind.free && X.env.scope.kind == ScopeKind.function && X.env.kindOf n == some NameKind.cell) then (n,NameKind.cell) else (n,k)),(p.2 = .cell∨p.2 = .free)→p.1 ∈ ns:=by
   intro l hl p hp hk
   obtain ⟨q,hq,e⟩:=List.mem_map.mp hp
   have h1:=hl q hq
   obtain ⟨n,k⟩:=q
   dsimp only at e
   by_cases hf:k = .free
   ·have h2:=h1.2 hf
    split at e
    ·rw [← e]; exact h2
    ·rw [← e]; exact h2
   ·have hf':(k == NameKind.free) = false:=by
     cases k <;> first | rfl | exact absurd rfl hf
    rw [hf',Bool.false_and,Bool.false_and,if_neg (by decide)] at e
    rw [← e] at hk
    rcases hk with z | z
    ·exact absurd z h1.1
    ·exact absurd z hf
  have hy':y ∈ ns:=by
   rcases hy with z | z
   ·exact sub scope.names hno (y,.cell) (PySem.mem_of_lookup z) (.inl rfl)
   ·exact sub scope.names hno (y,.free) (PySem.mem_of_lookup z) (.inr rfl)
  rw [← hcls] at hy'
  have key:∀ l:List (Str × Addr),y ∈ l.map (·.1)→∃ c,l.lookup y = some c:=by
   intro l
   induction l with
   | nil=>intro h; simp at h
   | cons p r ih =>
    intro h
    by_cases e:y = p.1
    ·exact ⟨p.2,by obtain ⟨p1,p2⟩:=p; dsimp only at e; subst e; simp [List.lookup]⟩
    ·have h':y ∈ r.map (·.1):=by
      rw [List.map_cons] at h
      exact (List.mem_cons.mp h).resolve_left e
     obtain ⟨c,hc'⟩:=ih h'
     refine ⟨c,?_⟩
     obtain ⟨p1,p2⟩:=p
     have:(y == p1) = false:=by simpa using e
     rw [List.lookup_cons,this]
     exact hc'
  exact key cl hy'
 ·have hm:y ∈ ns:=List.mem_of_getElem? e1
  refine ⟨(hkd y hm).1,(hkd y hm).2,?_⟩
  rw [List.getElem?_map] at e2
  cases hji:js[i]? with
  | none=>rw [hji] at e2; cases e2
  | some j =>
   rw [hji] at e2
   have e3:(σ[j]?).getD none = some v:=by
    have:=Option.some.inj e2
    exact this
   have e4:=congrArg (fun l=>l[i]?) hj
   rw [List.getElem?_map,List.getElem?_map,hji,e1] at e4
   have e5:X.N[j]? = some y:=by
    have:=Option.some.inj e4
    exact this
   refine ⟨j,e5,?_⟩
   cases hσ:σ[j]? with
   | none=>rw [hσ] at e3; cases e3
   | some o =>
    rw [hσ] at e3
    have e6:o = some v:=e3
    rw [e6]
end
end Ow
namespace Ow
open PySem PySem.Spec PyProof.Rows L2
structure Gnd (P:Program) (w:World) (base:Heap) (fs:List Addr) (H H':Hp) (h B:Heap):Prop where
 st:base.StaysIn B
 keep:∀ b o,h.get? b = some o→H b = none→b ∉ fs→B.get? b = some o
 free:∀ b o,h.get? b = some o→H b = none→H' b = none
 there:∀ b o,h.get? b = some o→b ∉ fs→∃ o',B.get? b = some o'
 tups:∀ b xs,H b = some (.tup xs)→H' b = some (.tup xs)
 frzs:∀ b o u,H b = some (.frz o u)→H' b = some (.frz o u)
 tbls:∀ b ps,H b = some (.tbl ps)→∃ more,H' b = some (.tbl (ps ++ more))
 hok:HOk P w H' B
def Slots (fs:List Addr) (h h':Heap):Prop:=∀ b ∈ fs,∀ o,h.get? b = some o→∃ sl,h'.get? b = some { o with slots:=sl }
section
variable {P:Program} {w:World} {base h h1 h2 B:Heap} {fs:List Addr} {H H':Hp} {l:List Env}
theorem Gnd.un (G:Gnd P w base fs H H' h B) (sb:B.StaysIn h1) (sl:Slots fs h h1):Un fs [] H H' h h1 where
 keep:=fun b o q n hb _=>sb _ _ (G.keep b o q n hb)
 slot:=fun b o q _ hb _=>sl b hb o q
 free:=fun b o q n _=>G.free b o q n
 there:=fun b o q _=>by
  by_cases hb:b ∈ fs
  ·obtain ⟨s,e⟩:=sl b hb o q
   exact ⟨_,e⟩
  ·obtain ⟨o',e⟩:=G.there b o q hb
   exact ⟨o',sb _ _ e⟩
 tups:=G.tups
 frzs:=G.frzs
 tbls:=G.tbls
theorem Slots.on (x:Slots (frs l) h h1) (hl:h1.FunFrames B l) (u:h1.UpToSlots h2):Slots (frs l) h h2:=fun b hb o q=>by
 obtain ⟨sl,e⟩:=x b hb o q
 obtain ⟨_,o1,e1,d1⟩:=hl.mem hb
 rw [e] at e1
 cases e1
 obtain ⟨s2,e2⟩:=u b _ e d1
 exact ⟨s2,e2⟩
end
abbrev VE:List Value:=[.type "ValueError",.type "Exception",.type "BaseException",.type "object"]
section
variable {P:Program} {w:World} {K:PySem.W.Frag} {mg:Str→Option Value} {base:Heap} {N:List Str} {qual:Str} {scope:Scope} {f:Addr} {cdv:Value} {A:Around} {outer:List Env} {s₀:Shared} {H₀:Hp} {E:XK}
end
def caught (X:Cx) (a:Addr) (oe:Obj):Cx:={ X with A:=X.A.mark (some (.ref a)),calm:=false,pn:=(a,oe) :: X.pn }
section
variable {X:Cx} {pins:List (Addr × Obj)} {σ:L2.St} {H:Hp} {s:Shared} {a:Addr} {oe:Obj}
theorem caught_inv (I:Inv X pins σ H s) (e:s.heap.get? a = some oe) (n:H a = none) (hl:a ≠ X.env.locals) (hf:a ∉ X.fs) (hd:∀ v,oe.data ≠ .cell v):Inv (caught X a oe) pins σ H s :=
 ⟨⟨I.ok.mod,I.ok.kind,I.ok.glob,I.ok.blt,I.ok.above,I.ok.inj,I.ok.has,I.ok.cab,(fun z=>nomatch z),I.ok.frames,I.ok.stk,I.ok.exf,I.ok.bs,I.ok.bsz,I.ok.noex,I.ok.exfs,I.ok.funs,I.ok.frf⟩,
  I.os,I.bare,I.base,I.loc,I.cell,I.free,I.freeC,fun p hp=>by
   rcases List.mem_cons.mp (show p ∈ (a,oe) :: (X.pn ++ pins) from hp) with rfl | hp
   ·exact ⟨e,n,hl,hf,hd⟩
   ·exact I.pin p hp,I.hok,I.len⟩
theorem suite_end {h':Heap} {m':Str→Option Value} {t':Nat} (I:Inv (caught X a oe) pins σ H s) (okX:X.Ok) (hn:h'.Ns X.env.locals m') (hs:Heap.SameBut X.env.locals s.heap h') :
  Inv X pins (List.replicate X.N.length none) H { s with heap:=h',toks:=t' }:=by
 have neL:∀ b o,X.s₀.heap.get? b = some o→b ≠ X.env.locals:=fun b o e=>Nat.ne_of_lt (Nat.lt_of_lt_of_le (Heap.lt_size e) okX.above)
 refine ⟨okX,I.os,I.bare,⟨fun b o e n hb hx=>?_,fun b o e n hb hx=>?_,I.base.free,fun b o e hx=>?_,I.base.tups,I.base.frzs,I.base.tbls⟩,⟨m',hn,fun i x v e1 e2 e3=>?_⟩,fun x c e=>?_,I.free,I.freeC,fun p hp=>?_,fun b ob e=>?_,List.length_replicate ..⟩
 ·exact (hs.2 b (neL b o e)).trans (I.base.keep b o e n hb hx)
 ·obtain ⟨sl,e1⟩:=I.base.slot b o e n hb hx
  exact ⟨sl,(hs.2 b (neL b o e)).trans e1⟩
 ·obtain ⟨o',e1⟩:=I.base.there b o e hx
  exact ⟨o',(hs.2 b (neL b o e)).trans e1⟩
 ·rw [List.getElem?_replicate] at e2
  split at e2 <;> cases e2
 ·obtain ⟨v,z⟩:=I.cell x c e
  exact ⟨v,z.sameBut hs (I.cne x c e)⟩
 ·obtain ⟨e,n,ne,nf,d⟩:=I.pin p (List.mem_cons_of_mem _ hp)
  exact ⟨(hs.2 p.1 ne).trans e,n,ne,nf,d⟩
 ·refine (I.hok b ob e).stay (fun c w' hc z=>(hs.2 c ?_).trans z) (fun _ z=>z) fun _ _ z=>z
  have fr:H X.env.locals = none:=I.free
  rintro rfl
  rcases hc with rfl | hc
  ·rw [fr] at e; cases e
  ·rw [fr] at hc; cases hc
end
section
variable {X:Cx} {k i j:Nat} {f y n c:Str} {ps:List Str} {sp:Sp} {e:Expr} {es:List Expr} {ta:TA} {C₁:Addr} {b₀:Stmt} {suite:List Stmt} {tb:Addr→Obj→TS} {py p pos apos np hpos tpos:Pos}
end
structure ExF (K:PySem.W.Frag) (C:Addr):Prop where
 ga:PySem.W.findIn K (.ref C) "__getattribute__" = some (some (.builtin "BaseException.__getattribute__"))
 gn:PySem.W.findIn K (.ref C) "__getattr__" = some none
 gc:PySem.W.findIn K (.ref C) "__class__" = some (some (.builtin "object.__class__"))
 mo:PySem.W.mroIn K C (.type "object") = some true
 mb:PySem.W.mroIn K C (.type "BaseException") = some true
section
variable {prog:Program} {w:World} {A:Around} {E:Value→Shared→Prop} {h:Heap} {g:Array GenState} {d:Drawn} {t:Nat} {os:OsState} {K:PySem.W.Frag} {a C:Addr} {o:Obj}
theorem exc_get {R:Result→Shared→Prop} (X:K.In h) (f:ExF K C) (hx:h.get? a = some o) (hc:o.cls = .ref C) (hq:R (.ok (.ret (.ref C))) ⟨h,g,d,t,os⟩) :
  codeAny (model prog w) A (.call (.builtin "getset_descriptor.__get__") ⟨[.builtin "object.__class__",.ref a,.ref C],[]⟩) R ⟨h,g,d,t,os⟩:=by
 have hT5:(⟨h,g,d,t,os⟩:Shared).TypeIs (.builtin "object.__class__") "getset_descriptor":=F.typeOf_object_class
 have L1:PySem.W.Looks (model prog w) h (isSubtype (.ref C) (.type (".".intercalate ("object.__class__".cutAt '.').dropLast))) true:=by
  rw [F.owner_object_class]
  exact PySem.W.looks_mroIn X f.mo
 refine codeAny_call_builtin F.slot_gs_get.plain F.entry_gs_get (F.slot_gs_get.check _ _ _ _ _ _ _ _ hT5 (F.args_gs_get _ _ _) ?_)
 repeat (any_goals (first | assumption | (with_reducible refine wpAny_loadPart_at hx ?_; rw [hc]) | with_reducible refine L1.at ?_ | wp_step))
 refine ⟨Code.quiet_builtin _ (by decide +kernel),codeAny_builtin F.entry_object_class ?_⟩
 repeat (any_goals (first | assumption | (with_reducible refine wpAny_loadPart_at hx ?_; rw [hc]) | wp_step))
theorem exc_entry {tk:Tok} {Q:Fin→Shared→Prop} (X:K.In h) (f:ExF K C) (hx:h.get? a = some o) (hc:o.cls = .ref C) (hq:Q (.done (.ret (.ref C))) ⟨h,g,d,t,os⟩) :
  wpAny (model prog w) A (Builtin.«object.__getattribute__» ⟨[.ref a,.str "__class__" tk],[]⟩) Q E ⟨h,g,d,t,os⟩:=by
 have hT5:(⟨h,g,d,t,os⟩:Shared).TypeIs (.builtin "object.__class__") "getset_descriptor":=F.typeOf_object_class
 have L1:=PySem.W.looks_findIn (M:=model prog w) X f.gc
 have f5:=F.typeOf_object_class
 have f6:=F.slot_gs_get.lookup
 have f7:=F.slot_gs_set.lookup
 repeat (any_goals (first | assumption | (with_reducible refine wpAny_loadPart_at hx ?_; rw [hc]) | with_reducible refine L1.at ?_ | wp_step))
 refine exc_get X f hx hc ?_
 repeat (any_goals (first | assumption | wp_step))
theorem exc_check {M:Model} {nv:Value} {Q:Unit→Shared→Prop} (X:K.In h) (f:ExF K C) (hx:h.get? a = some o) (hc:o.cls = .ref C) (hq:Q () ⟨h,g,d,t,os⟩) :
  wpAny M A (checkBuiltinCall "BaseException.__getattribute__" ⟨[.ref a,nv],[]⟩) Q E ⟨h,g,d,t,os⟩:=by
 have k1:builtinKind "BaseException.__getattribute__" = some .slot:=by decide +kernel
 have k2:splitId "BaseException.__getattribute__" = some ("BaseException", "__getattribute__"):=by decide +kernel
 have L1:=PySem.W.looks_mroIn (M:=M) X f.mb
 have k3:=F.args_bexc_ga (.ref a) nv
 simp only [checkBuiltinCall,k1,k2]
 refine wpAny_bind ?_
 unfold isInstance
 repeat (first | (with_reducible refine wpAny_loadPart_at hx ?_; rw [hc]) | with_reducible refine L1.at ?_ | wp_step)
 exact hq
theorem exc_call {tk:Tok} {R:Result→Shared→Prop} (X:K.In h) (f:ExF K C) (hx:h.get? a = some o) (hc:o.cls = .ref C) (hq:R (.ok (.ret (.ref C))) ⟨h,g,d,t,os⟩) :
  codeAny (model prog w) A (.call (.builtin "BaseException.__getattribute__") ⟨[.ref a,.str "__class__" tk],[]⟩) R ⟨h,g,d,t,os⟩ :=
 codeAny_call_builtin F.attr_ValueError.ga.plain F.entry_bexc_ga (exc_check X f hx hc (exc_entry X f hx hc hq))
theorem exc_by {tk:Tok} {fill:Bool} {Q:Value→Shared→Prop} (X:K.In h) (f:ExF K C) (hx:h.get? a = some o) (hc:o.cls = .ref C) (hq:Q (.ref C) ⟨h,g,d,t,os⟩) :
  wpAny (model prog w) A (getAttrBy (.ref a) (.str "__class__" tk) fill) Q E ⟨h,g,d,t,os⟩:=by
 have f3:=F.attr_ValueError.ga.bind (.ref a)
 have L1:=PySem.W.looks_findIn (M:=model prog w) X f.ga
 have L2:=PySem.W.looks_findIn (M:=model prog w) X f.gn
 have hx2:(Value.builtin "BaseException.__getattribute__" == Value.builtin "object.__getattribute__") = false:=by decide +kernel
 have hx1:(onTheHeap (Value.ref C) && Value.builtin "BaseException.__getattribute__" == Value.builtin "object.__getattribute__") = false:=by rw [hx2]; rfl
 have hx0:(false && onTheHeap (Value.builtin "BaseException.__getattribute__")) = false:=rfl
 repeat (any_goals (first | assumption | (with_reducible refine wpAny_loadPart_at hx ?_; rw [hc]) | with_reducible refine L1.at ?_ | with_reducible refine L2.at ?_ | wp_step))
 refine exc_call X f hx hc ?_
 repeat (any_goals (first | assumption | wp_step))
theorem exc_class {Q:Option Value→Shared→Prop} (X:K.In h) (f:ExF K C) (hx:h.get? a = some o) (hc:o.cls = .ref C) (hq:Q (some (.ref C)) ⟨h,g,d,t + 1,os⟩) :
  wpAny (model prog w) A (getAttr? (.ref a) "__class__") Q E ⟨h,g,d,t,os⟩:=by
 unfold getAttr? getAttrBy?
 refine wpAny_bind (wpAny_mkText (wpAny_bind (wpAny_attempt (exc_by X f hx hc ?_))))
 exact wpAny_pure hq
end
theorem kitx_exc {K:PySem.W.Frag} {a C:Addr} (f:ExF K C):PySem.W.KitX K (.ref a) (.ref C) (fun h=>∃ o,h.get? a = some o∧o.cls = .ref C) where
 ty:=fun M h _ p=>by
  obtain ⟨o,e1,e2⟩:=p
  exact e2 ▸ (PySem.W.Looks.ld e1).andThen .now
 it:=fun M h X _=>by
  obtain ⟨cd,e1,_⟩:=Option.bind_eq_some_iff.mp f.mo
  unfold PySem.W.clsIn at e1
  split at e1
  ·next c' d' cd' sl' e0 =>
   intro A' Q' E' s' k q
   unfold isType loadHead
   exact wpAny_bind (wpAny_loadPart (k _ _ (X _ _ e0)) (wpAny_pure q))
  ·cases e1
 ne:=fun h tp dd its n sl X htp=>by
  obtain ⟨cd,e1,_⟩:=Option.bind_eq_some_iff.mp f.mo
  refine Bool.eq_false_iff.mpr fun q=>?_
  have e:C = tp:=Value.ref.inj (beq_iff_eq.mp q)
  subst e
  unfold PySem.W.clsIn at e1
  split at e1
  ·next c' d' cd' sl' e0 =>
   have z:=(X _ _ e0).symm.trans htp
   cases z
  ·cases e1
 ca:=fun {prog w A E Q s} X p k=>by
  obtain ⟨hh,g,d,t,os⟩:=s
  obtain ⟨o,e1,e2⟩:=p
  exact exc_class X f e1 e2 k
theorem call_isinstX {X:Cx} {a:Addr} {oe:Obj} (hp:(a,oe) ∈ X.pn):CallR X (.builtin "isinstance") (fun xs H Q=>∃ (C:Addr) (c:V) (cv:Value) (b:Bool),xs = [.ref a,c]∧oe.cls = .ref C∧ExF X.K C∧clsV c = some cv∧PySem.W.kitOne X.K (.ref C) cv = some b∧Q (.bl b) H):=by
 intro pins s σ H xs us Q I r h
 obtain ⟨C,c,cv,b,rfl,hc,f,hcv,e,q⟩:=h
 obtain ⟨u,u',rfl,rx,rc⟩:=vals2 r
 cases clsV_rel rc hcv
 cases (show u = Value.ref a from rx)
 have pa:=I.pin _ (List.mem_append_left _ hp)
 exact PySem.W.kia_one (kitx_exc f) I.kIn ⟨oe,pa.1,hc⟩ e (fun z=>nomatch z) fun tk=>⟨.bl b,H,I.tok _,rfl,q⟩
theorem kitc_of {K:PySem.W.Frag} {C D:Addr} {b:Bool} (h1:PySem.W.isClsIn K D = true) (h2:PySem.W.typeIn K (.ref D) = some (.type "type")) (h3:PySem.W.mroIn K C (.ref D) = some b):PySem.W.kitCls K (.ref C) (.ref D) = some b:=by
 unfold PySem.W.kitCls
 have e:((PySem.W.clsIn K D).isSome && PySem.W.typeIn K (.ref D) == some (.type "type")) = true:=by
  rw [h2]
  have h1':(PySem.W.clsIn K D).isSome = true:=h1
  rw [h1',Bool.true_and]
  exact beq_self_eq_true _
 show (if ((PySem.W.clsIn K D).isSome && PySem.W.typeIn K (.ref D) == some (.type "type")) = true then PySem.W.subIn K (.ref C) (.ref D) else none) = _
 rw [if_pos e]
 exact h3
theorem exm_of {K:PySem.W.Frag} {C D:Addr} (h1:PySem.W.isClsIn K D = true) (h2:PySem.W.typeIn K (.ref D) = some (.type "type")) (h3:PySem.W.mroIn K C (.ref D) = some true) (h4:PySem.W.mroIn K D (.type "BaseException") = some true):PySem.W.exmOne K (.ref C) (.ref D) = some true:=by
 unfold PySem.W.exmOne
 have e:PySem.W.subIn K (.ref D) (.type "BaseException") = some true:=h4
 rw [e,if_pos (by rw [beq_self_eq_true])]
 exact kitc_of h1 h2 h3
end Ow
namespace Ow
open PySem PySem.Spec PyProof.Rows L2
section
variable {P:Program} {w:World} {K:PySem.W.Frag} {mg:Str→Option Value} {base:Heap} {N:List Str} {qual:Str} {scope:Scope} {f:Addr} {cdv:Value} {A:Around} {outer:List Env} {s₀:Shared} {H₀:Hp} {E:XK}
end
def pinned (X:Cx) (pins:List (Addr × Obj)):Cx:={ X with pn:=X.pn ++ pins }
section
variable {X:Cx} {pins pins':List (Addr × Obj)} {σ:L2.St} {H:Hp} {s:Shared} {E:L2.St→XK}
theorem to_pinned (I:Inv X pins σ H s):Inv (pinned X pins) [] σ H s :=
 ⟨⟨I.ok.mod,I.ok.kind,I.ok.glob,I.ok.blt,I.ok.above,I.ok.inj,I.ok.has,I.ok.cab,I.ok.hd,I.ok.frames,I.ok.stk,I.ok.exf,I.ok.bs,I.ok.bsz,I.ok.noex,I.ok.exfs,I.ok.funs,I.ok.frf⟩,
  I.os,I.bare,I.base,I.loc,I.cell,I.free,I.freeC,fun p hp=>I.pin p (by
   rw [List.append_nil] at hp
   exact hp),I.hok,I.len⟩
theorem of_pinned (okX:X.Ok) (I:Inv (pinned X pins) pins' σ H s):Inv X pins σ H s :=
 ⟨okX,I.os,I.bare,I.base,I.loc,I.cell,I.free,I.freeC,fun p hp=>I.pin p (List.mem_append_left _ hp),I.hok,I.len⟩
end
end Ow
namespace Ow
open PySem PySem.Spec PyProof.Rows L2
section
variable {X:Cx} {pins:List (Addr × Obj)} {σ:L2.St} {H:Hp} {s:Shared} {a:Addr} {oe:Obj} {j:Nat} {n:Str}
theorem suite_endK {h':Heap} {m:Str→Option Value} {v':Option Value} {t':Nat} (I:Inv (caught X a oe) pins σ H s) (okX:X.Ok) (hN:X.N.Nodup) (hj:X.N[j]? = some n)
  (hl:∀ (i:Nat) (x:Str) (v:V),X.N[i]? = some x→σ[i]? = some (some v)→Vis X.env.scope x→∃ u,RelV v u∧Look X.env s.heap m x u)
  (hn:h'.Ns X.env.locals (fun x=>if x = n then v' else m x)) (hs:Heap.SameBut X.env.locals s.heap h') :
  Inv X pins (σ.set j none) H { s with heap:=h',toks:=t' }:=by
 have neL:∀ b o,X.s₀.heap.get? b = some o→b ≠ X.env.locals:=fun b o e=>Nat.ne_of_lt (Nat.lt_of_lt_of_le (Heap.lt_size e) okX.above)
 refine ⟨okX,I.os,I.bare,⟨fun b o e n hb hx=>?_,fun b o e n hb hx=>?_,I.base.free,fun b o e hx=>?_,I.base.tups,I.base.frzs,I.base.tbls⟩,⟨_,hn,fun i x v e1 e2 e3=>?_⟩,fun x c e=>?_,I.free,I.freeC,fun p hp=>?_,fun b ob e=>?_,by rw [List.length_set]; exact I.len⟩
 ·exact (hs.2 b (neL b o e)).trans (I.base.keep b o e n hb hx)
 ·obtain ⟨sl,e1⟩:=I.base.slot b o e n hb hx
  exact ⟨sl,(hs.2 b (neL b o e)).trans e1⟩
 ·obtain ⟨o',e1⟩:=I.base.there b o e hx
  exact ⟨o',(hs.2 b (neL b o e)).trans e1⟩
 ·by_cases hij:i = j
  ·subst hij
   have hi:i < σ.length:=by have z:σ.length = X.N.length:=I.len; rw [z]; exact (List.getElem?_eq_some_iff.mp hj).1
   rw [List.getElem?_set_self hi] at e2
   cases e2
  ·rw [List.getElem?_set_ne (Ne.symm hij)] at e2
   obtain ⟨u',r',q⟩:=hl i x v e1 e2 e3
   refine ⟨u',r',?_⟩
   rcases q with ⟨k,e⟩ | ⟨k,c,e,z⟩
   ·refine .inl ⟨k,?_⟩
    have:x ≠ n:=fun e=>hij (nodup_ix hN e1 (e ▸ hj))
    simp [this,e]
   ·exact .inr ⟨k,c,e,z.sameBut hs (I.cne x c e)⟩
 ·obtain ⟨v,z⟩:=I.cell x c e
  exact ⟨v,z.sameBut hs (I.cne x c e)⟩
 ·obtain ⟨e,n,ne,nf,d⟩:=I.pin p (List.mem_cons_of_mem _ hp)
  exact ⟨(hs.2 p.1 ne).trans e,n,ne,nf,d⟩
 ·refine (I.hok b ob e).stay (fun c w' hc z=>(hs.2 c ?_).trans z) (fun _ z=>z) fun _ _ z=>z
  have fr:H X.env.locals = none:=I.free
  rintro rfl
  rcases hc with rfl | hc
  ·rw [fr] at e; cases e
  ·rw [fr] at hc; cases hc
end
def endsK (j:Nat) (D:Ends):Ends:={ nx:=fun σ H=>D.nx (σ.set j none) H,rt:=D.rt }
section
variable {X:Cx} {j:Nat} {n c:Str} {C₁:Addr} {b₀:Stmt} {suite:List Stmt} {tb:Addr→Obj→TS} {np hpos:Pos}
end
end Ow
namespace Ow
open PySem PySem.Spec PyProof.Rows L2
def Ctx0 (o:Obj):Prop:=∃ vs,o.data = .fields vs∧vs[2]? = some .none
def OwnD (c:Bool) (h:Heap) (e:Addr) (d:Option Addr):Prop:=∃ o,h.get? e = some o∧o.dict = d∧(c = true→Ctx0 o)
theorem mapF_dict (f:Array Value→Array Value) (o:Obj):(Obj.mapFields f o).dict = o.dict:=by
 obtain ⟨c,d,dt,sl⟩:=o
 cases dt <;> rfl
section
variable {M:Model} {A:Around} {E:Value→Shared→Prop} {s:Shared} {bs:Heap} {en:Env} {out:List Env} {L e:Addr} {c:Bool}
theorem entry_own {oe:Obj} {vs:Array Value} {hd0 a0:Value} {nx:Bool} {Q:Unit→Shared→Prop} (fr:A.frames = some (en :: out)) (ff:s.heap.FunFrames bs (en :: out)) (fl:en.frame = some L)
  (ge:s.heap.get? e = some oe) (st:bs.StaysIn s.heap) (ne:bs.get? e = none) (dt:oe.data = .fields vs) (z1:1 < vs.size) (z0:vs[0]? = some a0) (z2:c = true→vs[2]? = some .none)
  (k:∀ h',Heap.NotedW bs (en :: out) e oe.cls a0 (rawInt L) s.heap h'→OwnD c h' e oe.dict→Q () { s with heap:=h' }) :
  wpAny M A (do let a ← frameOf en; let pl ← entryPlaceOf L nx; let b ← EntryCells.newEntry hd0 a .none (rawInt L) .none pl; setField (.ref e) 1 b) Q E s:=by
 have nf:e ∉ (en :: out).filterMap (·.frame):=fun hm=>by
  obtain ⟨_,o,g1,g2⟩:=ff.mem hm
  rw [ge] at g1
  cases g1
  exact g2 _ dt
 refine wpAny_bind (wpAny_frameOf_fun fr ff fl fun h1 so=>wpAny_bind (wpAny_entryPlaceOf fun pl hpl=>?_))
 unfold EntryCells.newEntry newFields
 refine wpAny_bind (wpAny_newObj_type ?_ (hpl.sizeOk5 _ _ _ _ _))
 generalize hT:(([hd0,Value.ref L,Value.none,rawInt L,Value.none] ++ (if pl.isEmpty then List.replicate 6 Value.none else pl)).toArray:Array Value) = ts
 have t3:ts[3]? = some (rawInt L):=by
  rw [← hT]
  rfl
 have g1:h1.get? e = some oe:=(so.2.1 e nf).trans ge
 have g2:(h1.push { cls:=.type "traceback",dict:=none,data:=.fields ts }).get? e = some oe:=Heap.get?_push_of_some _ g1
 have neT:h1.objs.size ≠ e:=Nat.ne_of_gt (Heap.lt_size g1)
 have st1:bs.StaysIn h1:=fun b o hb=>(so.2.1 b fun hm=>by rw [(ff.mem hm).1] at hb; cases hb).trans (st b o hb)
 refine wpAny_setField g2 dt z1 (k _ ?_ ?_)
 ·have g3:=Heap.get?_update_self (Obj.mapFields (·.setIfInBounds 1 (Value.ref h1.objs.size))) g2 (Obj.isFreed_of_fields (Obj.data_mapFields dt _))
  have kp:∀ b o,b ≠ e→h1.get? b = some o→((h1.push { cls:=.type "traceback",dict:=none,data:=.fields ts }).update e (Obj.mapFields (·.setIfInBounds 1 (Value.ref h1.objs.size)))).get? b = some o:=fun b o hb q=>by
   rw [Heap.get?_update_other _ _ (Ne.symm hb)]
   exact Heap.get?_push_of_some _ q
  have nr:∀ b o,s.heap.get? b = some o→(∀ us,o.data ≠ .fields us)→b ≠ e:=fun b o q hn z=>by
   subst z
   rw [ge] at q
   cases q
   exact hn _ dt
  refine ⟨fun b o hb=>kp b o (fun z=>by rw [z,ne] at hb; cases hb) (st1 b o hb),ff.of_keeps fun b o q hn=>?_,⟨_,_,h1.objs.size,⟨.type "traceback",none,.fields ts,#[]⟩,ts,g3,⟨Obj.cls_mapFields _ _,?_⟩,Obj.data_mapFields dt _,?_,st1.fresh,neT,?_,rfl,t3⟩,fun b o q hn=>?_⟩
  ·obtain ⟨sl,e1⟩:=so.2.2 b o q
   exact ⟨_,kp b _ (nr b o q hn) e1,rfl⟩
  ·rw [Array.getElem?_setIfInBounds_ne (by decide)]
   exact z0
  ·rw [Array.getElem?_setIfInBounds_self_of_lt z1]
  ·exact (Heap.get?_update_other _ _ (Ne.symm neT)).trans (Heap.get?_push_size h1 rfl)
  ·obtain ⟨sl,e1⟩:=so.2.2 b o q
   exact ⟨sl,kp b _ (nr b o q hn) e1⟩
 ·exact ⟨_,Heap.get?_update_self _ g2 (Obj.isFreed_of_fields (Obj.data_mapFields dt _)),mapF_dict _ _,fun hc=>⟨_,Obj.data_mapFields dt _,by rw [Array.getElem?_setIfInBounds_ne (by decide)]; exact z2 hc⟩⟩
theorem note_own {cls a0:Value} {d:Option Addr} {Q:Unit→Shared→Prop} (fr:A.frames = some (en :: out)) (fl:en.frame = some L) (F:Heap.FlyingW bs (en :: out) e cls a0 s.heap) (D:OwnD c s.heap e d)
  (k:∀ h',Heap.HeldW bs (en :: out) e cls a0 L h'→OwnD c h' e d→s.heap.UpToSlots h'→Q () { s with heap:=h' }):wpAny M A (noteFrame (.ref e) en) Q E s:=by
 obtain ⟨st,ne,ff,oe,vs,T,oT,ts,ge,⟨rfl,z0⟩,dt,z1,nT,neT,gT,dT,t3⟩:=F
 obtain ⟨o1,g1,rfl,hc⟩:=D
 cases ge.symm.trans g1
 unfold noteFrame
 simp only [fl]
 refine wpAny_bind (wpAny_field ge dt z1 ?_)
 rw [if_pos (show (Value.ref T != Value.none) = true from rfl)]
 refine wpAny_bind (wpAny_field gT dT t3 ?_)
 rw [if_neg (show ¬ ((Value.none == rawInt L) = true) from fun z=>by cases z)]
 refine wpAny_bind (wpAny_setField gT dT (Array.getElem?_eq_some_iff.mp t3).1 ?_)
 have ot:∀ b,b ≠ T→(s.heap.update T (Obj.mapFields (·.setIfInBounds 3 Value.none))).get? b = s.heap.get? b:=fun b hb=>Heap.get?_update_other _ _ (Ne.symm hb)
 have nr:∀ b o,s.heap.get? b = some o→(∀ us,o.data ≠ .fields us)→b ≠ T:=fun b o q hn z=>by
  subst z
  rw [gT] at q
  cases q
  exact hn _ dT
 refine entry_own (s:={ s with heap:=s.heap.update T (Obj.mapFields (·.setIfInBounds 3 Value.none)) }) fr (ff.of_keeps fun b o q hn=>⟨o,(ot b (nr b o q hn)).trans q,rfl⟩) fl ((ot e (Ne.symm neT)).trans ge) (fun b o q=>(ot b fun z=>by subst z; rw [nT] at q; cases q).trans (st b o q)) ne dt
  (Array.getElem?_eq_some_iff.mp z1).1 z0 (fun h=>by obtain ⟨vs',q1,q2⟩:=hc h; rw [dt] at q1; cases q1; exact q2) fun h' ⟨x1,x2,x3,x4⟩ D'=>k h' ⟨x1,ne,x2,x3⟩ D' fun b o q hn=>x4 b o ((ot b (nr b o q hn)).trans q) hn
theorem flight_own {l:List Env} {cls a0 fv:Value} {d:Option Addr} {Q:Unit→Shared→Prop} (st:bs.StaysIn s.heap) (ne:bs.get? e = none) (ff:s.heap.FunFrames bs l) (tr:s.heap.TracedAtW bs e cls a0 fv) (D:OwnD c s.heap e d)
  (k:∀ h',Heap.FlyingW bs l e cls a0 h'→OwnD c h' e d→s.heap.UpToSlots h'→Q () { s with heap:=h' }):wpAny M A (setFlight (.ref e) none) Q E s:=by
 obtain ⟨oe,vs,T,oT,ts,ge,hc,dt,z1,nT,neT,gT,dT,t3⟩:=tr
 have ot:∀ b,b ≠ T→(s.heap.update T (Obj.mapFields (·.setIfInBounds 3 ((none:Option Addr).elim Value.none fun f=>rawInt f)))).get? b = s.heap.get? b:=fun b hb=>Heap.get?_update_other _ _ (Ne.symm hb)
 have nr:∀ b o,s.heap.get? b = some o→(∀ us,o.data ≠ .fields us)→b ≠ T:=fun b o q hn z=>by
  subst z
  rw [gT] at q
  cases q
  exact hn _ dT
 have z3:=(Array.getElem?_eq_some_iff.mp t3).1
 unfold setFlight
 refine wpAny_bind (wpAny_field ge dt z1 ?_)
 rw [if_pos (show (Value.ref T != Value.none) = true from rfl)]
 refine wpAny_setField gT dT z3 (k _ ⟨fun b o q=>(ot b fun z=>by subst z; rw [nT] at q; cases q).trans (st b o q),ne,ff.of_keeps fun b o q hn=>⟨o,(ot b (nr b o q hn)).trans q,rfl⟩,
  oe,vs,T,_,_,(ot e (Ne.symm neT)).trans ge,hc,dt,z1,nT,neT,Heap.get?_update_self _ gT (Obj.isFreed_of_fields (Obj.data_mapFields dT _)),Obj.data_mapFields dT _,Array.getElem?_setIfInBounds_self_of_lt z3⟩ ?_ fun b o q hn=>⟨o.slots,(ot b (nr b o q hn)).trans q⟩)
 obtain ⟨o1,g1,hd⟩:=D
 exact ⟨o1,(ot e (Ne.symm neT)).trans g1,hd⟩
theorem leave_first {oe:Obj} {vs:Array Value} {a0:Value} {Q:Unit→Shared→Prop} (fr:A.frames = some (en :: out)) (ff:s.heap.FunFrames bs (en :: out)) (fl:en.frame = some L)
  (ge:s.heap.get? e = some oe) (st:bs.StaysIn s.heap) (ne:bs.get? e = none) (dt:oe.data = .fields vs) (z1:vs[1]? = some .none) (z0:vs[0]? = some a0) (z2:c = true→vs[2]? = some .none)
  (k:∀ h',Heap.FlyingW bs out e oe.cls a0 h'→OwnD c h' e oe.dict→s.heap.UpToSlots h'→Q () { s with heap:=h' }):wpAny M A (leaving en (.ref e)) Q E s:=by
 unfold leaving noteFrame
 simp only [fl]
 refine wpAny_bind (wpAny_bind (wpAny_field ge dt z1 ?_))
 rw [if_neg (by decide)]
 refine entry_own fr ff fl ge st ne dt (Array.getElem?_eq_some_iff.mp z1).1 z0 z2 fun h1 ⟨x1,x2,x3,x4⟩ D1=>flight_own (s:={ s with heap:=h1 }) x1 ne x2 x3 D1 fun h2 ⟨y1,y2,y3,y4⟩ D2 u2=>?_
 obtain ⟨_,_,y3'⟩:=y3
 exact k h2 ⟨y1,y2,y3',y4⟩ D2 (Heap.UpToSlots.trans x4 u2)
end
end Ow
namespace Ow
open PySem PySem.Spec PyProof.Rows L2
theorem refuse_tail {h:Heap} {l:List Value} (self:Value) (T:OwnTail h VE l):refuseLoop self "__setattr__" l = pure ():=by
 induction T with
 | base=>exact PySem.F.store_ValueError.passes self
 | own _ _ _ _ ih=>rw [refuseLoop_ref]; exact ih
section
variable {prog:Program} {w:World} {A:Around} {E:Value→Shared→Prop} {s:Shared} {K:PySem.W.Frag} {x C N:Addr} {fs:Array Value} {sl:Array (Option Value)} {name:Str} {v:Value}
variable {nm qn:Str} {bs bm:List Value} {sn:List Str} {sub:List Value} {ab:Bool} {col:Option Bool} {dd:Option Addr} {k0 k1 k2 k3 k5:Option Value} {nid:String}
theorem set_exc {Q:Unit→Shared→Prop} (X:K.In s.heap) (hx:s.heap.get? x = some ⟨.ref C,none,.fields fs,sl⟩) (hC:s.heap.get? C = some (excClassObj nm qn C N bs bm true sn sub ab col dd k0 k1 k2 k3 k5 nid)) (T:OwnTail s.heap VE bm)
  (sa:PySem.W.findIn K (.ref C) "__setattr__" = some (some (.builtin "object.__setattr__"))) (na:PySem.W.findIn K (.ref C) name = some none) (mo:PySem.W.mroIn K C (.type "object") = some true)
  (k:∀ h' t',h'.get? x = some ⟨.ref C,some s.heap.objs.size,.fields fs,sl⟩→h'.Ns1 s.heap.objs.size (fun y=>if y = name then some v else none)→(∀ b o,b ≠ x→s.heap.get? b = some o→h'.get? b = some o)→Q () { s with heap:=h',toks:=t' }) :
  wpAny (model prog w) A (setAttr (.ref x) name v) Q E s:=by
 have I:PySem.W.InstAt s.heap x ⟨.ref C,none,.fields fs,sl⟩ C none:=⟨hx,rfl,rfl,True.intro⟩
 have SF:=PySem.F.store_object
 have su:PySem.W.Looks (model prog w) s.heap (isInstance (.ref x) (.type "object")) true:=I.type.andThen (PySem.W.looks_mroIn X mo)
 refine PySem.W.set_plain X I sa (codeAny_call_builtin SF.slot.plain SF.entry (@PySem.W.check_slot (model prog w) _ _ { s with toks:=s.toks + 1 } "object.__setattr__" "object" "__setattr__" (.ref x) [.str name s.toks,v] [] _ SF.kind SF.split su (SF.args (.ref x) (.str name s.toks) v) ?_))
 rw [PySem.W.osa_eq,refuse_eq]
 refine wpAny_bind (wpAny_bind (PySem.W.Looks.here (s:={ s with toks:=s.toks + 1 }) I.type (wpAny_bind (wpAny_mroOf_exc hC ?_))))
 rw [refuseLoop_ref,refuse_tail _ T]
 refine wpAny_pure (wpAny_bind (PySem.W.Looks.here (s:={ s with toks:=s.toks + 1 }) I.type (wpAny_bind (PySem.W.Looks.here (s:={ s with toks:=s.toks + 1 }) (PySem.W.looks_findIn X na) (wpAny_bind (wpAny_pure ?_))))))
 show wpAny _ _ (Builtin.ObjectAttr.storeInOwnDict (.ref x) (.ref C) (.str name s.toks) name v false) _ _ _
 have L1:PySem.W.Looks (model prog w) s.heap (classData C) _:=(PySem.W.Looks.ld (part:=none) hC).andThen .now
 have xs:x ≠ s.heap.objs.size:=Nat.ne_of_lt (Heap.lt_size hx)
 have hx1:(s.heap.push { cls:=.type "dict",data:=.dict #[] }).get? x = some ⟨.ref C,none,.fields fs,sl⟩:=Heap.get?_push_of_some _ hx
 have up:∀ f:Obj→Obj,f ⟨.ref C,none,.fields fs,sl⟩ = ⟨.ref C,some s.heap.objs.size,.fields fs,sl⟩→((s.heap.push { cls:=.type "dict",data:=.dict #[] }).update x f).get? x = some ⟨.ref C,some s.heap.objs.size,.fields fs,sl⟩:=fun f ef=>by
  rw [Heap.get?_update_self f hx1 (by rw [ef]; rfl),ef]
 refine wpAny_bind (wpAny_pure (wpAny_bind (wpAny_bind (wpAny_loadPart hx (wpAny_bind (PySem.W.Looks.here (s:={ s with toks:=s.toks + 1 }) L1 ?_))))))
 refine wpAny_bind (wpAny_alloc' (wpAny_bind (wpAny_update' hx1 (wpAny_pure ?_))))
 have gd:((s.heap.push { cls:=.type "dict",data:=.dict #[] }).update x fun o=>{ o with dict:=some s.heap.objs.size }).get? s.heap.objs.size = some { cls:=.type "dict",data:=.dict #[] } :=
  (Heap.get?_update_other _ _ xs).trans (Heap.get?_push_size _ rfl)
 have nd:((s.heap.push { cls:=.type "dict",data:=.dict #[] }).update x fun o=>{ o with dict:=some s.heap.objs.size }).Ns s.heap.objs.size (fun _=>none):=⟨_,#[],_,gd,rfl,fun e he=>absurd he (by simp),fun _=>rfl⟩
 refine wpAny_bind (wpAny_pure (wpAny_bind (wpAny_nsSet1 (Heap.Ns1.of_empty nd) fun h' n2 sb=>?_)))
 obtain ⟨oD,eD,pD,gD,dD,cD⟩:=n2.count (PySem.Within.cons name v PySem.Within.nil)
 refine wpAny_bind (wpAny_lookBehind gD (by rw [dD]; exact pastItsLine_dict (Nat.le_trans cD (by rw [List.length_cons,List.length_nil,sizeLine_eq]; omega))) ?_)
 refine wpAny_pure (k h' _ ?_ ?_ fun b o hb q=>?_)
 ·exact (sb.2 x xs).trans (up _ rfl)
 ·exact n2
 ·exact (sb.2 b (Nat.ne_of_lt (Heap.lt_size q))).trans ((Heap.get?_update_other _ _ (Ne.symm hb)).trans (Heap.get?_push_of_some _ q))
end
end Ow
namespace Ow
open PySem PySem.Spec PyProof.Rows L2
abbrev exF (t:Addr):Array Value:=#[.ref t,.none,.none,.none,.bool false,.none]
abbrev exT (v:Value):Obj:={ cls:=.type "tuple",data:=.seq [v].toArray }
section
variable {prog:Program} {w:World} {A:Around} {E:Value→Shared→Prop} {h:Heap} {g:Array GenState} {d:Drawn} {t:Nat} {os:OsState} {C N fI:Addr} {v:Value} {oI:Obj} {mN:Str→Option Value}
variable {nm qn:Str} {bs bm:List Value} {hdc:Bool} {sn:List Str} {sub:List Value} {ab:Bool} {col:Option Bool} {dd:Option Addr} {k0 k1 k2 k3 k5:Option Value}
theorem made_exc {Q:Fin→Shared→Prop} (T:OwnTail h VE bm) (hC:h.get? C = some (excClassObj nm qn C N bs bm hdc sn sub ab col dd k0 k1 k2 k3 k5 "ValueError.__new__")) (hn:h.Ns N mN) (hi:mN "__init__" = some (.ref fI))
  (gf:h.get? fI = some oI) (cf:oI.cls = .type "function")
  (k:wpAny (model prog w) A (call (.ref fI) [.ref (h.objs.size + 1),v]) (fun r s'=>r = .none∧Q (.done (.ret (.ref (h.objs.size + 1)))) s') E ⟨(h.push (exT v)).push { cls:=.ref C,data:=.fields (exF h.objs.size) },g,d,t,os⟩) :
  wpAny (model prog w) A (Builtin.«type.__call__» ⟨[.ref C,v],[]⟩) Q E ⟨h,g,d,t,os⟩:=by
 have F:=PySem.F.excBase_ValueError
 have st:∀ b o,h.get? b = some o→((h.push (exT v)).push { cls:=.ref C,data:=.fields (exF h.objs.size) }).get? b = some o:=fun b o e=>Heap.get?_push_of_some _ (Heap.get?_push_of_some _ e)
 have ge:((h.push (exT v)).push { cls:=.ref C,data:=.fields (exF h.objs.size) }).get? (h.objs.size + 1) = some { cls:=.ref C,data:=.fields (exF h.objs.size) }:=by
  have z:=Heap.get?_push_size (h.push (exT v)) (o:={ cls:=.ref C,data:=.fields (exF h.objs.size) }) rfl
  rwa [Heap.size_push] at z
 have cc:(Value.ref C :: bm).contains (.ref C) = true:=by rw [List.contains_cons,beq_self_eq_true,Bool.true_or]
 repeat (first | with_reducible refine wpAny_loadPart_at hC ?_ | with_reducible refine wpAny_madeBy_exc hC ?_ | wp_step)
 refine codeAny_call_builtin_code (Code.quiet_builtin _ F.quiet) (wpAny_check_new_subT F T hC (codeAny_exc_new_subT F T hC (rest:=[v]) ?_))
 show wpAny _ _ _ _ _ _
 unfold isInstance
 repeat (first | with_reducible refine wpAny_loadPart_at ge ?_ | (with_reducible refine wpAny_isSubtype_exc (st _ _ hC) ?_; rw [cc]) | wp_step)
 show wpAny _ _ (typeLookup (.ref C) _) _ _ _
 refine wpAny_typeLookup_tail (st _ _ hC) (hn.keeps st) (T.keeps st) F.mroIs F.init.lookup ?_
 rw [hi]
 refine wpAny_holding (wpAny_bind ?_)
 unfold bindSpecial
 refine wpAny_bind (wpAny_typeOf (T:="function") ⟨_,st _ _ gf,cf⟩ ?_)
 rw [if_pos (by decide)]
 refine wpAny_pure (wpAny_bind (wpAny_mono k (fun r s' q=>?_) fun _ _ z=>z))
 obtain ⟨rfl,q⟩:=q
 wp_walk
 exact q
theorem call_exc {Q:Value→Shared→Prop} (T:OwnTail h VE bm) (hC:h.get? C = some (excClassObj nm qn C N bs bm hdc sn sub ab col dd k0 k1 k2 k3 k5 "ValueError.__new__")) (hn:h.Ns N mN) (hi:mN "__init__" = some (.ref fI))
  (gf:h.get? fI = some oI) (cf:oI.cls = .type "function")
  (k:wpAny (model prog w) (A.under (.builtin "type.__call__" ⟨[.ref C,v],[]⟩)) (call (.ref fI) [.ref (h.objs.size + 1),v]) (fun r s'=>r = .none∧Q (.ref (h.objs.size + 1)) s') E ⟨(h.push (exT v)).push { cls:=.ref C,data:=.fields (exF h.objs.size) },g,d,t,os⟩) :
  wpAny (model prog w) A (call (.ref C) [v]) Q E ⟨h,g,d,t,os⟩:=by
 have f1:=tc_lookup
 have f2:=tc_bind (.ref C)
 have tT:(⟨h,g,d,t,os⟩:Shared).TypeIs (.ref C) "type":=⟨_,hC,rfl⟩
 refine wpAny_call (codeAny_of_tree ?_)
 show wpAny _ _ (callAny (.ref C) _) _ _ _
 repeat (any_goals (first | assumption | with_reducible refine wpAny_loadPart_at hC ?_ | wp_step))
 exact ⟨rfl,codeAny_call_builtin_at (Code.quiet_builtin _ (by decide +kernel)) entry_typeCall (wpAny_check_type_call_sub hC (made_exc T hC hn hi gf cf k))⟩
end
theorem raise_inst {M:Model} {A:Around} {E:Value→Shared→Prop} {s:Shared} {env:Env} {C N:Addr} {nm qn:Str} {bs bm:List Value} {hdc:Bool} {sn:List Str} {sub:List Value} {ab:Bool} {col:Option Bool} {dd:Option Addr} {k0 k1 k2 k3 k5:Option Value} {nid:String}
  {x:Sem Value} {Q:Flow→Shared→Prop} (hb:bm.contains (.type "BaseException") = true) (hh:A.handled = none)
  (k:wpAny M A x (fun v s1=>∃ (e t:Addr) (od:Option Addr),v = .ref e∧s1.heap.get? C = some (excClassObj nm qn C N bs bm hdc sn sub ab col dd k0 k1 k2 k3 k5 nid)∧s1.heap.get? e = some ⟨.ref C,od,.fields (exF t),#[]⟩∧E (.ref e) s1) E s) :
  wpAny M A (raiseStmt env (some x) none) Q E s:=by
 have cb:(Value.ref C :: bm).contains (.type "BaseException") = true:=by rw [List.contains_cons,hb,Bool.or_true]
 unfold raiseStmt
 refine wpAny_bind (wpAny_mono k (fun v s1 q=>?_) fun _ _ z=>z)
 obtain ⟨e,t,od,rfl,gC,ge,q⟩:=q
 obtain ⟨hp,g,d,tk,os⟩:=s1
 repeat (first | with_reducible refine wpAny_loadPart_at ge ?_ | with_reducible refine wpAny_loadPart_at gC ?_ | (with_reducible refine wpAny_isSubtype_exc gC ?_; rw [cb]) | wp_step)
 exact wpAny_raiseNew_none hh q
end Ow
namespace Ow
open PySem PySem.Spec PyProof.Rows L2
def excFn (K:PySem.W.Frag) (C f:Addr):Bool :=
 match K.lookup C with
 | some ⟨.type "type",_,.cls c,q⟩ =>
  (match c.mro,q.toList with
  | .ref D :: tl,[_,_,_,_,some (.builtin n),_]=>D == C && (n == "ValueError.__new__" && (!c.hasDel && (c.hasDict && (PySem.W.tailIn K VE tl && (PySem.W.nsOkIn K c.ns && PySem.W.nsIn K c.ns "__init__" == some (some (.ref f)))))))
  | _,_=>false)
 | _=>false
theorem ns_some {K:PySem.W.Frag} {h:Heap} {N:Addr} {m:Str→Option Value} {n:Str} {v:Value} (X:K.In h) (G:h.Ns N m) (e:PySem.W.nsIn K N n = some (some v)):m n = some v:=by
 obtain ⟨o,es,ep,go,hd,_,hf⟩:=G
 unfold PySem.W.nsIn at e
 split at e
 ·next q =>
  have z:=X _ _ q
  rw [go] at z
  cases z
  cases hd
  split at e
  ·next he =>
   cases e
   rw [← hf]
   unfold nsFind findBy
   rw [← Array.find?_toList,he]
   rfl
  ·split at e <;> cases e
 ·cases e
theorem exc_fn {K:PySem.W.Frag} {h:Heap} {C f:Addr} (X:K.In h) (q:excFn K C f = true) :
  ∃ bm N nm qn bs sn sub ab col dd k0 k1 k2 k3 k5 mN,h.get? C = some (excClassObj nm qn C N bs bm true sn sub ab col dd k0 k1 k2 k3 k5 "ValueError.__new__")∧h.Ns N mN∧mN "__init__" = some (.ref f)∧OwnTail h VE bm:=by
 unfold excFn at q
 split at q
 ·next d0 c0 s0 e0 =>
  split at q
  ·next D m1 y0 y1 y2 y3 n1 y5 em es =>
   simp only [beq_iff_eq,Bool.not_eq_true',Bool.and_eq_true] at q
   obtain ⟨eC,en,ed,eh,et,eo,ei⟩:=q
   subst eC en
   obtain ⟨a1,a2,a3,a4,a5,a6,a7,a8,a9,a10,a11⟩:=c0
   dsimp only at em ed eo ei eh
   subst em ed eh
   obtain ⟨l0⟩:=s0
   have es':l0 = [y0,y1,y2,y3,some (Value.builtin "ValueError.__new__"),y5]:=es
   subst es'
   have G:h.Ns a4 _:=.of_isNs (PySem.W.isNs_of_in X eo)
   exact ⟨m1,a4,a1,a5,a2,a7,a8,a9,a10,d0,y0,y1,y2,y3,y5,_,X _ _ e0,G,ns_some X G ei,PySem.W.tail_of_in X et⟩
  ·cases q
 ·cases q
def xO (e C t:Addr) (od:Option Addr):HO:=.ext fun h=>h.get? e = some ⟨.ref C,od,.fields (exF t),#[]⟩
def drop (H:Hp) (e:Addr):Hp:=fun b=>if b = e then none else H b
theorem drop_ne {H:Hp} {e b:Addr} (h:b ≠ e):drop H e b = H b:=if_neg h
theorem drop_same {H:Hp} {e:Addr}:drop H e e = none:=if_pos rfl
theorem xO_ok {P:Program} {w:World} {H:Hp} {h:Heap} {e C t:Addr} {od:Option Addr} (g:h.get? e = some ⟨.ref C,od,.fields (exF t),#[]⟩):ObjOk P w H h e (xO e C t od):=⟨g,⟨_,g⟩,fun _ _ a b=>b _ a⟩
def CX2c (c:Bool) (P:Program) (w:World) (base:Heap):CXT:=fun outer H s E e s' =>
 ∃ (a:Addr) (cls a0:Value) (B:Heap) (H':Hp) (dd:Option Addr),e = .ref a∧s'.os = s.os∧AllBare s'.gens∧Gnd P w base (frs outer) H H' s.heap B∧Slots (frs outer) s.heap s'.heap∧Heap.FlyingW B outer a cls a0 s'.heap∧H' a = none∧OwnD c s'.heap a dd∧E cls dd H'
abbrev CX2 (P:Program) (w:World) (base:Heap):CXT:=CX2c true P w base
section
variable {P:Program} {w:World} {K:PySem.W.Frag} {mg:Str→Option Value} {base:Heap} {N:List Str} {qual:Str} {scope:Scope} {f:Addr} {cdv:Value} {A:Around} {outer:List Env} {s₀:Shared} {H₀:Hp} {E:XK}
theorem leaves_own {pins:List (Addr × Obj)} {σ:L2.St} {H:Hp} {s:Shared} {e C t:Addr} {od:Option Addr} (I:Inv (cxOf (CX2 P w base) P w K mg base N qual scope f cdv A outer s₀ H₀ E) pins σ H s)
  (he:H e = some (xO e C t od)) (hn:s₀.heap.get? e = none) (q:E (.ref C) od (drop H e)):(cxOf (CX2 P w base) P w K mg base N qual scope f cdv A outer s₀ H₀ E).xe (.ref e) s:=by
 have ge:s.heap.get? e = some ⟨.ref C,od,.fields (exF t),#[]⟩:=(I.hok e _ he).1
 have hst:=I.stack
 have nof:∀ b o,s₀.heap.get? b = some o→b ∉ frs outer→b ∉ e :: frs (envOfC qual scope s₀.heap.objs.size f cdv :: outer):=fun b o e1 nb hm=>by
  rcases List.mem_cons.mp hm with z | hm
  ·rw [z,hn] at e1
   cases e1
  rcases List.mem_cons.mp (I.stkSub b hm) with z | z
  ·exact Nat.lt_irrefl _ (Nat.lt_of_lt_of_le (z ▸ Heap.lt_size e1) I.ok.above)
  ·exact nb z
 have nx:∀ b:Addr,b ∉ ([]:List Addr):=fun b z=>nomatch z
 have ne:∀ b u,H b = some u→(∀ φ,u ≠ .ext φ)→b ≠ e:=fun b u e1 hk z=>by
  rw [z,he] at e1
  cases e1
  exact hk _ rfl
 have dr:∀ b u,H b = some u→(∀ φ,u ≠ .ext φ)→drop H e b = some u:=fun b u e1 hk=>by rw [drop_ne (ne b u e1 hk)]; exact e1
 refine leave_first (c:=true) (bs:=PySem.W.hideAll s.heap (e :: frs (envOfC qual scope s₀.heap.objs.size f cdv :: outer))) (a0:=.ref t) I.ok.frames
  (PySem.W.funFrames_hide hst fun e1 he1 b hb=>List.mem_cons_of_mem _ (List.mem_filterMap.mpr ⟨e1,he1,hb⟩)) rfl ge (fun b o e1=>PySem.W.of_hideAll _ e1) (PySem.W.hideAll_none _ (List.mem_cons_self ..)) rfl rfl rfl (fun _=>rfl) fun h2 fl D up=>?_
 refine ⟨e,_,.ref t,_,drop H e,od,rfl,I.os,I.bare,⟨fun b o e1=>PySem.W.hideAll_get _ (I.bk b o e1) fun hm=>?_,fun b o e1 n nb=>PySem.W.hideAll_get _ (I.base.keep b o e1 n nb (nx b)) (nof b o e1 nb),fun b o e1 n=>?_,
  fun b o e1 nb=>?_,fun b xs z=>dr b _ (I.base.tups b xs z) (fun _ z=>nomatch z),fun b o u z=>dr b _ (I.base.frzs b o u z) (fun _ z=>nomatch z),fun b ps z=>?_,fun b u e1=>?_⟩,fun b hb o e1=>?_,fl,drop_same,D,q⟩
 ·rcases List.mem_cons.mp hm with z | hm
  ·have z2:=(I.bs b o e1).2
   rw [z,he] at z2
   cases z2
  ·have z:=(hst.mem hm).1
   exact nomatch (show (some o:Option Obj) = none from e1.symm.trans z)
 ·by_cases hb:b = e
  ·rw [hb,drop_same]
  ·rw [drop_ne hb]
   exact I.base.free b o e1 n (nx b)
 ·obtain ⟨o',e2⟩:=I.base.there b o e1 (nx b)
  exact ⟨o',PySem.W.hideAll_get _ e2 (nof b o e1 nb)⟩
 ·obtain ⟨more,z2⟩:=I.base.tbls b ps z
  exact ⟨more,dr b _ z2 (fun _ z=>nomatch z)⟩
 ·have hb:b ≠ e:=fun z=>by
   rw [z,drop_same] at e1
   cases e1
  rw [drop_ne hb] at e1
  refine (I.hok b u e1).stay (fun c v hc e2=>PySem.W.hideAll_get _ e2 fun hm=>?_) (fun c z=>dr c _ z (fun _ z=>nomatch z)) fun c xs z=>dr c _ z (fun _ z=>nomatch z)
  rcases List.mem_cons.mp hm with z | hm
  ·rcases hc with hc | hc
   ·exact hb (hc.symm.trans z)
   ·rw [z,he] at hc
    cases hc
  ·have z:=I.stkFree c hm
   rcases hc with rfl | hc
   ·rw [e1] at z; cases z
   ·rw [hc] at z; cases z
 ·obtain ⟨sl,e2⟩:=I.base.slot b o e1 (I.ok.frf b hb) hb (nx b)
  obtain ⟨_,o1,e3,d⟩:=I.funs.mem hb
  rw [e2] at e3
  cases e3
  obtain ⟨s2,e4⟩:=up b _ e2 d
  exact ⟨s2,e4⟩
end
end Ow
namespace Ow
open PySem PySem.Spec PyProof.Rows L2
structure XCls (K:PySem.W.Frag) (C fI:Addr) (f:Str):Prop where
 ef:excFn K C fI = true
 sa:PySem.W.findIn K (.ref C) "__setattr__" = some (some (.builtin "object.__setattr__"))
 mo:PySem.W.mroIn K C (.type "object") = some true
 na:PySem.W.findIn K (.ref C) f = some none
 fn:PySem.W.typeIn K (.ref fI) = some (.type "function")
 kp:PySem.W.keepIn K (.ref C) = true
def sXset (K:PySem.W.Frag) (ta tv:TE) (f:Str):TS:=fun D σ H=>tv σ H fun y H1=>ta σ H1 fun x H2=>∃ e C t fI,x = .ref e∧H2 e = some (xO e C t none)∧XCls K C fI f∧∀ d,H2 d = none→d ≠ e→D.nx σ (upd (upd H2 d (.xd [(f,y)])) e (xO e C t (some d)))
section
variable {X:Cx} {f:Str} {o value:Expr} {ta tv:TE} {pos pos':Pos}
theorem ps_xset (ha:PE X o ta) (hv:PE X value tv) (hs:swapsWith value (some (.Attribute o f pos')) pos.line X.env = pure false):PS X (.Assign [.Attribute o f pos'] value pos) (sXset X.K ta tv f):=by
 intro pins s σ H D I h
 refine plainObj_wpAny_Assign_Attribute (thn (hv pins s σ H _ I h) fun u s1 ⟨y,H1,I1,ry,q⟩=>thn (ha pins s1 σ H1 _ I1 q) fun ov s2 ⟨x,H2,I2,rx,e,C,t,fI,ex,he,c,q2⟩=>?_) hs
 subst ex
 obtain rfl:ov = Value.ref e:=rx
 have ge:s2.heap.get? e = some ⟨.ref C,none,.fields (exF t),#[]⟩:=(I2.hok e _ he).1
 obtain ⟨bm,N,nm,qn,bs,sn,sub,ab,col,dd,k0,k1,k2,k3,k5,mN,gC,_,_,T⟩:=exc_fn I2.kIn c.ef
 refine set_exc I2.kIn ge gC T c.sa c.na c.mo fun h' t' g1 n1 kp=>?_
 have hd:H2 s2.heap.objs.size = none:=I2.hok.fresh (Nat.le_refl _)
 have dne:s2.heap.objs.size ≠ e:=fun z=>by rw [z,he] at hd; cases hd
 obtain ⟨od,es,ep,gd,hda,rest⟩:=n1
 have gd1:(s2.heap.push od).get? s2.heap.objs.size = some od:=Heap.get?_push_size _ (by
  obtain ⟨c1,c2,c3,c4⟩:=od
  cases (show c3 = .dict es ep from hda)
  rfl)
 have I3:=I2.laid (a:=s2.heap.objs.size) (o:=.xd [(f,y)]) (h':=s2.heap.push od) (t':=s2.toks) (fun b u q=>Heap.get?_push_of_some _ q) (Nat.le_refl _) ⟨_,⟨od,es,ep,gd1,hda,rest⟩,fun g=>by
  by_cases hg:g = f
  ·subst hg
   rw [if_pos rfl,List.lookup_cons_self]
   exact ry
  ·rw [if_neg hg,List.lookup_cons,beq_eq_false_iff_ne.mpr hg]
   exact True.intro⟩
 have I4:=I3.write (x:=e) (e:=e) (o:=xO e C t (some s2.heap.objs.size)) (h':=h') (t':=t') (by rw [upd_ne (Ne.symm dne),he]; exact True.intro) (.inl rfl) (fun b v hb z=>by
  by_cases hz:b = s2.heap.objs.size
  ·subst hz
   have z1:=gd1.symm.trans z
   cases z1
   exact gd
  ·rw [Heap.get?_push_ne _ _ _ hz] at z
   exact kp b v hb z) ⟨_,g1⟩ (xO_ok g1)
 exact ⟨σ,_,I4,q2 _ hd dne⟩
end
end Ow
namespace Ow
open PySem PySem.Spec PyProof.Rows L2
def spXI (f:Str) (C:Addr):Sp:=fun vs H Q _=>∃ (e t:Addr) (v:V),vs = [.ref e,v]∧H e = some (xO e C t none)∧∀ d,H d = none→d ≠ e→Q .non (upd (upd H d (.xd [(f,v)])) e (xO e C t (some d)))
structure XHas (P:Program) (w:World) (K:PySem.W.Frag) (mg:Str→Option Value) (base:Heap) (k:Nat) (x:Str) (C:Addr) (f:Str):Prop where
 ex:∃ (fI:Addr) (fd:FuncData) (p1 p2:Str),FnOk P w K mg base CX0 k fI fd [p1,p2] (spXI f C)∧Binds K fd [p1,p2] []∧XCls K C fI f∧mg x = some (.ref C)
section
variable {P:Program} {w:World} {K:PySem.W.Frag} {mg:Str→Option Value} {base:Heap} {N:List Str} {qual:Str} {scope:Scope} {fa:Addr} {cdv:Value} {A:Around} {outer:List Env} {s₀:Shared} {H₀:Hp} {E:XK}
def tRaise1 (C:Addr) (f:Str) (E:XK) (ta:TA):TS:=fun _ σ H=>ta σ H fun vs H1=>∃ v,vs = [v]∧∀ d,H1 d = none→E (.ref C) (some d) (upd H1 d (.xd [(f,v)]))
theorem ps_raise1 {k:Nat} {x f:Str} {C:Addr} {np cpos pos:Pos} {e1:Expr} {ta:TA} (h:XHas P w K mg base k x C f) (hr:Room (k + 1) (cxOf (CX2 P w base) P w K mg base N qual scope fa cdv A outer s₀ H₀ E).A) (hg:Gl (cxOf (CX2 P w base) P w K mg base N qual scope fa cdv A outer s₀ H₀ E) x)
  (ha:PA (cxOf (CX2 P w base) P w K mg base N qual scope fa cdv A outer s₀ H₀ E) [e1] ta) (hdb:(x == ("__debug__":Str)) = false:=by decide)
  (hst:starEach [e1] (cxOf (CX2 P w base) P w K mg base N qual scope fa cdv A outer s₀ H₀ E).env = (false,eval e1 (cxOf (CX2 P w base) P w K mg base N qual scope fa cdv A outer s₀ H₀ E).env) :: starEach [] (cxOf (CX2 P w base) P w K mg base N qual scope fa cdv A outer s₀ H₀ E).env:=by rfl) :
  PS (cxOf (CX2 P w base) P w K mg base N qual scope fa cdv A outer s₀ H₀ E) (.Raise (some (.Call (.Name x np) [e1] [] cpos)) none pos) (tRaise1 C f E ta):=by
 intro pins s σ H D I ht
 obtain ⟨fI,fd,p1,p2,F,hb,c,hm⟩:=h.ex
 obtain ⟨bm,N',nm,qn,bs,sn,sub,ab,col,dd,k0,k1,k2,k3,k5,mN,gC,gN,gi,T⟩:=exc_fn I.ok.mod.kin c.ef
 rw [arm_exec_Raise]
 refine wpAny_bind (wpAny_standAt (raise_inst (C:=C) (nm:=nm) (qn:=qn) (N:=N') (bs:=bs) (bm:=bm) (hdc:=true) (sn:=sn) (sub:=sub) (ab:=ab) (col:=col) (dd:=dd) (k0:=k0) (k1:=k1) (k2:=k2) (k3:=k3) (k5:=k5) (nid:="ValueError.__new__")
  (T.hasType PySem.F.excBase_ValueError.hasBase) (I.ok.hd rfl) (wpAny_bind (wpAny_mono (Q:=fun v s1=>∃ (e t:Addr) (od:Option Addr),v = .ref e∧s1.heap.get? C = some (excClassObj nm qn C N' bs bm true sn sub ab col dd k0 k1 k2 k3 k5 "ValueError.__new__")∧s1.heap.get? e = some ⟨.ref C,od,.fields (exF t),#[]⟩∧(cxOf (CX2 P w base) P w K mg base N qual scope fa cdv A outer s₀ H₀ E).xe (.ref e) s1) ?_ (fun v s3 h3=>wpAny_bind (wpAny_standAt (wpAny_pure h3))) fun _ _ z=>z))))
 refine wpAny_Call_Name_kw (ld_glob I hg hm ?_ hdb)
 refine PySem.W.callWith_K (h₀:=base) I.ok.mod.kin c.kp (thn (ha cpos pins s σ H _ I ht) fun us s1 ⟨vs,H1,I1,r1,v,ev,q1⟩=>⟨I1.kIn,?_⟩) hst rfl
 subst ev
 obtain ⟨u,rfl,ru⟩:=r1.one
 have st1:=I1.bk
 have gf:∃ oI,s1.heap.get? fI = some oI∧oI.cls = .type "function":=by
  obtain ⟨oI,e1,e2⟩:=Option.map_eq_some_iff.mp c.fn
  exact ⟨oI,I1.kIn _ _ e1,e2⟩
 obtain ⟨oI,gf,cf⟩:=gf
 obtain ⟨hh,g,dr,tk,os⟩:=s1
 have ge:((hh.push (exT u)).push { cls:=.ref C,data:=.fields (exF hh.objs.size) }).get? (hh.objs.size + 1) = some { cls:=.ref C,data:=.fields (exF hh.objs.size) }:=by
  have z:=Heap.get?_push_size (hh.push (exT u)) (o:={ cls:=.ref C,data:=.fields (exF hh.objs.size) }) rfl
  rwa [Heap.size_push] at z
 have He:H1 (hh.objs.size + 1) = none:=I1.hok.fresh (Nat.le_succ _)
 have I2:=I1.laid (a:=hh.objs.size + 1) (o:=xO (hh.objs.size + 1) C hh.objs.size none) (h':=(hh.push (exT u)).push { cls:=.ref C,data:=.fields (exF hh.objs.size) }) (t':=tk) (fun b o q=>Heap.get?_push_of_some _ (Heap.get?_push_of_some _ q)) (Nat.le_succ _) (xO_ok ge)
 refine call_exc (T.keeps st1) (st1 _ _ gC) (gN.keeps st1) gi gf cf (wpAny_call (codeAny_mono (F.run _ (cxOf (CX2 P w base) P w K mg base N qual scope fa cdv A outer s₀ H₀ E).stack _ _ ⟨[.ref (hh.objs.size + 1),u],[]⟩ [.ref (hh.objs.size + 1),u] [.ref (hh.objs.size + 1),v]
  (fun y H3=>y = .non∧∃ d,upd H1 (hh.objs.size + 1) (xO (hh.objs.size + 1) C hh.objs.size none) d = none∧d ≠ hh.objs.size + 1∧H3 = upd (upd (upd H1 (hh.objs.size + 1) (xO (hh.objs.size + 1) C hh.objs.size none)) d (.xd [(f,v)])) (hh.objs.size + 1) (xO (hh.objs.size + 1) C hh.objs.size (some d))) E0 (hr.make C [u] [])
  (I2.env0.make C [u] []) (hb _ _ I2.kIn rfl) (.cons rfl (.cons ru .nil)) ⟨_,_,v,rfl,upd_same ..,fun d hd ne=>⟨rfl,d,hd,ne,rfl⟩⟩) fun r s' hq=>?_))
 cases r with
 | error e=>exact False.elim hq
 | ok fl =>
  cases fl with
  | ret u' =>
   obtain ⟨y,H3,I3,ry,rfl,d,hd,ne,rfl⟩:=I2.after hq
   refine ⟨ry,hh.objs.size + 1,hh.objs.size,some d,rfl,I3.bk _ _ gC,(I3.hok _ _ (upd_same ..)).1,?_⟩
   rw [upd_ne ne] at hd
   refine leaves_own I3 (upd_same ..) ?_ ?_
   ·refine Heap.get?_none_of_le (Nat.le_trans I1.sz (Nat.le_succ _))
   ·have e3:drop (upd (upd (upd H1 (hh.objs.size + 1) (xO (hh.objs.size + 1) C hh.objs.size none)) d (.xd [(f,v)])) (hh.objs.size + 1) (xO (hh.objs.size + 1) C hh.objs.size (some d))) (hh.objs.size + 1) = upd H1 d (.xd [(f,v)]):=by
     funext b
     by_cases hb:b = hh.objs.size + 1
     ·rw [hb,drop_same,upd_ne (Ne.symm ne),He]
     ·rw [drop_ne hb,upd_ne hb]
      by_cases hbd:b = d
      ·rw [hbd,upd_same,upd_same]
      ·rw [upd_ne hbd,upd_ne hb,upd_ne hbd]
    rw [e3]
    exact q1 d hd
  | next=>exact False.elim hq
  | brk=>exact False.elim hq
  | cont=>exact False.elim hq
end
end Ow
namespace Ow
open PySem PySem.Spec PyProof.Rows L2
section
variable {P:Program} {w:World} {K:PySem.W.Frag} {mg:Str→Option Value} {base:Heap} {N:List Str} {qual:Str} {scope:Scope} {f:Addr} {cdv:Value} {A:Around} {outer:List Env} {s₀:Shared} {H₀:Hp} {E:XK}
theorem Fun.okY {x qual:Str} {st:Stmt} {f:Addr} {fd:FuncData} {N ps:List Str} {k:Nat} {sp:Sp} (F:Fun K x qual st f fd) (S:FnScope N ps (defScope st)) (len:∀ vs H Q E,sp vs H Q E→vs.length = ps.length)
  (hbody:∀ (cdv:Value) (A:Around) (outer:List Env) (s:Shared) (H:Hp) (vs:List V) (Q:VK) (E:XK),Room k (A.deeper (envOfC qual (defScope st) s.heap.objs.size f cdv))→sp vs H Q E →
   ∃ t,PSs (cxOf (CX2 P w base) P w K mg base N qual (defScope st) f cdv A outer s H E) (defBody st) t∧t { nx:=fun _ H'=>Q .non H',rt:=Q } (start N vs) H):FnOk P w K mg base (CX2 P w base) (k + 1) f fd ps sp:=by
 obtain ⟨oc,od,kV,doc,pm,an,cdv,ct,osl,e1,lk,hcd⟩:=F.ex
 subst e1
 exact fn_of lk hcd S len fun A outer s H vs Q E hr hsp=>hbody cdv A outer s H vs Q E hr hsp
end
section
variable {P:Program} {w:World} {K:PySem.W.Frag} {mg:Str→Option Value} {base:Heap} {N:List Str} {qual:Str} {scope:Scope} {f:Addr} {cdv:Value} {A:Around} {outer:List Env} {s₀:Shared} {H₀:Hp} {E:XK}
end
def tryCy (X:Cx) (pins:List (Addr × Obj)) (E:L2.St→XK):Cx:=(pinned X pins).wish fun e s'=>∃ (pins':List (Addr × Obj)) (σ':L2.St) (H:Hp) (s:Shared),Inv (pinned X pins) pins' σ' H s∧CX2 X.prog X.w X.base X.stack H s (E σ') e s'
section
variable {X:Cx} {j:Nat} {n c:Str} {C₁:Addr} {b₀:Stmt} {suite:List Stmt} {tb:Addr→Obj→TS} {np hpos:Pos}
theorem landY {cb:Bool} {pins:List (Addr × Obj)} {σ:L2.St} {H1:Hp} {s1 s':Shared} {D:Ends} {E:XK} {ev:Value} (I:Inv X pins σ H1 s1) (hq:CX2c cb X.prog X.w X.base X.stack H1 s1 E ev s') (hst:X.stack = X.env :: X.outer) (hfr:X.env.frame = some X.env.locals)
  (hN:X.N.Nodup) (hgc:Gl X c) (hmc:X.mg c = some (.ref C₁)) (hj:X.N[j]? = some n) (hnl:X.env.scope.names.lookup n = some .local) (hb:∀ (a:Addr) (oe:Obj),(cb = true→Ctx0 oe)→PSs (caught X a oe) (b₀ :: suite) (tb a oe)) (hno:X.xe = fun _ _=>False)
  (hE:∀ cls dd H2,E cls dd H2→PySem.W.exmOne X.K cls (.ref C₁) = some true∧∀ (a:Addr) (oe:Obj),oe.cls = cls→oe.dict = dd→PySem.W.notCls oe = true→H2 a = none→tb a oe (endsK j D) (σ.set j (some (.ref a))) H2) (hdc:(c == ("__debug__":Str)) = false) :
  wpAny (model X.prog X.w) X.A (noteFrame ev X.env) (fun _ s₂=>wpAny (model X.prog X.w) X.A (setFlight ev none) (fun _ s₃=>wpAny (model X.prog X.w) X.A (handleBy ev X.env [.ExceptHandler (some (.Name c np)) (some n) (b₀ :: suite) hpos]) (SP X pins D) X.xe s₃) X.xe s₂) X.xe s':=by
 obtain ⟨a,cls,a0,B,H2,dd,rfl,hos,hba,G,sl,fl,ha0,D0,hw⟩:=hq
 obtain ⟨hm,hsu⟩:=hE cls dd H2 hw
 have frm:X.A.frames = some (X.env :: X.outer):=hst ▸ I.ok.frames
 rw [hst] at fl
 have sl':Slots (frs (X.env :: X.outer)) s1.heap s'.heap:=hst ▸ sl
 refine note_own frm hfr fl D0 fun h4 hd4 D4 up4=>?_
 refine flight_own hd4.1 hd4.2.1 hd4.2.2.1 hd4.2.2.2 D4 fun h5 fl5 D5 up5=>?_
 have sl5:=(sl'.on fl.2.2.1 up4).on hd4.2.2.1 up5
 have inv:∀ (hh:Heap) (sx:Shared),sx.heap = hh→sx.os = s1.os→AllBare sx.gens→B.StaysIn hh→Slots (frs (X.env :: X.outer)) s1.heap hh→Inv X pins σ H2 sx:=fun hh sx e1 e2 e3 e4 e5=>by
  refine I.call' (ch:=[]) e2 ?_ ?_ e3 fun b z=>nomatch z
  ·rw [e1]; exact G.un e4 (hst ▸ e5)
  ·rw [e1]; exact G.hok.kept e4
 have I5:Inv X pins σ H2 { s' with heap:=h5 }:=inv h5 _ rfl hos hba fl5.1 sl5
 have noT:∀ hh:Heap,Heap.FlyingW B (X.env :: X.outer) a cls a0 hh→a ≠ X.env.locals∧a ∉ X.fs:=fun hh flx=>by
  obtain ⟨oe,ws,e1,_,e2,_⟩:=flx.first
  have key:∀ b ∈ frs (X.env :: X.outer),a ≠ b:=fun b hb z=>by
   obtain ⟨_,o,e3,d⟩:=flx.2.2.1.mem hb
   rw [← z,e1] at e3
   cases e3
   exact d _ e2
  have mL:X.env.locals ∈ frs (X.env :: X.outer):=List.mem_filterMap.mpr ⟨X.env,List.mem_cons_self ..,hfr⟩
  refine ⟨key _ mL,fun z=>key a ?_ rfl⟩
  obtain ⟨en,he,hf⟩:=List.mem_filterMap.mp z
  exact List.mem_filterMap.mpr ⟨en,List.mem_cons_of_mem _ he,hf⟩
 obtain ⟨o5,ob5,oc5⟩:=fl5.there
 obtain ⟨_,w5,ob5',_,od5,_⟩:=fl5.first
 have I5c:Inv (caught X a o5) pins σ H2 { s' with heap:=h5 }:=caught_inv I5 ob5 ha0 (noT h5 fl5).1 (noT h5 fl5).2 (fun v z=>by
  rw [ob5] at ob5'
  cases ob5'
  rw [od5] at z
  cases z)
 refine wpAny_handleBy_cons (codeAny_handlers_test (ld_glob I5c hgc hmc ?_ hdc)) (by intro z; cases z)
 have LT:PySem.W.Looks (model X.prog X.w) h5 (typeOf (.ref a)) cls:=oc5 ▸ (PySem.W.Looks.ld ob5).andThen .now
 refine (PySem.W.exm_one (K:=X.K) I5.kIn LT hm).here ?_
 refine codeAny_handlers_suite_as ?_
 refine flight_own (s:={ s' with heap:=h5 }) fl5.1 fl5.2.1 fl5.2.2.1 fl5.2.2.2 D5 fun h6 fl6 D6 up6=>?_
 have I6:Inv X pins σ H2 { s' with heap:=h6 }:=inv h6 _ rfl hos hba fl6.1 (sl5.on fl5.2.2.1 up6)
 obtain ⟨o6,w6,ob6,oc6,od6,_⟩:=fl6.first
 obtain ⟨dd6,cc6⟩:o6.dict = dd∧(cb = true→Ctx0 o6):=by
  obtain ⟨o7,e7,d7,c7⟩:=D6
  rw [ob6] at e7
  cases e7
  exact ⟨d7,c7⟩
 have I6c:Inv (caught X a o6) pins σ H2 { s' with heap:=h6 }:=caught_inv I6 ob6 ha0 (noT h6 fl6).1 (noT h6 fl6).2 (fun v z=>by rw [od6] at z; cases z)
 refine store_ok (X:=caught X a o6) I6c hN hj (.inl hnl) (v:=.ref a) rfl (fun s7 I7=>?_) (.inr hnl)
 refine wpAny_mono (hb a o6 cc6 pins s7 _ H2 _ I7 (hsu a o6 oc6 dd6 (by unfold PySem.W.notCls; rw [od6]) ha0)) (fun fw s8 q8=>?_) fun ex s8 q8=>?_
 ·cases fw with
  | ret u =>
   obtain ⟨v,σ8,H8,I8,r8,q8⟩:=q8
   obtain ⟨m8,n8,_⟩:=I8.loc
   refine wpAny_nameGoes (env:=X.env) hnl n8 (by rw [I.ok.kind]; rfl) fun h9 m9 n9 sb=>?_
   exact ⟨v,_,H8,suite_end I8 I.ok n9 sb,r8,q8⟩
  | next =>
   obtain ⟨σ8,H8,I8,q8⟩:=q8
   obtain ⟨m8,n8,l8⟩:=I8.loc
   refine wpAny_nameGoes_keeps (env:=X.env) hnl n8 (by rw [I.ok.kind]; rfl) fun h9 v9 n9 sb=>?_
   exact ⟨_,H8,suite_endK I8 I.ok hN hj l8 n9 sb,q8⟩
  | brk=>obtain ⟨_,_,_,z⟩:=q8; exact False.elim z
  | cont=>obtain ⟨_,_,_,z⟩:=q8; exact False.elim z
 ·have z:X.xe ex s8:=q8
  rw [hno] at z
  exact False.elim z
end
def wishY (K:PySem.W.Frag) (C₁:Addr) (j:Nat) (ts:Addr→Obj→TS) (D:Ends):L2.St→XK:=fun σ' cls dd H2=>PySem.W.exmOne K cls (.ref C₁) = some true∧∀ (a:Addr) (oe:Obj),oe.cls = cls→oe.dict = dd→PySem.W.notCls oe = true→H2 a = none→ts a oe (endsK j D) (σ'.set j (some (.ref a))) H2
def tTryY (K:PySem.W.Frag) (C₁:Addr) (j:Nat) (tb:(L2.St→XK)→TS) (ts:Addr→Obj→TS):TS:=fun D σ H=>tb (wishY K C₁ j ts D) D σ H
theorem ps_tryYC {X:Cx} {j:Nat} {n c:Str} {C₁:Addr} {b₀:Stmt} {body suite:List Stmt} {tb:(L2.St→XK)→TS} {ts:Addr→Obj→TS} {np hpos tpos:Pos} (hbd:∀ pins E,PSs (tryCy X pins E) body (tb E)) (hN:X.N.Nodup) (hgc:Gl X c) (hmc:X.mg c = some (.ref C₁))
  (hj:X.N[j]? = some n) (hnl:X.env.scope.names.lookup n = some .local) (hb:∀ (a:Addr) (oe:Obj),Ctx0 oe→PSs (caught X a oe) (b₀ :: suite) (ts a oe)) (hno:X.xe = fun _ _=>False:=by rfl) (hst:X.stack = X.env :: X.outer:=by rfl) (hfr:X.env.frame = some X.env.locals:=by rfl)
  (hdc:(c == ("__debug__":Str)) = false:=by decide):PS X (.Try body [.ExceptHandler (some (.Name c np)) (some n) (b₀ :: suite) hpos] [] [] tpos) (tTryY X.K C₁ j tb ts):=by
 intro pins s σ H D I ht
 refine wpAny_Try_except (wpAny_mono (hbd pins (wishY X.K C₁ j ts D) [] s σ H D ((to_pinned I).wish _) ht) (fun fl s1 q=>?_) fun ev s1 q=>?_)
 ·cases fl with
  | next=>obtain ⟨σ',H',I',q⟩:=q; exact wpAny_execs_nil ⟨σ',H',of_pinned I.ok I'.unwish,q⟩
  | brk=>obtain ⟨σ',H',I',q⟩:=q; exact ⟨σ',H',of_pinned I.ok I'.unwish,q⟩
  | cont=>obtain ⟨σ',H',I',q⟩:=q; exact ⟨σ',H',of_pinned I.ok I'.unwish,q⟩
  | ret u=>obtain ⟨v,σ',H',I',r,q⟩:=q; exact ⟨v,σ',H',of_pinned I.ok I'.unwish,r,q⟩
 ·obtain ⟨pins2,σ2,H2,s2,I2,hq⟩:=q
  exact landY (of_pinned I.ok I2) hq hst hfr hN hgc hmc hj hnl (fun a oe h=>hb a oe (h rfl)) hno (fun cls dd H3 z=>z) hdc
theorem ps_tryY {X:Cx} {j:Nat} {n c:Str} {C₁:Addr} {b₀:Stmt} {body suite:List Stmt} {tb:(L2.St→XK)→TS} {ts:Addr→Obj→TS} {np hpos tpos:Pos} (hbd:∀ pins E,PSs (tryCy X pins E) body (tb E)) (hN:X.N.Nodup) (hgc:Gl X c) (hmc:X.mg c = some (.ref C₁))
  (hj:X.N[j]? = some n) (hnl:X.env.scope.names.lookup n = some .local) (hb:∀ (a:Addr) (oe:Obj),PSs (caught X a oe) (b₀ :: suite) (ts a oe)) (hno:X.xe = fun _ _=>False:=by rfl) (hst:X.stack = X.env :: X.outer:=by rfl) (hfr:X.env.frame = some X.env.locals:=by rfl)
  (hdc:(c == ("__debug__":Str)) = false:=by decide):PS X (.Try body [.ExceptHandler (some (.Name c np)) (some n) (b₀ :: suite) hpos] [] [] tpos) (tTryY X.K C₁ j tb ts) :=
 ps_tryYC hbd hN hgc hmc hj hnl (fun a oe _=>hb a oe) hno hst hfr hdc
end Ow
namespace Ow
open PySem PySem.Spec PyProof.Rows L2
section
variable {prog:Program} {w:World} {A:Around} {E:Value→Shared→Prop} {h:Heap} {g:Array GenState} {d:Drawn} {t:Nat} {os:OsState} {K:PySem.W.Frag} {a C D:Addr} {o od:Obj} {name:Str} {v:Value}
theorem xat (hx:h.get? a = some o) (hc:o.cls = .ref C) (hd:o.dict = some D) (hn:PySem.W.notCls o = true) (gd:h.get? D = some od):PySem.W.InstAt h a o C (some od):=⟨hx,hc,hn,by rw [hd]; exact gd⟩
theorem getx_entry {tk:Tok} {Q:Fin→Shared→Prop} (X:K.In h) (I:PySem.W.InstAt h a o C (some od)) (hf:PySem.W.findObj K C (some od) name = some (.value v)) (hq:Q (.done (.ret v)) ⟨h,g,d,t,os⟩) :
  wpAny (model prog w) A (Builtin.«object.__getattribute__» ⟨[.ref a,.str name tk],[]⟩) Q E ⟨h,g,d,t,os⟩:=by
 have L0:=I.type (M:=model prog w)
 have L1:=PySem.W.looks_find (M:=model prog w) X I hf
 refine wpAny_bind (wpAny_pure (wpAny_bind (wpAny_pure (wpAny_bind (L0.at (wpAny_bind (L1.at ?_)))))))
 exact wpAny_pure hq
theorem getx_by {tk:Tok} {fill ex:Bool} {Q:Value→Shared→Prop} (X:K.In h) (f:ExF K C) (I:PySem.W.InstAt h a o C (some od)) (hf:PySem.W.findObj K C (some od) name = some (.value v)) (hv:PySem.W.handedIn v = true) (hq:Q v ⟨h,g,d,t,os⟩) :
  wpAny (model prog w) A (getAttrBy (.ref a) (.str name tk) fill ex) Q E ⟨h,g,d,t,os⟩:=by
 have hx:=I.at_
 have hc:=I.cls
 have f3:=F.attr_ValueError.ga.bind (.ref a)
 have L1:=PySem.W.looks_findIn (M:=model prog w) X f.ga
 have L2:=PySem.W.looks_findIn (M:=model prog w) X f.gn
 have hx2:(Value.builtin "BaseException.__getattribute__" == Value.builtin "object.__getattribute__") = false:=by decide +kernel
 have hx1:(onTheHeap (Value.ref C) && Value.builtin "BaseException.__getattribute__" == Value.builtin "object.__getattribute__") = false:=by rw [hx2]; rfl
 have hx0:(ex && onTheHeap (Value.builtin "BaseException.__getattribute__")) = false:=by cases ex <;> rfl
 have hho:=PySem.W.handedOut_of hv
 repeat (any_goals (first | assumption | (with_reducible refine wpAny_loadPart_at hx ?_; rw [hc]) | with_reducible refine L1.at ?_ | with_reducible refine L2.at ?_ | wp_step))
 refine codeAny_call_builtin F.attr_ValueError.ga.plain F.entry_bexc_ga (exc_check X f hx hc (getx_entry X I hf ?_))
 repeat (any_goals (first | assumption | wp_step))
theorem getx {ex:Bool} {Q:Value→Shared→Prop} (X:K.In h) (f:ExF K C) (I:PySem.W.InstAt h a o C (some od)) (hf:PySem.W.findObj K C (some od) name = some (.value v)) (hv:PySem.W.handedIn v = true) (hq:Q v ⟨h,g,d,t + 1,os⟩) :
  wpAny (model prog w) A (getAttr (.ref a) name ex) Q E ⟨h,g,d,t,os⟩:=by
 unfold getAttr
 exact wpAny_bind (wpAny_mkText (getx_by X f I hf hv hq))
end
def tXf (K:PySem.W.Frag) (ta:TE) (a:Addr) (oe:Obj) (f:Str):TE:=fun σ H Q=>ta σ H fun x H1=>∃ C D fs v,x = .ref a∧oe.cls = .ref C∧oe.dict = some D∧PySem.W.notCls oe = true∧ExF K C∧PySem.W.hasDictIn K C = true∧NoAttr K C f∧H1 D = some (.xd fs)∧fs.lookup f = some v∧Q v H1
theorem pe_xf {X:Cx} {a:Addr} {oe:Obj} {f:Str} {e:Expr} {ta:TE} {pos:Pos} (hp:(a,oe) ∈ X.pn) (he:PE X e ta) (hb:attributeBase e f X.env (eval e X.env) = eval e X.env):PE X (.Attribute e f pos) (tXf X.K ta a oe f):=by
 intro pins s σ H Q I h
 refine attr_of hb (thn (he pins s σ H _ I h) fun u s1 ⟨x,H1,I1,rx,C,D,fs,v,ex,hc,hd,hn,f1,f2,f3,hD,hl,q⟩=>?_)
 subst ex
 obtain rfl:u = Value.ref a:=rx
 have pa:=I1.pin _ (List.mem_append_left _ hp)
 obtain ⟨mA,ns,r⟩:=I1.hok D _ hD
 obtain ⟨od,gd,hlk⟩:=lookIn_ns ns
 obtain ⟨v',hv,rv⟩:=RelO.some_of (v:=v) (o:=mA f) (by rw [← hl]; exact r f)
 obtain ⟨hh,g,d,t,os⟩:=s1
 exact getx I1.kIn f1 (xat pa.1 hc hd hn gd) (PySem.W.findObj_own f2 f3 rfl (by rw [hlk,hv])) (handed_of rv) ⟨v,H1,I1.tok _,rv,q⟩
end Ow
namespace Ow
open PySem PySem.Spec PyProof.Rows L2
end Ow
namespace Ow
open PySem PySem.Spec PyProof.Rows L2
section
variable {prog:Program} {w:World} {A:Around} {E:Value→Shared→Prop} {s:Shared} {a:Addr} {o:Obj} {ks:List Int} {k:Int} {tk:Tok}
end
end Ow
namespace Ow
open PySem PySem.Spec PyProof.Rows L2
section
variable {prog:Program} {w:World} {A:Around} {R:Result→Shared→Prop} {I:Addr} {fp wr:List Addr} {G:Array GenState→Array GenState→Prop} {n:Nat} {P:Nat→Value→Prop} {St:Nat→Shared→Prop}
end
section
variable {prog:Program} {w:World} {A:Around} {E:Value→Shared→Prop} {s:Shared}
end
end Ow
namespace Ow
open PySem PySem.Spec PyProof.Rows L2
section
variable {prog:Program} {w:World} {A:Around} {E:Value→Shared→Prop} {s:Shared} {S I:Addr} {es:Array (Int × Value)} {ep:Nat} {t:SetTable}
end
end Ow
namespace Ow
open PySem PySem.Spec PyProof.Rows L2
section
variable {prog:Program} {w:World} {A:Around} {E:Value→Shared→Prop} {s:Shared} {S I:Addr} {es:Array (Int × Value)} {ep:Nat} {t:SetTable}
end
end Ow
namespace Ow
open PySem PySem.Spec PyProof.Rows L2
section
variable {prog:Program} {w:World} {A:Around} {E:Value→Shared→Prop} {s:Shared} {S:Addr} {es:Array (Int × Value)} {ep:Nat} {t:SetTable}
end
end Ow
namespace Ow
open PySem PySem.Spec PyProof.Rows L2
section
variable {prog:Program} {w:World} {A:Around} {E:Value→Shared→Prop} {s:Shared} {S:Addr} {es:Array (Int × Value)} {ep:Nat} {t:SetTable}
end
end Ow
namespace Ow
open PySem PySem.Spec PyProof.Rows L2
section
variable {prog:Program} {w:World} {A:Around} {E:Value→Shared→Prop} {s:Shared} {S:Addr} {o:Obj} {ks:List Int}
end
end Ow
namespace Ow
open PySem PySem.Spec PyProof.Rows L2
theorem Has.imp {P:Program} {w:World} {K:PySem.W.Frag} {mg:Str→Option Value} {base:Heap} {k:Nat} {x:Str} {ps:List Str} {sp sp':Sp} (h:Has P w K mg base k x ps sp) (i:∀ vs H Q E,sp' vs H Q E→sp vs H Q E):Has P w K mg base k x ps sp':=by
 obtain ⟨f,fd,F,b,kp,m⟩:=h.ex
 exact ⟨f,fd,F.imp i,b,kp,m⟩
inductive Th (H:Hp):V→Prop where
 | int (i:Int):Th H (.int i)
 | bl (b:Bool):Th H (.bl b)
 | str (x:Str):Th H (.str x)
 | non:Th H .non
 | lst {a:Addr} {xs:List V} (h:H a = some (.lst xs)):Th H (.ref a)
 | tup {a:Addr} {xs:List V} (h:H a = some (.tup xs)):Th H (.ref a)
 | dct {a:Addr} {kvs:List (Key × V)} (h:H a = some (.dK kvs)):Th H (.ref a)
theorem Th.same {H H':Hp} {x:V} (t:Th H x) (s:Same H H'):Th H' x:=by
 cases t with
 | int i=>exact .int i
 | bl b=>exact .bl b
 | str x=>exact .str x
 | non=>exact .non
 | lst h=>exact .lst (s _ _ h)
 | tup h=>exact .tup (s _ _ h)
 | dct h=>exact .dct (s _ _ h)
def isI:V→Bool
 | .int _=>true
 | _=>false
def btw (x:V) (lo hi:Int):Bool:=match x with
 | .int i=>decide (lo≤i) && decide (i≤hi)
 | _=>false
theorem btw_not {x:V} {lo hi:Int} (h:isI x = false):btw x lo hi = false:=by
 cases x <;> first | rfl | cases h
theorem kit_str_int (K:PySem.W.Frag):PySem.W.kitOne K (.type "str") (.type "int") = some false:=by with_unfolding_all rfl
theorem kit_non_int (K:PySem.W.Frag):PySem.W.kitOne K (.type "NoneType") (.type "int") = some false:=by with_unfolding_all rfl
theorem kit_lst_int (K:PySem.W.Frag):PySem.W.kitOne K (.type "list") (.type "int") = some false:=by with_unfolding_all rfl
theorem kit_tup_int (K:PySem.W.Frag):PySem.W.kitOne K (.type "tuple") (.type "int") = some false:=by with_unfolding_all rfl
theorem kit_dct_int (K:PySem.W.Frag):PySem.W.kitOne K (.type "dict") (.type "int") = some false:=by with_unfolding_all rfl
def spWholeG:Sp:=fun vs H Q _=>∃ x:V,vs = [x]∧Th H x∧Q (.bl (isI x)) H
def spBtwG:Sp:=fun vs H Q _=>∃ (x:V) (lo hi:Int),vs = [x,.int lo,.int hi]∧Th H x∧Q (.bl (btw x lo hi)) H
end Ow
namespace Ow
open PySem PySem.Spec PyProof.Rows L2
theorem kit_of {K:PySem.W.Frag} {C D:Addr} (h1:PySem.W.isClsIn K D = true) (h2:PySem.W.typeIn K (.ref D) = some (.type "type")) (h3:PySem.W.mroIn K C (.ref D) = some true):PySem.W.kitOne K (.ref C) (.ref D) = some true:=by
 unfold PySem.W.kitOne
 split
 ·rfl
 ·unfold PySem.W.kitCls
  have e:((PySem.W.clsIn K D).isSome && PySem.W.typeIn K (.ref D) == some (.type "type")) = true:=by
   rw [h2]
   have h1':(PySem.W.clsIn K D).isSome = true:=h1
   rw [h1',Bool.true_and]
   exact beq_self_eq_true _
  show (if ((PySem.W.clsIn K D).isSome && PySem.W.typeIn K (.ref D) == some (.type "type")) = true then PySem.W.subIn K (.ref C) (.ref D) else none) = _
  rw [if_pos e]
  exact h3
end Ow
namespace Ow
open PySem PySem.Spec PyProof.Rows L2
section
variable {X:Cx}
theorem ty_str {K:PySem.W.Frag} {x:Str} {H:Hp}:tyV K "str" (.str x) H:=rfl
theorem sl_str:SlR X (fun x lo hi H Q=>∃ z,x = .str z∧z.length≤sizeLine∧Q (.str (Txt.slice z lo hi)) H):=by
 intro pins s σ H x v vl vu lo hi sl Q I rx hs pl pu h
 obtain ⟨z,rfl,hz,q⟩:=h
 obtain ⟨t,rfl⟩:=rx
 have fin:∀ t' k,EP X pins σ Q (.str (Txt.slice z lo hi) t') { s with toks:=k }:=fun t' k=>⟨.str _,H,I.kept (t':=k) fun b o e=>e,⟨t',rfl⟩,q⟩
 have ok:(Txt.slice z lo hi).length≤sizeLine:=Nat.le_trans (Txt.slice_le z _ _) hz
 refine ⟨"str",_,F.slot_str_getitem.lookup,typeIs_str _ _ _,?_⟩
 cases pl with
 | none =>
  cases pu with
  | none=>exact wpAny_getItem_str_slice (l:=none) (u:=none) (st:=none) hs rfl (post_val_or_str ⟨ok,fin⟩)
  | int j uj=>exact wpAny_getItem_str_slice (l:=none) (u:=some (j,uj)) (st:=none) hs rfl (post_val_or_str ⟨ok,fin⟩)
 | int i ui =>
  cases pu with
  | none=>exact wpAny_getItem_str_slice (l:=some (i,ui)) (u:=none) (st:=none) hs rfl (post_val_or_str ⟨ok,fin⟩)
  | int j uj=>exact wpAny_getItem_str_slice (l:=some (i,ui)) (u:=some (j,uj)) (st:=none) hs rfl (post_val_or_str ⟨ok,fin⟩)
theorem vals_strs {ys:List Str} {us:List Value} (h:Vals (ys.map V.str) us):StrsAre us ys:=by
 induction ys generalizing us with
 | nil=>cases h; exact .nil
 | cons y ys ih =>
  cases h with
  | cons r rr =>
   obtain ⟨t,rfl⟩:=r
   exact .cons _ _ (ih rr)
def rJoin (K:PySem.W.Frag):V→List V→Hp→VK→Prop:=fun x xs H Q=>∃ sep p ys,x = .str sep∧xs = [.ref p]∧SqL K H p (ys.map V.str)∧(ys.map (·.length)).sum + ys.length * sep.length≤16777216∧Q (.str (Txt.join sep ys)) H
theorem mt_join:MtM X "str.join" (rJoin X.K):=by
 intro pins s σ H x vs v us Q I rx rv h
 obtain ⟨sep,p,ys,rfl,rfl,hp,hok,q⟩:=h
 obtain ⟨t,rfl⟩:=rx
 obtain ⟨u,rfl,ru⟩:=rv.one
 cases (show u = Value.ref p from ru)
 obtain ⟨its,r,pl,_⟩:=I.list hp
 exact join_list pl.isList (vals_strs r) hok fun t' k=>⟨.str _,H,I.kept (t':=k) fun b o e=>e,⟨t',rfl⟩,q⟩
theorem op_repS:OpR X (binaryOp .Mult) (fun x y H Q=>∃ z n,x = .str z∧y = .int n∧2≤n∧n≤100000∧1≤z.length∧z.length≤100∧∀ r:Str,r.length = z.length * n.toNat→Q (.str r) H):=by
 intro pins s σ H x y v u Q I rx ry h
 obtain ⟨z,n,rfl,rfl,n0,n1,z0,z1,q⟩:=h
 obtain ⟨t,rfl⟩:=rx
 obtain ⟨t',rfl⟩:=ry
 have m1:z.length * n.toNat≤100 * 100000:=Nat.mul_le_mul z1 (by omega)
 refine P.mul_str (by rw [decide_eq_false (by omega),decide_eq_false (by omega)]; rfl) (fun _ _=>?_) (fun _ _=>?_) ?_
 ·have:(92233720368547:Int)≤(2 ^ 63 - 1) / n:=Int.le_ediv_of_mul_le (by omega) (by omega)
  omega
 ·show decide (_ > sizeLine) = false
  exact decide_eq_false (by have:sizeLine = sizeLine:=rfl; have:=(by decide:(10000000:Nat)≤sizeLine); omega)
 ·rw [if_neg (by omega),if_neg (by simp; omega)]
  have hl:∀ (k:Nat) (acc:Array Nat),((List.replicate k z.cps).foldl (· ++ ·) acc).size = acc.size + z.length * k:=by
   intro k
   induction k with
   | zero=>intro acc; simp
   | succ k ih=>intro acc; rw [List.replicate_succ,List.foldl_cons,ih,Array.size_append,Nat.mul_succ]; show acc.size + z.length + _ = _; omega
  have hz:=hl n.toNat #[]
  refine ⟨?_,.str _,H,I.kept (t':=_) fun b o e=>e,⟨_,rfl⟩,q _ ?_⟩
  ·show ((List.replicate n.toNat z.cps).foldl (· ++ ·) #[]).size≤sizeLine
   have:=(by decide:(10000000:Nat)≤sizeLine)
   rw [hz]; simp; omega
  ·show ((List.replicate n.toNat z.cps).foldl (· ++ ·) #[]).size = _
   rw [hz]; simp
theorem call_int_txt:CallR X (.type "int") (fun xs H Q=>∃ z n,xs = [.str z]∧z.length≤640∧intText? z = some n∧Q (.int n) H):=by
 intro pins s σ H xs us Q I r h
 obtain ⟨z,n,rfl,hz,hn,q⟩:=h
 obtain ⟨u,rfl,t,rfl⟩:=vals1 r
 exact PySem.W.KIN.call_text hn hz ⟨.int n,H,I.tok _,⟨_,rfl⟩,q⟩
end
def Its (z:Str):It where
 go:=fun i _=>i < z.cps.size
 yld:=fun i H x H'=>H' = H∧∃ c,z.cps[i]? = some c∧x = .str ⟨#[c]⟩
 stop:=fun i _=>z.cps.size≤i
theorem turn_ascii {P:Program} {w:World} {K:PySem.W.Frag} {tg:Expr} (it:Addr) (z:Str) (t:Tok):Turn P w K tg (Its z) [it] it (fun i h=>h.IsStrIter it "str_ascii_iterator" z t i) where
 mem:=by simp
 obj:=fun i h st b hb=>by
  have e:b = it:=by simpa using hb
  subst e
  obtain ⟨o,e,c,d⟩:=st
  exact ⟨o,e,fun v z=>by rw [d] at z; cases z⟩
 keep:=fun i h h' st k=>let ⟨o,ho,r⟩:=st; ⟨o,k it (by simp) o ho,r⟩
 item:=by
  intro X hP hw hK hc i pins s σ H E I hf st hg
  subst hP hw hK
  obtain ⟨f0,f1,f2,f3,f4,f5⟩:=hf it (by simp)
  have hi:i < z.cps.size:=hg
  refine wpAny_pyNext_ascii_item st (c:=z.cps[i]) (by simp [hi]) fun h' st' sb=>?_
  have I1:Inv X pins σ H { s with heap:=h',toks:=s.toks + 1 }:=I.turned (t':=s.toks + 1) (fun b o hb e=>(sb.2 b hb).trans e) f0 f1 f3 f4 f5
  obtain ⟨o,e,c,d⟩:=id st'
  exact ⟨_,rfl,go_of (s:={ s with heap:=h',toks:=s.toks + 1 }) e c d (by decide) ⟨.str ⟨#[z.cps[i]]⟩,H,I1,⟨_,rfl⟩,⟨rfl,_,by simp [hi],rfl⟩,st',fun b hb=>(hf b hb).1⟩⟩
 done:=by
  intro X hP hw hK hc i pins s σ H E I hf st hg
  subst hP hw hK
  obtain ⟨f0,f1,f2,f3,f4,f5⟩:=hf it (by simp)
  have hi:z.cps.size≤i:=hg
  exact wpAny_pyNext_ascii_end (I.ok.hd hc) st (by simp [hi]) fun h' eb=>⟨rfl,I.turned (t':=s.toks) (fun b o hb e=>eb b o hb e) f0 f1 f3 f4 f5⟩
 self:=fun _ _ _ _ _ st h=>wpAny_pyIter_striter_ascii st h
theorem turn_wide {P:Program} {w:World} {K:PySem.W.Frag} {tg:Expr} (it:Addr) (z:Str) (t:Tok):Turn P w K tg (Its z) [it] it (fun i h=>h.IsStrIter it "str_iterator" z t i) where
 mem:=by simp
 obj:=fun i h st b hb=>by
  have e:b = it:=by simpa using hb
  subst e
  obtain ⟨o,e,c,d⟩:=st
  exact ⟨o,e,fun v z=>by rw [d] at z; cases z⟩
 keep:=fun i h h' st k=>let ⟨o,ho,r⟩:=st; ⟨o,k it (by simp) o ho,r⟩
 item:=by
  intro X hP hw hK hc i pins s σ H E I hf st hg
  subst hP hw hK
  obtain ⟨f0,f1,f2,f3,f4,f5⟩:=hf it (by simp)
  have hi:i < z.cps.size:=hg
  refine wpAny_pyNext_wide_item st (c:=z.cps[i]) (by simp [hi]) fun h' st' sb=>?_
  have I1:Inv X pins σ H { s with heap:=h',toks:=s.toks + 1 }:=I.turned (t':=s.toks + 1) (fun b o hb e=>(sb.2 b hb).trans e) f0 f1 f3 f4 f5
  obtain ⟨o,e,c,d⟩:=id st'
  exact ⟨_,rfl,go_of (s:={ s with heap:=h',toks:=s.toks + 1 }) e c d (by decide) ⟨.str ⟨#[z.cps[i]]⟩,H,I1,⟨_,rfl⟩,⟨rfl,_,by simp [hi],rfl⟩,st',fun b hb=>(hf b hb).1⟩⟩
 done:=by
  intro X hP hw hK hc i pins s σ H E I hf st hg
  subst hP hw hK
  obtain ⟨f0,f1,f2,f3,f4,f5⟩:=hf it (by simp)
  have hi:z.cps.size≤i:=hg
  exact wpAny_pyNext_wide_end (I.ok.hd hc) st (by simp [hi]) fun h' eb=>⟨rfl,I.turned (t':=s.toks) (fun b o hb e=>eb b o hb e) f0 f1 f3 f4 f5⟩
 self:=fun _ _ _ _ _ st h=>wpAny_pyIter_striter_wide st h
def iStr (tl:TE):TI:=fun σ H R=>tl σ H fun x H1=>∃ z,x = .str z∧R (Its z) H1
theorem pi_str {X:Cx} {tg l:Expr} {tl:TE} (hl:PE X l tl):PI X tg l (iStr tl):=by
 intro pins s σ H R I h
 refine thn (hl pins s σ H _ I h) fun v s1 ⟨x,H1,I1,r1,q1⟩=>?_
 obtain ⟨z,e,q⟩:=q1
 subst e
 obtain ⟨t,rfl⟩:=r1
 have ff:∀ b ∈ [s1.heap.objs.size],FpOk X pins H1 b:=fun b hb=>by
  have e:b = s1.heap.objs.size:=by simpa using hb
  subst e
  exact I1.fpOk (Nat.le_refl _) (I1.hok.fresh (Nat.le_refl _))
 cases ha:z.cps.all (· < 128) with
 | true=>exact wpAny_pyIter_ascii ha ⟨s1.heap.objs.size,[s1.heap.objs.size],_,_,H1,rfl,I1.kept (t':=s1.toks) fun b o e=>Heap.get?_push_of_some _ e,turn_ascii _ z t,⟨_,Heap.get?_push_size _ rfl,rfl,rfl⟩,ff,q⟩
 | false=>exact wpAny_pyIter_wide ha ⟨s1.heap.objs.size,[s1.heap.objs.size],_,_,H1,rfl,I1.kept (t':=s1.toks) fun b o e=>Heap.get?_push_of_some _ e,turn_wide _ z t,⟨_,Heap.get?_push_size _ rfl,rfl,rfl⟩,ff,q⟩
theorem for_str {z:Str} {g:TG} {tb:TS} {D:Ends} {σ:L2.St} {H:Hp} (Pv:Nat→L2.St→Hp→Prop) (h0:Pv 0 σ H)
  (hs:∀ i c σ H,z.cps[i]? = some c→Pv i σ H→g (.str ⟨#[c]⟩) σ H fun σ2 H2=>tb { D with nx:=Pv (i + 1),ct:=Pv (i + 1),bk:=D.nx } σ2 H2) (hd:∀ σ H,Pv z.cps.size σ H→D.nx σ H) :
  ∃ W:Nat→Nat→L2.St→Hp→Prop,(∃ m,W 0 m σ H)∧∀ i m σ H,W i m σ H →
   ((Its z).stop i H∧D.nx σ H)∨((Its z).go i H∧∃ N:L2.St→Hp→Prop,(∀ σ' H',N σ' H'→∃ m',m' < m∧W (i + 1) m' σ' H')∧∀ x H',(Its z).yld i H x H'→g x σ H' fun σ2 H2=>tb { D with nx:=N,ct:=N,bk:=D.nx } σ2 H2):=by
 refine ⟨fun i m σ H=>m = z.cps.size - i∧i≤z.cps.size∧Pv i σ H,⟨z.cps.size,by simp,Nat.zero_le _,h0⟩,?_⟩
 rintro i m σ H ⟨rfl,hi,p⟩
 by_cases hlt:i < z.cps.size
 ·refine .inr ⟨hlt,Pv (i + 1),fun σ' H' p'=>⟨z.cps.size - (i + 1),by omega,rfl,hlt,p'⟩,fun x H' y=>?_⟩
  obtain ⟨e,c,hc,ex⟩:=y
  subst e ex
  exact hs i c σ _ hc p
 ·have e:i = z.cps.size:=by omega
  subst e
  exact .inl ⟨Nat.le_refl _,hd σ H p⟩
def rEqTD (K:PySem.W.Frag) (d:Nat) (neg:Bool):R2:=fun x y H Q=>∃ p q xs ys e,x = .ref p∧y = .ref q∧SqT K H p xs∧SqT K H q ys∧(∀ j,j < xs.length→j < ys.length→EqD K H d (xs.getD j .non) (ys.getD j .non) (e j))∧Q (.bl (if neg = true then !((List.range (min xs.length ys.length)).all e && xs.length == ys.length) else ((List.range (min xs.length ys.length)).all e && xs.length == ys.length))) H
theorem op_eqTD {X:Cx} {d:Nat} (hu:X.A.units + d + 1 < cLine):OpR X (compareOp .Eq) (rEqTD X.K d false):=by
 intro pins s σ H x y v u Q I rx ry h
 obtain ⟨p,q,xs,ys,e,rfl,rfl,hp,hq,he,k⟩:=h
 cases rx
 cases ry
 obtain ⟨its,r,pl,_⟩:=I.tuple hp
 obtain ⟨its2,r2,pl2,_⟩:=I.tuple hq
 have hl:=r.length
 have hl2:=r2.length
 refine SeqAt.eq_tupleAt (e:=e) pl pl2 (by omega) (fun j h1 h2=>?_) ⟨.bl _,H,I,rfl,?_⟩
 ·have h1':j < its.length:=by simpa using h1
  have h2':j < its2.length:=by simpa using h2
  have z:=(he j (by omega) (by omega)).at I (vals_at r h1') (vals_at r2 h2') (A:=X.A.in1) (by show X.A.units + 1 + d < _; omega)
  simpa using z
 ·simp only [List.size_toArray,← hl,← hl2]
  exact k
end Ow
namespace Ow
open PySem PySem.Spec PyProof.Rows L2
section
variable {prog:Program} {w:World} {K:Type} [DecidableEq K] {knd:KeyKind prog w K} {A:Around} {E:Value→Shared→Prop} {s:Shared}
end
section
variable {prog:Program} {w:World} {A:Around} {E:Value→Shared→Prop} {s:Shared}
end
section
variable {X:Cx}
end
def noStar:Expr→Bool
 | .Starred _ _=>false
 | _=>true
theorem star_cons {e:Expr} (h:noStar e = true) (rest:List Expr) (env:Env):starEach (e :: rest) env = (false,eval e env) :: starEach rest env:=by
 cases e <;> first | rfl | cases h
theorem pa_consN {X:Cx} {e:Expr} {es:List Expr} {te:TE} {t:TA} (ha:PE X e te) (hr:PA X es t) (hn:noStar e = true:=by rfl):PA X (e :: es) (tCons te t):=pa_cons ha hr (star_cons hn es X.env)
section
variable {X:Cx}
end
end Ow
namespace Ow
open PySem PySem.Spec PyProof.Rows L2
section
variable {X:Cx}
end
end Ow
namespace Ow
open PySem PySem.Spec PyProof.Rows L2
theorem pe_globI {X:Cx} {x:Str} {v:Int} {pos:Pos} (hg:Gl X x) (hm:∃ t,X.mg x = some (.int v t)) (hd:(x == ("__debug__":Str)) = false:=by decide):PE X (.Name x pos) (tC (.int v)):=by
 obtain ⟨t,h⟩:=hm
 exact pe_glob (v:=.int v) hg h ⟨t,rfl⟩ hd
end Ow
namespace Ow
open PySem PySem.Spec PyProof.Rows L2
end Ow
namespace Ow
open PySem PySem.Spec PyProof.Rows L2
structure MHasY (P:Program) (w:World) (K:PySem.W.Frag) (mg:Str→Option Value) (base:Heap) (k:Nat) (C:Addr) (m:Str) (ps:List Str) (sp:Sp):Prop where
 cl:Cls K C
 ex:∃ (f:Addr) (fd:FuncData),Meth K C m f∧FnOk P w K mg base (CX2 P w base) k f fd ps sp∧Binds K fd ps []
def tMethT (X:Cx) (E:L2.St→XK) (k:Nat) (m:Str) (ta:TE) (t:TA):TE:=fun σ H Q=>ta σ H fun x H1=>∃ (a C dx:Addr) (fs:List (Str × V)) (ps:List Str) (sp:Sp),x = .ref a∧H1 a = some (.ins C dx fs)∧fs.lookup m = none ∧
 MHasY X.prog X.w X.K X.mg X.base k C m ps sp∧t σ H1 fun vs H2=>sp (x :: (vs ++ [])) H2 Q (E σ)
theorem pe_methYT {X:Cx} {pins:List (Addr × Obj)} {E:L2.St→XK} {k:Nat} {m:Str} {pos apos:Pos} {o e:Expr} {es:List Expr} {ta:TE} {t:TA} {pl:Sem Bool} (he:PE (tryCy X pins E) o ta) (hr:Room k X.A) (ha:PA (tryCy X pins E) (e :: es) t)
  (hst:starEach (e :: es) X.env = (false,eval e X.env) :: starEach es X.env:=by rfl) (hpl:(backTo pos (starEach es X.env)).any (·.1) = false:=by rfl)
  (ht:eval (.Call (.Attribute o m apos) (e :: es) [] pos) X.env = (do
   let ov ← eval o X.env
   standAt apos.atName
   let (f,first) ← holding [ov] (getMethod ov m pl)
   callWith pos f first (backTo pos (starEach (e :: es) X.env)) (backToKw pos (keywordEach [] X.env))):=by rfl) :
  PE (tryCy X pins E) (.Call (.Attribute o m apos) (e :: es) [] pos) (tMethT X E k m ta t):=by
 intro pins2 s σ H Q I h
 refine PySem.W.methodCall_KW (pl:=pl) (thn (he pins2 s σ H _ I h) fun u s1 ⟨x,H1,I1,rx,a,C,dx,fs,ps,sp,ex,ea,l,M,q⟩=>?_) ht
 subst ex
 obtain rfl:u = Value.ref a:=rx
 obtain ⟨f,fd,hm,F,hbi⟩:=M.ex
 refine getmeth_ok I1 ea M.cl hm l ?_
 refine PySem.W.callWith_K (first:=[.ref a]) (h₀:=X.base) I.ok.mod.kin hm.kp (thn (ha pos pins2 s1 σ H1 _ I1 q) fun us s2 ⟨vs,H2,I2,r1,q1⟩=>⟨I2.kIn,?_⟩) hst hpl
 have r2:Vals (V.ref a :: (vs ++ [])) (Value.ref a :: us):=.cons rfl (by rw [List.append_nil]; exact r1)
 have hl:(Value.ref a :: us).length = ps.length:=by rw [← r2.length]; exact F.len _ _ _ _ q1
 have bd:=hbi s2 (Value.ref a :: us) I2.kIn (by rw [List.append_nil]; exact hl)
 rw [List.append_nil] at bd
 refine wpAny_call (codeAny_mono (F.run X.A X.stack s2 H2 ⟨Value.ref a :: us,[]⟩ (Value.ref a :: us) _ _ _ hr I2.env0 bd r2 q1) fun r s' hq=>?_)
 cases r with
 | error ev=>exact ⟨pins2,σ,H2,s2,I2.unwish,hq⟩
 | ok fl =>
  cases fl with
  | ret u=>exact I2.after hq
  | next=>exact False.elim hq
  | brk=>exact False.elim hq
  | cont=>exact False.elim hq
section
variable {X:Cx}
theorem mt_starts:MtM X "str.startswith" (fun x vs H Q=>∃ z y:Str,x = .str z∧vs = [.str y]∧Q (.bl (Txt.startswith z y)) H):=by
 intro pins s σ H x vs v us Q I rx rv h
 obtain ⟨z,y,rfl,rfl,q⟩:=h
 obtain ⟨t,rfl⟩:=rx
 obtain ⟨u,rfl,t2,rfl⟩:=rv.one
 exact SC.startswith ⟨.bl _,H,I,rfl,q⟩
theorem mt_find:MtM X "str.find" (fun x vs H Q=>∃ z y:Str,x = .str z∧vs = [.str y]∧Q (.int (Txt.find z y)) H):=by
 intro pins s σ H x vs v us Q I rx rv h
 obtain ⟨z,y,rfl,rfl,q⟩:=h
 obtain ⟨t,rfl⟩:=rx
 obtain ⟨u,rfl,t2,rfl⟩:=rv.one
 exact SC.find ⟨.int _,H,I.tok _,⟨_,rfl⟩,q⟩
theorem mt_part:MtM X "str.partition" (fun x vs H Q=>∃ z y:Str,x = .str z∧vs = [.str y]∧(y.length == 0) = false∧z.length≤sizeLine∧∀ t,H t = none→Q (.ref t) (upd H t (.tup [.str (Txt.partition z y).1,.str (Txt.partition z y).2.1,.str (Txt.partition z y).2.2]))):=by
 intro pins s σ H x vs v us Q I rx rv h
 obtain ⟨z,y,rfl,rfl,hy,hz,q⟩:=h
 obtain ⟨t,rfl⟩:=rx
 obtain ⟨u,rfl,t2,rfl⟩:=rv.one
 have key:∀ (p1 p2 p3:Str) (ta tb tc k:Nat),(∀ a,H a = none→Q (.ref a) (upd H a (.tup [.str p1,.str p2,.str p3])))→EP X pins σ Q (.ref s.heap.objs.size) { s with heap:=s.heap.push { cls:=.type "tuple",data:=.seq [.str p1 ta,.str p2 tb,.str p3 tc].toArray },toks:=k }:=fun p1 p2 p3 ta tb tc k q =>
  ⟨.ref s.heap.objs.size,_,I.laid (a:=s.heap.objs.size) (o:=.tup [.str p1,.str p2,.str p3]) (t':=k) (fun b o e=>Heap.get?_push_of_some _ e) (Nat.le_refl _) ⟨by show 3≤sizeLine; decide,_,.cons ⟨_,rfl⟩ (.cons ⟨_,rfl⟩ (.cons ⟨_,rfl⟩ .nil)),_,Heap.get?_push_size _ rfl,rfl,_,rfl⟩,rfl,q _ (I.hok.fresh (Nat.le_refl _))⟩
 refine call_meets PySem.F.slot_str_partition (typeIs_str _ _ _) PySem.F.entry_str_partition (PySem.F.args_str_partition_2 _ _) (meets_str_partition z y t t2 hy hz) ?_
 revert q
 unfold Txt.partition
 cases Builtin.Str.occurrences z y 0 z.length 1 with
 | nil=>intro q; exact key _ _ _ _ _ _ _ q
 | cons i r=>intro q; exact key _ _ _ _ _ _ _ q
theorem call_strW:CallR X (.type "str") (fun xs H Q=>∃ i:Int,xs = [.int i]∧-1000000000000000000≤i∧i≤1000000000000000000∧Q (.str (Str.ofString (toString i))) H):=by
 intro pins s σ H xs us Q I r h
 obtain ⟨i,rfl,i0,i1,q⟩:=h
 obtain ⟨u,rfl,t,rfl⟩:=vals1 r
 exact str_of_int_fit (N:=4611686018427387904) (by split <;> omega) (by omega) fun _=>⟨.str _,H,I.tok _,⟨_,rfl⟩,q⟩
def tTxt (te:TE):TT:=fun σ H Q=>te σ H fun x H1=>∃ z:Str,x = .str z∧z.length≤sizeLine∧Q (decide (z.length ≠ 0)) H1
theorem pt_txt {e:Expr} {t:TE} (h:PE X e t) (he:∀ whole,isTrue e X.env whole = (do let v ← whole; standAt e.pos; holding [v] (truthy v)):=by intro _; rfl):PT X e (tTxt t):=by
 intro pins s σ H Q I hw
 refine isTrue_plain (thn (h pins s σ H _ I hw) fun v s1 ⟨x,H1,I1,r1,q1⟩=>?_) (he _)
 obtain ⟨z,rfl,hz,q⟩:=q1
 obtain ⟨t',rfl⟩:=r1
 refine P.truthy_str (by have:=sizeLine_eq; omega) ⟨H1,I1.kept (t':=_) (fun b u e=>e),?_⟩
 have e:((z.length:Int) != 0) = decide (z.length ≠ 0):=by
  by_cases c:z.length = 0
  ·rw [c]; rfl
  ·rw [decide_eq_true c,bne_iff_ne]; omega
 rw [e]
 exact q
end
end Ow
namespace Ow
open PySem PySem.Spec PyProof.Rows L2
open Builtin.Int (intBits)
def top (i:Nat):Stmt:=PySem.Challenge.pw_overwise_k03_shown_and_read.main.body.getD i (.Pass ⟨0,0,0,0⟩)
abbrev s_NoText___init__:Stmt:=inClass (top 6) 0
theorem sc_NoText___init__:FnScope ["self", "found"] ["self", "found"] (defScope s_NoText___init__):=⟨rfl,rfl,rfl,by decide +kernel,rfl,by decide +kernel,by decide +kernel⟩
abbrev s_is_whole:Stmt:=top 8
theorem sc_is_whole:FnScope ["thing"] ["thing"] (defScope s_is_whole):=⟨rfl,rfl,rfl,by decide +kernel,rfl,by decide +kernel,by decide +kernel⟩
abbrev s_is_between:Stmt:=top 9
theorem sc_is_between:FnScope ["thing", "low", "high"] ["thing", "low", "high"] (defScope s_is_between):=⟨rfl,rfl,rfl,by decide +kernel,rfl,by decide +kernel,by decide +kernel⟩
abbrev s_need_width:Stmt:=top 10
theorem sc_need_width:FnScope ["width"] ["width"] (defScope s_need_width):=⟨rfl,rfl,rfl,by decide +kernel,rfl,by decide +kernel,by decide +kernel⟩
abbrev s_is_word:Stmt:=top 11
theorem sc_is_word:FnScope ["width", "thing"] ["width", "thing"] (defScope s_is_word):=⟨rfl,rfl,rfl,by decide +kernel,rfl,by decide +kernel,by decide +kernel⟩
abbrev s_Kind___init__:Stmt:=inClass (top 14) 0
theorem sc_Kind___init__:FnScope ["self", "width", "point"] ["self", "width", "point"] (defScope s_Kind___init__):=⟨rfl,rfl,rfl,by decide +kernel,rfl,by decide +kernel,by decide +kernel⟩
abbrev s_Kind_count_of:Stmt:=inClass (top 14) 1
theorem sc_Kind_count_of:FnScope ["self", "bits"] ["self", "bits"] (defScope s_Kind_count_of):=⟨rfl,rfl,rfl,by decide +kernel,rfl,by decide +kernel,by decide +kernel⟩
abbrev s_Kind_bits_of:Stmt:=inClass (top 14) 2
theorem sc_Kind_bits_of:FnScope ["self", "count"] ["self", "count"] (defScope s_Kind_bits_of):=⟨rfl,rfl,rfl,by decide +kernel,rfl,by decide +kernel,by decide +kernel⟩
abbrev s_Kind_shown:Stmt:=inClass (top 14) 6
theorem sc_Kind_shown:FnScope ["self", "bits", "count", "sign", "whole", "behind"] ["self", "bits"] (defScope s_Kind_shown):=⟨rfl,rfl,rfl,by decide +kernel,rfl,by decide +kernel,by decide +kernel⟩
abbrev s_Kind_read:Stmt:=inClass (top 14) 7
theorem sc_Kind_read:FnScope ["self", "text", "count", "bits"] ["self", "text"] (defScope s_Kind_read):=⟨rfl,rfl,rfl,by decide +kernel,rfl,by decide +kernel,by decide +kernel⟩
abbrev s_Plain___init__:Stmt:=inClass (top 15) 0
theorem sc_Plain___init__:FnScope ["self", "width"] ["self", "width"] (defScope s_Plain___init__):=⟨rfl,rfl,rfl,by decide +kernel,rfl,by decide +kernel,by decide +kernel⟩
abbrev s_Plain_least:Stmt:=inClass (top 15) 2
theorem sc_Plain_least:FnScope ["self"] ["self"] (defScope s_Plain_least):=⟨rfl,rfl,rfl,by decide +kernel,rfl,by decide +kernel,by decide +kernel⟩
abbrev s_Plain_greatest:Stmt:=inClass (top 15) 3
theorem sc_Plain_greatest:FnScope ["self"] ["self"] (defScope s_Plain_greatest):=⟨rfl,rfl,rfl,by decide +kernel,rfl,by decide +kernel,by decide +kernel⟩
abbrev s_Signed___init__:Stmt:=inClass (top 16) 0
theorem sc_Signed___init__:FnScope ["self", "width"] ["self", "width"] (defScope s_Signed___init__):=⟨rfl,rfl,rfl,by decide +kernel,rfl,by decide +kernel,by decide +kernel⟩
abbrev s_Signed_least:Stmt:=inClass (top 16) 2
theorem sc_Signed_least:FnScope ["self"] ["self"] (defScope s_Signed_least):=⟨rfl,rfl,rfl,by decide +kernel,rfl,by decide +kernel,by decide +kernel⟩
abbrev s_Signed_greatest:Stmt:=inClass (top 16) 3
theorem sc_Signed_greatest:FnScope ["self"] ["self"] (defScope s_Signed_greatest):=⟨rfl,rfl,rfl,by decide +kernel,rfl,by decide +kernel,by decide +kernel⟩
abbrev s_Pointed___init__:Stmt:=inClass (top 17) 0
theorem sc_Pointed___init__:FnScope ["self", "width", "point"] ["self", "width", "point"] (defScope s_Pointed___init__):=⟨rfl,rfl,rfl,by decide +kernel,rfl,by decide +kernel,by decide +kernel⟩
abbrev s_Pointed_least:Stmt:=inClass (top 17) 2
theorem sc_Pointed_least:FnScope ["self"] ["self"] (defScope s_Pointed_least):=⟨rfl,rfl,rfl,by decide +kernel,rfl,by decide +kernel,by decide +kernel⟩
abbrev s_Pointed_greatest:Stmt:=inClass (top 17) 3
theorem sc_Pointed_greatest:FnScope ["self"] ["self"] (defScope s_Pointed_greatest):=⟨rfl,rfl,rfl,by decide +kernel,rfl,by decide +kernel,by decide +kernel⟩
abbrev s_half:Stmt:=top 18
theorem sc_half:FnScope ["width"] ["width"] (defScope s_half):=⟨rfl,rfl,rfl,by decide +kernel,rfl,by decide +kernel,by decide +kernel⟩
abbrev s_figures_behind:Stmt:=top 19
theorem sc_figures_behind:FnScope ["rest", "point", "figures"] ["rest", "point"] (defScope s_figures_behind):=⟨rfl,rfl,rfl,by decide +kernel,rfl,by decide +kernel,by decide +kernel⟩
abbrev s_count_in:Stmt:=top 20
theorem sc_count_in:FnScope ["text", "point", "negative", "parts", "number", "worth", "figure", "count"] ["text", "point"] (defScope s_count_in):=⟨rfl,rfl,rfl,by decide +kernel,rfl,by decide +kernel,by decide +kernel⟩
abbrev s_number_in:Stmt:=top 21
theorem sc_number_in:FnScope ["figures", "number", "figure", "worth"] ["figures"] (defScope s_number_in):=⟨rfl,rfl,rfl,by decide +kernel,rfl,by decide +kernel,by decide +kernel⟩
abbrev s__law_cell:Stmt:=top 23
theorem sc__law_cell:FnScope ["_law_script", "_law_k"] ["_law_script", "_law_k"] (defScope s__law_cell):=⟨rfl,rfl,rfl,by decide +kernel,rfl,by decide +kernel,by decide +kernel⟩
abbrev s__law_box:Stmt:=top 24
theorem sc__law_box:FnScope ["_law_cell_here"] ["_law_cell_here"] (defScope s__law_box):=⟨rfl,rfl,rfl,by decide +kernel,rfl,by decide +kernel,by decide +kernel⟩
abbrev s__law_take:Stmt:=top 25
theorem sc__law_take:FnScope ["_law_box_here", "_law_many", "_law_digit", "_law_number"] ["_law_box_here", "_law_many"] (defScope s__law_take):=⟨rfl,rfl,rfl,by decide +kernel,rfl,by decide +kernel,by decide +kernel⟩
abbrev s__law_bits:Stmt:=top 26
theorem sc__law_bits:FnScope ["_law_box_here", "_law_width", "_law_way", "_law_half", "_law_high"] ["_law_box_here", "_law_width"] (defScope s__law_bits):=⟨rfl,rfl,rfl,by decide +kernel,rfl,by decide +kernel,by decide +kernel⟩
abbrev s__law_spec:Stmt:=top 27
theorem sc__law_spec:FnScope ["_law_box_here", "_law_width", "_law_word"] ["_law_box_here"] (defScope s__law_spec):=⟨rfl,rfl,rfl,by decide +kernel,rfl,by decide +kernel,by decide +kernel⟩
abbrev s__law_kind:Stmt:=top 28
theorem sc__law_kind:FnScope ["_law_spec_here"] ["_law_spec_here"] (defScope s__law_kind):=⟨rfl,rfl,rfl,by decide +kernel,rfl,by decide +kernel,by decide +kernel⟩
abbrev s__law_ends:Stmt:=top 29
theorem sc__law_ends:FnScope ["_law_spec_here", "_law_half"] ["_law_spec_here"] (defScope s__law_ends):=⟨rfl,rfl,rfl,by decide +kernel,rfl,by decide +kernel,by decide +kernel⟩
abbrev s__law_are_figures:Stmt:=top 30
theorem sc__law_are_figures:FnScope ["_law_text", "_law_sign"] ["_law_text"] (defScope s__law_are_figures):=⟨rfl,rfl,rfl,by decide +kernel,rfl,by decide +kernel,by decide +kernel⟩
abbrev s__law_read:Stmt:=top 31
theorem sc__law_read:FnScope ["_law_spec_here", "_law_text", "_law_body", "_law_whole", "_law_dot", "_law_behind", "_law_number", "_law_sign", "_law_ends_here"] ["_law_spec_here", "_law_text"] (defScope s__law_read):=⟨rfl,rfl,rfl,by decide +kernel,rfl,by decide +kernel,by decide +kernel⟩
abbrev s__law_told:Stmt:=top 32
theorem sc__law_told:FnScope ["_law_kind_here", "_law_thing", "_law_told_here", "e"] ["_law_kind_here", "_law_thing"] (defScope s__law_told):=⟨rfl,rfl,rfl,by decide +kernel,rfl,by decide +kernel,by decide +kernel⟩
abbrev s__law_due:Stmt:=top 33
theorem sc__law_due:FnScope ["_law_spec_here", "_law_text", "_law_word"] ["_law_spec_here", "_law_text"] (defScope s__law_due):=⟨rfl,rfl,rfl,by decide +kernel,rfl,by decide +kernel,by decide +kernel⟩
abbrev s__law_changed:Stmt:=top 34
theorem sc__law_changed:FnScope ["_law_box_here", "_law_text", "_law_other", "_law_signs", "_law_at", "_law_sign", "_law_some"] ["_law_box_here", "_law_text", "_law_other"] (defScope s__law_changed):=⟨rfl,rfl,rfl,by decide +kernel,rfl,by decide +kernel,by decide +kernel⟩
abbrev s__law_same:Stmt:=top 35
theorem sc__law_same:FnScope ["_law_found", "_law_due_here"] ["_law_found", "_law_due_here"] (defScope s__law_same):=⟨rfl,rfl,rfl,by decide +kernel,rfl,by decide +kernel,by decide +kernel⟩
abbrev s__law_word_right:Stmt:=top 36
theorem sc__law_word_right:FnScope ["_law_box_here", "_law_kind_here", "_law_spec_here", "_law_word", "_law_text", "_law_beside", "_law_other", "_law_changed_here", "_law_thing"] ["_law_box_here", "_law_kind_here", "_law_spec_here", "_law_word"] (defScope s__law_word_right):=⟨rfl,rfl,rfl,by decide +kernel,rfl,by decide +kernel,by decide +kernel⟩
abbrev s_law:Stmt:=top 37
theorem sc_law:FnScope ["_law_script", "_law_k", "_law_box_here", "_law_spec_here", "_law_kind_here", "_law_words", "_law_word"] ["_law_script"] (defScope s_law):=⟨rfl,rfl,rfl,by decide +kernel,rfl,by decide +kernel,by decide +kernel⟩
structure Ad where
 Kind:Addr
 Plain:Addr
 Signed:Addr
 Pointed:Addr
 NoText:Addr
 WiseError:Addr
structure Txt (K:PySem.W.Frag) (mg:Str→Option Value) (c:Ad):Prop where
 n_isinstance:mg "isinstance" = none
 n_int:mg "int" = none
 n_bool:mg "bool" = none
 n_str:mg "str" = none
 n_tuple:mg "tuple" = none
 n_list:mg "list" = none
 n_len:mg "len" = none
 n_max:mg "max" = none
 n_min:mg "min" = none
 n_range:mg "range" = none
 n_abs:mg "abs" = none
 g_Kind:mg "Kind" = some (.ref c.Kind)
 cl_Kind:Cls K c.Kind
 g_Plain:mg "Plain" = some (.ref c.Plain)
 cl_Plain:Cls K c.Plain
 na_Plain_width:NoAttr K c.Plain "width"
 na_Plain_point:NoAttr K c.Plain "point"
 g_Signed:mg "Signed" = some (.ref c.Signed)
 cl_Signed:Cls K c.Signed
 na_Signed_width:NoAttr K c.Signed "width"
 na_Signed_point:NoAttr K c.Signed "point"
 g_Pointed:mg "Pointed" = some (.ref c.Pointed)
 cl_Pointed:Cls K c.Pointed
 na_Pointed_width:NoAttr K c.Pointed "width"
 na_Pointed_point:NoAttr K c.Pointed "point"
 g_NoText:mg "NoText" = some (.ref c.NoText)
 g_WiseError:mg "WiseError" = some (.ref c.WiseError)
 g_LONGEST_SHOWN:∃ t,mg "LONGEST_SHOWN" = some (.int 43 t)
 kf_dc_Plain:PySem.W.findIn K (.ref c.Plain) "__class__" = some (some (.builtin "object.__class__"))
 kf_mo_Plain:PySem.W.mroIn K c.Plain (.type "object") = some true
 kf_ik_Plain:PySem.W.mroIn K c.Plain (.ref c.Kind) = some true
 kf_dc_Signed:PySem.W.findIn K (.ref c.Signed) "__class__" = some (some (.builtin "object.__class__"))
 kf_mo_Signed:PySem.W.mroIn K c.Signed (.type "object") = some true
 kf_ik_Signed:PySem.W.mroIn K c.Signed (.ref c.Kind) = some true
 kf_dc_Pointed:PySem.W.findIn K (.ref c.Pointed) "__class__" = some (some (.builtin "object.__class__"))
 kf_mo_Pointed:PySem.W.mroIn K c.Pointed (.type "object") = some true
 kf_ik_Pointed:PySem.W.mroIn K c.Pointed (.ref c.Kind) = some true
 kf_kc:PySem.W.isClsIn K c.Kind = true
 kf_kt:PySem.W.typeIn K (.ref c.Kind) = some (.type "type")
 kf_og:PySem.W.specialIn K (.builtin "object.__class__") "__get__" = some (some (.builtin "getset_descriptor.__get__"))
 kf_ot:PySem.W.takesIn K (.builtin "object.__class__") = some true
 kf_kc_Plain:PySem.W.isClsIn K c.Plain = true
 kf_kt_Plain:PySem.W.typeIn K (.ref c.Plain) = some (.type "type")
 kf_m_Plain_Plain:PySem.W.mroIn K c.Plain (.ref c.Plain) = some true
 kf_m_Plain_Signed:PySem.W.mroIn K c.Plain (.ref c.Signed) = some false
 kf_m_Plain_Pointed:PySem.W.mroIn K c.Plain (.ref c.Pointed) = some false
 kf_kc_Signed:PySem.W.isClsIn K c.Signed = true
 kf_kt_Signed:PySem.W.typeIn K (.ref c.Signed) = some (.type "type")
 kf_m_Signed_Plain:PySem.W.mroIn K c.Signed (.ref c.Plain) = some false
 kf_m_Signed_Signed:PySem.W.mroIn K c.Signed (.ref c.Signed) = some true
 kf_m_Signed_Pointed:PySem.W.mroIn K c.Signed (.ref c.Pointed) = some false
 kf_kc_Pointed:PySem.W.isClsIn K c.Pointed = true
 kf_kt_Pointed:PySem.W.typeIn K (.ref c.Pointed) = some (.type "type")
 kf_m_Pointed_Plain:PySem.W.mroIn K c.Pointed (.ref c.Plain) = some false
 kf_m_Pointed_Signed:PySem.W.mroIn K c.Pointed (.ref c.Signed) = some false
 kf_m_Pointed_Pointed:PySem.W.mroIn K c.Pointed (.ref c.Pointed) = some true
 kf_if_:PySem.W.isClsIn K c.NoText = true
 kf_tf:PySem.W.typeIn K (.ref c.NoText) = some (.type "type")
 kf_mf:PySem.W.mroIn K c.NoText (.ref c.NoText) = some true
 kf_wb:PySem.W.mroIn K c.NoText (.type "BaseException") = some true
 kf_ga:PySem.W.findIn K (.ref c.NoText) "__getattribute__" = some (some (.builtin "BaseException.__getattribute__"))
 kf_gn:PySem.W.findIn K (.ref c.NoText) "__getattr__" = some none
 kf_gc:PySem.W.findIn K (.ref c.NoText) "__class__" = some (some (.builtin "object.__class__"))
 kf_mo:PySem.W.mroIn K c.NoText (.type "object") = some true
 kf_mb:PySem.W.mroIn K c.NoText (.type "BaseException") = some true
 kf_hd:PySem.W.hasDictIn K c.NoText = true
 kf_nf:PySem.W.findIn K (.ref c.NoText) "found" = some none
 kf_wm:PySem.W.mroIn K c.NoText (.ref c.WiseError) = some true
 kf_wt:PySem.W.typeIn K (.ref c.WiseError) = some (.type "type")
 kf_wc:PySem.W.isClsIn K c.WiseError = true
theorem pw_bounds {w:Int} (h1:4≤w) (h2:w≤32):16≤(2:Int) ^ w.toNat∧(2:Int) ^ w.toNat≤4294967296:=by
 have a:(2:Int) ^ 4≤2 ^ w.toNat:=p_mono (by omega)
 have b:(2:Int) ^ w.toNat≤2 ^ 32:=p_mono (by omega)
 exact ⟨a,b⟩
theorem log_small {m:Int} (h0:0 < m) (h:m < 2 ^ 64):m.natAbs.log2 < 9000:=by
 have h1:m.natAbs ≠ 0:=by omega
 have h2:m.natAbs < 2 ^ 64:=by omega
 have:=(Nat.log2_lt h1).mpr h2
 omega
theorem cpow1 {w:Int} (h1:0≤w) (h2:w≤100000):CPow 1 w:=⟨h1,by omega,by decide⟩
theorem cmul_mod {x y m:Int} (h0:0 < m) (h:m≤2 ^ 64):CMul (x % m) y:=by
 have a:=Int.emod_nonneg x (show m ≠ 0 by omega)
 have b:=Int.emod_lt_of_pos x h0
 exact .inl ⟨by omega,by omega⟩
theorem sz2:(2:Nat)≤sizeLine:=by decide
def spBetween:Sp:=fun vs H Q _=>∃ i lo hi:Int,vs = [.int i,.int lo,.int hi]∧lo≤i∧i≤hi∧Q (.bl true) H
def spNeedW:Sp:=fun vs H Q _=>∃ i:Int,vs = [.int i]∧4≤i∧i≤32∧Q .non H
def spLaw (K:PySem.W.Frag):Sp:=fun vs H Q _=>∃ (a:Addr) (ns:List Int),vs = [.ref a]∧SqL K H a (ns.map V.int)∧ns.length≤63∧∀ H',Q (.bl true) H'
def spCell (K:PySem.W.Frag):Sp:=fun vs H Q _=>∃ (a:Addr) (ns:List Int) (k:Int),vs = [.ref a,.int k]∧SqL K H a (ns.map V.int)∧0≤k∧∀ c:Int,Q (.int c) H
def spBox:Sp:=fun vs H Q _=>∃ c:Int,vs = [.int c]∧∀ p H',H p = none→Box H' p→Same H H'→Q (.ref p) H'
def spTake:Sp:=fun vs H Q _=>∃ (p:Addr) (m:Int),vs = [.ref p,.int m]∧Box H p∧0 < m∧m < 2 ^ 64∧∀ (d:Int) H',0≤d→d < m→Box H' p→SameX p H H'→Q (.int d) H'
def cOf (c:Ad):Nat→Addr
 | 0=>c.Plain
 | 1=>c.Signed
 | _=>c.Pointed
def wd:Nat→Str
 | 0=>"plain"
 | 1=>"signed"
 | _=>"point"
def lo (kd:Nat) (w:Int):Int:=if kd = 0 then 0 else -(1 * 2 ^ (w - 1).toNat)
def hi (kd:Nat) (w:Int):Int:=if kd = 0 then 1 * 2 ^ w.toNat - 1 else 1 * 2 ^ (w - 1).toNat - 1
def KO (c:Ad) (H:Hp) (x:Addr) (kd:Nat) (w pt:Int):Prop:=∃ dx,H x = some (.ins (cOf c kd) dx [("width",.int w),("point",.int pt)])
theorem KO.same {c:Ad} {H H':Hp} {x:Addr} {kd:Nat} {w pt:Int} (k:KO c H x kd w pt) (s:Same H H'):KO c H' x kd w pt:=by
 obtain ⟨dx,h⟩:=k
 exact ⟨dx,s _ _ h⟩
def spHalf:Sp:=fun vs H Q _=>∃ w:Int,vs = [.int w]∧4≤w∧w≤32∧Q (.int (1 * 2 ^ (w - 1).toNat)) H
def spKinit (K:PySem.W.Frag):Sp:=fun vs H Q _=>∃ (x C dx:Addr) (w p:Int),vs = [.ref x,.int w,.int p]∧H x = some (.ins C dx [])∧Cls K C∧NoAttr K C "width"∧NoAttr K C "point"∧∀ H',SameX x H H'→H' x = some (.ins C dx [("width",.int w),("point",.int p)])→Q .non H'
def spInit (c:Ad) (kd:Nat):Sp:=fun vs H Q _=>∃ (x dx:Addr) (w:Int),vs = [.ref x,.int w]∧H x = some (.ins (cOf c kd) dx [])∧4≤w∧w≤32∧∀ H',SameX x H H'→KO c H' x kd w 0→Q .non H'
def spInit2 (c:Ad):Sp:=fun vs H Q _=>∃ (x dx:Addr) (w p:Int),vs = [.ref x,.int w,.int p]∧H x = some (.ins (cOf c 2) dx [])∧4≤w∧w≤32∧1≤p∧p≤w - 1∧∀ H',SameX x H H'→KO c H' x 2 w p→Q .non H'
def spLeast (c:Ad) (kd:Nat):Sp:=fun vs H Q _=>∃ (x:Addr) (w p:Int),vs = [.ref x]∧KO c H x kd w p∧4≤w∧w≤32∧Q (.int (lo kd w)) H
def spGreat (c:Ad) (kd:Nat):Sp:=fun vs H Q _=>∃ (x:Addr) (w p:Int),vs = [.ref x]∧KO c H x kd w p∧4≤w∧w≤32∧Q (.int (hi kd w)) H
def spBits (c:Ad):Sp:=fun vs H Q _=>∃ (kd:Nat) (x:Addr) (w p n:Int),vs = [.ref x,.int n]∧kd < 3∧KO c H x kd w p∧4≤w∧w≤32∧lo kd w≤n∧n≤hi kd w∧Q (.int (n % (1 * 2 ^ w.toNat))) H
def Spc (H:Hp) (t:Addr) (kd:Nat) (w p:Int):Prop:=H t = some (.tup [.str (wd kd),.int w,.int p])∧kd < 3∧4≤w∧w≤32∧(kd = 2→1≤p∧p≤w - 1)∧(kd ≠ 2→p = 0)
theorem Spc.same {H H':Hp} {t:Addr} {kd:Nat} {w p:Int} (k:Spc H t kd w p) (s:Same H H'):Spc H' t kd w p:=⟨s _ _ k.1,k.2⟩
theorem Spc.sameX {H H':Hp} {t q:Addr} {kd:Nat} {w p:Int} (k:Spc H t kd w p) (b:Box H q) (s:SameX q H H'):Spc H' t kd w p:=⟨s _ _ (fun z=>by obtain ⟨r,s',c,h⟩:=b; have:=k.1; rw [z,h] at this; cases this) k.1,k.2⟩
def spSpec:Sp:=fun vs H Q _=>∃ p:Addr,vs = [.ref p]∧Box H p∧∀ (t:Addr) (kd:Nat) (w pt:Int) H',H t = none→Spc H' t kd w pt→Box H' p→SameX p H H'→Q (.ref t) H'
def spKind (c:Ad):Sp:=fun vs H Q _=>∃ (t:Addr) (kd:Nat) (w pt:Int),vs = [.ref t]∧Spc H t kd w pt∧∀ (x:Addr) H',H x = none→KO c H' x kd w pt→Same H H'→Q (.ref x) H'
def spEnds:Sp:=fun vs H Q _=>∃ (t:Addr) (kd:Nat) (w pt:Int),vs = [.ref t]∧Spc H t kd w pt∧∀ (r:Addr) H',H r = none→H' r = some (.tup [.int (lo kd w),.int (hi kd w)])→Same H H'→Q (.ref r) H'
theorem ph {w:Int} (h1:4≤w):(2:Int) ^ w.toNat = 2 * 2 ^ (w - 1).toNat:=by
 have e:w.toNat = (w - 1).toNat + 1:=by omega
 rw [e,Int.pow_succ,Int.mul_comm]
theorem wd_ne {i j:Nat} (hi:i < 3) (hj:j < 3) (h:i ≠ j):¬ (V.str (wd i) = V.str (wd j)):=by
 rcases (by omega:i = 0∨i = 1∨i = 2) with rfl | rfl | rfl <;> rcases (by omega:j = 0∨j = 1∨j = 2) with rfl | rfl | rfl <;> first | (exact absurd rfl h) | (intro z; injection z with z; revert z; decide +kernel)
theorem Txt.cls {K:PySem.W.Frag} {mg:Str→Option Value} {c:Ad} (T:Txt K mg c) (kd:Nat):Cls K (cOf c kd):=match kd with
 | 0=>T.cl_Plain
 | 1=>T.cl_Signed
 | _ + 2=>T.cl_Pointed
theorem Txt.naw {K:PySem.W.Frag} {mg:Str→Option Value} {c:Ad} (T:Txt K mg c) (kd:Nat):NoAttr K (cOf c kd) "width":=match kd with
 | 0=>T.na_Plain_width
 | 1=>T.na_Signed_width
 | _ + 2=>T.na_Pointed_width
theorem Txt.nap {K:PySem.W.Frag} {mg:Str→Option Value} {c:Ad} (T:Txt K mg c) (kd:Nat):NoAttr K (cOf c kd) "point":=match kd with
 | 0=>T.na_Plain_point
 | 1=>T.na_Signed_point
 | _ + 2=>T.na_Pointed_point
theorem Txt.ty {K:PySem.W.Frag} {mg:Str→Option Value} {c:Ad} {H:Hp} {x dx:Addr} {fs:List (Str × V)} (T:Txt K mg c) (kd:Nat) (h:H x = some (.ins (cOf c kd) dx fs)):TyOf K H (.ref x) (.ref (cOf c kd)):=match kd,h with
 | 0,h=>TyOf.ins h T.cl_Plain T.kf_dc_Plain T.kf_og T.kf_ot T.kf_mo_Plain
 | 1,h=>TyOf.ins h T.cl_Signed T.kf_dc_Signed T.kf_og T.kf_ot T.kf_mo_Signed
 | _ + 2,h=>TyOf.ins h T.cl_Pointed T.kf_dc_Pointed T.kf_og T.kf_ot T.kf_mo_Pointed
theorem Txt.ik {K:PySem.W.Frag} {mg:Str→Option Value} {c:Ad} (T:Txt K mg c) (kd:Nat):PySem.W.kitOne K (.ref (cOf c kd)) (.ref c.Kind) = some true:=match kd with
 | 0=>kit_of T.kf_kc T.kf_kt T.kf_ik_Plain
 | 1=>kit_of T.kf_kc T.kf_kt T.kf_ik_Signed
 | _ + 2=>kit_of T.kf_kc T.kf_kt T.kf_ik_Pointed
theorem freshX {p t:Addr} {H H':Hp} (hb:Box H' p) (x:SameX p H H') (ht:H' t = none):H t = none:=by
 cases h:H t with
 | none=>rfl
 | some o =>
  by_cases e:t = p
  ·obtain ⟨r,s,c,hb⟩:=hb
   rw [e,hb] at ht
   cases ht
  ·rw [x t o e h] at ht
   cases ht
theorem made_same {x dx C:Addr} {H H':Hp} (hx:H x = none) (hd:H dx = none) (s:SameX x (upd (upd H dx (.own x)) x (.ins C dx [])) H'):Same H H':=fun b o h=>s b o (ne_of_none h hx) (by rw [upd_ne (ne_of_none h hx),upd_ne (ne_of_none h hd)]; exact h)
theorem hi_plain {w:Int} (h1:4≤w):hi 0 w = 2 * (1 * 2 ^ (w - 1).toNat) - 1:=by
 have:=ph h1
 show 1 * 2 ^ w.toNat - 1 = _
 omega
def cnt (kd:Nat) (w b:Int):Int:=if b≤hi kd w then b else b - 1 * 2 ^ w.toNat
def spIsW:Sp:=fun vs H Q _=>∃ w b:Int,vs = [.int w,.int b]∧4≤w∧w≤32∧0≤b∧b < 2 ^ w.toNat∧Q (.bl true) H
def spCnt (c:Ad):Sp:=fun vs H Q _=>∃ (kd:Nat) (x:Addr) (w p b:Int),vs = [.ref x,.int b]∧kd < 3∧KO c H x kd w p∧4≤w∧w≤32∧0≤b∧b < 2 ^ w.toNat∧Q (.int (cnt kd w b)) H
def spLBits:Sp:=fun vs H Q _=>∃ (p:Addr) (w:Int),vs = [.ref p,.int w]∧Box H p∧4≤w∧w≤32∧∀ (v:Int) H',0≤v→v < 2 ^ w.toNat→Box H' p→SameX p H H'→Q (.int v) H'
theorem b200 {x:Int} (h1:-(2 ^ 200) < x) (h2:x < 2 ^ 200):intBits x≤100000:=Nat.le_trans (intBits_le_iff.mpr (show x.natAbs < 2 ^ 200 by omega)) (by decide)
theorem pw_half {w:Int} (h1:4≤w):(2:Int) ^ w.toNat = 2 * 2 ^ (w - 1).toNat:=by
 have e:w.toNat = (w - 1).toNat + 1:=by omega
 rw [e,Int.pow_succ,Int.mul_comm]
theorem kit_int_str (K:PySem.W.Frag):PySem.W.kitOne K (.type "int") (.type "str") = some false:=by with_unfolding_all rfl
theorem kit_bl_str (K:PySem.W.Frag):PySem.W.kitOne K (.type "bool") (.type "str") = some false:=by with_unfolding_all rfl
theorem kit_non_str (K:PySem.W.Frag):PySem.W.kitOne K (.type "NoneType") (.type "str") = some false:=by with_unfolding_all rfl
theorem kit_lst_str (K:PySem.W.Frag):PySem.W.kitOne K (.type "list") (.type "str") = some false:=by with_unfolding_all rfl
theorem kit_tup_str (K:PySem.W.Frag):PySem.W.kitOne K (.type "tuple") (.type "str") = some false:=by with_unfolding_all rfl
theorem kit_dct_str (K:PySem.W.Frag):PySem.W.kitOne K (.type "dict") (.type "str") = some false:=by with_unfolding_all rfl
theorem kit_str_str (K:PySem.W.Frag):PySem.W.kitOne K (.type "str") (.type "str") = some true:=by with_unfolding_all rfl
theorem iteC {c A B:Prop} [Decidable c] (h1:c→A) (h2:¬ c→B):if decide c = true then A else B:=by
 by_cases h:c
 ·exact iteD h (h1 h)
 ·exact iteDN h (h2 h)
theorem iteCN {c A B:Prop} [Decidable c] (h1:¬ c→A) (h2:c→B):if (!decide c) = true then A else B:=by
 by_cases h:c
 ·exact iteNS h (h2 h)
 ·exact iteN h (h1 h)
local macro_rules | `(tactic| walk_at "s")=>`(tactic| first
 | omega | assumption | exact ty_int | exact rfl | (dsimp only; omega) | exact cpow1 (by omega) (by omega) | exact ⟨by decide,by decide⟩ | exact ⟨by omega,log_small (by omega) (by omega)⟩
 | exact .inr ⟨by decide,by decide⟩ | exact .inl ⟨by decide,by decide⟩ | exact .inl ⟨by omega,by omega⟩ | exact .inr ⟨by omega,by omega⟩ | exact ⟨b200 (by omega) (by omega),b200 (by omega) (by omega)⟩
 | exact ⟨by decide,by decide,by decide⟩ | exact Nat.le_of_ble_eq_true rfl)
local macro_rules | `(tactic| walk_at "q")=>`(tactic| first | exact SqT.of (by first | assumption | exact upd_same) | exact SqL.of (by first | assumption | exact upd_same) | assumption)
local macro_rules | `(tactic| walk_at "o")=>`(tactic| repeat (first
 | refine ⟨_,rfl,?_⟩ | refine ⟨_,_,rfl,rfl,?_⟩ | with_reducible refine iteF ?_ | with_reducible refine iteT ?_
 | refine ⟨_,_,_,_,rfl,rfl,(by walk_at "q"),rfl,?_⟩
 | refine And.intro (by walk_at "s") ?_
 | refine ⟨_,_,rfl,?_⟩ | refine ⟨_,_,_,rfl,?_⟩
 | refine ⟨_,_,_,_,_,rfl,rfl,TyOf.int _,kit_int_int _,?_⟩ | refine ⟨_,_,_,_,_,rfl,rfl,TyOf.int _,kit_int_bool _,?_⟩
 | refine ⟨_,_,_,_,_,rfl,rfl,TyOf.bl _,rfl,?_⟩
 | refine ⟨_,_,_,_,_,rfl,rfl,TyOf.tup (by assumption),rfl,?_⟩
 | refine ⟨_,_,rfl,.inr (SqT.of (by assumption)),?_⟩ | refine ⟨_,_,rfl,.inl (SqL.of (by assumption)),?_⟩
 | with_reducible refine iteD (by omega) ?_ | with_reducible refine iteDN (by omega) ?_ | with_reducible refine iteN (by omega) ?_ | with_reducible refine iteNS (by omega) ?_
 | with_reducible refine iteNS rfl ?_))
local macro_rules | `(tactic| walk_at "c")=>`(tactic| first | with_reducible refine iteI ?_ ?_ | with_reducible refine iteIN ?_ ?_ | with_reducible refine iteC ?_ ?_ | with_reducible refine iteCN ?_ ?_ | refine ite2 ?_ ?_)
local macro_rules | `(tactic| walk_at "n")=>`(tactic| (intro z; injection z with z; revert z; decide +kernel))
open PySem.NumText (AllDigits digitsVal)
theorem dv_from:∀ (cs:List Nat) (a:Nat),cs.foldl (fun acc c=>acc * 10 + (c - 48)) a = a * 10 ^ cs.length + digitsVal cs
 | [],a=>by simp [digitsVal]
 | c :: cs,a=>by
  show cs.foldl _ (a * 10 + (c - 48)) = a * 10 ^ (cs.length + 1) + cs.foldl _ (0 * 10 + (c - 48))
  rw [dv_from cs (a * 10 + (c - 48)),dv_from cs (0 * 10 + (c - 48)),Nat.zero_mul,Nat.zero_add,Nat.add_mul,Nat.pow_succ,Nat.mul_assoc a 10,Nat.mul_comm 10 (10 ^ cs.length)]
  omega
theorem dv_cons (c:Nat) (cs:List Nat):digitsVal (c :: cs) = (c - 48) * 10 ^ cs.length + digitsVal cs:=by
 show cs.foldl _ (0 * 10 + (c - 48)) = _
 rw [dv_from,Nat.zero_mul,Nat.zero_add]
theorem dv_app (a b:List Nat):digitsVal (a ++ b) = digitsVal a * 10 ^ b.length + digitsVal b:=by
 unfold digitsVal
 rw [List.foldl_append,dv_from]
 rfl
theorem dv_lt:∀ {cs:List Nat},AllDigits cs→digitsVal cs < 10 ^ cs.length
 | [],_=>by decide
 | c :: cs,h=>by
  have:=dv_lt h.tail
  have hc:=h.head
  rw [dv_cons,List.length_cons,Nat.pow_succ]
  have:(c - 48) * 10 ^ cs.length≤9 * 10 ^ cs.length:=Nat.mul_le_mul_right _ (by omega)
  omega
def dgs (k:Nat):List Nat:=(Nat.toDigits 10 k).map Char.toNat
structure Canon (W:List Nat):Prop where
 dig:AllDigits W
 ne:W ≠ []
 lead:W.head? = some 48→W.length = 1
theorem map_chars {W:List Nat} (h:AllDigits W):(W.map Char.ofNat).map Char.toNat = W:=by
 rw [List.map_map]
 have:∀ c ∈ W,(Char.toNat ∘ Char.ofNat) c = c:=fun c hc=>by
  have:=h c hc
  have a:∀ c ∈ List.range 58,(Char.ofNat c).toNat = c:=by decide
  exact a c (List.mem_range.mpr (by omega))
 rw [List.map_congr_left this,List.map_id']
theorem canon_uniq {W:List Nat} (h:Canon W):dgs (digitsVal W) = W:=by
 unfold dgs
 have hl:0 < W.length:=List.length_pos_iff.mpr h.ne
 rw [PySem.NumText.toDigits_digitsVal (W.length - 1) W (by omega) h.dig ?_,map_chars h.dig]
 match W,h with
 | c :: r,h =>
  by_cases e:c = 48
  ·left
   have:=h.lead (by rw [e]; rfl)
   omega
  ·right
   have:=h.dig.head
   exact ⟨c,r,rfl,by omega⟩
theorem dgs_small {k:Nat} (h:k < 10):dgs k = [48 + k]:=by
 unfold dgs
 rw [Nat.toDigits_of_lt_base h]
 have a:∀ k ∈ List.range 10,[Nat.digitChar k].map Char.toNat = [48 + k]:=by decide
 exact a k (List.mem_range.mpr h)
theorem dgs_step {k:Nat} (h:10≤k):dgs k = dgs (k / 10) ++ [48 + k % 10]:=by
 have e:=Nat.toDigits_append_toDigits (b:=10) (n:=k / 10) (d:=k % 10) (by decide) (by omega) (Nat.mod_lt _ (by decide))
 rw [show 10 * (k / 10) + k % 10 = k by omega] at e
 have:dgs k = dgs (k / 10) ++ dgs (k % 10):=by unfold dgs; rw [← e,List.map_append]
 rw [this,dgs_small (Nat.mod_lt _ (by decide))]
theorem dgs_ok:∀ k:Nat,Canon (dgs k)∧digitsVal (dgs k) = k∧(k ≠ 0→(dgs k).head? ≠ some 48):=by
 intro k
 induction k using Nat.strongRecOn with
 | _ k ih =>
  by_cases h:k < 10
  ·rw [dgs_small h]
   refine ⟨⟨fun c hc=>?_,by simp,fun _=>rfl⟩,?_,fun h0=>?_⟩
   ·rw [List.mem_singleton.mp hc]; omega
   ·show 0 * 10 + (48 + k - 48) = k; omega
   ·show some (48 + k) ≠ some 48
    intro z; injection z; omega
  ·obtain ⟨⟨i1,i2,i3⟩,i4,i5⟩:=ih (k / 10) (by omega)
   rw [dgs_step (by omega)]
   have hd:(dgs (k / 10) ++ [48 + k % 10]).head? = (dgs (k / 10)).head?:=by
    cases e:dgs (k / 10) with
    | nil=>exact absurd e i2
    | cons a t=>rfl
   refine ⟨⟨fun c hc=>?_,by simp,fun z=>?_⟩,?_,fun _=>?_⟩
   ·rcases List.mem_append.mp hc with hc | hc
    ·exact i1 c hc
    ·rw [List.mem_singleton.mp hc]; omega
   ·rw [hd] at z; exact absurd z (i5 (by omega))
   ·rw [PySem.NumText.digitsVal_snoc,i4]; omega
   ·rw [hd]; exact i5 (by omega)
def fg (p:Nat):Nat→Nat→List Nat
 | 0,_=>[]
 | f + 1,r=>if r = 0 then [] else (48 + r * 10 / 2 ^ p) :: fg p f (r * 10 % 2 ^ p)
structure FOk (p f r:Nat):Prop where
 le:f≤p
 lt:r < 2 ^ p
 dv:2 ^ (p - f) ∣ r
theorem FOk.start {p r:Nat} (h:r < 2 ^ p):FOk p p r:=⟨Nat.le_refl _,h,by rw [Nat.sub_self]; exact Nat.one_dvd _⟩
theorem FOk.zero {p r:Nat} (h:FOk p 0 r):r = 0:=Nat.eq_zero_of_dvd_of_lt h.dv h.lt
theorem FOk.next {p f r:Nat} (h:FOk p (f + 1) r):FOk p f (r * 10 % 2 ^ p):=by
 refine ⟨Nat.le_of_succ_le h.le,Nat.mod_lt _ (Nat.two_pow_pos p),?_⟩
 have e:2 ^ (p - f) = 2 ^ (p - (f + 1)) * 2:=by rw [← Nat.pow_succ]; congr 1; have:=h.le; omega
 have d1:2 ^ (p - f) ∣ r * 10:=by rw [e]; exact Nat.mul_dvd_mul h.dv (by decide)
 exact (Nat.dvd_mod_iff (Nat.pow_dvd_pow 2 (Nat.sub_le _ _))).mpr d1
theorem fg_ok {p:Nat}:∀ {f r:Nat},FOk p f r→AllDigits (fg p f r)∧digitsVal (fg p f r) * 2 ^ p = r * 10 ^ (fg p f r).length∧(fg p f r).length≤f∧(fg p f r = [] ↔ r = 0)∧(fg p f r).getLast? ≠ some 48
 | 0,r,h=>by
  have:=h.zero
  subst this
  exact ⟨(fun _ h=>nomatch h),by simp [fg,digitsVal],Nat.le_refl _,by simp [fg],by simp [fg]⟩
 | f + 1,r,h=>by
  by_cases e:r = 0
  ·subst e
   simp only [fg,if_true]
   exact ⟨(fun _ h=>nomatch h),by simp [digitsVal],Nat.zero_le _,by simp,by simp⟩
  ·obtain ⟨a1,a2,a3,a4,a5⟩:=fg_ok h.next
   have lt:=h.lt
   have dm:=Nat.div_add_mod (r * 10) (2 ^ p)
   have q9:r * 10 / 2 ^ p < 10:=Nat.div_lt_of_lt_mul (Nat.mul_lt_mul_of_pos_right lt (by decide))
   have ef:fg p (f + 1) r = (48 + r * 10 / 2 ^ p) :: fg p f (r * 10 % 2 ^ p):=by simp only [fg,if_neg e]
   rw [ef]
   refine ⟨fun c hc=>?_,?_,Nat.succ_le_succ a3,by simp [e],?_⟩
   ·rcases List.mem_cons.mp hc with rfl | hc
    ·generalize r * 10 / 2 ^ p = x at q9 ⊢
     omega
    ·exact a1 c hc
   ·rw [dv_cons,List.length_cons,Nat.add_sub_cancel_left,Nat.add_mul,a2,Nat.pow_succ]
    generalize fg p f (r * 10 % 2 ^ p) = B at *
    have:r * (10 ^ B.length * 10) = (2 ^ p * (r * 10 / 2 ^ p) + r * 10 % 2 ^ p) * 10 ^ B.length:=by rw [dm,Nat.mul_comm (10 ^ B.length),← Nat.mul_assoc]
    rw [this,Nat.add_mul]
    congr 1
    rw [Nat.mul_comm (2 ^ p),Nat.mul_right_comm]
   ·cases eb:fg p f (r * 10 % 2 ^ p) with
    | nil =>
     have z:=a4.mp eb
     show some (48 + r * 10 / 2 ^ p) ≠ some 48
     intro h48
     injection h48 with h48
     have:r * 10 / 2 ^ p = 0:=by omega
     rw [this,z] at dm
     omega
    | cons b t =>
     rw [eb] at a5
     rw [List.getLast?_cons_cons]
     exact a5
theorem fg_uniq {p:Nat}:∀ {f r:Nat} {B:List Nat},FOk p f r→AllDigits B→B.getLast? ≠ some 48→digitsVal B * 2 ^ p = r * 10 ^ B.length→B = fg p f r:=by
 have pos:=Nat.two_pow_pos p
 have nz:∀ {B:List Nat},AllDigits B→B ≠ []→B.getLast? ≠ some 48→digitsVal B ≠ 0:=by
  intro B hd hn hl
  rcases List.eq_nil_or_concat B with rfl | ⟨i,c,rfl⟩
  ·exact absurd rfl hn
  ·rw [List.concat_eq_append,PySem.NumText.digitsVal_snoc]
   rw [List.concat_eq_append,List.getLast?_concat] at hl
   have:=hd c (by simp)
   have:c ≠ 48:=fun z=>hl (by rw [z])
   omega
 intro f
 induction f with
 | zero =>
  intro r B h hd hl e
  have:=h.zero
  subst this
  rw [Nat.zero_mul] at e
  cases B with
  | nil=>rfl
  | cons c t=>exact absurd (by rcases Nat.mul_eq_zero.mp e with z | z <;> omega) (nz hd (by simp) hl)
 | succ f ih =>
  intro r B h hd hl e
  cases B with
  | nil =>
   have:r = 0:=by
    have e:0 * 2 ^ p = r * 10 ^ 0:=e
    simp at e
    exact e.symm
   subst this
   simp [fg]
  | cons c t =>
   have vz:=nz hd (by simp) hl
   have rz:r ≠ 0:=fun z=>by
    rw [z,Nat.zero_mul] at e
    rcases Nat.mul_eq_zero.mp e with z | z <;> omega
   have hc:=hd.head
   have tl:=dv_lt hd.tail
   rw [dv_cons,List.length_cons,Nat.pow_succ] at e
   have tp:0 < 10 ^ t.length:=Nat.pow_pos (by decide)
   have e2:(r * 10) * 10 ^ t.length = ((c - 48) * 2 ^ p) * 10 ^ t.length + digitsVal t * 2 ^ p:=by
    rw [Nat.mul_assoc,Nat.mul_comm 10,← e,Nat.add_mul,Nat.mul_right_comm]
   have lt2:digitsVal t * 2 ^ p < 2 ^ p * 10 ^ t.length:=by rw [Nat.mul_comm]; exact Nat.mul_lt_mul_of_pos_left tl pos
   have q1:(c - 48) * 2 ^ p≤r * 10:=Nat.le_of_mul_le_mul_right (by omega:(c - 48) * 2 ^ p * 10 ^ t.length≤r * 10 * 10 ^ t.length) tp
   have q2:r * 10 < (c - 48) * 2 ^ p + 2 ^ p:=Nat.lt_of_mul_lt_mul_right (a:=10 ^ t.length) (by rw [Nat.add_mul]; omega)
   have qd:r * 10 / 2 ^ p = c - 48:=by
    rw [Nat.div_eq_iff pos]
    constructor
    ·exact q1
    ·omega
   have dm:=Nat.div_add_mod (r * 10) (2 ^ p)
   rw [qd,Nat.mul_comm (2 ^ p)] at dm
   have e3:digitsVal t * 2 ^ p = (r * 10 % 2 ^ p) * 10 ^ t.length:=by
    have:(r * 10) * 10 ^ t.length = ((c - 48) * 2 ^ p) * 10 ^ t.length + (r * 10 % 2 ^ p) * 10 ^ t.length:=by rw [← Nat.add_mul,dm]
    omega
   have lt':t.getLast? ≠ some 48:=by
    cases t with
    | nil=>simp
    | cons b u=>rw [List.getLast?_cons_cons] at hl; exact hl
   have:=ih h.next hd.tail lt' e3
   simp only [fg,if_neg rz]
   rw [qd,← this,show 48 + (c - 48) = c by omega]
def tx (neg:Bool) (k:Nat) (B:List Nat):List Nat:=(if neg = true then [45] else []) ++ (dgs k ++ (if B = [] then [] else 46 :: B))
def shT (p:Nat) (c:Int):List Nat:=tx (decide (c < 0)) (c.natAbs / 2 ^ p) (fg p p (c.natAbs % 2 ^ p))
def negOf (t:List Nat):Bool:=t.head? == some 45
def bodyOf (t:List Nat):List Nat:=if negOf t = true then t.tail else t
def whl (b:List Nat):List Nat:=b.takeWhile (· != 46)
def bhd (b:List Nat):List Nat:=(b.dropWhile (· != 46)).tail
theorem rebuild (t:List Nat):t = (if negOf t = true then [45] else []) ++ bodyOf t:=by
 unfold bodyOf negOf
 cases t with
 | nil=>rfl
 | cons c r =>
  by_cases h:c = 45
  ·subst h; rfl
  ·have e:((c :: r).head? == some 45) = false:=beq_eq_false_iff_ne.mpr fun z=>h (by injection z)
   rw [e]
   rfl
theorem whl_bhd (b:List Nat):(46 ∈ b→b = whl b ++ 46 :: bhd b)∧(46 ∉ b→b = whl b∧bhd b = []):=by
 unfold whl bhd
 induction b with
 | nil=>simp
 | cons c r ih =>
  by_cases h:c = 46
  ·subst h
   simp [List.takeWhile,List.dropWhile]
  ·have e:(c != 46) = true:=bne_iff_ne.mpr h
   simp only [List.takeWhile_cons,List.dropWhile_cons,e,if_true,List.mem_cons,List.cons_append]
   refine ⟨fun m=>?_,fun m=>?_⟩
   ·have:=ih.1 (m.resolve_left fun z=>h z.symm)
    rw [← this]
   ·have m':46 ∉ r:=fun z=>m (.inr z)
    have:=ih.2 m'
    rw [← this.1]
    exact ⟨rfl,this.2⟩
theorem whl_of {W r:List Nat} (h:46 ∉ W):whl (W ++ 46 :: r) = W∧bhd (W ++ 46 :: r) = r:=by
 unfold whl bhd
 induction W with
 | nil=>simp [List.takeWhile,List.dropWhile]
 | cons c t ih =>
  have e:(c != 46) = true:=bne_iff_ne.mpr fun z=>h (by rw [z]; exact List.mem_cons_self ..)
  have:=ih fun z=>h (List.mem_cons_of_mem _ z)
  simp only [List.cons_append,List.takeWhile_cons,List.dropWhile_cons,e,if_true]
  exact ⟨by rw [this.1],this.2⟩
theorem no46 {W:List Nat} (h:AllDigits W):46 ∉ W:=fun m=>by have:=h 46 m; omega
theorem tx_parts {neg:Bool} {k:Nat} {B:List Nat} (hB:AllDigits B):negOf (tx neg k B) = neg∧bodyOf (tx neg k B) = dgs k ++ (if B = [] then [] else 46 :: B)∧whl (dgs k ++ (if B = [] then [] else 46 :: B)) = dgs k∧bhd (dgs k ++ (if B = [] then [] else 46 :: B)) = B∧(46 ∈ dgs k ++ (if B = [] then [] else 46 :: B) ↔ B ≠ []):=by
 obtain ⟨⟨cd,cn,_⟩,_,_⟩:=dgs_ok k
 have n46:=no46 cd
 have hh:∀ r,((dgs k ++ r).head? == some 45) = false:=fun r=>by
  cases e:dgs k with
  | nil=>exact absurd e cn
  | cons a t =>
   rw [e] at cd
   have:=cd.head
   exact beq_eq_false_iff_ne.mpr fun z=>by
    have z:some a = some 45:=z
    injection z; omega
 have e1:negOf (tx neg k B) = neg:=by
  unfold negOf tx
  cases neg with
  | true=>rfl
  | false=>exact hh _
 refine ⟨e1,?_,?_,?_,?_⟩
 ·unfold bodyOf
  rw [e1]
  unfold tx
  cases neg <;> rfl
 ·by_cases b:B = []
  ·rw [if_pos b,List.append_nil]
   exact ((whl_bhd (dgs k)).2 n46).1.symm
  ·rw [if_neg b]
   exact (whl_of n46).1
 ·by_cases b:B = []
  ·rw [if_pos b,List.append_nil,b]
   exact ((whl_bhd (dgs k)).2 n46).2
  ·rw [if_neg b]
   exact (whl_of n46).2
 ·by_cases b:B = []
  ·rw [if_pos b,List.append_nil]
   exact ⟨fun z=>absurd z n46,fun z=>absurd b z⟩
  ·rw [if_neg b]
   exact ⟨fun _=>b,fun _=>List.mem_append_right _ (List.mem_cons_self ..)⟩
structure LOk (p:Nat) (t:List Nat) (M:Int):Prop where
 canon:Canon (whl (bodyOf t))
 beh:46 ∈ bodyOf t→AllDigits (bhd (bodyOf t))∧bhd (bodyOf t) ≠ []∧(bhd (bodyOf t)).getLast? ≠ some 48
 ex:digitsVal (whl (bodyOf t) ++ bhd (bodyOf t)) * 2 ^ p = M.natAbs * 10 ^ (bhd (bodyOf t)).length
 sg:(negOf t = true→M < 0)∧(negOf t = false→0≤M)
theorem LOk.shown {p:Nat} {t:List Nat} {M:Int} (h:LOk p t M):t = shT p M:=by
 obtain ⟨hc,hb,ex,s1,s2⟩:=h
 have key:∃ d:Bool,bodyOf t = whl (bodyOf t) ++ (if d = true then 46 :: bhd (bodyOf t) else [])∧(d = false→bhd (bodyOf t) = [])∧(d = true→AllDigits (bhd (bodyOf t))∧bhd (bodyOf t) ≠ []∧(bhd (bodyOf t)).getLast? ≠ some 48):=by
  by_cases m:46 ∈ bodyOf t
  ·exact ⟨true,(whl_bhd _).1 m,(fun z=>nomatch z),fun _=>hb m⟩
  ·obtain ⟨e1,e2⟩:=(whl_bhd (bodyOf t)).2 m
   exact ⟨false,by simp only [Bool.false_eq_true,if_false,List.append_nil]; exact e1,fun _=>e2,fun z=>nomatch z⟩
 obtain ⟨d,eb,d0,d1⟩:=key
 have ebt:=rebuild t
 generalize bodyOf t = b at *
 generalize whl b = W at *
 generalize bhd b = B at *
 have dB:AllDigits B:=by cases d with
  | true=>exact (d1 rfl).1
  | false=>rw [d0 rfl]; exact fun _ h=>nomatch h
 have lB:B.getLast? ≠ some 48:=by cases d with
  | true=>exact (d1 rfl).2.2
  | false=>rw [d0 rfl]; simp
 have dd:(if d = true then 46 :: B else []) = if B = [] then [] else 46 :: B:=by cases d with
  | true=>rw [if_pos rfl,if_neg (d1 rfl).2.1]
  | false=>rw [if_neg (by decide),if_pos (d0 rfl)]
 have pos:=Nat.two_pow_pos p
 have tp:0 < 10 ^ B.length:=Nat.pow_pos (by decide)
 have lt:=dv_lt dB
 rw [dv_app,Nat.add_mul,Nat.mul_right_comm] at ex
 have lt2:digitsVal B * 2 ^ p < 2 ^ p * 10 ^ B.length:=by rw [Nat.mul_comm]; exact Nat.mul_lt_mul_of_pos_left lt pos
 have q1:digitsVal W * 2 ^ p≤M.natAbs:=Nat.le_of_mul_le_mul_right (by omega:digitsVal W * 2 ^ p * 10 ^ B.length≤M.natAbs * 10 ^ B.length) tp
 have q2:M.natAbs < digitsVal W * 2 ^ p + 2 ^ p:=Nat.lt_of_mul_lt_mul_right (a:=10 ^ B.length) (by rw [Nat.add_mul]; omega)
 have qd:M.natAbs / 2 ^ p = digitsVal W:=by
  rw [Nat.div_eq_iff pos]
  constructor
  ·exact q1
  ·omega
 have dm:=Nat.div_add_mod M.natAbs (2 ^ p)
 rw [qd,Nat.mul_comm (2 ^ p)] at dm
 have e3:digitsVal B * 2 ^ p = (M.natAbs % 2 ^ p) * 10 ^ B.length:=by
  have:M.natAbs * 10 ^ B.length = (digitsVal W * 2 ^ p) * 10 ^ B.length + (M.natAbs % 2 ^ p) * 10 ^ B.length:=by rw [← Nat.add_mul,dm]
  omega
 have eB:=fg_uniq (FOk.start (Nat.mod_lt M.natAbs pos)) dB lB e3
 unfold shT tx
 rw [qd,canon_uniq hc,← eB,← dd,← eb]
 have en:negOf t = decide (M < 0):=by
  cases e:negOf t with
  | true=>exact (decide_eq_true (s1 e)).symm
  | false=>exact (decide_eq_false (by have:=s2 e; omega)).symm
 rw [← en]
 exact ebt
theorem shT_ok (p:Nat) (M:Int):LOk p (shT p M) M:=by
 have pos:=Nat.two_pow_pos p
 obtain ⟨f1,f2,f3,f4,f5⟩:=fg_ok (FOk.start (Nat.mod_lt M.natAbs pos))
 obtain ⟨c1,c2,c3⟩:=dgs_ok (M.natAbs / 2 ^ p)
 obtain ⟨t1,t2,t3,t4,t5⟩:=tx_parts (neg:=decide (M < 0)) (k:=M.natAbs / 2 ^ p) f1
 have dm:=Nat.div_add_mod M.natAbs (2 ^ p)
 unfold shT
 refine ⟨?_,fun m=>?_,?_,fun h=>?_,fun h=>?_⟩
 ·rw [t2,t3]; exact c1
 ·rw [t2] at m ⊢
  rw [t4]
  exact ⟨f1,t5.mp m,f5⟩
 ·rw [t2,t3,t4,dv_app,c2,Nat.add_mul,f2,Nat.mul_right_comm,← Nat.add_mul,Nat.mul_comm (M.natAbs / 2 ^ p),dm]
 ·rw [t1] at h; exact of_decide_eq_true h
 ·rw [t1] at h; have:=of_decide_eq_false h; omega
theorem shT_dig (p:Nat) (M:Int):AllDigits (whl (bodyOf (shT p M)) ++ bhd (bodyOf (shT p M))):=by
 have h:=shT_ok p M
 intro c hc
 rcases List.mem_append.mp hc with hc | hc
 ·exact h.canon.dig c hc
 ·by_cases m:46 ∈ bodyOf (shT p M)
  ·exact (h.beh m).1 c hc
  ·rw [((whl_bhd _).2 m).2] at hc; cases hc
theorem LOk.uniq {p:Nat} {t:List Nat} {M N:Int} (h:LOk p t M) (g:LOk p t N):M = N:=by
 have e:=h.ex.symm.trans g.ex
 have:=Nat.eq_of_mul_eq_mul_right (Nat.pow_pos (by decide)) e
 have h1:=h.sg
 have g1:=g.sg
 cases en:negOf t with
 | true=>have:=h1.1 en; have:=g1.1 en; omega
 | false=>have:=h1.2 en; have:=g1.2 en; omega
theorem count_of_shT (p:Nat) (M:Int):(digitsVal (whl (bodyOf (shT p M)) ++ bhd (bodyOf (shT p M))) * 2 ^ p) / 10 ^ (bhd (bodyOf (shT p M))).length = M.natAbs:=by
 rw [(shT_ok p M).ex]
 exact Nat.mul_div_cancel _ (Nat.pow_pos (by decide))
theorem dgs_len:∀ (n k:Nat),k < 10 ^ (n + 1)→(dgs k).length≤n + 1:=by
 intro n
 induction n with
 | zero=>intro k h; rw [dgs_small (by simpa using h)]; exact Nat.le_refl _
 | succ n ih =>
  intro k h
  by_cases c:k < 10
  ·rw [dgs_small c]; simp
  ·rw [dgs_step (by omega),List.length_append]
   have:=ih (k / 10) (by rw [Nat.pow_succ] at h; omega)
   simp
   omega
theorem shT_len {p:Nat} {M:Int} (hp:p≤31) (hM:M.natAbs≤2 ^ 32):(shT p M).length≤43:=by
 obtain ⟨f1,f2,f3,f4,f5⟩:=fg_ok (FOk.start (Nat.mod_lt M.natAbs (Nat.two_pow_pos p)))
 have l1:(dgs (M.natAbs / 2 ^ p)).length≤10:=dgs_len 9 _ (Nat.lt_of_le_of_lt (Nat.div_le_self _ _) (Nat.lt_of_le_of_lt hM (by decide)))
 unfold shT tx
 rw [List.length_append,List.length_append]
 have a:(if decide (M < 0) = true then [45] else ([]:List Nat)).length≤1:=by split <;> simp
 have b:(if fg p p (M.natAbs % 2 ^ p) = [] then [] else 46 :: fg p p (M.natAbs % 2 ^ p)).length≤p + 1:=by
  split
  ·simp
  ·rw [List.length_cons]; omega
 omega
theorem imp_between:∀ vs H Q E,spBetween vs H Q E→spBtwG vs H Q E:=fun _ H Q _ ⟨i,lo,hi,hv,h1,h2,q⟩=>⟨.int i,lo,hi,hv,.int i,by show Q (.bl (decide (lo≤i) && decide (i≤hi))) H; rw [decide_eq_true h1,decide_eq_true h2]; exact q⟩
theorem join0s:∀ ys:List Str,(Str.join ⟨#[]⟩ ys).cps.toList = (ys.map (·.cps.toList)).flatten
 | []=>rfl
 | [y]=>by show y.cps.toList = _; simp
 | y :: z :: r=>by
  rw [List.map_cons,List.flatten_cons,← join0s (z :: r)]
  show ((y.cps ++ #[]) ++ (Str.join ⟨#[]⟩ (z :: r)).cps).toList = _
  simp
theorem join0 (ys:List Str):(Txt.join ⟨#[]⟩ ys).cps.toList = (ys.map (·.cps.toList)).flatten:=by
 rw [← join0s]
 show (Builtin.Str.glued ⟨#[]⟩ ys).cps.toList = _
 rw [PySem.StrLaws.glued_eq_join]
def rng (kd:Nat) (w M:Int):Prop:=lo kd w≤M∧M≤hi kd w
theorem shT_inj {p:Nat} {M N:Int} (h:shT p M = shT p N):M = N:=(shT_ok p M).uniq (h ▸ shT_ok p N)
open Classical in
noncomputable def tvS (kd:Nat) (w:Int) (p:Nat) (z:Str):Option Int:=if h:∃ M:Int,rng kd w M∧z.cps.toList = shT p M then some (Classical.choose h % (1 * 2 ^ w.toNat)) else none
noncomputable def tv (kd:Nat) (w:Int) (p:Nat):V→Option Int
 | .str z=>tvS kd w p z
 | _=>none
theorem tv_some {kd:Nat} {w:Int} {p:Nat} {z:Str} {M:Int} (r:rng kd w M) (e:z.cps.toList = shT p M):tv kd w p (.str z) = some (M % (1 * 2 ^ w.toNat)):=by
 show tvS kd w p z = _
 unfold tvS
 have h:∃ M:Int,rng kd w M∧z.cps.toList = shT p M:=⟨M,r,e⟩
 rw [dif_pos h,shT_inj ((Classical.choose_spec h).2.symm.trans e)]
theorem tv_none {kd:Nat} {w:Int} {p:Nat} {z:Str} (h:∀ M,rng kd w M→z.cps.toList ≠ shT p M):tv kd w p (.str z) = none:=by
 show tvS kd w p z = _
 unfold tvS
 rw [dif_neg (fun ⟨M,r,e⟩=>h M r e)]
theorem tv_cases (kd:Nat) (w:Int) (p:Nat) (z:Str):(∃ M,rng kd w M∧z.cps.toList = shT p M∧tv kd w p (.str z) = some (M % (1 * 2 ^ w.toNat)))∨((∀ M,rng kd w M→z.cps.toList ≠ shT p M)∧tv kd w p (.str z) = none):=by
 by_cases h:∃ M:Int,rng kd w M∧z.cps.toList = shT p M
 ·obtain ⟨M,r,e⟩:=h
  exact .inl ⟨M,r,e,tv_some r e⟩
 ·have h':∀ M,rng kd w M→z.cps.toList ≠ shT p M:=fun M r e=>h ⟨M,r,e⟩
  exact .inr ⟨h',tv_none h'⟩
theorem rng_abs {kd:Nat} {w M:Int} (w0:4≤w) (w1:w≤32) (h:rng kd w M):M.natAbs≤2 ^ 32:=by
 have P:=pw_bounds w0 w1
 have hf:=pw_half w0
 unfold rng lo hi at h
 have e:(2:Nat) ^ 32 = 4294967296:=by decide
 rw [e]
 by_cases k:kd = 0
 ·rw [if_pos k,if_pos k] at h
  omega
 ·rw [if_neg k,if_neg k] at h
  omega
def oV:Option Int→V
 | some v=>.int v
 | none=>.non
theorem str_len (z:Str):z.cps.toList.length = z.length:=Array.length_toList
theorem app_list (a b:Str):(a ++ b:Str).cps.toList = a.cps.toList ++ b.cps.toList:=by show (a.cps ++ b.cps).toList = _; rw [Array.toList_append]
theorem str_dig {d:Nat} (h:d < 10):Str.ofString (toString ((d:Nat):Int)) = ⟨#[48 + d]⟩:=by
 have a:∀ d ∈ List.range 10,Str.ofString (toString ((d:Nat):Int)) = ⟨#[48 + d]⟩:=by decide +kernel
 exact a d (List.mem_range.mpr h)
theorem str_nat (k:Nat):(Str.ofString (toString ((k:Nat):Int))).cps.toList = dgs k:=by
 rw [PySem.Str.ofString_eq_toList]
 show ((toString k).toList.map Char.toNat) = dgs k
 unfold dgs
 rw [show (toString k) = String.ofList (Nat.toDigits 10 k) from rfl,String.toList_ofList]
def oneS (ns:List Nat):List Str:=ns.map fun n=>⟨#[n]⟩
theorem join_one (ns:List Nat):(Txt.join ⟨#[]⟩ (oneS ns)).cps.toList = ns:=by
 rw [join0,oneS,List.map_map]
 induction ns with
 | nil=>rfl
 | cons n r ih=>rw [List.map_cons,List.flatten_cons,ih]; rfl
theorem one_len (ns:List Nat):((oneS ns).map (·.length)).sum = ns.length:=by
 rw [oneS,List.map_map]
 induction ns with
 | nil=>rfl
 | cons n r ih=>rw [List.map_cons,List.sum_cons,ih,List.length_cons]; show 1 + r.length = _; omega
theorem take_snoc {α:Type} {l:List α} {j:Nat} {x:α} (h:l[j]? = some x):l.take (j + 1) = l.take j ++ [x]:=by rw [List.take_add_one,h]; rfl
theorem find_dig (ch:Nat):Txt.find (Str.ofString "0123456789") ⟨#[ch]⟩ = if 48≤ch∧ch≤57 then ((ch - 48:Nat):Int) else -1:=by
 by_cases c:48≤ch∧ch≤57
 ·rw [if_pos c]
  have a:∀ d ∈ List.range 58,48≤d→Txt.find (Str.ofString "0123456789") ⟨#[d]⟩ = ((d - 48:Nat):Int):=by decide +kernel
  exact a ch (List.mem_range.mpr (by omega)) c.1
 ·rw [if_neg c]
  have f:=PySem.StrLaws.found_one (Str.ofString "0123456789") ch
  rw [decide_eq_false (fun m=>c ?_)] at f
  ·unfold Txt.find
   cases e:Builtin.Str.occurrences (Str.ofString "0123456789") ⟨#[ch]⟩ 0 (Str.ofString "0123456789").length 1 with
   | nil=>rfl
   | cons a r=>rw [e] at f; cases f
  ·have a:∀ d ∈ (Str.ofString "0123456789").cps.toList,48≤d∧d≤57:=by decide +kernel
   exact a ch m
theorem Same.updL {H H':Hp} {l:Addr} {o:HO} (s:Same H H') (hl:H l = none):Same H (upd H' l o):=fun b u e=>by rw [upd_ne (ne_of_none e hl)]; exact s b u e
theorem Same.none {H H':Hp} (s:Same H H') {l:Addr} (h:H' l = none):H l = none:=by
 cases e:H l with
 | none=>rfl
 | some o=>rw [s _ _ e] at h; cases h
theorem newO {H:Hp} {p:Addr} (h:H p = none) (o:HO):∃ G,upd H p o = G∧Same H G∧G p = some o:=⟨_,rfl,same_new h _,upd_same⟩
theorem addL (a b:Str):(a ++ b:Str).length = a.length + b.length:=PySem.Str.length_append a b
def spFigB:Sp:=fun vs H Q _=>∃ (r p:Nat),vs = [.int (r:Int),.int (p:Int)]∧r < 2 ^ p∧p≤31∧∀ (z:Str) H',z.cps.toList = fg p p r→Same H H'→Q (.str z) H'
def spShow (c:Ad):Sp:=fun vs H Q _=>∃ (kd:Nat) (x:Addr) (w b:Int) (p:Nat),vs = [.ref x,.int b]∧kd < 3∧KO c H x kd w (p:Int)∧4≤w∧w≤32∧p≤31∧0≤b∧b < 2 ^ w.toNat∧∀ (z:Str) H',z.cps.toList = shT p (cnt kd w b)→Same H H'→Q (.str z) H'
def spNumI:Sp:=fun vs H Q _=>∃ z:Str,vs = [.str z]∧z.length≤43∧∀ o:Option Int,(PySem.NumText.AllDigits z.cps.toList→o = some ((digitsVal z.cps.toList:Nat):Int))→(∀ n,o = some n→0≤n∧n < 10 ^ 43)→Q (oV o) H
def shortT:V→Prop
 | .str z=>z.length≤100000
 | _=>True
def spCntI:Sp:=fun vs H Q _=>∃ (x:V) (p:Nat),vs = [x,.int (p:Int)]∧Th H x∧shortT x∧p≤31∧∀ (o:Option Int) H',(∀ z M,x = .str z→z.length≤43→z.cps.toList = shT p M→o = some M)→(∀ M,o = some M→∃ z,x = .str z)→Same H H'→Q (oV o) H'
def spRead (c:Ad):Sp:=fun vs H Q E=>∃ (kd:Nat) (x:Addr) (w:Int) (p:Nat) (t:V),vs = [.ref x,t]∧kd < 3∧KO c H x kd w (p:Int)∧4≤w∧w≤32∧p≤31∧Th H t∧shortT t∧(∀ v H',tv kd w p t = some v→Same H H'→Q (.int v) H')∧(tv kd w p t = none→∀ d H',H' d = some (.xd [("found",t)])→Same H H'→E (.ref c.NoText) (some d) H')
section
variable {P:Program} {w:World} {K:PySem.W.Frag} {mg:Str→Option Value} {base:Heap} {c:Ad}
theorem ok_NoText___init__ {f:Addr} {fd:FuncData} (F:Fun K "__init__" "NoText.__init__" s_NoText___init__ f fd) (T:Txt K mg c)  (xc:XCls K c.NoText f "found"):FnOk P w K mg base CX0 1 f fd ["self", "found"] (spXI "found" c.NoText):=by
 refine F.ok sc_NoText___init__ (fun vs H Q E h=>?_) (fun cdv A outer s H vs Q E hr h=>?_)
 ·obtain ⟨e,t,v,rfl,_⟩:=h
  rfl
 obtain ⟨e,t,v,rfl,he,q⟩:=h
 refine ⟨_,(pss_one (ps_xset (pv 0) (pv 1) rfl)),?_⟩
 exact ⟨_,rfl,_,rfl,e,c.NoText,t,_,rfl,he,xc,fun d hd hne=>q d hd hne⟩
theorem ok_is_whole {f:Addr} {fd:FuncData} (F:Fun K "is_whole" "is_whole" s_is_whole f fd) (T:Txt K mg c) :FnOk P w K mg base CX0 1 f fd ["thing"] spWholeG:=by
 refine F.ok sc_is_whole (fun vs H Q E h=>?_) (fun cdv A outer s H vs Q E hr h=>?_)
 ·obtain ⟨x,rfl,_⟩:=h
  rfl
 obtain ⟨x,rfl,th,q⟩:=h
 refine ⟨_,(pss_one (ps_ret (pe_and (pe_callB call_isinst rfl T.n_isinstance boot_isinstance (pa_cons (pv 0) (pa_cons (pe_ty rfl T.n_int boot_int) pa_nil))) (pe_one (pe_not (pe_callB call_isinst rfl T.n_isinstance boot_isinstance (pa_cons (pv 0) (pa_cons (pe_ty rfl T.n_bool boot_bool) pa_nil)))))))),?_⟩
 cases th with
 | int i =>
  refine ⟨_,rfl,_,_,_,_,_,rfl,rfl,TyOf.int _,kit_int_int _,_,rfl,iteT ?_⟩
  exact ⟨_,rfl,_,_,_,_,_,rfl,rfl,TyOf.int _,kit_int_bool _,_,rfl,q⟩
 | bl b =>
  refine ⟨_,rfl,_,_,_,_,_,rfl,rfl,TyOf.bl _,kit_bl_int _,_,rfl,iteT ?_⟩
  exact ⟨_,rfl,_,_,_,_,_,rfl,rfl,TyOf.bl _,kit_bl_bl _,_,rfl,q⟩
 | str x=>exact ⟨_,rfl,_,_,_,_,_,rfl,rfl,TyOf.str _,kit_str_int _,_,rfl,iteF q⟩
 | non=>exact ⟨_,rfl,_,_,_,_,_,rfl,rfl,TyOf.non,kit_non_int _,_,rfl,iteF q⟩
 | lst h=>exact ⟨_,rfl,_,_,_,_,_,rfl,rfl,TyOf.lst h,kit_lst_int _,_,rfl,iteF q⟩
 | tup h=>exact ⟨_,rfl,_,_,_,_,_,rfl,rfl,TyOf.tup h,kit_tup_int _,_,rfl,iteF q⟩
 | dct h=>exact ⟨_,rfl,_,_,_,_,_,rfl,rfl,TyOf.dK h,kit_dct_int _,_,rfl,iteF q⟩
theorem ok_is_between {f:Addr} {fd:FuncData} (F:Fun K "is_between" "is_between" s_is_between f fd) (T:Txt K mg c) (H_is_whole:Has P w K mg base 1 "is_whole" ["thing"] spWholeG):FnOk P w K mg base CX0 2 f fd ["thing", "low", "high"] spBtwG:=by
 refine F.ok sc_is_between (fun vs H Q E h=>?_) (fun cdv A outer s H vs Q E hr h=>?_)
 ·obtain ⟨x,lo,hi,rfl,_⟩:=h
  rfl
 obtain ⟨x,lo,hi,rfl,th,q⟩:=h
 refine ⟨_,(pss_one (ps_ret (pe_and (pe_fn H_is_whole (hr.mono (by omega)) rfl (pa_cons (pv 0) pa_nil)) (pe_one (pe_chain op_le op_le (pv 1) (pv 0) (pv 2)))))),?_⟩
 refine ⟨_,rfl,x,rfl,th,_,rfl,?_⟩
 cases hi':isI x with
 | false =>
  refine iteF ?_
  rw [btw_not hi'] at q
  exact q
 | true =>
  refine iteT ?_
  cases x with
  | int i =>
   refine ⟨_,rfl,_,rfl,_,_,rfl,rfl,_,rfl,?_⟩
   by_cases c1:lo≤i
   ·refine iteD c1 ⟨_,rfl,_,_,rfl,rfl,?_⟩
    have e:btw (.int i) lo hi = decide (i≤hi):=by show (decide (lo≤i) && decide (i≤hi)) = _; rw [decide_eq_true c1,Bool.true_and]
    rw [e] at q
    exact q
   ·refine iteDN c1 ?_
    have e:btw (.int i) lo hi = false:=by show (decide (lo≤i) && decide (i≤hi)) = _; rw [decide_eq_false c1,Bool.false_and]
    rw [e] at q
    exact q
  | _=>cases hi'
theorem ok__law_cell {f:Addr} {fd:FuncData} (F:Fun K "_law_cell" "_law_cell" s__law_cell f fd) (T:Txt K mg c) :FnOk P w K mg base CX0 1 f fd ["_law_script", "_law_k"] (spCell K):=by
 refine F.ok sc__law_cell (fun vs H Q E h=>?_) (fun cdv A outer s H vs Q E hr h=>?_)
 ·obtain ⟨a,ns,k,rfl,_⟩:=h
  rfl
 obtain ⟨a,ns,k,rfl,hS,h0,q⟩:=h
 refine ⟨_,(pss_cons (ps_if (pt_cmpR op_lt (pv 1) (pe_callB call_len_seq rfl T.n_len boot_len (pa_cons (pv 0) pa_nil)) (nomark _))
   (pss_one (ps_ret (pe_ix ix_list (pv 0) (pv 1) (fun _ _=>rfl))))
   pss_nil)
  (pss_one (ps_ret (pe_op op_add (pe_op op_mul pe_int (pv 1)) pe_int)))),?_⟩
 have hl:(ns.map V.int).length = ns.length:=List.length_map _
 refine ⟨_,rfl,_,rfl,a,_,rfl,.inl hS,_,_,rfl,rfl,_,rfl,?_⟩
 by_cases hc:k < (((ns.map V.int).length:Nat):Int)
 ·refine iteD hc ?_
  rw [hl] at hc
  have e:k = ((k.toNat:Nat):Int):=by omega
  have g:=getI ns k.toNat (by omega)
  rw [← e] at g
  exact ⟨_,rfl,_,rfl,a,_,_,_,rfl,rfl,hS,g,q _⟩
 ·refine iteDN hc ?_
  exact ⟨_,rfl,_,_,rfl,rfl,.inl ⟨by decide,by decide⟩,_,_,rfl,rfl,q _⟩
theorem ok__law_box {f:Addr} {fd:FuncData} (F:Fun K "_law_box" "_law_box" s__law_box f fd) (T:Txt K mg c) :FnOk P w K mg base CX0 1 f fd ["_law_cell_here"] spBox:=by
 refine F.ok sc__law_box (fun vs H Q E h=>?_) (fun cdv A outer s H vs Q E hr h=>?_)
 ·obtain ⟨c,rfl,_⟩:=h
  rfl
 obtain ⟨c,rfl,q⟩:=h
 refine ⟨_,(pss_one (ps_ret (pe_lst (pa_cons (pe_callB (call_max2 rfl) rfl T.n_max boot_max (pa_cons pe_int (pa_cons (pe_op op_sub (pv 0) (pe_op op_pow pe_int pe_int)) pa_nil))) (pa_cons (pe_op op_mod (pv 0) pe_int) (pa_cons pe_int pa_nil)))))),?_⟩
 refine ⟨_,rfl,_,_,rfl,rfl,⟨by decide,by decide,by decide⟩,_,_,rfl,rfl,_,_,rfl,?_⟩
 refine ⟨_,rfl,_,_,rfl,rfl,(by show (0:Int) < 2147483647; decide),(by show 3≤sizeLine; decide),fun p hp=>?_⟩
 exact q p _ hp ⟨_,_,_,upd_same⟩ (same_new hp _)
theorem ok__law_take {f:Addr} {fd:FuncData} (F:Fun K "_law_take" "_law_take" s__law_take f fd) (T:Txt K mg c) :FnOk P w K mg base CX0 1 f fd ["_law_box_here", "_law_many"] spTake:=by
 refine F.ok sc__law_take (fun vs H Q E h=>?_) (fun cdv A outer s H vs Q E hr h=>?_)
 ·obtain ⟨p,m,rfl,_⟩:=h
  rfl
 obtain ⟨p,m,rfl,⟨r,s1,c,hp⟩,h1,h2,q⟩:=h
 refine ⟨_,(pss_cons (ps_if (pt_cmpR op_gt (pe_ix ix_list (pv 0) pe_int (fun _ _=>rfl)) pe_int (nomark _))
   (pss_cons (ps_set (i:=2) sc__law_take.nd rfl (Or.inl rfl) (pe_op op_mod (pe_ix ix_list (pv 0) pe_int (fun _ _=>rfl)) (pv 1)))
   (pss_cons (ps_asg (pe_op op_fdivB (pe_ix ix_list (pv 0) pe_int (fun _ _=>rfl)) (pv 1)) (pg_sub (pv 0) pe_int set_list))
   (pss_one (ps_ret (pv 2)))))
   pss_nil)
  (pss_cons (ps_asg (pe_op op_add (pe_ix ix_list (pv 0) pe_int (fun _ _=>rfl)) pe_int) (pg_sub (pv 0) pe_int set_list))
  (pss_cons (ps_set (i:=3) sc__law_take.nd rfl (Or.inl rfl) (pe_op op_mod (pe_op op_mul (pe_op op_add (pe_op op_add (pe_ix ix_list (pv 0) pe_int (fun _ _=>rfl)) (pe_op op_mul pe_int (pe_ix ix_list (pv 0) pe_int (fun _ _=>rfl)))) pe_int) pe_int) pe_int))
  (pss_cons (ps_set (i:=3) sc__law_take.nd rfl (Or.inl rfl) (pe_op op_mod (pe_op op_add (pe_op op_add (pe_op op_mul (pv 3) (pv 3)) (pe_op op_mul pe_int (pe_ix ix_list (pv 0) pe_int (fun _ _=>rfl)))) pe_int) pe_int))
  (pss_one (ps_ret (pe_op op_mod (pe_op op_fdivB (pe_op op_mod (pe_op op_mul (pv 3) (pe_op op_add (pv 3) pe_int)) pe_int) pe_int) (pv 1)))))))),?_⟩
 refine ⟨_,rfl,p,_,_,_,rfl,rfl,SqL.of hp,rfl,_,_,rfl,rfl,_,rfl,?_⟩
 by_cases hc:0 < r
 ·refine iteD hc ?_
  refine ⟨_,rfl,p,_,_,_,rfl,rfl,SqL.of hp,rfl,_,rfl,_,_,rfl,rfl,h1,?_⟩
  refine ⟨_,rfl,p,_,_,_,rfl,rfl,SqL.of hp,rfl,_,rfl,_,_,rfl,rfl,⟨h1,log_small h1 h2⟩,?_⟩
  refine ⟨_,rfl,p,_,_,_,rfl,rfl,hp,rfl,?_⟩
  refine ⟨_,rfl,?_⟩
  exact q _ _ (Int.emod_nonneg _ (by omega)) (Int.emod_lt_of_pos _ h1) ⟨_,_,_,upd_same⟩ SameX.upd
 ·refine iteDN hc ?_
  refine ⟨_,rfl,p,_,_,_,rfl,rfl,SqL.of hp,rfl,_,_,rfl,rfl,?_⟩
  refine ⟨_,rfl,p,_,_,_,rfl,rfl,hp,rfl,?_⟩
  refine ⟨_,rfl,p,_,_,_,rfl,rfl,SqL.of upd_same,rfl,_,rfl,p,_,_,_,rfl,rfl,SqL.of upd_same,rfl,_,_,rfl,rfl,.inl ⟨by decide,by decide⟩,_,_,rfl,rfl,_,_,rfl,rfl,_,_,rfl,rfl,.inr ⟨by decide,by decide⟩,_,_,rfl,rfl,(by show (0:Int) < 2147483629; decide),?_⟩
  refine ⟨_,rfl,_,rfl,_,_,rfl,rfl,cmul_mod (by decide) (by decide),_,rfl,p,_,_,_,rfl,rfl,SqL.of upd_same,rfl,_,_,rfl,rfl,.inl ⟨by decide,by decide⟩,_,_,rfl,rfl,_,_,rfl,rfl,_,_,rfl,rfl,(by show (0:Int) < 2147483587; decide),?_⟩
  refine ⟨_,rfl,_,rfl,_,_,rfl,rfl,_,_,rfl,rfl,cmul_mod (by decide) (by decide),_,_,rfl,rfl,(by show (0:Int) < 2147483647; decide),_,_,rfl,rfl,⟨by decide,by decide⟩,_,rfl,_,_,rfl,rfl,h1,?_⟩
  exact q _ _ (Int.emod_nonneg _ (by omega)) (Int.emod_lt_of_pos _ h1) ⟨_,_,_,upd_same⟩ SameX.upd
theorem ok_half {f:Addr} {fd:FuncData} (F:Fun K "half" "half" s_half f fd) (T:Txt K mg c) :FnOk P w K mg base CX0 1 f fd ["width"] spHalf:=by
 refine F.ok sc_half (fun vs H Q E h=>?_) (fun cdv A outer s H vs Q E hr h=>?_)
 ·obtain ⟨w0,rfl,_⟩:=h
  rfl
 obtain ⟨w0,rfl,h1,h2,q⟩:=h
 refine ⟨_,(pss_one (ps_ret (pe_op op_shl pe_int (pe_op op_sub (pv 0) pe_int)))),?_⟩
 exact ⟨_,rfl,_,_,rfl,rfl,_,_,rfl,rfl,cpow1 (by omega) (by omega),q⟩
theorem ok_Kind___init__ {f:Addr} {fd:FuncData} (F:Fun K "__init__" "Kind.__init__" s_Kind___init__ f fd) (T:Txt K mg c) :FnOk P w K mg base CX0 1 f fd ["self", "width", "point"] (spKinit K):=by
 refine F.ok sc_Kind___init__ (fun vs H Q E h=>?_) (fun cdv A outer s H vs Q E hr h=>?_)
 ·obtain ⟨x,C,dx,w0,p,rfl,_⟩:=h
  rfl
 obtain ⟨x,C,dx,w0,p,rfl,hx,cl,n1,n2,q⟩:=h
 refine ⟨_,(pss_cons (ps_fld (pv 0) (pv 1) rfl)
  (pss_one (ps_fld (pv 0) (pv 2) rfl))),?_⟩
 refine ⟨_,rfl,_,rfl,x,C,dx,_,rfl,hx,cl,n1,by decide,?_⟩
 refine ⟨_,rfl,_,rfl,x,C,dx,_,rfl,upd_same,cl,n2,(by show 1 < 1000; decide),?_⟩
 exact q _ (SameX.upd.trans SameX.upd) upd_same
theorem ok_Plain___init__ {f:Addr} {fd:FuncData} (F:Fun K "__init__" "Plain.__init__" s_Plain___init__ f fd) (T:Txt K mg c) (H_need_width:Has P w K mg base 3 "need_width" ["width"] spNeedW) (B_Kind___init__:BHas P w K mg base 1 "Kind" "__init__" ["self", "width", "point"] (spKinit K)):FnOk P w K mg base CX0 4 f fd ["self", "width"] (spInit c 0):=by
 refine F.ok sc_Plain___init__ (fun vs H Q E h=>?_) (fun cdv A outer s H vs Q E hr h=>?_)
 ·obtain ⟨x,dx,w0,rfl,_⟩:=h
  rfl
 obtain ⟨x,dx,w0,rfl,hx,h1,h2,q⟩:=h
 refine ⟨_,(pss_cons (ps_expr (pe_fn H_need_width (hr.mono (by omega)) rfl (pa_cons (pv 1) pa_nil)))
  (pss_one (ps_expr (pe_clsP B_Kind___init__ (hr.mono (by omega)) rfl (pa_cons (pv 0) (pa_cons (pv 1) (pa_cons pe_int pa_nil))))))),?_⟩
 refine ⟨_,rfl,_,rfl,h1,h2,?_⟩
 refine ⟨_,rfl,_,rfl,x,_,dx,_,_,rfl,hx,T.cls 0,T.naw 0,T.nap 0,fun H' s' h'=>?_⟩
 exact q H' s' ⟨dx,h'⟩
theorem ok_Signed___init__ {f:Addr} {fd:FuncData} (F:Fun K "__init__" "Signed.__init__" s_Signed___init__ f fd) (T:Txt K mg c) (H_need_width:Has P w K mg base 3 "need_width" ["width"] spNeedW) (B_Kind___init__:BHas P w K mg base 1 "Kind" "__init__" ["self", "width", "point"] (spKinit K)):FnOk P w K mg base CX0 4 f fd ["self", "width"] (spInit c 1):=by
 refine F.ok sc_Signed___init__ (fun vs H Q E h=>?_) (fun cdv A outer s H vs Q E hr h=>?_)
 ·obtain ⟨x,dx,w0,rfl,_⟩:=h
  rfl
 obtain ⟨x,dx,w0,rfl,hx,h1,h2,q⟩:=h
 refine ⟨_,(pss_cons (ps_expr (pe_fn H_need_width (hr.mono (by omega)) rfl (pa_cons (pv 1) pa_nil)))
  (pss_one (ps_expr (pe_clsP B_Kind___init__ (hr.mono (by omega)) rfl (pa_cons (pv 0) (pa_cons (pv 1) (pa_cons pe_int pa_nil))))))),?_⟩
 refine ⟨_,rfl,_,rfl,h1,h2,?_⟩
 refine ⟨_,rfl,_,rfl,x,_,dx,_,_,rfl,hx,T.cls 1,T.naw 1,T.nap 1,fun H' s' h'=>?_⟩
 exact q H' s' ⟨dx,h'⟩
theorem ok_Pointed___init__ {f:Addr} {fd:FuncData} (F:Fun K "__init__" "Pointed.__init__" s_Pointed___init__ f fd) (T:Txt K mg c) (H_need_width:Has P w K mg base 3 "need_width" ["width"] spNeedW) (H_is_between:Has P w K mg base 2 "is_between" ["thing", "low", "high"] spBetween) (B_Kind___init__:BHas P w K mg base 1 "Kind" "__init__" ["self", "width", "point"] (spKinit K)):FnOk P w K mg base CX0 4 f fd ["self", "width", "point"] (spInit2 c):=by
 refine F.ok sc_Pointed___init__ (fun vs H Q E h=>?_) (fun cdv A outer s H vs Q E hr h=>?_)
 ·obtain ⟨x,dx,w0,p,rfl,_⟩:=h
  rfl
 obtain ⟨x,dx,w0,p,rfl,hx,h1,h2,p1,p2,q⟩:=h
 refine ⟨_,(pss_cons (ps_expr (pe_fn H_need_width (hr.mono (by omega)) rfl (pa_cons (pv 1) pa_nil)))
  (pss_cons (ps_if (pt_not (pt_val (pe_fn H_is_between (hr.mono (by omega)) rfl (pa_cons (pv 2) (pa_cons pe_int (pa_cons (pe_op op_sub (pv 1) pe_int) pa_nil))))))
   (pss_one ps_never)
   pss_nil)
  (pss_one (ps_expr (pe_clsP B_Kind___init__ (hr.mono (by omega)) rfl (pa_cons (pv 0) (pa_cons (pv 1) (pa_cons (pv 2) pa_nil)))))))),?_⟩
 refine ⟨_,rfl,_,rfl,h1,h2,?_⟩
 refine ⟨_,rfl,_,rfl,_,_,rfl,rfl,_,_,_,rfl,p1,p2,_,rfl,iteF ?_⟩
 refine ⟨_,rfl,_,rfl,_,rfl,x,_,dx,_,_,rfl,hx,T.cls 2,T.naw 2,T.nap 2,fun H' s' h'=>?_⟩
 exact q H' s' ⟨dx,h'⟩
theorem ok_Plain_least {f:Addr} {fd:FuncData} (F:Fun K "least" "Plain.least" s_Plain_least f fd) (T:Txt K mg c) :FnOk P w K mg base CX0 2 f fd ["self"] (spLeast c 0):=by
 refine F.ok sc_Plain_least (fun vs H Q E h=>?_) (fun cdv A outer s H vs Q E hr h=>?_)
 ·obtain ⟨x,w0,p,rfl,_⟩:=h
  rfl
 obtain ⟨x,w0,p,rfl,ko,h1,h2,q⟩:=h
 refine ⟨_,(pss_one (ps_ret pe_int)),?_⟩
 exact q
theorem ok_Plain_greatest {f:Addr} {fd:FuncData} (F:Fun K "greatest" "Plain.greatest" s_Plain_greatest f fd) (T:Txt K mg c) :FnOk P w K mg base CX0 2 f fd ["self"] (spGreat c 0):=by
 refine F.ok sc_Plain_greatest (fun vs H Q E h=>?_) (fun cdv A outer s H vs Q E hr h=>?_)
 ·obtain ⟨x,w0,p,rfl,_⟩:=h
  rfl
 obtain ⟨x,w0,p,rfl,ko,h1,h2,q⟩:=h
 refine ⟨_,(pss_one (ps_ret (pe_op op_sub (pe_op op_shl pe_int (pe_fld (pv 0) rfl)) pe_int))),?_⟩
 obtain ⟨dx,hx⟩:=ko
 exact ⟨_,rfl,x,_,dx,_,_,rfl,hx,T.cls 0,T.naw 0,rfl,_,_,rfl,rfl,cpow1 (by omega) (by omega),_,_,rfl,rfl,q⟩
theorem ok_Signed_least {f:Addr} {fd:FuncData} (F:Fun K "least" "Signed.least" s_Signed_least f fd) (T:Txt K mg c) (H_half:Has P w K mg base 1 "half" ["width"] spHalf):FnOk P w K mg base CX0 2 f fd ["self"] (spLeast c 1):=by
 refine F.ok sc_Signed_least (fun vs H Q E h=>?_) (fun cdv A outer s H vs Q E hr h=>?_)
 ·obtain ⟨x,w0,p,rfl,_⟩:=h
  rfl
 obtain ⟨x,w0,p,rfl,ko,h1,h2,q⟩:=h
 refine ⟨_,(pss_one (ps_ret (pe_un un_neg (pe_fn H_half (hr.mono (by omega)) rfl (pa_cons (pe_fld (pv 0) rfl) pa_nil))))),?_⟩
 obtain ⟨dx,hx⟩:=ko
 exact ⟨_,rfl,x,_,dx,_,_,rfl,hx,T.cls 1,T.naw 1,rfl,_,rfl,h1,h2,_,rfl,q⟩
theorem ok_Signed_greatest {f:Addr} {fd:FuncData} (F:Fun K "greatest" "Signed.greatest" s_Signed_greatest f fd) (T:Txt K mg c) (H_half:Has P w K mg base 1 "half" ["width"] spHalf):FnOk P w K mg base CX0 2 f fd ["self"] (spGreat c 1):=by
 refine F.ok sc_Signed_greatest (fun vs H Q E h=>?_) (fun cdv A outer s H vs Q E hr h=>?_)
 ·obtain ⟨x,w0,p,rfl,_⟩:=h
  rfl
 obtain ⟨x,w0,p,rfl,ko,h1,h2,q⟩:=h
 refine ⟨_,(pss_one (ps_ret (pe_op op_sub (pe_fn H_half (hr.mono (by omega)) rfl (pa_cons (pe_fld (pv 0) rfl) pa_nil)) pe_int))),?_⟩
 obtain ⟨dx,hx⟩:=ko
 exact ⟨_,rfl,x,_,dx,_,_,rfl,hx,T.cls 1,T.naw 1,rfl,_,rfl,h1,h2,_,_,rfl,rfl,q⟩
theorem ok_Pointed_least {f:Addr} {fd:FuncData} (F:Fun K "least" "Pointed.least" s_Pointed_least f fd) (T:Txt K mg c) (H_half:Has P w K mg base 1 "half" ["width"] spHalf):FnOk P w K mg base CX0 2 f fd ["self"] (spLeast c 2):=by
 refine F.ok sc_Pointed_least (fun vs H Q E h=>?_) (fun cdv A outer s H vs Q E hr h=>?_)
 ·obtain ⟨x,w0,p,rfl,_⟩:=h
  rfl
 obtain ⟨x,w0,p,rfl,ko,h1,h2,q⟩:=h
 refine ⟨_,(pss_one (ps_ret (pe_un un_neg (pe_fn H_half (hr.mono (by omega)) rfl (pa_cons (pe_fld (pv 0) rfl) pa_nil))))),?_⟩
 obtain ⟨dx,hx⟩:=ko
 exact ⟨_,rfl,x,_,dx,_,_,rfl,hx,T.cls 2,T.naw 2,rfl,_,rfl,h1,h2,_,rfl,q⟩
theorem ok_Pointed_greatest {f:Addr} {fd:FuncData} (F:Fun K "greatest" "Pointed.greatest" s_Pointed_greatest f fd) (T:Txt K mg c) (H_half:Has P w K mg base 1 "half" ["width"] spHalf):FnOk P w K mg base CX0 2 f fd ["self"] (spGreat c 2):=by
 refine F.ok sc_Pointed_greatest (fun vs H Q E h=>?_) (fun cdv A outer s H vs Q E hr h=>?_)
 ·obtain ⟨x,w0,p,rfl,_⟩:=h
  rfl
 obtain ⟨x,w0,p,rfl,ko,h1,h2,q⟩:=h
 refine ⟨_,(pss_one (ps_ret (pe_op op_sub (pe_fn H_half (hr.mono (by omega)) rfl (pa_cons (pe_fld (pv 0) rfl) pa_nil)) pe_int))),?_⟩
 obtain ⟨dx,hx⟩:=ko
 exact ⟨_,rfl,x,_,dx,_,_,rfl,hx,T.cls 2,T.naw 2,rfl,_,rfl,h1,h2,_,_,rfl,rfl,q⟩
theorem ok_Kind_bits_of {f:Addr} {fd:FuncData} (F:Fun K "bits_of" "Kind.bits_of" s_Kind_bits_of f fd) (T:Txt K mg c) (H_is_between:Has P w K mg base 2 "is_between" ["thing", "low", "high"] spBetween) (ML:∀ i,i < 3→MHas P w K mg base 2 (cOf c i) "least" ["self"] (spLeast c i)) (MG:∀ i,i < 3→MHas P w K mg base 2 (cOf c i) "greatest" ["self"] (spGreat c i)):FnOk P w K mg base CX0 3 f fd ["self", "count"] (spBits c):=by
 refine F.ok sc_Kind_bits_of (fun vs H Q E h=>?_) (fun cdv A outer s H vs Q E hr h=>?_)
 ·obtain ⟨kd,x,w0,p,n,rfl,_⟩:=h
  rfl
 obtain ⟨kd,x,w0,p,n,rfl,hk,ko,h1,h2,n1,n2,q⟩:=h
 refine ⟨_,(pss_cons (ps_if (pt_not (pt_val (pe_fn H_is_between (hr.mono (by omega)) rfl (pa_cons (pv 1) (pa_cons (pe_methP0 (k:=2) (pv 0) (hr.mono (by omega))) (pa_cons (pe_methP0 (k:=2) (pv 0) (hr.mono (by omega))) pa_nil))))))
   (pss_one ps_never)
   pss_nil)
  (pss_one (ps_ret (pe_op op_mod (pv 1) (pe_op op_shl pe_int (pe_fld (pv 0) rfl)))))),?_⟩
 obtain ⟨dx,hx⟩:=id ko
 refine ⟨_,rfl,_,rfl,x,_,dx,_,_,_,rfl,hx,rfl,ML kd hk,x,w0,p,rfl,ko,h1,h2,_,rfl,x,_,dx,_,_,_,rfl,hx,rfl,MG kd hk,x,w0,p,rfl,ko,h1,h2,_,_,_,rfl,n1,n2,_,rfl,iteF ?_⟩
 exact ⟨_,rfl,_,rfl,x,_,dx,_,_,rfl,hx,T.cls kd,T.naw kd,rfl,_,_,rfl,rfl,cpow1 (by omega) (by omega),_,_,rfl,rfl,p1_pos _,q⟩
theorem ok__law_spec {f:Addr} {fd:FuncData} (F:Fun K "_law_spec" "_law_spec" s__law_spec f fd) (T:Txt K mg c) (H__law_take:Has P w K mg base 1 "_law_take" ["_law_box_here", "_law_many"] spTake):FnOk P w K mg base CX0 2 f fd ["_law_box_here"] spSpec:=by
 refine F.ok sc__law_spec (fun vs H Q E h=>?_) (fun cdv A outer s H vs Q E hr h=>?_)
 ·obtain ⟨p,rfl,_⟩:=h
  rfl
 obtain ⟨p,rfl,hb,q⟩:=h
 refine ⟨_,(pss_cons (ps_set (i:=1) sc__law_spec.nd rfl (Or.inl rfl) (pe_op op_add pe_int (pe_fn H__law_take (hr.mono (by omega)) rfl (pa_cons (pv 0) (pa_cons pe_int pa_nil)))))
  (pss_cons (ps_set (i:=2) sc__law_spec.nd rfl (Or.inl rfl) (pe_ix ix_list (pe_lst (pa_cons pe_str (pa_cons pe_str (pa_cons pe_str pa_nil)))) (pe_fn H__law_take (hr.mono (by omega)) rfl (pa_cons (pv 0) (pa_cons pe_int pa_nil))) (fun _ _=>rfl)))
  (pss_cons (ps_if (pt_cmpR op_eq (pv 2) pe_str (nomark _))
   (pss_one (ps_ret (pe_tup (pa_cons (pv 2) (pa_cons (pv 1) (pa_cons (pe_op op_add pe_int (pe_fn H__law_take (hr.mono (by omega)) rfl (pa_cons (pv 0) (pa_cons (pe_op op_sub (pv 1) pe_int) pa_nil)))) pa_nil))))))
   pss_nil)
  (pss_one (ps_ret (pe_tup (pa_cons (pv 2) (pa_cons (pv 1) (pa_cons pe_int pa_nil))))))))),?_⟩
 refine ⟨_,rfl,p,_,rfl,hb,by decide,by decide,fun e H1 e0 e1 b1 x1=>⟨_,_,rfl,rfl,?_⟩⟩
 obtain ⟨r1,r2,r3,hb1⟩:=id b1
 refine ⟨(by show 3≤sizeLine; decide),fun l hl=>?_⟩
 have nlp:l ≠ p:=(ne_of_none hb1 hl).symm
 refine ⟨_,rfl,p,_,rfl,b1.same (same_new hl _),by decide,by decide,fun d H2 d0 d1 b2 x2=>?_⟩
 have hat:atI [V.str "plain",V.str "signed",V.str "point"] d = some (.str (wd d.toNat)):=by
  rcases (by omega:d = 0∨d = 1∨d = 2) with rfl | rfl | rfl <;> rfl
 refine ⟨l,_,_,_,rfl,rfl,SqL.of (x2 l _ nlp upd_same),hat,?_⟩
 have xx:SameX p H H2:=x1.trans ((SameX.of (same_new hl _)).trans x2)
 refine ⟨_,rfl,rfl,_,rfl,?_⟩
 by_cases h2:d.toNat = 2
 ·refine iteD (by rw [h2]; rfl) ?_
  refine ⟨_,rfl,_,rfl,_,rfl,_,rfl,_,_,rfl,rfl,p,_,rfl,b2,by omega,by omega,fun f H3 f0 f1 b3 x3=>⟨_,_,rfl,rfl,(by show 3≤sizeLine; decide),fun t ht=>?_⟩⟩
  exact q t d.toNat _ _ _ (freshX b3 (xx.trans x3) ht) ⟨upd_same,by omega,by omega,by omega,fun _=>⟨by omega,by omega⟩,fun z=>absurd h2 z⟩ (b3.same (same_new ht _)) (xx.trans (x3.trans (SameX.of (same_new ht _))))
 ·refine iteDN (wd_ne (j:=2) (by omega) (by decide) h2) ?_
  refine ⟨_,rfl,_,rfl,(by show 3≤sizeLine; decide),fun t ht=>?_⟩
  exact q t d.toNat _ _ _ (freshX b2 xx ht) ⟨upd_same,by omega,by omega,by omega,fun z=>absurd z h2,fun _=>rfl⟩ (b2.same (same_new ht _)) (xx.trans (SameX.of (same_new ht _)))
theorem ok__law_kind {f:Addr} {fd:FuncData} (F:Fun K "_law_kind" "_law_kind" s__law_kind f fd) (T:Txt K mg c)  (C_Pointed:CHas P w K mg base 4 c.Pointed "Pointed" ["self", "width", "point"] (spInit2 c)) (C_Plain:CHas P w K mg base 4 c.Plain "Plain" ["self", "width"] (spInit c 0)) (C_Signed:CHas P w K mg base 4 c.Signed "Signed" ["self", "width"] (spInit c 1)):FnOk P w K mg base CX0 6 f fd ["_law_spec_here"] (spKind c):=by
 refine F.ok sc__law_kind (fun vs H Q E h=>?_) (fun cdv A outer s H vs Q E hr h=>?_)
 ·obtain ⟨t,kd,w0,pt,rfl,_⟩:=h
  rfl
 obtain ⟨t,kd,w0,pt,rfl,spc,q⟩:=h
 refine ⟨_,(pss_cons (ps_if (pt_cmpR op_eq (pe_ix ix_tup (pv 0) pe_int (fun _ _=>rfl)) pe_str (nomark _))
   (pss_one (ps_ret (pe_mkP C_Plain (hr.mono (by omega)) rfl (pa_cons (pe_ix ix_tup (pv 0) pe_int (fun _ _=>rfl)) pa_nil))))
   pss_nil)
  (pss_cons (ps_if (pt_cmpR op_eq (pe_ix ix_tup (pv 0) pe_int (fun _ _=>rfl)) pe_str (nomark _))
   (pss_one (ps_ret (pe_mkP C_Signed (hr.mono (by omega)) rfl (pa_cons (pe_ix ix_tup (pv 0) pe_int (fun _ _=>rfl)) pa_nil))))
   pss_nil)
  (pss_one (ps_ret (pe_mkP C_Pointed (hr.mono (by omega)) rfl (pa_cons (pe_ix ix_tup (pv 0) pe_int (fun _ _=>rfl)) (pa_cons (pe_ix ix_tup (pv 0) pe_int (fun _ _=>rfl)) pa_nil))))))),?_⟩
 obtain ⟨ht,hk,h1,h2,p1,p2⟩:=spc
 refine ⟨_,rfl,t,_,_,_,rfl,rfl,SqT.of ht,rfl,rfl,_,rfl,?_⟩
 by_cases k0:kd = 0
 ·subst k0
  refine iteD rfl ?_
  have e0:=p2 (by decide)
  subst e0
  exact ⟨_,rfl,t,_,_,_,rfl,rfl,SqT.of ht,rfl,fun x dx hx hdx hne=>⟨x,dx,w0,rfl,upd_same,h1,h2,fun H' s' ko=>⟨rfl,q x H' hx ko (made_same hx hdx s')⟩⟩⟩
 refine iteDN (wd_ne (j:=0) hk (by decide) k0) ?_
 refine ⟨_,rfl,t,_,_,_,rfl,rfl,SqT.of ht,rfl,rfl,_,rfl,?_⟩
 by_cases k1:kd = 1
 ·subst k1
  refine iteD rfl ?_
  have e0:=p2 (by decide)
  subst e0
  exact ⟨_,rfl,t,_,_,_,rfl,rfl,SqT.of ht,rfl,fun x dx hx hdx hne=>⟨x,dx,w0,rfl,upd_same,h1,h2,fun H' s' ko=>⟨rfl,q x H' hx ko (made_same hx hdx s')⟩⟩⟩
 refine iteDN (wd_ne (j:=1) hk (by decide) k1) ?_
 have k2:kd = 2:=by omega
 subst k2
 have pp:=p1 rfl
 exact ⟨_,rfl,t,_,_,_,rfl,rfl,SqT.of ht,rfl,_,rfl,t,_,_,_,rfl,rfl,SqT.of ht,rfl,fun x dx hx hdx hne=>⟨x,dx,w0,pt,rfl,upd_same,h1,h2,pp.1,pp.2,fun H' s' ko=>⟨rfl,q x H' hx ko (made_same hx hdx s')⟩⟩⟩
theorem ok__law_ends {f:Addr} {fd:FuncData} (F:Fun K "_law_ends" "_law_ends" s__law_ends f fd) (T:Txt K mg c) :FnOk P w K mg base CX0 1 f fd ["_law_spec_here"] spEnds:=by
 refine F.ok sc__law_ends (fun vs H Q E h=>?_) (fun cdv A outer s H vs Q E hr h=>?_)
 ·obtain ⟨t,kd,w0,pt,rfl,_⟩:=h
  rfl
 obtain ⟨t,kd,w0,pt,rfl,spc,q⟩:=h
 refine ⟨_,(pss_cons (ps_set (i:=1) sc__law_ends.nd rfl (Or.inl rfl) (pe_op op_shl pe_int (pe_op op_sub (pe_ix ix_tup (pv 0) pe_int (fun _ _=>rfl)) pe_int)))
  (pss_cons (ps_if (pt_cmpR op_eq (pe_ix ix_tup (pv 0) pe_int (fun _ _=>rfl)) pe_str (nomark _))
   (pss_one (ps_ret (pe_tup (pa_cons pe_int (pa_cons (pe_op op_sub (pe_op op_mul pe_int (pv 1)) pe_int) pa_nil)))))
   pss_nil)
  (pss_one (ps_ret (pe_tup (pa_cons (pe_op op_sub pe_int (pv 1)) (pa_cons (pe_op op_sub (pv 1) pe_int) pa_nil))))))),?_⟩
 obtain ⟨ht,hk,h1,h2,p1,p2⟩:=spc
 refine ⟨_,rfl,t,_,_,_,rfl,rfl,SqT.of ht,rfl,_,_,rfl,rfl,_,_,rfl,rfl,cpow1 (by omega) (by omega),?_⟩
 refine ⟨_,rfl,t,_,_,_,rfl,rfl,SqT.of ht,rfl,rfl,_,rfl,?_⟩
 by_cases k0:kd = 0
 ·subst k0
  refine iteD rfl ?_
  refine ⟨_,rfl,_,_,rfl,rfl,.inl ⟨by decide,by decide⟩,_,_,rfl,rfl,sz2,fun r hr'=>?_⟩
  exact q r _ hr' (by rw [upd_same,hi_plain h1]; rfl) (same_new hr' _)
 ·refine iteDN (wd_ne (j:=0) hk (by decide) k0) ?_
  refine ⟨_,rfl,_,_,rfl,rfl,_,rfl,_,_,rfl,rfl,sz2,fun r hr'=>?_⟩
  refine q r _ hr' ?_ (same_new hr' _)
  rw [upd_same]
  unfold lo hi
  rw [if_neg k0,if_neg k0]
  show some (HO.tup [V.int (0 - 1 * 2 ^ (w0 - 1).toNat),V.int (1 * 2 ^ (w0 - 1).toNat - 1)]) = _
  rw [Int.zero_sub]
theorem ok_need_width {f:Addr} {fd:FuncData} (F:Fun K "need_width" "need_width" s_need_width f fd) (T:Txt K mg c) (H_is_between:Has P w K mg base 2 "is_between" ["thing", "low", "high"] spBetween):FnOk P w K mg base CX0 3 f fd ["width"] spNeedW:=by
 refine F.ok sc_need_width (fun vs H Q E h=>?_) (fun cdv A outer s H vs Q E hr h=>?_)
 ·obtain ⟨i,rfl,_⟩:=h
  rfl
 obtain ⟨i,rfl,h1,h2,q⟩:=h
 refine ⟨_,(pss_one (ps_if (pt_not (pt_val (pe_fn H_is_between (hr.mono (by omega)) rfl (pa_cons (pv 0) (pa_cons pe_int (pa_cons pe_int pa_nil))))))
   (pss_one ps_never)
   pss_nil)),?_⟩
 refine ⟨_,rfl,_,_,_,rfl,h1,h2,_,rfl,iteF ?_⟩
 exact q
theorem ok_is_word {f:Addr} {fd:FuncData} (F:Fun K "is_word" "is_word" s_is_word f fd) (T:Txt K mg c) (H_is_between:Has P w K mg base 2 "is_between" ["thing", "low", "high"] spBetween):FnOk P w K mg base CX0 3 f fd ["width", "thing"] spIsW:=by
 refine F.ok sc_is_word (fun vs H Q E h=>?_) (fun cdv A outer s H vs Q E hr h=>?_)
 ·obtain ⟨i,b,rfl,_⟩:=h
  rfl
 obtain ⟨i,b,rfl,h1,h2,b0,b1,q⟩:=h
 refine ⟨_,(pss_one (ps_ret (pe_fn H_is_between (hr.mono (by omega)) rfl (pa_cons (pv 1) (pa_cons pe_int (pa_cons (pe_op op_sub (pe_op op_shl pe_int (pv 0)) pe_int) pa_nil)))))),?_⟩
 exact ⟨_,rfl,_,rfl,_,_,rfl,rfl,cpow1 (by omega) (by omega),_,_,rfl,rfl,b,_,_,rfl,b0,by omega,q⟩
theorem ok_Kind_count_of {f:Addr} {fd:FuncData} (F:Fun K "count_of" "Kind.count_of" s_Kind_count_of f fd) (T:Txt K mg c) (H_is_word:Has P w K mg base 3 "is_word" ["width", "thing"] spIsW) (MG:∀ i,i < 3→MHas P w K mg base 2 (cOf c i) "greatest" ["self"] (spGreat c i)):FnOk P w K mg base CX0 4 f fd ["self", "bits"] (spCnt c):=by
 refine F.ok sc_Kind_count_of (fun vs H Q E h=>?_) (fun cdv A outer s H vs Q E hr h=>?_)
 ·obtain ⟨kd,x,w0,p,b,rfl,_⟩:=h
  rfl
 obtain ⟨kd,x,w0,p,b,rfl,hk,ko,h1,h2,b0,b1,q⟩:=h
 refine ⟨_,(pss_cons (ps_if (pt_not (pt_val (pe_fn H_is_word (hr.mono (by omega)) rfl (pa_cons (pe_fld (pv 0) rfl) (pa_cons (pv 1) pa_nil)))))
   (pss_one ps_never)
   pss_nil)
  (pss_one (ps_ret (pe_ifExp (pt_cmpR op_le (pv 1) (pe_methP0 (k:=2) (pv 0) (hr.mono (by omega))) (nomark _)) (pv 1) (pe_op op_sub (pv 1) (pe_op op_shl pe_int (pe_fld (pv 0) rfl))))))),?_⟩
 obtain ⟨dx,hx⟩:=id ko
 refine ⟨_,rfl,x,_,dx,_,_,rfl,hx,T.cls kd,T.naw kd,rfl,_,rfl,_,_,rfl,h1,h2,b0,b1,_,rfl,iteF ?_⟩
 unfold cnt at q
 refine ⟨_,rfl,_,rfl,x,_,dx,_,_,_,rfl,hx,rfl,MG kd hk,x,w0,p,rfl,ko,h1,h2,_,_,rfl,rfl,_,rfl,?_⟩
 walk_at "c" <;> intro c0
 ·rw [if_pos c0] at q
  exact ⟨_,rfl,q⟩
 ·rw [if_neg c0] at q
  exact ⟨_,rfl,_,rfl,x,_,dx,_,_,rfl,hx,T.cls kd,T.naw kd,rfl,_,_,rfl,rfl,cpow1 (by omega) (by omega),_,_,rfl,rfl,q⟩
theorem ok__law_bits {f:Addr} {fd:FuncData} (F:Fun K "_law_bits" "_law_bits" s__law_bits f fd) (T:Txt K mg c) (H__law_take:Has P w K mg base 1 "_law_take" ["_law_box_here", "_law_many"] spTake):FnOk P w K mg base CX0 2 f fd ["_law_box_here", "_law_width"] spLBits:=by
 refine F.ok sc__law_bits (fun vs H Q E h=>?_) (fun cdv A outer s H vs Q E hr h=>?_)
 ·obtain ⟨p,w,rfl,_⟩:=h
  rfl
 obtain ⟨p,w,rfl,hb,h1,h2,q⟩:=h
 have hB:=pw_half h1
 have hp:=p_pos (w - 1).toNat
 obtain ⟨hb1,hb2⟩:=pw_bounds h1 h2
 refine ⟨_,(pss_cons (ps_set (i:=2) sc__law_bits.nd rfl (Or.inl rfl) (pe_fn H__law_take (hr.mono (by omega)) rfl (pa_cons (pv 0) (pa_cons pe_int pa_nil))))
  (pss_cons (ps_if (pt_cmpR op_lt (pv 2) pe_int (nomark _))
   (pss_cons (ps_set (i:=3) sc__law_bits.nd rfl (Or.inl rfl) (pe_op op_shl pe_int (pe_op op_sub (pv 1) pe_int)))
   (pss_one (ps_ret (pe_ix ix_list (pe_lst (pa_cons pe_int (pa_cons (pe_op op_sub (pe_op op_mul pe_int (pv 3)) pe_int) (pa_cons (pv 3) (pa_cons (pe_op op_sub (pv 3) pe_int) (pa_cons (pe_op op_shl pe_int (pe_fn H__law_take (hr.mono (by omega)) rfl (pa_cons (pv 0) (pa_cons (pv 1) pa_nil)))) pa_nil)))))) (pv 2) (fun _ _=>rfl)))))
   pss_nil)
  (pss_cons (ps_if (pt_cmpR op_gt (pe_ix ix_list (pv 0) pe_int (fun _ _=>rfl)) pe_int (nomark _))
   (pss_one (ps_ret (pe_fn H__law_take (hr.mono (by omega)) rfl (pa_cons (pv 0) (pa_cons (pe_op op_shl pe_int (pv 1)) pa_nil)))))
   pss_nil)
  (pss_cons (ps_set (i:=4) sc__law_bits.nd rfl (Or.inl rfl) (pe_fn H__law_take (hr.mono (by omega)) rfl (pa_cons (pv 0) (pa_cons pe_int pa_nil))))
  (pss_one (ps_ret (pe_op op_and (pe_op op_or (pe_op op_shl (pv 4) pe_int) (pe_fn H__law_take (hr.mono (by omega)) rfl (pa_cons (pv 0) (pa_cons pe_int pa_nil)))) (pe_op op_sub (pe_op op_shl pe_int (pv 1)) pe_int)))))))),?_⟩
 refine ⟨_,rfl,p,_,rfl,hb,by decide,by decide,fun d H1 d0 d1 b1 x1=>?_⟩
 refine ⟨_,rfl,_,_,rfl,rfl,_,rfl,?_⟩
 by_cases hc:d < 5
 ·refine iteD hc ?_
  refine ⟨_,rfl,_,_,rfl,rfl,_,_,rfl,rfl,cpow1 (by omega) (by omega),?_⟩
  refine ⟨_,rfl,_,_,rfl,rfl,.inl ⟨by decide,by decide⟩,_,_,rfl,rfl,_,rfl,_,rfl,_,_,rfl,rfl,_,rfl,_,rfl,p,_,rfl,b1,by omega,by omega,fun e H2 e0 e1 b2 x2=>?_⟩
  refine ⟨_,_,rfl,rfl,cpow1 (by omega) (by omega),(by show 5≤sizeLine; decide),fun l hl=>?_⟩
  have fin:∀ v:Int,0≤v→v < 2 ^ w.toNat→Q (.int v) (upd H2 l (.lst [.int 0,.int (2 * (1 * 2 ^ (w - 1).toNat) - 1),.int (1 * 2 ^ (w - 1).toNat),.int (1 * 2 ^ (w - 1).toNat - 1),.int (1 * 2 ^ e.toNat)])) :=
   fun v v0 v1=>q v _ v0 v1 (b2.same (same_new hl _)) (x1.trans (x2.trans (SameX.of (same_new hl _))))
  rcases (by omega:d = 0∨d = 1∨d = 2∨d = 3∨d = 4) with rfl | rfl | rfl | rfl | rfl
  ·exact ⟨_,rfl,l,_,_,_,rfl,rfl,SqL.of upd_same,rfl,fin 0 (by omega) (by omega)⟩
  ·exact ⟨_,rfl,l,_,_,_,rfl,rfl,SqL.of upd_same,rfl,fin (2 * (1 * 2 ^ (w - 1).toNat) - 1) (by omega) (by omega)⟩
  ·exact ⟨_,rfl,l,_,_,_,rfl,rfl,SqL.of upd_same,rfl,fin (1 * 2 ^ (w - 1).toNat) (by omega) (by omega)⟩
  ·exact ⟨_,rfl,l,_,_,_,rfl,rfl,SqL.of upd_same,rfl,fin (1 * 2 ^ (w - 1).toNat - 1) (by omega) (by omega)⟩
  ·have e2:(2:Int) ^ e.toNat≤2 ^ (w - 1).toNat:=p_mono (by omega)
   have e3:=p_pos e.toNat
   exact ⟨_,rfl,l,_,_,_,rfl,rfl,SqL.of upd_same,rfl,fin (1 * 2 ^ e.toNat) (by omega) (by omega)⟩
 ·refine iteDN hc ?_
  obtain ⟨r,s1,c,hb1'⟩:=id b1
  refine ⟨_,rfl,p,_,_,_,rfl,rfl,SqL.of hb1',rfl,_,_,rfl,rfl,_,rfl,?_⟩
  by_cases hr0:0 < r
  ·refine iteD hr0 ?_
   exact ⟨_,rfl,_,rfl,_,_,rfl,rfl,cpow1 (by omega) (by omega),p,_,rfl,b1,p1_pos _,(by rw [Int.one_mul]; omega),fun e H2 e0 e1 b2 x2=>q e H2 e0 (by rw [Int.one_mul] at e1; exact e1) b2 (x1.trans x2)⟩
  ·refine iteDN hr0 ?_
   refine ⟨_,rfl,p,_,rfl,b1,by decide,by decide,fun e H2 e0 e1 b2 x2=>?_⟩
   refine ⟨_,rfl,_,_,rfl,rfl,⟨by decide,by decide,by omega⟩,_,rfl,p,_,rfl,b2,by decide,by decide,fun g H3 g0 g1 b3 x3=>?_⟩
   refine ⟨_,_,rfl,rfl,_,rfl,_,_,rfl,rfl,cpow1 (by omega) (by omega),_,_,rfl,rfl,_,_,rfl,rfl,?_⟩
   have rg:=bitAnd_range (Builtin.bitOr (e * 2 ^ (16:Int).toNat) g) (y:=1 * 2 ^ w.toNat - 1) (by omega)
   exact q _ H3 rg.1 (by have:=rg.2; omega) b3 (x1.trans (x2.trans x3))
theorem pw_nat (p:Nat):(1:Int) * 2 ^ ((p:Int)).toNat = ((2 ^ p:Nat):Int):=by rw [Int.one_mul,Int.toNat_natCast]; push_cast; rfl
theorem ok_figures_behind {f:Addr} {fd:FuncData} (F:Fun K "figures_behind" "figures_behind" s_figures_behind f fd) (T:Txt K mg c) :FnOk P w K mg base CX0 1 f fd ["rest", "point"] spFigB:=by
 refine F.ok sc_figures_behind (fun vs H Q E h=>?_) (fun cdv A outer s H vs Q E hr h=>?_)
 ·obtain ⟨r,p,rfl,_⟩:=h
  rfl
 obtain ⟨r,p,rfl,hr0,hp,q⟩:=h
 refine ⟨_,(pss_cons (ps_set (i:=2) sc_figures_behind.nd rfl (Or.inl rfl) (pe_lst pa_nil))
  (pss_cons (ps_while PassesOwn.never (pt_cmpR op_ne (pv 0) pe_int (nomark _))
   (pss_cons (ps_set (i:=0) sc_figures_behind.nd rfl (Or.inl rfl) (pe_op op_mul (pv 0) pe_int))
   (pss_cons (ps_expr (pe_bm PySem.F.plainAttrs_list PySem.F.slot_list_append PySem.F.type_list_append mt_append (pv 2) (pa_cons (pe_callTy call_strW rfl T.n_str boot_str (pa_cons (pe_op op_shr (pv 0) (pv 1)) pa_nil)) pa_nil)))
   (pss_one (ps_set (i:=0) sc_figures_behind.nd rfl (Or.inl rfl) (pe_op op_mod (pv 0) (pe_op op_shl pe_int (pv 1))))))))
  (pss_one (ps_ret (pe_bm PySem.F.plainAttrs_str PySem.F.slot_str_join PySem.F.type_str_join mt_join pe_str (pa_cons (pv 2) pa_nil)))))),?_⟩
 have L1000:(1000:Nat)≤sizeLine:=by decide
 have pb:(2:Nat) ^ p≤2147483648:=Nat.le_trans (Nat.pow_le_pow_right (by decide) hp) (by decide)
 refine ⟨(by show 0≤sizeLine; decide),fun l hl=>?_⟩
 refine while_by (fun σ G=>∃ (B:List Nat) (f r':Nat),σ = [some (.int (r':Int)),some (.int (p:Int)),some (.ref l)]∧G l = some (.lst ((oneS B).map V.str))∧fg p p r = B ++ fg p f r'∧FOk p f r'∧B.length + f = p∧Same H G) (fun _ G=>match G l with | some (.lst xs)=>100 - xs.length | _=>0) ⟨[],p,r,rfl,upd_same,rfl,FOk.start hr0,Nat.zero_add _,same_new hl _⟩ ?_ ?_
 ·rintro σ G ⟨B,f,r',rfl,gl,ef,fo,bl,SG⟩
  have lB:((oneS B).map V.str).length = B.length:=by rw [List.length_map,oneS,List.length_map]
  refine ⟨_,rfl,rfl,_,rfl,?_⟩
  by_cases c0:r' = 0
  ·subst c0
   refine iteNS rfl ?_
   have e0:fg p f 0 = []:=by cases f <;> rfl
   rw [e0,List.append_nil] at ef
   refine ⟨ty_str,_,rfl,_,l,oneS B,rfl,rfl,SqL.of gl,?_,q _ G ((join_one B).trans ef.symm) SG⟩
   rw [one_len,oneS,List.length_map]
   show B.length + B.length * 0≤_
   omega
  ·refine iteN (fun z=>c0 (by injection z with z; omega)) ?_
   cases f with
   | zero=>exact absurd fo.zero c0
   | succ f =>
   have nx:=fo.next
   have lt:=fo.lt
   have q9:r' * 10 / 2 ^ p < 10:=Nat.div_lt_of_lt_mul (Nat.mul_lt_mul_of_pos_right lt (by decide))
   have ed:((r':Int) * 10) / 2 ^ ((p:Int)).toNat = ((r' * 10 / 2 ^ p:Nat):Int):=by rw [Int.toNat_natCast]; push_cast; rfl
   have em:((r':Int) * 10) % (1 * 2 ^ ((p:Int)).toNat) = ((r' * 10 % 2 ^ p:Nat):Int):=by rw [pw_nat]; push_cast; rfl
   have ef':fg p (f + 1) r' = (48 + r' * 10 / 2 ^ p) :: fg p f (r' * 10 % 2 ^ p):=by simp only [fg,if_neg c0]
   refine ⟨_,rfl,_,_,rfl,rfl,.inr ⟨by decide,by decide⟩,?_⟩
   refine ⟨_,rfl,.inl ⟨rfl,_,SqL.of gl⟩,_,rfl,_,rfl,_,_,rfl,rfl,(by show (0:Int)≤(p:Int); omega),((r' * 10 / 2 ^ p:Nat):Int),congrArg (fun z=>[V.int z]) ed,by generalize r' * 10 / 2 ^ p = dd; omega,by generalize r' * 10 / 2 ^ p = dd at q9; omega,?_⟩
   rw [str_dig q9]
   refine ⟨l,_,_,rfl,rfl,gl,by rw [lB]; omega,?_⟩
   refine ⟨_,rfl,_,rfl,_,_,rfl,rfl,cpow1 (by omega) (by omega),_,_,rfl,rfl,p1_pos _,?_⟩
   refine ⟨⟨B ++ [48 + r' * 10 / 2 ^ p],f,r' * 10 % 2 ^ p,?_,?_,by rw [ef,ef',List.append_assoc]; rfl,nx,by rw [List.length_append,List.length_singleton]; omega,Same.updL SG hl⟩,?_⟩
   ·show [some (V.int (((r':Int) * 10) % (1 * 2 ^ ((p:Int)).toNat))),some (V.int (p:Int)),some (V.ref l)] = _
    rw [em]
   ·rw [upd_same,oneS,oneS,List.map_append,List.map_append]
    rfl
   ·rw [upd_same,gl]
    show 100 - (((oneS B).map V.str) ++ _).length < 100 - ((oneS B).map V.str).length
    rw [List.length_append,lB,List.length_singleton]
    omega
 ·rintro σ G Q1 Q2 m ⟨v,hv,f,b,hb,q⟩
  exact ⟨v,hv,f,b,hb,m _ _ q⟩
theorem ok_number_in {f:Addr} {fd:FuncData} (F:Fun K "number_in" "number_in" s_number_in f fd) (T:Txt K mg c) :FnOk P w K mg base CX0 1 f fd ["figures"] spNumI:=by
 refine F.ok sc_number_in (fun vs H Q E h=>?_) (fun cdv A outer s H vs Q E hr h=>?_)
 ·obtain ⟨z,rfl,_⟩:=h
  rfl
 obtain ⟨z,rfl,hz,q⟩:=h
 refine ⟨_,(pss_cons (ps_set (i:=1) sc_number_in.nd rfl (Or.inl rfl) pe_int)
  (pss_cons (ps_for PassesOwn.never rfl (pi_str (pv 0)) (pg_name (i:=2) sc_number_in.nd rfl (Or.inl rfl))
   (pss_cons (ps_set (i:=3) sc_number_in.nd rfl (Or.inl rfl) (pe_bm PySem.F.plainAttrs_str PySem.F.slot_str_find PySem.F.type_str_find mt_find pe_str (pa_cons (pv 2) pa_nil)))
   (pss_cons (ps_if (pt_cmpR op_lt (pv 3) pe_int (nomark _))
    (pss_one (ps_ret pe_non))
    pss_nil)
   (pss_one (ps_set (i:=1) sc_number_in.nd rfl (Or.inl rfl) (pe_op op_add (pe_op op_mul (pv 1) pe_int) (pv 3)))))))
  (pss_one (ps_ret (pv 1))))),?_⟩
 have L1000:(1000:Nat)≤sizeLine:=by decide
 refine ⟨_,rfl,z,rfl,for_str (z:=z) (fun i σ G=>∃ (n:Nat) (y1 y2:Option V),σ = [some (.str z),some (.int (n:Int)),y1,y2]∧G = H∧PySem.NumText.AllDigits (z.cps.toList.take i)∧n = PySem.NumText.digitsVal (z.cps.toList.take i)) ⟨0,_,_,rfl,rfl,(fun _ h=>nomatch h),rfl⟩ ?_ ?_⟩
 ·rintro i ch σ G hc ⟨n,y1,y2,rfl,rfl,ad,en⟩
  have hc':z.cps.toList[i]? = some ch:=by rw [Array.getElem?_toList]; exact hc
  have tk:=take_snoc hc'
  refine ⟨ty_str,_,rfl,_,_,rfl,rfl,?_⟩
  have fd:=find_dig ch
  have mem:ch ∈ z.cps.toList:=List.mem_of_getElem? hc'
  by_cases c1:48≤ch∧ch≤57
  ·rw [if_pos c1] at fd
   rw [fd]
   refine ⟨_,rfl,_,_,rfl,rfl,_,rfl,iteDN (by omega) ?_⟩
   refine ⟨_,rfl,_,_,rfl,rfl,.inr ⟨by decide,by decide⟩,_,rfl,_,_,rfl,rfl,?_⟩
   refine ⟨n * 10 + (ch - 48),some (.str ⟨#[ch]⟩),some (.int ((ch - 48:Nat):Int)),?_,rfl,?_,?_⟩
   ·show [some (V.str z),some (V.int ((n:Int) * 10 + ((ch - 48:Nat):Int))),some (V.str ⟨#[ch]⟩),some (V.int ((ch - 48:Nat):Int))] = _
    rw [show (n:Int) * 10 + ((ch - 48:Nat):Int) = ((n * 10 + (ch - 48):Nat):Int) by omega]
   ·rw [tk]
    intro d hd
    rcases List.mem_append.mp hd with hd | hd
    ·exact ad d hd
    ·rw [List.mem_singleton.mp hd]; exact c1
   ·rw [tk,PySem.NumText.digitsVal_snoc,en]
  ·rw [if_neg c1] at fd
   rw [fd]
   refine ⟨_,rfl,_,_,rfl,rfl,_,rfl,iteD (by decide) ?_⟩
   exact q none (fun a=>absurd (a ch mem) c1) (fun n e=>nomatch e)
 ·rintro σ G ⟨n,y1,y2,rfl,rfl,ad,en⟩
  rw [show z.cps.toList.take z.cps.size = z.cps.toList by rw [← Array.length_toList,List.take_length]] at ad en
  refine ⟨_,rfl,q (some (n:Int)) (fun _=>by rw [en]) fun m e=>?_⟩
  injection e with e
  subst e
  have:=dv_lt ad
  have l:z.cps.toList.length≤43:=by rw [str_len]; exact hz
  have:(10:Nat) ^ z.cps.toList.length≤10 ^ 43:=Nat.pow_le_pow_right (by decide) l
  rw [← en] at *
  refine ⟨by omega,?_⟩
  have h2:n < 10 ^ 43:=by omega
  exact_mod_cast h2
theorem starts_minus (z:Str):Txt.startswith z (Str.ofString "-") = negOf z.cps.toList:=by
 unfold Txt.startswith negOf
 rw [PySem.StrLaws.subAt_eq]
 show (decide (0 + 1≤z.length) && ((z.cps.toList.drop 0).take 1 == [45])) = _
 rw [List.drop_zero,← str_len]
 cases z.cps.toList with
 | nil=>rfl
 | cons a r =>
  show (decide (0 + 1≤r.length + 1) && ([a] == [45])) = (some a == some 45)
  rw [decide_eq_true (by omega),Bool.true_and]
  by_cases e:a = 45
  ·subst e; rfl
  ·rw [beq_eq_false_iff_ne.mpr (fun z=>e (by injection z)),beq_eq_false_iff_ne.mpr (fun z=>e (by injection z))]
theorem tail_slice {z:Str} (h:1≤z.length):(Txt.slice z (some 1) none).cps.toList = z.cps.toList.tail:=by
 have h':(0:Int)≤1∧(1:Int)≤z.cps.toList.length:=⟨by decide,by rw [str_len]; omega⟩
 have e:Txt.slice z (some 1) none = PySem.StrLaws.sliceText z (some 1) none:=rfl
 rw [e,PySem.StrLaws.sliceText_from h']
 show (z.cps.toList.drop 1).take _ = _
 rw [List.take_of_length_le (by rw [List.length_drop]; omega),List.drop_one]
theorem shT_str {p:Nat} {M:Int} {sg u r:Str} (h1:sg.cps.toList = if decide (M < 0) = true then [45] else []) (h2:u.cps.toList = dgs (M.natAbs / 2 ^ p)) (h3:r.cps.toList = if fg p p (M.natAbs % 2 ^ p) = [] then [] else 46 :: fg p p (M.natAbs % 2 ^ p)):(sg ++ u ++ r:Str).cps.toList = shT p M:=by
 rw [app_list,app_list,h1,h2,h3,List.append_assoc]
 rfl
theorem ok_Kind_shown {f:Addr} {fd:FuncData} (F:Fun K "shown" "Kind.shown" s_Kind_shown f fd) (T:Txt K mg c) (H_figures_behind:Has P w K mg base 1 "figures_behind" ["rest", "point"] spFigB) (MC:∀ i,i < 3→MHas P w K mg base 4 (cOf c i) "count_of" ["self", "bits"] (spCnt c)):FnOk P w K mg base CX0 5 f fd ["self", "bits"] (spShow c):=by
 refine F.ok sc_Kind_shown (fun vs H Q E h=>?_) (fun cdv A outer s H vs Q E hr h=>?_)
 ·obtain ⟨kd,x,w',b,p,rfl,_⟩:=h
  rfl
 obtain ⟨kd,x,w',b,p,rfl,hk,ko,w0,w1,hp,b0,b1,q⟩:=h
 refine ⟨_,(pss_cons (ps_set (i:=2) sc_Kind_shown.nd rfl (Or.inl rfl) (pe_methP (k:=4) (pv 0) (hr.mono (by omega)) (pa_cons (pv 1) pa_nil)))
  (pss_cons (ps_set (i:=3) sc_Kind_shown.nd rfl (Or.inl rfl) (pe_ifExp (pt_cmpR op_lt (pv 2) pe_int (nomark _)) pe_str pe_str))
  (pss_cons (ps_set (i:=4) sc_Kind_shown.nd rfl (Or.inl rfl) (pe_callTy call_strW rfl T.n_str boot_str (pa_cons (pe_op op_shr (pe_callB call_abs rfl T.n_abs boot_abs (pa_cons (pv 2) pa_nil)) (pe_fld (pv 0) rfl)) pa_nil)))
  (pss_cons (ps_set (i:=5) sc_Kind_shown.nd rfl (Or.inl rfl) (pe_fn H_figures_behind (hr.mono (by omega)) rfl (pa_cons (pe_op op_mod (pe_callB call_abs rfl T.n_abs boot_abs (pa_cons (pv 2) pa_nil)) (pe_op op_shl pe_int (pe_fld (pv 0) rfl))) (pa_cons (pe_fld (pv 0) rfl) pa_nil))))
  (pss_one (ps_ret (pe_op op_add_str (pe_op op_add_str (pv 3) (pv 4)) (pe_ifExp (pt_txt (pv 5)) (pe_op op_add_str pe_str (pv 5)) pe_str)))))))),?_⟩
 have L1000:(1000:Nat)≤sizeLine:=by decide
 obtain ⟨dx,hx⟩:=id ko
 have PB:=pw_bounds w0 w1
 refine ⟨_,rfl,x,_,dx,_,_,_,rfl,hx,rfl,MC kd hk,_,rfl,kd,x,w',_,b,rfl,hk,ko,w0,w1,b0,b1,?_⟩
 generalize eM:cnt kd w' b = M at q ⊢
 have eA:(if M < 0 then -M else M) = ((M.natAbs:Nat):Int):=by split <;> omega
 have eW:((M.natAbs:Nat):Int) / 2 ^ ((p:Int)).toNat = ((M.natAbs / 2 ^ p:Nat):Int):=by rw [Int.toNat_natCast]; push_cast; rfl
 have eR:((M.natAbs:Nat):Int) % (1 * 2 ^ ((p:Int)).toNat) = ((M.natAbs % 2 ^ p:Nat):Int):=by rw [pw_nat]; push_cast; rfl
 have Mb:M.natAbs≤4294967296:=by
  have hf:=pw_half w0
  rw [← eM]
  unfold cnt hi
  by_cases k:kd = 0
  ·rw [if_pos k]
   split <;> omega
  ·rw [if_neg k]
   split <;> omega
 have kb:M.natAbs / 2 ^ p≤4294967296:=Nat.le_trans (Nat.div_le_self _ _) Mb
 have lD:(dgs (M.natAbs / 2 ^ p)).length≤10:=dgs_len 9 _ (Nat.lt_of_le_of_lt kb (by decide))
 have lS:=str_len (Str.ofString (toString ((M.natAbs / 2 ^ p:Nat):Int)))
 rw [str_nat] at lS
 have fgl:=(fg_ok (FOk.start (Nat.mod_lt M.natAbs (Nat.two_pow_pos p)))).2.2.1
 refine ⟨_,rfl,_,_,rfl,rfl,_,rfl,?_⟩
 refine iteC (fun c0=>?_) (fun c0=>?_)
 all_goals
  refine ⟨_,rfl,_,rfl,_,rfl,x,_,dx,_,_,rfl,hx,T.cls kd,T.nap kd,rfl,_,_,rfl,rfl,(by omega),((M.natAbs / 2 ^ p:Nat):Int),congrArg (fun z=>[V.int z]) ((congrArg (· / 2 ^ ((p:Int)).toNat) eA).trans eW),by generalize M.natAbs / 2 ^ p = kk at kb; omega,by generalize M.natAbs / 2 ^ p = kk at kb; omega,?_⟩
  refine ⟨_,rfl,_,rfl,_,rfl,x,_,dx,_,_,rfl,hx,T.cls kd,T.nap kd,rfl,_,_,rfl,rfl,cpow1 (by omega) (by omega),_,_,rfl,rfl,p1_pos _,_,rfl,x,_,dx,_,_,rfl,hx,T.cls kd,T.nap kd,rfl,M.natAbs % 2 ^ p,p,congrArg (fun z=>[V.int z,V.int (p:Int)]) ((congrArg (· % (1 * 2 ^ ((p:Int)).toNat)) eA).trans eR),Nat.mod_lt _ (Nat.two_pow_pos p),hp,fun zb H1 eb s1=>?_⟩
  have lb:=str_len zb
  rw [eb] at lb
  have m1:(Str.ofString "-").length = 1:=by decide
  have m0:(Str.ofString "").length = 0:=by decide
  have md:(Str.ofString ".").length = 1:=by decide
  refine ⟨_,rfl,_,rfl,_,_,rfl,rfl,by omega,_,rfl,zb,rfl,by omega,?_⟩
  by_cases cz:zb.length = 0
  ·have ez:fg p p (M.natAbs % 2 ^ p) = []:=List.length_eq_zero_iff.mp (by omega)
   rw [decide_eq_false (fun z=>z cz)]
   refine iteF ⟨_,_,rfl,rfl,by rw [addL]; omega,q _ H1 (shT_str ?_ (str_nat _) (by rw [if_pos ez]; rfl)) s1⟩
   first | (rw [decide_eq_true c0]; rfl) | (rw [decide_eq_false c0]; rfl)
  ·have ez:fg p p (M.natAbs % 2 ^ p) ≠ []:=fun z=>cz (by rw [z] at lb; exact lb.symm)
   rw [decide_eq_true cz]
   refine iteT ⟨_,rfl,_,_,rfl,rfl,by omega,_,_,rfl,rfl,by rw [addL,addL]; omega,q _ H1 (shT_str ?_ (str_nat _) (by rw [if_neg ez,app_list,eb]; rfl)) s1⟩
   first | (rw [decide_eq_true c0]; rfl) | (rw [decide_eq_false c0]; rfl)
theorem str_ext {a b:Str} (h:a.cps.toList = b.cps.toList):a = b:=by
 obtain ⟨⟨a⟩⟩:=a
 obtain ⟨⟨b⟩⟩:=b
 rw [show a = b from h]
theorem part_dot (z:Str):(Txt.partition z (Str.ofString ".")).1.cps.toList = whl z.cps.toList∧(Txt.partition z (Str.ofString ".")).2.2.cps.toList = bhd z.cps.toList∧((46 ∈ z.cps.toList∧(Txt.partition z (Str.ofString ".")).2.1 = Str.ofString ".")∨(46 ∉ z.cps.toList∧(Txt.partition z (Str.ofString ".")).2.1 = Str.ofString "")):=by
 have ed:Str.ofString "." = ⟨#[46]⟩:=by decide
 rw [ed]
 unfold Txt.partition
 rcases PySem.StrLaws.occ_head_from z ⟨#[46]⟩ 0 1 (Nat.le_refl 1) with ⟨h0,hn⟩ | ⟨k,r,h0,hlo,hk,hn⟩
 ·rw [h0]
  have nm:46 ∉ z.cps.toList:=fun m=>by
   obtain ⟨v,hv⟩:=List.mem_iff_getElem?.mp m
   exact hn v (Nat.zero_le _) ((PySem.StrLaws.subAt_one z 46 v).mpr hv)
  obtain ⟨e1,e2⟩:=(whl_bhd z.cps.toList).2 nm
  exact ⟨e1,e2.symm,.inr ⟨nm,rfl⟩⟩
 ·rw [h0]
  have hm:=(PySem.StrLaws.subAt_one z 46 k).mp hk
  have hlt:=(List.getElem?_eq_some_iff.mp hm)
  have n46:46 ∉ z.cps.toList.take k:=fun m=>by
   obtain ⟨v,hv⟩:=List.mem_iff_getElem?.mp m
   rw [List.getElem?_take] at hv
   split at hv
   ·rename_i c
    exact hn v (Nat.zero_le _) c ((PySem.StrLaws.subAt_one z 46 v).mpr hv)
   ·cases hv
  have el:z.cps.toList = z.cps.toList.take k ++ 46 :: z.cps.toList.drop (k + 1):=by
   conv=>lhs; rw [← List.take_append_drop k z.cps.toList,List.drop_eq_getElem_cons hlt.1,hlt.2]
  have wo:=whl_of (r:=z.cps.toList.drop (k + 1)) n46
  rw [← el] at wo
  have m46:46 ∈ z.cps.toList:=List.mem_of_getElem? hm
  refine ⟨?_,?_,.inl ⟨m46,rfl⟩⟩
  ·rw [wo.1]
   show (z.cps.extract 0 k).toList = _
   rw [Array.toList_extract]
   simp
  ·rw [wo.2]
   show (z.cps.extract (k + 1) z.cps.size).toList = _
   rw [Array.toList_extract,← Array.length_toList]
   simp
   exact List.take_of_length_le (by rw [List.length_drop,Array.length_toList]; exact Nat.le_refl _)
theorem cnt_back {kd:Nat} {w M:Int} (w0:4≤w) (r:rng kd w M):0≤M % (1 * 2 ^ w.toNat)∧M % (1 * 2 ^ w.toNat) < 2 ^ w.toNat∧cnt kd w (M % (1 * 2 ^ w.toNat)) = M:=by
 have hf:=pw_half w0
 have pp:=p1_pos (w - 1).toNat
 rw [Int.one_mul] at *
 unfold rng lo hi at r
 unfold cnt hi
 have e0:=Int.emod_nonneg M (show (2:Int) ^ w.toNat ≠ 0 by omega)
 have e1:=Int.emod_lt_of_pos M (show (0:Int) < 2 ^ w.toNat by omega)
 refine ⟨e0,e1,?_⟩
 by_cases m:0≤M
 ·have e:M % 2 ^ w.toNat = M:=Int.emod_eq_of_lt m (by split at r <;> omega)
  rw [e]
  by_cases k:kd = 0
  ·rw [if_pos k,if_pos k] at r
   rw [if_pos k,if_pos (by omega)]
  ·rw [if_neg k,if_neg k] at r
   rw [if_neg k,if_pos (by omega)]
 ·have k:kd ≠ 0:=fun k=>by rw [if_pos k] at r; omega
  rw [if_neg k,if_neg k] at r
  have e:M % 2 ^ w.toNat = M + 2 ^ w.toNat:=by
   rw [← Int.add_emod_right]
   exact Int.emod_eq_of_lt (by omega) (by omega)
  rw [e,if_neg k,if_neg (by omega)]
  omega
theorem ok_Kind_read {f:Addr} {fd:FuncData} (F:Fun K "read" "Kind.read" s_Kind_read f fd) (T:Txt K mg c) (H_count_in:Has P w K mg base 2 "count_in" ["text", "point"] spCntI) (H_is_between:Has P w K mg base 2 "is_between" ["thing", "low", "high"] spBtwG) (X_NoText:XHas P w K mg base 1 "NoText" c.NoText "found") (ML:∀ i,i < 3→MHas P w K mg base 2 (cOf c i) "least" ["self"] (spLeast c i)) (MG:∀ i,i < 3→MHas P w K mg base 2 (cOf c i) "greatest" ["self"] (spGreat c i)) (MB:∀ i,i < 3→MHas P w K mg base 3 (cOf c i) "bits_of" ["self", "count"] (spBits c)) (MS:∀ i,i < 3→MHas P w K mg base 5 (cOf c i) "shown" ["self", "bits"] (spShow c)):FnOk P w K mg base (CX2 P w base) 6 f fd ["self", "text"] (spRead c):=by
 refine Fun.okY F sc_Kind_read (fun vs H Q E h=>?_) (fun cdv A outer s H vs Q E hr h=>?_)
 ·obtain ⟨kd,x,w',p,t,rfl,_⟩:=h
  rfl
 obtain ⟨kd,x,w',p,t,rfl,hk,ko,w0,w1,hp,th,sh,qv,qe⟩:=h
 refine ⟨_,(pss_cons (ps_set (i:=2) sc_Kind_read.nd rfl (Or.inl rfl) (pe_fn H_count_in (hr.mono (by omega)) rfl (pa_cons (pv 1) (pa_cons (pe_fld (pv 0) rfl) pa_nil))))
  (pss_cons (ps_if (pt_not (pt_val (pe_fn H_is_between (hr.mono (by omega)) rfl (pa_cons (pv 2) (pa_cons (pe_methP0 (k:=2) (pv 0) (hr.mono (by omega))) (pa_cons (pe_methP0 (k:=2) (pv 0) (hr.mono (by omega))) pa_nil))))))
   (pss_one (ps_raise1 X_NoText (hr.mono (by omega)) rfl (pa_cons (pv 1) pa_nil)))
   pss_nil)
  (pss_cons (ps_set (i:=3) sc_Kind_read.nd rfl (Or.inl rfl) (pe_methP (k:=3) (pv 0) (hr.mono (by omega)) (pa_cons (pv 2) pa_nil)))
  (pss_cons (ps_if (pt_cmpR op_ne (pe_methP (k:=5) (pv 0) (hr.mono (by omega)) (pa_cons (pv 3) pa_nil)) (pv 1) (nomark _))
   (pss_one (ps_raise1 X_NoText (hr.mono (by omega)) rfl (pa_cons (pv 1) pa_nil)))
   pss_nil)
  (pss_one (ps_ret (pv 3))))))),?_⟩
 obtain ⟨dx,hx⟩:=id ko
 refine ⟨_,rfl,_,rfl,x,_,dx,_,_,rfl,hx,T.cls kd,T.nap kd,rfl,t,p,rfl,th,sh,hp,fun o H1 ho hs s1=>?_⟩
 have ko1:KO c H1 x kd w' (p:Int):=⟨dx,s1 _ _ hx⟩
 have hx1:=s1 _ _ hx
 have tho:Th H1 (oV o):=by cases o with
  | none=>exact .non
  | some M=>exact .int M
 have len:∀ {M:Int},rng kd w' M→(shT p M).length≤43:=fun r=>shT_len hp (rng_abs w0 w1 r)
 have tvn:(∀ M,o = some M→¬ rng kd w' M)→tv kd w' p t = none:=fun h=>by
  cases t with
  | str z =>
   rcases tv_cases kd w' p z with ⟨M,r,e,_⟩ | ⟨_,e⟩
   ·exact absurd r (h M (ho z M rfl (by rw [← str_len,e]; exact len r) e))
   ·exact e
  | _=>rfl
 refine ⟨_,rfl,_,rfl,x,_,dx,_,_,_,rfl,hx1,rfl,ML kd hk,x,w',_,rfl,ko1,w0,w1,_,rfl,x,_,dx,_,_,_,rfl,hx1,rfl,MG kd hk,x,w',_,rfl,ko1,w0,w1,oV o,_,_,rfl,tho,?_⟩
 cases o with
 | none =>
  refine ⟨_,rfl,iteT ⟨_,rfl,_,rfl,fun d hd=>qe (tvn fun M e=>nomatch e) d _ upd_same (s1.trans (same_new hd _))⟩⟩
 | some M =>
  obtain ⟨z,rfl⟩:=hs M rfl
  by_cases r:rng kd w' M
  rotate_left
  ·have eb:btw (oV (some M)) (lo kd w') (hi kd w') = false:=by
    show (decide (lo kd w'≤M) && decide (M≤hi kd w')) = false
    cases h1:decide (lo kd w'≤M) with
    | false=>rfl
    | true =>
     rw [Bool.true_and]
     exact decide_eq_false fun h2=>r ⟨of_decide_eq_true h1,h2⟩
   rw [eb]
   exact ⟨_,rfl,iteT ⟨_,rfl,_,rfl,fun d hd=>qe (tvn fun N e=>by injection e with e; rw [← e]; exact r) d _ upd_same (s1.trans (same_new hd _))⟩⟩
  ·have eb:btw (oV (some M)) (lo kd w') (hi kd w') = true:=by
    show (decide (lo kd w'≤M) && decide (M≤hi kd w')) = true
    rw [decide_eq_true r.1,decide_eq_true r.2]
    rfl
   rw [eb]
   refine ⟨_,rfl,iteF ?_⟩
   obtain ⟨c0,c1,ce⟩:=cnt_back w0 r
   refine ⟨_,rfl,x,_,dx,_,_,_,rfl,hx1,rfl,MB kd hk,_,rfl,kd,x,w',_,M,rfl,hk,ko1,w0,w1,r.1,r.2,?_⟩
   refine ⟨_,rfl,x,_,dx,_,_,_,rfl,hx1,rfl,MS kd hk,_,rfl,kd,x,w',_,p,rfl,hk,ko1,w0,w1,hp,c0,c1,fun z' H2 ez s2=>?_⟩
   rw [ce] at ez
   refine ⟨_,rfl,rfl,_,rfl,?_⟩
   by_cases ee:z' = z
   ·subst ee
    refine iteNS rfl ⟨_,rfl,qv _ H2 (tv_some r ez) (s1.trans s2)⟩
   ·refine iteN (fun h=>ee (by injection h)) ⟨_,rfl,_,rfl,fun d hd=>qe ?_ d _ upd_same ((s1.trans s2).trans (same_new hd _))⟩
    rcases tv_cases kd w' p z with ⟨N,r2,e,_⟩ | ⟨_,e⟩
    ·have:=ho z N rfl (by rw [← str_len,e]; exact len r2) e
     injection this with this
     subst this
     exact absurd (str_ext (ez.trans e.symm)) ee
    ·exact e
theorem parts_len (b:List Nat):(whl b).length + (bhd b).length≤b.length:=by
 by_cases m:46 ∈ b
 ·have:=congrArg List.length ((whl_bhd b).1 m)
  rw [List.length_append,List.length_cons] at this
  omega
 ·obtain ⟨e1,e2⟩:=(whl_bhd b).2 m
  rw [e2,← e1]
  simp
theorem lg43 {n:Nat} (h:n≤10 ^ 43):n.log2 < 9000:=by
 by_cases z:n = 0
 ·rw [z]; decide
 ·exact (Nat.log2_lt z).mpr (Nat.lt_of_le_of_lt h (by decide))
theorem ok_count_in {f:Addr} {fd:FuncData} (F:Fun K "count_in" "count_in" s_count_in f fd) (T:Txt K mg c) (H_number_in:Has P w K mg base 1 "number_in" ["figures"] spNumI):FnOk P w K mg base CX0 2 f fd ["text", "point"] spCntI:=by
 refine F.ok sc_count_in (fun vs H Q E h=>?_) (fun cdv A outer s H vs Q E hr h=>?_)
 ·obtain ⟨x,p,rfl,_⟩:=h
  rfl
 obtain ⟨x,p,rfl,th,sh,hp,q⟩:=h
 refine ⟨_,(pss_cons (ps_if (PW.pt (pw_or (pt_not (pt_val (pe_callB call_isinst rfl T.n_isinstance boot_isinstance (pa_cons (pv 0) (pa_cons (pe_ty rfl T.n_str boot_str) pa_nil))))) (pw_or1 (pt_cmpR op_gt (pe_callB call_len_str rfl T.n_len boot_len (pa_cons (pv 0) pa_nil)) (pe_globI rfl T.g_LONGEST_SHOWN) (nomark _)))))
   (pss_one (ps_ret pe_non))
   pss_nil)
  (pss_cons (ps_set (i:=2) sc_count_in.nd rfl (Or.inl rfl) (pe_bm PySem.F.plainAttrs_str PySem.F.slot_str_startswith PySem.F.type_str_startswith mt_starts (pv 0) (pa_cons pe_str pa_nil)))
  (pss_cons (ps_set (i:=3) sc_count_in.nd rfl (Or.inl rfl) (pe_bm PySem.F.plainAttrs_str PySem.F.slot_str_partition PySem.F.type_str_partition mt_part (pe_ifExp (pt_val (pv 2)) (pe_slice sl_str (pv 0) (po_some pe_int) po_none) (pv 0)) (pa_cons pe_str pa_nil)))
  (pss_cons (ps_set (i:=4) sc_count_in.nd rfl (Or.inl rfl) (pe_fn H_number_in (hr.mono (by omega)) rfl (pa_cons (pe_op op_add_str (pe_ix ix_tup (pv 3) pe_int (fun _ _=>rfl)) (pe_ix ix_tup (pv 3) pe_int (fun _ _=>rfl))) pa_nil)))
  (pss_cons (ps_if (pt_cmpR op_isN (pv 4) pe_non (nomark _))
   (pss_one (ps_ret pe_non))
   pss_nil)
  (pss_cons (ps_set (i:=5) sc_count_in.nd rfl (Or.inl rfl) pe_int)
  (pss_cons (ps_for PassesOwn.never rfl (pi_str (pe_ix ix_tup (pv 3) pe_int (fun _ _=>rfl))) (pg_name (i:=6) sc_count_in.nd rfl (Or.inl rfl))
   (pss_one (ps_set (i:=5) sc_count_in.nd rfl (Or.inl rfl) (pe_op op_mulB (pv 5) pe_int))))
  (pss_cons (ps_set (i:=7) sc_count_in.nd rfl (Or.inl rfl) (pe_op op_fdivB (pe_op op_shlB (pv 4) (pv 1)) (pv 5)))
  (pss_one (ps_ret (pe_ifExp (pt_val (pv 2)) (pe_un un_neg (pv 7)) (pv 7)))))))))))),?_⟩
 have no:(∀ z M,x = .str z→z.length≤43→z.cps.toList = shT p M→False)→Q .non H:=fun h=>q none H (fun z M e l es=>(h z M e l es).elim) (fun M e=>nomatch e) (Same.refl _)
 cases th with
 | int i=>exact ⟨_,rfl,_,_,_,_,_,rfl,rfl,TyOf.int _,kit_int_str _,_,rfl,iteT (no fun z M e=>nomatch e)⟩
 | bl b=>exact ⟨_,rfl,_,_,_,_,_,rfl,rfl,TyOf.bl _,kit_bl_str _,_,rfl,iteT (no fun z M e=>nomatch e)⟩
 | non=>exact ⟨_,rfl,_,_,_,_,_,rfl,rfl,TyOf.non,kit_non_str _,_,rfl,iteT (no fun z M e=>nomatch e)⟩
 | lst h=>exact ⟨_,rfl,_,_,_,_,_,rfl,rfl,TyOf.lst h,kit_lst_str _,_,rfl,iteT (no fun z M e=>nomatch e)⟩
 | tup h=>exact ⟨_,rfl,_,_,_,_,_,rfl,rfl,TyOf.tup h,kit_tup_str _,_,rfl,iteT (no fun z M e=>nomatch e)⟩
 | dct h=>exact ⟨_,rfl,_,_,_,_,_,rfl,rfl,TyOf.dK h,kit_dct_str _,_,rfl,iteT (no fun z M e=>nomatch e)⟩
 | str z =>
 have L100:(100000:Nat)≤sizeLine:=by decide
 have sh':z.length≤100000:=sh
 refine ⟨_,rfl,_,_,_,_,_,rfl,rfl,TyOf.str _,kit_str_str _,_,rfl,iteF ?_⟩
 refine ⟨_,rfl,z,rfl,by omega,_,_,rfl,rfl,_,rfl,?_⟩
 walk_at "c" <;> intro c1
 ·exact no fun z' M e l=>by injection e with e; subst e; omega
 have lz:z.length≤43:=by omega
 refine ⟨_,rfl,ty_str,z,_,rfl,rfl,?_⟩
 rw [starts_minus]
 cases en:negOf z.cps.toList with
 | true =>
  have z1:1≤z.length:=by
   rw [← str_len]
   cases e:z.cps.toList with
   | nil=>rw [e] at en; cases en
   | cons a r=>exact Nat.succ_le_succ (Nat.zero_le _)
  have hb:(Txt.slice z (some 1) none).cps.toList = bodyOf z.cps.toList:=by rw [tail_slice z1]; unfold bodyOf; rw [en]; rfl
  have hbl:(Txt.slice z (some 1) none).length≤43:=Nat.le_trans (Txt.slice_le z _ _) lz
  refine ⟨_,rfl,_,rfl,iteT ⟨_,rfl,_,rfl,z,rfl,by omega,ty_str,_,_,rfl,rfl,rfl,by omega,fun t ht=>?_⟩⟩
  generalize Txt.slice z (some 1) none = bt at hb hbl ⊢
  obtain ⟨pw1,pb1,_⟩:=part_dot bt
  rw [hb] at pw1 pb1
  have pl:=parts_len (bodyOf z.cps.toList)
  have bl:(bodyOf z.cps.toList).length≤43:=by rw [← hb,str_len]; exact hbl
  obtain ⟨G1,e1,s1,f1⟩:=newO ht (.tup [.str (Txt.partition bt (Str.ofString ".")).1,.str (Txt.partition bt (Str.ofString ".")).2.1,.str (Txt.partition bt (Str.ofString ".")).2.2])
  rw [e1]
  generalize (Txt.partition bt (Str.ofString ".")).1 = A1 at pw1 f1
  generalize (Txt.partition bt (Str.ofString ".")).2.1 = A2 at f1
  generalize (Txt.partition bt (Str.ofString ".")).2.2 = A3 at pb1 f1
  have l1:=str_len A1
  have l3:=str_len A3
  rw [pw1] at l1
  rw [pb1] at l3
  have e13:(A1 ++ A3:Str).cps.toList = whl (bodyOf z.cps.toList) ++ bhd (bodyOf z.cps.toList):=by rw [app_list,pw1,pb1]
  refine ⟨_,rfl,t,_,_,_,rfl,rfl,SqT.of f1,rfl,_,rfl,t,_,_,_,rfl,rfl,SqT.of f1,rfl,A1,A3,rfl,rfl,by omega,A1 ++ A3,rfl,by rw [addL]; omega,fun o h1 h2=>?_⟩
  rw [e13] at h1
  cases o with
  | none =>
   refine ⟨_,rfl,rfl,_,rfl,iteD rfl ?_⟩
   refine q none G1 (fun z' M e l es=>?_) (fun M e=>nomatch e) s1
   injection e with e
   subst e
   have:=h1 (by rw [es]; exact shT_dig p M)
   cases this
  | some n =>
   obtain ⟨n0,n1⟩:=h2 n rfl
   refine ⟨_,rfl,rfl,_,rfl,iteDN (fun z=>nomatch z) ?_⟩
   refine ⟨_,rfl,t,_,_,_,rfl,rfl,SqT.of f1,rfl,A3,rfl,for_str (z:=A3) (fun i σ G=>∃ y6 y7:Option V,σ = [some (.str z),some (.int (p:Int)),some (.bl true),some (.ref t),some (.int n),some (.int ((10 ^ i:Nat):Int)),y6,y7]∧G = G1) ⟨_,_,rfl,rfl⟩ ?_ ?_⟩
   ·rintro i ch σ G hc ⟨y6,y7,rfl,rfl⟩
    have hi:i < A3.length:=(Array.getElem?_eq_some_iff.mp hc).1
    have pw:(10:Nat) ^ i≤10 ^ 43:=Nat.pow_le_pow_right (by decide) (by omega)
    have pwi:((10 ^ i:Nat):Int)≤10 ^ 43:=by exact_mod_cast pw
    have pn:(0:Int)≤((10 ^ i:Nat):Int):=Int.natCast_nonneg _
    refine ⟨_,rfl,_,_,rfl,rfl,⟨b200 (by omega) (by omega),b200 (by decide) (by decide)⟩,some (.str ⟨#[ch]⟩),y7,?_,rfl⟩
    show [some (V.str z),some (V.int (p:Int)),some (V.bl true),some (V.ref t),some (V.int n),some (V.int (((10 ^ i:Nat):Int) * 10)),some (V.str ⟨#[ch]⟩),y7] = _
    rw [show ((10 ^ i:Nat):Int) * 10 = ((10 ^ (i + 1):Nat):Int) by rw [Nat.pow_succ]; push_cast; rfl]
   ·rintro σ G ⟨y6,y7,rfl,rfl⟩
    have ls:A3.cps.size = (bhd (bodyOf z.cps.toList)).length:=by rw [← pb1,Array.length_toList]
    rw [ls]
    have pw:(10:Nat) ^ (bhd (bodyOf z.cps.toList)).length≤10 ^ 43:=Nat.pow_le_pow_right (by decide) (by omega)
    have pp:0 < (10:Nat) ^ (bhd (bodyOf z.cps.toList)).length:=Nat.pow_pos (by decide)
    have pwi:(0:Int) < ((10 ^ (bhd (bodyOf z.cps.toList)).length:Nat):Int):=by exact_mod_cast pp
    obtain ⟨C0,hC⟩:∃ C0,n * 2 ^ ((p:Int)).toNat / ((10 ^ (bhd (bodyOf z.cps.toList)).length:Nat):Int) = C0:=⟨_,rfl⟩
    refine ⟨_,rfl,_,rfl,_,_,rfl,rfl,⟨by omega,by omega,b200 (by omega) (by omega)⟩,_,rfl,_,_,rfl,rfl,⟨pwi,by rw [Int.natAbs_natCast]; exact lg43 pw⟩,?_⟩
    have key:∀ M,z.cps.toList = shT p M→C0 = ((M.natAbs:Nat):Int):=fun M es=>by
     have:=h1 (by rw [es]; exact shT_dig p M)
     injection this with this
     rw [← hC,this,← count_of_shT p M,es,Int.toNat_natCast]
     push_cast
     rfl
    dsimp only
    rw [hC]
    refine ⟨_,rfl,_,rfl,iteT ⟨_,rfl,_,rfl,q (some (-C0)) G (fun z' M e l es=>?_) (fun M _=>⟨z,rfl⟩) s1⟩⟩
    injection e with e
    subst e
    have sg:=(shT_ok p M).sg
    rw [← es,en] at sg
    rw [key M es]
    rw [show -((M.natAbs:Nat):Int) = M by have:=sg.1 rfl; omega]
 | false =>
  have hb:z.cps.toList = bodyOf z.cps.toList:=by unfold bodyOf; rw [en]; rfl
  have hbl:=lz
  refine ⟨_,rfl,_,rfl,iteF ⟨_,rfl,ty_str,_,_,rfl,rfl,rfl,by omega,fun t ht=>?_⟩⟩
  obtain ⟨pw1,pb1,_⟩:=part_dot z
  rw [hb] at pw1 pb1
  have pl:=parts_len (bodyOf z.cps.toList)
  have bl:(bodyOf z.cps.toList).length≤43:=by rw [← hb,str_len]; exact hbl
  obtain ⟨G1,e1,s1,f1⟩:=newO ht (.tup [.str (Txt.partition z (Str.ofString ".")).1,.str (Txt.partition z (Str.ofString ".")).2.1,.str (Txt.partition z (Str.ofString ".")).2.2])
  rw [e1]
  generalize (Txt.partition z (Str.ofString ".")).1 = A1 at pw1 f1
  generalize (Txt.partition z (Str.ofString ".")).2.1 = A2 at f1
  generalize (Txt.partition z (Str.ofString ".")).2.2 = A3 at pb1 f1
  have l1:=str_len A1
  have l3:=str_len A3
  rw [pw1] at l1
  rw [pb1] at l3
  have e13:(A1 ++ A3:Str).cps.toList = whl (bodyOf z.cps.toList) ++ bhd (bodyOf z.cps.toList):=by rw [app_list,pw1,pb1]
  refine ⟨_,rfl,t,_,_,_,rfl,rfl,SqT.of f1,rfl,_,rfl,t,_,_,_,rfl,rfl,SqT.of f1,rfl,A1,A3,rfl,rfl,by omega,A1 ++ A3,rfl,by rw [addL]; omega,fun o h1 h2=>?_⟩
  rw [e13] at h1
  cases o with
  | none =>
   refine ⟨_,rfl,rfl,_,rfl,iteD rfl ?_⟩
   refine q none G1 (fun z' M e l es=>?_) (fun M e=>nomatch e) s1
   injection e with e
   subst e
   have:=h1 (by rw [es]; exact shT_dig p M)
   cases this
  | some n =>
   obtain ⟨n0,n1⟩:=h2 n rfl
   refine ⟨_,rfl,rfl,_,rfl,iteDN (fun z=>nomatch z) ?_⟩
   refine ⟨_,rfl,t,_,_,_,rfl,rfl,SqT.of f1,rfl,A3,rfl,for_str (z:=A3) (fun i σ G=>∃ y6 y7:Option V,σ = [some (.str z),some (.int (p:Int)),some (.bl false),some (.ref t),some (.int n),some (.int ((10 ^ i:Nat):Int)),y6,y7]∧G = G1) ⟨_,_,rfl,rfl⟩ ?_ ?_⟩
   ·rintro i ch σ G hc ⟨y6,y7,rfl,rfl⟩
    have hi:i < A3.length:=(Array.getElem?_eq_some_iff.mp hc).1
    have pw:(10:Nat) ^ i≤10 ^ 43:=Nat.pow_le_pow_right (by decide) (by omega)
    have pwi:((10 ^ i:Nat):Int)≤10 ^ 43:=by exact_mod_cast pw
    have pn:(0:Int)≤((10 ^ i:Nat):Int):=Int.natCast_nonneg _
    refine ⟨_,rfl,_,_,rfl,rfl,⟨b200 (by omega) (by omega),b200 (by decide) (by decide)⟩,some (.str ⟨#[ch]⟩),y7,?_,rfl⟩
    show [some (V.str z),some (V.int (p:Int)),some (V.bl false),some (V.ref t),some (V.int n),some (V.int (((10 ^ i:Nat):Int) * 10)),some (V.str ⟨#[ch]⟩),y7] = _
    rw [show ((10 ^ i:Nat):Int) * 10 = ((10 ^ (i + 1):Nat):Int) by rw [Nat.pow_succ]; push_cast; rfl]
   ·rintro σ G ⟨y6,y7,rfl,rfl⟩
    have ls:A3.cps.size = (bhd (bodyOf z.cps.toList)).length:=by rw [← pb1,Array.length_toList]
    rw [ls]
    have pw:(10:Nat) ^ (bhd (bodyOf z.cps.toList)).length≤10 ^ 43:=Nat.pow_le_pow_right (by decide) (by omega)
    have pp:0 < (10:Nat) ^ (bhd (bodyOf z.cps.toList)).length:=Nat.pow_pos (by decide)
    have pwi:(0:Int) < ((10 ^ (bhd (bodyOf z.cps.toList)).length:Nat):Int):=by exact_mod_cast pp
    obtain ⟨C0,hC⟩:∃ C0,n * 2 ^ ((p:Int)).toNat / ((10 ^ (bhd (bodyOf z.cps.toList)).length:Nat):Int) = C0:=⟨_,rfl⟩
    refine ⟨_,rfl,_,rfl,_,_,rfl,rfl,⟨by omega,by omega,b200 (by omega) (by omega)⟩,_,rfl,_,_,rfl,rfl,⟨pwi,by rw [Int.natAbs_natCast]; exact lg43 pw⟩,?_⟩
    have key:∀ M,z.cps.toList = shT p M→C0 = ((M.natAbs:Nat):Int):=fun M es=>by
     have:=h1 (by rw [es]; exact shT_dig p M)
     injection this with this
     rw [← hC,this,← count_of_shT p M,es,Int.toNat_natCast]
     push_cast
     rfl
    dsimp only
    rw [hC]
    refine ⟨_,rfl,_,rfl,iteF ⟨_,rfl,q (some C0) G (fun z' M e l es=>?_) (fun M _=>⟨z,rfl⟩) s1⟩⟩
    injection e with e
    subst e
    have sg:=(shT_ok p M).sg
    rw [← es,en] at sg
    rw [key M es]
    rw [show ((M.natAbs:Nat):Int) = M by have:=sg.2 rfl; omega]
def isB:V→Bool
 | .bl _=>true
 | _=>false
theorem kit_str_bl (K:PySem.W.Frag):PySem.W.kitOne K (.type "str") (.type "bool") = some false:=by with_unfolding_all rfl
theorem kit_non_bl (K:PySem.W.Frag):PySem.W.kitOne K (.type "NoneType") (.type "bool") = some false:=by with_unfolding_all rfl
theorem kit_lst_bl (K:PySem.W.Frag):PySem.W.kitOne K (.type "list") (.type "bool") = some false:=by with_unfolding_all rfl
theorem kit_tup_bl (K:PySem.W.Frag):PySem.W.kitOne K (.type "tuple") (.type "bool") = some false:=by with_unfolding_all rfl
theorem kit_dct_bl (K:PySem.W.Frag):PySem.W.kitOne K (.type "dict") (.type "bool") = some false:=by with_unfolding_all rfl
theorem Th.isbl {K:PySem.W.Frag} {H:Hp} {x:V} (t:Th H x):∃ ty,TyOf K H x ty∧PySem.W.kitOne K ty (.type "bool") = some (isB x):=by
 cases t with
 | int i=>exact ⟨_,TyOf.int _,kit_int_bool _⟩
 | bl b=>exact ⟨_,TyOf.bl _,kit_bl_bl _⟩
 | str x=>exact ⟨_,TyOf.str _,kit_str_bl _⟩
 | non=>exact ⟨_,TyOf.non,kit_non_bl _⟩
 | lst h=>exact ⟨_,TyOf.lst h,kit_lst_bl _⟩
 | tup h=>exact ⟨_,TyOf.tup h,kit_tup_bl _⟩
 | dct h=>exact ⟨_,TyOf.dK h,kit_dct_bl _⟩
theorem Th.eqd {K:PySem.W.Frag} {H:Hp} {x:V} (t:Th H x):EqD K H 0 x x true:=by
 have fl:∀ v:V,flatV v = true→eqV v v = true→EqD K H 0 v v true:=fun v h1 h2=>by
  have:=EqD.flat (K:=K) (H:=H) (d:=0) (x:=v) (y:=v) h1 h1
  rwa [h2] at this
 cases t with
 | int i=>exact fl _ rfl (by simp [eqV])
 | bl b=>exact fl _ rfl (by simp [eqV])
 | str x=>exact fl _ rfl (by simp [eqV])
 | non=>exact fl _ rfl rfl
 | lst h=>exact EqD.same
 | tup h=>exact EqD.same
 | dct h=>exact EqD.same
theorem atI_ex {α:Type} {xs:List α} {k:Int} (h0:0≤k) (h1:k < xs.length):∃ c,atI xs k = some c:=by
 have e:xs[k.toNat]? = some (xs[k.toNat]'(by omega)):=List.getElem?_eq_getElem _
 have:=atI_nat e
 rw [show ((k.toNat:Nat):Int) = k by omega] at this
 exact ⟨_,this⟩
theorem SameX.new {H H':Hp} {p l:Addr} (s:SameX p H H') (b:Box H' p) (h:H' l = none):H l = none:=by
 cases e:H l with
 | none=>rfl
 | some o =>
  by_cases z:l = p
  ·obtain ⟨u1,u2,u3,hb⟩:=b
   rw [z,hb] at h; cases h
  ·rw [s l o z e] at h; cases h
def figB (l:List Nat):Bool:=!l.isEmpty && l.all fun c=>decide (48≤c∧c≤57)
theorem figB_iff (l:List Nat):figB l = true ↔ PySem.NumText.AllDigits l∧l ≠ []:=by
 unfold figB
 rw [Bool.and_eq_true,List.all_eq_true]
 constructor
 ·rintro ⟨h1,h2⟩
  exact ⟨fun c hc=>of_decide_eq_true (h2 c hc),fun e=>by rw [e] at h1; cases h1⟩
 ·rintro ⟨h1,h2⟩
  exact ⟨by cases l with | nil=>exact absurd rfl h2 | cons a r=>rfl,fun c hc=>decide_eq_true (h1 c hc)⟩
theorem notin_dig (ch:Nat):(!(!(Builtin.Str.occurrences (Str.ofString "0123456789") ⟨#[ch]⟩ 0 (Str.ofString "0123456789").length 1).isEmpty)) = !decide (48≤ch∧ch≤57):=by
 have f:=PySem.StrLaws.found_one (Str.ofString "0123456789") ch
 rw [f]
 congr 1
 by_cases c:48≤ch∧ch≤57
 ·have a:∀ d ∈ List.range 58,48≤d→d ∈ (Str.ofString "0123456789").cps.toList:=by decide +kernel
  rw [decide_eq_true c,decide_eq_true (a ch (List.mem_range.mpr (by omega)) c.1)]
 ·have a:∀ d ∈ (Str.ofString "0123456789").cps.toList,48≤d∧d≤57:=by decide +kernel
  rw [decide_eq_false c,decide_eq_false (fun m=>c (a ch m))]
def spFigs:Sp:=fun vs H Q _=>∃ z:Str,vs = [.str z]∧z.length≤1000∧Q (.bl (figB z.cps.toList)) H
noncomputable def toldK (kd:Nat) (w:Int) (p:Nat) (x:V):List V:=match tv kd w p x with
 | some v=>[.str "word",.int v]
 | none=>[.str "refused",x,.bl true]
def spLRead:Sp:=fun vs H Q _=>∃ (t:Addr) (kd:Nat) (w:Int) (p:Nat) (z:Str),vs = [.ref t,.str z]∧Spc H t kd w (p:Int)∧z.length≤90∧∀ H',Same H H'→Q (oV (tv kd w p (.str z))) H'
def spTold (c:Ad):Sp:=fun vs H Q _=>∃ (kd:Nat) (x:Addr) (w:Int) (p:Nat) (t:V),vs = [.ref x,t]∧kd < 3∧KO c H x kd w (p:Int)∧4≤w∧w≤32∧p≤31∧Th H t∧shortT t∧∀ r H',H r = none→H' r = some (.tup (toldK kd w p t))→Same H H'→Q (.ref r) H'
def spDue:Sp:=fun vs H Q _=>∃ (t:Addr) (kd:Nat) (w:Int) (p:Nat) (z:Str),vs = [.ref t,.str z]∧Spc H t kd w (p:Int)∧z.length≤90∧∀ r H',H r = none→H' r = some (.tup (toldK kd w p (.str z)))→Same H H'→Q (.ref r) H'
def spSm:Sp:=fun vs H Q _=>∃ (p q:Addr) (s:Str) (x:V) (r:List V),vs = [.ref p,.ref q]∧H p = some (.tup (.str s :: x :: r))∧H q = some (.tup (.str s :: x :: r))∧Th H x∧(r = []∨r = [.bl true])∧Q (.bl true) H
def spChg:Sp:=fun vs H Q _=>∃ (p:Addr) (z o:Str),vs = [.ref p,.str z,.str o]∧Box H p∧z.length≤43∧o.length≤43∧∀ l (ys:List Str) H',H l = none→H' l = some (.lst (ys.map V.str))→(∀ y ∈ ys,y.length≤90)→Box H' p→SameX p H H'→Q (.ref l) H'
def spWR (c:Ad):Sp:=fun vs H Q _=>∃ (b x t:Addr) (kd:Nat) (w:Int) (p:Nat) (n:Int),vs = [.ref b,.ref x,.ref t,.int n]∧Box H b∧KO c H x kd w (p:Int)∧Spc H t kd w (p:Int)∧0≤n∧n < 2 ^ w.toNat∧∀ H',Box H' b→SameX b H H'→Q (.bl true) H'
theorem Spc.p31 {H:Hp} {t:Addr} {kd:Nat} {w:Int} {p:Nat} (h:Spc H t kd w (p:Int)):p≤31:=by
 obtain ⟨_,_,h1,h2,a,b⟩:=h
 by_cases k:kd = 2
 ·have:=a k; omega
 ·have:=b k; omega
theorem ok__law_are_figures {f:Addr} {fd:FuncData} (F:Fun K "_law_are_figures" "_law_are_figures" s__law_are_figures f fd) (T:Txt K mg c) :FnOk P w K mg base CX0 1 f fd ["_law_text"] spFigs:=by
 refine F.ok sc__law_are_figures (fun vs H Q E h=>?_) (fun cdv A outer s H vs Q E hr h=>?_)
 ·obtain ⟨z,rfl,_⟩:=h
  rfl
 obtain ⟨z,rfl,hz,q⟩:=h
 refine ⟨_,(pss_cons (ps_if (pt_cmpR op_eq (pv 0) pe_str (nomark _))
   (pss_one (ps_ret pe_bl))
   pss_nil)
  (pss_cons (ps_for PassesOwn.never rfl (pi_str (pv 0)) (pg_name (i:=1) sc__law_are_figures.nd rfl (Or.inl rfl))
   (pss_one (ps_if (pt_cmpR op_notin_str (pv 1) pe_str (by with_unfolding_all rfl))
    (pss_one (ps_ret pe_bl))
    pss_nil)))
  (pss_one (ps_ret pe_bl)))),?_⟩
 refine ⟨_,rfl,rfl,_,rfl,?_⟩
 by_cases c0:z = Str.ofString ""
 ·subst c0
  exact iteD rfl q
 ·refine iteDN (fun h=>c0 (by injection h)) ?_
  have ne:z.cps.toList ≠ []:=fun h=>c0 (str_ext (h.trans rfl))
  refine ⟨_,rfl,z,rfl,for_str (z:=z) (fun i σ G=>∃ (y1:Option V),σ = [some (.str z),y1]∧G = H∧PySem.NumText.AllDigits (z.cps.toList.take i)) ⟨_,rfl,rfl,(fun _ h=>nomatch h)⟩ ?_ ?_⟩
  ·rintro i ch σ G hc ⟨y1,rfl,rfl,ad⟩
   have hc':z.cps.toList[i]? = some ch:=by rw [Array.getElem?_toList]; exact hc
   have tk:=take_snoc hc'
   have mem:ch ∈ z.cps.toList:=List.mem_of_getElem? hc'
   refine ⟨_,rfl,_,_,rfl,rfl,_,rfl,?_⟩
   rw [show ("0123456789":Str) = Str.ofString "0123456789" from rfl,notin_dig]
   by_cases c1:48≤ch∧ch≤57
   ·rw [decide_eq_true c1]
    refine iteF ⟨_,rfl,rfl,?_⟩
    rw [tk]
    intro d hd
    rcases List.mem_append.mp hd with hd | hd
    ·exact ad d hd
    ·rw [List.mem_singleton.mp hd]; exact c1
   ·rw [decide_eq_false c1]
    refine iteT ?_
    have:figB z.cps.toList = false:=by
     rw [Bool.eq_false_iff]
     intro h
     exact c1 (((figB_iff _).mp h).1 ch mem)
    rw [this] at q
    exact q
  ·rintro σ G ⟨y1,rfl,rfl,ad⟩
   rw [show z.cps.toList.take z.cps.size = z.cps.toList by rw [← Array.length_toList,List.take_length]] at ad
   rw [(figB_iff _).mpr ⟨ad,ne⟩] at q
   exact q
theorem ok__law_told {f:Addr} {fd:FuncData} (F:Fun K "_law_told" "_law_told" s__law_told f fd) (T:Txt K mg c)  (MR:∀ i,i < 3→MHasY P w K mg base 6 (cOf c i) "read" ["self", "text"] (spRead c)):FnOk P w K mg base CX0 7 f fd ["_law_kind_here", "_law_thing"] (spTold c):=by
 refine F.ok sc__law_told (fun vs H Q E h=>?_) (fun cdv A outer s H vs Q E hr h=>?_)
 ·obtain ⟨kd,x,w0,p,t,rfl,_⟩:=h
  rfl
 obtain ⟨kd,x,w0,p,t,rfl,hk,ko,h1,h2,hp,th,sh,q⟩:=h
 refine ⟨_,(pss_cons (ps_set (i:=2) sc__law_told.nd rfl (Or.inl rfl) pe_non)
  (pss_cons (ps_tryY (j:=3) (fun pins E=>(pss_one (ps_set (i:=2) sc__law_told.nd rfl (Or.inl rfl) (pe_tup (pa_cons pe_str (pa_cons (pe_methYT (k:=6) (pv 0) (hr.mono (by omega)) (pa_cons (pv 1) pa_nil)) pa_nil)))))) sc__law_told.nd rfl T.g_NoText rfl rfl (fun a oe=>(pss_one (ps_set (i:=2) sc__law_told.nd rfl (Or.inl rfl) (pe_tup (pa_cons pe_str (pa_cons (pe_xf (a:=a) (oe:=oe) (List.mem_cons_self ..) (pv 3) rfl) (pa_cons (pe_callB (call_isinstX (a:=a) (oe:=oe) (List.mem_cons_self ..)) rfl T.n_isinstance boot_isinstance (pa_cons (pv 3) (pa_cons (pe_cls rfl T.g_WiseError) pa_nil))) pa_nil))))))))
  (pss_one (ps_ret (pv 2))))),?_⟩
 obtain ⟨dx,hx⟩:=id ko
 have exf:ExF K c.NoText:=⟨T.kf_ga,T.kf_gn,T.kf_gc,T.kf_mo,T.kf_mb⟩
 have ex1:PySem.W.exmOne K (.ref c.NoText) (.ref c.NoText) = some true:=exm_of T.kf_if_ T.kf_tf T.kf_mf T.kf_wb
 refine ⟨_,rfl,x,_,dx,_,_,_,rfl,hx,rfl,MR kd hk,_,rfl,kd,x,w0,p,t,rfl,hk,ko,h1,h2,hp,th,sh,fun v H1 ev s1=>⟨sz2,fun r hr'=>?_⟩,fun en d H1 hd s1=>⟨ex1,fun ea oe hcl hdi hnc hea=>?_⟩⟩
 ·refine ⟨_,rfl,q r _ (Same.none s1 hr') ?_ (s1.trans (same_new hr' _))⟩
  unfold toldK
  rw [ev,upd_same]
 ·refine ⟨_,rfl,c.NoText,d,_,_,rfl,hcl,hdi,hnc,exf,T.kf_hd,T.kf_nf,hd,rfl,_,rfl,c.NoText,_,_,_,rfl,hcl,exf,rfl,kit_of T.kf_wc T.kf_wt T.kf_wm,(by show 3≤sizeLine; decide),fun r hr'=>?_⟩
  refine ⟨_,rfl,q r _ (Same.none s1 hr') ?_ (s1.trans (same_new hr' _))⟩
  unfold toldK
  rw [en,upd_same]
theorem ok__law_same {f:Addr} {fd:FuncData} (F:Fun K "_law_same" "_law_same" s__law_same f fd) (T:Txt K mg c) :FnOk P w K mg base CX0 1 f fd ["_law_found", "_law_due_here"] spSm:=by
 refine F.ok sc__law_same (fun vs H Q E h=>?_) (fun cdv A outer s H vs Q E hr h=>?_)
 ·obtain ⟨p,q,t,x,r,rfl,_⟩:=h
  rfl
 obtain ⟨p,q',t,x,r,rfl,hp,hq,th,rr,q⟩:=h
 refine ⟨_,(pss_one (ps_ret (pe_and (pe_cmpR (op_eqTD (d:=0) (hu_of hr)) (pv 0) (pv 1) (nomark _)) (pe_one (pe_cmpR op_eq (pe_callB call_isinst rfl T.n_isinstance boot_isinstance (pa_cons (pe_ix ix_tup (pv 0) pe_int (fun _ _=>rfl)) (pa_cons (pe_ty rfl T.n_bool boot_bool) pa_nil))) (pe_callB call_isinst rfl T.n_isinstance boot_isinstance (pa_cons (pe_ix ix_tup (pv 1) pe_int (fun _ _=>rfl)) (pa_cons (pe_ty rfl T.n_bool boot_bool) pa_nil))) (nomark _)))))),?_⟩
 obtain ⟨ty,t1,t2⟩:=th.isbl (K:=K)
 refine ⟨_,rfl,_,rfl,p,q',_,_,fun _=>true,rfl,rfl,SqT.of hp,SqT.of hq,fun j j1 j2=>?_,_,rfl,?_⟩
 ·rcases rr with rfl | rfl
  ·have:j < 2:=j1
   rcases (by omega:j = 0∨j = 1) with rfl | rfl
   ·exact (Th.str t).eqd
   ·exact th.eqd
  ·have:j < 3:=j1
   rcases (by omega:j = 0∨j = 1∨j = 2) with rfl | rfl | rfl
   ·exact (Th.str t).eqd
   ·exact th.eqd
   ·exact (Th.bl true).eqd
 rcases rr with rfl | rfl
 all_goals
  refine iteT ?_
  refine ⟨_,rfl,p,_,_,_,rfl,rfl,SqT.of hp,rfl,_,_,ty,_,_,rfl,rfl,t1,t2,_,rfl,q',_,_,_,rfl,rfl,SqT.of hq,rfl,_,_,ty,_,_,rfl,rfl,t1,t2,?_⟩
  refine ⟨by cases isB x <;> rfl,?_⟩
  rw [decide_eq_true rfl]
  exact q
theorem ok__law_due {f:Addr} {fd:FuncData} (F:Fun K "_law_due" "_law_due" s__law_due f fd) (T:Txt K mg c) (H__law_read:Has P w K mg base 2 "_law_read" ["_law_spec_here", "_law_text"] spLRead):FnOk P w K mg base CX0 3 f fd ["_law_spec_here", "_law_text"] spDue:=by
 refine F.ok sc__law_due (fun vs H Q E h=>?_) (fun cdv A outer s H vs Q E hr h=>?_)
 ·obtain ⟨t,kd,w0,p,z,rfl,_⟩:=h
  rfl
 obtain ⟨t,kd,w0,p,z,rfl,spc,hz,q⟩:=h
 refine ⟨_,(pss_cons (ps_set (i:=2) sc__law_due.nd rfl (Or.inl rfl) (pe_fn H__law_read (hr.mono (by omega)) rfl (pa_cons (pv 0) (pa_cons (pv 1) pa_nil))))
  (pss_cons (ps_if (pt_cmpR op_isN (pv 2) pe_non (nomark _))
   (pss_one (ps_ret (pe_tup (pa_cons pe_str (pa_cons (pv 1) (pa_cons pe_bl pa_nil))))))
   pss_nil)
  (pss_one (ps_ret (pe_tup (pa_cons pe_str (pa_cons (pv 2) pa_nil))))))),?_⟩
 refine ⟨_,rfl,_,rfl,t,kd,w0,p,z,rfl,spc,hz,fun H1 s1=>?_⟩
 unfold toldK at q
 cases et:tv kd w0 p (.str z) with
 | some v =>
  rw [et] at q
  exact ⟨_,rfl,rfl,_,rfl,iteDN (fun z=>by cases z) ⟨_,rfl,sz2,fun r hr'=>q r _ (Same.none s1 hr') upd_same (s1.trans (same_new hr' _))⟩⟩
 | none =>
  rw [et] at q
  exact ⟨_,rfl,rfl,_,rfl,iteD rfl ⟨_,rfl,(by show 3≤sizeLine; decide),fun r hr'=>q r _ (Same.none s1 hr') upd_same (s1.trans (same_new hr' _))⟩⟩
theorem head_slice (z:Str):Txt.slice z none (some 1) = Str.ofString "-" ↔ negOf z.cps.toList = true:=by
 by_cases h:z.length = 0
 ·have e:z = ⟨#[]⟩:=str_ext (List.length_eq_zero_iff.mp (by rw [str_len]; exact h))
  subst e
  exact ⟨fun h=>absurd h (by decide),fun h=>nomatch h⟩
 ·have e:(Txt.slice z none (some 1)).cps.toList = z.cps.toList.take 1:=by
   have h':(0:Int)≤1∧(1:Int)≤z.cps.toList.length:=⟨by decide,by rw [str_len]; omega⟩
   show (PySem.StrLaws.sliceText z none (some 1)).cps.toList = _
   rw [PySem.StrLaws.sliceText_to h']
   simp
  have hl:=str_len z
  unfold negOf
  generalize z.cps.toList = l at *
  cases l with
  | nil=>exact absurd hl.symm h
  | cons a r =>
   constructor
   ·intro he
    rw [he] at e
    have:([45]:List Nat) = [a]:=e
    injection this with this
    rw [← this]
    rfl
   ·intro hn
    have:a = 45:=by simpa using hn
    apply str_ext
    rw [e,this]
    rfl
theorem last_at {l:List Nat} (h:l ≠ []):∃ c,atI l (-1) = some c∧l.getLast? = some c:=by
 have hp:0 < l.length:=List.length_pos_iff.mpr h
 refine ⟨l[l.length - 1],?_,?_⟩
 ·unfold atI ixN
  rw [if_neg (by decide),if_pos (by omega)]
  show l[((-1:Int) + l.length).toNat]? = _
  rw [show ((-1:Int) + l.length).toNat = l.length - 1 by omega,List.getElem?_eq_getElem (by omega)]
 ·rw [List.getLast?_eq_getElem?,List.getElem?_eq_getElem (by omega)]
theorem one_eq {a b:Nat}:(V.str ⟨#[a]⟩ = V.str ⟨#[b]⟩) ↔ a = b:=by
 constructor
 ·intro h
  injection h with h
  injection h with h
  have:=congrArg Array.toList h
  injection this
 ·rintro rfl; rfl
theorem b360 {D:Nat} (h:D < 10 ^ 90):intBits (D:Int)≤100000:=by
 have g:D < 2 ^ (4 * 90):=by
  rw [Nat.pow_mul]
  exact Nat.lt_of_lt_of_le h (Nat.pow_le_pow_left (by decide) 90)
 exact Nat.le_trans (intBits_le_iff.mpr (by rw [Int.natAbs_natCast]; exact g)) (show 4 * 90≤100000 by decide)
theorem ok__law_read {f:Addr} {fd:FuncData} (F:Fun K "_law_read" "_law_read" s__law_read f fd) (T:Txt K mg c) (H__law_ends:Has P w K mg base 1 "_law_ends" ["_law_spec_here"] spEnds) (H__law_are_figures:Has P w K mg base 1 "_law_are_figures" ["_law_text"] spFigs):FnOk P w K mg base CX0 2 f fd ["_law_spec_here", "_law_text"] spLRead:=by
 refine F.ok sc__law_read (fun vs H Q E h=>?_) (fun cdv A outer s H vs Q E hr h=>?_)
 ·obtain ⟨t,kd,w0,p,z,rfl,_⟩:=h
  rfl
 obtain ⟨t,kd,w0,p,z,rfl,spc,hz,q⟩:=h
 refine ⟨_,(pss_cons (ps_set (i:=2) sc__law_read.nd rfl (Or.inl rfl) (pv 1))
  (pss_join (ps_if (pt_cmpR op_eq (pe_slice sl_str (pv 1) po_none (po_some pe_int)) pe_str (nomark _))
   (pss_one (ps_set (i:=2) sc__law_read.nd rfl (Or.inl rfl) (pe_slice sl_str (pv 1) (po_some pe_int) po_none)))
   pss_nil)
  (pss_cons (ps_asg (pe_bm PySem.F.plainAttrs_str PySem.F.slot_str_partition PySem.F.type_str_partition mt_part (pv 2) (pa_cons pe_str pa_nil)) (pg_tup rfl (pgs_cons (pg_name (i:=3) sc__law_read.nd rfl (Or.inl rfl)) (pgs_cons (pg_name (i:=4) sc__law_read.nd rfl (Or.inl rfl)) (pgs_cons (pg_name (i:=5) sc__law_read.nd rfl (Or.inl rfl)) pgs_nil)))))
  (pss_join (ps_if (PW.pt (pw_or (pt_not (pt_val (pe_fn H__law_are_figures (hr.mono (by omega)) rfl (pa_cons (pv 3) pa_nil)))) (pw_or1 (PW.pt (pw_and (pt_cmpR op_eq (pe_ix ix_str (pv 3) pe_int (fun _ _=>rfl)) pe_str (nomark _)) (pw_and1 (pt_cmpR op_gt (pe_callB call_len_str rfl T.n_len boot_len (pa_cons (pv 3) pa_nil)) pe_int (nomark _))))))))
   (pss_one (ps_ret pe_non))
   pss_nil)
  (pss_join (ps_if (PW.pt (pw_and (pt_cmpR op_ne (pv 4) pe_str (nomark _)) (pw_and1 (PW.pt (pw_or (pt_not (pt_val (pe_fn H__law_are_figures (hr.mono (by omega)) rfl (pa_cons (pv 5) pa_nil)))) (pw_or1 (pt_cmpR op_eq (pe_ix ix_str (pv 5) (pe_un un_neg pe_int) (fun _ _=>rfl)) pe_str (nomark _))))))))
   (pss_one (ps_ret pe_non))
   pss_nil)
  (pss_cons (ps_set (i:=6) sc__law_read.nd rfl (Or.inl rfl) (pe_op op_shlB (pe_callTy call_int_txt rfl T.n_int boot_int (pa_cons (pe_op op_add_str (pv 3) (pv 5)) pa_nil)) (pe_ix ix_tup (pv 0) pe_int (fun _ _=>rfl))))
  (pss_cons (ps_for PassesOwn.never rfl (pi_str (pv 5)) (pg_name (i:=7) sc__law_read.nd rfl (Or.inl rfl))
   (pss_cons (ps_if (pt_cmpR op_ne (pe_op op_mod (pv 6) pe_int) pe_int (nomark _))
    (pss_one (ps_ret pe_non))
    pss_nil)
   (pss_one (ps_set (i:=6) sc__law_read.nd rfl (Or.inl rfl) (pe_op op_fdivB (pv 6) pe_int)))))
  (pss_join (ps_if (pt_cmpR op_ne (pv 2) (pv 1) (nomark _))
   (pss_one (ps_set (i:=6) sc__law_read.nd rfl (Or.inl rfl) (pe_op op_sub pe_int (pv 6))))
   pss_nil)
  (pss_cons (ps_set (i:=8) sc__law_read.nd rfl (Or.inl rfl) (pe_fn H__law_ends (hr.mono (by omega)) rfl (pa_cons (pv 0) pa_nil)))
  (pss_cons (ps_if (PW.pt (pw_or (pt_not (pt_chain op_le op_le (pe_ix ix_tup (pv 8) pe_int (fun _ _=>rfl)) (pv 6) (pe_ix ix_tup (pv 8) pe_int (fun _ _=>rfl)))) (pw_or1 (PW.pt (pw_and (pt_cmpR op_eq (pv 6) pe_int (nomark _)) (pw_and1 (pt_cmpR op_ne (pv 2) (pv 1) (nomark _))))))))
   (pss_one (ps_ret pe_non))
   pss_nil)
  (pss_one (ps_ret (pe_op op_mod (pv 6) (pe_op op_shlB pe_int (pe_ix ix_tup (pv 0) pe_int (fun _ _=>rfl)))))))))))))))),?_⟩
 have L1000:(1000:Nat)≤sizeLine:=by decide
 have hp:=spc.p31
 obtain ⟨w1,w2⟩:4≤w0∧w0≤32:=⟨spc.2.2.1,spc.2.2.2.1⟩
 have no:(∀ M,LOk p z.cps.toList M→rng kd w0 M→False)→∀ H',Same H H'→Q .non H':=fun h H' s'=>by
  have e:tv kd w0 p (.str z) = none:=tv_none fun M r e=>h M (by rw [e]; exact shT_ok p M) r
  have:=q H' s'
  rw [e] at this
  exact this
 have yes:∀ M,LOk p z.cps.toList M→rng kd w0 M→∀ H',Same H H'→Q (.int (M % (1 * 2 ^ w0.toNat))) H':=fun M l r H' s'=>by
  have:=q H' s'
  rw [tv_some r l.shown] at this
  exact this
 clear q
 refine ⟨_,rfl,fun σ G=>∃ bt:Str,σ = [some (.ref t),some (.str z),some (.str bt),none,none,none,none,none,none]∧G = H∧bt.cps.toList = bodyOf z.cps.toList∧bt.length≤90∧(negOf z.cps.toList = true→bt ≠ z)∧(negOf z.cps.toList = false→bt = z),?_,?_⟩
 ·refine ⟨_,rfl,_,rfl,z,rfl,by omega,rfl,_,rfl,?_⟩
  cases en:negOf z.cps.toList with
  | true =>
   have z1:1≤z.length:=by
    rw [← str_len]
    cases e:z.cps.toList with
    | nil=>rw [e] at en; cases en
    | cons a r=>exact Nat.succ_le_succ (Nat.zero_le _)
   refine iteD (congrArg V.str ((head_slice z).mpr en)) ⟨_,rfl,_,rfl,z,rfl,by omega,_,rfl,rfl,?_,Nat.le_trans (Txt.slice_le z _ _) hz,fun _ e=>?_,fun z=>nomatch z⟩
   ·rw [tail_slice z1]; unfold bodyOf; rw [en]; rfl
   ·have:=congrArg (fun s:Str=>s.cps.toList.length) e
    rw [tail_slice z1,List.length_tail,str_len] at this
    omega
  | false =>
   refine iteDN (fun h=>?_) ⟨z,rfl,rfl,by unfold bodyOf; rw [en]; rfl,hz,(fun z=>nomatch z),fun _=>rfl⟩
   injection h with h
   rw [(head_slice z).mp h] at en
   cases en
 rintro σ G ⟨bt,rfl,rfl,hb,bl50,neq1,neq2⟩
 refine ⟨_,rfl,ty_str,_,_,rfl,rfl,rfl,by omega,fun tt ht=>?_⟩
 obtain ⟨pw1,pb1,pd⟩:=part_dot bt
 rw [hb] at pw1 pb1 pd
 have pl:=parts_len (bodyOf z.cps.toList)
 have bl:(bodyOf z.cps.toList).length≤90:=by rw [← hb,str_len]; exact bl50
 obtain ⟨G1,e1,s1,f1⟩:=newO ht (.tup [.str (Txt.partition bt (Str.ofString ".")).1,.str (Txt.partition bt (Str.ofString ".")).2.1,.str (Txt.partition bt (Str.ofString ".")).2.2])
 rw [e1]
 generalize (Txt.partition bt (Str.ofString ".")).1 = A1 at pw1 f1
 generalize (Txt.partition bt (Str.ofString ".")).2.1 = A2 at f1 pd
 generalize (Txt.partition bt (Str.ofString ".")).2.2 = A3 at pb1 f1
 have l1:=str_len A1
 have l3:=str_len A3
 rw [pw1] at l1
 rw [pb1] at l3
 have e13:(A1 ++ A3:Str).cps.toList = whl (bodyOf z.cps.toList) ++ bhd (bodyOf z.cps.toList):=by rw [app_list,pw1,pb1]
 refine ⟨tt,_,rfl,SqT.of f1,rfl,_,_,rfl,_,_,rfl,_,_,rfl,rfl,?_⟩
 have ht1:G1 t = some (.tup [.str (wd kd),.int w0,.int (p:Int)]):=s1 _ _ spc.1
 refine ⟨fun σ G=>σ = [some (.ref t),some (.str z),some (.str bt),some (.str A1),some (.str A2),some (.str A3),none,none,none]∧G = G1∧Canon (whl (bodyOf z.cps.toList)),?_,?_⟩
 ·refine ⟨_,rfl,A1,rfl,by omega,_,rfl,?_⟩
  rw [pw1]
  cases hW:figB (whl (bodyOf z.cps.toList)) with
  | false =>
   refine iteT (no (fun M l r=>?_) _ s1)
   rw [(figB_iff _).mpr ⟨l.canon.dig,l.canon.ne⟩] at hW
   cases hW
  | true =>
  obtain ⟨wd1,wne⟩:=(figB_iff _).mp hW
  refine iteF ?_
  obtain ⟨w00,wr0,ew⟩:∃ a r,whl (bodyOf z.cps.toList) = a :: r:=by
   cases e:whl (bodyOf z.cps.toList) with
   | nil=>exact absurd e wne
   | cons a r=>exact ⟨a,r,rfl⟩
  have hc0:atI A1.cps.toList 0 = some w00:=by rw [pw1,ew]; exact atI_nat (j:=0) rfl
  have hd:(whl (bodyOf z.cps.toList)).head? = some w00:=by rw [ew]; rfl
  refine ⟨_,rfl,A1,0,w00,rfl,rfl,by omega,hc0,rfl,_,rfl,?_⟩
  by_cases c48:w00 = 48
  ·subst c48
   refine iteD rfl ⟨_,rfl,A1,rfl,by omega,_,_,rfl,rfl,_,rfl,iteC (fun cl=>?_) (fun cl=>?_)⟩
   ·refine no (fun M l r=>?_) _ s1
    have:=l.canon.lead hd
    omega
   ·exact ⟨rfl,rfl,wd1,wne,fun _=>by have:=List.length_pos_iff.mpr wne; omega⟩
  ·exact iteDN (fun h=>c48 (one_eq.mp h)) ⟨rfl,rfl,wd1,wne,fun h=>absurd (Option.some.inj (hd.symm.trans h)) c48⟩
 rintro σ G ⟨rfl,rfl,can⟩
 refine ⟨fun σ G'=>σ = [some (.ref t),some (.str z),some (.str bt),some (.str A1),some (.str A2),some (.str A3),none,none,none]∧G' = G∧PySem.NumText.AllDigits (bhd (bodyOf z.cps.toList))∧(46 ∈ bodyOf z.cps.toList→PySem.NumText.AllDigits (bhd (bodyOf z.cps.toList))∧bhd (bodyOf z.cps.toList) ≠ []∧(bhd (bodyOf z.cps.toList)).getLast? ≠ some 48),?_,?_⟩
 ·refine ⟨_,rfl,rfl,_,rfl,?_⟩
  rcases pd with ⟨md,rfl⟩ | ⟨md,rfl⟩
  ·refine iteN (fun z=>by cases z) ⟨_,rfl,A3,rfl,by omega,_,rfl,?_⟩
   rw [pb1]
   cases hB:figB (bhd (bodyOf z.cps.toList)) with
   | false =>
    refine iteT (no (fun M l r=>?_) _ s1)
    have lb:=l.beh md
    rw [(figB_iff _).mpr ⟨lb.1,lb.2.1⟩] at hB
    cases hB
   | true =>
   obtain ⟨bd,bne⟩:=(figB_iff _).mp hB
   obtain ⟨lc,la,lb⟩:=last_at bne
   refine iteF ⟨_,rfl,_,rfl,A3,-1,lc,rfl,rfl,by omega,by rw [pb1]; exact la,rfl,_,rfl,?_⟩
   by_cases c48:lc = 48
   ·subst c48
    exact iteD rfl (no (fun M l r=>(l.beh md).2.2 lb) _ s1)
   ·exact iteDN (fun h=>c48 (one_eq.mp h)) ⟨rfl,rfl,bd,fun _=>⟨bd,bne,fun h=>c48 (Option.some.inj (lb.symm.trans h))⟩⟩
  ·refine iteNS rfl ⟨rfl,rfl,?_,fun m=>absurd m md⟩
   rw [((whl_bhd _).2 md).2]
   exact fun _ h=>nomatch h
 rintro σ G' ⟨rfl,rfl,bdig,beh⟩
 have adW:PySem.NumText.AllDigits (whl (bodyOf z.cps.toList) ++ bhd (bodyOf z.cps.toList)):=fun d hd=>by
  rcases List.mem_append.mp hd with hd | hd
  ·exact can.dig d hd
  ·exact bdig d hd
 have dvl:=dv_lt adW
 obtain ⟨D,hD⟩:∃ D,PySem.NumText.digitsVal (whl (bodyOf z.cps.toList) ++ bhd (bodyOf z.cps.toList)) = D:=⟨_,rfl⟩
 have D50:D < 10 ^ 90:=by
  rw [hD] at dvl
  exact Nat.lt_of_lt_of_le dvl (Nat.pow_le_pow_right (by decide) (by rw [List.length_append]; omega))
 have it:intText? (A1 ++ A3) = some ((D:Nat):Int):=by
  rw [PySem.intText_digits (by rw [e13]; exact adW) (by rw [e13]; exact fun h=>can.ne (List.append_eq_nil_iff.mp h).1) (by rw [addL]; omega),e13,hD]
 refine ⟨_,rfl,_,rfl,A1,A3,rfl,rfl,by omega,A1 ++ A3,_,rfl,by rw [addL]; omega,it,_,rfl,t,_,_,_,rfl,rfl,SqT.of ht1,rfl,_,_,rfl,rfl,⟨by omega,by omega,b360 D50⟩,?_⟩
 have ls:A3.cps.size = (bhd (bodyOf z.cps.toList)).length:=by rw [← pb1,Array.length_toList]
 have eN:((D:Nat):Int) * 2 ^ ((p:Int)).toNat = ((D * 2 ^ p:Nat):Int):=by rw [Int.toNat_natCast]; push_cast; rfl
 have lex:∀ {M},LOk p z.cps.toList M→D * 2 ^ p = M.natAbs * 10 ^ (bhd (bodyOf z.cps.toList)).length:=fun l=>by rw [← hD]; exact l.ex
 refine ⟨_,rfl,A3,rfl,for_str (z:=A3) (fun i σ G=>∃ (n:Nat) (y7:Option V),σ = [some (.ref t),some (.str z),some (.str bt),some (.str A1),some (.str A2),some (.str A3),some (.int (n:Int)),y7,none]∧G = G'∧D * 2 ^ p = n * 10 ^ i) ⟨D * 2 ^ p,none,by rw [← eN]; rfl,rfl,by rw [Nat.pow_zero,Nat.mul_one]⟩ ?_ ?_⟩
 ·rintro i ch σ G hc ⟨n,y7,rfl,rfl,en⟩
  have hi:i < (bhd (bodyOf z.cps.toList)).length:=by rw [← ls]; exact (Array.getElem?_eq_some_iff.mp hc).1
  refine ⟨_,rfl,_,_,rfl,rfl,(by show (0:Int) < 10; decide),rfl,_,rfl,?_⟩
  by_cases c0:n % 10 = 0
  ·refine iteNS (by show V.int ((n:Int) % 10) = V.int 0; rw [show (n:Int) % 10 = 0 by omega]) ⟨_,rfl,_,_,rfl,rfl,⟨by decide,by decide⟩,n / 10,some (.str ⟨#[ch]⟩),?_,rfl,?_⟩
   ·show [some (V.ref t),some (V.str z),some (V.str bt),some (V.str A1),some (V.str A2),some (V.str A3),some (V.int ((n:Int) / 10)),some (V.str ⟨#[ch]⟩),none] = _
    rw [show (n:Int) / 10 = ((n / 10:Nat):Int) by omega]
   ·rw [en,Nat.pow_succ,Nat.mul_comm (10 ^ i),← Nat.mul_assoc,Nat.div_mul_cancel (Nat.dvd_of_mod_eq_zero c0)]
  ·refine iteN (fun h=>c0 (by injection h with h; omega)) (no (fun M l r=>c0 ?_) _ s1)
   have e:=(lex l).symm.trans en
   obtain ⟨k,hk⟩:∃ k,(bhd (bodyOf z.cps.toList)).length = k + 1 + i:=⟨_,(Nat.sub_add_cancel hi ▸ by omega:_ = ((bhd (bodyOf z.cps.toList)).length - 1 - i) + 1 + i)⟩
   rw [hk,Nat.pow_add,← Nat.mul_assoc] at e
   have:=Nat.eq_of_mul_eq_mul_right (Nat.pow_pos (by decide)) e
   rw [← this,Nat.pow_succ,← Nat.mul_assoc]
   exact Nat.mul_mod_left _ _
 rintro σ G ⟨n,y7,rfl,rfl,en⟩
 rw [ls] at en
 refine ⟨fun σ G'=>∃ M:Int,σ = [some (.ref t),some (.str z),some (.str bt),some (.str A1),some (.str A2),some (.str A3),some (.int M),y7,none]∧G' = G∧M.natAbs = n∧(negOf z.cps.toList = true→M≤0)∧(negOf z.cps.toList = false→0≤M),?_,?_⟩
 ·refine ⟨_,rfl,_,rfl,rfl,_,rfl,?_⟩
  cases hn:negOf z.cps.toList with
  | true=>exact iteN (fun h=>neq1 hn (by injection h)) ⟨_,rfl,_,_,rfl,rfl,0 - (n:Int),rfl,rfl,by omega,fun _=>by omega,fun h=>nomatch h⟩
  | false=>exact iteNS (congrArg V.str (neq2 hn)) ⟨(n:Int),rfl,rfl,by omega,(fun h=>nomatch h),fun _=>by omega⟩
 rintro σ G' ⟨M,rfl,rfl,hM,sg1,sg2⟩
 subst hM
 have uq:∀ N,LOk p z.cps.toList N→N = M:=fun N l=>by
  have e:=(lex l).symm.trans en
  have:=Nat.eq_of_mul_eq_mul_right (Nat.pow_pos (by decide)) e
  cases hn:negOf z.cps.toList with
  | true=>have:=l.sg.1 hn; have:=sg1 hn; omega
  | false=>have:=l.sg.2 hn; have:=sg2 hn; omega
 refine ⟨_,rfl,t,kd,w0,(p:Int),rfl,spc.same s1,fun r H2 r0 hr2 s2=>?_⟩
 have s12:=s1.trans s2
 refine ⟨_,rfl,r,_,_,_,rfl,rfl,SqT.of hr2,rfl,_,rfl,_,_,rfl,rfl,_,rfl,?_⟩
 have ht2:H2 t = some (.tup [.str (wd kd),.int w0,.int (p:Int)]):=s2 _ _ ht1
 refine iteC (fun a1=>?_) (fun a1=>?_)
 rotate_left
 ·exact ⟨_,rfl,iteT (no (fun N l r=>a1 (by have:=uq N l; subst this; exact r.1)) _ s12)⟩
 refine ⟨_,rfl,r,_,_,_,rfl,rfl,SqT.of hr2,rfl,_,_,rfl,rfl,_,rfl,iteCN (fun a2=>?_) (fun a2=>?_)⟩
 ·exact no (fun N l r=>a2 (by have:=uq N l; subst this; exact r.2)) _ s12
 refine ⟨_,rfl,rfl,_,rfl,?_⟩
 have ok:(negOf z.cps.toList = true→M < 0)→LOk p z.cps.toList M:=fun h=>⟨can,beh,by rw [hD]; exact en,h,sg2⟩
 by_cases m0:M = 0
 ·subst m0
  refine iteD rfl ⟨_,rfl,_,rfl,rfl,_,rfl,?_⟩
  cases hn:negOf z.cps.toList with
  | true =>
   refine iteN (fun h=>neq1 hn (by injection h)) (no (fun N l r=>?_) _ s12)
   have e:=uq N l
   have:=l.sg.1 hn
   omega
  | false =>
   refine iteNS (congrArg V.str (neq2 hn)) ⟨_,rfl,_,rfl,t,_,_,_,rfl,rfl,SqT.of ht2,rfl,_,_,rfl,rfl,⟨by omega,by omega,b200 (by decide) (by decide)⟩,_,_,rfl,rfl,p1_pos _,?_⟩
   exact yes 0 (ok fun h=>by rw [hn] at h; cases h) ⟨a1,a2⟩ _ s12
 ·refine iteDN (fun h=>m0 (by injection h)) ⟨_,rfl,_,rfl,t,_,_,_,rfl,rfl,SqT.of ht2,rfl,_,_,rfl,rfl,⟨by omega,by omega,b200 (by decide) (by decide)⟩,_,_,rfl,rfl,p1_pos _,?_⟩
  exact yes M (ok fun h=>by have:=sg1 h; omega) ⟨a1,a2⟩ _ s12
theorem new2 {p l l2 l3:Addr} {H H1:Hp} {o1 o2:HO} (x:SameX p H H1) (b:Box H1 p) (hl:H1 l = none) (hl2:upd H1 l o1 l2 = none) (hl3:upd (upd H1 l o1) l2 o2 l3 = none):SameX p H (upd (upd H1 l o1) l2 o2)∧Box (upd (upd H1 l o1) l2 o2) p∧H l3 = none:=by
 have xa:=(x.trans (SameX.of (same_new hl o1))).trans (SameX.of (same_new hl2 o2))
 have ba:=(b.same (same_new hl o1)).same (same_new hl2 o2)
 exact ⟨xa,ba,xa.new ba hl3⟩
theorem ok__law_changed {f:Addr} {fd:FuncData} (F:Fun K "_law_changed" "_law_changed" s__law_changed f fd) (T:Txt K mg c) (H__law_take:Has P w K mg base 1 "_law_take" ["_law_box_here", "_law_many"] spTake):FnOk P w K mg base CX0 2 f fd ["_law_box_here", "_law_text", "_law_other"] spChg:=by
 refine F.ok sc__law_changed (fun vs H Q E h=>?_) (fun cdv A outer s H vs Q E hr h=>?_)
 ·obtain ⟨p,z,o,rfl,_⟩:=h
  rfl
 obtain ⟨p,z,o,rfl,bx,z2,o2,q⟩:=h
 refine ⟨_,(pss_cons (ps_set (i:=3) sc__law_changed.nd rfl (Or.inl rfl) pe_str)
  (pss_cons (ps_set (i:=4) sc__law_changed.nd rfl (Or.inl rfl) (pe_fn H__law_take (hr.mono (by omega)) rfl (pa_cons (pv 0) (pa_cons (pe_op op_add (pe_callB call_len_str rfl T.n_len boot_len (pa_cons (pv 1) pa_nil)) pe_int) pa_nil))))
  (pss_cons (ps_set (i:=5) sc__law_changed.nd rfl (Or.inl rfl) (pe_ix ix_str (pv 3) (pe_fn H__law_take (hr.mono (by omega)) rfl (pa_cons (pv 0) (pa_cons pe_int pa_nil))) (fun _ _=>rfl)))
  (pss_cons (ps_set (i:=6) sc__law_changed.nd rfl (Or.inl rfl) (pe_lst (pa_consN (pe_op op_add_str (pv 1) pe_str) (pa_consN (pe_op op_add_str (pv 1) pe_str) (pa_consN (pe_op op_add_str (pv 1) pe_str) (pa_consN (pe_op op_add_str pe_str (pv 1)) (pa_consN (pe_op op_add_str pe_str (pv 1)) (pa_consN (pe_op op_add_str pe_str (pv 1)) (pa_consN (pe_op op_add_str pe_str (pv 1)) (pa_consN (pe_op op_add_str (pv 1) pe_str) (pa_consN (pv 2) pa_nil)))))))))))
  (pss_cons (ps_set (i:=6) sc__law_changed.nd rfl (Or.inl rfl) (pe_op op_addL (pv 6) (pe_lst (pa_cons (pe_op op_add_str (pe_op op_add_str (pe_slice sl_str (pv 1) po_none (po_some (pv 4))) (pv 5)) (pe_slice sl_str (pv 1) (po_some (pv 4)) po_none)) (pa_cons (pe_op op_add_str (pe_slice sl_str (pv 1) po_none (po_some (pv 4))) (pe_slice sl_str (pv 1) (po_some (pe_op op_add (pv 4) pe_int)) po_none)) (pa_cons (pe_op op_add_str (pe_op op_add_str (pe_slice sl_str (pv 1) po_none (po_some (pv 4))) (pv 5)) (pe_slice sl_str (pv 1) (po_some (pe_op op_add (pv 4) pe_int)) po_none)) pa_nil))))))
  (pss_one (ps_ret (pv 6)))))))),?_⟩
 have L100:(100000:Nat)≤sizeLine:=by decide
 refine ⟨_,rfl,_,rfl,z,rfl,by omega,_,_,rfl,rfl,p,_,rfl,bx,by omega,by omega,fun at' H2 a0 a1 b2 x2=>?_⟩
 refine ⟨_,rfl,_,rfl,p,_,rfl,b2,by decide,by decide,fun k H1 k0 k1 b1 x1=>?_⟩
 obtain ⟨ch,hc⟩:=atI_ex (xs:=(Str.ofString "0123456789.-+ e_").cps.toList) k0 k1
 refine ⟨_,k,ch,rfl,rfl,(by decide),hc,?_⟩
 have l1:∀ lo hi,(Txt.slice z lo hi).length≤43:=fun lo hi=>Nat.le_trans (Txt.slice_le z _ _) z2
 have c1:(⟨#[ch]⟩:Str).length = 1:=rfl
 have q1:=l1 none (some at')
 have q2:=l1 (some (at' + 1)) none
 have q3:=l1 (some at') none
 have m1:(Str.ofString "0").length = 1:=by decide
 have m2:(Str.ofString ".0").length = 2:=by decide
 have m3:(Str.ofString ".").length = 1:=by decide
 have m4:(Str.ofString "-").length = 1:=by decide
 have m5:(Str.ofString "+").length = 1:=by decide
 have m6:(Str.ofString " ").length = 1:=by decide
 have w1:=addL (Txt.slice z none (some at')) ⟨#[ch]⟩
 refine ⟨_,rfl,_,_,rfl,rfl,by omega,_,rfl,_,_,rfl,rfl,by omega,_,rfl,_,_,rfl,rfl,by omega,_,rfl,_,_,rfl,rfl,by omega,?_⟩
 refine ⟨_,rfl,_,_,rfl,rfl,by omega,_,rfl,_,_,rfl,rfl,by omega,_,rfl,_,_,rfl,rfl,by omega,_,rfl,_,_,rfl,rfl,by omega,_,rfl,(by show 9≤sizeLine; decide),fun l hl=>?_⟩
 refine ⟨_,rfl,_,rfl,_,rfl,_,rfl,z,rfl,by omega,_,rfl,_,_,rfl,rfl,by omega,_,rfl,_,rfl,_,rfl,z,rfl,by omega,_,_,rfl,rfl,by omega,?_⟩
 refine ⟨_,rfl,_,rfl,_,rfl,z,rfl,by omega,_,rfl,_,rfl,_,_,rfl,rfl,_,rfl,z,rfl,by omega,_,_,rfl,rfl,by omega,?_⟩
 refine ⟨_,rfl,_,rfl,_,rfl,z,rfl,by omega,_,rfl,_,_,rfl,rfl,by omega,_,rfl,_,rfl,_,_,rfl,rfl,_,rfl,z,rfl,by omega,_,_,rfl,rfl,by omega,(by show 3≤sizeLine; decide),fun l2 hl2=>?_⟩
 refine ⟨l,l2,_,_,rfl,rfl,SqL.of (same_new hl2 _ _ _ upd_same),SqL.of upd_same,(by show 12≤sizeLine; decide),fun l3 hl3=>?_⟩
 obtain ⟨xa,ba,na⟩:=new2 (x2.trans x1) b1 hl hl2 hl3
 refine ⟨_,rfl,q l3 [_,_,_,_,_,_,_,_,_,_,_,_] _ na upd_same ?_ (ba.same (same_new hl3 _)) (xa.trans (SameX.of (same_new hl3 _)))⟩
 intro y hy
 simp only [List.mem_cons,List.not_mem_nil,or_false] at hy
 rcases hy with rfl | rfl | rfl | rfl | rfl | rfl | rfl | rfl | rfl | rfl | rfl | rfl <;> (try simp only [addL]) <;> omega
theorem cnt_fwd {kd:Nat} {w n:Int} (w0:4≤w) (n0:0≤n) (n1:n < 2 ^ w.toNat):rng kd w (cnt kd w n)∧cnt kd w n % (1 * 2 ^ w.toNat) = n:=by
 have hf:=pw_half w0
 have pp:=p1_pos (w - 1).toNat
 rw [Int.one_mul] at *
 unfold rng lo cnt hi
 by_cases k:kd = 0
 ·rw [if_pos k,if_pos k,if_pos (by omega)]
  exact ⟨⟨by omega,by omega⟩,Int.emod_eq_of_lt n0 n1⟩
 ·rw [if_neg k,if_neg k]
  by_cases h:n≤1 * 2 ^ (w - 1).toNat - 1
  ·rw [if_pos h]
   exact ⟨⟨by omega,by omega⟩,Int.emod_eq_of_lt n0 n1⟩
  ·rw [if_neg h]
   refine ⟨⟨by omega,by omega⟩,?_⟩
   rw [show n - 1 * 2 ^ w.toNat = n - 2 ^ w.toNat by omega,Int.sub_emod_right]
   exact Int.emod_eq_of_lt n0 n1
theorem tv_nil {kd:Nat} {w:Int} {p:Nat} {z:Str} (h:whl (bodyOf z.cps.toList) = []):tv kd w p (.str z) = none:=tv_none fun M r e=>(shT_ok p M).canon.ne (by rw [← e]; exact h)
theorem tv_long {kd:Nat} {w:Int} {p:Nat} {z:Str} (w0:4≤w) (w1:w≤32) (hp:p≤31) (h:43 < z.length):tv kd w p (.str z) = none:=tv_none fun M r e=>by
 have:=shT_len hp (rng_abs w0 w1 r)
 rw [← e,str_len] at this
 omega
theorem Spc.nat {H:Hp} {t:Addr} {kd:Nat} {w pt:Int} (h:Spc H t kd w pt):∃ m:Nat,pt = (m:Int):=by
 obtain ⟨_,_,h1,h2,a,b⟩:=h
 refine ⟨pt.toNat,?_⟩
 by_cases k:kd = 2
 ·have:=a k; omega
 ·have:=b k; omega
theorem KO.sameX {c:Ad} {H H':Hp} {x q:Addr} {kd:Nat} {w pt:Int} (k:KO c H x kd w pt) (b:Box H q) (s:SameX q H H'):KO c H' x kd w pt:=by
 obtain ⟨dx,h⟩:=k
 exact ⟨dx,s _ _ (fun z=>by obtain ⟨r,s',c,hb⟩:=b; rw [z,hb] at h; cases h) h⟩
theorem ok__law_word_right {f:Addr} {fd:FuncData} (F:Fun K "_law_word_right" "_law_word_right" s__law_word_right f fd) (T:Txt K mg c) (H__law_spec:Has P w K mg base 2 "_law_spec" ["_law_box_here"] spSpec) (H__law_changed:Has P w K mg base 2 "_law_changed" ["_law_box_here", "_law_text", "_law_other"] spChg) (H__law_same:Has P w K mg base 1 "_law_same" ["_law_found", "_law_due_here"] spSm) (H__law_bits:Has P w K mg base 2 "_law_bits" ["_law_box_here", "_law_width"] spLBits) (H__law_read:Has P w K mg base 2 "_law_read" ["_law_spec_here", "_law_text"] spLRead) (H__law_told:Has P w K mg base 7 "_law_told" ["_law_kind_here", "_law_thing"] (spTold c)) (H__law_kind:Has P w K mg base 6 "_law_kind" ["_law_spec_here"] (spKind c)) (H__law_due:Has P w K mg base 3 "_law_due" ["_law_spec_here", "_law_text"] spDue) (MS:∀ i,i < 3→MHas P w K mg base 5 (cOf c i) "shown" ["self", "bits"] (spShow c)):FnOk P w K mg base CX0 8 f fd ["_law_box_here", "_law_kind_here", "_law_spec_here", "_law_word"] (spWR c):=by
 refine F.ok sc__law_word_right (fun vs H Q E h=>?_) (fun cdv A outer s H vs Q E hr h=>?_)
 ·obtain ⟨b,x,t,kd,w0,p,n,rfl,_⟩:=h
  rfl
 obtain ⟨b,x,t,kd,w0,p,n,rfl,bx,ko,spc,n0,n1,q⟩:=h
 refine ⟨_,(pss_cons (ps_set (i:=4) sc__law_word_right.nd rfl (Or.inl rfl) (pe_methP (k:=5) (pv 1) (hr.mono (by omega)) (pa_cons (pv 3) pa_nil)))
  (pss_cons (ps_if (PW.pt (pw_or (pt_not (pt_val (pe_callB call_isinst rfl T.n_isinstance boot_isinstance (pa_cons (pv 1) (pa_cons (pe_cls rfl T.g_Kind) pa_nil))))) (pw_or (pt_not (pt_val (pe_callB call_isinst rfl T.n_isinstance boot_isinstance (pa_cons (pv 4) (pa_cons (pe_ty rfl T.n_str boot_str) pa_nil))))) (pw_or1 (pt_cmpR op_ne (pe_fn H__law_read (hr.mono (by omega)) rfl (pa_cons (pv 2) (pa_cons (pv 4) pa_nil))) (pv 3) (nomark _))))))
   (pss_one (ps_ret pe_bl))
   pss_nil)
  (pss_cons (ps_if (pt_not (pt_val (pe_fn H__law_same (hr.mono (by omega)) rfl (pa_cons (pe_fn H__law_told (hr.mono (by omega)) rfl (pa_cons (pv 1) (pa_cons (pv 4) pa_nil))) (pa_cons (pe_tup (pa_cons pe_str (pa_cons (pv 3) pa_nil))) pa_nil)))))
   (pss_one (ps_ret pe_bl))
   pss_nil)
  (pss_cons (ps_set (i:=5) sc__law_word_right.nd rfl (Or.inl rfl) (pe_fn H__law_spec (hr.mono (by omega)) rfl (pa_cons (pv 0) pa_nil)))
  (pss_cons (ps_set (i:=6) sc__law_word_right.nd rfl (Or.inl rfl) (pe_methP (k:=5) (pe_fn H__law_kind (hr.mono (by omega)) rfl (pa_cons (pv 5) pa_nil)) (hr.mono (by omega)) (pa_cons (pe_fn H__law_bits (hr.mono (by omega)) rfl (pa_cons (pv 0) (pa_cons (pe_ix ix_tup (pv 5) pe_int (fun _ _=>rfl)) pa_nil))) pa_nil)))
  (pss_cons (ps_for PassesOwn.never rfl (pi_list (pe_fn H__law_changed (hr.mono (by omega)) rfl (pa_cons (pv 0) (pa_cons (pv 4) (pa_cons (pv 6) pa_nil))))) (pg_name (i:=7) sc__law_word_right.nd rfl (Or.inl rfl))
   (pss_one (ps_if (pt_not (pt_val (pe_fn H__law_same (hr.mono (by omega)) rfl (pa_cons (pe_fn H__law_told (hr.mono (by omega)) rfl (pa_cons (pv 1) (pa_cons (pv 7) pa_nil))) (pa_cons (pe_fn H__law_due (hr.mono (by omega)) rfl (pa_cons (pv 2) (pa_cons (pv 7) pa_nil))) pa_nil)))))
    (pss_one (ps_ret pe_bl))
    pss_nil)))
  (pss_cons (ps_for PassesOwn.never rfl (pi_list (pe_lst (pa_consN pe_non (pa_consN pe_bl (pa_consN (pv 3) (pa_consN (pe_lst (pa_cons (pv 4) pa_nil)) (pa_consN (pe_tup (pa_cons (pv 4) pa_nil)) (pa_consN pe_str (pa_consN pe_str (pa_consN pe_str (pa_consN (pe_op op_repS pe_str pe_int) (pa_consN (pe_op op_add_str pe_str (pe_op op_repS pe_str pe_int)) (pa_consN (pe_op op_repS pe_str pe_int) pa_nil))))))))))))) (pg_name (i:=8) sc__law_word_right.nd rfl (Or.inl rfl))
   (pss_one (ps_if (pt_not (pt_val (pe_fn H__law_same (hr.mono (by omega)) rfl (pa_cons (pe_fn H__law_told (hr.mono (by omega)) rfl (pa_cons (pv 1) (pa_cons (pv 8) pa_nil))) (pa_cons (pe_tup (pa_cons pe_str (pa_cons (pv 8) (pa_cons pe_bl pa_nil)))) pa_nil)))))
    (pss_one (ps_ret pe_bl))
    pss_nil)))
  (pss_one (ps_ret (pe_and (pe_cmpR op_eq (pe_methP (k:=5) (pv 1) (hr.mono (by omega)) (pa_cons (pv 3) pa_nil)) (pv 4) (nomark _)) (pe_one (pe_cmpR (op_eqTD (d:=0) (hu_of hr)) (pe_fn H__law_told (hr.mono (by omega)) rfl (pa_cons (pv 1) (pa_cons (pv 4) pa_nil))) (pe_tup (pa_cons pe_str (pa_cons (pv 3) pa_nil))) (nomark _))))))))))))),?_⟩
 have L100:(100000:Nat)≤sizeLine:=by decide
 obtain ⟨dx,hx⟩:=id ko
 have hk:=spc.2.1
 have w1:=spc.2.2.1
 have w2:=spc.2.2.2.1
 have hp:=spc.p31
 obtain ⟨rg,cm⟩:=cnt_fwd (kd:=kd) w1 n0 n1
 refine ⟨_,rfl,x,_,dx,_,_,_,rfl,hx,rfl,MS kd hk,_,rfl,kd,x,w0,n,p,rfl,hk,ko,w1,w2,hp,n0,n1,fun Z H1 eZ s1=>?_⟩
 have Z43:Z.length≤43:=by rw [← str_len,eZ]; exact shT_len hp (rng_abs w1 w2 rg)
 have et:tv kd w0 p (.str Z) = some n:=by rw [tv_some rg eZ,cm]
 refine ⟨_,rfl,_,_,_,_,_,rfl,rfl,T.ty kd (s1 _ _ hx),T.ik kd,_,rfl,iteF ?_⟩
 refine ⟨_,rfl,_,_,_,_,_,rfl,rfl,TyOf.str _,kit_str_str _,_,rfl,iteF ?_⟩
 refine ⟨_,rfl,_,rfl,t,kd,w0,p,Z,rfl,spc.same s1,by omega,fun H2 s2=>?_⟩
 rw [et]
 refine ⟨_,rfl,rfl,_,rfl,iteNS rfl ?_⟩
 refine ⟨_,rfl,_,rfl,kd,x,w0,p,.str Z,rfl,hk,ko.same (s1.trans s2),w1,w2,hp,.str _,(by show Z.length≤100000; omega),fun r H3 r0 hr3 s3=>?_⟩
 refine ⟨_,rfl,sz2,fun r' hr'=>?_⟩
 have s4:=same_new hr' (.tup [.str "word",.int n])
 have g3:=s4 _ _ hr3
 unfold toldK at g3
 rw [et] at g3
 refine ⟨r,r',_,.int n,[],rfl,g3,upd_same,.int n,.inl rfl,_,rfl,iteF ?_⟩
 have S4:=s1.trans (s2.trans (s3.trans s4))
 clear g3 hr3 r0 s1 s2 s3 s4 hr'
 generalize upd H3 r' (.tup [.str "word",.int n]) = H4 at S4 ⊢
 have b4:=bx.same S4
 refine ⟨_,rfl,b,rfl,b4,fun t2 kd2 wB ptB H5 t20 spcB b5 x5=>?_⟩
 obtain ⟨pB,rfl⟩:=spcB.nat
 have hkB:=spcB.2.1
 have wB1:=spcB.2.2.1
 have wB2:=spcB.2.2.2.1
 have hpB:=spcB.p31
 refine ⟨_,rfl,t2,kd2,wB,_,rfl,spcB,fun xB H6 xB0 koB s6=>?_⟩
 obtain ⟨dB,hB⟩:=id koB
 have b6:=b5.same s6
 refine ⟨xB,_,dB,_,_,_,rfl,hB,rfl,MS kd2 hkB,_,rfl,_,rfl,t2,_,_,_,rfl,rfl,SqT.of (s6 _ _ spcB.1),rfl,b,wB,rfl,b6,wB1,wB2,fun v H7 v0 v1 b7 x7=>?_⟩
 obtain ⟨rgB,_⟩:=cnt_fwd (kd:=kd2) wB1 v0 v1
 refine ⟨kd2,xB,wB,v,pB,rfl,hkB,koB.sameX b6 x7,wB1,wB2,hpB,v0,v1,fun o H8 eo s8=>?_⟩
 have o43:o.length≤43:=by rw [← str_len,eo]; exact shT_len hpB (rng_abs wB1 wB2 rgB)
 have X8:SameX b H H8:=(SameX.of S4).trans (x5.trans ((SameX.of s6).trans (x7.trans (SameX.of s8))))
 have b8:=b7.same s8
 clear eo rgB v0 v1 koB hB xB0 spcB t20 b4 b5 b6 b7 x5 x7 s6 s8 S4
 refine ⟨_,rfl,_,rfl,_,rfl,b,Z,o,rfl,b8,Z43,o43,fun l ys H9 l0 hl9 yl b9 x9=>?_⟩
 have X9:=X8.trans x9
 have ko9:=ko.sameX bx X9
 have spc9:=spc.sameX bx X9
 clear X8 x9 b8 l0 ko spc hx
 refine ⟨l,rfl,⟨_,SqL.of hl9⟩,for_list (xs:=ys.map V.str) (fun j σ G=>∃ y7:Option V,σ = [some (.ref b),some (.ref x),some (.ref t),some (.int n),some (.str Z),some (.ref t2),some (.str o),y7,none]∧Same H9 G) ⟨_,rfl,Same.refl _⟩ ?_ ?_ ?_⟩
 ·rintro j σ G hj ⟨y7,rfl,sG⟩
  exact SqL.of (sG _ _ hl9)
 ·rintro j v σ G hj ⟨y7,rfl,sG⟩
  rw [List.getElem?_map] at hj
  cases e1:ys[j]? with
  | none=>rw [e1] at hj; cases hj
  | some y =>
   rw [e1] at hj
   cases hj
   have yb:=yl y (List.mem_of_getElem? e1)
   refine ⟨_,rfl,_,rfl,kd,x,w0,p,.str y,rfl,hk,ko9.same sG,w1,w2,hp,.str _,(by show y.length≤100000; omega),fun r G1 r0 hr1 s1=>?_⟩
   refine ⟨_,rfl,_,rfl,t,kd,w0,p,y,rfl,spc9.same (sG.trans s1),yb,fun r2 G2 r20 hr2 s2=>?_⟩
   have g1:=s2 _ _ hr1
   unfold toldK at g1 hr2
   cases ey:tv kd w0 p (.str y) with
   | some v =>
    rw [ey] at g1 hr2
    exact ⟨r,r2,_,.int v,[],rfl,g1,hr2,.int v,.inl rfl,_,rfl,iteF ⟨_,rfl,sG.trans (s1.trans s2)⟩⟩
   | none =>
    rw [ey] at g1 hr2
    exact ⟨r,r2,_,.str y,[.bl true],rfl,g1,hr2,.str y,.inr rfl,_,rfl,iteF ⟨_,rfl,sG.trans (s1.trans s2)⟩⟩
 rintro σ G ⟨y7,rfl,sG⟩
 refine ⟨_,rfl,_,rfl,(by show 1≤sizeLine; decide),fun l1 hl1=>?_⟩
 refine ⟨_,rfl,(by show 1≤sizeLine; decide),fun t1 ht1=>?_⟩
 refine ⟨_,_,rfl,rfl,by decide,by decide,by decide,by decide,fun r9 h9=>?_⟩
 refine ⟨_,_,rfl,rfl,by decide,by decide,by decide,by decide,fun r5 h5=>?_⟩
 have h9':r9.length = 5000:=h9
 have h5':r5.length = 5000:=h5
 have m2:(Str.ofString "0.").length = 2:=by decide
 refine ⟨_,_,rfl,rfl,by omega,_,_,rfl,rfl,by decide,by decide,by decide,by decide,fun rm hm=>⟨(by show 11≤sizeLine; decide),fun L hL=>?_⟩⟩
 have hm':rm.length = 5000:=hm
 have z5:=addL (Str.ofString "0.") r5
 generalize (Str.ofString "0." ++ r5) = r5' at z5 hL ⊢
 have sA:=same_new hl1 (.lst [.str Z])
 have sB:=same_new ht1 (.tup [.str Z])
 obtain ⟨TL,eL⟩:∃ TL:List V,TL = [.non,.bl true,.int n,.ref l1,.ref t1,.str (Str.ofString ""),.str (Str.ofString "-"),.str (Str.ofString "."),.str r9,.str r5',.str rm]:=⟨_,rfl⟩
 rw [← eL]
 have sD:=same_new hL (.lst TL)
 have hLL:upd (upd (upd G l1 (.lst [.str Z])) t1 (.tup [.str Z])) L (.lst TL) L = some (.lst TL):=upd_same
 have t1d:Th (upd (upd (upd G l1 (.lst [.str Z])) t1 (.tup [.str Z])) L (.lst TL)) (.ref l1):=.lst (sD _ _ (sB _ _ upd_same))
 have t2d:Th (upd (upd (upd G l1 (.lst [.str Z])) t1 (.tup [.str Z])) L (.lst TL)) (.ref t1):=.tup (sD _ _ upd_same)
 have s9D:=sG.trans (sA.trans (sB.trans sD))
 generalize upd (upd (upd G l1 (.lst [.str Z])) t1 (.tup [.str Z])) L (.lst TL) = GD at hLL t1d t2d s9D ⊢
 have all:∀ v ∈ TL,Th GD v∧shortT v∧tv kd w0 p v = none:=by
  intro v hv
  rw [eL] at hv
  simp only [List.mem_cons,List.not_mem_nil,or_false] at hv
  rcases hv with rfl | rfl | rfl | rfl | rfl | rfl | rfl | rfl | rfl | rfl | rfl
  ·exact ⟨.non,trivial,rfl⟩
  ·exact ⟨.bl _,trivial,rfl⟩
  ·exact ⟨.int _,trivial,rfl⟩
  ·exact ⟨t1d,trivial,rfl⟩
  ·exact ⟨t2d,trivial,rfl⟩
  ·exact ⟨.str _,(by show (Str.ofString "").length≤100000; decide),tv_nil (by decide)⟩
  ·exact ⟨.str _,(by show (Str.ofString "-").length≤100000; decide),tv_nil (by decide)⟩
  ·exact ⟨.str _,(by show (Str.ofString ".").length≤100000; decide),tv_nil (by decide)⟩
  ·exact ⟨.str _,(by show r9.length≤100000; omega),tv_long w1 w2 hp (by omega)⟩
  ·exact ⟨.str _,(by show r5'.length≤100000; omega),tv_long w1 w2 hp (by omega)⟩
  ·exact ⟨.str _,(by show rm.length≤100000; omega),tv_long w1 w2 hp (by omega)⟩
 clear eL
 have koD:=ko9.same s9D
 refine ⟨L,rfl,⟨_,SqL.of hLL⟩,for_list (xs:=TL) (fun j σ G=>∃ y7 y8:Option V,σ = [some (.ref b),some (.ref x),some (.ref t),some (.int n),some (.str Z),some (.ref t2),some (.str o),y7,y8]∧Same GD G) ⟨_,_,rfl,Same.refl _⟩ ?_ ?_ ?_⟩
 ·rintro j σ G hj ⟨y7,y8,rfl,sG⟩
  exact SqL.of (sG _ _ hLL)
 ·rintro j v σ G hj ⟨y7,y8,rfl,sG⟩
  obtain ⟨tv',sv,nv⟩:=all v (List.mem_of_getElem? hj)
  refine ⟨_,rfl,_,rfl,kd,x,w0,p,v,rfl,hk,koD.same sG,w1,w2,hp,tv'.same sG,sv,fun r G1 r0 hr1 s1=>?_⟩
  unfold toldK at hr1
  rw [nv] at hr1
  refine ⟨_,rfl,(by show 3≤sizeLine; decide),fun r' hr'=>?_⟩
  have s8:=same_new hr' (.tup [.str "refused",v,.bl true])
  exact ⟨r,r',_,v,[.bl true],rfl,s8 _ _ hr1,upd_same,tv'.same (sG.trans (s1.trans s8)),.inr rfl,_,rfl,iteF ⟨_,_,rfl,sG.trans (s1.trans s8)⟩⟩
 rintro σ G ⟨y7,y8,rfl,sG⟩
 have koE:=koD.same sG
 obtain ⟨dy,hy⟩:=id koE
 refine ⟨_,rfl,x,_,dy,_,_,_,rfl,hy,rfl,MS kd hk,_,rfl,kd,x,w0,n,p,rfl,hk,koE,w1,w2,hp,n0,n1,fun Z2 Ha eZ2 sa=>?_⟩
 refine ⟨_,rfl,rfl,_,rfl,iteD (congrArg V.str (str_ext (eZ2.trans eZ.symm))) ?_⟩
 refine ⟨_,rfl,_,rfl,kd,x,w0,p,.str Z,rfl,hk,koE.same sa,w1,w2,hp,.str _,(by show Z.length≤100000; omega),fun r Hb r0 hrb sb=>?_⟩
 refine ⟨_,rfl,sz2,fun r' hr'=>?_⟩
 have s4:=same_new hr' (.tup [.str "word",.int n])
 have g3:=s4 _ _ hrb
 unfold toldK at g3
 rw [et] at g3
 refine ⟨r,r',_,_,fun _=>true,rfl,rfl,SqT.of g3,SqT.of upd_same,fun j j1 j2=>?_,?_⟩
 ·have:j < 2:=j1
  rcases (by omega:j = 0∨j = 1) with rfl | rfl
  ·exact (Th.str _).eqd
  ·exact (Th.int n).eqd
 have sz:=s9D.trans (sG.trans (sa.trans (sb.trans s4)))
 exact q _ (b9.same sz) (X9.trans (SameX.of sz))
theorem new_at {H:Hp} {p:Addr} (_:H p = none) (o:HO):upd H p o p = some o:=upd_same
theorem ok_law {f:Addr} {fd:FuncData} (F:Fun K "law" "law" s_law f fd) (T:Txt K mg c) (H__law_box:Has P w K mg base 1 "_law_box" ["_law_cell_here"] spBox) (H__law_spec:Has P w K mg base 2 "_law_spec" ["_law_box_here"] spSpec) (H__law_kind:Has P w K mg base 6 "_law_kind" ["_law_spec_here"] (spKind c)) (H__law_cell:Has P w K mg base 1 "_law_cell" ["_law_script", "_law_k"] (spCell K)) (H__law_bits:Has P w K mg base 2 "_law_bits" ["_law_box_here", "_law_width"] spLBits) (H__law_word_right:Has P w K mg base 8 "_law_word_right" ["_law_box_here", "_law_kind_here", "_law_spec_here", "_law_word"] (spWR c)):FnOk P w K mg base CX0 9 f fd ["_law_script"] (spLaw K):=by
 refine F.ok sc_law (fun vs H Q E h=>?_) (fun cdv A outer s H vs Q E hr h=>?_)
 ·obtain ⟨a,ns,rfl,_⟩:=h
  rfl
 obtain ⟨a,ns,rfl,hS,hlen,q⟩:=h
 refine ⟨_,(pss_cons (ps_for PassesOwn.never rfl (pi_range1 rfl T.n_range (pa_cons (pe_callB (call_max2 rfl) rfl T.n_max boot_max (pa_cons pe_int (pa_cons (pe_callB (call_min2 rfl) rfl T.n_min boot_min (pa_cons (pe_callB call_len_seq rfl T.n_len boot_len (pa_cons (pv 0) pa_nil)) (pa_cons pe_int pa_nil))) pa_nil))) pa_nil)) (pg_name (i:=1) sc_law.nd rfl (Or.inl rfl))
   (pss_cons (ps_set (i:=2) sc_law.nd rfl (Or.inr rfl) (pe_fn H__law_box (hr.mono (by omega)) rfl (pa_cons (pe_fn H__law_cell (hr.mono (by omega)) rfl (pa_cons (pv 0) (pa_cons (pv 1) pa_nil))) pa_nil)))
   (pss_cons (ps_set (i:=3) sc_law.nd rfl (Or.inr rfl) (pe_fn H__law_spec (hr.mono (by omega)) rfl (pa_cons (pv 2) pa_nil)))
   (pss_cons (ps_set (i:=4) sc_law.nd rfl (Or.inl rfl) (pe_fn H__law_kind (hr.mono (by omega)) rfl (pa_cons (pv 3) pa_nil)))
   (pss_cons (ps_compC (i:=5) sc_law.nd rfl (Or.inl rfl) rfl [3,2] ["_law_spec_here", "_law_box_here"] rfl (by first | rfl | with_unfolding_all rfl) (by rfl) (by exact (List.forall_mem_cons.mpr ⟨rfl,(List.forall_mem_cons.mpr ⟨rfl,(fun _ h=>nomatch h)⟩)⟩)) (by decide +kernel) rfl (by decide +kernel) rfl (by decide +kernel) (by exact (List.forall_mem_cons.mpr ⟨⟨by first | exact Or.inl rfl | exact Or.inr rfl,rfl⟩,(List.forall_mem_cons.mpr ⟨⟨by first | exact Or.inl rfl | exact Or.inr rfl,rfl⟩,(fun _ h=>nomatch h)⟩)⟩)) rfl (by rfl) (pi_range1 rfl T.n_range (pa_cons pe_int pa_nil)) (fun C s2 H2 fp=>(pe_fn H__law_bits (hr.mono (by omega)) rfl (pa_cons (pv 2) (pa_cons (pe_ix (ix_tupK (K:=K) rfl) (pv 1) pe_int (fun _ _=>rfl)) pa_nil)))))
   (pss_one (ps_for PassesOwn.never rfl (pi_list (pe_op op_addL (pv 5) (pe_lst (pa_cons pe_int (pa_cons (pe_op op_sub (pe_op op_shl pe_int (pe_ix ix_tup (pv 3) pe_int (fun _ _=>rfl))) pe_int) pa_nil))))) (pg_name (i:=6) sc_law.nd rfl (Or.inl rfl))
    (pss_one (ps_if (pt_not (pt_val (pe_fn H__law_word_right (hr.mono (by omega)) rfl (pa_cons (pv 2) (pa_cons (pv 4) (pa_cons (pv 3) (pa_cons (pv 6) pa_nil)))))))
     (pss_one (ps_ret pe_bl))
     pss_nil)))))))))
  (pss_one (ps_ret pe_bl))),?_⟩
 have L100:(100:Nat)≤sizeLine:=by decide
 have hl:(ns.map V.int).length = ns.length:=List.length_map _
 refine ⟨_,rfl,a,_,rfl,.inl hS,_,_,rfl,_,_,rfl,_,rfl,(by rw [hl]; split <;> (try split) <;> omega),(by rw [hl]; split <;> (try split) <;> omega),for_range (fun i σ H2=>∃ y1 y2 y3 y4 y5 y6:Option V,σ = [some (.ref a),y1,y2,y3,y4,y5,y6]∧Same H H2) ⟨_,_,_,_,_,_,rfl,Same.refl _⟩ ?_ ?_⟩
 ·rintro i σ H2 hi2 ⟨y1,y2,y3,y4,y5,y6,rfl,s2⟩
  refine ⟨_,rfl,_,rfl,a,ns,_,rfl,s2.seq hS,by omega,fun c0=>⟨c0,rfl,fun p H3 hp b3 s3=>?_⟩⟩
  refine ⟨_,rfl,p,rfl,b3,fun t kd w0 pt H4 ht0 spc b4 x4=>?_⟩
  refine ⟨_,rfl,t,kd,w0,pt,rfl,spc,fun x H5 hx0 ko s5=>?_⟩
  obtain ⟨pn,rfl⟩:=spc.nat
  have b5:=b4.same s5
  have spc5:=spc.same s5
  have h1:=spc.2.2.1
  have h2:=spc.2.2.2.1
  have sA:SameX p H2 H5:=(SameX.of s3).trans (x4.trans (SameX.of s5))
  refine ⟨_,rfl,by decide,by decide,fun D hD=>comp_range (n:=4) (fun j HJ=>∃ ys:List Int,HJ D = some (.lst (ys.map V.int))∧ys.length = j∧(∀ y ∈ ys,0≤y∧y < 2 ^ w0.toNat)∧Box HJ p∧SameX p H5 HJ) ⟨[],upd_same,rfl,(fun y hy=>(nomatch hy)),b5.same (same_new hD _),SameX.of (same_new hD _)⟩ ?_ ?_ ?_⟩
  ·rintro j HJ hj ⟨ys,hys,hyl,yb,bJ,xJ⟩
   obtain ⟨r1,r2,r3,hbJ⟩:=id b5
   have nDp:D ≠ p:=fun z=>by rw [z,hbJ] at hD; cases hD
   have spJ:=spc5.sameX b5 xJ
   refine ⟨_,rfl,_,rfl,t,_,_,_,rfl,rfl,SqT.of spJ.1,rfl,p,w0,rfl,bJ,h1,h2,fun n HK n0 n1 bK xK=>?_⟩
   have hD2:=xK _ _ nDp hys
   refine ⟨_,hD2,(by rw [List.length_map,hyl]; omega),ys ++ [n],?_,by simp [hyl],fun y hy=>?_,?_,?_⟩
   ·rw [upd_same,List.map_append]
    rfl
   ·rcases List.mem_append.mp hy with hy | hy
    ·exact yb y hy
    ·rw [List.mem_singleton.mp hy]; exact ⟨n0,n1⟩
   ·obtain ⟨q1,q2,q3,hq⟩:=bK
    exact ⟨q1,q2,q3,by rw [upd_ne nDp.symm]; exact hq⟩
   ·exact fun b o nb h=>by
     rw [upd_ne (ne_of_none h hD)]
     exact xK b o nb (xJ b o nb h)
  ·rintro σ HJ Q1 Q2 hQ ⟨v,hv,v2,hv2,p1,p2,p3,p4,p5,p6,p7,p8,p',w',e',b',g1,g2,q'⟩
   exact ⟨v,hv,v2,hv2,p1,p2,p3,p4,p5,p6,p7,p8,p',w',e',b',g1,g2,fun n H' n0 n1 b'' x''=>hQ _ _ (q' n H' n0 n1 b'' x'')⟩
  rintro H6 ⟨ys,hys,hyl,yb,b6,x6⟩
  have spc6:=spc5.sameX b5 x6
  have ko6:=ko.sameX b5 x6
  have sB:SameX p H2 H6:=sA.trans x6
  have nDp:D ≠ p:=fun z=>by obtain ⟨q1,q2,q3,hq⟩:=b5; rw [z,hq] at hD; cases hD
  clear x6 sA b5 b4 b3 spc5 ko hx0 ht0
  refine ⟨_,rfl,_,rfl,t,_,_,_,rfl,rfl,SqT.of spc6.1,rfl,_,_,rfl,rfl,cpow1 (by omega) (by omega),_,_,rfl,rfl,sz2,fun q1 e1=>?_⟩
  have a1:=same_new e1 (.lst [.int 0,.int (1 * 2 ^ w0.toNat - 1)])
  refine ⟨D,q1,_,_,rfl,rfl,SqL.of (a1 _ _ hys),SqL.of upd_same,(by rw [List.length_map,hyl]; show 4 + 2≤sizeLine; decide),fun q4 e4=>?_⟩
  have ez:ys.map V.int ++ [.int 0,.int (1 * 2 ^ w0.toNat - 1)] = (ys ++ [0,1 * 2 ^ w0.toNat - 1]).map V.int:=by rw [List.map_append]; rfl
  rw [ez]
  have pb:=pw_bounds h1 h2
  have wb:∀ y ∈ ys ++ [0,1 * 2 ^ w0.toNat - 1],0≤y∧y < 2 ^ w0.toNat:=fun y hy=>by
   rcases List.mem_append.mp hy with hy | hy
   ·exact yb y hy
   ·simp only [List.mem_cons,List.not_mem_nil,or_false] at hy
    omega
  generalize ys ++ [0,1 * 2 ^ w0.toNat - 1] = zs at wb ⊢
  have a4:=same_new e4 (.lst (zs.map V.int))
  have g4:=new_at e4 (.lst (zs.map V.int))
  have at':=a1.trans a4
  have G0:=spc6.same at'
  have K4:=ko6.same at'
  have B4:=b6.same at'
  have x4:=sB.trans (SameX.of at')
  have n4p:q4 ≠ p:=fun z=>by obtain ⟨u1,u2,u3,hq⟩:=b6.same a1; rw [z,hq] at e4; cases e4
  clear a1 a4 e1 e4 at'
  refine ⟨q4,rfl,⟨_,SqL.of g4⟩,for_list (xs:=zs.map V.int) (fun n σ Hz=>∃ (z1 z6:Option V),σ = [some (.ref a),z1,some (.ref p),some (.ref t),some (.ref x),some (.ref D),z6]∧Hz q4 = some (.lst (zs.map V.int))∧Spc Hz t kd w0 (pn:Int)∧KO c Hz x kd w0 (pn:Int)∧Box Hz p∧SameX p H2 Hz) ⟨_,_,rfl,g4,G0,K4,B4,x4⟩ ?_ ?_ ?_⟩
  ·rintro n σ Hz hn ⟨z1,z6,rfl,g4,_⟩
   exact SqL.of g4
  ·clear g4 G0 K4 B4 x4
   rintro n v σ Hz hn ⟨z1,z6,rfl,g4,G0,K4,B4,x4⟩
   rw [List.getElem?_map] at hn
   cases hz:zs[n]? with
   | none=>rw [hz] at hn; cases hn
   | some b =>
    rw [hz] at hn
    cases hn
    have bb:=wb b (List.mem_of_getElem? hz)
    exact ⟨_,rfl,_,rfl,_,rfl,_,rfl,p,x,t,kd,w0,pn,b,rfl,B4,K4,G0,bb.1,bb.2,fun Ha ba xa=>⟨_,rfl,iteF ⟨_,_,rfl,xa _ _ n4p g4,G0.sameX B4 xa,K4.sameX B4 xa,ba,x4.trans xa⟩⟩⟩
  clear g4 G0 K4 B4 x4
  rintro σ Hz ⟨z1,z6,rfl,g4,G0,K4,B4,x4⟩
  exact ⟨_,_,_,_,_,_,rfl,s2.trans (SameX.fresh hp x4)⟩
 ·rintro σ H2 ⟨y1,y2,y3,y4,y5,y6,rfl,s2⟩
  exact q H2
end
theorem all_mk {l:PySem.W.OpenLaw} {w:World} {K:PySem.W.Frag} {h:Heap} {mg:Str→Option Value} {fa f1 f2 f3 f4 f5 f6 f7 f8 f9 f10 f11 f12 f13 f14 f15 f16 f17 f18 f19 f20 f21 f22 f23 f24 f25 f26 f27 f28 f29 f30 f31 f32 f33 f34 f35 f36 f37 f38 c_Kind c_Plain c_Signed c_Pointed c_NoText c_WiseError:Addr} (X:K.In h) (G:h.Ns mainGlobals mg) (hfa:mg "law" = some (.ref fa))
  {od1 an1 od2 an2 od3 an3 od4 an4 od5 an5 od6 an6 od7 an7 od8 an8 od9 an9 od10 an10 od11 an11 od12 an12 od13 an13 od14 an14 od15 an15 od16 an16 od17 an17 od18 an18 od19 an19 od20 an20 od21 an21 od22 an22 od23 an23 od24 an24 od25 an25 od26 an26 od27 an27 od28 an28 od29 an29 od30 an30 od31 an31 od32 an32 od33 an33 od34 an34 od35 an35 od36 an36 od37 an37 od38 an38:Option Addr} {sl1 sl2 sl3 sl4 sl5 sl6 sl7 sl8 sl9 sl10 sl11 sl12 sl13 sl14 sl15 sl16 sl17 sl18 sl19 sl20 sl21 sl22 sl23 sl24 sl25 sl26 sl27 sl28 sl29 sl30 sl31 sl32 sl33 sl34 sl35 sl36 sl37 sl38:Array (Option Value)} {oc1 kV1 dc1 pm1 cd1 ct1 oc2 kV2 dc2 pm2 cd2 ct2 oc3 kV3 dc3 pm3 cd3 ct3 oc4 kV4 dc4 pm4 cd4 ct4 oc5 kV5 dc5 pm5 cd5 ct5 oc6 kV6 dc6 pm6 cd6 ct6 oc7 kV7 dc7 pm7 cd7 ct7 oc8 kV8 dc8 pm8 cd8 ct8 oc9 kV9 dc9 pm9 cd9 ct9 oc10 kV10 dc10 pm10 cd10 ct10 oc11 kV11 dc11 pm11 cd11 ct11 oc12 kV12 dc12 pm12 cd12 ct12 oc13 kV13 dc13 pm13 cd13 ct13 oc14 kV14 dc14 pm14 cd14 ct14 oc15 kV15 dc15 pm15 cd15 ct15 oc16 kV16 dc16 pm16 cd16 ct16 oc17 kV17 dc17 pm17 cd17 ct17 oc18 kV18 dc18 pm18 cd18 ct18 oc19 kV19 dc19 pm19 cd19 ct19 oc20 kV20 dc20 pm20 cd20 ct20 oc21 kV21 dc21 pm21 cd21 ct21 oc22 kV22 dc22 pm22 cd22 ct22 oc23 kV23 dc23 pm23 cd23 ct23 oc24 kV24 dc24 pm24 cd24 ct24 oc25 kV25 dc25 pm25 cd25 ct25 oc26 kV26 dc26 pm26 cd26 ct26 oc27 kV27 dc27 pm27 cd27 ct27 oc28 kV28 dc28 pm28 cd28 ct28 oc29 kV29 dc29 pm29 cd29 ct29 oc30 kV30 dc30 pm30 cd30 ct30 oc31 kV31 dc31 pm31 cd31 ct31 oc32 kV32 dc32 pm32 cd32 ct32 oc33 kV33 dc33 pm33 cd33 ct33 oc34 kV34 dc34 pm34 cd34 ct34 oc35 kV35 dc35 pm35 cd35 ct35 oc36 kV36 dc36 pm36 cd36 ct36 oc37 kV37 dc37 pm37 cd37 ct37 oc38 kV38 dc38 pm38 cd38 ct38:Value}
  (a1:PySem.W.findIn K (.ref c_NoText) "__init__" = some (some (.ref f1))) (i1:PySem.W.isFn K (.ref f1) = true)
  (l1:K.lookup f1 = some ⟨oc1,od1,.func (PySem.W.fnOf "__init__" "NoText.__init__" (defArgs s_NoText___init__) (defBody s_NoText___init__) (defScope s_NoText___init__) .none kV1 dc1 pm1 an1 cd1 ct1),sl1⟩) (c1:PySem.W.codeIn K cd1 "NoText.__init__" = true) (k1:PySem.W.keepIn K (.ref f1) = true)
  (a2:PySem.W.nsIn K mainGlobals "is_whole" = some (some (.ref f2)))
  (l2:K.lookup f2 = some ⟨oc2,od2,.func (PySem.W.fnOf "is_whole" "is_whole" (defArgs s_is_whole) (defBody s_is_whole) (defScope s_is_whole) .none kV2 dc2 pm2 an2 cd2 ct2),sl2⟩) (c2:PySem.W.codeIn K cd2 "is_whole" = true) (k2:PySem.W.keepIn K (.ref f2) = true)
  (a3:PySem.W.nsIn K mainGlobals "is_between" = some (some (.ref f3)))
  (l3:K.lookup f3 = some ⟨oc3,od3,.func (PySem.W.fnOf "is_between" "is_between" (defArgs s_is_between) (defBody s_is_between) (defScope s_is_between) .none kV3 dc3 pm3 an3 cd3 ct3),sl3⟩) (c3:PySem.W.codeIn K cd3 "is_between" = true) (k3:PySem.W.keepIn K (.ref f3) = true)
  (a4:PySem.W.nsIn K mainGlobals "need_width" = some (some (.ref f4)))
  (l4:K.lookup f4 = some ⟨oc4,od4,.func (PySem.W.fnOf "need_width" "need_width" (defArgs s_need_width) (defBody s_need_width) (defScope s_need_width) .none kV4 dc4 pm4 an4 cd4 ct4),sl4⟩) (c4:PySem.W.codeIn K cd4 "need_width" = true) (k4:PySem.W.keepIn K (.ref f4) = true)
  (a5:PySem.W.nsIn K mainGlobals "is_word" = some (some (.ref f5)))
  (l5:K.lookup f5 = some ⟨oc5,od5,.func (PySem.W.fnOf "is_word" "is_word" (defArgs s_is_word) (defBody s_is_word) (defScope s_is_word) .none kV5 dc5 pm5 an5 cd5 ct5),sl5⟩) (c5:PySem.W.codeIn K cd5 "is_word" = true) (k5:PySem.W.keepIn K (.ref f5) = true)
  (a6:PySem.W.findIn K (.ref c_Kind) "__init__" = some (some (.ref f6))) (i6:PySem.W.isFn K (.ref f6) = true)
  (l6:K.lookup f6 = some ⟨oc6,od6,.func (PySem.W.fnOf "__init__" "Kind.__init__" (defArgs s_Kind___init__) (defBody s_Kind___init__) (defScope s_Kind___init__) .none kV6 dc6 pm6 an6 cd6 ct6),sl6⟩) (c6:PySem.W.codeIn K cd6 "Kind.__init__" = true) (k6:PySem.W.keepIn K (.ref f6) = true)
  (a7:PySem.W.findIn K (.ref c_Plain) "count_of" = some (some (.ref f7))) (i7:PySem.W.isFn K (.ref f7) = true) (h_Signed_count_of:PySem.W.findIn K (.ref c_Signed) "count_of" = some (some (.ref f7))) (h_Pointed_count_of:PySem.W.findIn K (.ref c_Pointed) "count_of" = some (some (.ref f7)))
  (l7:K.lookup f7 = some ⟨oc7,od7,.func (PySem.W.fnOf "count_of" "Kind.count_of" (defArgs s_Kind_count_of) (defBody s_Kind_count_of) (defScope s_Kind_count_of) .none kV7 dc7 pm7 an7 cd7 ct7),sl7⟩) (c7:PySem.W.codeIn K cd7 "Kind.count_of" = true) (k7:PySem.W.keepIn K (.ref f7) = true)
  (a8:PySem.W.findIn K (.ref c_Plain) "bits_of" = some (some (.ref f8))) (i8:PySem.W.isFn K (.ref f8) = true) (h_Signed_bits_of:PySem.W.findIn K (.ref c_Signed) "bits_of" = some (some (.ref f8))) (h_Pointed_bits_of:PySem.W.findIn K (.ref c_Pointed) "bits_of" = some (some (.ref f8)))
  (l8:K.lookup f8 = some ⟨oc8,od8,.func (PySem.W.fnOf "bits_of" "Kind.bits_of" (defArgs s_Kind_bits_of) (defBody s_Kind_bits_of) (defScope s_Kind_bits_of) .none kV8 dc8 pm8 an8 cd8 ct8),sl8⟩) (c8:PySem.W.codeIn K cd8 "Kind.bits_of" = true) (k8:PySem.W.keepIn K (.ref f8) = true)
  (a9:PySem.W.findIn K (.ref c_Plain) "shown" = some (some (.ref f9))) (i9:PySem.W.isFn K (.ref f9) = true) (h_Signed_shown:PySem.W.findIn K (.ref c_Signed) "shown" = some (some (.ref f9))) (h_Pointed_shown:PySem.W.findIn K (.ref c_Pointed) "shown" = some (some (.ref f9)))
  (l9:K.lookup f9 = some ⟨oc9,od9,.func (PySem.W.fnOf "shown" "Kind.shown" (defArgs s_Kind_shown) (defBody s_Kind_shown) (defScope s_Kind_shown) .none kV9 dc9 pm9 an9 cd9 ct9),sl9⟩) (c9:PySem.W.codeIn K cd9 "Kind.shown" = true) (k9:PySem.W.keepIn K (.ref f9) = true)
  (a10:PySem.W.findIn K (.ref c_Plain) "read" = some (some (.ref f10))) (i10:PySem.W.isFn K (.ref f10) = true) (h_Signed_read:PySem.W.findIn K (.ref c_Signed) "read" = some (some (.ref f10))) (h_Pointed_read:PySem.W.findIn K (.ref c_Pointed) "read" = some (some (.ref f10)))
  (l10:K.lookup f10 = some ⟨oc10,od10,.func (PySem.W.fnOf "read" "Kind.read" (defArgs s_Kind_read) (defBody s_Kind_read) (defScope s_Kind_read) .none kV10 dc10 pm10 an10 cd10 ct10),sl10⟩) (c10:PySem.W.codeIn K cd10 "Kind.read" = true) (k10:PySem.W.keepIn K (.ref f10) = true)
  (a11:PySem.W.findIn K (.ref c_Plain) "__init__" = some (some (.ref f11))) (i11:PySem.W.isFn K (.ref f11) = true)
  (l11:K.lookup f11 = some ⟨oc11,od11,.func (PySem.W.fnOf "__init__" "Plain.__init__" (defArgs s_Plain___init__) (defBody s_Plain___init__) (defScope s_Plain___init__) .none kV11 dc11 pm11 an11 cd11 ct11),sl11⟩) (c11:PySem.W.codeIn K cd11 "Plain.__init__" = true) (k11:PySem.W.keepIn K (.ref f11) = true)
  (a12:PySem.W.findIn K (.ref c_Plain) "least" = some (some (.ref f12))) (i12:PySem.W.isFn K (.ref f12) = true)
  (l12:K.lookup f12 = some ⟨oc12,od12,.func (PySem.W.fnOf "least" "Plain.least" (defArgs s_Plain_least) (defBody s_Plain_least) (defScope s_Plain_least) .none kV12 dc12 pm12 an12 cd12 ct12),sl12⟩) (c12:PySem.W.codeIn K cd12 "Plain.least" = true) (k12:PySem.W.keepIn K (.ref f12) = true)
  (a13:PySem.W.findIn K (.ref c_Plain) "greatest" = some (some (.ref f13))) (i13:PySem.W.isFn K (.ref f13) = true)
  (l13:K.lookup f13 = some ⟨oc13,od13,.func (PySem.W.fnOf "greatest" "Plain.greatest" (defArgs s_Plain_greatest) (defBody s_Plain_greatest) (defScope s_Plain_greatest) .none kV13 dc13 pm13 an13 cd13 ct13),sl13⟩) (c13:PySem.W.codeIn K cd13 "Plain.greatest" = true) (k13:PySem.W.keepIn K (.ref f13) = true)
  (a14:PySem.W.findIn K (.ref c_Signed) "__init__" = some (some (.ref f14))) (i14:PySem.W.isFn K (.ref f14) = true)
  (l14:K.lookup f14 = some ⟨oc14,od14,.func (PySem.W.fnOf "__init__" "Signed.__init__" (defArgs s_Signed___init__) (defBody s_Signed___init__) (defScope s_Signed___init__) .none kV14 dc14 pm14 an14 cd14 ct14),sl14⟩) (c14:PySem.W.codeIn K cd14 "Signed.__init__" = true) (k14:PySem.W.keepIn K (.ref f14) = true)
  (a15:PySem.W.findIn K (.ref c_Signed) "least" = some (some (.ref f15))) (i15:PySem.W.isFn K (.ref f15) = true)
  (l15:K.lookup f15 = some ⟨oc15,od15,.func (PySem.W.fnOf "least" "Signed.least" (defArgs s_Signed_least) (defBody s_Signed_least) (defScope s_Signed_least) .none kV15 dc15 pm15 an15 cd15 ct15),sl15⟩) (c15:PySem.W.codeIn K cd15 "Signed.least" = true) (k15:PySem.W.keepIn K (.ref f15) = true)
  (a16:PySem.W.findIn K (.ref c_Signed) "greatest" = some (some (.ref f16))) (i16:PySem.W.isFn K (.ref f16) = true)
  (l16:K.lookup f16 = some ⟨oc16,od16,.func (PySem.W.fnOf "greatest" "Signed.greatest" (defArgs s_Signed_greatest) (defBody s_Signed_greatest) (defScope s_Signed_greatest) .none kV16 dc16 pm16 an16 cd16 ct16),sl16⟩) (c16:PySem.W.codeIn K cd16 "Signed.greatest" = true) (k16:PySem.W.keepIn K (.ref f16) = true)
  (a17:PySem.W.findIn K (.ref c_Pointed) "__init__" = some (some (.ref f17))) (i17:PySem.W.isFn K (.ref f17) = true)
  (l17:K.lookup f17 = some ⟨oc17,od17,.func (PySem.W.fnOf "__init__" "Pointed.__init__" (defArgs s_Pointed___init__) (defBody s_Pointed___init__) (defScope s_Pointed___init__) .none kV17 dc17 pm17 an17 cd17 ct17),sl17⟩) (c17:PySem.W.codeIn K cd17 "Pointed.__init__" = true) (k17:PySem.W.keepIn K (.ref f17) = true)
  (a18:PySem.W.findIn K (.ref c_Pointed) "least" = some (some (.ref f18))) (i18:PySem.W.isFn K (.ref f18) = true)
  (l18:K.lookup f18 = some ⟨oc18,od18,.func (PySem.W.fnOf "least" "Pointed.least" (defArgs s_Pointed_least) (defBody s_Pointed_least) (defScope s_Pointed_least) .none kV18 dc18 pm18 an18 cd18 ct18),sl18⟩) (c18:PySem.W.codeIn K cd18 "Pointed.least" = true) (k18:PySem.W.keepIn K (.ref f18) = true)
  (a19:PySem.W.findIn K (.ref c_Pointed) "greatest" = some (some (.ref f19))) (i19:PySem.W.isFn K (.ref f19) = true)
  (l19:K.lookup f19 = some ⟨oc19,od19,.func (PySem.W.fnOf "greatest" "Pointed.greatest" (defArgs s_Pointed_greatest) (defBody s_Pointed_greatest) (defScope s_Pointed_greatest) .none kV19 dc19 pm19 an19 cd19 ct19),sl19⟩) (c19:PySem.W.codeIn K cd19 "Pointed.greatest" = true) (k19:PySem.W.keepIn K (.ref f19) = true)
  (a20:PySem.W.nsIn K mainGlobals "half" = some (some (.ref f20)))
  (l20:K.lookup f20 = some ⟨oc20,od20,.func (PySem.W.fnOf "half" "half" (defArgs s_half) (defBody s_half) (defScope s_half) .none kV20 dc20 pm20 an20 cd20 ct20),sl20⟩) (c20:PySem.W.codeIn K cd20 "half" = true) (k20:PySem.W.keepIn K (.ref f20) = true)
  (a21:PySem.W.nsIn K mainGlobals "figures_behind" = some (some (.ref f21)))
  (l21:K.lookup f21 = some ⟨oc21,od21,.func (PySem.W.fnOf "figures_behind" "figures_behind" (defArgs s_figures_behind) (defBody s_figures_behind) (defScope s_figures_behind) .none kV21 dc21 pm21 an21 cd21 ct21),sl21⟩) (c21:PySem.W.codeIn K cd21 "figures_behind" = true) (k21:PySem.W.keepIn K (.ref f21) = true)
  (a22:PySem.W.nsIn K mainGlobals "count_in" = some (some (.ref f22)))
  (l22:K.lookup f22 = some ⟨oc22,od22,.func (PySem.W.fnOf "count_in" "count_in" (defArgs s_count_in) (defBody s_count_in) (defScope s_count_in) .none kV22 dc22 pm22 an22 cd22 ct22),sl22⟩) (c22:PySem.W.codeIn K cd22 "count_in" = true) (k22:PySem.W.keepIn K (.ref f22) = true)
  (a23:PySem.W.nsIn K mainGlobals "number_in" = some (some (.ref f23)))
  (l23:K.lookup f23 = some ⟨oc23,od23,.func (PySem.W.fnOf "number_in" "number_in" (defArgs s_number_in) (defBody s_number_in) (defScope s_number_in) .none kV23 dc23 pm23 an23 cd23 ct23),sl23⟩) (c23:PySem.W.codeIn K cd23 "number_in" = true) (k23:PySem.W.keepIn K (.ref f23) = true)
  (a24:PySem.W.nsIn K mainGlobals "_law_cell" = some (some (.ref f24)))
  (l24:K.lookup f24 = some ⟨oc24,od24,.func (PySem.W.fnOf "_law_cell" "_law_cell" (defArgs s__law_cell) (defBody s__law_cell) (defScope s__law_cell) .none kV24 dc24 pm24 an24 cd24 ct24),sl24⟩) (c24:PySem.W.codeIn K cd24 "_law_cell" = true) (k24:PySem.W.keepIn K (.ref f24) = true)
  (a25:PySem.W.nsIn K mainGlobals "_law_box" = some (some (.ref f25)))
  (l25:K.lookup f25 = some ⟨oc25,od25,.func (PySem.W.fnOf "_law_box" "_law_box" (defArgs s__law_box) (defBody s__law_box) (defScope s__law_box) .none kV25 dc25 pm25 an25 cd25 ct25),sl25⟩) (c25:PySem.W.codeIn K cd25 "_law_box" = true) (k25:PySem.W.keepIn K (.ref f25) = true)
  (a26:PySem.W.nsIn K mainGlobals "_law_take" = some (some (.ref f26)))
  (l26:K.lookup f26 = some ⟨oc26,od26,.func (PySem.W.fnOf "_law_take" "_law_take" (defArgs s__law_take) (defBody s__law_take) (defScope s__law_take) .none kV26 dc26 pm26 an26 cd26 ct26),sl26⟩) (c26:PySem.W.codeIn K cd26 "_law_take" = true) (k26:PySem.W.keepIn K (.ref f26) = true)
  (a27:PySem.W.nsIn K mainGlobals "_law_bits" = some (some (.ref f27)))
  (l27:K.lookup f27 = some ⟨oc27,od27,.func (PySem.W.fnOf "_law_bits" "_law_bits" (defArgs s__law_bits) (defBody s__law_bits) (defScope s__law_bits) .none kV27 dc27 pm27 an27 cd27 ct27),sl27⟩) (c27:PySem.W.codeIn K cd27 "_law_bits" = true) (k27:PySem.W.keepIn K (.ref f27) = true)
  (a28:PySem.W.nsIn K mainGlobals "_law_spec" = some (some (.ref f28)))
  (l28:K.lookup f28 = some ⟨oc28,od28,.func (PySem.W.fnOf "_law_spec" "_law_spec" (defArgs s__law_spec) (defBody s__law_spec) (defScope s__law_spec) .none kV28 dc28 pm28 an28 cd28 ct28),sl28⟩) (c28:PySem.W.codeIn K cd28 "_law_spec" = true) (k28:PySem.W.keepIn K (.ref f28) = true)
  (a29:PySem.W.nsIn K mainGlobals "_law_kind" = some (some (.ref f29)))
  (l29:K.lookup f29 = some ⟨oc29,od29,.func (PySem.W.fnOf "_law_kind" "_law_kind" (defArgs s__law_kind) (defBody s__law_kind) (defScope s__law_kind) .none kV29 dc29 pm29 an29 cd29 ct29),sl29⟩) (c29:PySem.W.codeIn K cd29 "_law_kind" = true) (k29:PySem.W.keepIn K (.ref f29) = true)
  (a30:PySem.W.nsIn K mainGlobals "_law_ends" = some (some (.ref f30)))
  (l30:K.lookup f30 = some ⟨oc30,od30,.func (PySem.W.fnOf "_law_ends" "_law_ends" (defArgs s__law_ends) (defBody s__law_ends) (defScope s__law_ends) .none kV30 dc30 pm30 an30 cd30 ct30),sl30⟩) (c30:PySem.W.codeIn K cd30 "_law_ends" = true) (k30:PySem.W.keepIn K (.ref f30) = true)
  (a31:PySem.W.nsIn K mainGlobals "_law_are_figures" = some (some (.ref f31)))
  (l31:K.lookup f31 = some ⟨oc31,od31,.func (PySem.W.fnOf "_law_are_figures" "_law_are_figures" (defArgs s__law_are_figures) (defBody s__law_are_figures) (defScope s__law_are_figures) .none kV31 dc31 pm31 an31 cd31 ct31),sl31⟩) (c31:PySem.W.codeIn K cd31 "_law_are_figures" = true) (k31:PySem.W.keepIn K (.ref f31) = true)
  (a32:PySem.W.nsIn K mainGlobals "_law_read" = some (some (.ref f32)))
  (l32:K.lookup f32 = some ⟨oc32,od32,.func (PySem.W.fnOf "_law_read" "_law_read" (defArgs s__law_read) (defBody s__law_read) (defScope s__law_read) .none kV32 dc32 pm32 an32 cd32 ct32),sl32⟩) (c32:PySem.W.codeIn K cd32 "_law_read" = true) (k32:PySem.W.keepIn K (.ref f32) = true)
  (a33:PySem.W.nsIn K mainGlobals "_law_told" = some (some (.ref f33)))
  (l33:K.lookup f33 = some ⟨oc33,od33,.func (PySem.W.fnOf "_law_told" "_law_told" (defArgs s__law_told) (defBody s__law_told) (defScope s__law_told) .none kV33 dc33 pm33 an33 cd33 ct33),sl33⟩) (c33:PySem.W.codeIn K cd33 "_law_told" = true) (k33:PySem.W.keepIn K (.ref f33) = true)
  (a34:PySem.W.nsIn K mainGlobals "_law_due" = some (some (.ref f34)))
  (l34:K.lookup f34 = some ⟨oc34,od34,.func (PySem.W.fnOf "_law_due" "_law_due" (defArgs s__law_due) (defBody s__law_due) (defScope s__law_due) .none kV34 dc34 pm34 an34 cd34 ct34),sl34⟩) (c34:PySem.W.codeIn K cd34 "_law_due" = true) (k34:PySem.W.keepIn K (.ref f34) = true)
  (a35:PySem.W.nsIn K mainGlobals "_law_changed" = some (some (.ref f35)))
  (l35:K.lookup f35 = some ⟨oc35,od35,.func (PySem.W.fnOf "_law_changed" "_law_changed" (defArgs s__law_changed) (defBody s__law_changed) (defScope s__law_changed) .none kV35 dc35 pm35 an35 cd35 ct35),sl35⟩) (c35:PySem.W.codeIn K cd35 "_law_changed" = true) (k35:PySem.W.keepIn K (.ref f35) = true)
  (a36:PySem.W.nsIn K mainGlobals "_law_same" = some (some (.ref f36)))
  (l36:K.lookup f36 = some ⟨oc36,od36,.func (PySem.W.fnOf "_law_same" "_law_same" (defArgs s__law_same) (defBody s__law_same) (defScope s__law_same) .none kV36 dc36 pm36 an36 cd36 ct36),sl36⟩) (c36:PySem.W.codeIn K cd36 "_law_same" = true) (k36:PySem.W.keepIn K (.ref f36) = true)
  (a37:PySem.W.nsIn K mainGlobals "_law_word_right" = some (some (.ref f37)))
  (l37:K.lookup f37 = some ⟨oc37,od37,.func (PySem.W.fnOf "_law_word_right" "_law_word_right" (defArgs s__law_word_right) (defBody s__law_word_right) (defScope s__law_word_right) .none kV37 dc37 pm37 an37 cd37 ct37),sl37⟩) (c37:PySem.W.codeIn K cd37 "_law_word_right" = true) (k37:PySem.W.keepIn K (.ref f37) = true)
  (a38:PySem.W.nsIn K mainGlobals "law" = some (some (.ref f38)))
  (l38:K.lookup f38 = some ⟨oc38,od38,.func (PySem.W.fnOf "law" "law" (defArgs s_law) (defBody s_law) (defScope s_law) .none kV38 dc38 pm38 an38 cd38 ct38),sl38⟩) (c38:PySem.W.codeIn K cd38 "law" = true) (k38:PySem.W.keepIn K (.ref f38) = true)
  (aC_Kind:PySem.W.nsIn K mainGlobals "Kind" = some (some (.ref c_Kind))) (pg_Kind:PySem.W.plainGet K c_Kind Str.empty = true) (hd_Kind:PySem.W.hasDictIn K c_Kind = true) (po_Kind:PySem.W.plainOver K c_Kind = true) (sa_Kind:PySem.W.findIn K (.ref c_Kind) "__setattr__" = some (some (.builtin "object.__setattr__")))
  (rd_Kind:PySem.W.readsIn K c_Kind (.type "type") = true) (ga_Kind:PySem.W.specialIn K (.ref c_Kind) "__getattribute__" = some (some (.builtin "type.__getattribute__"))) (fn_Kind___init__:PySem.W.findCls K (.ref c_Kind) (.type "type") "__init__" = some (.val (.ref f6)))
  (aC_Plain:PySem.W.nsIn K mainGlobals "Plain" = some (some (.ref c_Plain))) (pg_Plain:PySem.W.plainGet K c_Plain Str.empty = true) (hd_Plain:PySem.W.hasDictIn K c_Plain = true) (po_Plain:PySem.W.plainOver K c_Plain = true) (sa_Plain:PySem.W.findIn K (.ref c_Plain) "__setattr__" = some (some (.builtin "object.__setattr__")))
  (mk_Plain:PySem.W.makesIn K c_Plain = true) (kc_Plain:PySem.W.keepIn K (.ref c_Plain) = true)
  (na_Plain_width:PySem.W.findIn K (.ref c_Plain) "width" = some none)
  (na_Plain_point:PySem.W.findIn K (.ref c_Plain) "point" = some none)
  (aC_Signed:PySem.W.nsIn K mainGlobals "Signed" = some (some (.ref c_Signed))) (pg_Signed:PySem.W.plainGet K c_Signed Str.empty = true) (hd_Signed:PySem.W.hasDictIn K c_Signed = true) (po_Signed:PySem.W.plainOver K c_Signed = true) (sa_Signed:PySem.W.findIn K (.ref c_Signed) "__setattr__" = some (some (.builtin "object.__setattr__")))
  (mk_Signed:PySem.W.makesIn K c_Signed = true) (kc_Signed:PySem.W.keepIn K (.ref c_Signed) = true)
  (na_Signed_width:PySem.W.findIn K (.ref c_Signed) "width" = some none)
  (na_Signed_point:PySem.W.findIn K (.ref c_Signed) "point" = some none)
  (aC_Pointed:PySem.W.nsIn K mainGlobals "Pointed" = some (some (.ref c_Pointed))) (pg_Pointed:PySem.W.plainGet K c_Pointed Str.empty = true) (hd_Pointed:PySem.W.hasDictIn K c_Pointed = true) (po_Pointed:PySem.W.plainOver K c_Pointed = true) (sa_Pointed:PySem.W.findIn K (.ref c_Pointed) "__setattr__" = some (some (.builtin "object.__setattr__")))
  (mk_Pointed:PySem.W.makesIn K c_Pointed = true) (kc_Pointed:PySem.W.keepIn K (.ref c_Pointed) = true)
  (na_Pointed_width:PySem.W.findIn K (.ref c_Pointed) "width" = some none)
  (na_Pointed_point:PySem.W.findIn K (.ref c_Pointed) "point" = some none)
  (aC_NoText:PySem.W.nsIn K mainGlobals "NoText" = some (some (.ref c_NoText)))
  (aC_WiseError:PySem.W.nsIn K mainGlobals "WiseError" = some (some (.ref c_WiseError)))
  (xe_NoText:excFn K c_NoText f1 = true) (xs_NoText:PySem.W.findIn K (.ref c_NoText) "__setattr__" = some (some (.builtin "object.__setattr__"))) (xm_NoText:PySem.W.mroIn K c_NoText (.type "object") = some true) (xn_NoText:PySem.W.findIn K (.ref c_NoText) "found" = some none) (xf_NoText:PySem.W.typeIn K (.ref f1) = some (.type "function")) (xk_NoText:PySem.W.keepIn K (.ref c_NoText) = true)
  {tN_LONGEST_SHOWN:Tok} (aN_LONGEST_SHOWN:PySem.W.nsIn K mainGlobals "LONGEST_SHOWN" = some (some (.int 43 tN_LONGEST_SHOWN)))
  (kf_dc_Plain:PySem.W.findIn K (.ref c_Plain) "__class__" = some (some (.builtin "object.__class__")))
  (kf_mo_Plain:PySem.W.mroIn K c_Plain (.type "object") = some true)
  (kf_ik_Plain:PySem.W.mroIn K c_Plain (.ref c_Kind) = some true)
  (kf_dc_Signed:PySem.W.findIn K (.ref c_Signed) "__class__" = some (some (.builtin "object.__class__")))
  (kf_mo_Signed:PySem.W.mroIn K c_Signed (.type "object") = some true)
  (kf_ik_Signed:PySem.W.mroIn K c_Signed (.ref c_Kind) = some true)
  (kf_dc_Pointed:PySem.W.findIn K (.ref c_Pointed) "__class__" = some (some (.builtin "object.__class__")))
  (kf_mo_Pointed:PySem.W.mroIn K c_Pointed (.type "object") = some true)
  (kf_ik_Pointed:PySem.W.mroIn K c_Pointed (.ref c_Kind) = some true)
  (kf_kc:PySem.W.isClsIn K c_Kind = true)
  (kf_kt:PySem.W.typeIn K (.ref c_Kind) = some (.type "type"))
  (kf_og:PySem.W.specialIn K (.builtin "object.__class__") "__get__" = some (some (.builtin "getset_descriptor.__get__")))
  (kf_ot:PySem.W.takesIn K (.builtin "object.__class__") = some true)
  (kf_kc_Plain:PySem.W.isClsIn K c_Plain = true)
  (kf_kt_Plain:PySem.W.typeIn K (.ref c_Plain) = some (.type "type"))
  (kf_m_Plain_Plain:PySem.W.mroIn K c_Plain (.ref c_Plain) = some true)
  (kf_m_Plain_Signed:PySem.W.mroIn K c_Plain (.ref c_Signed) = some false)
  (kf_m_Plain_Pointed:PySem.W.mroIn K c_Plain (.ref c_Pointed) = some false)
  (kf_kc_Signed:PySem.W.isClsIn K c_Signed = true)
  (kf_kt_Signed:PySem.W.typeIn K (.ref c_Signed) = some (.type "type"))
  (kf_m_Signed_Plain:PySem.W.mroIn K c_Signed (.ref c_Plain) = some false)
  (kf_m_Signed_Signed:PySem.W.mroIn K c_Signed (.ref c_Signed) = some true)
  (kf_m_Signed_Pointed:PySem.W.mroIn K c_Signed (.ref c_Pointed) = some false)
  (kf_kc_Pointed:PySem.W.isClsIn K c_Pointed = true)
  (kf_kt_Pointed:PySem.W.typeIn K (.ref c_Pointed) = some (.type "type"))
  (kf_m_Pointed_Plain:PySem.W.mroIn K c_Pointed (.ref c_Plain) = some false)
  (kf_m_Pointed_Signed:PySem.W.mroIn K c_Pointed (.ref c_Signed) = some false)
  (kf_m_Pointed_Pointed:PySem.W.mroIn K c_Pointed (.ref c_Pointed) = some true)
  (kf_if_:PySem.W.isClsIn K c_NoText = true)
  (kf_tf:PySem.W.typeIn K (.ref c_NoText) = some (.type "type"))
  (kf_mf:PySem.W.mroIn K c_NoText (.ref c_NoText) = some true)
  (kf_wb:PySem.W.mroIn K c_NoText (.type "BaseException") = some true)
  (kf_ga:PySem.W.findIn K (.ref c_NoText) "__getattribute__" = some (some (.builtin "BaseException.__getattribute__")))
  (kf_gn:PySem.W.findIn K (.ref c_NoText) "__getattr__" = some none)
  (kf_gc:PySem.W.findIn K (.ref c_NoText) "__class__" = some (some (.builtin "object.__class__")))
  (kf_mo:PySem.W.mroIn K c_NoText (.type "object") = some true)
  (kf_mb:PySem.W.mroIn K c_NoText (.type "BaseException") = some true)
  (kf_hd:PySem.W.hasDictIn K c_NoText = true)
  (kf_nf:PySem.W.findIn K (.ref c_NoText) "found" = some none)
  (kf_wm:PySem.W.mroIn K c_NoText (.ref c_WiseError) = some true)
  (kf_wt:PySem.W.typeIn K (.ref c_WiseError) = some (.type "type"))
  (kf_wc:PySem.W.isClsIn K c_WiseError = true)
  (z_isinstance:PySem.W.nsIn K mainGlobals "isinstance" = some none) (z_int:PySem.W.nsIn K mainGlobals "int" = some none) (z_bool:PySem.W.nsIn K mainGlobals "bool" = some none) (z_str:PySem.W.nsIn K mainGlobals "str" = some none) (z_tuple:PySem.W.nsIn K mainGlobals "tuple" = some none) (z_list:PySem.W.nsIn K mainGlobals "list" = some none) (z_len:PySem.W.nsIn K mainGlobals "len" = some none) (z_max:PySem.W.nsIn K mainGlobals "max" = some none) (z_min:PySem.W.nsIn K mainGlobals "min" = some none) (z_range:PySem.W.nsIn K mainGlobals "range" = some none) (z_abs:PySem.W.nsIn K mainGlobals "abs" = some none) :
  ∃ fd:FuncData,(∀ (s:Shared) (v:Value),BindsTo s fd ⟨[v],[]⟩ [("_law_script",v)])∧∀ base:Heap,K.In base→base.Ns mainGlobals mg→FnOk l.prog w K mg base CX0 9 fa fd ["_law_script"] ((spLaw K)):=by
 have e:=hfa.symm.trans (PySem.W.mg_of X G a38)
 cases e
 have T:Txt K mg ⟨c_Kind,c_Plain,c_Signed,c_Pointed,c_NoText,c_WiseError⟩:=⟨PySem.W.mg_none_of X G z_isinstance,PySem.W.mg_none_of X G z_int,PySem.W.mg_none_of X G z_bool,PySem.W.mg_none_of X G z_str,PySem.W.mg_none_of X G z_tuple,PySem.W.mg_none_of X G z_list,PySem.W.mg_none_of X G z_len,PySem.W.mg_none_of X G z_max,PySem.W.mg_none_of X G z_min,PySem.W.mg_none_of X G z_range,PySem.W.mg_none_of X G z_abs,PySem.W.mg_of X G aC_Kind,⟨pg_Kind,hd_Kind,po_Kind,sa_Kind⟩,PySem.W.mg_of X G aC_Plain,⟨pg_Plain,hd_Plain,po_Plain,sa_Plain⟩,na_Plain_width,na_Plain_point,PySem.W.mg_of X G aC_Signed,⟨pg_Signed,hd_Signed,po_Signed,sa_Signed⟩,na_Signed_width,na_Signed_point,PySem.W.mg_of X G aC_Pointed,⟨pg_Pointed,hd_Pointed,po_Pointed,sa_Pointed⟩,na_Pointed_width,na_Pointed_point,PySem.W.mg_of X G aC_NoText,PySem.W.mg_of X G aC_WiseError,⟨_,PySem.W.mg_of X G aN_LONGEST_SHOWN⟩,kf_dc_Plain,kf_mo_Plain,kf_ik_Plain,kf_dc_Signed,kf_mo_Signed,kf_ik_Signed,kf_dc_Pointed,kf_mo_Pointed,kf_ik_Pointed,kf_kc,kf_kt,kf_og,kf_ot,kf_kc_Plain,kf_kt_Plain,kf_m_Plain_Plain,kf_m_Plain_Signed,kf_m_Plain_Pointed,kf_kc_Signed,kf_kt_Signed,kf_m_Signed_Plain,kf_m_Signed_Signed,kf_m_Signed_Pointed,kf_kc_Pointed,kf_kt_Pointed,kf_m_Pointed_Plain,kf_m_Pointed_Signed,kf_m_Pointed_Pointed,kf_if_,kf_tf,kf_mf,kf_wb,kf_ga,kf_gn,kf_gc,kf_mo,kf_mb,kf_hd,kf_nf,kf_wm,kf_wt,kf_wc⟩
 have F1:=fun_mk (st:=s_NoText___init__) l1 c1 k1
 have b1:=F1.binds (ps:=["self", "found"]) fun _ _ _ _ _ _ us hl=>match us,hl with | [_,_],_=>rfl
 have F2:=fun_mk (st:=s_is_whole) l2 c2 k2
 have b2:=F2.binds (ps:=["thing"]) fun _ _ _ _ _ _ us hl=>match us,hl with | [_],_=>rfl
 have F3:=fun_mk (st:=s_is_between) l3 c3 k3
 have b3:=F3.binds (ps:=["thing", "low", "high"]) fun _ _ _ _ _ _ us hl=>match us,hl with | [_,_,_],_=>rfl
 have F4:=fun_mk (st:=s_need_width) l4 c4 k4
 have b4:=F4.binds (ps:=["width"]) fun _ _ _ _ _ _ us hl=>match us,hl with | [_],_=>rfl
 have F5:=fun_mk (st:=s_is_word) l5 c5 k5
 have b5:=F5.binds (ps:=["width", "thing"]) fun _ _ _ _ _ _ us hl=>match us,hl with | [_,_],_=>rfl
 have F6:=fun_mk (st:=s_Kind___init__) l6 c6 k6
 have b6:=F6.binds (ps:=["self", "width", "point"]) fun _ _ _ _ _ _ us hl=>match us,hl with | [_,_,_],_=>rfl
 have F7:=fun_mk (st:=s_Kind_count_of) l7 c7 k7
 have b7:=F7.binds (ps:=["self", "bits"]) fun _ _ _ _ _ _ us hl=>match us,hl with | [_,_],_=>rfl
 have F8:=fun_mk (st:=s_Kind_bits_of) l8 c8 k8
 have b8:=F8.binds (ps:=["self", "count"]) fun _ _ _ _ _ _ us hl=>match us,hl with | [_,_],_=>rfl
 have F9:=fun_mk (st:=s_Kind_shown) l9 c9 k9
 have b9:=F9.binds (ps:=["self", "bits"]) fun _ _ _ _ _ _ us hl=>match us,hl with | [_,_],_=>rfl
 have F10:=fun_mk (st:=s_Kind_read) l10 c10 k10
 have b10:=F10.binds (ps:=["self", "text"]) fun _ _ _ _ _ _ us hl=>match us,hl with | [_,_],_=>rfl
 have F11:=fun_mk (st:=s_Plain___init__) l11 c11 k11
 have b11:=F11.binds (ps:=["self", "width"]) fun _ _ _ _ _ _ us hl=>match us,hl with | [_,_],_=>rfl
 have F12:=fun_mk (st:=s_Plain_least) l12 c12 k12
 have b12:=F12.binds (ps:=["self"]) fun _ _ _ _ _ _ us hl=>match us,hl with | [_],_=>rfl
 have F13:=fun_mk (st:=s_Plain_greatest) l13 c13 k13
 have b13:=F13.binds (ps:=["self"]) fun _ _ _ _ _ _ us hl=>match us,hl with | [_],_=>rfl
 have F14:=fun_mk (st:=s_Signed___init__) l14 c14 k14
 have b14:=F14.binds (ps:=["self", "width"]) fun _ _ _ _ _ _ us hl=>match us,hl with | [_,_],_=>rfl
 have F15:=fun_mk (st:=s_Signed_least) l15 c15 k15
 have b15:=F15.binds (ps:=["self"]) fun _ _ _ _ _ _ us hl=>match us,hl with | [_],_=>rfl
 have F16:=fun_mk (st:=s_Signed_greatest) l16 c16 k16
 have b16:=F16.binds (ps:=["self"]) fun _ _ _ _ _ _ us hl=>match us,hl with | [_],_=>rfl
 have F17:=fun_mk (st:=s_Pointed___init__) l17 c17 k17
 have b17:=F17.binds (ps:=["self", "width", "point"]) fun _ _ _ _ _ _ us hl=>match us,hl with | [_,_,_],_=>rfl
 have F18:=fun_mk (st:=s_Pointed_least) l18 c18 k18
 have b18:=F18.binds (ps:=["self"]) fun _ _ _ _ _ _ us hl=>match us,hl with | [_],_=>rfl
 have F19:=fun_mk (st:=s_Pointed_greatest) l19 c19 k19
 have b19:=F19.binds (ps:=["self"]) fun _ _ _ _ _ _ us hl=>match us,hl with | [_],_=>rfl
 have F20:=fun_mk (st:=s_half) l20 c20 k20
 have b20:=F20.binds (ps:=["width"]) fun _ _ _ _ _ _ us hl=>match us,hl with | [_],_=>rfl
 have F21:=fun_mk (st:=s_figures_behind) l21 c21 k21
 have b21:=F21.binds (ps:=["rest", "point"]) fun _ _ _ _ _ _ us hl=>match us,hl with | [_,_],_=>rfl
 have F22:=fun_mk (st:=s_count_in) l22 c22 k22
 have b22:=F22.binds (ps:=["text", "point"]) fun _ _ _ _ _ _ us hl=>match us,hl with | [_,_],_=>rfl
 have F23:=fun_mk (st:=s_number_in) l23 c23 k23
 have b23:=F23.binds (ps:=["figures"]) fun _ _ _ _ _ _ us hl=>match us,hl with | [_],_=>rfl
 have F24:=fun_mk (st:=s__law_cell) l24 c24 k24
 have b24:=F24.binds (ps:=["_law_script", "_law_k"]) fun _ _ _ _ _ _ us hl=>match us,hl with | [_,_],_=>rfl
 have F25:=fun_mk (st:=s__law_box) l25 c25 k25
 have b25:=F25.binds (ps:=["_law_cell_here"]) fun _ _ _ _ _ _ us hl=>match us,hl with | [_],_=>rfl
 have F26:=fun_mk (st:=s__law_take) l26 c26 k26
 have b26:=F26.binds (ps:=["_law_box_here", "_law_many"]) fun _ _ _ _ _ _ us hl=>match us,hl with | [_,_],_=>rfl
 have F27:=fun_mk (st:=s__law_bits) l27 c27 k27
 have b27:=F27.binds (ps:=["_law_box_here", "_law_width"]) fun _ _ _ _ _ _ us hl=>match us,hl with | [_,_],_=>rfl
 have F28:=fun_mk (st:=s__law_spec) l28 c28 k28
 have b28:=F28.binds (ps:=["_law_box_here"]) fun _ _ _ _ _ _ us hl=>match us,hl with | [_],_=>rfl
 have F29:=fun_mk (st:=s__law_kind) l29 c29 k29
 have b29:=F29.binds (ps:=["_law_spec_here"]) fun _ _ _ _ _ _ us hl=>match us,hl with | [_],_=>rfl
 have F30:=fun_mk (st:=s__law_ends) l30 c30 k30
 have b30:=F30.binds (ps:=["_law_spec_here"]) fun _ _ _ _ _ _ us hl=>match us,hl with | [_],_=>rfl
 have F31:=fun_mk (st:=s__law_are_figures) l31 c31 k31
 have b31:=F31.binds (ps:=["_law_text"]) fun _ _ _ _ _ _ us hl=>match us,hl with | [_],_=>rfl
 have F32:=fun_mk (st:=s__law_read) l32 c32 k32
 have b32:=F32.binds (ps:=["_law_spec_here", "_law_text"]) fun _ _ _ _ _ _ us hl=>match us,hl with | [_,_],_=>rfl
 have F33:=fun_mk (st:=s__law_told) l33 c33 k33
 have b33:=F33.binds (ps:=["_law_kind_here", "_law_thing"]) fun _ _ _ _ _ _ us hl=>match us,hl with | [_,_],_=>rfl
 have F34:=fun_mk (st:=s__law_due) l34 c34 k34
 have b34:=F34.binds (ps:=["_law_spec_here", "_law_text"]) fun _ _ _ _ _ _ us hl=>match us,hl with | [_,_],_=>rfl
 have F35:=fun_mk (st:=s__law_changed) l35 c35 k35
 have b35:=F35.binds (ps:=["_law_box_here", "_law_text", "_law_other"]) fun _ _ _ _ _ _ us hl=>match us,hl with | [_,_,_],_=>rfl
 have F36:=fun_mk (st:=s__law_same) l36 c36 k36
 have b36:=F36.binds (ps:=["_law_found", "_law_due_here"]) fun _ _ _ _ _ _ us hl=>match us,hl with | [_,_],_=>rfl
 have F37:=fun_mk (st:=s__law_word_right) l37 c37 k37
 have b37:=F37.binds (ps:=["_law_box_here", "_law_kind_here", "_law_spec_here", "_law_word"]) fun _ _ _ _ _ _ us hl=>match us,hl with | [_,_,_,_],_=>rfl
 have F38:=fun_mk (st:=s_law) l38 c38 k38
 refine ⟨PySem.W.fnOf "law" "law" (defArgs s_law) (defBody s_law) (defScope s_law) .none kV38 dc38 pm38 an38 cd38 ct38,fun s v=>.of_eq rfl,fun base _ _=>?_⟩
 have Q_NoText:XCls K c_NoText f1 "found":=⟨xe_NoText,xs_NoText,xm_NoText,xn_NoText,xf_NoText,xk_NoText⟩
 have X_NoText:XHas l.prog w K mg base 1 "NoText" c_NoText "found":=⟨_,_,_,_,ok_NoText___init__ F1 T Q_NoText,b1,Q_NoText,PySem.W.mg_of X G aC_NoText⟩
 have B_Kind___init__:BHas l.prog w K mg base 1 "Kind" "__init__" ["self", "width", "point"] (spKinit K):=⟨c_Kind,_,_,⟨rd_Kind,ga_Kind,fn_Kind___init__,rfl,k6⟩,ok_Kind___init__ F6 T ,b6,PySem.W.mg_of X G aC_Kind⟩
 have H_is_whole:Has l.prog w K mg base 1 "is_whole" ["thing"] spWholeG:=⟨_,_,ok_is_whole F2 T ,b2,k2,PySem.W.mg_of X G a2⟩
 have H_is_between:Has l.prog w K mg base 2 "is_between" ["thing", "low", "high"] spBtwG:=⟨_,_,ok_is_between F3 T H_is_whole,b3,k3,PySem.W.mg_of X G a3⟩
 have W_is_between:Has l.prog w K mg base 2 "is_between" ["thing", "low", "high"] spBetween:=H_is_between.imp imp_between
 have H_is_word:Has l.prog w K mg base 3 "is_word" ["width", "thing"] spIsW:=⟨_,_,ok_is_word F5 T W_is_between,b5,k5,PySem.W.mg_of X G a5⟩
 have H_figures_behind:Has l.prog w K mg base 1 "figures_behind" ["rest", "point"] spFigB:=⟨_,_,ok_figures_behind F21 T ,b21,k21,PySem.W.mg_of X G a21⟩
 have H_number_in:Has l.prog w K mg base 1 "number_in" ["figures"] spNumI:=⟨_,_,ok_number_in F23 T ,b23,k23,PySem.W.mg_of X G a23⟩
 have H_count_in:Has l.prog w K mg base 2 "count_in" ["text", "point"] spCntI:=⟨_,_,ok_count_in F22 T H_number_in,b22,k22,PySem.W.mg_of X G a22⟩
 have H_need_width:Has l.prog w K mg base 3 "need_width" ["width"] spNeedW:=⟨_,_,ok_need_width F4 T W_is_between,b4,k4,PySem.W.mg_of X G a4⟩
 have C_Plain:CHas l.prog w K mg base 4 c_Plain "Plain" ["self", "width"] (spInit ⟨c_Kind,c_Plain,c_Signed,c_Pointed,c_NoText,c_WiseError⟩ 0):=⟨_,_,⟨mk_Plain,a11,i11,kc_Plain⟩,ok_Plain___init__ F11 T H_need_width B_Kind___init__,b11,PySem.W.mg_of X G aC_Plain⟩
 have M_Plain_least:MHas l.prog w K mg base 2 c_Plain "least" ["self"] (spLeast ⟨c_Kind,c_Plain,c_Signed,c_Pointed,c_NoText,c_WiseError⟩ 0):=⟨T.cl_Plain,_,_,⟨a12,i12,k12⟩,ok_Plain_least F12 T ,b12⟩
 have M_Plain_greatest:MHas l.prog w K mg base 2 c_Plain "greatest" ["self"] (spGreat ⟨c_Kind,c_Plain,c_Signed,c_Pointed,c_NoText,c_WiseError⟩ 0):=⟨T.cl_Plain,_,_,⟨a13,i13,k13⟩,ok_Plain_greatest F13 T ,b13⟩
 have C_Signed:CHas l.prog w K mg base 4 c_Signed "Signed" ["self", "width"] (spInit ⟨c_Kind,c_Plain,c_Signed,c_Pointed,c_NoText,c_WiseError⟩ 1):=⟨_,_,⟨mk_Signed,a14,i14,kc_Signed⟩,ok_Signed___init__ F14 T H_need_width B_Kind___init__,b14,PySem.W.mg_of X G aC_Signed⟩
 have H_half:Has l.prog w K mg base 1 "half" ["width"] spHalf:=⟨_,_,ok_half F20 T ,b20,k20,PySem.W.mg_of X G a20⟩
 have M_Signed_least:MHas l.prog w K mg base 2 c_Signed "least" ["self"] (spLeast ⟨c_Kind,c_Plain,c_Signed,c_Pointed,c_NoText,c_WiseError⟩ 1):=⟨T.cl_Signed,_,_,⟨a15,i15,k15⟩,ok_Signed_least F15 T H_half,b15⟩
 have M_Signed_greatest:MHas l.prog w K mg base 2 c_Signed "greatest" ["self"] (spGreat ⟨c_Kind,c_Plain,c_Signed,c_Pointed,c_NoText,c_WiseError⟩ 1):=⟨T.cl_Signed,_,_,⟨a16,i16,k16⟩,ok_Signed_greatest F16 T H_half,b16⟩
 have C_Pointed:CHas l.prog w K mg base 4 c_Pointed "Pointed" ["self", "width", "point"] (spInit2 ⟨c_Kind,c_Plain,c_Signed,c_Pointed,c_NoText,c_WiseError⟩):=⟨_,_,⟨mk_Pointed,a17,i17,kc_Pointed⟩,ok_Pointed___init__ F17 T H_need_width W_is_between B_Kind___init__,b17,PySem.W.mg_of X G aC_Pointed⟩
 have M_Pointed_least:MHas l.prog w K mg base 2 c_Pointed "least" ["self"] (spLeast ⟨c_Kind,c_Plain,c_Signed,c_Pointed,c_NoText,c_WiseError⟩ 2):=⟨T.cl_Pointed,_,_,⟨a18,i18,k18⟩,ok_Pointed_least F18 T H_half,b18⟩
 have M_Pointed_greatest:MHas l.prog w K mg base 2 c_Pointed "greatest" ["self"] (spGreat ⟨c_Kind,c_Plain,c_Signed,c_Pointed,c_NoText,c_WiseError⟩ 2):=⟨T.cl_Pointed,_,_,⟨a19,i19,k19⟩,ok_Pointed_greatest F19 T H_half,b19⟩
 have ML:∀ i,i < 3→MHas l.prog w K mg base 2 (cOf ⟨c_Kind,c_Plain,c_Signed,c_Pointed,c_NoText,c_WiseError⟩ i) "least" ["self"] (spLeast ⟨c_Kind,c_Plain,c_Signed,c_Pointed,c_NoText,c_WiseError⟩ i):=fun i hi=>by
  rcases (by omega:i = 0∨i = 1∨i = 2) with rfl | rfl | rfl
  ·exact M_Plain_least
  ·exact M_Signed_least
  ·exact M_Pointed_least
 have MG:∀ i,i < 3→MHas l.prog w K mg base 2 (cOf ⟨c_Kind,c_Plain,c_Signed,c_Pointed,c_NoText,c_WiseError⟩ i) "greatest" ["self"] (spGreat ⟨c_Kind,c_Plain,c_Signed,c_Pointed,c_NoText,c_WiseError⟩ i):=fun i hi=>by
  rcases (by omega:i = 0∨i = 1∨i = 2) with rfl | rfl | rfl
  ·exact M_Plain_greatest
  ·exact M_Signed_greatest
  ·exact M_Pointed_greatest
 have Z_MB:=ok_Kind_bits_of F8 T W_is_between ML MG
 have MB:∀ i,i < 3→MHas l.prog w K mg base 3 (cOf ⟨c_Kind,c_Plain,c_Signed,c_Pointed,c_NoText,c_WiseError⟩ i) "bits_of" ["self", "count"] (spBits ⟨c_Kind,c_Plain,c_Signed,c_Pointed,c_NoText,c_WiseError⟩):=fun i hi=>by
  rcases (by omega:i = 0∨i = 1∨i = 2) with rfl | rfl | rfl
  ·exact ⟨T.cl_Plain,_,_,⟨a8,i8,k8⟩,Z_MB,b8⟩
  ·exact ⟨T.cl_Signed,_,_,⟨h_Signed_bits_of,i8,k8⟩,Z_MB,b8⟩
  ·exact ⟨T.cl_Pointed,_,_,⟨h_Pointed_bits_of,i8,k8⟩,Z_MB,b8⟩
 have Z_MC:=ok_Kind_count_of F7 T H_is_word MG
 have MC:∀ i,i < 3→MHas l.prog w K mg base 4 (cOf ⟨c_Kind,c_Plain,c_Signed,c_Pointed,c_NoText,c_WiseError⟩ i) "count_of" ["self", "bits"] (spCnt ⟨c_Kind,c_Plain,c_Signed,c_Pointed,c_NoText,c_WiseError⟩):=fun i hi=>by
  rcases (by omega:i = 0∨i = 1∨i = 2) with rfl | rfl | rfl
  ·exact ⟨T.cl_Plain,_,_,⟨a7,i7,k7⟩,Z_MC,b7⟩
  ·exact ⟨T.cl_Signed,_,_,⟨h_Signed_count_of,i7,k7⟩,Z_MC,b7⟩
  ·exact ⟨T.cl_Pointed,_,_,⟨h_Pointed_count_of,i7,k7⟩,Z_MC,b7⟩
 have Z_MS:=ok_Kind_shown F9 T H_figures_behind MC
 have MS:∀ i,i < 3→MHas l.prog w K mg base 5 (cOf ⟨c_Kind,c_Plain,c_Signed,c_Pointed,c_NoText,c_WiseError⟩ i) "shown" ["self", "bits"] (spShow ⟨c_Kind,c_Plain,c_Signed,c_Pointed,c_NoText,c_WiseError⟩):=fun i hi=>by
  rcases (by omega:i = 0∨i = 1∨i = 2) with rfl | rfl | rfl
  ·exact ⟨T.cl_Plain,_,_,⟨a9,i9,k9⟩,Z_MS,b9⟩
  ·exact ⟨T.cl_Signed,_,_,⟨h_Signed_shown,i9,k9⟩,Z_MS,b9⟩
  ·exact ⟨T.cl_Pointed,_,_,⟨h_Pointed_shown,i9,k9⟩,Z_MS,b9⟩
 have Z_MR:=ok_Kind_read F10 T H_count_in H_is_between X_NoText ML MG MB MS
 have MR:∀ i,i < 3→MHasY l.prog w K mg base 6 (cOf ⟨c_Kind,c_Plain,c_Signed,c_Pointed,c_NoText,c_WiseError⟩ i) "read" ["self", "text"] (spRead ⟨c_Kind,c_Plain,c_Signed,c_Pointed,c_NoText,c_WiseError⟩):=fun i hi=>by
  rcases (by omega:i = 0∨i = 1∨i = 2) with rfl | rfl | rfl
  ·exact ⟨T.cl_Plain,_,_,⟨a10,i10,k10⟩,Z_MR,b10⟩
  ·exact ⟨T.cl_Signed,_,_,⟨h_Signed_read,i10,k10⟩,Z_MR,b10⟩
  ·exact ⟨T.cl_Pointed,_,_,⟨h_Pointed_read,i10,k10⟩,Z_MR,b10⟩
 have H__law_box:Has l.prog w K mg base 1 "_law_box" ["_law_cell_here"] spBox:=⟨_,_,ok__law_box F25 T ,b25,k25,PySem.W.mg_of X G a25⟩
 have H__law_take:Has l.prog w K mg base 1 "_law_take" ["_law_box_here", "_law_many"] spTake:=⟨_,_,ok__law_take F26 T ,b26,k26,PySem.W.mg_of X G a26⟩
 have H__law_spec:Has l.prog w K mg base 2 "_law_spec" ["_law_box_here"] spSpec:=⟨_,_,ok__law_spec F28 T H__law_take,b28,k28,PySem.W.mg_of X G a28⟩
 have H__law_kind:Has l.prog w K mg base 6 "_law_kind" ["_law_spec_here"] (spKind ⟨c_Kind,c_Plain,c_Signed,c_Pointed,c_NoText,c_WiseError⟩):=⟨_,_,ok__law_kind F29 T C_Pointed C_Plain C_Signed,b29,k29,PySem.W.mg_of X G a29⟩
 have H__law_cell:Has l.prog w K mg base 1 "_law_cell" ["_law_script", "_law_k"] (spCell K):=⟨_,_,ok__law_cell F24 T ,b24,k24,PySem.W.mg_of X G a24⟩
 have H__law_bits:Has l.prog w K mg base 2 "_law_bits" ["_law_box_here", "_law_width"] spLBits:=⟨_,_,ok__law_bits F27 T H__law_take,b27,k27,PySem.W.mg_of X G a27⟩
 have H__law_changed:Has l.prog w K mg base 2 "_law_changed" ["_law_box_here", "_law_text", "_law_other"] spChg:=⟨_,_,ok__law_changed F35 T H__law_take,b35,k35,PySem.W.mg_of X G a35⟩
 have H__law_same:Has l.prog w K mg base 1 "_law_same" ["_law_found", "_law_due_here"] spSm:=⟨_,_,ok__law_same F36 T ,b36,k36,PySem.W.mg_of X G a36⟩
 have H__law_ends:Has l.prog w K mg base 1 "_law_ends" ["_law_spec_here"] spEnds:=⟨_,_,ok__law_ends F30 T ,b30,k30,PySem.W.mg_of X G a30⟩
 have H__law_are_figures:Has l.prog w K mg base 1 "_law_are_figures" ["_law_text"] spFigs:=⟨_,_,ok__law_are_figures F31 T ,b31,k31,PySem.W.mg_of X G a31⟩
 have H__law_read:Has l.prog w K mg base 2 "_law_read" ["_law_spec_here", "_law_text"] spLRead:=⟨_,_,ok__law_read F32 T H__law_ends H__law_are_figures,b32,k32,PySem.W.mg_of X G a32⟩
 have H__law_told:Has l.prog w K mg base 7 "_law_told" ["_law_kind_here", "_law_thing"] (spTold ⟨c_Kind,c_Plain,c_Signed,c_Pointed,c_NoText,c_WiseError⟩):=⟨_,_,ok__law_told F33 T  MR,b33,k33,PySem.W.mg_of X G a33⟩
 have H__law_due:Has l.prog w K mg base 3 "_law_due" ["_law_spec_here", "_law_text"] spDue:=⟨_,_,ok__law_due F34 T H__law_read,b34,k34,PySem.W.mg_of X G a34⟩
 have H__law_word_right:Has l.prog w K mg base 8 "_law_word_right" ["_law_box_here", "_law_kind_here", "_law_spec_here", "_law_word"] (spWR ⟨c_Kind,c_Plain,c_Signed,c_Pointed,c_NoText,c_WiseError⟩):=⟨_,_,ok__law_word_right F37 T H__law_spec H__law_changed H__law_same H__law_bits H__law_read H__law_told H__law_kind H__law_due MS,b37,k37,PySem.W.mg_of X G a37⟩
 exact ok_law F38 T H__law_box H__law_spec H__law_kind H__law_cell H__law_bits H__law_word_right
theorem walk {l:PySem.W.OpenLaw} {q:Program} {loose:List Str} {XP:(Str→Option Value)→Heap→Prop} {YP:World→Heap→Prop} {d:DefRec} {K:Params→PySem.W.Frag} (hn:l.most = some 63) (hdf:d.params.defaults = [])
  (hY:∀ (w:World) (h:Heap),YP w h→(K w.params).In h)
  (F:∀ (w:World) (mg:Str→Option Value) (fa:Addr) (h:Heap),(K w.params).In h→h.Ns mainGlobals mg→mg d.name = some (.ref fa) →
   ∃ fd:FuncData,(∀ (s:Shared) (u:Value),BindsTo s fd ⟨[u],[]⟩ [("_law_script",u)])∧∀ base:Heap,(K w.params).In base→base.Ns mainGlobals mg→FnOk l.prog w (K w.params) mg base CX0 9 fa fd ["_law_script"] (spLaw (K w.params))) :
  PySem.W.WalkO q loose XP YP l.row.toRowW d [] (fun f vs=>PySem.call f vs) :=
 L2.walk_of (n:=63) (k:=9) (x:="_law_script") (CX:=fun _=>CX0) (sp:=fun w=>spLaw (K w.params)) hn (by decide) hdf ⟨rfl,by decide,by decide,rfl⟩ hY F (fun _ _ a ns hl _ hS=>⟨a,ns,rfl,hS,hl,fun _=>rfl⟩) fun _ _ _ _ _ z=>z
end Ow
open PySem PySem.W PyProof.Rows
def PySem.W.Fast.tw9316755581215040199:Nat:=0
def PySem.W.Fast.tw12938422486983369638:Nat:=0
def PySem.W.Fast.tw921099289065224168:Nat:=0
def PySem.W.Fast.tw16450795458376610174:Nat:=0
def PySem.W.Fast.tw17418469208584780893:Nat:=0
def PySem.W.Fast.tw14394923966293555605:Nat:=0
def PySem.W.Fast.tw6493972823793107555:Nat:=0
def PySem.W.Fast.tw12150570672836934121:Nat:=0
def PySem.W.Fast.tw15917180974919826265:Nat:=0
def PySem.W.Fast.tw596860829358366304:Nat:=0
def PySem.W.Fast.tw11243465281386197624:Nat:=0
def PySem.W.Fast.tw13670394397481227229:Nat:=0
def PySem.W.Fast.tw14165593796774278620:Nat:=0
def PySem.W.Fast.tw13125204018939771356:Nat:=0
def PySem.W.Fast.tw3468349956493423428:Nat:=0
def PySem.W.Fast.tw3852305633496269822:Nat:=0
def PySem.W.Fast.tw524886500369366817:Nat:=0
def PySem.W.Fast.tw12922129966338024477:Nat:=0
def PySem.W.Fast.tw5968249995449174469:Nat:=0
def PySem.W.Fast.tw2151790813794195470:Nat:=0
def PySem.W.Fast.tw5023754220739768861:Nat:=0
def PySem.W.Fast.tw5538743529828776823:Nat:=0
def PySem.W.Fast.tw3142289368834735947:Nat:=0
def PySem.W.Fast.tw882955026015388584:Nat:=0
def PySem.W.Fast.tw13000786749767379468:Nat:=0
def PySem.W.Fast.tw16203317420426408505:Nat:=0
def PySem.W.Fast.tw8830022916088902754:Nat:=0
def PySem.W.Fast.tw5184079950497908877:Nat:=0
def PySem.W.Fast.tw5543979449456619325:Nat:=0
def PySem.W.Fast.tw2672929736980796511:Nat:=0
def PySem.W.Fast.tw12699939352172851056:Nat:=0
def PySem.W.Fast.tw9895078669266162238:Nat:=0
def PySem.W.Fast.tw9930225895095749653:Nat:=0
def PySem.W.Fast.tw13647163442680838886:Nat:=0
def PySem.W.Fast.tw1328983083696104361:Nat:=0
def PySem.W.Fast.tw2362411289315422985:Nat:=0
def PySem.W.Fast.tw3290827470560341691:Nat:=0
def PySem.W.Fast.tw7611466307649808342:Nat:=0
def PySem.W.Fast.tw17117284283196865532:Nat:=0
def PySem.W.Fast.tw4315976154721134560:Nat:=0
def PySem.W.Fast.tw2838550271456598233:Nat:=0
def PySem.W.Fast.tw7248110549290955980:Nat:=0
def PySem.W.Fast.tw16575280543128732158:Nat:=0
def PySem.W.Fast.tw12100266494644007784:Nat:=0
def PySem.W.Fast.tw8846217378553118941:Nat:=0
def PySem.W.Fast.tw4952312423108521091:Nat:=0
def PySem.W.Fast.tw13556239551737023858:Nat:=0
def PySem.W.Fast.tw2965449185983702032:Nat:=0
def PySem.W.Fast.tw1596828956335800174:Nat:=0
def PySem.W.Fast.tw6638239478853847286:Nat:=0
def PySem.W.Fast.tw4422673241161866434:Nat:=0
def PySem.W.Fast.tw14576817699008656058:Nat:=0
def PySem.W.Fast.tw13474146092277629393:Nat:=0
def PySem.W.Fast.tw2209707793824542626:Nat:=0
def PySem.W.Fast.tw10700543362101840949:Nat:=0
def PySem.W.Fast.tw2361344881804304140:Nat:=0
def PySem.W.Fast.tw14924212454735031533:Nat:=0
def PySem.W.Fast.tw16569676670866801409:Nat:=0
def PySem.W.Fast.tw10693275876921657838:Nat:=0
def PySem.W.Fast.tw10187888566508206504:Nat:=0
def PySem.W.Fast.tw15271054567784451441:Nat:=0
def PySem.W.Fast.tw6097837029637784646:Nat:=0
def PySem.W.Fast.tw3381748904730248690:Nat:=0
def PySem.W.Fast.tw10066662452961443160:Nat:=0
def PySem.W.Fast.tw15042454314290642714:Nat:=0
def PySem.W.Fast.tw14064620995165319488:Nat:=0
def PySem.W.Fast.tw9981693656172995185:Nat:=0
def PySem.W.Fast.tw4376706543054118264:Nat:=0
def PySem.W.Fast.tw1051598424034694041:Nat:=0
def PySem.W.Fast.tw2781965974127720562:Nat:=0
def PySem.W.Fast.tw6512834867160552039:Nat:=0
def PySem.W.Fast.tw5323022949527426746:Nat:=0
def PySem.W.Fast.tw1875139345160350098:Nat:=0
def PySem.W.Fast.tw4574026922235536984:Nat:=0
def PySem.W.Fast.tw13958453221567654910:Nat:=0
def PySem.W.Fast.tw7617897368307828495:Nat:=0
def PySem.W.Fast.tw4904494703925490970:Nat:=0
def PySem.W.Fast.tw17774759024772607148:Nat:=0
def PySem.W.Fast.tw15569396118984234090:Nat:=0
def PySem.W.Fast.tw2733469929619301796:Nat:=0
def PySem.W.Fast.tw17390887352130012434:Nat:=0
def PySem.W.Fast.tw14966601030394232256:Nat:=0
def PySem.W.Fast.tw17877041250637743617:Nat:=0
def PySem.W.Fast.tw10527762554586702090:Nat:=0
def PySem.W.Fast.tw1389935649823864246:Nat:=0
def PySem.W.Fast.tw1520914666424250712:Nat:=0
def PySem.W.Fast.tw6739878072952441622:Nat:=0
def PySem.W.Fast.tw6301840660618544656:Nat:=0
def PySem.W.Fast.tw13359698359963503864:Nat:=0
def PySem.W.Fast.tw16984036988952278354:Nat:=0
def PySem.W.Fast.tw8579258942928447933:Nat:=0
def PySem.W.Fast.tw5047558509560300176:Nat:=0
def PySem.W.Fast.tw9379051339886250438:Nat:=0
def PySem.W.Fast.tw13872149225642031780:Nat:=0
def PySem.W.Fast.tw2092946253149756940:Nat:=0
def PySem.W.Fast.tw7007071031164678847:Nat:=0
def PySem.W.Fast.tw13336693327629588864:Nat:=0
def PySem.W.Fast.tw3272083618268659014:Nat:=0
def PySem.W.Fast.tw6607975356823241085:Nat:=0
def PySem.W.Fast.tw315709855192943535:Nat:=0
def PySem.W.Fast.tw9131306549361475524:Nat:=0
def PySem.W.Fast.tw16475550626555435100:Nat:=0
def PySem.W.Fast.tw15620883471514261774:Nat:=0
def PySem.W.Fast.tw3607242819378314483:Nat:=0
def PySem.W.Fast.tw10120019022604000667:Nat:=0
def PySem.W.Fast.tw4246683228618543702:Nat:=0
def PySem.W.Fast.tw7694634351654722652:Nat:=0
def PySem.W.Fast.tw769472725514937100:Nat:=0
def PySem.W.Fast.tw2567550347300032621:Nat:=0
def PySem.W.Fast.tw1935032276955942466:Nat:=0
def PySem.W.Fast.tw5007029132493889622:Nat:=0
def PySem.W.Fast.tw17325646198901313049:Nat:=0
def PySem.W.Fast.tw14615283316126912761:Nat:=0
def PySem.W.Fast.tw5115861571891182445:Nat:=0
def PySem.W.Fast.tw2678024115150088457:Nat:=0
def PySem.W.Fast.tw2694212588032686147:Nat:=0
def PySem.W.Fast.tw1486722851140742708:Nat:=0
def PySem.W.Fast.tw5665058980484472864:Nat:=0
def PySem.W.Fast.tw17584523540935409832:Nat:=0
def PySem.W.Fast.tw540725965187517203:Nat:=0
def PySem.W.Fast.tw7942572533291155407:Nat:=0
def PySem.W.Fast.tw5026246818067894973:Nat:=0
def PySem.W.Fast.tw12542637477406979485:Nat:=0
def PySem.W.Fast.tw9110927733125680293:Nat:=0
def PySem.W.Fast.tw16684194942932169253:Nat:=0
def PySem.W.Fast.tw3587516520468408588:Nat:=0
def PySem.W.Fast.tw11878853853271083325:Nat:=0
def PySem.W.Fast.tw10865548237090825705:Nat:=0
def PySem.W.Fast.tw953678922309561537:Nat:=0
def PySem.W.Fast.tw1971704995021060332:Nat:=0
def PySem.W.Fast.tw17309417624334761991:Nat:=0
def PySem.W.Fast.tw17414460651667754130:Nat:=0
def PySem.W.Fast.tw1269941159017396247:Nat:=0
def PySem.W.Fast.tw1357030666335635210:Nat:=0
def PySem.W.Fast.tw15444668179476010034:Nat:=0
def PySem.W.Fast.tw2380986985599315203:Nat:=0
def PySem.W.Fast.tw15823394305065132939:Nat:=0
def PySem.W.Fast.tw15806970978687701814:Nat:=0
def PySem.W.Fast.tw11684130885854864051:Nat:=0
def PySem.W.Fast.tw14381264919731047506:Nat:=0
def PySem.W.Fast.tw1226131012056637277:Nat:=0
def PySem.W.Fast.tw11486308288826727404:Nat:=0
def PySem.W.Fast.tw15250294652463786875:Nat:=0
def PySem.W.Fast.tw12800366667284323729:Nat:=0
def PySem.W.Fast.tw1225379293514471548:Nat:=0
def PySem.W.Fast.tw5374828345715590696:Nat:=0
def PySem.W.Fast.tw5817241077981046893:Nat:=0
def PySem.W.Fast.tw12812029504517619216:Nat:=0
def PySem.W.Fast.tw13592875988645206817:Nat:=0
def PySem.W.Fast.tw10259488327783557246:Nat:=0
def PySem.W.Fast.tw9569262473657869298:Nat:=0
def PySem.W.Fast.tw12873357349333475242:Nat:=0
def PySem.W.Fast.tw14431277817586375063:Nat:=0
def PySem.W.Fast.tw1965772790019955552:Nat:=0
def PySem.W.Fast.tw13904268988033928734:Nat:=0
def PySem.W.Fast.tw16797560861802595705:Nat:=0
def PySem.W.Fast.tw7712243901216554057:Nat:=0
def PySem.W.Fast.tw11269456956036907304:Nat:=0
def PySem.W.Fast.tw11272579384977994207:Nat:=0
def PySem.W.Fast.tw2713418077483887118:Nat:=0
def PySem.W.Fast.tw8721628423379571783:Nat:=0
def PySem.W.Fast.tw11203658826572113504:Nat:=0
def PySem.W.Fast.tw17397816368958149816:Nat:=0
def PySem.W.Fast.tw10515569931361797539:Nat:=0
def PySem.W.Fast.tw16534698750982090073:Nat:=0
def PySem.W.Fast.tw3296892478200663387:Nat:=0
def PySem.W.Fast.tw5356899170386545352:Nat:=0
def PySem.W.Fast.tw11520633480974348625:Nat:=0
def PySem.W.Fast.tw15295605581983566441:Nat:=0
def PySem.W.Fast.tw10034223898602503580:Nat:=0
def PySem.W.Fast.tw5521192872643772612:Nat:=0
def PySem.W.Fast.tw3025846550601256238:Nat:=0
def PySem.W.Fast.tw2341073948567892497:Nat:=0
def PySem.W.Fast.tw13405747560436997916:Nat:=0
def PySem.W.Fast.tw11146683679699511831:Nat:=0
def PySem.W.Fast.tw13424304158453227500:Nat:=0
def PySem.W.Fast.tw482073920684794907:Nat:=0
def PySem.W.Fast.tw11770400021686953985:Nat:=0
def PySem.W.Fast.tw14846955237971722760:Nat:=0
def PySem.W.Fast.tw10452990752627210047:Nat:=0
def PySem.W.Fast.tw8340291470565814744:Nat:=0
def PySem.W.Fast.tw893163146205977821:Nat:=0
def PySem.W.Fast.tw16600412206721089395:Nat:=0
def PySem.W.Fast.tw14534054621831336222:Nat:=0
def PySem.W.Fast.tw7200501976522491058:Nat:=0
def PySem.W.Fast.tw8564163814406476204:Nat:=0
def PySem.W.Fast.tw4811493406036145539:Nat:=0
def PySem.W.Fast.tw8412240017705464762:Nat:=0
def PySem.W.Fast.tw9179674626893207432:Nat:=0
def PySem.W.Fast.tw9285148071404674073:Nat:=0
def PySem.W.Fast.tw2558081374078098076:Nat:=0
def PySem.W.Fast.tw8911502815080868292:Nat:=0
def PySem.W.Fast.tw1371464245335861191:Nat:=0
def PySem.W.Fast.tw3671515020465000076:Nat:=0
def PySem.W.Fast.tw14176774581401699840:Nat:=0
def PySem.W.Fast.tw8772571432713594575:Nat:=0
def PySem.W.Fast.tw9045503983896181479:Nat:=0
def PySem.W.Fast.tw16736765433136536605:Nat:=0
def PySem.W.Fast.tw15198907324645192961:Nat:=0
def PySem.W.Fast.tw10631855363040421602:Nat:=0
def PySem.W.Fast.tw8113786361120705424:Nat:=0
def PySem.W.Fast.tw17921333062380233649:Nat:=0
def PySem.W.Fast.tw4579764694162786229:Nat:=0
def PySem.W.Fast.tw16267528241623717212:Nat:=0
def PySem.W.Fast.tw3357283564575676103:Nat:=0
def PySem.W.Fast.tw6821395251008559674:Nat:=0
def PySem.W.Fast.tw13274622225805235326:Nat:=0
def PySem.W.Fast.tw9734597786572530302:Nat:=0
def PySem.W.Fast.tw12643346202496569407:Nat:=0
def PySem.W.Fast.tw21291474891286056:Nat:=0
def PySem.W.Fast.tw11557502278943360621:Nat:=0
def PySem.W.Fast.tw316807731674542478:Nat:=0
def PySem.W.Fast.tw6536157865734852649:Nat:=0
def PySem.W.Fast.tw4970419487514793905:Nat:=0
def PySem.W.Fast.tw5784525020944232694:Nat:=0
def PySem.W.Fast.tw8440855391954672419:Nat:=0
def PySem.W.Fast.tw13543429312650585494:Nat:=0
def PySem.W.Fast.tw11335293724451398734:Nat:=0
def PySem.W.Fast.tw4857028466246522659:Nat:=0
def PySem.W.Fast.tw4679350612889944663:Nat:=0
def PySem.W.Fast.tw4882181682022510539:Nat:=0
def PySem.W.Fast.tw18211434978496313941:Nat:=0
def PySem.W.Fast.tw16572150045370215457:Nat:=0
def PySem.W.Fast.tw7505631946576012647:Nat:=0
def PySem.W.Fast.tw14631756260074673521:Nat:=0
def PySem.W.Fast.tw7531902039679761098:Nat:=0
def PySem.W.Fast.tw10484441880453680908:Nat:=0
def PySem.W.Fast.tw2806491567076799426:Nat:=0
set_option maxRecDepth 100000 in
set_option maxHeartbeats 0 in
theorem PySem.Challenge.cw_overwise_k03_shown_and_read_holds : PySem.Challenge.rw_overwise_k03_shown_and_read.Holds := by
 w_on; o_law; k_head; (case hw=>w_witness2)
 k_fill
 refine Ow.walk (l:=PySem.Challenge.rw_overwise_k03_shown_and_read) rfl rfl (fun w h Y=>PySem.W.kIn_of Y) ?F
 case F =>
  intro w mg fa h KX G hmg
  refine' Ow.all_mk KX G hmg ?a1 ?i1 ?l1 ?c1 ?k1 ?a2 ?l2 ?c2 ?k2 ?a3 ?l3 ?c3 ?k3 ?a4 ?l4 ?c4 ?k4 ?a5 ?l5 ?c5 ?k5 ?a6 ?i6 ?l6 ?c6 ?k6 ?a7 ?i7 ?h_Signed_count_of ?h_Pointed_count_of ?l7 ?c7 ?k7 ?a8 ?i8 ?h_Signed_bits_of ?h_Pointed_bits_of ?l8 ?c8 ?k8 ?a9 ?i9 ?h_Signed_shown ?h_Pointed_shown ?l9 ?c9 ?k9 ?a10 ?i10 ?h_Signed_read ?h_Pointed_read ?l10 ?c10 ?k10 ?a11 ?i11 ?l11 ?c11 ?k11 ?a12 ?i12 ?l12 ?c12 ?k12 ?a13 ?i13 ?l13 ?c13 ?k13 ?a14 ?i14 ?l14 ?c14 ?k14 ?a15 ?i15 ?l15 ?c15 ?k15 ?a16 ?i16 ?l16 ?c16 ?k16 ?a17 ?i17 ?l17 ?c17 ?k17 ?a18 ?i18 ?l18 ?c18 ?k18 ?a19 ?i19 ?l19 ?c19 ?k19 ?a20 ?l20 ?c20 ?k20 ?a21 ?l21 ?c21 ?k21 ?a22 ?l22 ?c22 ?k22 ?a23 ?l23 ?c23 ?k23 ?a24 ?l24 ?c24 ?k24 ?a25 ?l25 ?c25 ?k25 ?a26 ?l26 ?c26 ?k26 ?a27 ?l27 ?c27 ?k27 ?a28 ?l28 ?c28 ?k28 ?a29 ?l29 ?c29 ?k29 ?a30 ?l30 ?c30 ?k30 ?a31 ?l31 ?c31 ?k31 ?a32 ?l32 ?c32 ?k32 ?a33 ?l33 ?c33 ?k33 ?a34 ?l34 ?c34 ?k34 ?a35 ?l35 ?c35 ?k35 ?a36 ?l36 ?c36 ?k36 ?a37 ?l37 ?c37 ?k37 ?a38 ?l38 ?c38 ?k38 ?aC_Kind ?pg_Kind ?hd_Kind ?po_Kind ?sa_Kind ?rd_Kind ?ga_Kind ?fn_Kind___init__ ?aC_Plain ?pg_Plain ?hd_Plain ?po_Plain ?sa_Plain ?mk_Plain ?kc_Plain ?na_Plain_width ?na_Plain_point ?aC_Signed ?pg_Signed ?hd_Signed ?po_Signed ?sa_Signed ?mk_Signed ?kc_Signed ?na_Signed_width ?na_Signed_point ?aC_Pointed ?pg_Pointed ?hd_Pointed ?po_Pointed ?sa_Pointed ?mk_Pointed ?kc_Pointed ?na_Pointed_width ?na_Pointed_point ?aC_NoText ?aC_WiseError ?xe_NoText ?xs_NoText ?xm_NoText ?xn_NoText ?xf_NoText ?xk_NoText     ?aN_LONGEST_SHOWN ?kf_dc_Plain ?kf_mo_Plain ?kf_ik_Plain ?kf_dc_Signed ?kf_mo_Signed ?kf_ik_Signed ?kf_dc_Pointed ?kf_mo_Pointed ?kf_ik_Pointed ?kf_kc ?kf_kt ?kf_og ?kf_ot ?kf_kc_Plain ?kf_kt_Plain ?kf_m_Plain_Plain ?kf_m_Plain_Signed ?kf_m_Plain_Pointed ?kf_kc_Signed ?kf_kt_Signed ?kf_m_Signed_Plain ?kf_m_Signed_Signed ?kf_m_Signed_Pointed ?kf_kc_Pointed ?kf_kt_Pointed ?kf_m_Pointed_Plain ?kf_m_Pointed_Signed ?kf_m_Pointed_Pointed ?kf_if_ ?kf_tf ?kf_mf ?kf_wb ?kf_ga ?kf_gn ?kf_gc ?kf_mo ?kf_mb ?kf_hd ?kf_nf ?kf_wm ?kf_wt ?kf_wc ?z_isinstance ?z_int ?z_bool ?z_str ?z_tuple ?z_list ?z_len ?z_max ?z_min ?z_range ?z_abs
  (case aC_NoText=>k_is)
  (case aC_WiseError=>k_is)
  (case aC_Kind=>k_is); (case pg_Kind=>k_is); (case hd_Kind=>k_is); (case po_Kind=>k_is); (case sa_Kind=>k_is)
  (case rd_Kind=>k_is); (case ga_Kind=>k_is); (case fn_Kind___init__=>k_is)
  (case aC_Plain=>k_is); (case pg_Plain=>k_is); (case hd_Plain=>k_is); (case po_Plain=>k_is); (case sa_Plain=>k_is)
  (case mk_Plain=>k_is); (case kc_Plain=>k_is)
  (case na_Plain_width=>k_is)
  (case na_Plain_point=>k_is)
  (case aC_Signed=>k_is); (case pg_Signed=>k_is); (case hd_Signed=>k_is); (case po_Signed=>k_is); (case sa_Signed=>k_is)
  (case mk_Signed=>k_is); (case kc_Signed=>k_is)
  (case na_Signed_width=>k_is)
  (case na_Signed_point=>k_is)
  (case aC_Pointed=>k_is); (case pg_Pointed=>k_is); (case hd_Pointed=>k_is); (case po_Pointed=>k_is); (case sa_Pointed=>k_is)
  (case mk_Pointed=>k_is); (case kc_Pointed=>k_is)
  (case na_Pointed_width=>k_is)
  (case na_Pointed_point=>k_is)
  (case a1=>k_is); (case i1=>k_is); (case l1=>k_is); (case c1=>k_is); (case k1=>k_is)
  (case a2=>k_is); (case l2=>k_is); (case c2=>k_is); (case k2=>k_is)
  (case a3=>k_is); (case l3=>k_is); (case c3=>k_is); (case k3=>k_is)
  (case a4=>k_is); (case l4=>k_is); (case c4=>k_is); (case k4=>k_is)
  (case a5=>k_is); (case l5=>k_is); (case c5=>k_is); (case k5=>k_is)
  (case a6=>k_is); (case i6=>k_is); (case l6=>k_is); (case c6=>k_is); (case k6=>k_is)
  (case a7=>k_is); (case i7=>k_is); (case h_Signed_count_of=>k_is); (case h_Pointed_count_of=>k_is); (case l7=>k_is); (case c7=>k_is); (case k7=>k_is)
  (case a8=>k_is); (case i8=>k_is); (case h_Signed_bits_of=>k_is); (case h_Pointed_bits_of=>k_is); (case l8=>k_is); (case c8=>k_is); (case k8=>k_is)
  (case a9=>k_is); (case i9=>k_is); (case h_Signed_shown=>k_is); (case h_Pointed_shown=>k_is); (case l9=>k_is); (case c9=>k_is); (case k9=>k_is)
  (case a10=>k_is); (case i10=>k_is); (case h_Signed_read=>k_is); (case h_Pointed_read=>k_is); (case l10=>k_is); (case c10=>k_is); (case k10=>k_is)
  (case a11=>k_is); (case i11=>k_is); (case l11=>k_is); (case c11=>k_is); (case k11=>k_is)
  (case a12=>k_is); (case i12=>k_is); (case l12=>k_is); (case c12=>k_is); (case k12=>k_is)
  (case a13=>k_is); (case i13=>k_is); (case l13=>k_is); (case c13=>k_is); (case k13=>k_is)
  (case a14=>k_is); (case i14=>k_is); (case l14=>k_is); (case c14=>k_is); (case k14=>k_is)
  (case a15=>k_is); (case i15=>k_is); (case l15=>k_is); (case c15=>k_is); (case k15=>k_is)
  (case a16=>k_is); (case i16=>k_is); (case l16=>k_is); (case c16=>k_is); (case k16=>k_is)
  (case a17=>k_is); (case i17=>k_is); (case l17=>k_is); (case c17=>k_is); (case k17=>k_is)
  (case a18=>k_is); (case i18=>k_is); (case l18=>k_is); (case c18=>k_is); (case k18=>k_is)
  (case a19=>k_is); (case i19=>k_is); (case l19=>k_is); (case c19=>k_is); (case k19=>k_is)
  (case a20=>k_is); (case l20=>k_is); (case c20=>k_is); (case k20=>k_is)
  (case a21=>k_is); (case l21=>k_is); (case c21=>k_is); (case k21=>k_is)
  (case a22=>k_is); (case l22=>k_is); (case c22=>k_is); (case k22=>k_is)
  (case a23=>k_is); (case l23=>k_is); (case c23=>k_is); (case k23=>k_is)
  (case a24=>k_is); (case l24=>k_is); (case c24=>k_is); (case k24=>k_is)
  (case a25=>k_is); (case l25=>k_is); (case c25=>k_is); (case k25=>k_is)
  (case a26=>k_is); (case l26=>k_is); (case c26=>k_is); (case k26=>k_is)
  (case a27=>k_is); (case l27=>k_is); (case c27=>k_is); (case k27=>k_is)
  (case a28=>k_is); (case l28=>k_is); (case c28=>k_is); (case k28=>k_is)
  (case a29=>k_is); (case l29=>k_is); (case c29=>k_is); (case k29=>k_is)
  (case a30=>k_is); (case l30=>k_is); (case c30=>k_is); (case k30=>k_is)
  (case a31=>k_is); (case l31=>k_is); (case c31=>k_is); (case k31=>k_is)
  (case a32=>k_is); (case l32=>k_is); (case c32=>k_is); (case k32=>k_is)
  (case a33=>k_is); (case l33=>k_is); (case c33=>k_is); (case k33=>k_is)
  (case a34=>k_is); (case l34=>k_is); (case c34=>k_is); (case k34=>k_is)
  (case a35=>k_is); (case l35=>k_is); (case c35=>k_is); (case k35=>k_is)
  (case a36=>k_is); (case l36=>k_is); (case c36=>k_is); (case k36=>k_is)
  (case a37=>k_is); (case l37=>k_is); (case c37=>k_is); (case k37=>k_is)
  (case a38=>k_is); (case l38=>k_is); (case c38=>k_is); (case k38=>k_is)
  (case xe_NoText=>kernel_rfl); (case xs_NoText=>k_is); (case xm_NoText=>k_is); (case xn_NoText=>k_is); (case xf_NoText=>k_is); (case xk_NoText=>k_is)
  (case aN_LONGEST_SHOWN=>k_is)
  (case kf_dc_Plain=>k_is)
  (case kf_mo_Plain=>k_is)
  (case kf_ik_Plain=>k_is)
  (case kf_dc_Signed=>k_is)
  (case kf_mo_Signed=>k_is)
  (case kf_ik_Signed=>k_is)
  (case kf_dc_Pointed=>k_is)
  (case kf_mo_Pointed=>k_is)
  (case kf_ik_Pointed=>k_is)
  (case kf_kc=>k_is)
  (case kf_kt=>k_is)
  (case kf_og=>k_is)
  (case kf_ot=>k_is)
  (case kf_kc_Plain=>k_is)
  (case kf_kt_Plain=>k_is)
  (case kf_m_Plain_Plain=>k_is)
  (case kf_m_Plain_Signed=>k_is)
  (case kf_m_Plain_Pointed=>k_is)
  (case kf_kc_Signed=>k_is)
  (case kf_kt_Signed=>k_is)
  (case kf_m_Signed_Plain=>k_is)
  (case kf_m_Signed_Signed=>k_is)
  (case kf_m_Signed_Pointed=>k_is)
  (case kf_kc_Pointed=>k_is)
  (case kf_kt_Pointed=>k_is)
  (case kf_m_Pointed_Plain=>k_is)
  (case kf_m_Pointed_Signed=>k_is)
  (case kf_m_Pointed_Pointed=>k_is)
  (case kf_if_=>k_is)
  (case kf_tf=>k_is)
  (case kf_mf=>k_is)
  (case kf_wb=>k_is)
  (case kf_ga=>k_is)
  (case kf_gn=>k_is)
  (case kf_gc=>k_is)
  (case kf_mo=>k_is)
  (case kf_mb=>k_is)
  (case kf_hd=>k_is)
  (case kf_nf=>k_is)
  (case kf_wm=>k_is)
  (case kf_wt=>k_is)
  (case kf_wc=>k_is)
  (case z_isinstance=>k_is)
  (case z_int=>k_is)
  (case z_bool=>k_is)
  (case z_str=>k_is)
  (case z_tuple=>k_is)
  (case z_list=>k_is)
  (case z_len=>k_is)
  (case z_max=>k_is)
  (case z_min=>k_is)
  (case z_range=>k_is)
  (case z_abs=>k_is)
