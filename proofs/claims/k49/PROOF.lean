import PyProof.Rows.All
import Wide.All
import OpenK.AllK
import Wide.FinOn
import Lean
import PyProof.EqAt
import PyProof.EqKinds
import PyProof.TupleCall
import KE.BitLaws
import KE.IntBitsLaws
import KE.KLam
import KE.KIntText
import KE.KMinKey
import PySem.Challenge.RW_overwise_k49_lines_and_rows_refused
set_option Elab.async false
set_option linter.all false
set_option maxRecDepth 100000
set_option genSizeOf false
set_option genInjectivity false
namespace L2
open PySem PySem.Spec PyProof.Rows
abbrev Key:=Sum Int Str
def keyIs:Key→Value→Bool
 | .inl k,v=>Value.isInt k v
 | .inr x,v=>Value.isStrOf x v
def keyH (w:World):Key→Int
 | .inl k=>hashInt k
 | .inr x=>hashStr w x
theorem keyIs_shape:∀ {k:Key} {v:Value},keyIs k v = true→(∃ i t,k = Sum.inl i∧v = Value.int i t)∨(∃ x t,k = Sum.inr x∧v = Value.str x t)
 | .inl i,v,h=>by
  obtain ⟨t,e⟩:=Value.isInt_shape (k:=i) (v:=v) h
  exact .inl ⟨i,t,rfl,e⟩
 | .inr x,v,h=>by
  obtain ⟨t,e⟩:=Value.isStrOf_shape (x:=x) (v:=v) h
  exact .inr ⟨x,t,rfl,e⟩
theorem keyIs_int (i:Int) (t:Tok):keyIs (.inl i) (.int i t) = true:=by simp [keyIs,Value.isInt]
theorem key_ll (a b:Int):decide ((Sum.inl a:Key) = Sum.inl b) = (a == b):=by
 by_cases e:a = b
 ·subst e; simp
 ·have h:¬ (Sum.inl a:Key) = Sum.inl b:=fun q=>e (Sum.inl.inj q)
  rw [decide_eq_false h]
  exact (beq_eq_false_iff_ne.mpr e).symm
theorem key_rr (a b:Str):decide ((Sum.inr a:Key) = Sum.inr b) = decide (a = b):=by
 by_cases e:a = b
 ·subst e; simp
 ·have h:¬ (Sum.inr a:Key) = Sum.inr b:=fun q=>e (Sum.inr.inj q)
  rw [decide_eq_false h,decide_eq_false e]
theorem key_lr (a:Int) (b:Str):decide ((Sum.inl a:Key) = Sum.inr b) = false:=decide_eq_false (fun q=>nomatch q)
theorem key_rl (a:Str) (b:Int):decide ((Sum.inr a:Key) = Sum.inl b) = false:=decide_eq_false (fun q=>nomatch q)
def mixKind (prog:Program) (w:World):PySem.KeyKind prog w Key where
 is:=keyIs
 hash:=keyH w
 inj:=fun v a b ha hb=>by
  rcases keyIs_shape ha with ⟨i,t,rfl,rfl⟩ | ⟨x,t,rfl,rfl⟩
  ·rcases keyIs_shape hb with ⟨j,u,rfl,e⟩ | ⟨y,u,rfl,e⟩
   ·injection e with e1 _; rw [e1]
   ·exact nomatch e
  ·rcases keyIs_shape hb with ⟨j,u,rfl,e⟩ | ⟨y,u,rfl,e⟩
   ·exact nomatch e
   ·injection e with e1 _; rw [e1]
 byValue:=fun k v h=>by
  rcases keyIs_shape h with ⟨i,t,rfl,rfl⟩ | ⟨x,t,rfl,rfl⟩ <;> rfl
 pyHash:=fun hv h=>by
  rcases keyIs_shape hv with ⟨i,t,rfl,rfl⟩ | ⟨x,t,rfl,rfl⟩
  ·exact wpAny_pyHash_int h
  ·exact wpAny_pyHash_str h
 eqBool:=fun hu hv h=>by
  rcases keyIs_shape hu with ⟨i,t,rfl,rfl⟩ | ⟨x,t,rfl,rfl⟩
  ·rcases keyIs_shape hv with ⟨j,u,rfl,rfl⟩ | ⟨y,u,rfl,rfl⟩
   ·rw [key_ll] at h; exact wpAny_eqBool_int h
   ·rw [key_lr] at h; exact SeqAt.EqAt.int_str i t y u _ _ _ _ h
  ·rcases keyIs_shape hv with ⟨j,u,rfl,rfl⟩ | ⟨y,u,rfl,rfl⟩
   ·rw [key_rl] at h; exact SeqAt.EqAt.str_int x t j u _ _ _ _ h
   ·rw [key_rr] at h; exact wpAny_eqBool_str h
 «strs»:=fun k x t v h=>by
  rcases keyIs_shape h with ⟨i,u,rfl,e⟩ | ⟨y,u,rfl,e⟩
  ·exact nomatch e
  ·injection e with e1 _
   subst e1
   cases v <;> rfl
theorem mixKind_int (prog:Program) (w:World) (i:Int) (t:Tok):(mixKind prog w).is (.inl i) (.int i t) = true:=keyIs_int i t
end L2
namespace L2
open PySem PySem.Spec PyProof.Rows
set_option genInjectivity true in
inductive V where
 | non | bl (b:Bool) | int (i:Int) | str (x:Str) | byt (b:Array UInt8) | flt (b:UInt64) | ref (a:Addr) | ty (n:String)
 deriving DecidableEq
def RelV:V→Value→Prop
 | .non,u=>u = Value.none
 | .bl b,u=>u = Value.bool b
 | .int i,u=>∃ t,u = Value.int i t
 | .str x,u=>∃ t,u = Value.str x t
 | .byt b,u=>∃ t,u = Value.bytes b t
 | .flt b,u=>∃ t,u = Value.float b t
 | .ref a,u=>u = Value.ref a
 | .ty n,u=>u = Value.type n
abbrev Vals:List V→List Value→Prop:=Paired RelV
theorem Vals.length {xs:List V} {us:List Value} (r:Vals xs us):xs.length = us.length:=Paired.length r
theorem Vals.get:∀ {xs:List V} {us:List Value} {i:Nat} {x:V},Vals xs us→xs[i]? = some x→∃ u,us[i]? = some u∧RelV x u
 | _,_,_,_,.nil,e=>by simp at e
 | _,_,0,_,.cons r _,e=>by simp at e; subst e; exact ⟨_,rfl,r⟩
 | _,_,i + 1,x,.cons _ t,e=>by
  obtain ⟨u,h1,h2⟩:=Vals.get (i:=i) (x:=x) t (by simpa using e)
  exact ⟨u,by simpa using h1,h2⟩
theorem Vals.set {x:V} {u:Value} (r:RelV x u):∀ {xs:List V} {us:List Value} (i:Nat),Vals xs us→Vals (xs.set i x) (us.set i u)
 | _,_,_,.nil=>.nil
 | _,_,0,.cons _ t=>.cons r t
 | _,_,i + 1,.cons q t=>.cons q (Vals.set r i t)
theorem Vals.append:∀ {xs ys:List V} {us ws:List Value},Vals xs us→Vals ys ws→Vals (xs ++ ys) (us ++ ws)
 | _,_,_,_,.nil,s=>s
 | _,_,_,_,.cons r t,s=>.cons r (Vals.append t s)
theorem Vals.take:∀ {xs:List V} {us:List Value} (n:Nat),Vals xs us→Vals (xs.take n) (us.take n)
 | _,_,0,_=>.nil
 | _,_,_ + 1,.nil=>.nil
 | _,_,n + 1,.cons r t=>.cons r (Vals.take n t)
theorem Vals.drop:∀ {xs:List V} {us:List Value} (n:Nat),Vals xs us→Vals (xs.drop n) (us.drop n)
 | _,_,0,r=>r
 | _,_,_ + 1,.nil=>.nil
 | _,_,n + 1,.cons _ t=>Vals.drop n t
def RelO:Option V→Option Value→Prop
 | some v,some u=>RelV v u
 | none,none=>True
 | _,_=>False
def KV {κ:Type}:List (κ × V)→List (κ × Value)→Prop:=Paired fun (p:κ × V) (q:κ × Value)=>p.1 = q.1∧RelV p.2 q.2
def kV:Key→V
 | .inl i=>.int i
 | .inr x=>.str x
inductive HO where
 /-- a list -/
 | lst (xs:List V)
 /-- a tuple (never changes) -/
 | tup (xs:List V)
 /-- a dict whose keys are ints and texts; one whose keys are tuples of ints and texts (the empty one is both) -/
 | dK (kvs:List (Key × V)) | dT (kvs:List (List Key × V))
 /-- a set of ints: its members,its size -/
 | set (S:Int→Bool) (n:Nat)
 /-- an instance of the class at C,its dict at dx,its attributes -/
 | ins (C dx:Addr) (fs:List (Str × V))
 /-- the dict of the instance at x -/
 | own (x:Addr)
 /-- the dict of an exception -/
 | xd (fs:List (Str × V))
 /-- a bound method,f of x -/
 | met (f x:Addr)
 /-- a range object lo,lo + 1,.. below hi -/
 | rng (lo hi:Int)
 /-- a thing that is known to the object (the script; a dict while a loop walks it): read,never written while it is so -/
 | frz (o:Obj) (u:HO)
 /-- a code object's table -/
 | tbl (ps:Array Value)
 /-- any other thing,by what is true of its one object (a def of one's own: SetO a S n:=HO.ext fun h=>..) -/
 | ext (φ:Heap→Prop)
abbrev Hp:=Addr→Option HO
def upd (H:Hp) (a:Addr) (o:HO):Hp:=fun b=>if b = a then some o else H b
theorem upd_same {H:Hp} {a:Addr} {o:HO}:upd H a o a = some o:=by unfold upd; rw [if_pos rfl]
theorem upd_ne {H:Hp} {a b:Addr} {o:HO} (h:b ≠ a):upd H a o b = H b:=by unfold upd; rw [if_neg h]
theorem ne_of_none {H:Hp} {a b:Addr} {o:HO} (h:H a = some o) (h':H b = none):a ≠ b:=by
 intro e; subst e; rw [h] at h'; cases h'
section
variable (P:Program) (w:World)
def ObjOk (H:Hp) (h:Heap) (a:Addr):HO→Prop
 | .lst xs=>xs.length≤sizeLine∧∃ (its:List Value) (n:Nat),Vals xs its∧h.get? a = some { cls:=.type "list",data:=.seq its.toArray n }
 | .tup xs=>xs.length≤sizeLine∧∃ its:List Value,Vals xs its∧IsTup h a its.toArray
 | .dK kvs=>kvs.length≤sizeLine∧(a == sysModules) = false∧∃ vs,KV kvs vs∧h.DictOf (mixKind P w) a vs
 | .dT kvs=>kvs.length≤sizeLine∧(a == sysModules) = false∧∃ xs:List (List Key × Addr × Value),
   Paired (fun (p:List Key × V) (q:List Key × Addr × Value)=>p.1 = q.1∧H q.2.1 = some (.tup (p.1.map kV))∧RelV p.2 q.2.2) kvs xs ∧
   ∃ o es ep,h.get? a = some o∧o.ExactDict∧o.data = .dict es ep∧es.toList = xs.map (entryOfKey (tupleKind (mixKind P w)))∧(xs.map (·.1)).Nodup
 | .set S n=>h.SetOf (intKind P w) a S n
 | .ins C dx fs=>H dx = some (.own a)∧fs.length≤1000∧dx ≠ a∧h.get? a = some (PySem.W.instObj C dx) ∧
   ∃ mA,h.Ns1 dx mA∧(∀ f,RelO (fs.lookup f) (mA f))∧PySem.Within mA (fs.map (·.1))
 | .own _=>∃ o,h.get? a = some o
 | .xd fs=>∃ mA,h.Ns1 a mA∧∀ f,RelO (fs.lookup f) (mA f)
 | .rng lo hi=>∃ t u v,h.get? a = some { cls:=.type "range",data:=.fields #[.int lo t,.int hi u,.int 1 v] }
 | .frz o u=>h.get? a = some o∧ObjOk H h a u
 | .tbl ps=>h.get? a = some { cls:=.none,data:=.fields ps }
 | .met f x=>h.get? a = some (PySem.W.methodObj (.ref f) (.ref x))
 | .ext φ=>φ h∧(∃ o,h.get? a = some o)∧∀ h1 h2:Heap,φ h1→(∀ o,h1.get? a = some o→h2.get? a = some o)→φ h2
def HOk (H:Hp) (h:Heap):Prop:=∀ a o,H a = some o→ObjOk P w H h a o
end
section
variable {P:Program} {w:World} {H H':Hp} {h h':Heap} {a:Addr} {o:HO}
theorem ObjOk.lt (x:ObjOk P w H h a o):a < h.objs.size:=by
 cases o with
 | lst xs=>obtain ⟨_,_,_,_,e⟩:=x; exact Heap.lt_size e
 | tup xs=>obtain ⟨_,_,_,p⟩:=x; exact p.lt
 | dK kvs=>obtain ⟨_,_,_,_,o,_,_,e,_⟩:=x; exact Heap.lt_size e
 | dT kvs=>obtain ⟨_,_,_,_,o,_,_,e,_⟩:=x; exact Heap.lt_size e
 | set S n=>obtain ⟨o,_,_,_,e,_⟩:=x; exact Heap.lt_size e
 | ins C dx fs=>obtain ⟨_,_,_,e,_⟩:=x; exact Heap.lt_size e
 | own y=>obtain ⟨_,e⟩:=x; exact Heap.lt_size e
 | xd fs=>obtain ⟨_,⟨_,_,_,e,_⟩,_⟩:=x; exact Heap.lt_size e
 | rng lo hi=>obtain ⟨_,_,_,e⟩:=x; exact Heap.lt_size e
 | frz ob u=>obtain ⟨e,_⟩:=x; exact Heap.lt_size e
 | tbl ps=>exact Heap.lt_size (show h.get? a = some _ from x)
 | met f y=>exact Heap.lt_size (show h.get? a = some _ from x)
 | ext φ=>obtain ⟨_,⟨_,e⟩,_⟩:=x; exact Heap.lt_size e
theorem Paired.mapP {α β:Type} {F G:α→β→Prop}:∀ {l₁:List α} {l₂:List β},Paired F l₁ l₂→(∀ a b,F a b→G a b)→Paired G l₁ l₂
 | _,_,.nil,_=>.nil
 | _,_,.cons r t,f=>.cons (f _ _ r) (Paired.mapP t f)
theorem ObjOk.stay (x:ObjOk P w H h a o) (k:∀ b u,(b = a∨H b = some (.own a))→h.get? b = some u→h'.get? b = some u)
  (ho:∀ b,H b = some (.own a)→H' b = some (.own a)) (ht:∀ b xs,H b = some (.tup xs)→H' b = some (.tup xs)):ObjOk P w H' h' a o:=by
 induction o with
 | lst xs=>obtain ⟨z,its,n,r,e⟩:=x; exact ⟨z,its,n,r,k _ _ (.inl rfl) e⟩
 | tup xs=>obtain ⟨z,its,r,ob,e,c⟩:=x; exact ⟨z,its,r,ob,k _ _ (.inl rfl) e,c⟩
 | dK kvs=>obtain ⟨z,y,vs,r,ob,es,ep,e,c⟩:=x; exact ⟨z,y,vs,r,ob,es,ep,k _ _ (.inl rfl) e,c⟩
 | dT kvs =>
  obtain ⟨z,y,xs,r,ob,es,ep,e,c⟩:=x
  exact ⟨z,y,xs,Paired.mapP r fun p q z=>⟨z.1,ht _ _ z.2.1,z.2.2⟩,ob,es,ep,k _ _ (.inl rfl) e,c⟩
 | set S n=>obtain ⟨ob,es,ep,t,e,c⟩:=x; exact ⟨ob,es,ep,t,k _ _ (.inl rfl) e,c⟩
 | ins C dx fs =>
  obtain ⟨d,z,ne,e,mA,⟨od,es,ep,e2,c⟩,r⟩:=x
  exact ⟨ho _ d,z,ne,k _ _ (.inl rfl) e,mA,⟨od,es,ep,k _ _ (.inr d) e2,c⟩,r⟩
 | own y=>obtain ⟨ob,e⟩:=x; exact ⟨ob,k _ _ (.inl rfl) e⟩
 | xd fs=>obtain ⟨mA,⟨od,es,ep,e,c⟩,r⟩:=x; exact ⟨mA,⟨od,es,ep,k _ _ (.inl rfl) e,c⟩,r⟩
 | rng lo hi=>obtain ⟨t,u,v,e⟩:=x; exact ⟨t,u,v,k _ _ (.inl rfl) e⟩
 | frz ob u ih=>obtain ⟨e,q⟩:=x; exact ⟨k _ _ (.inl rfl) e,ih q⟩
 | tbl ps =>
  have e:h.get? a = some { cls:=.none,data:=.fields ps }:=x
  show h'.get? a = some { cls:=.none,data:=.fields ps }
  exact k a _ (.inl rfl) e
 | met f y =>
  have e:h.get? a = some (PySem.W.methodObj (.ref f) (.ref y)):=x
  show h'.get? a = some (PySem.W.methodObj (.ref f) (.ref y))
  exact k a _ (.inl rfl) e
 | ext φ=>obtain ⟨p,⟨o,e⟩,st⟩:=x; exact ⟨st _ _ p fun o q=>k _ _ (.inl rfl) q,⟨o,k _ _ (.inl rfl) e⟩,st⟩
theorem HOk.lt (x:HOk P w H h) (e:H a = some o):a < h.objs.size:=(x a o e).lt
theorem HOk.fresh (x:HOk P w H h) (e:h.objs.size≤a):H a = none:=by
 cases q:H a with
 | none=>rfl
 | some u=>exact absurd (Nat.lt_of_lt_of_le (x.lt q) e) (Nat.lt_irrefl _)
theorem HOk.kept (x:HOk P w H h) (k:∀ b u,h.get? b = some u→h'.get? b = some u):HOk P w H h':=fun a o e =>
 (x a o e).stay (fun b u _ q=>k b u q) (fun _ q=>q) fun _ _ q=>q
theorem HOk.laid (x:HOk P w H h) (k:∀ b u,h.get? b = some u→h'.get? b = some u) (hp:h.objs.size≤a) (new:ObjOk P w (upd H a o) h' a o):HOk P w (upd H a o) h':=fun b u e=>by
 have hn:=x.fresh hp
 by_cases hb:b = a
 ·subst hb; rw [upd_same] at e; cases e; exact new
 ·rw [upd_ne hb] at e
  exact (x b u e).stay (fun c v _ q=>k c v q) (fun c q=>by rw [upd_ne (ne_of_none q hn)]; exact q) fun c xs q=>by rw [upd_ne (ne_of_none q hn)]; exact q
end
def Rd (H:Hp) (a:Addr) (u:HO):Prop:=H a = some u∨∃ o,H a = some (.frz o u)
theorem Rd.ok {P:Program} {w:World} {H:Hp} {h:Heap} {a:Addr} {u:HO} (r:Rd H a u) (x:HOk P w H h):ObjOk P w H h a u:=by
 rcases r with r | ⟨o,r⟩
 ·exact x a u r
 ·obtain ⟨_,q⟩:=x a _ r
  exact q
def Mut:Option HO→Prop
 | some (.lst _)=>True
 | some (.dK _)=>True
 | some (.dT _)=>True
 | some (.set _ _)=>True
 | some (.ins _ _ _)=>True
 | some (.ext _)=>True
 | _=>False
section
variable {P:Program} {w:World} {H:Hp} {h h':Heap} {x e:Addr} {o':HO}
theorem HOk.write (ok:HOk P w H h) (mu:Mut (H x)) (he:e = x∨H e = some (.own x)) (k:∀ b u,b ≠ e→h.get? b = some u→h'.get? b = some u) (heo:∃ u,h'.get? e = some u)
  (new:ObjOk P w (upd H x o') h' x o'):HOk P w (upd H x o') h':=fun b u q=>by
 have nown:∀ c y,H c = some (.own y)→c ≠ x:=fun c y r z=>by subst z; rw [r] at mu; exact mu
 have ntup:∀ c xs,H c = some (.tup xs)→c ≠ x:=fun c xs r z=>by subst z; rw [r] at mu; exact mu
 by_cases hb:b = x
 ·subst hb; rw [upd_same] at q; cases q; exact new
 ·rw [upd_ne hb] at q
  by_cases hbe:b = e
  ·have q':H b = some (.own x):=by
    rcases he with z | z
    ·exact absurd (hbe.trans z) hb
    ·rw [hbe]; exact z
   rw [q] at q'; cases q'
   obtain ⟨v,hv⟩:=heo
   exact ⟨v,by rw [hbe]; exact hv⟩
  ·refine (ok b u q).stay (fun c v hc r=>k c v ?_ r) (fun c r=>by rw [upd_ne (nown c b r)]; exact r) fun c xs r=>by rw [upd_ne (ntup c xs r)]; exact r
   rcases hc with rfl | hc
   ·exact hbe
   ·rintro rfl
    rcases he with z | z
    ·exact nown c b hc z
    ·rw [hc] at z; cases z; exact hb rfl
end
structure Un (fs ex:List Addr) (H H':Hp) (h h':Heap):Prop where
 keep:∀ b o,h.get? b = some o→H b = none→b ∉ fs→b ∉ ex→h'.get? b = some o
 slot:∀ b o,h.get? b = some o→H b = none→b ∈ fs→b ∉ ex→∃ sl,h'.get? b = some { o with slots:=sl }
 free:∀ b o,h.get? b = some o→H b = none→b ∉ ex→H' b = none
 there:∀ b o,h.get? b = some o→b ∉ ex→∃ o',h'.get? b = some o'
 tups:∀ b xs,H b = some (.tup xs)→H' b = some (.tup xs)
 frzs:∀ b o u,H b = some (.frz o u)→H' b = some (.frz o u)
 tbls:∀ b ps,H b = some (.tbl ps)→∃ more,H' b = some (.tbl (ps ++ more))
section
variable {fs fs' ex ex':List Addr} {H H1 H2:Hp} {h h1 h2 h':Heap} {a x e:Addr} {o:HO}
theorem Un.any (u:Un fs ex H H1 h h1) {b:Addr} {ob:Obj} (q:h.get? b = some ob) (n:H b = none) (hx:b ∉ ex):∃ sl,h1.get? b = some { ob with slots:=sl }:=by
 by_cases hb:b ∈ fs
 ·exact u.slot b ob q n hb hx
 ·exact ⟨ob.slots,u.keep b ob q n hb hx⟩
theorem Un.kept (k:∀ b u,h.get? b = some u→h'.get? b = some u):Un fs ex H H h h' :=
 ⟨fun b ob q _ _ _=>k b ob q,fun b ob q _ _ _=>⟨ob.slots,k b ob q⟩,fun _ _ _ n _=>n,fun b ob q _=>⟨ob,k b ob q⟩,fun _ _ q=>q,fun _ _ _ q=>q,fun _ ps q=>⟨#[],by rw [q]; simp⟩⟩
theorem Un.refl:Un fs ex H H h h:=Un.kept fun _ _ q=>q
theorem Un.laid (k:∀ b u,h.get? b = some u→h'.get? b = some u) (hp:h.objs.size≤a) (hn:H a = none):Un fs ex H (upd H a o) h h' where
 keep:=fun b u q _ _ _=>k b u q
 slot:=fun b u q _ _ _=>⟨u.slots,k b u q⟩
 free:=fun b u q n _=>by rw [upd_ne (Nat.ne_of_lt (Nat.lt_of_lt_of_le (Heap.lt_size q) hp))]; exact n
 there:=fun b u q _=>⟨u,k b u q⟩
 tups:=fun b xs q=>by rw [upd_ne (ne_of_none q hn)]; exact q
 frzs:=fun b u xs q=>by rw [upd_ne (ne_of_none q hn)]; exact q
 tbls:=fun b ps q=>⟨#[],by rw [upd_ne (ne_of_none q hn),q]; simp⟩
theorem Un.write (mu:Mut (H x)) (he:e = x∨H e = some (.own x)) (k:∀ b u,b ≠ e→h.get? b = some u→h'.get? b = some u) (heo:∃ u,h'.get? e = some u):Un fs ex H (upd H x o) h h':=by
 have hx:∀ b,H b = none→b ≠ x:=fun b n z=>by subst z; rw [n] at mu; exact mu
 have hb:∀ b,H b = none→b ≠ e:=fun b n z=>by
  subst z
  rcases he with r | r
  ·exact hx b n r
  ·rw [n] at r; cases r
 have hm:∀ b u,H b = some u→¬ Mut (some u)→b ≠ x:=fun b u q nm z=>by subst z; rw [q] at mu; exact nm mu
 refine ⟨fun b u q n _ _=>k b u (hb b n) q,fun b u q n _ _=>⟨u.slots,k b u (hb b n) q⟩,fun b u q n _=>by rw [upd_ne (hx b n)]; exact n,fun b u q _=>?_,
  fun b xs q=>by rw [upd_ne (hm b _ q fun z=>z)]; exact q,fun b u xs q=>by rw [upd_ne (hm b _ q fun z=>z)]; exact q,fun b ps q=>⟨#[],by rw [upd_ne (hm b _ q fun z=>z),q]; simp⟩⟩
 by_cases hbe:b = e
 ·subst hbe; exact heo
 ·exact ⟨u,k b u hbe q⟩
end
def trk (h:Heap) (H:Hp):List Addr:=(List.range h.objs.size).filter fun a=>(H a).isSome
def hidT (h:Heap) (H:Hp):Heap:=PySem.W.hideAll h (trk h H)
theorem hidT_size (h:Heap) (H:Hp):(hidT h H).objs.size = h.objs.size:=PySem.W.hideAll_size _ _
theorem hidT_get {h:Heap} {H:Hp} {b:Addr} {o:Obj} (e:h.get? b = some o) (n:H b = none):(hidT h H).get? b = some o :=
 PySem.W.hideAll_get _ e fun hm=>by
  have q:(H b).isSome = true:=(List.mem_filter.mp hm).2
  rw [n] at q; simp at q
theorem of_hidT {h:Heap} {H:Hp} {b:Addr} {o:Obj} (e:(hidT h H).get? b = some o):h.get? b = some o∧H b = none:=by
 have e':h.get? b = some o:=PySem.W.of_hideAll (trk h H) e
 refine ⟨e',?_⟩
 cases q:H b with
 | none=>rfl
 | some x =>
  have hm:b ∈ trk h H:=List.mem_filter.mpr ⟨List.mem_range.mpr (Heap.lt_size e'),by simp [q]⟩
  have z:(hidT h H).get? b = none:=PySem.W.hideAll_none (trk h H) hm
  rw [z] at e; cases e
end L2
namespace L2
open PySem PySem.Spec PyProof.Rows
structure Mod (K:PySem.W.Frag) (mg:Str→Option Value) (base:Heap):Prop where
 kin:K.In base
 glob:base.Ns mainGlobals mg
 blt:∃ mb,base.Ns builtinsNs mb∧∀ x:Str,x ≠ "__name__"→mb x = bootBuiltins x
 nolimit:base.NoLimit
structure Cx where
 prog:Program
 w:World
 K:PySem.W.Frag
 mg:Str→Option Value
 base:Heap
 A:Around
 N:List Str
 s₀:Shared
 H₀:Hp
 env:Env
 outer:List Env
 stack:List Env
 ex:List Addr
 fn:Str→Bool
 calm:Bool
 pn:List (Addr × Obj)
 xe:Value→Shared→Prop
def frs (l:List Env):List Addr:=l.filterMap (·.frame)
abbrev Cx.fs (X:Cx):List Addr:=frs X.outer
def Vis (sc:Scope) (x:Str):Prop:=sc.names.lookup x = some .local∨sc.names.lookup x = some .cell∨sc.names.lookup x = some .free
def Loc (sc:Scope) (x:Str):Prop:=sc.names.lookup x = some .local∨sc.names.lookup x = some .cell
def Look (env:Env) (h:Heap) (m:Str→Option Value) (x:Str) (u:Value):Prop :=
 (env.kindOf x = some .local∧m x = some u)∨((env.kindOf x = some .cell∨env.kindOf x = some .free)∧∃ c,env.cells.lookup x = some c∧h.IsCell c (some u))
structure Cx.Ok (X:Cx):Prop where
 mod:Mod X.K X.mg X.base
 kind:X.env.scope.kind = .function
 glob:X.env.globals = mainGlobals
 blt:X.env.builtins = builtinsNs
 above:X.s₀.heap.objs.size≤X.env.locals
 inj:∀ x y c,X.env.cells.lookup x = some c→X.env.cells.lookup y = some c→x = y
 has:∀ x,(X.env.kindOf x = some .cell∨X.env.kindOf x = some .free)→∃ c,X.env.cells.lookup x = some c
 cab:∀ x c,X.fn x = true→X.env.cells.lookup x = some c→X.s₀.heap.objs.size≤c
 hd:X.calm = true→X.A.handled = none
 frames:X.A.frames = some X.stack
 stk:X.stack = X.outer∨(X.stack = X.env :: X.outer∧X.env.frame = some X.env.locals)
 exf:∀ b ∈ X.ex,b ≠ X.env.locals∧∀ x c,X.env.cells.lookup x = some c→c ≠ b
 bs:∀ b o,X.base.get? b = some o→X.s₀.heap.get? b = some o∧X.H₀ b = none
 bsz:X.base.objs.size≤X.s₀.heap.objs.size
 noex:∀ b o,X.base.get? b = some o→b ∉ X.ex
 exfs:∀ b ∈ X.ex,b ∉ X.fs
 funs:X.s₀.heap.FunFrames X.base X.outer
 frf:∀ b ∈ X.fs,X.H₀ b = none
structure Inv (X:Cx) (pins:List (Addr × Obj)) (σ:List (Option V)) (H:Hp) (s:Shared):Prop where
 ok:X.Ok
 os:s.os = X.s₀.os
 bare:AllBare s.gens
 base:Un X.fs X.ex X.H₀ H X.s₀.heap s.heap
 loc:∃ m,s.heap.Ns X.env.locals m∧∀ (i:Nat) (x:Str) (v:V),X.N[i]? = some x→σ[i]? = some (some v)→Vis X.env.scope x→∃ u,RelV v u∧Look X.env s.heap m x u
 cell:∀ x c,X.env.cells.lookup x = some c→∃ v,s.heap.IsCell c v
 free:H X.env.locals = none
 freeC:∀ x c,X.env.cells.lookup x = some c→H c = none
 pin:∀ p ∈ X.pn ++ pins,s.heap.get? p.1 = some p.2∧H p.1 = none∧p.1 ≠ X.env.locals∧p.1 ∉ X.fs∧∀ v,p.2.data ≠ .cell v
 hok:HOk X.prog X.w H s.heap
 len:σ.length = X.N.length
section
variable {X:Cx} {pins:List (Addr × Obj)} {σ:List (Option V)} {H H':Hp} {s:Shared} {h':Heap}
theorem Cx.Ok.nofr (ok:X.Ok) {b:Addr} {o:Obj} (e:X.base.get? b = some o):b ∉ X.fs:=fun hb=>by
 have:=(ok.funs.mem hb).1
 rw [e] at this; cases this
theorem Inv.bs (I:Inv X pins σ H s):∀ b o,X.base.get? b = some o→s.heap.get? b = some o∧H b = none:=fun b o e =>
 ⟨I.base.keep b o (I.ok.bs b o e).1 (I.ok.bs b o e).2 (I.ok.nofr e) (I.ok.noex b o e),I.base.free b o (I.ok.bs b o e).1 (I.ok.bs b o e).2 (I.ok.noex b o e)⟩
theorem Inv.bk (I:Inv X pins σ H s):∀ b o,X.base.get? b = some o→s.heap.get? b = some o:=fun b o e=>(I.bs b o e).1
theorem Inv.mod (I:Inv X pins σ H s):Mod X.K X.mg X.base:=I.ok.mod
theorem Inv.kIn (I:Inv X pins σ H s):X.K.In s.heap:=I.ok.mod.kin.keeps I.bk
theorem Inv.nolimit (I:Inv X pins σ H s):s.heap.NoLimit:=I.ok.mod.nolimit.keeps I.bk
theorem Inv.lt (I:Inv X pins σ H s):X.env.locals < s.heap.objs.size:=let ⟨_,hn,_⟩:=I.loc; hn.lt
theorem Inv.sz (I:Inv X pins σ H s):X.s₀.heap.objs.size≤s.heap.objs.size:=Nat.le_trans I.ok.above (Nat.le_of_lt I.lt)
theorem Inv.nofs (I:Inv X pins σ H s) {a:Addr} (h:s.heap.objs.size≤a):a ∉ X.fs:=fun hb=>by
 obtain ⟨_,o,ho,_⟩:=I.ok.funs.mem hb
 exact absurd (Nat.lt_of_lt_of_le (Heap.lt_size ho) (Nat.le_trans I.sz h)) (Nat.lt_irrefl _)
theorem Inv.cne (I:Inv X pins σ H s):∀ x c,X.env.cells.lookup x = some c→c ≠ X.env.locals:=fun x c e z=>by
 obtain ⟨v,o,ho,hd⟩:=I.cell x c e
 obtain ⟨m,⟨o',es,ep,ho',hd',_⟩,_⟩:=I.loc
 rw [z,ho'] at ho; cases ho; rw [hd'] at hd; cases hd
theorem Inv.funs (I:Inv X pins σ H s):s.heap.FunFrames X.base X.outer:=by
 have all:∀ (l:List Env),(∀ b ∈ frs l,b ∈ X.fs)→X.s₀.heap.FunFrames X.base l→s.heap.FunFrames X.base l:=by
  intro l
  induction l with
  | nil=>intro _ _; trivial
  | cons env r ih =>
   intro hs hl
   obtain ⟨hk,⟨L,o,hf,hn,ho,hd⟩,hr⟩:=hl
   have hL:L ∈ X.fs:=hs L (by unfold frs; rw [List.filterMap_cons,hf]; exact List.mem_cons_self)
   obtain ⟨sl,e⟩:=I.base.slot L o ho (I.ok.frf L hL) hL fun z=>I.ok.exfs L z hL
   exact ⟨hk,⟨L,_,hf,hn,e,hd⟩,ih (fun b hb=>hs b (by unfold frs; rw [List.filterMap_cons,hf]; exact List.mem_cons_of_mem _ hb)) hr⟩
 exact all X.outer (fun _ hb=>hb) I.ok.funs
theorem Inv.stack (I:Inv X pins σ H s):s.heap.FunFrames X.base X.stack:=by
 rcases I.ok.stk with e | ⟨e,hf⟩
 ·rw [e]; exact I.funs
 ·rw [e]
  obtain ⟨m,hn,_⟩:=I.loc
  refine .cons (by rw [I.ok.kind]; decide) hf hn ?_ I.funs
  exact Heap.get?_none_of_le (Nat.le_trans I.ok.bsz I.ok.above)
theorem Inv.stkSub (I:Inv X pins σ H s):∀ b ∈ frs X.stack,b ∈ X.env.locals :: X.fs:=fun b hb=>by
 rcases I.ok.stk with e | ⟨e,hf⟩
 ·rw [e] at hb; exact List.mem_cons_of_mem _ hb
 ·rw [e] at hb
  unfold frs at hb
  rw [List.filterMap_cons,hf] at hb
  exact hb
theorem Inv.stkFree (I:Inv X pins σ H s):∀ b ∈ frs X.stack,H b = none:=fun b hb=>by
 rcases List.mem_cons.mp (I.stkSub b hb) with e | hb
 ·rw [e]; exact I.free
 ·obtain ⟨_,o,ho,_⟩:=I.ok.funs.mem hb
  exact I.base.free b o ho (I.ok.frf b hb) fun z=>I.ok.exfs b z hb
theorem Inv.step {g':Array GenState} {t':Nat} {d':Drawn} {ch:List Addr} (I:Inv X pins σ H s)
  (hch:∀ b ∈ ch,(b ∈ X.ex∨X.s₀.heap.objs.size≤b)∧b ≠ X.env.locals∧(∀ x c,X.env.cells.lookup x = some c→c ≠ b)∧∀ p ∈ X.pn ++ pins,p.1 ≠ b)
  (keep:∀ b o,b ≠ X.env.locals→b ∉ X.fs→b ∉ ch→s.heap.get? b = some o→H b = none→h'.get? b = some o)
  (slot:∀ b o,b ≠ X.env.locals→b ∈ X.fs→b ∉ ch→s.heap.get? b = some o→H b = none→∃ sl,h'.get? b = some { o with slots:=sl }) (free:∀ b o,b ∉ ch→s.heap.get? b = some o→H b = none→H' b = none)
  (there:∀ b o,b ∉ ch→s.heap.get? b = some o→∃ o',h'.get? b = some o')
  (tups:∀ b xs,H b = some (.tup xs)→H' b = some (.tup xs)) (frzs:∀ b o u,H b = some (.frz o u)→H' b = some (.frz o u)) (tbls:∀ b ps,H b = some (.tbl ps)→∃ more,H' b = some (.tbl (ps ++ more)))
  (ns:∀ m,s.heap.Ns X.env.locals m→h'.Ns X.env.locals m) (hok:HOk X.prog X.w H' h') (hg:AllBare g') :
  Inv X pins σ H' { s with heap:=h',gens:=g',drawn:=d',toks:=t' }:=by
 have neL:∀ b o,X.s₀.heap.get? b = some o→b ≠ X.env.locals:=fun b o e=>Nat.ne_of_lt (Nat.lt_of_lt_of_le (Heap.lt_size e) I.ok.above)
 have neC:∀ b o,X.s₀.heap.get? b = some o→b ∉ X.ex→b ∉ ch:=fun b o e hx hb=>by
  rcases (hch b hb).1 with z | z
  ·exact hx z
  ·exact absurd (Nat.lt_of_lt_of_le (Heap.lt_size e) z) (Nat.lt_irrefl _)
 have cellK:∀ x c,X.env.cells.lookup x = some c→∀ v,s.heap.IsCell c v→h'.IsCell c v:=fun x c e v ⟨o,ho,hd⟩=>by
  have nch:c ∉ ch:=fun z=>(hch c z).2.2.1 x c e rfl
  by_cases hc:c ∈ X.fs
  ·obtain ⟨sl,q⟩:=slot c o (I.cne x c e) hc nch ho (I.freeC x c e)
   exact ⟨_,q,hd⟩
  ·exact ⟨o,keep c o (I.cne x c e) hc nch ho (I.freeC x c e),hd⟩
 refine ⟨I.ok,I.os,hg,⟨fun b o e n hb hx=>?_,fun b o e n hb hx=>?_,fun b o e n hx=>?_,fun b o e hx=>?_,fun b xs e=>tups b xs (I.base.tups b xs e),fun b o xs e=>frzs b o xs (I.base.frzs b o xs e),fun b ps e=>?_⟩,?_,fun x c e=>?_,?_,fun x c e=>?_,fun p hp=>?_,hok,I.len⟩
 ·exact keep b o (neL b o e) hb (neC b o e hx) (I.base.keep b o e n hb hx) (I.base.free b o e n hx)
 ·obtain ⟨sl,e1⟩:=I.base.slot b o e n hb hx
  obtain ⟨sl',e2⟩:=slot b _ (neL b o e) hb (neC b o e hx) e1 (I.base.free b o e n hx)
  exact ⟨sl',e2⟩
 ·obtain ⟨o',e1⟩:=I.base.there b o e hx
  exact free b o' (neC b o e hx) e1 (I.base.free b o e n hx)
 ·obtain ⟨o',e1⟩:=I.base.there b o e hx
  exact there b o' (neC b o e hx) e1
 ·obtain ⟨m1,e1⟩:=I.base.tbls b ps e
  obtain ⟨m2,e2⟩:=tbls b _ e1
  exact ⟨m1 ++ m2,by rw [e2,Array.append_assoc]⟩
 ·obtain ⟨m,hn,hl⟩:=I.loc
  refine ⟨m,ns m hn,fun i x v e1 e2 e3=>?_⟩
  obtain ⟨u,r,l⟩:=hl i x v e1 e2 e3
  refine ⟨u,r,?_⟩
  rcases l with l | ⟨k,c,e,z⟩
  ·exact .inl l
  ·exact .inr ⟨k,c,e,cellK x c e _ z⟩
 ·obtain ⟨v,z⟩:=I.cell x c e
  exact ⟨v,cellK x c e v z⟩
 ·obtain ⟨m,⟨o,_,_,ho,_⟩,_⟩:=I.loc
  exact free _ o (fun z=>(hch _ z).2.1 rfl) ho I.free
 ·obtain ⟨v,o,ho,hd⟩:=I.cell x c e
  exact free c o (fun z=>(hch c z).2.2.1 x c e rfl) ho (I.freeC x c e)
 ·obtain ⟨e,n,ne,nf,d⟩:=I.pin p hp
  have nch:p.1 ∉ ch:=fun z=>(hch p.1 z).2.2.2 p hp rfl
  exact ⟨keep p.1 p.2 ne nf nch e n,free p.1 p.2 nch e n,ne,nf,d⟩
theorem Inv.un {t':Nat} (I:Inv X pins σ H s) (u:Un X.fs [] H H' s.heap h') (hok:HOk X.prog X.w H' h'):Inv X pins σ H' { s with heap:=h',toks:=t' }:=by
 obtain ⟨m,⟨o,es,ep,ho,r⟩,_⟩:=id I.loc
 obtain ⟨sl,hL⟩:=u.any ho I.free (by simp)
 exact I.step (g':=s.gens) (d':=s.drawn) (ch:=[]) (fun _ z=>nomatch z) (fun b o _ hb _ e n=>u.keep b o e n hb (by simp)) (fun b o _ hb _ e n=>u.slot b o e n hb (by simp)) (fun b o _ e n=>u.free b o e n (by simp)) (fun b o _ e=>u.there b o e (by simp)) u.tups u.frzs u.tbls (fun m' hm=>by
  obtain ⟨o',es',ep',ho',r'⟩:=hm
  rw [ho] at ho'; cases ho'
  exact ⟨_,es',ep',hL,r'⟩) hok I.bare
theorem Inv.call {g':Array GenState} {t':Nat} {d':Drawn} {ch:List Addr} (I:Inv X pins σ H s) (u:Un (frs X.stack) ch H H' s.heap h') (hok:HOk X.prog X.w H' h') (hg:AllBare g')
  (hch:∀ b ∈ ch,(b ∈ X.ex∨X.s₀.heap.objs.size≤b)∧b ≠ X.env.locals∧(∀ x c,X.env.cells.lookup x = some c→c ≠ b)∧∀ p ∈ X.pn ++ pins,p.1 ≠ b) :
  Inv X pins σ H' { s with heap:=h',gens:=g',drawn:=d',toks:=t' }:=by
 obtain ⟨m,⟨o,es,ep,ho,r⟩,_⟩:=id I.loc
 obtain ⟨sl,hL⟩:=u.any ho I.free fun z=>(hch _ z).2.1 rfl
 exact I.step (ch:=ch) hch (fun b o hL hb hc e n=>u.keep b o e n (fun z=>(List.mem_cons.mp (I.stkSub b z)).elim hL hb) hc) (fun b o _ _ hc e n=>u.any e n hc) (fun b o hc e n=>u.free b o e n hc) (fun b o hc e=>u.there b o e hc) u.tups u.frzs u.tbls (fun m' hm=>by
  obtain ⟨o',es',ep',ho',r'⟩:=hm
  rw [ho] at ho'; cases ho'
  exact ⟨_,es',ep',hL,r'⟩) hok hg
theorem Inv.turned {t':Nat} {it:Addr} (I:Inv X pins σ H s) (k:∀ b o,b ≠ it→s.heap.get? b = some o→h'.get? b = some o) (hn:H it = none) (hL:it ≠ X.env.locals)
  (h1:it ∈ X.ex∨X.s₀.heap.objs.size≤it) (h2:∀ x c,X.env.cells.lookup x = some c→c ≠ it) (h3:∀ p ∈ X.pn ++ pins,p.1 ≠ it):Inv X pins σ H { s with heap:=h',toks:=t' }:=by
 have nit:∀ b u,H b = some u→b ≠ it:=fun b u e z=>by rw [z,hn] at e; cases e
 refine I.step (g':=s.gens) (d':=s.drawn) (ch:=[it]) (fun b hb=>?_) (fun b o _ _ hc e _=>k b o (fun z=>hc (by simp [z])) e) (fun b o _ _ hc e _=>⟨o.slots,k b o (fun z=>hc (by simp [z])) e⟩) (fun _ _ _ _ n=>n)
  (fun b o hc e=>⟨o,k b o (fun z=>hc (by simp [z])) e⟩) (fun _ _ e=>e) (fun _ _ _ e=>e) (fun b ps e=>⟨#[],by rw [e]; simp⟩) (fun m hm=>?_) (fun b u e=>?_) I.bare
 ·have e:b = it:=by simpa using hb
  subst e
  exact ⟨h1,hL,h2,h3⟩
 ·obtain ⟨o,es,ep,ho,r⟩:=hm
  exact ⟨o,es,ep,k _ o (Ne.symm hL) ho,r⟩
 ·refine (I.hok b u e).stay (fun c v hc q=>k c v ?_ q) (fun _ q=>q) fun _ _ q=>q
  rcases hc with z | z
  ·rw [z]; exact nit b u e
  ·exact nit c _ z
theorem Inv.tok (I:Inv X pins σ H s) (t:Nat):Inv X pins σ H { s with toks:=t }:=I.un (h':=s.heap) (t':=t) Un.refl I.hok
theorem Inv.kept {t':Nat} (I:Inv X pins σ H s) (k:∀ b u,s.heap.get? b = some u→h'.get? b = some u):Inv X pins σ H { s with heap:=h',toks:=t' }:=I.un (Un.kept k) (I.hok.kept k)
theorem Inv.laid {a:Addr} {o:HO} {t':Nat} (I:Inv X pins σ H s) (k:∀ b u,s.heap.get? b = some u→h'.get? b = some u) (hp:s.heap.objs.size≤a) (new:ObjOk X.prog X.w (upd H a o) h' a o) :
  Inv X pins σ (upd H a o) { s with heap:=h',toks:=t' }:=I.un (Un.laid k hp (I.hok.fresh hp)) (I.hok.laid k hp new)
theorem Inv.write {x e:Addr} {o:HO} {t':Nat} (I:Inv X pins σ H s) (mu:Mut (H x)) (he:e = x∨H e = some (.own x)) (k:∀ b u,b ≠ e→s.heap.get? b = some u→h'.get? b = some u) (heo:∃ u,h'.get? e = some u)
  (new:ObjOk X.prog X.w (upd H x o) h' x o):Inv X pins σ (upd H x o) { s with heap:=h',toks:=t' }:=I.un (Un.write mu he k heo) (I.hok.write mu he k heo new)
theorem Inv.pins_of {pins':List (Addr × Obj)} (I:Inv X pins σ H s) (h:∀ p ∈ pins',s.heap.get? p.1 = some p.2∧H p.1 = none∧p.1 ≠ X.env.locals∧p.1 ∉ X.fs∧∀ v,p.2.data ≠ .cell v):Inv X pins' σ H s :=
 ⟨I.ok,I.os,I.bare,I.base,I.loc,I.cell,I.free,I.freeC,fun p hp=>(List.mem_append.mp hp).elim (fun z=>I.pin p (List.mem_append_left _ z)) (h p),I.hok,I.len⟩
theorem nodup_ix {N:List Str} (hN:N.Nodup) {i j:Nat} {x:Str} (a:N[i]? = some x) (b:N[j]? = some x):i = j:=by
 obtain ⟨h1,e1⟩:=List.getElem?_eq_some_iff.mp a
 obtain ⟨h2,e2⟩:=List.getElem?_eq_some_iff.mp b
 exact (List.getElem_inj hN).mp (e1.trans e2.symm)
theorem store_ok2 {M:Model} {A:Around} {E:Value→Shared→Prop} {i:Nat} {x:Str} {v:V} {u:Value} {Q:Unit→Shared→Prop} (I:Inv X pins σ H s) (hN:X.N.Nodup) (hi:X.N[i]? = some x) (hx:Loc X.env.scope x) (r:RelV v u)
  (h:∀ s',Inv X pins (σ.set i (some v)) H s'→(∃ a,Heap.SameBut a s.heap s'.heap∧(a = X.env.locals∨X.env.cells.lookup x = some a))→Q () s') (hf:X.fn x = true∨X.env.scope.names.lookup x = some .local:=by first | exact .inl rfl | exact .inr rfl | assumption):wpAny M A (storeName X.env x u) Q E s:=by
 obtain ⟨m,hn,hl⟩:=id I.loc
 have hcls:(X.env.scope.kind == .class || (X.env.scope.kind == .module && X.env.locals != X.env.globals)) = false:=by rw [I.ok.kind]; rfl
 have hiσ:i < σ.length:=by rw [I.len]; exact (List.getElem?_eq_some_iff.mp hi).1
 have cne:=I.cne
 have tracked:∀ {a:Addr} {h':Heap},(∃ o,s.heap.get? a = some o∧H a = none)→Heap.SameBut a s.heap h'→HOk X.prog X.w H h':=fun {a h'} ha hs b ob e=>by
  obtain ⟨_,_,hfree⟩:=ha
  refine (I.hok b ob e).stay (fun c w' hc q=>(hs.2 c ?_).trans q) (fun _ q=>q) fun _ _ q=>q
  rintro rfl
  rcases hc with rfl | hc
  ·rw [hfree] at e; cases e
  ·rw [hfree] at hc; cases hc
 rcases hx with hk | hk
 ·refine wpAny_storeName_local hk hn (fun h' hn' hs=>?_) hcls
  obtain ⟨oL,_,_,hoL,_⟩:=id hn
  refine h _ ⟨I.ok,I.os,I.bare,⟨fun b o e n hb hx=>?_,fun b o e n hb hx=>?_,I.base.free,fun b o e hx=>?_,I.base.tups,I.base.frzs,I.base.tbls⟩,⟨_,hn',fun j y v' e1 e2 e3=>?_⟩,fun y c e=>?_,I.free,I.freeC,fun p hp=>?_,tracked ⟨oL,hoL,I.free⟩ hs,by simpa using I.len⟩ ⟨_,hs,.inl rfl⟩
  ·exact (hs.2 b (Nat.ne_of_lt (Nat.lt_of_lt_of_le (Heap.lt_size e) I.ok.above))).trans (I.base.keep b o e n hb hx)
  ·obtain ⟨sl,e1⟩:=I.base.slot b o e n hb hx
   exact ⟨sl,(hs.2 b (Nat.ne_of_lt (Nat.lt_of_lt_of_le (Heap.lt_size e) I.ok.above))).trans e1⟩
  ·obtain ⟨o',e1⟩:=I.base.there b o e hx
   exact ⟨o',(hs.2 b (Nat.ne_of_lt (Nat.lt_of_lt_of_le (Heap.lt_size e) I.ok.above))).trans e1⟩
  ·by_cases hj:j = i
   ·subst hj
    rw [hi] at e1; cases e1
    rw [List.getElem?_set_self hiσ] at e2
    cases e2
    exact ⟨u,r,.inl ⟨hk,by simp⟩⟩
   ·rw [List.getElem?_set_ne (Ne.symm hj)] at e2
    obtain ⟨u',r',q⟩:=hl j y v' e1 e2 e3
    refine ⟨u',r',?_⟩
    rcases q with ⟨k,e⟩ | ⟨k,c,e,z⟩
    ·refine .inl ⟨k,?_⟩
     have:y ≠ x:=fun e=>hj (nodup_ix hN e1 (e ▸ hi))
     simp [this,e]
    ·exact .inr ⟨k,c,e,z.sameBut hs (cne y c e)⟩
  ·obtain ⟨w',z⟩:=I.cell y c e
   exact ⟨w',z.sameBut hs (cne y c e)⟩
  ·obtain ⟨e,n,ne,nf,d⟩:=I.pin p hp
   exact ⟨(hs.2 p.1 ne).trans e,n,ne,nf,d⟩
 ·have hfn:X.fn x = true:=by
   rcases hf with z | z
   ·exact z
   ·rw [z] at hk; cases hk
  obtain ⟨c,hc⟩:=I.ok.has x (.inl hk)
  obtain ⟨w',z⟩:=I.cell x c hc
  refine wpAny_storeName_cell I.ok.kind hk hc z (fun h' hc' hs=>?_)
  obtain ⟨oc,hoc,hocd⟩:=id z
  refine h { s with heap:=h' } ⟨I.ok,I.os,I.bare,⟨fun b o e n hb hx=>?_,fun b o e n hb hx=>?_,I.base.free,fun b o e hx=>?_,I.base.tups,I.base.frzs,I.base.tbls⟩,⟨m,hn.sameBut hs (Ne.symm (cne x c hc)),fun j y v' e1 e2 e3=>?_⟩,fun y c' e=>?_,I.free,I.freeC,fun p hp=>?_,tracked ⟨oc,hoc,I.freeC x c hc⟩ hs,by simpa using I.len⟩ ⟨c,hs,.inr hc⟩
  ·exact (hs.2 b (Nat.ne_of_lt (Nat.lt_of_lt_of_le (Heap.lt_size e) (I.ok.cab x c hfn hc)))).trans (I.base.keep b o e n hb hx)
  ·obtain ⟨sl,e1⟩:=I.base.slot b o e n hb hx
   exact ⟨sl,(hs.2 b (Nat.ne_of_lt (Nat.lt_of_lt_of_le (Heap.lt_size e) (I.ok.cab x c hfn hc)))).trans e1⟩
  ·obtain ⟨o',e1⟩:=I.base.there b o e hx
   exact ⟨o',(hs.2 b (Nat.ne_of_lt (Nat.lt_of_lt_of_le (Heap.lt_size e) (I.ok.cab x c hfn hc)))).trans e1⟩
  ·by_cases hj:j = i
   ·subst hj
    rw [hi] at e1; cases e1
    rw [List.getElem?_set_self hiσ] at e2
    cases e2
    exact ⟨u,r,.inr ⟨.inl hk,c,hc,hc'⟩⟩
   ·rw [List.getElem?_set_ne (Ne.symm hj)] at e2
    obtain ⟨u',r',q⟩:=hl j y v' e1 e2 e3
    refine ⟨u',r',?_⟩
    rcases q with q | ⟨k,c',e,z'⟩
    ·exact .inl q
    ·refine .inr ⟨k,c',e,z'.sameBut hs ?_⟩
     rintro rfl
     exact hj (nodup_ix hN e1 (I.ok.inj _ _ _ e hc ▸ hi))
  ·by_cases hcc:c' = c
   ·subst hcc; exact ⟨_,hc'⟩
   ·obtain ⟨w2,z2⟩:=I.cell y c' e
    exact ⟨w2,z2.sameBut hs hcc⟩
  ·obtain ⟨e,n,ne,nf,d⟩:=I.pin p hp
   refine ⟨(hs.2 p.1 ?_).trans e,n,ne,nf,d⟩
   intro q
   rw [q,hoc] at e
   have q':oc = p.2:=Option.some.inj e
   exact d w' (by rw [← q']; exact hocd)
theorem store_ok {M:Model} {A:Around} {E:Value→Shared→Prop} {i:Nat} {x:Str} {v:V} {u:Value} {Q:Unit→Shared→Prop} (I:Inv X pins σ H s) (hN:X.N.Nodup) (hi:X.N[i]? = some x) (hx:Loc X.env.scope x) (r:RelV v u)
  (h:∀ s',Inv X pins (σ.set i (some v)) H s'→Q () s') (hf:X.fn x = true∨X.env.scope.names.lookup x = some .local:=by first | exact .inl rfl | exact .inr rfl | assumption):wpAny M A (storeName X.env x u) Q E s :=
 store_ok2 I hN hi hx r (fun s' I' _=>h s' I') hf
theorem Inv.call' {s':Shared} {ch:List Addr} (I:Inv X pins σ H s) (ho:s'.os = s.os) (u:Un (frs X.stack) ch H H' s.heap s'.heap) (hok:HOk X.prog X.w H' s'.heap) (hg:AllBare s'.gens)
  (hch:∀ b ∈ ch,(b ∈ X.ex∨X.s₀.heap.objs.size≤b)∧b ≠ X.env.locals∧(∀ x c,X.env.cells.lookup x = some c→c ≠ b)∧∀ p ∈ X.pn ++ pins,p.1 ≠ b):Inv X pins σ H' s':=by
 obtain ⟨h',g',d',t',o'⟩:=s'
 have e:o' = s.os:=ho
 subst e
 exact I.call (g':=g') (t':=t') (d':=d') u hok hg hch
end
abbrev XK:=Value→Option Addr→Hp→Prop
abbrev St:=List (Option V)
abbrev VK:=V→Hp→Prop
abbrev TE:=St→Hp→VK→Prop
abbrev TT:=St→Hp→(Bool→Hp→Prop)→Prop
abbrev TA:=St→Hp→(List V→Hp→Prop)→Prop
structure Ends where
 nx:St→Hp→Prop
 rt:VK
 bk:St→Hp→Prop:=fun _ _=>False
 ct:St→Hp→Prop:=fun _ _=>False
abbrev TS:=Ends→St→Hp→Prop
def EP (X:Cx) (pins:List (Addr × Obj)) (σ:St) (Q:VK) (u:Value) (s':Shared):Prop:=∃ v H',Inv X pins σ H' s'∧RelV v u∧Q v H'
def TP (X:Cx) (pins:List (Addr × Obj)) (σ:St) (Q:Bool→Hp→Prop) (b:Bool) (s':Shared):Prop:=∃ H',Inv X pins σ H' s'∧Q b H'
def AP (X:Cx) (pins:List (Addr × Obj)) (σ:St) (Q:List V→Hp→Prop) (us:List Value) (s':Shared):Prop:=∃ vs H',Inv X pins σ H' s'∧Vals vs us∧Q vs H'
def SP (X:Cx) (pins:List (Addr × Obj)) (D:Ends) (f:Flow) (s':Shared):Prop :=
 match f with
 | .next=>∃ σ' H',Inv X pins σ' H' s'∧D.nx σ' H'
 | .brk=>∃ σ' H',Inv X pins σ' H' s'∧D.bk σ' H'
 | .cont=>∃ σ' H',Inv X pins σ' H' s'∧D.ct σ' H'
 | .ret u=>∃ v σ' H',Inv X pins σ' H' s'∧RelV v u∧D.rt v H'
def PE (X:Cx) (e:Expr) (t:TE):Prop :=
 ∀ (pins:List (Addr × Obj)) (s:Shared) (σ:St) (H:Hp) (Q:VK),Inv X pins σ H s→t σ H Q→wpAny (model X.prog X.w) X.A (eval e X.env) (EP X pins σ Q) X.xe s
def PT (X:Cx) (e:Expr) (t:TT):Prop :=
 ∀ (pins:List (Addr × Obj)) (s:Shared) (σ:St) (H:Hp) (Q:Bool→Hp→Prop),Inv X pins σ H s→t σ H Q→wpAny (model X.prog X.w) X.A (isTrue e X.env (eval e X.env)) (TP X pins σ Q) X.xe s
def PW (X:Cx) (e:Expr) (t:TT):Prop :=
 ∀ (whole:Sem Value) (pins:List (Addr × Obj)) (s:Shared) (σ:St) (H:Hp) (Q:Bool→Hp→Prop),Inv X pins σ H s→t σ H Q→wpAny (model X.prog X.w) X.A (isTrue e X.env whole) (TP X pins σ Q) X.xe s
theorem PW.pt {X:Cx} {e:Expr} {t:TT} (h:PW X e t):PT X e t:=h _
def PA (X:Cx) (es:List Expr) (t:TA):Prop :=
 ∀ (pos:Pos) (pins:List (Addr × Obj)) (s:Shared) (σ:St) (H:Hp) (Q:List V→Hp→Prop),Inv X pins σ H s→t σ H Q→wpAny (model X.prog X.w) X.A (spliced (backTo pos (starEach es X.env))) (AP X pins σ Q) X.xe s
def PS (X:Cx) (st:Stmt) (t:TS):Prop :=
 ∀ (pins:List (Addr × Obj)) (s:Shared) (σ:St) (H:Hp) (D:Ends),Inv X pins σ H s→t D σ H→wpAny (model X.prog X.w) X.A (exec st X.env) (SP X pins D) X.xe s
def PSs (X:Cx) (st:List Stmt) (t:TS):Prop :=
 ∀ (pins:List (Addr × Obj)) (s:Shared) (σ:St) (H:Hp) (D:Ends),Inv X pins σ H s→t D σ H→wpAny (model X.prog X.w) X.A (execs st X.env) (SP X pins D) X.xe s
theorem thn {α:Type} {t:Sem α} {Q Q':α→Shared→Prop} {M:Model} {A:Around} {E:Value→Shared→Prop} {s:Shared} (h:wpAny M A t Q E s) (hQ:∀ a s,Q a s→Q' a s):wpAny M A t Q' E s:=wpAny_mono h hQ fun _ _ x=>x
end L2
namespace L2
open PySem PySem.Spec PyProof.Rows
section
variable {X:Cx}
def tVar (i:Nat):TE:=fun σ H Q=>∃ v,σ[i]? = some (some v)∧Q v H
def tC (v:V):TE:=fun _ H Q=>Q v H
theorem pe_var {i:Nat} {x:Str} {pos:Pos} (hN:X.N[i]? = some x) (hv:Vis X.env.scope x) (hd:(x == ("__debug__":Str)) = false:=by decide) (hcd:(x == ("__classdict__":Str)) = false:=by decide):PE X (.Name x pos) (tVar i):=by
 intro pins s σ H Q I h
 obtain ⟨v,e,h⟩:=h
 obtain ⟨m,hn,hl⟩:=I.loc
 obtain ⟨u,r,l⟩:=hl i x v hN e hv
 have fin:EP X pins σ Q u s:=⟨v,H,I,r,h⟩
 rcases l with ⟨hk,hm⟩ | ⟨hk,c,hc,hcell⟩
 ·exact wpAny_Name (wpAny_loadName_local I.ok.kind hk hn hm fin) hd
 ·rcases hk with hk | hk
  ·exact wpAny_Name (wpAny_loadName_cell I.ok.kind hk hc hcell fin) hd
  ·exact wpAny_Name (wpAny_loadName_free I.ok.kind hk hc hcell fin hcd) hd
theorem pe_int {i j pos}:PE X (.Constant (.int i) j pos) (tC (.int i)):=fun _ _ _ H _ I h=>wpAny_Constant_int ⟨.int i,H,I.tok _,⟨_,rfl⟩,h⟩
theorem pe_bl {b j pos}:PE X (.Constant (.bool b) j pos) (tC (.bl b)):=fun _ _ _ H _ I h=>Constant_bool ⟨.bl b,H,I,rfl,h⟩
theorem pe_non {j pos}:PE X (.Constant .none j pos) (tC .non):=fun _ _ _ H _ I h=>Constant_none ⟨.non,H,I,rfl,h⟩
theorem pe_str {x j pos}:PE X (.Constant (.str x) j pos) (tC (.str x)):=fun _ _ _ H _ I h=>Calls.Constant_str ⟨.str x,H,I.tok _,⟨_,rfl⟩,h⟩
def Gl (X:Cx) (x:Str):Prop:=X.env.kindOf x = some .globalImplicit
theorem ld_glob {E:Value→Shared→Prop} {pins:List (Addr × Obj)} {s:Shared} {σ:St} {H:Hp} {x:Str} {u:Value} {pos:Pos} {Q:Value→Shared→Prop} (I:Inv X pins σ H s) (hg:Gl X x) (hm:X.mg x = some u) (h:Q u s)
  (hd:(x == ("__debug__":Str)) = false:=by decide):wpAny (model X.prog X.w) X.A (eval (.Name x pos) X.env) Q E s :=
 Calls.Name_function_global I.ok.kind hg (Calls.loadGlobal_global (by rw [I.ok.glob]; exact I.mod.glob.keeps I.bk) hm h) hd
theorem ld_blt {E:Value→Shared→Prop} {pins:List (Addr × Obj)} {s:Shared} {σ:St} {H:Hp} {x:Str} {u:Value} {pos:Pos} {Q:Value→Shared→Prop} (I:Inv X pins σ H s) (hg:Gl X x) (hm:X.mg x = none) (hv:bootBuiltins x = some u) (h:Q u s)
  (hn:x ≠ "__name__":=by decide) (hd:(x == ("__debug__":Str)) = false:=by decide):wpAny (model X.prog X.w) X.A (eval (.Name x pos) X.env) Q E s:=by
 obtain ⟨mb,h1,h2⟩:=I.mod.blt
 exact Calls.Name_function_global I.ok.kind hg (Calls.loadGlobal_builtin (by rw [I.ok.glob]; exact I.mod.glob.keeps I.bk) hm (by rw [I.ok.blt]; exact h1.keeps I.bk) ((h2 x hn).trans hv) h) hd
theorem pe_glob {x:Str} {v:V} {u:Value} {pos:Pos} (hg:Gl X x) (hm:X.mg x = some u) (r:RelV v u) (hd:(x == ("__debug__":Str)) = false:=by decide):PE X (.Name x pos) (tC v) :=
 fun _ _ _ H _ I h=>ld_glob I hg hm ⟨v,H,I,r,h⟩ hd
theorem pe_bltn {x:Str} {v:V} {u:Value} {pos:Pos} (hg:Gl X x) (hm:X.mg x = none) (hv:bootBuiltins x = some u) (r:RelV v u) (hn:x ≠ "__name__":=by decide) (hd:(x == ("__debug__":Str)) = false:=by decide):PE X (.Name x pos) (tC v) :=
 fun _ _ _ H _ I h=>ld_blt I hg hm hv ⟨v,H,I,r,h⟩ hn hd
variable {a b:Expr} {ta tb:TE} {pos:Pos}
def tB (t:TE):TT:=fun σ H Q=>t σ H fun x H1=>∃ c,x = .bl c∧Q c H1
theorem pt_val {e:Expr} {t:TE} (h:PE X e t) (he:∀ whole,isTrue e X.env whole = (do let v ← whole; standAt e.pos; holding [v] (truthy v)):=by intro _; rfl):PT X e (tB t):=by
 intro pins s σ H Q I hw
 refine isTrue_plain (thn (h pins s σ H _ I hw) fun v s1 ⟨x,H1,I1,r1,q1⟩=>?_) (he _)
 obtain ⟨d,rfl,q⟩:=q1
 cases r1
 exact wpAny_truthy_bool ⟨H1,I1,q⟩
variable {tA tB':TT} {rest:List Expr}
def tAnd (t u:TT):TT:=fun σ H Q=>t σ H fun c H1=>if c = true then u σ H1 Q else Q false H1
def tOr (t u:TT):TT:=fun σ H Q=>t σ H fun c H1=>if c = true then Q true H1 else u σ H1 Q
def tNot (t:TT):TT:=fun σ H Q=>t σ H fun c H1=>Q (!c) H1
theorem pw_and1 (ha:PT X a tA):PW X (.BoolOp .And [a] pos) tA:=by
 intro wh pins s σ H Q I h
 refine isTrue_and (thn (ha pins s σ H Q I h) fun c s1 e=>?_)
 cases c with
 | true=>exact isTrue_and_nil e
 | false=>exact e
theorem pw_or1 (ha:PT X a tA):PW X (.BoolOp .Or [a] pos) tA:=by
 intro wh pins s σ H Q I h
 refine isTrue_or (thn (ha pins s σ H Q I h) fun c s1 e=>?_)
 cases c with
 | false=>exact isTrue_or_nil e
 | true=>exact e
theorem pw_and (ha:PT X a tA) (hb:PW X (.BoolOp .And (b :: rest) pos) tB'):PW X (.BoolOp .And (a :: b :: rest) pos) (tAnd tA tB'):=by
 intro wh pins s σ H Q I h
 refine isTrue_and (thn (ha pins s σ H _ I h) fun c s1 ⟨H1,I1,q1⟩=>?_)
 cases c with
 | true=>exact hb wh pins s1 σ H1 Q I1 q1
 | false=>exact ⟨H1,I1,q1⟩
theorem pw_or (ha:PT X a tA) (hb:PW X (.BoolOp .Or (b :: rest) pos) tB'):PW X (.BoolOp .Or (a :: b :: rest) pos) (tOr tA tB'):=by
 intro wh pins s σ H Q I h
 refine isTrue_or (thn (ha pins s σ H _ I h) fun c s1 ⟨H1,I1,q1⟩=>?_)
 cases c with
 | true=>exact ⟨H1,I1,q1⟩
 | false=>exact hb wh pins s1 σ H1 Q I1 q1
theorem pt_not (ha:PT X a tA):PT X (.UnaryOp .Not a pos) (tNot tA):=by
 intro pins s σ H Q I h
 exact isTrue_not (ha pins s σ H (fun c H1=>Q (!c) H1) I h)
def tAndV (ta tb:TE):TE:=fun σ H Q=>ta σ H fun x H1=>∃ c,x = .bl c∧if c = true then tb σ H1 Q else Q (.bl false) H1
def tNotV (ta:TE):TE:=fun σ H Q=>ta σ H fun x H1=>∃ c,x = .bl c∧Q (.bl (!c)) H1
theorem pe_one {op} {t:TE} (h:PE X a t):PE X (.BoolOp op [a] pos) t:=fun pins s σ H Q I hw=>BoolOp_one (h pins s σ H Q I hw)
theorem pe_and (ha:PE X a ta) (hb:PE X (.BoolOp .And (b :: rest) pos) tb):PE X (.BoolOp .And (a :: b :: rest) pos) (tAndV ta tb):=by
 intro pins s σ H Q I h
 refine BoolOp_and (thn (ha pins s σ H _ I h) fun v s1 ⟨x,H1,I1,r1,q1⟩=>?_)
 obtain ⟨c,rfl,q1⟩:=q1
 cases r1
 refine wpAny_truthy_bool ?_
 cases c with
 | true=>exact hb pins s1 σ H1 Q I1 q1
 | false=>exact ⟨.bl false,H1,I1,rfl,q1⟩
theorem pe_not (ha:PE X a ta):PE X (.UnaryOp .Not a pos) (tNotV ta):=by
 intro pins s σ H Q I h
 refine UnaryOp_ (thn (ha pins s σ H _ I h) fun v s1 ⟨x,H1,I1,r1,q1⟩=>?_)
 obtain ⟨c,rfl,q1⟩:=q1
 cases r1
 exact not_of (wpAny_truthy_bool ⟨.bl (!c),H1,I1,rfl,q1⟩)
end
end L2
namespace L2
open PySem PySem.Spec PyProof.Rows
def SqL (K:PySem.W.Frag) (H:Hp) (a:Addr) (xs:List V):Prop :=
 Rd H a (.lst xs) ∨
  ∃ (o:Obj) (its:Array Value) (n:Nat),K.lookup a = some o∧o.cls = .type "list"∧o.dict = none∧o.data = .seq its n∧its.size≤sizeLine∧Vals xs its.toList
def SqT (K:PySem.W.Frag) (H:Hp) (a:Addr) (xs:List V):Prop :=
 Rd H a (.tup xs) ∨
  ∃ (o:Obj) (its:Array Value) (n:Nat),K.lookup a = some o∧o.cls = .type "tuple"∧o.data = .seq its n∧its.size≤sizeLine∧Vals xs its.toList
def absV:Value→Option V
 | .none=>some .non
 | .bool b=>some (.bl b)
 | .int i _=>some (.int i)
 | .str x _=>some (.str x)
 | .bytes b _=>some (.byt b)
 | .float b _=>some (.flt b)
 | .ref a=>some (.ref a)
 | .type n=>some (.ty n)
 | _=>none
theorem RelV.abs {x:V} {u:Value} (r:RelV x u):absV u = some x:=by
 cases x with
 | non=>cases r; rfl
 | bl _=>cases r; rfl
 | int _=>obtain ⟨t,rfl⟩:=r; rfl
 | str _=>obtain ⟨t,rfl⟩:=r; rfl
 | byt _=>obtain ⟨t,rfl⟩:=r; rfl
 | flt _=>obtain ⟨t,rfl⟩:=r; rfl
 | ref _=>cases r; rfl
 | ty _=>cases r; rfl
theorem RelV.inj {x y:V} {u:Value} (r:RelV x u) (q:RelV y u):x = y:=Option.some.inj (r.abs.symm.trans q.abs)
theorem Vals.inj:∀ {xs ys:List V} {us:List Value},Vals xs us→Vals ys us→xs = ys
 | _,_,_,.nil,.nil=>rfl
 | _,_,_,.cons r t,.cons r' t'=>by rw [r.inj r',Vals.inj t t']
section
variable {X:Cx} {pins:List (Addr × Obj)} {σ:St} {H:Hp} {s:Shared} {a:Addr} {xs ys:List V}
theorem SqL.of {K:PySem.W.Frag} (h:H a = some (.lst xs)):SqL K H a xs:=.inl (.inl h)
theorem SqT.of {K:PySem.W.Frag} (h:H a = some (.tup xs)):SqT K H a xs:=.inl (.inl h)
theorem Inv.list (I:Inv X pins σ H s) (h:SqL X.K H a xs):∃ its:List Value,Vals xs its∧PlainL s.heap a its.toArray∧xs.length≤sizeLine:=by
 rcases h with h | ⟨o,its,n,hk,hc,hd,hs,hz,r⟩
 ·obtain ⟨z,its,n,r,e⟩:=h.ok I.hok
  exact ⟨its,r,⟨_,n,e,rfl,rfl,rfl⟩,z⟩
 ·refine ⟨its.toList,r,⟨o,n,I.kIn a o hk,hc,hd,by simpa using hs⟩,?_⟩
  have e:=r.length
  simp only [Array.length_toList] at e
  lia
theorem Inv.tuple (I:Inv X pins σ H s) (h:SqT X.K H a xs):∃ its:List Value,Vals xs its∧IsTup s.heap a its.toArray∧xs.length≤sizeLine:=by
 rcases h with h | ⟨o,its,n,hk,hc,hs,hz,r⟩
 ·obtain ⟨z,its,r,p⟩:=h.ok I.hok
  exact ⟨its,r,p,z⟩
 ·refine ⟨its.toList,r,⟨o,I.kIn a o hk,hc,n,by simpa using hs⟩,?_⟩
  have e:=r.length
  simp only [Array.length_toList] at e
  lia
theorem Inv.list_inj (I:Inv X pins σ H s) (h:SqL X.K H a xs) (h':SqL X.K H a ys):xs = ys:=by
 obtain ⟨its,r,⟨o,n,e,_,_,d⟩,_⟩:=I.list h
 obtain ⟨its',r',⟨o',n',e',_,_,d'⟩,_⟩:=I.list h'
 rw [e] at e'; cases e'
 rw [d] at d'
 injection d' with d1 _
 have:its = its':=by simpa using congrArg Array.toList d1
 subst this
 exact r.inj r'
end
abbrev Cx.wish (X:Cx) (E:Value→Shared→Prop):Cx:={ X with xe:=E }
abbrev Cx.nox (X:Cx):Cx:=X.wish fun _ _=>False
theorem Cx.Ok.wish {X:Cx} (ok:X.Ok) (E:Value→Shared→Prop):(X.wish E).Ok :=
 ⟨ok.mod,ok.kind,ok.glob,ok.blt,ok.above,ok.inj,ok.has,ok.cab,ok.hd,ok.frames,ok.stk,ok.exf,ok.bs,ok.bsz,ok.noex,ok.exfs,ok.funs,ok.frf⟩
theorem Cx.Ok.unwish {X:Cx} {E:Value→Shared→Prop} (ok:(X.wish E).Ok):X.Ok :=
 ⟨ok.mod,ok.kind,ok.glob,ok.blt,ok.above,ok.inj,ok.has,ok.cab,ok.hd,ok.frames,ok.stk,ok.exf,ok.bs,ok.bsz,ok.noex,ok.exfs,ok.funs,ok.frf⟩
section
variable {X:Cx} {pins:List (Addr × Obj)} {σ:St} {H:Hp} {s:Shared} {E:Value→Shared→Prop}
theorem Inv.wish (I:Inv X pins σ H s) (E:Value→Shared→Prop):Inv (X.wish E) pins σ H s:=⟨I.ok.wish E,I.os,I.bare,I.base,I.loc,I.cell,I.free,I.freeC,I.pin,I.hok,I.len⟩
theorem Inv.unwish (I:Inv (X.wish E) pins σ H s):Inv X pins σ H s:=⟨I.ok.unwish,I.os,I.bare,I.base,I.loc,I.cell,I.free,I.freeC,I.pin,I.hok,I.len⟩
theorem SP.unwish {D:Ends} {f:Flow} {s':Shared} (h:SP (X.wish E) pins D f s'):SP X pins D f s':=by
 cases f with
 | next=>obtain ⟨σ',H',I,q⟩:=h; exact ⟨σ',H',I.unwish,q⟩
 | brk=>obtain ⟨σ',H',I,q⟩:=h; exact ⟨σ',H',I.unwish,q⟩
 | cont=>obtain ⟨σ',H',I,q⟩:=h; exact ⟨σ',H',I.unwish,q⟩
 | ret u=>obtain ⟨v,σ',H',I,r,q⟩:=h; exact ⟨v,σ',H',I.unwish,r,q⟩
theorem PSs.nox {st:List Stmt} {t:TS} (h:PSs X.nox st t):PSs X st t:=fun pins s σ H D I hw =>
 wpAny_mono (h pins s σ H D (I.wish _) hw) (fun _ _ q=>q.unwish) fun _ _ z=>False.elim z
end
section
variable {X:Cx} {st:Stmt} {rest:List Stmt} {t u:TS} {e:Expr} {te:TE} {pos:Pos}
def tNext:TS:=fun D σ H=>D.nx σ H
def tSeq (t u:TS):TS:=fun D σ H=>t { D with nx:=u D } σ H
theorem pss_nil:PSs X [] tNext:=fun _ _ σ H _ I h=>wpAny_execs_nil ⟨σ,H,I,h⟩
theorem pss_cons (h1:PS X st t) (h2:PSs X rest u):PSs X (st :: rest) (tSeq t u):=by
 intro pins s σ H D I h
 refine wpAny_execs_cons (thn (h1 pins s σ H { D with nx:=u D } I h) fun f s1 q=>?_)
 cases f with
 | next =>
  obtain ⟨σ',H',I',q⟩:=q
  exact h2 pins s1 σ' H' D I' q
 | ret v=>exact q
 | brk=>exact q
 | cont=>exact q
theorem pss_one (h1:PS X st t):PSs X [st] t:=by
 intro pins s σ H D I h
 refine wpAny_execs_cons (thn (h1 pins s σ H D I h) fun f s1 q=>?_)
 cases f with
 | next=>exact wpAny_execs_nil q
 | ret v=>exact q
 | brk=>exact q
 | cont=>exact q
theorem Inv.quiet {pins:List (Addr × Obj)} {σ:St} {H:Hp} {s:Shared} (I:Inv X pins σ H s):interactive X.env = false:=by simp [interactive,I.ok.kind]
def tDrop (te:TE):TS:=fun D σ H=>te σ H fun _ H1=>D.nx σ H1
theorem ps_expr (he:PE X e te) (hs:swapsWith e none pos.line X.env = pure false:=by rfl):PS X (.Expr e pos) (tDrop te):=by
 intro pins s σ H D I h
 exact wpAny_Expr_any (thn (he pins s σ H _ I h) fun v s1 ⟨x,H1,I1,r1,q1⟩=>⟨σ,H1,I1,q1⟩) I.quiet hs
def tRet (te:TE):TS:=fun D σ H=>te σ H D.rt
theorem ps_ret (he:PE X e te):PS X (.Return (some e) pos) (tRet te):=by
 intro pins s σ H D I h
 exact wpAny_Return_some (thn (he pins s σ H _ I h) fun v s1 ⟨x,H1,I1,r1,q1⟩=>⟨x,σ,H1,I1,r1,q1⟩)
def tIfS (c:TT) (t u:TS):TS:=fun D σ H=>c σ H fun b H1=>if b = true then t D σ H1 else u D σ H1
theorem ps_if {c:Expr} {a b:List Stmt} {tc:TT} (hc:PT X c tc) (ha:PSs X a t) (hb:PSs X b u):PS X (.If c a b pos) (tIfS tc t u):=by
 intro pins s σ H D I h
 refine wpAny_If (thn (hc pins s σ H _ I h) fun d s1 ⟨H1,I1,q1⟩=>?_)
 cases d with
 | true=>exact ha pins s1 σ H1 D I1 q1
 | false=>exact hb pins s1 σ H1 D I1 q1
def tNever:TS:=fun _ _ _=>False
theorem ps_never:PS X st tNever:=fun _ _ _ _ _ _ h=>h.elim
theorem pss_never {sts:List Stmt}:PSs X sts tNever:=fun _ _ _ _ _ _ h=>h.elim
end
abbrev TG:=V→St→Hp→(St→Hp→Prop)→Prop
abbrev TGs:=List V→St→Hp→(St→Hp→Prop)→Prop
def PG (X:Cx) (target:Expr) (t:TG):Prop :=
 ∀ (pins:List (Addr × Obj)) (s:Shared) (σ:St) (H:Hp) (v:V) (u:Value) (Q:St→Hp→Prop),Inv X pins σ H s→RelV v u→t v σ H Q →
  wpAny (model X.prog X.w) X.A (assign target X.env u) (fun _ s'=>∃ σ' H',Inv X pins σ' H' s'∧Q σ' H') X.xe s
def PGs (X:Cx) (ts:List Expr) (t:TGs):Prop :=
 ∀ (pins:List (Addr × Obj)) (s:Shared) (σ:St) (H:Hp) (vs:List V) (us:List Value) (Q:St→Hp→Prop),Inv X pins σ H s→Vals vs us→t vs σ H Q →
  wpAny (model X.prog X.w) X.A (assignInOrder ((assignEach ts X.env).map (·.2)) us) (fun _ s'=>∃ σ' H',Inv X pins σ' H' s'∧Q σ' H') X.xe s
abbrev TSet:=V→V→V→Hp→(Hp→Prop)→Prop
def PSet (X:Cx) (t:TSet):Prop :=
 ∀ (pins:List (Addr × Obj)) (s:Shared) (σ:St) (H:Hp) (o i v:V) (ov iv u:Value) (Q:Hp→Prop),Inv X pins σ H s→RelV o ov→RelV i iv→RelV v u→t o i v H Q →
  wpAny (model X.prog X.w) X.A (setItem ov iv u) (fun _ s'=>∃ H',Inv X pins σ H' s'∧Q H') X.xe s
section
variable {X:Cx} {pos:Pos}
def gName (i:Nat):TG:=fun v σ H Q=>Q (σ.set i (some v)) H
theorem pg_name {i:Nat} {x:Str} (hN:X.N.Nodup) (hi:X.N[i]? = some x) (hx:Loc X.env.scope x) (hf:X.fn x = true∨X.env.scope.names.lookup x = some .local:=by first | exact .inl rfl | exact .inr rfl | assumption):PG X (.Name x pos) (gName i):=by
 intro pins s σ H v u Q I r h
 exact wpAny_assign_Name (store_ok I hN hi hx r (fun s' I'=>⟨_,H,I',h⟩) hf)
def gNil:TGs:=fun vs σ H Q=>vs = []∧Q σ H
def gCons (t:TG) (u:TGs):TGs:=fun vs σ H Q=>∃ v r,vs = v :: r∧t v σ H fun σ' H'=>u r σ' H' Q
theorem pgs_nil:PGs X [] gNil:=by
 intro pins s σ H vs us Q I r h
 obtain ⟨e,h⟩:=h
 subst e
 cases r
 exact assignInOrder_nil ⟨σ,H,I,h⟩
theorem pgs_cons {e:Expr} {es:List Expr} {t:TG} {u:TGs} (h1:PG X e t) (h2:PGs X es u)
  (hs:(assignEach (e :: es) X.env).map (·.2) = assign e X.env :: (assignEach es X.env).map (·.2):=by rfl):PGs X (e :: es) (gCons t u):=by
 intro pins s σ H vs us Q I r h
 obtain ⟨v,vr,e1,h⟩:=h
 subst e1
 cases r with
 | cons r rr =>
  rw [hs]
  refine assignInOrder_cons (thn (h1 pins s σ H _ _ _ I r h) fun _ s1 ⟨σ1,H1,I1,q1⟩=>?_)
  exact h2 pins s1 σ1 H1 _ _ Q I1 rr q1
def gTup (K:PySem.W.Frag) (n:Nat) (t:TGs):TG:=fun v σ H Q=>∃ a xs,v = .ref a∧SqT K H a xs∧xs.length = n∧t xs σ H Q
theorem pg_tup {es:List Expr} {k:Nat} {t:TGs} {n:Nat} (hc:X.calm = true) (h:PGs X es t)
  (hn:(assignEach es X.env).length = n:=by rfl) (hst:(assignEach es X.env).findIdx? (·.1) = none:=by rfl):PG X (.Tuple es k pos) (gTup X.K n t):=by
 intro pins s σ H v u Q I r hw
 obtain ⟨a,xs,e1,hq,hl,hw⟩:=hw
 subst e1
 cases r
 obtain ⟨its,rv,ht,hz⟩:=I.tuple hq
 refine assign_Tuple_tuple (I.ok.hd hc) ht (by simp [hn,← hl,rv.length]) hst fun h' hx=>?_
 have I1:Inv X pins σ H { s with heap:=h' }:=I.kept (t':=s.toks) fun b o e=>hx b o (Nat.ne_of_lt (Heap.lt_size e)) e
 exact h pins _ σ H xs _ Q I1 (by simpa using rv) hw
def gSub (to ti:TE) (t:TSet):TG:=fun v σ H Q=>to σ H fun o H1=>ti σ H1 fun i H2=>t o i v H2 fun H3=>Q σ H3
theorem pg_sub {o i:Expr} {to ti:TE} {t:TSet} (ho:PE X o to) (hi:PE X i ti) (hs:PSet X t)
  (ha:∀ v,assign (.Subscript o i pos) X.env v = (do
   let ov ← holding [v] (eval o X.env)
   let iv ← holding [v,ov] (eval i X.env)
   standAt pos
   holding [v,ov,iv] (setItem ov iv v)
   release [v,ov,iv] []):=by intro _; rfl):PG X (.Subscript o i pos) (gSub to ti t):=by
 intro pins s σ H v u Q I r h
 rw [ha]
 refine wpAny_bind (wpAny_holding (thn (ho pins s σ H _ I h) fun ov s1 ⟨x,H1,I1,r1,q1⟩=>?_))
 refine wpAny_bind (wpAny_holding (thn (hi pins s1 σ H1 _ I1 q1) fun iv s2 ⟨y,H2,I2,r2,q2⟩=>?_))
 refine wpAny_bind (wpAny_standAt (wpAny_bind (wpAny_holding (thn (hs pins s2 σ H2 x y v ov iv u _ I2 r1 r2 r q2) fun _ s3 ⟨H3,I3,q3⟩=>?_))))
 exact wpAny_release ⟨σ,H3,I3,q3⟩
def tAsg (te:TE) (g:TG):TS:=fun D σ H=>te σ H fun x H1=>g x σ H1 D.nx
theorem ps_asg {tg e:Expr} {te:TE} {g:TG} (he:PE X e te) (hg:PG X tg g) (hs:swapsWithSole [tg] e pos.line X.env = pure false:=by rfl) (hw:swappedStores [tg] e X.env = pure none:=by rfl)
  (h1:(assignEach [tg] X.env).map (·.2) = [assign tg X.env]:=by rfl):PS X (.Assign [tg] e pos) (tAsg te g):=by
 intro pins s σ H D I h
 refine wpAny_Assign_stores (thn (he pins s σ H _ I h) fun v s1 ⟨x,H1,I1,r1,q1⟩=>?_) hs hw
 rw [h1]
 exact thn (hg pins s1 σ H1 x v _ I1 r1 q1) fun _ s2 q=>q
theorem ps_set {i:Nat} {x:Str} {e:Expr} {te:TE} {pos':Pos} (hN:X.N.Nodup) (hi:X.N[i]? = some x) (hx:Loc X.env.scope x) (he:PE X e te) (hs:swapsWith e (some (.Name x pos')) pos.line X.env = pure false:=by rfl) (hf:X.fn x = true∨X.env.scope.names.lookup x = some .local:=by first | exact .inl rfl | exact .inr rfl | assumption) :
  PS X (.Assign [.Name x pos'] e pos) (tAsg te (gName i)):=by
 intro pins s σ H D I h
 refine wpAny_Assign_Name (thn (he pins s σ H _ I h) fun v s1 ⟨y,H1,I1,r1,q1⟩=>?_) hs
 exact store_ok I1 hN hi hx r1 (fun s2 I2=>⟨_,H1,I2,q1⟩) hf
end
section
variable {X:Cx} {pos:Pos}
def tWhile (c:TT) (tb:TS):TS:=fun D σ H=>∃ W:Nat→St→Hp→Prop,(∃ m,W m σ H)∧∀ m σ H,W m σ H →
 c σ H fun b H1=>if b = true then ∃ N:St→Hp→Prop,(∀ σ' H',N σ' H'→∃ m',m' < m∧W m' σ' H')∧tb { D with nx:=N,ct:=N,bk:=D.nx } σ H1 else D.nx σ H1
theorem ps_while {c:Expr} {body:List Stmt} {tc:TT} {tb:TS} (hp:PassesOwn (model X.prog X.w) X.A X.env X.xe) (hc:PT X c tc) (hb:PSs X body tb):PS X (.While c body [] pos) (tWhile tc tb):=by
 intro pins s σ H D I h
 obtain ⟨W,⟨m0,w0⟩,turn⟩:=h
 refine wpAny_While (codeAny_whileLoop (fun n s'=>∃ σ' H',Inv X pins σ' H' s'∧W n σ' H') ?_ m0 ⟨σ,H,I,w0⟩)
 rintro n s1 ⟨σ1,H1,I1,w1⟩
 refine wpAny_passesOwn hp (thn (hc pins s1 σ1 H1 _ I1 (turn n σ1 H1 w1)) fun b s2 ⟨H2,I2,q2⟩=>?_)
 cases b with
 | true =>
  obtain ⟨N,hN,q2⟩:=q2
  rw [if_pos rfl]
  refine wpAny_passesOwn hp (thn (hb pins s2 σ1 H2 _ I2 q2) fun f s3 q3=>?_)
  cases f with
  | next =>
   obtain ⟨σ3,H3,I3,n3⟩:=q3
   obtain ⟨m',hm,w3⟩:=hN σ3 H3 n3
   exact ⟨m',hm,σ3,H3,I3,w3⟩
  | cont =>
   obtain ⟨σ3,H3,I3,n3⟩:=q3
   obtain ⟨m',hm,w3⟩:=hN σ3 H3 n3
   exact ⟨m',hm,σ3,H3,I3,w3⟩
  | brk=>exact q3
  | ret v=>exact q3
 | false =>
  rw [if_neg Bool.false_ne_true]
  exact wpAny_execs_nil ⟨σ1,H2,I2,q2⟩
end
structure It where
 go:Nat→Hp→Prop
 yld:Nat→Hp→V→Hp→Prop
 stop:Nat→Hp→Prop
def FpOk (X:Cx) (pins:List (Addr × Obj)) (H:Hp) (b:Addr):Prop :=
 H b = none∧b ≠ X.env.locals∧b ∉ X.fs∧(b ∈ X.ex∨X.s₀.heap.objs.size≤b)∧(∀ x c,X.env.cells.lookup x = some c→c ≠ b)∧∀ p ∈ X.pn ++ pins,p.1 ≠ b
theorem Inv.fpOk {X:Cx} {pins:List (Addr × Obj)} {σ:St} {H H':Hp} {s:Shared} {b:Addr} (I:Inv X pins σ H s) (hb:s.heap.objs.size≤b) (hn:H' b = none):FpOk X pins H' b:=by
 refine ⟨hn,Nat.ne_of_gt (Nat.lt_of_lt_of_le I.lt hb),I.nofs hb,.inr (Nat.le_trans I.sz hb),fun x c e z=>?_,fun p hp z=>?_⟩
 ·obtain ⟨v,q⟩:=I.cell x c e
  exact absurd (Nat.lt_of_lt_of_le q.lt (by rw [z]; exact hb)) (Nat.lt_irrefl _)
 ·exact absurd (Nat.lt_of_lt_of_le (Heap.lt_size (I.pin p hp).1) (by rw [z]; exact hb)) (Nat.lt_irrefl _)
structure Turn (P:Program) (w:World) (K:PySem.W.Frag) (tg:Expr) (J:It) (fp:List Addr) (it:Addr) (tn:Nat→Heap→Prop):Prop where
 mem:it ∈ fp
 obj:∀ i h,tn i h→∀ b ∈ fp,∃ o,h.get? b = some o∧∀ v,o.data ≠ .cell v
 keep:∀ i h h',tn i h→(∀ b ∈ fp,∀ o,h.get? b = some o→h'.get? b = some o)→tn i h'
 item:∀ (X:Cx),X.prog = P→X.w = w→X.K = K→X.calm = true→∀ (i:Nat) (pins:List (Addr × Obj)) (s:Shared) (σ:St) (H:Hp) (E:Value→Shared→Prop),Inv X pins σ H s→(∀ b ∈ fp,FpOk X pins H b)→tn i s.heap→J.go i H →
  wpAny (model P w) X.A (pyNext (.ref it)) (fun r s1=>∃ u,r = some u ∧
   wpAny (model P w) X.A (letOwnedTupleGo tg (.ref it) u) (fun _ s2=>∃ x H',Inv X pins σ H' s2∧RelV x u∧J.yld i H x H'∧tn (i + 1) s2.heap∧∀ b ∈ fp,H' b = none) E s1) E s
 done:∀ (X:Cx),X.prog = P→X.w = w→X.K = K→X.calm = true→∀ (i:Nat) (pins:List (Addr × Obj)) (s:Shared) (σ:St) (H:Hp) (E:Value→Shared→Prop),Inv X pins σ H s→(∀ b ∈ fp,FpOk X pins H b)→tn i s.heap→J.stop i H →
  wpAny (model P w) X.A (pyNext (.ref it)) (fun r s1=>r = none∧Inv X pins σ H s1) E s
 self:∀ (A:Around) (i:Nat) (s:Shared) (Q:Value→Shared→Prop) (E:Value→Shared→Prop),tn i s.heap→Q (.ref it) s→wpAny (model P w) A (pyIter (.ref it)) Q E s
abbrev TI:=St→Hp→(It→Hp→Prop)→Prop
def PIE (X:Cx) (pins:List (Addr × Obj)) (σ:St) (tg:Expr) (R:It→Hp→Prop) (itv:Value) (s2:Shared):Prop :=
 ∃ (it:Addr) (fp:List Addr) (tn:Nat→Heap→Prop) (J:It) (H':Hp),itv = .ref it∧Inv X pins σ H' s2∧Turn X.prog X.w X.K tg J fp it tn∧tn 0 s2.heap∧(∀ b ∈ fp,FpOk X pins H' b)∧R J H'
def PI (X:Cx) (tg iter:Expr) (wi:TI):Prop :=
 ∀ (pins:List (Addr × Obj)) (s:Shared) (σ:St) (H:Hp) (R:It→Hp→Prop),Inv X pins σ H s→wi σ H R →
  wpAny (model X.prog X.w) X.A (eval iter X.env) (fun v s1=>wpAny (model X.prog X.w) X.A (pyIter v) (PIE X pins σ tg R) X.xe s1) X.xe s
theorem go_of {M:Model} {A:Around} {E:Value→Shared→Prop} {s:Shared} {tg:Expr} {it:Addr} {u:Value} {o:Obj} {n:String} {vs:Array Value} {Q:Unit→Shared→Prop} (ho:s.heap.get? it = some o) (hc:o.cls = .type n) (hd:o.data = .fields vs)
  (hn:["enumerate", "zip", "dict_itemiterator", "dict_reverseitemiterator", "odict_iterator", "itertools.zip_longest", "itertools.pairwise"].contains n = false) (hQ:Q () s):wpAny M A (letOwnedTupleGo tg (.ref it) u) Q E s:=by
 unfold letOwnedTupleGo
 cases tg <;> first
  | exact wpAny_pure hQ
  | (cases u <;> first
    | exact wpAny_pure hQ
    | (refine wpAny_bind (wpAny_load ho ?_)
       rw [hc,hd]
       show wpAny M A (if (["enumerate", "zip", "dict_itemiterator", "dict_reverseitemiterator", "odict_iterator", "itertools.zip_longest", "itertools.pairwise"].contains n && vs[0]? == some (rawInt _)) = true then _ else _) Q E s
       rw [if_neg (by intro h; rw [hn,Bool.false_and] at h; cases h)]
       exact wpAny_pure hQ))
def Itl (K:PySem.W.Frag) (a:Addr):It :=
 ⟨fun i H=>∃ xs x,SqL K H a xs∧xs[i]? = some x,fun i H x H'=>H' = H∧∀ xs,SqL K H a xs→xs[i]? = some x,fun i H=>∃ xs,SqL K H a xs∧xs.length≤i⟩
def Itr (lo:Int) (n:Nat):It:=⟨fun i _=>i < n,fun i H x H'=>H' = H∧x = .int (lo + i),fun i _=>n≤i⟩
theorem turn_list {P:Program} {w:World} {K:PySem.W.Frag} {tg:Expr} (a it:Addr):Turn P w K tg (Itl K a) [it] it (fun i h=>h.IsListIter it a i) where
 mem:=by simp
 obj:=fun i h st b hb=>by
  have e:b = it:=by simpa using hb
  subst e
  obtain ⟨o,e,c,d⟩:=st
  exact ⟨o,e,fun v z=>by rw [d] at z; cases z⟩
 keep:=fun i h h' st k=>st.at fun o e=>k it (by simp) o e
 item:=by
  intro X hP hw hK hc i pins s σ H E I hf st hg
  subst hP hw hK
  obtain ⟨xs,x,hq,hx⟩:=hg
  obtain ⟨its,rv,p,hz⟩:=I.list hq
  obtain ⟨u,hu,ru⟩:=rv.get hx
  obtain ⟨f0,f1,f2,f3,f4,f5⟩:=hf it (by simp)
  refine wpAny_pyNext_list_item st p.isList (x:=u) (by simpa using hu) fun h' st' sb=>?_
  have I1:Inv X pins σ H { s with heap:=h' }:=I.turned (t':=s.toks) (fun b o hb e=>(sb.2 b hb).trans e) f0 f1 f3 f4 f5
  obtain ⟨o,e,c,d⟩:=id st'
  exact ⟨u,rfl,go_of (s:={ s with heap:=h' }) e c d (by decide) ⟨x,H,I1,ru,⟨rfl,fun ys hy=>by rw [I.list_inj hy hq]; exact hx⟩,st',fun b hb=>(hf b hb).1⟩⟩
 done:=by
  intro X hP hw hK hc i pins s σ H E I hf st hg
  subst hP hw hK
  obtain ⟨xs,hq,hx⟩:=hg
  obtain ⟨its,rv,p,hz⟩:=I.list hq
  obtain ⟨f0,f1,f2,f3,f4,f5⟩:=hf it (by simp)
  have hl:=rv.length
  exact wpAny_pyNext_list_end (I.ok.hd hc) st p.isList (by simp; lia) fun h' eb=>⟨rfl,I.turned (t':=s.toks) (fun b o hb e=>eb b o hb e) f0 f1 f3 f4 f5⟩
 self:=fun _ _ _ _ _ st h=>wpAny_pyIter_listiter st h
theorem turn_range {P:Program} {w:World} {K:PySem.W.Frag} {tg:Expr} (it:Addr) (lo:Int) (n:Nat):Turn P w K tg (Itr lo n) [it] it (fun i h=>IsRangeIter h it (lo + (i:Nat) * 1) ((n:Int) - (i:Nat)) 1) where
 mem:=by simp
 obj:=fun i h st b hb=>by
  have e:b = it:=by simpa using hb
  subst e
  exact ⟨_,st,fun v z=>by
   have z':Data.fields _ = Data.cell v:=z
   cases z'⟩
 keep:=fun i h h' st k=>k it (by simp) _ st
 item:=by
  intro X hP hw hK hc i pins s σ H E I hf st hg
  subst hP hw hK
  obtain ⟨f0,f1,f2,f3,f4,f5⟩:=hf it (by simp)
  have W:=Walks.range (prog:=X.prog) (w:=X.w) (I.ok.hd hc) it lo 1 n
  refine W.item i s _ _ hg st fun v h' tk hv st' kk=>?_
  obtain ⟨t,rfl⟩:=hv
  have I1:Inv X pins σ H { s with heap:=h',toks:=tk }:=I.turned (fun b o hb e=>kk b o (by simpa using hb) e) f0 f1 f3 f4 f5
  refine ⟨_,rfl,go_of (s:={ s with heap:=h',toks:=tk }) (n:="range_iterator") st' rfl rfl (by decide) ⟨.int (lo + i),H,I1,⟨t,?_⟩,⟨rfl,rfl⟩,st',fun b hb=>(hf b hb).1⟩⟩
  rw [Int.mul_one]
 done:=by
  intro X hP hw hK hc i pins s σ H E I hf st hg
  subst hP hw hK
  obtain ⟨f0,f1,f2,f3,f4,f5⟩:=hf it (by simp)
  exact wpAny_pyNext_range_end (I.ok.hd hc) st (by have:n≤i:=hg; lia) fun h' eb=>⟨rfl,I.turned (t':=s.toks) (fun b o hb e=>eb b o hb e) f0 f1 f3 f4 f5⟩
 self:=fun _ _ _ _ _ st h=>wpAny_pyIter_rangeiter st h
end L2
namespace L2
open PySem PySem.Spec PyProof.Rows
section
variable {X:Cx} {tg:Expr}
def iList (K:PySem.W.Frag) (tl:TE):TI:=fun σ H R=>tl σ H fun x H1=>∃ a,x = .ref a∧(∃ xs,SqL K H1 a xs)∧R (Itl K a) H1
theorem pi_list {l:Expr} {tl:TE} (hl:PE X l tl):PI X tg l (iList X.K tl):=by
 intro pins s σ H R I h
 refine thn (hl pins s σ H _ I h) fun v s1 ⟨x,H1,I1,r1,q1⟩=>?_
 obtain ⟨a,e,⟨xs,hq⟩,q⟩:=q1
 subst e
 cases r1
 obtain ⟨its,rv,p,hz⟩:=I1.list hq
 refine wpAny_pyIter_list p.isList ?_
 refine ⟨s1.heap.objs.size,[s1.heap.objs.size],_,_,H1,rfl,I1.kept (t':=s1.toks) fun b o e=>Heap.get?_push_of_some _ e,turn_list a _,⟨_,Heap.get?_push_size _ rfl,rfl,rfl⟩,fun b hb=>?_,q⟩
 have e:b = s1.heap.objs.size:=by simpa using hb
 subst e
 exact I1.fpOk (Nat.le_refl _) (I1.hok.fresh (Nat.le_refl _))
theorem range_it {pins:List (Addr × Obj)} {σ:St} {H:Hp} {s:Shared} {R:It→Hp→Prop} {E:Value→Shared→Prop} {lo hi:Int} {t u v:Tok} {tk:Nat} (I:Inv X pins σ H s) (h1:-(2 ^ 62)≤lo) (h2:lo < 2 ^ 62) (h3:-(2 ^ 62)≤hi) (h4:hi < 2 ^ 62)
  (q:R (Itr lo (hi - lo).toNat) H):wpAny (model X.prog X.w) X.A (pyIter (.ref s.heap.objs.size)) (PIE X pins σ tg R) E { s with heap:=s.heap.push { cls:=.type "range",data:=.fields #[.int lo t,.int hi u,.int 1 v] },toks:=tk }:=by
 refine wpAny_pyIter_range (IsRange.new ..) (small_one h1 h2 h3 h4) ?_
 have I1:Inv X pins σ H { s with heap:=s.heap.push { cls:=.type "range",data:=.fields #[.int lo t,.int hi u,.int 1 v] },toks:=tk }:=I.kept fun b o e=>Heap.get?_push_of_some _ e
 refine ⟨(s.heap.push { cls:=.type "range",data:=.fields #[.int lo t,.int hi u,.int 1 v] }).objs.size,[(s.heap.push { cls:=.type "range",data:=.fields #[.int lo t,.int hi u,.int 1 v] }).objs.size],_,_,H,rfl,
  I1.kept (t':=tk) fun b o e=>Heap.get?_push_of_some _ e,turn_range _ lo (hi - lo).toNat,?_,fun b hb=>?_,q⟩
 ·have e1:lo + ((0:Nat):Int) * 1 = lo:=by simp
  have e2:(((hi - lo).toNat:Nat):Int) - ((0:Nat):Int) = Builtin.Range.rangeSize lo hi 1:=by rw [rangeSize_one]; split <;> lia
  show IsRangeIter _ _ (lo + ((0:Nat):Int) * 1) ((((hi - lo).toNat:Nat):Int) - ((0:Nat):Int)) 1
  rw [e1,e2]
  exact Heap.get?_push_size _ rfl
 ·have e:b = (s.heap.push { cls:=.type "range",data:=.fields #[.int lo t,.int hi u,.int 1 v] }).objs.size:=by simpa using hb
  subst e
  exact I1.fpOk (Nat.le_refl _) (I1.hok.fresh (Nat.le_refl _))
def iRng1 (ta:TA):TI:=fun σ H R=>ta σ H fun vs H1=>∃ j:Int,vs = [.int j]∧-(2 ^ 62)≤j∧j < 2 ^ 62∧R (Itr 0 j.toNat) H1
def iRng2 (ta:TA):TI:=fun σ H R=>ta σ H fun vs H1=>∃ i j:Int,vs = [.int i,.int j]∧(-(2 ^ 62)≤i∧i < 2 ^ 62∧-(2 ^ 62)≤j∧j < 2 ^ 62)∧R (Itr i (j - i).toNat) H1
theorem pi_range1 {a:Expr} {ta:TA} {p pos:Pos} (hg:Gl X "range") (hm:X.mg "range" = none) (ha:PA X [a] ta) (hs:starEach [a] X.env = [(false,eval a X.env)]:=by rfl):PI X tg (.Call (.Name "range" p) [a] [] pos) (iRng1 ta):=by
 intro pins s σ H R I h
 refine Call_ (ld_blt I hg hm boot_range (PyProof.Rows.callWith_type1 (thn (ha pos pins s σ H _ I h) fun us s1 ⟨vs,H1,I1,r1,q1⟩=>?_) hs rfl))
 obtain ⟨j,e,q1,q2,q⟩:=q1
 subst e
 cases r1 with
 | cons r rr =>
  cases rr
  obtain ⟨t,rfl⟩:=r
  exact call_range_1 (range_it I1 (by lia) (by lia) q1 q2 (by simpa using q))
theorem pi_range2 {a b:Expr} {ta:TA} {p pos:Pos} (hg:Gl X "range") (hm:X.mg "range" = none) (ha:PA X [a,b] ta) (hs:starEach [a,b] X.env = [(false,eval a X.env),(false,eval b X.env)]:=by rfl) (hs2:starEach [b] X.env = [(false,eval b X.env)]:=by rfl) :
  PI X tg (.Call (.Name "range" p) [a,b] [] pos) (iRng2 ta):=by
 intro pins s σ H R I h
 refine Call_ (ld_blt I hg hm boot_range (PyProof.Rows.callWith_type1 (thn (ha pos pins s σ H _ I h) fun us s1 ⟨vs,H1,I1,r1,q1⟩=>?_) (by rw [hs,hs2]) (by rw [hs2]; rfl)))
 obtain ⟨i,j,e,⟨q1,q2,q3,q4⟩,q⟩:=q1
 subst e
 cases r1 with
 | cons r rr =>
  cases rr with
  | cons r' rr =>
   cases rr
   obtain ⟨t,rfl⟩:=r
   obtain ⟨t',rfl⟩:=r'
   exact call_range_2 (range_it I1 q1 q2 q3 q4 q)
def tFor (wi:TI) (g:TG) (tb:TS):TS:=fun D σ H=>wi σ H fun J H1=>∃ W:Nat→Nat→St→Hp→Prop,(∃ m,W 0 m σ H1)∧∀ i m σ H,W i m σ H →
 (J.stop i H∧D.nx σ H)∨(J.go i H∧∃ N:St→Hp→Prop,(∀ σ' H',N σ' H'→∃ m',m' < m∧W (i + 1) m' σ' H')∧∀ x H',J.yld i H x H'→g x σ H' fun σ2 H2=>tb { D with nx:=N,ct:=N,bk:=D.nx } σ2 H2)
def pinsAt (fp:List Addr) (h:Heap):List (Addr × Obj):=fp.filterMap fun b=>(h.get? b).map fun o=>(b,o)
theorem mem_pinsAt {fp:List Addr} {h:Heap} {b:Addr} {o:Obj} (hb:b ∈ fp) (e:h.get? b = some o):(b,o) ∈ pinsAt fp h:=List.mem_filterMap.mpr ⟨b,hb,by rw [e]; rfl⟩
theorem of_pinsAt {fp:List Addr} {h:Heap} {p:Addr × Obj} (hp:p ∈ pinsAt fp h):p.1 ∈ fp∧h.get? p.1 = some p.2:=by
 obtain ⟨b,hb,e⟩:=List.mem_filterMap.mp hp
 cases q:h.get? b with
 | none=>rw [q] at e; cases e
 | some o =>
  rw [q] at e
  have e':(b,o) = p:=Option.some.inj e
  subst e'
  exact ⟨hb,q⟩
theorem Inv.pinned {pins:List (Addr × Obj)} {σ:St} {H:Hp} {s:Shared} {fp:List Addr} (I:Inv X pins σ H s) (hf:∀ b ∈ fp,FpOk X pins H b) (ho:∀ b ∈ fp,∃ o,s.heap.get? b = some o∧∀ v,o.data ≠ .cell v):Inv X (pins ++ pinsAt fp s.heap) σ H s :=
 I.pins_of fun p hp=>(List.mem_append.mp hp).elim (fun z=>I.pin p (List.mem_append_right _ z)) fun z=>by
  obtain ⟨hb,e⟩:=of_pinsAt z
  obtain ⟨f0,f1,f2,_⟩:=hf p.1 hb
  obtain ⟨o,e',d⟩:=ho p.1 hb
  rw [e] at e'; cases e'
  exact ⟨e,f0,f1,f2,d⟩
theorem Inv.unpinned {pins pl:List (Addr × Obj)} {σ:St} {H:Hp} {s:Shared} (I:Inv X (pins ++ pl) σ H s):Inv X pins σ H s:=I.pins_of fun p hp=>I.pin p (List.mem_append_right _ (List.mem_append_left _ hp))
theorem ps_for {iter:Expr} {body:List Stmt} {wi:TI} {g:TG} {tb:TS} {pos:Pos} (hp:PassesOwn (model X.prog X.w) X.A X.env X.xe) (hc:X.calm = true) (hi:PI X tg iter wi) (hg:PG X tg g) (hb:PSs X body tb)
  (hs:∀ x,foldedSetIterable iter X.env x = pure x:=by intro _; rfl):PS X (.For tg iter body [] pos) (tFor wi g tb):=by
 intro pins s σ H D I h
 refine wpAny_For (thn (hi pins s σ H _ I h) fun v s1 h1=>thn h1 fun itv s2 h2=>?_) hs
 obtain ⟨it,fp,tn,J,H2,e,I2,T,st2,f2,W,⟨m0,w0⟩,turn⟩:=h2
 subst e
 have stat:∀ {H':Hp},(∀ b ∈ fp,H' b = none)→∀ b ∈ fp,FpOk X pins H' b:=fun hn b hb=>⟨hn b hb,(f2 b hb).2⟩
 refine codeAny_forLoop_any (fun n s'=>∃ i σ' H',Inv X pins σ' H' s'∧tn i s'.heap∧(∀ b ∈ fp,H' b = none)∧W i n σ' H') ?_ m0 ⟨0,σ,H2,I2,st2,fun b hb=>(f2 b hb).1,w0⟩
 rintro n s3 ⟨i,σ3,H3,I3,st3,fr3,w3⟩
 rcases turn i n σ3 H3 w3 with ⟨stop,qn⟩ | ⟨go,N,hN,step⟩
 ·refine wpAny_passesOwn hp (thn (T.done X rfl rfl rfl hc i pins s3 σ3 H3 X.xe I3 (stat fr3) st3 stop) fun r s4 ⟨hr,I4⟩=>?_)
  subst hr
  exact wpAny_execs_nil ⟨σ3,H3,I4,qn⟩
 ·refine wpAny_passesOwn hp (thn (T.item X rfl rfl rfl hc i pins s3 σ3 H3 X.xe I3 (stat fr3) st3 go) fun r s4 ⟨u,hr,h4⟩=>?_)
  subst hr
  refine wpAny_passesOwn hp (thn h4 fun _ s5 ⟨x,H5,I5,r5,y5,st5,fr5⟩=>?_)
  have I5':=I5.pinned (stat fr5) (T.obj _ _ st5)
  refine wpAny_passesOwn hp (thn (hg _ s5 σ3 H5 x u _ I5' r5 (step x H5 y5)) fun _ s6 ⟨σ6,H6,I6,q6⟩=>?_)
  refine wpAny_passesOwn hp (thn (hb _ s6 σ6 H6 _ I6 q6) fun f s7 q7=>?_)
  have again:∀ {σ7:St} {H7:Hp},Inv X (pins ++ pinsAt fp s5.heap) σ7 H7 s7→N σ7 H7→∃ m,m < n∧∃ i σ' H',Inv X pins σ' H' s7∧tn i s7.heap∧(∀ b ∈ fp,H' b = none)∧W i m σ' H':=fun {σ7 H7} I7 n7=>by
   obtain ⟨m',hm,w7⟩:=hN σ7 H7 n7
   refine ⟨m',hm,i + 1,σ7,H7,I7.unpinned,T.keep _ _ _ st5 fun b hb o e=>(I7.pin (b,o) (List.mem_append_right _ (List.mem_append_right _ (mem_pinsAt hb e)))).1,fun b hb=>?_,w7⟩
   obtain ⟨o,e,d⟩:=T.obj _ _ st5 b hb
   exact (I7.pin (b,o) (List.mem_append_right _ (List.mem_append_right _ (mem_pinsAt hb e)))).2.1
  cases f with
  | next=>obtain ⟨σ7,H7,I7,n7⟩:=q7; exact again I7 n7
  | cont=>obtain ⟨σ7,H7,I7,n7⟩:=q7; exact again I7 n7
  | brk=>obtain ⟨σ7,H7,I7,q7⟩:=q7; exact ⟨σ7,H7,I7.unpinned,q7⟩
  | ret v=>obtain ⟨x7,σ7,H7,I7,r7,q7⟩:=q7; exact ⟨x7,σ7,H7,I7.unpinned,r7,q7⟩
end
theorem for_list {K:PySem.W.Frag} {a:Addr} {xs:List V} {g:TG} {tb:TS} {D:Ends} {σ:St} {H:Hp} (Pv:Nat→St→Hp→Prop) (h0:Pv 0 σ H) (hl:∀ i σ H,i≤xs.length→Pv i σ H→SqL K H a xs)
  (hs:∀ i x σ H,xs[i]? = some x→Pv i σ H→g x σ H fun σ2 H2=>tb { D with nx:=Pv (i + 1),ct:=Pv (i + 1),bk:=D.nx } σ2 H2) (hd:∀ σ H,Pv xs.length σ H→D.nx σ H) :
  ∃ W:Nat→Nat→St→Hp→Prop,(∃ m,W 0 m σ H)∧∀ i m σ H,W i m σ H →
   ((Itl K a).stop i H∧D.nx σ H)∨((Itl K a).go i H∧∃ N:St→Hp→Prop,(∀ σ' H',N σ' H'→∃ m',m' < m∧W (i + 1) m' σ' H')∧∀ x H',(Itl K a).yld i H x H'→g x σ H' fun σ2 H2=>tb { D with nx:=N,ct:=N,bk:=D.nx } σ2 H2):=by
 refine ⟨fun i m σ H=>m = xs.length - i∧i≤xs.length∧Pv i σ H,⟨xs.length,by simp,Nat.zero_le _,h0⟩,?_⟩
 rintro i m σ H ⟨rfl,hi,p⟩
 have q:=hl i σ H hi p
 by_cases hlt:i < xs.length
 ·refine .inr ⟨⟨xs,xs[i],q,by simp [hlt]⟩,Pv (i + 1),fun σ' H' p'=>⟨xs.length - (i + 1),by lia,rfl,hlt,p'⟩,fun x H' y=>?_⟩
  obtain ⟨e,y⟩:=y
  subst e
  exact hs i x σ _ (y xs q) p
 ·have e:i = xs.length:=by lia
  subst e
  exact .inl ⟨⟨xs,q,Nat.le_refl _⟩,hd σ H p⟩
theorem for_range {lo:Int} {n:Nat} {g:TG} {tb:TS} {D:Ends} {σ:St} {H:Hp} (Pv:Nat→St→Hp→Prop) (h0:Pv 0 σ H)
  (hs:∀ i σ H,i < n→Pv i σ H→g (.int (lo + i)) σ H fun σ2 H2=>tb { D with nx:=Pv (i + 1),ct:=Pv (i + 1),bk:=D.nx } σ2 H2) (hd:∀ σ H,Pv n σ H→D.nx σ H) :
  ∃ W:Nat→Nat→St→Hp→Prop,(∃ m,W 0 m σ H)∧∀ i m σ H,W i m σ H →
   ((Itr lo n).stop i H∧D.nx σ H)∨((Itr lo n).go i H∧∃ N:St→Hp→Prop,(∀ σ' H',N σ' H'→∃ m',m' < m∧W (i + 1) m' σ' H')∧∀ x H',(Itr lo n).yld i H x H'→g x σ H' fun σ2 H2=>tb { D with nx:=N,ct:=N,bk:=D.nx } σ2 H2):=by
 refine ⟨fun i m σ H=>m = n - i∧i≤n∧Pv i σ H,⟨n,by simp,Nat.zero_le _,h0⟩,?_⟩
 rintro i m σ H ⟨rfl,hi,p⟩
 by_cases hlt:i < n
 ·refine .inr ⟨hlt,Pv (i + 1),fun σ' H' p'=>⟨n - (i + 1),by lia,rfl,hlt,p'⟩,fun x H' y=>?_⟩
  obtain ⟨e,y⟩:=y
  subst e y
  exact hs i σ _ hlt p
 ·have e:i = n:=by lia
  subst e
  exact .inl ⟨Nat.le_refl _,hd σ H p⟩
theorem while_by {c:TT} {tb:TS} {D:Ends} {σ:St} {H:Hp} (Pv:St→Hp→Prop) (μ:St→Hp→Nat) (h0:Pv σ H)
  (hs:∀ σ H,Pv σ H→c σ H fun b H1=>if b = true then tb { D with nx:=fun σ' H'=>Pv σ' H'∧μ σ' H' < μ σ H,ct:=fun σ' H'=>Pv σ' H'∧μ σ' H' < μ σ H,bk:=D.nx } σ H1 else D.nx σ H1)
  (mono:∀ σ H Q Q',(∀ b H1,Q b H1→Q' b H1)→c σ H Q→c σ H Q'):tWhile c tb D σ H:=by
 refine ⟨fun m σ H=>m = μ σ H∧Pv σ H,⟨_,rfl,h0⟩,?_⟩
 rintro m σ H ⟨rfl,p⟩
 refine mono σ H _ _ (fun b H1 q=>?_) (hs σ H p)
 cases b with
 | true=>exact ⟨_,fun σ' H' ⟨p',l⟩=>⟨_,l,rfl,p'⟩,q⟩
 | false=>exact q
end L2
namespace L2
open PySem PySem.Spec PyProof.Rows
abbrev R2:=V→V→Hp→VK→Prop
def OpR (X:Cx) (f:Value→Value→Sem Value) (r:R2):Prop :=
 ∀ (pins:List (Addr × Obj)) (s:Shared) (σ:St) (H:Hp) (x y:V) (v u:Value) (Q:VK),Inv X pins σ H s→RelV x v→RelV y u→r x y H Q →
  wpAny (model X.prog X.w) X.A (f v u) (EP X pins σ Q) X.xe s
def UnR (X:Cx) (f:Value→Sem Value) (r:V→Hp→VK→Prop):Prop :=
 ∀ (pins:List (Addr × Obj)) (s:Shared) (σ:St) (H:Hp) (x:V) (v:Value) (Q:VK),Inv X pins σ H s→RelV x v→r x H Q →
  wpAny (model X.prog X.w) X.A (f v) (EP X pins σ Q) X.xe s
def CallR (X:Cx) (f:Value) (r:List V→Hp→VK→Prop):Prop :=
 ∀ (pins:List (Addr × Obj)) (s:Shared) (σ:St) (H:Hp) (xs:List V) (us:List Value) (Q:VK),Inv X pins σ H s→Vals xs us→r xs H Q →
  wpAny (model X.prog X.w) X.A (call f us) (EP X pins σ Q) X.xe s
def tOp (r:R2) (ta tb:TE):TE:=fun σ H Q=>ta σ H fun x H1=>tb σ H1 fun y H2=>r x y H2 Q
def tUn (r:V→Hp→VK→Prop) (ta:TE):TE:=fun σ H Q=>ta σ H fun x H1=>r x H1 Q
def rI (C:Int→Int→Prop) (g:Int→Int→V):R2:=fun x y H Q=>∃ i j,x = .int i∧y = .int j∧C i j∧Q (g i j) H
def rI0 (g:Int→Int→V):R2:=fun x y H Q=>∃ i j,x = .int i∧y = .int j∧Q (g i j) H
def rU (g:Int→V):V→Hp→VK→Prop:=fun x H Q=>∃ i,x = .int i∧Q (g i) H
section
variable {X:Cx} {a b c:Expr} {ta tb tc:TE} {pos:Pos}
theorem binT (ha:PE X a ta) (hb:PE X b tb) {pins:List (Addr × Obj)} {s:Shared} {σ:St} {H:Hp} {R:V→V→Hp→Prop} (I:Inv X pins σ H s)
  (h:ta σ H fun x H1=>tb σ H1 fun y H2=>R x y H2) {Q:Value→Shared→Prop} {f:Value→Value→Sem Value}
  (hf:∀ v u s2 x y H2,Inv X pins σ H2 s2→RelV x v→RelV y u→R x y H2→wpAny (model X.prog X.w) X.A (f v u) Q X.xe s2) :
  wpAny (model X.prog X.w) X.A (eval a X.env) (fun v s₁=>wpAny (model X.prog X.w) X.A (eval b X.env) (fun u s₂=>wpAny (model X.prog X.w) X.A (f v u) Q X.xe s₂) X.xe s₁) X.xe s:=by
 refine thn (ha pins s σ H _ I h) fun v s1 ⟨x,H1,I1,r1,q1⟩=>?_
 refine thn (hb pins s1 σ H1 _ I1 q1) fun u s2 ⟨y,H2,I2,r2,q2⟩=>?_
 exact hf v u s2 x y H2 I2 r1 r2 q2
theorem pe_op {op:Operator} {r:R2} (ho:OpR X (binaryOp op) r) (ha:PE X a ta) (hb:PE X b tb):PE X (.BinOp a op b pos) (tOp r ta tb):=by
 intro pins s σ H Q I h
 exact wpAny_BinOp (binT ha hb I h fun v u s2 x y H2 I2 rx ry q=>ho pins s2 σ H2 x y v u Q I2 rx ry q)
theorem pe_un {op:UnaryOp} {r:V→Hp→VK→Prop} (ho:UnR X (unaryOp op) r) (ha:PE X a ta):PE X (.UnaryOp op a pos) (tUn r ta):=by
 intro pins s σ H Q I h
 exact UnaryOp_ (thn (ha pins s σ H _ I h) fun v s1 ⟨x,H1,I1,r1,q1⟩=>ho pins s1 σ H1 x v Q I1 r1 q1)
theorem opI {f:Value→Value→Sem Value} {C:Int→Int→Prop} {g:Int→Int→Int}
  (rule:∀ (i j:Int) (t u:Tok) (s:Shared) (Q:Value→Shared→Prop) (E:Value→Shared→Prop),C i j→Q (.int (g i j) s.toks) { s with toks:=s.toks + 1 }→wpAny (model X.prog X.w) X.A (f (.int i t) (.int j u)) Q E s) :
  OpR X f (rI C fun i j=>.int (g i j)):=by
 intro pins s σ H x y v u Q I rx ry h
 obtain ⟨i,j,rfl,rfl,hc,q⟩:=h
 obtain ⟨t,rfl⟩:=rx
 obtain ⟨t',rfl⟩:=ry
 exact rule i j t t' s _ _ hc ⟨.int (g i j),H,I.tok _,⟨_,rfl⟩,q⟩
theorem opI0 {f:Value→Value→Sem Value} {g:Int→Int→Int}
  (rule:∀ (i j:Int) (t u:Tok) (s:Shared) (Q:Value→Shared→Prop) (E:Value→Shared→Prop),Q (.int (g i j) s.toks) { s with toks:=s.toks + 1 }→wpAny (model X.prog X.w) X.A (f (.int i t) (.int j u)) Q E s) :
  OpR X f (rI0 fun i j=>.int (g i j)):=by
 intro pins s σ H x y v u Q I rx ry h
 obtain ⟨i,j,rfl,rfl,q⟩:=h
 obtain ⟨t,rfl⟩:=rx
 obtain ⟨t',rfl⟩:=ry
 exact rule i j t t' s _ _ ⟨.int (g i j),H,I.tok _,⟨_,rfl⟩,q⟩
theorem opB0 {f:Value→Value→Sem Value} {g:Int→Int→Bool}
  (rule:∀ (i j:Int) (t u:Tok) (s:Shared) (Q:Value→Shared→Prop) (E:Value→Shared→Prop),Q (.bool (g i j)) s→wpAny (model X.prog X.w) X.A (f (.int i t) (.int j u)) Q E s) :
  OpR X f (rI0 fun i j=>.bl (g i j)):=by
 intro pins s σ H x y v u Q I rx ry h
 obtain ⟨i,j,rfl,rfl,q⟩:=h
 obtain ⟨t,rfl⟩:=rx
 obtain ⟨t',rfl⟩:=ry
 exact rule i j t t' s _ _ ⟨.bl (g i j),H,I,rfl,q⟩
def CDiv (i j:Int):Prop:=0 < j∧j < 1073741824
def CPow (i j:Int):Prop:=0≤j∧j≤1000000∧i.natAbs < 2 ^ 64
def CMul (i j:Int):Prop:=(-(2 ^ 64) < i∧i < 2 ^ 64)∨(-(2 ^ 64) < j∧j < 2 ^ 64)
theorem CMul.ok {i j:Int} (h:CMul i j):IntMulOk i j:=by
 rcases h with ⟨h1,h2⟩ | ⟨h1,h2⟩
 ·exact .of_left (intBits_le_64 h1 h2)
 ·exact .of_right (intBits_le_64 h1 h2)
theorem op_add:OpR X (binaryOp .Add) (rI0 fun i j=>.int (i + j)):=opI0 fun _ _ _ _ _ _ _ q=>add_int q
theorem op_sub:OpR X (binaryOp .Sub) (rI0 fun i j=>.int (i - j)):=opI0 fun _ _ _ _ _ _ _ q=>sub_int q
theorem op_mul:OpR X (binaryOp .Mult) (rI CMul fun i j=>.int (i * j)):=opI fun _ _ _ _ _ _ _ hc q=>mul_int q hc.ok
theorem op_fdiv:OpR X (binaryOp .FloorDiv) (rI CDiv fun i j=>.int (i / j)):=opI fun i j _ _ _ _ _ hc q=>by
 have h1:(0:Int) < j:=hc.1
 have h2:j < 1073741824:=hc.2
 exact floordiv_int (by lia) (by rw [Int.fdiv_eq_ediv_of_nonneg i (by lia)]; exact q) (.inl (PyProof.noPylong_small (by lia)))
theorem op_mod:OpR X (binaryOp .Mod) (rI (fun _ j=>0 < j) fun i j=>.int (i % j)):=opI fun i j _ _ _ _ _ hc q=>by
 have h1:(0:Int) < j:=hc
 exact mod_int' (by lia) (by rw [Int.fmod_eq_emod_of_nonneg i (by lia)]; exact q)
theorem op_pow:OpR X (binaryOp .Pow) (rI CPow fun i j=>.int (i ^ j.toNat)):=opI fun _ _ _ _ _ _ _ hc q=>pow_int_small hc.1 hc.2.1 hc.2.2 q
theorem op_shl:OpR X (binaryOp .LShift) (rI CPow fun i j=>.int (i * 2 ^ j.toNat)):=opI fun _ _ _ _ _ _ _ hc q=>lshift_int_small hc.1 hc.2.1 hc.2.2 q
theorem unI {f:Value→Sem Value} {g:Int→Int}
  (rule:∀ (i:Int) (t:Tok) (s:Shared) (Q:Value→Shared→Prop) (E:Value→Shared→Prop),Q (.int (g i) s.toks) { s with toks:=s.toks + 1 }→wpAny (model X.prog X.w) X.A (f (.int i t)) Q E s) :
  UnR X f (rU fun i=>.int (g i)):=by
 intro pins s σ H x v Q I rx h
 obtain ⟨i,rfl,q⟩:=h
 obtain ⟨t,rfl⟩:=rx
 exact rule i t s _ _ ⟨.int (g i),H,I.tok _,⟨_,rfl⟩,q⟩
theorem un_neg:UnR X (unaryOp .USub) (rU fun i=>.int (-i)):=unI fun _ _ _ _ _ q=>neg_int q
end
def scal:V→V→Bool
 | .non,.non=>true | .non,.int _=>true | .int _,.non=>true | .non,.bl _=>true | .bl _,.non=>true | .non,.str _=>true | .str _,.non=>true
 | .int _,.int _=>true | .bl _,.bl _=>true | .str _,.str _=>true | .byt _,.byt _=>true
 | .int _,.str _=>true | .str _,.int _=>true | .bl _,.str _=>true | .str _,.bl _=>true
 | _,_=>false
def rEq:R2:=fun x y H Q=>scal x y = true∧Q (.bl (decide (x = y))) H
def rNe:R2:=fun x y H Q=>scal x y = true∧Q (.bl (!decide (x = y))) H
theorem dec_int {i j:Int}:decide (V.int i = V.int j) = (i == j):=by
 rw [Bool.eq_iff_iff]
 simp
theorem dec_bl {i j:Bool}:decide (V.bl i = V.bl j) = (i == j):=by
 rw [Bool.eq_iff_iff]
 simp
theorem dec_str {i j:Str}:decide (V.str i = V.str j) = (i == j):=by
 rw [Bool.eq_iff_iff]
 simp
theorem dec_byt {i j:Array UInt8}:decide (V.byt i = V.byt j) = (i.toList == j.toList):=by
 rw [Bool.eq_iff_iff]
 cases i
 cases j
 simp
section
variable {X:Cx} {a b c:Expr} {ta tb tc:TE} {pos:Pos}
theorem fin_bl {pins:List (Addr × Obj)} {σ:St} {H:Hp} {s:Shared} {Q:VK} {k k':Bool} (I:Inv X pins σ H s) (q:Q (.bl k) H) (e:k = k'):EP X pins σ Q (.bool k') s:=by
 subst e
 exact ⟨.bl k,H,I,rfl,q⟩
theorem op_eq:OpR X (compareOp .Eq) rEq:=by
 intro pins s σ H x y v u Q I rx ry h
 obtain ⟨hs,q⟩:=h
 cases x with
 | non =>
  cases rx
  cases y with
  | non=>cases ry; exact PySem.EqNone.eq_none_none (fin_bl I q (by simp))
  | bl j=>cases ry; exact PySem.EqNone.eq_none_bool (fin_bl I q (by simp))
  | int j=>obtain ⟨t',rfl⟩:=ry; exact PySem.EqNone.eq_none_int (fin_bl I q (by simp))
  | str j=>obtain ⟨t',rfl⟩:=ry; exact PySem.EqNone.eq_none_str (fin_bl I q (by simp))
  | _=>exact absurd (show false = true from hs) Bool.false_ne_true
 | bl i =>
  cases rx
  cases y with
  | non=>cases ry; exact PySem.EqNone.eq_bool_none (fin_bl I q (by simp))
  | bl j=>cases ry; exact eq_bool (fin_bl I q dec_bl)
  | str j=>obtain ⟨t',rfl⟩:=ry; exact PySem.EqMixed.eq_bool_str (fin_bl I q (by simp))
  | _=>exact absurd (show false = true from hs) Bool.false_ne_true
 | int i =>
  obtain ⟨t,rfl⟩:=rx
  cases y with
  | non=>cases ry; exact PySem.EqNone.eq_int_none (fin_bl I q (by simp))
  | int j=>obtain ⟨t',rfl⟩:=ry; exact eq_int (fin_bl I q dec_int)
  | str j=>obtain ⟨t',rfl⟩:=ry; exact PySem.EqMixed.eq_int_str (fin_bl I q (by simp))
  | _=>exact absurd (show false = true from hs) Bool.false_ne_true
 | str i =>
  obtain ⟨t,rfl⟩:=rx
  cases y with
  | non=>cases ry; exact PySem.EqNone.eq_str_none (fin_bl I q (by simp))
  | bl j=>cases ry; exact PySem.EqMixed.eq_str_bool (fin_bl I q (by simp))
  | int j=>obtain ⟨t',rfl⟩:=ry; exact PySem.EqMixed.eq_str_int (fin_bl I q (by simp))
  | str j=>obtain ⟨t',rfl⟩:=ry; exact eq_str (fin_bl I q dec_str)
  | _=>exact absurd (show false = true from hs) Bool.false_ne_true
 | byt i =>
  obtain ⟨t,rfl⟩:=rx
  cases y with
  | byt j=>obtain ⟨t',rfl⟩:=ry; exact PySem.W.eq_bytes (fin_bl I q dec_byt)
  | _=>exact absurd (show false = true from hs) Bool.false_ne_true
 | _=>cases y <;> exact absurd (show false = true from hs) Bool.false_ne_true
theorem op_ne:OpR X (compareOp .NotEq) rNe:=by
 intro pins s σ H x y v u Q I rx ry h
 obtain ⟨hs,q⟩:=h
 cases x with
 | non =>
  cases rx
  cases y with
  | non=>cases ry; exact PySem.EqNone.ne_none_none (fin_bl I q (by simp))
  | bl j=>cases ry; exact PySem.EqNone.ne_none_bool (fin_bl I q (by simp))
  | int j=>obtain ⟨t',rfl⟩:=ry; exact PySem.EqNone.ne_none_int (fin_bl I q (by simp))
  | str j=>obtain ⟨t',rfl⟩:=ry; exact PySem.EqNone.ne_none_str (fin_bl I q (by simp))
  | _=>exact absurd (show false = true from hs) Bool.false_ne_true
 | bl i =>
  cases rx
  cases y with
  | non=>cases ry; exact PySem.EqNone.ne_bool_none (fin_bl I q (by simp))
  | bl j=>cases ry; exact ne_bool (fin_bl I q (congrArg not dec_bl))
  | str j=>obtain ⟨t',rfl⟩:=ry; exact PySem.EqMixed.ne_bool_str (fin_bl I q (by simp))
  | _=>exact absurd (show false = true from hs) Bool.false_ne_true
 | int i =>
  obtain ⟨t,rfl⟩:=rx
  cases y with
  | non=>cases ry; exact PySem.EqNone.ne_int_none (fin_bl I q (by simp))
  | int j=>obtain ⟨t',rfl⟩:=ry; exact ne_int (fin_bl I q (congrArg not dec_int))
  | str j=>obtain ⟨t',rfl⟩:=ry; exact PySem.EqMixed.ne_int_str (fin_bl I q (by simp))
  | _=>exact absurd (show false = true from hs) Bool.false_ne_true
 | str i =>
  obtain ⟨t,rfl⟩:=rx
  cases y with
  | non=>cases ry; exact PySem.EqNone.ne_str_none (fin_bl I q (by simp))
  | bl j=>cases ry; exact PySem.EqMixed.ne_str_bool (fin_bl I q (by simp))
  | int j=>obtain ⟨t',rfl⟩:=ry; exact PySem.EqMixed.ne_str_int (fin_bl I q (by simp))
  | str j=>obtain ⟨t',rfl⟩:=ry; exact ne_str (fin_bl I q (congrArg not dec_str))
  | _=>exact absurd (show false = true from hs) Bool.false_ne_true
 | byt i =>
  obtain ⟨t,rfl⟩:=rx
  cases y with
  | byt j=>obtain ⟨t',rfl⟩:=ry; exact PySem.W.ne_bytes (fin_bl I q (congrArg not dec_byt))
  | _=>exact absurd (show false = true from hs) Bool.false_ne_true
 | _=>cases y <;> exact absurd (show false = true from hs) Bool.false_ne_true
theorem op_lt:OpR X (compareOp .Lt) (rI0 fun i j=>.bl (decide (i < j))):=opB0 fun _ _ _ _ _ _ _ q=>lt_int q
theorem op_le:OpR X (compareOp .LtE) (rI0 fun i j=>.bl (decide (i≤j))):=opB0 fun _ _ _ _ _ _ _ q=>le_int q
theorem op_gt:OpR X (compareOp .Gt) (rI0 fun i j=>.bl (decide (j < i))):=opB0 fun _ _ _ _ _ _ _ q=>gt_int q
theorem op_ge:OpR X (compareOp .GtE) (rI0 fun i j=>.bl (decide (j≤i))):=opB0 fun _ _ _ _ _ _ _ q=>ge_int q
theorem op_isN:OpR X (compareOp .Is) (fun x y H Q=>y = .non∧Q (.bl (decide (x = .non))) H):=by
 intro pins s σ H x y v u Q I rx ry h
 obtain ⟨rfl,q⟩:=h
 cases ry
 refine is_none_gen (fin_bl I q ?_)
 cases x <;> first
  | (cases rx; rfl)
  | (obtain ⟨t,rfl⟩:=rx; rfl)
theorem nomark (b:Expr) {op:CmpOp} (h:op ≠ .In:=by decide) (h2:op ≠ .NotIn:=by decide):behindInMarks op b = false:=by
 have e1:(op == CmpOp.In) = false:=by cases op <;> first | rfl | exact absurd rfl h
 have e2:(op == CmpOp.NotIn) = false:=by cases op <;> first | rfl | exact absurd rfl h2
 cases b <;> simp [behindInMarks,e1,e2]
theorem pe_cmpR {op:CmpOp} {r:R2} (ho:OpR X (compareOp op) r) (ha:PE X a ta) (hb:PE X b tb) (hm:behindInMarks op b = false):PE X (.Compare a [op] [b] pos) (tOp r ta tb):=by
 intro pins s σ H Q I h
 exact wpAny_Compare1 (binT ha hb I h fun v u s2 x y H2 I2 rx ry q=>ho pins s2 σ H2 x y v u Q I2 rx ry q) hm
def tTest (t:TE):TT:=fun σ H Q=>t σ H fun x H'=>∃ k,x = .bl k∧Q k H'
theorem pt_cmpR {op:CmpOp} {r:R2} (ho:OpR X (compareOp op) r) (ha:PE X a ta) (hb:PE X b tb) (hm:behindInMarks op b = false):PT X (.Compare a [op] [b] pos) (tTest (tOp r ta tb)):=by
 intro pins s σ H Q I h
 refine wpAny_isTrue_Compare1 (thn (ha pins s σ H _ I h) fun v s1 ⟨x,H1,I1,r1,q1⟩=>thn (hb pins s1 σ H1 _ I1 q1) fun u s2 ⟨y,H2,I2,r2,q2⟩ =>
  thn (ho pins s2 σ H2 x y v u _ I2 r1 r2 q2) fun c s3 ⟨z,H3,I3,r3,k,e,q3⟩=>?_) hm
 subst e
 cases r3
 exact wpAny_truthy_bool ⟨H3,I3,q3⟩
def tChain (r r':R2) (ta tb tc:TE):TE:=fun σ H Q=>ta σ H fun x H1=>tb σ H1 fun y H2=>r x y H2 fun z H3=>∃ k,z = .bl k ∧
 (if k = true then tc σ H3 fun w' H4=>r' y w' H4 Q else Q (.bl false) H3)
theorem pe_chain {op op':CmpOp} {r r':R2} (ho:OpR X (compareOp op) r) (ho':OpR X (compareOp op') r') (ha:PE X a ta) (hb:PE X b tb) (hc:PE X c tc)
  (hm:lastMarks [op,op'] [b,c] = false:=by with_unfolding_all rfl):PE X (.Compare a [op,op'] [b,c] pos) (tChain r r' ta tb tc):=by
 intro pins s σ H Q I h
 refine Compare_chain (thn (ha pins s σ H _ I h) fun v s1 ⟨x,H1,I1,r1,q1⟩=>chain_link (thn (hb pins s1 σ H1 _ I1 q1) fun u s2 ⟨y,H2,I2,r2,q2⟩ =>
  thn (ho pins s2 σ H2 x y v u _ I2 r1 r2 q2) fun d s3 ⟨z,H3,I3,r3,k,e,q3⟩=>?_)) hm
 subst e
 cases r3
 refine wpAny_truthy_bool ?_
 cases k with
 | false=>exact ite_ff ⟨.bl false,H3,I3,rfl,q3⟩
 | true=>exact ite_tt (chain_last (thn (hc pins s3 σ H3 _ I3 q3) fun w' s4 ⟨z',H4,I4,r4,q4⟩=>ho' pins s4 σ H4 y z' u w' Q I4 r2 r4 q4))
theorem line63:(sizeLine:Nat) < 2 ^ 63:=by rw [sizeLine_eq]; decide
theorem vals1 {x:V} {us:List Value} (r:Vals [x] us):∃ u,us = [u]∧RelV x u:=by
 cases r with
 | cons r1 r2=>cases r2; exact ⟨_,rfl,r1⟩
theorem vals2 {x y:V} {us:List Value} (r:Vals [x,y] us):∃ u w',us = [u,w']∧RelV x u∧RelV y w':=by
 cases r with
 | cons r1 r2 =>
  cases r2 with
  | cons r3 r4=>cases r4; exact ⟨_,_,rfl,r1,r3⟩
theorem call_abs:CallR X (.builtin "abs") (fun xs H Q=>∃ i,xs = [.int i]∧Q (.int (if i < 0 then -i else i)) H):=by
 intro pins s σ H xs us Q I r h
 obtain ⟨i,rfl,q⟩:=h
 obtain ⟨u,rfl,t,rfl⟩:=vals1 r
 exact call_abs_int fun u tk=>⟨.int (if i < 0 then -i else i),H,I.tok _,⟨_,rfl⟩,q⟩
theorem call_min2 (hc:X.calm = true):CallR X (.builtin "min") (fun xs H Q=>∃ i j,xs = [.int i,.int j]∧Q (.int (if j < i then j else i)) H):=by
 intro pins s σ H xs us Q I r h
 obtain ⟨i,j,rfl,q⟩:=h
 obtain ⟨u,w',rfl,⟨t,rfl⟩,⟨t',rfl⟩⟩:=vals2 r
 refine min_two_ints (I.ok.hd hc) fun h' tk k=>⟨_,H,I.kept k,?_,q⟩
 by_cases hj:j < i
 ·rw [if_pos hj,if_pos hj]; exact ⟨_,rfl⟩
 ·rw [if_neg hj,if_neg hj]; exact ⟨_,rfl⟩
end
end L2
namespace L2
open PySem PySem.Spec PyProof.Rows
structure ObjM (h:Heap) (x dx C:Addr) (mA:Str→Option Value):Prop where
 obj:h.get? x = some (PySem.W.instObj C dx)
 ns:h.Ns1 dx mA
 ne:dx ≠ x
theorem lookIn_ns {h:Heap} {dx:Addr} {mA:Str→Option Value} (n:h.Ns1 dx mA):∃ od,h.get? dx = some od∧∀ name,PySem.W.lookIn name od = some (mA name):=by
 obtain ⟨o,es,ep,ho,hd,hk,_,hm⟩:=n
 refine ⟨o,ho,fun name=>?_⟩
 have e:=hm name
 unfold nsFind findBy at e
 rw [← Array.find?_toList] at e
 unfold PySem.W.lookIn
 rw [hd]
 dsimp only
 split
 ·rename_i y q
  rw [q] at e
  exact congrArg some e
 ·rename_i q
  rw [q] at e
  have a:es.toList.any (·.refKey) = false:=by
   rw [List.any_eq_false]
   intro y hy
   obtain ⟨z,t,hkey⟩:=hk y (Array.mem_toList_iff.mp hy)
   simp [DictEntry.refKey,hkey]
  have a':¬ es.toList.any (·.refKey) = true:=by rw [a]; exact Bool.false_ne_true
  rw [if_neg a']
  exact congrArg some e
theorem ObjM.look {h:Heap} {x dx C:Addr} {mA:Str→Option Value} (I:ObjM h x dx C mA):∃ od,PySem.W.InstAt h x (PySem.W.instObj C dx) C (some od)∧∀ name,PySem.W.lookIn name od = some (mA name) :=
 let ⟨od,ho,hl⟩:=lookIn_ns I.ns
 ⟨od,⟨I.obj,rfl,rfl,ho⟩,hl⟩
section
variable {prog:Program} {w:World} {A:Around} {E:Value→Shared→Prop} {s:Shared} {K:PySem.W.Frag} {x dx C f:Addr} {mA:Str→Option Value} {name:Str} {v:Value}
end
theorem RelO.some_of {v:V} {o:Option Value} (r:RelO (some v) o):∃ u,o = some u∧RelV v u:=by
 cases o with
 | none=>exact (show False from r).elim
 | some u=>exact ⟨u,rfl,r⟩
theorem handed_of {v:V} {u:Value} (r:RelV v u):PySem.W.handedIn u = true:=by
 cases v with
 | non=>cases (show u = Value.none from r); rfl
 | bl b=>cases (show u = Value.bool b from r); rfl
 | int i=>obtain ⟨t,e⟩:=(show ∃ t,u = Value.int i t from r); cases e; rfl
 | str x=>obtain ⟨t,e⟩:=(show ∃ t,u = Value.str x t from r); cases e; rfl
 | byt b=>obtain ⟨t,e⟩:=(show ∃ t,u = Value.bytes b t from r); cases e; rfl
 | flt b=>obtain ⟨t,e⟩:=(show ∃ t,u = Value.float b t from r); cases e; rfl
 | ref a=>cases (show u = Value.ref a from r); rfl
 | ty n=>cases (show u = Value.type n from r); rfl
section
variable {P:Program} {w:World} {H H':Hp} {h h':Heap} {a C dx:Addr} {fs fs':List (Str × V)}
theorem ins_get (hok:HOk P w H h) (e:H a = some (.ins C dx fs)):∃ mA,ObjM h a dx C mA∧(∀ f,RelO (fs.lookup f) (mA f))∧PySem.Within mA (fs.map (·.1))∧fs.length≤1000∧H dx = some (.own a):=by
 obtain ⟨d,z,ne,ob,mA,n,r,q⟩:=(show ObjOk P w H h a (.ins C dx fs) from hok a _ e)
 exact ⟨mA,⟨ob,n,ne⟩,r,q,z,d⟩
end
structure Cls (K:PySem.W.Frag) (C:Addr):Prop where
 pg:PySem.W.plainGet K C Str.empty = true
 hd:PySem.W.hasDictIn K C = true
 po:PySem.W.plainOver K C = true
 sa:PySem.W.findIn K (.ref C) "__setattr__" = some (some (.builtin "object.__setattr__"))
theorem Cls.get {K:PySem.W.Frag} {C:Addr} (c:Cls K C) (f:Str):PySem.W.plainGet K C f = true:=c.pg
def NoAttr (K:PySem.W.Frag) (C:Addr) (f:Str):Prop:=PySem.W.findIn K (.ref C) f = some none
section
variable {X:Cx} {pins:List (Addr × Obj)} {σ:St} {H:Hp} {s:Shared} {a C dx:Addr} {fs:List (Str × V)} {f:Str} {v:V} {A:Around} {E:Value→Shared→Prop}
theorem attr_of {prog:Program} {w:World} {env:Env} {e:Expr} {f:Str} {pos:Pos} {s:Shared} {Q:Value→Shared→Prop} (hb:attributeBase e f env (eval e env) = eval e env)
  (h:wpAny (model prog w) A (eval e env) (fun o s₁=>wpAny (model prog w) A (getAttr o f true) Q E s₁) E s):wpAny (model prog w) A (eval (.Attribute e f pos) env) Q E s :=
 Attribute_any_ h (by rw [arm_eval_Attribute,hb])
end
section
variable {X:Cx} {o e value:Expr} {f:Str} {pos pos' tpos:Pos} {ta tv:TE}
end
section
variable {X:Cx} {pins:List (Addr × Obj)} {σ:St} {H:Hp} {s:Shared} {A:Around} {E:Value→Shared→Prop} {Q:Value→Shared→Prop} {c:Value} {b:Bool}
inductive TyOf (K:PySem.W.Frag) (H:Hp):V→Value→Prop where
 | non:TyOf K H .non (.type "NoneType")
 | bl (x:Bool):TyOf K H (.bl x) (.type "bool")
 | int (i:Int):TyOf K H (.int i) (.type "int")
 | str (x:Str):TyOf K H (.str x) (.type "str")
 | flt (x:UInt64):TyOf K H (.flt x) (.type "float")
 | lst {a:Addr} {xs:List V} (e:H a = some (.lst xs)):TyOf K H (.ref a) (.type "list")
 | frz {a:Addr} {o:Obj} {xs:List V} (e:H a = some (.frz o (.lst xs))):TyOf K H (.ref a) (.type "list")
 | tup {a:Addr} {xs:List V} (e:H a = some (.tup xs)):TyOf K H (.ref a) (.type "tuple")
 | dK {a:Addr} {kvs:List (Key × V)} (e:H a = some (.dK kvs)):TyOf K H (.ref a) (.type "dict")
 | dT {a:Addr} {kvs:List (List Key × V)} (e:H a = some (.dT kvs)):TyOf K H (.ref a) (.type "dict")
 | ins {a C dx:Addr} {fs:List (Str × V)} (e:H a = some (.ins C dx fs)) (cl:Cls K C) (ha:PySem.W.findIn K (.ref C) "__class__" = some (some (.builtin "object.__class__")))
   (hn:PySem.W.specialIn K (.builtin "object.__class__") "__get__" = some (some (.builtin "getset_descriptor.__get__"))) (htk:PySem.W.takesIn K (.builtin "object.__class__") = some true)
   (hm:PySem.W.mroIn K C (.type "object") = some true):TyOf K H (.ref a) (.ref C)
theorem isinst_ok {x:V} {u t:Value} (I:Inv X pins σ H s) (rx:RelV x u) (ty:TyOf X.K H x t) (e:PySem.W.kitOne X.K t c = some b) (h:∀ tk,Q (.bool b) { s with toks:=tk }) :
  wpAny (model X.prog X.w) A (call (.builtin "isinstance") [u,c]) Q E s:=by
 cases ty with
 | non=>cases (show u = Value.none from rx); exact PySem.W.kia_one PySem.W.kitx_none I.kIn True.intro e (fun z=>nomatch z) h
 | bl y=>cases (show u = Value.bool y from rx); exact PySem.W.kia_one PySem.W.kitx_bool I.kIn True.intro e (fun z=>nomatch z) h
 | int i=>obtain ⟨t,q⟩:=(show ∃ t,u = Value.int i t from rx); cases q; exact PySem.W.kia_one PySem.W.kitx_int I.kIn True.intro e (fun z=>nomatch z) h
 | str y=>obtain ⟨t,q⟩:=(show ∃ t,u = Value.str y t from rx); cases q; exact PySem.W.kia_one PySem.W.kitx_str I.kIn True.intro e (fun z=>nomatch z) h
 | flt y=>obtain ⟨t,q⟩:=(show ∃ t,u = Value.float y t from rx); cases q; exact PySem.W.kia_one PySem.W.kitx_float I.kIn True.intro e (fun z=>nomatch z) h
 | @lst a xs ea =>
  cases (show u = Value.ref a from rx)
  obtain ⟨_,_,n,_,h1⟩:=(show ObjOk X.prog X.w H s.heap a (.lst xs) from I.hok a _ ea)
  exact PySem.W.kia_one PySem.W.kitx_list I.kIn ⟨_,h1,rfl⟩ e (fun z=>nomatch z) h
 | @frz a ob xs ea =>
  cases (show u = Value.ref a from rx)
  obtain ⟨_,_,_,n,_,h1⟩:=(show ObjOk X.prog X.w H s.heap a (.frz ob (.lst xs)) from I.hok a _ ea)
  exact PySem.W.kia_one PySem.W.kitx_list I.kIn ⟨_,h1,rfl⟩ e (fun z=>nomatch z) h
 | @tup a xs ea =>
  cases (show u = Value.ref a from rx)
  obtain ⟨_,_,_,p⟩:=(show ObjOk X.prog X.w H s.heap a (.tup xs) from I.hok a _ ea)
  obtain ⟨o,h1,h2,_⟩:=p
  exact PySem.W.kia_one PySem.W.kitx_tuple I.kIn ⟨o,h1,h2⟩ e (fun z=>nomatch z) h
 | @dK a kvs ea =>
  cases (show u = Value.ref a from rx)
  obtain ⟨_,_,vs,_,p⟩:=(show ObjOk X.prog X.w H s.heap a (.dK kvs) from I.hok a _ ea)
  obtain ⟨o,es,ep,h1,h2,_⟩:=p
  exact PySem.W.kia_one PySem.W.kitx_dict I.kIn ⟨o,h1,h2.1⟩ e (fun z=>nomatch z) h
 | @dT a kvs ea =>
  cases (show u = Value.ref a from rx)
  obtain ⟨_,_,xs,_,o,es,ep,h1,h2,_⟩:=(show ObjOk X.prog X.w H s.heap a (.dT kvs) from I.hok a _ ea)
  exact PySem.W.kia_one PySem.W.kitx_dict I.kIn ⟨o,h1,h2.1⟩ e (fun z=>nomatch z) h
 | @ins a C dx fs ea cl ha hn htk hm =>
  cases (show u = Value.ref a from rx)
  obtain ⟨mA,O,_⟩:=ins_get I.hok ea
  obtain ⟨od,J,_⟩:=O.look
  exact PySem.W.kia_one (PySem.W.kitx_own (cl.get _) cl.hd ha hn htk hm) I.kIn J e (fun z=>nomatch z) h
end
end L2
namespace L2
open PySem PySem.Spec PyProof.Rows
structure Room (k:Nat) (A:Around):Prop where
 hd:A.handled = none
 dp:A.depth + 3 * k + 5 < recursionLimit
 un:A.units + 16 * k + 200 < cLine
 gd:A.guards = some []
theorem Room.mono {j k:Nat} {A:Around} (r:Room k A) (h:j≤k):Room j A:=⟨r.hd,by have:=r.dp; lia,by have:=r.un; lia,r.gd⟩
theorem Room.deeper {k:Nat} {A:Around} (r:Room (k + 1) A) (env:Env):Room k (A.deeper env) :=
 ⟨r.hd,by have:=r.dp; show A.depth + 1 + 3 * k + 5 < _; lia,by have:=r.un; show A.units + 3 + 16 * k + 200 < _; lia,r.gd⟩
theorem Room.in1 {k:Nat} {A:Around} (r:Room (k + 1) A):Room k A.in1 :=
 ⟨r.hd,by have:=r.dp; show A.depth + 3 * k + 5 < _; lia,by have:=r.un; show A.units + 1 + 16 * k + 200 < _; lia,r.gd⟩
theorem make_depth {A:Around} {C:Addr} {us:List Value} {kw:List (Str × Value)}:(A.under (.builtin "type.__call__" ⟨.ref C :: us,kw⟩)).depth = A.depth + 1:=by
 first | rfl | simp [Around.under,Code.weight,Code.isCreation,Code.isGuard,Code.isCaller,Code.frames,Code.isFrame,guardIds]
theorem make_units {A:Around} {C:Addr} {us:List Value} {kw:List (Str × Value)}:(A.under (.builtin "type.__call__" ⟨.ref C :: us,kw⟩)).units = A.units + 1:=by
 first | rfl | simp [Around.under,Code.cUnits,Code.frames,Code.isFrame]
theorem Room.make {k:Nat} {A:Around} (r:Room (k + 1) A) (C:Addr) (us:List Value) (kw:List (Str × Value)):Room k (A.under (.builtin "type.__call__" ⟨.ref C :: us,kw⟩)) :=
 ⟨r.hd,by have:=r.dp; rw [make_depth]; lia,by have:=r.un; rw [make_units]; lia,r.gd⟩
theorem Room.depth {k:Nat} {A:Around} (r:Room k A):A.depth < recursionLimit:=by have:=r.dp; lia
theorem Room.units {k:Nat} {A:Around} (r:Room k A):A.units + 64 < cLine:=by have:=r.un; lia
def tNil:TA:=fun _ H Q=>Q [] H
def tCons (ta:TE) (tr:TA):TA:=fun σ H Q=>ta σ H fun x H1=>tr σ H1 fun xs H2=>Q (x :: xs) H2
section
variable {X:Cx} {e:Expr} {es:List Expr} {te:TE} {t:TA} {pos:Pos}
theorem pa_nil:PA X [] tNil:=fun _ _ _ _ H Q I h=>Calls.spliced_nil ⟨[],H,I,.nil,h⟩
theorem pa_cons (ha:PE X e te) (hr:PA X es t) (hs:starEach (e :: es) X.env = (false,eval e X.env) :: starEach es X.env:=by rfl):PA X (e :: es) (tCons te t):=by
 intro pos pins s σ H Q I h
 rw [hs]
 show wpAny _ _ (spliced ((false,eval e X.env) :: backTo pos (starEach es X.env))) _ _ s
 refine Calls.spliced_cons (thn (ha pins s σ H _ I h) fun u s1 ⟨x,H1,I1,r1,q1⟩=>?_)
 exact thn (hr pos pins s1 σ H1 _ I1 q1) fun us s2 ⟨xs,H2,I2,r2,q2⟩=>⟨x :: xs,H2,I2,.cons r1 r2,q2⟩
def tTup (t:TA):TE:=fun σ H Q=>t σ H fun xs H1=>xs.length≤sizeLine∧∀ p,H1 p = none→Q (.ref p) (upd H1 p (.tup xs))
def tLst (t:TA):TE:=fun σ H Q=>t σ H fun xs H1=>xs.length≤sizeLine∧∀ p,H1 p = none→Q (.ref p) (upd H1 p (.lst xs))
theorem pe_tup {x1} (h:PA X es t):PE X (.Tuple es x1 pos) (tTup t):=by
 intro pins s σ H Q I hq
 refine wpAny_Tuple_spliced (thn (h pos pins s σ H _ I hq) fun us s1 ⟨xs,H1,I1,r,z,q⟩=>⟨by rw [← r.length]; exact z,?_⟩)
 have hf:H1 s1.heap.objs.size = none:=I1.hok.fresh (Nat.le_refl _)
 refine ⟨.ref s1.heap.objs.size,upd H1 s1.heap.objs.size (.tup xs),I1.laid (t':=s1.toks) (fun b u e=>Heap.get?_push_of_some _ e) (Nat.le_refl _) ?_,rfl,q _ hf⟩
 exact ⟨z,us,r,⟨_,Heap.get?_push_size _ rfl,rfl,_,rfl⟩⟩
theorem pe_lst (h:PA X es t):PE X (.List es pos) (tLst t):=by
 intro pins s σ H Q I hq
 refine wpAny_List_spliced (thn (h pos pins s σ H _ I hq) fun us s1 ⟨xs,H1,I1,r,z,q⟩=>⟨by rw [← r.length]; exact z,?_⟩)
 have hf:H1 s1.heap.objs.size = none:=I1.hok.fresh (Nat.le_refl _)
 refine ⟨.ref s1.heap.objs.size,upd H1 s1.heap.objs.size (.lst xs),I1.laid (t':=s1.toks) (fun b u e=>Heap.get?_push_of_some _ e) (Nat.le_refl _) ?_,rfl,q _ hf⟩
 exact ⟨z,us,0,r,Heap.get?_push_size _ rfl⟩
end
abbrev Sp:=List V→Hp→VK→XK→Prop
abbrev CXT:=List Env→Hp→Shared→XK→Value→Shared→Prop
structure Env0 (P:Program) (w:World) (K:PySem.W.Frag) (mg:Str→Option Value) (base:Heap) (A:Around) (outer:List Env) (s:Shared) (H:Hp):Prop where
 frames:A.frames = some outer
 mod:Mod K mg base
 bs:∀ b o,base.get? b = some o→s.heap.get? b = some o∧H b = none
 bsz:base.objs.size≤s.heap.objs.size
 funs:s.heap.FunFrames base outer
 frf:∀ b ∈ frs outer,H b = none
 hok:HOk P w H s.heap
 bare:AllBare s.gens
def CE (outer:List Env) (P:Program) (w:World) (H:Hp) (s:Shared) (Q:VK) (u:Value) (s':Shared):Prop :=
 ∃ v H',s'.os = s.os∧AllBare s'.gens∧Un (frs outer) [] H H' s.heap s'.heap∧HOk P w H' s'.heap∧RelV v u∧Q v H'
def CR (CX:CXT) (outer:List Env) (P:Program) (w:World) (H:Hp) (s:Shared) (Q:VK) (E:XK) (r:Result) (s':Shared):Prop :=
 match r with
 | .ok (.ret u)=>CE outer P w H s Q u s'
 | .ok _=>False
 | .error e=>CX outer H s E e s'
structure FnOk (P:Program) (w:World) (K:PySem.W.Frag) (mg:Str→Option Value) (base:Heap) (CX:CXT) (k:Nat) (f:Addr) (fd:FuncData) (ps:List Str) (sp:Sp):Prop where
 len:∀ vs H Q E,sp vs H Q E→vs.length = ps.length
 run:∀ (A:Around) (outer:List Env) (s:Shared) (H:Hp) (args:Args) (us:List Value) (vs:List V) (Q:VK) (E:XK),Room k A→Env0 P w K mg base A outer s H→BindsTo s fd args (ps.zip us)→Vals vs us→sp vs H Q E →
  codeAny (model P w) A (.call (.ref f) args) (CR CX outer P w H s Q E) s
theorem FnOk.imp {P:Program} {w:World} {K:PySem.W.Frag} {mg:Str→Option Value} {base:Heap} {CX:CXT} {k:Nat} {f:Addr} {fd:FuncData} {ps:List Str} {sp sp':Sp} (F:FnOk P w K mg base CX k f fd ps sp)
  (h:∀ vs H Q E,sp' vs H Q E→sp vs H Q E):FnOk P w K mg base CX k f fd ps sp' :=
 ⟨fun vs H Q E q=>F.len vs H Q E (h _ _ _ _ q),fun A outer s H args us vs Q E hr he hb hv hs=>F.run A outer s H args us vs Q E hr he hb hv (h _ _ _ _ hs)⟩
theorem Env0.make {P:Program} {w:World} {K:PySem.W.Frag} {mg:Str→Option Value} {base:Heap} {A:Around} {outer:List Env} {s:Shared} {H:Hp} (e:Env0 P w K mg base A outer s H) (C:Addr) (us:List Value) (kw:List (Str × Value)) :
  Env0 P w K mg base (A.under (.builtin "type.__call__" ⟨.ref C :: us,kw⟩)) outer s H:=⟨by first | exact e.frames | (simpa [Around.under,Code.envs,Code.isFrame,pushEnvs] using e.frames),e.mod,e.bs,e.bsz,e.funs,e.frf,e.hok,e.bare⟩
section
variable {X:Cx} {pins:List (Addr × Obj)} {σ:St} {H:Hp} {s s':Shared}
theorem Inv.env0 (I:Inv X pins σ H s):Env0 X.prog X.w X.K X.mg X.base X.A X.stack s H :=
 ⟨I.ok.frames,I.ok.mod,I.bs,Nat.le_trans I.ok.bsz I.sz,I.stack,I.stkFree,I.hok,I.bare⟩
theorem Inv.after {Q:VK} {u:Value} (I:Inv X pins σ H s) (h:CE X.stack X.prog X.w H s Q u s'):EP X pins σ Q u s':=by
 obtain ⟨v,H',os,bare,un,hok,r,q⟩:=h
 obtain ⟨hh,g,d,t,os'⟩:=s'
 obtain rfl:os' = s.os:=os
 exact ⟨v,H',I.call (h':=hh) (g':=g) (d':=d) (t':=t) (ch:=[]) un hok bare (fun b z=>absurd z (by simp)),r,q⟩
end
def tCall (sp:Sp) (dvs:List V) (E:XK) (t:TA):TE:=fun σ H Q=>t σ H fun vs H1=>sp (vs ++ dvs) H1 Q E
def Binds (K:PySem.W.Frag) (fd:FuncData) (ps:List Str) (ds:List Value):Prop :=
 ∀ (s:Shared) (us:List Value),K.In s.heap→(us ++ ds).length = ps.length→BindsTo s fd ⟨us,[]⟩ (ps.zip (us ++ ds))
theorem Binds.all {K:PySem.W.Frag} {fd:FuncData} {ps:List Str} (h:∀ us:List Value,us.length = ps.length→bindArgs fd ⟨us,[]⟩ = pure (ps.zip us)):Binds K fd ps []:=fun s us _ hl=>by
 rw [List.append_nil] at hl ⊢
 exact .of_eq (h us hl)
def Passes (CX:CXT) (X:Cx) (E:XK):Prop:=∀ (pins:List (Addr × Obj)) (σ:St) (H:Hp) (s:Shared) (e:Value) (s':Shared),Inv X pins σ H s→CX X.stack H s E e s'→X.xe e s'
section
variable {X:Cx} {CX:CXT} {k:Nat} {f C:Addr} {fd:FuncData} {ps:List Str} {sp:Sp} {dvs:List V} {ds:List Value} {E:XK} {x m:Str} {p pos apos:Pos} {e o:Expr} {es:List Expr} {ta:TE} {t:TA}
theorem run_fn {pins:List (Addr × Obj)} {σ:St} {H:Hp} {s:Shared} {Q:VK} {us:List Value} {vs:List V} (F:FnOk X.prog X.w X.K X.mg X.base CX k f fd ps sp) (hr:Room k X.A) (hb:Binds X.K fd ps ds) (hd:Vals dvs ds) (hx:Passes CX X E)
  (I:Inv X pins σ H s) (r:Vals vs us) (h:sp (vs ++ dvs) H Q E):wpAny (model X.prog X.w) X.A (call (.ref f) us) (EP X pins σ Q) X.xe s:=by
 have r2:Vals (vs ++ dvs) (us ++ ds):=r.append hd
 have hl:(us ++ ds).length = ps.length:=by rw [← r2.length]; exact F.len _ _ _ _ h
 refine wpAny_call (codeAny_mono (F.run X.A X.stack s H ⟨us,[]⟩ (us ++ ds) (vs ++ dvs) Q E hr I.env0 (hb s us I.kIn hl) r2 h) fun r s' hq=>?_)
 cases r with
 | error e=>exact hx pins σ H s e s' I hq
 | ok fl =>
  cases fl with
  | ret u=>exact I.after hq
  | next=>exact False.elim hq
  | brk=>exact False.elim hq
  | cont=>exact False.elim hq
theorem pe_call (F:FnOk X.prog X.w X.K X.mg X.base CX k f fd ps sp) (hr:Room k X.A) (hg:Gl X x) (hm:X.mg x = some (.ref f)) (hk:PySem.W.keepIn X.K (.ref f) = true) (hb:Binds X.K fd ps ds) (hd:Vals dvs ds) (hx:Passes CX X E)
  (ha:PA X (e :: es) t) (hdb:(x == ("__debug__":Str)) = false:=by decide) (he:starEach (e :: es) X.env = (false,eval e X.env) :: starEach es X.env:=by rfl) (hpl:(backTo pos (starEach es X.env)).any (·.1) = false:=by rfl) :
  PE X (.Call (.Name x p) (e :: es) [] pos) (tCall sp dvs E t):=by
 intro pins s σ H Q I h
 refine wpAny_Call_Name_kw (ld_glob I hg hm ?_ hdb)
 refine PySem.W.callWith_K (h₀:=X.base) I.ok.mod.kin hk (thn (ha pos pins s σ H _ I h) fun us s1 ⟨vs,H1,I1,r,q⟩=>⟨I1.kIn,?_⟩) he hpl
 exact run_fn F hr hb hd hx I1 r q
end
section
variable {X:Cx} {CX:CXT} {k:Nat} {f C:Addr} {fd:FuncData} {ps ks:List Str} {sp:Sp} {E:XK} {x m:Str} {p pos apos kpos:Pos} {e o:Expr} {es:List Expr} {kws:List Keyword} {te ta:TE} {t tk:TA} {nm:Option Str}
variable {g:List Value→List Value→List Value} {gV:List V→List V→List V}
end
structure FnScope (N P:List Str) (sc:Scope):Prop where
 kind:sc.kind = .function
 co:sc.isCoroutine = false
 gen:sc.isGenerator = false
 nd:N.Nodup
 pre:N.take P.length = P
 par:∀ x ∈ P,sc.names.lookup x = some .local∨sc.names.lookup x = some .cell
 nofree:∀ y ∈ sc.names,y.2 ≠ .free
theorem bindL_out {kindOf:Str→Option NameKind} {x:Str}:∀ {binds:List (Str × Value)} {m:Str→Option Value},(∀ v,(x,v) ∉ binds)→bindL kindOf binds m x = m x
 | [],_,_=>rfl
 | (n,v) :: r,m,h=>by
  unfold bindL
  rw [bindL_out fun w hw=>h w (List.mem_cons_of_mem _ hw)]
  split
  ·have:x ≠ n:=by rintro rfl; exact h v List.mem_cons_self
   simp [this]
  ·rfl
theorem bindC_out {kindOf:Str→Option NameKind} {x:Str}:∀ {binds:List (Str × Value)} {m:Str→Option Value},(∀ v,(x,v) ∉ binds)→bindC kindOf binds m x = m x
 | [],_,_=>rfl
 | (n,v) :: r,m,h=>by
  unfold bindC
  rw [bindC_out fun w hw=>h w (List.mem_cons_of_mem _ hw)]
  split
  ·rfl
  ·have:x ≠ n:=by rintro rfl; exact h v List.mem_cons_self
   simp [this]
theorem bindL_get {kindOf:Str→Option NameKind} {x:Str} {v:Value}:∀ {P:List Str} {vs:List Value} {i:Nat} {m:Str→Option Value},P.Nodup→P[i]? = some x→vs[i]? = some v→kindOf x = some .local →
  bindL kindOf (P.zip vs) m x = some v
 | [],_,_,_,_,h,_,_=>by simp at h
 | _ :: _,[],_,_,_,_,h,_=>by simp at h
 | p :: P,w :: vs,0,m,nd,h1,h2,hk=>by
  simp at h1 h2; subst h1; subst h2
  show bindL kindOf ((p,w) :: P.zip vs) m p = _
  unfold bindL
  rw [bindL_out fun v hv=>(List.nodup_cons.mp nd).1 (List.of_mem_zip hv).1,if_pos hk]
  simp
 | p :: P,w :: vs,i + 1,m,nd,h1,h2,hk=>by
  show bindL kindOf ((p,w) :: P.zip vs) m x = _
  unfold bindL
  exact bindL_get (i:=i) (List.nodup_cons.mp nd).2 (by simpa using h1) (by simpa using h2) hk
theorem bindC_get {kindOf:Str→Option NameKind} {x:Str} {v:Value}:∀ {P:List Str} {vs:List Value} {i:Nat} {m:Str→Option Value},P.Nodup→P[i]? = some x→vs[i]? = some v→kindOf x ≠ some .local →
  bindC kindOf (P.zip vs) m x = some v
 | [],_,_,_,_,h,_,_=>by simp at h
 | _ :: _,[],_,_,_,_,h,_=>by simp at h
 | p :: P,w :: vs,0,m,nd,h1,h2,hk=>by
  simp at h1 h2; subst h1; subst h2
  show bindC kindOf ((p,w) :: P.zip vs) m p = _
  unfold bindC
  rw [bindC_out fun v hv=>(List.nodup_cons.mp nd).1 (List.of_mem_zip hv).1,if_neg hk]
  simp
 | p :: P,w :: vs,i + 1,m,nd,h1,h2,hk=>by
  show bindC kindOf ((p,w) :: P.zip vs) m x = _
  unfold bindC
  exact bindC_get (i:=i) (List.nodup_cons.mp nd).2 (by simpa using h1) (by simpa using h2) hk
def start (N:List Str) (vs:List V):St:=vs.map some ++ List.replicate (N.length - vs.length) none
def cxOf (CX:CXT) (P:Program) (w:World) (K:PySem.W.Frag) (mg:Str→Option Value) (base:Heap) (N:List Str) (qual:Str) (scope:Scope) (f:Addr) (cd:Value) (A:Around) (outer:List Env) (s:Shared) (H:Hp) (E:XK):Cx where
 prog:=P
 w:=w
 K:=K
 mg:=mg
 base:=base
 A:=A.deeper (envOfC qual scope s.heap.objs.size f cd)
 N:=N
 s₀:=s
 H₀:=H
 env:=envOfC qual scope s.heap.objs.size f cd
 outer:=outer
 stack:=envOfC qual scope s.heap.objs.size f cd :: outer
 ex:=[]
 calm:=true
 fn:=fun _=>true
 pn:=[]
 xe:=fun e s'=>wpAny (model P w) (A.deeper (envOfC qual scope s.heap.objs.size f cd)) (leaving (envOfC qual scope s.heap.objs.size f cd) e) (fun _ s''=>CX outer H s E e s'') (fun e' s''=>CX outer H s E e' s'') s'
theorem cell_has {sc:Scope} {n:Nat} {x:Str} (h:sc.names.lookup x = some .cell):∃ c,(cellsFrom n sc.names []).lookup x = some c:=by
 have q:=PySem.W.cellsFrom_some sc.names n [] (.inl h)
 exact Option.isSome_iff_exists.mp q
theorem inv_start {CX:CXT} {P:Program} {w:World} {K:PySem.W.Frag} {mg:Str→Option Value} {base:Heap} {N ps:List Str} {qual:Str} {scope:Scope} {f:Addr} {cd:Value} {A:Around} {outer:List Env} {s s1:Shared} {H:Hp} {E:XK} {us:List Value} {vs:List V}
  (S:FnScope N ps scope) (hd:A.handled = none) (e0:Env0 P w K mg base A outer s H) (hl:vs.length = ps.length) (r:Vals vs us)
  (x:InCallC s s.heap.objs.size (bindL (envOfC qual scope s.heap.objs.size f cd).kindOf (ps.zip us) fun _=>none) (cellsFrom (s.heap.objs.size + 1) scope.names []) (bindC (envOfC qual scope s.heap.objs.size f cd).kindOf (ps.zip us) fun _=>none) s1) :
  Inv (cxOf CX P w K mg base N qual scope f cd A outer s H E) [] (start N vs) H s1:=by
 have hpl:ps.length≤N.length:=by have:=congrArg List.length S.pre; rw [List.length_take] at this; lia
 obtain ⟨h1,tk,rfl,hk⟩:=x.done
 have noA:∀ b:Addr,b ∉ (cxOf CX P w K mg base N qual scope f cd A outer s H E).ex:=fun b z=>absurd (show b ∈ ([]:List Addr) from z) (by simp)
 refine ⟨⟨e0.mod,S.kind,rfl,rfl,Nat.le_refl _,fun y z c h1 h2=>?_,fun y hy=>?_,fun y c _ h=>?_,fun _=>hd,Around.frames_deeper e0.frames,.inr ⟨rfl,rfl⟩,fun b z=>absurd z (noA b),e0.bs,e0.bsz,fun b _ _=>noA b,fun b z=>absurd z (noA b),e0.funs,e0.frf⟩,
  rfl,e0.bare,Un.kept hk,⟨_,x.toInCall.ns,fun i y v h1 h2 h3=>?_⟩,fun y c h=>⟨_,x.cell y c h⟩,e0.hok.fresh (Nat.le_refl _),fun y c h=>?_,fun p hp=>absurd (show p ∈ ([]:List (Addr × Obj)) from hp) (by simp),e0.hok.kept hk,?_⟩
 ·exact name_of_addr x.apart (PySem.mem_of_lookup h1) (PySem.mem_of_lookup h2)
 ·have hy:scope.names.lookup y = some .cell∨scope.names.lookup y = some .free:=hy
  rcases hy with hy | hy
  ·exact cell_has hy
  ·exact absurd rfl (S.nofree _ (PySem.mem_of_lookup hy))
 ·exact Nat.le_of_lt (x.above y c (PySem.mem_of_lookup h))
 ·have hi:i < vs.length:=by
   unfold start at h2
   by_cases hi:i < vs.length
   ·exact hi
   ·rw [List.getElem?_append_right (by simpa using hi)] at h2
    rw [List.getElem?_replicate] at h2
    split at h2 <;> cases h2
  have ha:vs[i]? = some v:=by
   unfold start at h2
   rw [List.getElem?_append_left (by simpa using hi),List.getElem?_map] at h2
   cases e:vs[i]? with
   | none=>rw [e] at h2; cases h2
   | some a=>rw [e] at h2; cases h2; rfl
  obtain ⟨u,hu,rv⟩:=r.get ha
  have hp:ps[i]? = some y:=by
   rw [← S.pre,List.getElem?_take_of_lt (by lia)]; exact h1
  have ndP:ps.Nodup:=by rw [← S.pre]; exact S.nd.sublist (List.take_sublist _ _)
  refine ⟨u,rv,?_⟩
  rcases S.par y (List.mem_of_getElem? hp) with k | k
  ·exact .inl ⟨k,bindL_get ndP hp hu k⟩
  ·obtain ⟨c,e⟩:=cell_has (n:=s.heap.objs.size + 1) k
   refine .inr ⟨.inl k,c,e,?_⟩
   have q:=x.cell y c e
   rw [bindC_get ndP hp hu (by show scope.names.lookup y ≠ _; rw [k]; decide)] at q
   exact q
 ·exact e0.hok.fresh (Nat.le_of_lt (x.above y c (PySem.mem_of_lookup h)))
 ·unfold start
  show _ = N.length
  rw [List.length_append,List.length_map,List.length_replicate]
  lia
theorem fn_of {CX:CXT} {P:Program} {w:World} {K:PySem.W.Frag} {mg:Str→Option Value} {base:Heap} {k:Nat} {f:Addr} {name qual:Str} {params:Arguments} {body:List Stmt} {scope:Scope} {dV kV doc pm cdv ct oc:Value} {an od:Option Addr}
  {osl:Array (Option Value)} {N ps:List Str} {sp:Sp} (lk:K.lookup f = some ⟨oc,od,.func (PySem.W.fnOf name qual params body scope dV kV doc pm an cdv ct),osl⟩) (hcd:PySem.W.codeIn K cdv qual = true) (S:FnScope N ps scope)
  (len:∀ vs H Q E,sp vs H Q E→vs.length = ps.length)
  (hbody:∀ (A:Around) (outer:List Env) (s:Shared) (H:Hp) (vs:List V) (Q:VK) (E:XK),Room k (A.deeper (envOfC qual scope s.heap.objs.size f cdv))→sp vs H Q E →
   ∃ t,PSs (cxOf CX P w K mg base N qual scope f cdv A outer s H E) body t∧t { nx:=fun _ H'=>Q .non H',rt:=Q } (start N vs) H) :
  FnOk P w K mg base CX (k + 1) f (PySem.W.fnOf name qual params body scope dV kV doc pm an cdv ct) ps sp:=by
 refine ⟨len,fun A outer s H args us vs Q E hr e0 hb r hsp=>?_⟩
 have hl:=len _ _ _ _ hsp
 have KX:K.In s.heap:=e0.mod.kin.keeps fun b o e=>(e0.bs b o e).1
 have lim:s.heap.NoLimit:=e0.mod.nolimit.keeps fun b o e=>(e0.bs b o e).1
 have hkind:∀ y ∈ ps.zip us,scope.names.lookup y.1 = some .local∨(scope.names.lookup y.1 = some .cell∧((cellsFrom (s.heap.objs.size + 1) scope.names []).lookup y.1).isSome = true):=fun ⟨n,v⟩ hy=>by
  rcases S.par n (List.of_mem_zip hy).1 with q | q
  ·exact .inl q
  ·exact .inr ⟨q,PySem.W.cellsFrom_some _ _ _ (.inl q)⟩
 refine codeAny_call_function hr.depth (KX _ _ lk) rfl S.co S.gen rfl (PySem.W.codeRec_of KX hcd) (hb _ _ _ _ ?_)
 refine wpAny_newFunctionEnv_cells S.kind hkind fun env he s1 x=>?_
 subst he
 refine ⟨lim.keeps x.toInCall.keep,codeAny_func ?_⟩
 obtain ⟨t,ht,hq⟩:=hbody A outer s H vs Q E (hr.deeper _) hsp
 have I:Inv (cxOf CX P w K mg base N qual scope f cdv A outer s H E) [] (start N vs) H s1:=inv_start S hr.hd e0 hl r x
 refine wpAny_mono (ht [] s1 (start N vs) H _ I hq) (fun fl s' hs=>?_) fun e s' hs=>hs
 have fin:∀ {σ':St} {H':Hp} {v:V} {u:Value},Inv (cxOf CX P w K mg base N qual scope f cdv A outer s H E) [] σ' H' s'→RelV v u→Q v H'→CE outer P w H s Q u s' :=
  fun {σ' H' v u} J rv q=>⟨v,H',J.os,J.bare,J.base,J.hok,rv,q⟩
 cases fl with
 | ret u =>
  obtain ⟨v,σ',H',J,rv,q⟩:=hs
  exact fin J rv q
 | next =>
  obtain ⟨σ',H',J,q⟩:=hs
  exact fin (v:=V.non) (u:=Value.none) J rfl q
 | brk =>
  obtain ⟨_,_,_,q⟩:=hs
  exact False.elim q
 | cont =>
  obtain ⟨_,_,_,q⟩:=hs
  exact False.elim q
end L2
namespace L2
open PySem PySem.Spec PyProof.Rows
section
variable {X:Cx} {x:Str} {p pos:Pos} {e:Expr} {es:List Expr} {t:TA} {id T:String} {r:List V→Hp→VK→Prop}
def tCB (r:List V→Hp→VK→Prop) (t:TA):TE:=fun σ H Q=>t σ H fun vs H1=>r vs H1 Q
theorem pe_callB (hc:CallR X (.builtin id) r) (hg:Gl X x) (hm:X.mg x = none) (hv:bootBuiltins x = some (.builtin id)) (ha:PA X (e :: es) t) (hn:x ≠ "__name__":=by decide) (hdb:(x == ("__debug__":Str)) = false:=by decide)
  (he:starEach (e :: es) X.env = (false,eval e X.env) :: starEach es X.env:=by rfl) (hpl:(backTo pos (starEach es X.env)).any (·.1) = false:=by rfl):PE X (.Call (.Name x p) (e :: es) [] pos) (tCB r t):=by
 intro pins s σ H Q I h
 refine wpAny_Call_Name_kw (ld_blt I hg hm hv ?_ hn hdb)
 exact PyProof.Rows.callWith_builtin1 (thn (ha pos pins s σ H _ I h) fun us s1 ⟨vs,H1,I1,r1,q1⟩=>hc pins s1 σ H1 vs us Q I1 r1 q1) he hpl
theorem pe_callTy (hc:CallR X (.type T) r) (hg:Gl X x) (hm:X.mg x = none) (hv:bootBuiltins x = some (.type T)) (ha:PA X (e :: es) t) (hn:x ≠ "__name__":=by decide) (hdb:(x == ("__debug__":Str)) = false:=by decide)
  (he:starEach (e :: es) X.env = (false,eval e X.env) :: starEach es X.env:=by rfl) (hpl:(backTo pos (starEach es X.env)).any (·.1) = false:=by rfl):PE X (.Call (.Name x p) (e :: es) [] pos) (tCB r t):=by
 intro pins s σ H Q I h
 refine wpAny_Call_Name_kw (ld_blt I hg hm hv ?_ hn hdb)
 exact PyProof.Rows.callWith_type1 (thn (ha pos pins s σ H _ I h) fun us s1 ⟨vs,H1,I1,r1,q1⟩=>hc pins s1 σ H1 vs us Q I1 r1 q1) he hpl
end
end L2
namespace HT
open PySem PyProof.Rows
section
open PySem.SeqAt
open PySem.AutoSeq1 (wpAny_loadPart')
open PySem.MeetsSeq PySem.MeetsSeq2 PySem.MeetsSeq3
end
section
variable {prog:Program} {w:World} {A:Around} {E:Value→Shared→Prop} {s:Shared}
def sIx (n d:Nat):Option Int→Nat
 | none=>d
 | some v=>if v < 0 then (v + (n:Int)).toNat else min v.toNat n
theorem sIx_le (n d:Nat) (hd:d≤n) (o:Option Int):sIx n d o≤n:=by
 cases o with
 | none=>exact hd
 | some v =>
  show (if v < 0 then (v + (n:Int)).toNat else min v.toNat n)≤n
  by_cases hv:v < 0
  ·rw [if_pos hv]; lia
  ·rw [if_neg hv]; exact Nat.min_le_right _ _
theorem clip_eq (v:Int) (n d:Nat):(if v < 0 then max (v + (n:Int)) 0 else min v (n:Int)) = ((sIx n d (some v):Nat):Int):=by
 show (if v < 0 then max (v + (n:Int)) 0 else min v (n:Int)) = (((if v < 0 then (v + (n:Int)).toNat else min v.toNat n):Nat):Int)
 by_cases hv:v < 0
 ·simp only [if_pos hv]; lia
 ·simp only [if_neg hv]; lia
theorem adjust_gen (lo hi:Option Int) (n:Nat):Builtin.Slice.sliceAdjust lo hi 1 (n:Int) = (((sIx n 0 lo:Nat):Int),((sIx n n hi:Nat):Int)):=by
 have h1:¬ ((1:Int) < 0):=by lia
 unfold Builtin.Slice.sliceAdjust
 simp only [h1,if_false]
 refine Prod.ext ?_ ?_
 ·cases lo with
  | none=>rfl
  | some v=>exact clip_eq v n 0
 ·cases hi with
  | none=>rfl
  | some v=>exact clip_eq v n n
theorem places_gen (i j:Nat):Builtin.Slice.slicePlaces (i:Int) (j:Int) 1 = j - i:=by
 unfold Builtin.Slice.slicePlaces
 have h1:(1:Int) > 0:=by lia
 simp only [h1,if_true,Int.ediv_one]
 split <;> lia
theorem slicePart_ {v:Value} {o:Option Int} {Q:Option Int→Shared→Prop} (p:IsPart v o) (h:Q o s):wpAny (model prog w) A (Builtin.Slice.slicePartIndex v) Q E s:=by
 cases p with
 | none=>exact slicePart_none h
 | int i t=>exact slicePart_int h
theorem sliceApplied_gen {sl:Addr} {vl vu:Value} {lo hi:Option Int} {n:Nat} {Q:Int × Int × Nat→Shared→Prop} (hs:s.heap.IsSliceOf sl vl vu .none) (pl:IsPart vl lo) (pu:IsPart vu hi)
  (h:Q (((sIx n 0 lo:Nat):Int),1,sIx n n hi - sIx n 0 lo) s):wpAny (model prog w) A (Builtin.Slice.sliceApplied (.ref sl) (pure (n:Int))) Q E s:=by
 obtain ⟨os,hos,hcs,hds⟩:=id hs
 unfold Builtin.Slice.sliceApplied Builtin.Slice.sliceFields
 refine wpAny_bind (wpAny_bind (wpAny_field hos hds (x:=vl) rfl (wpAny_bind (wpAny_field hos hds (x:=vu) rfl (wpAny_bind (wpAny_field hos hds (x:=.none) rfl (wpAny_pure ?_)))))))
 refine wpAny_bind (slicePart_none ?_)
 show wpAny _ _ (if ((1:Int) == 0) = true then _ else _) _ _ s
 rw [if_neg (by decide)]
 refine wpAny_bind (slicePart_ pl (wpAny_bind (slicePart_ pu (wpAny_bind (wpAny_pure ?_)))))
 show wpAny _ _ (match Builtin.Slice.sliceAdjust lo hi 1 (n:Int) with | (lo,hi)=>pure (lo,(1:Int),Builtin.Slice.slicePlaces lo hi 1)) _ _ s
 rw [adjust_gen lo hi n]
 show wpAny _ _ (pure (((sIx n 0 lo:Nat):Int),(1:Int),Builtin.Slice.slicePlaces ((sIx n 0 lo:Nat):Int) ((sIx n n hi:Nat):Int) 1)) _ _ s
 rw [places_gen]
 exact wpAny_pure h
theorem pick_gen (xs:Array Value) (i k:Nat):((List.range k).filterMap fun (m:Nat)=>xs[((i:Int) + (m:Int) * 1).toNat]?).toArray = ((xs.toList.drop i).take k).toArray:=by
 have e:(fun (m:Nat)=>xs[((i:Int) + (m:Int) * 1).toNat]?) = fun m=>xs[i + m]?:=by
  funext m
  have:((i:Int) + (m:Int) * 1).toNat = i + m:=by lia
  rw [this]
 rw [e]
 have:=pick_run xs i k
 rw [List.filterMap_map] at this
 have e2:((fun x=>xs[x]?) ∘ fun x=>i + x) = fun m=>xs[i + m]?:=rfl
 rw [e2] at this
 rw [this]
theorem getItem_tuple_cut {t sl:Addr} {items:Array Value} {vl vu:Value} {lo hi:Option Int} {Q:Value→Shared→Prop} (ht:IsTup s.heap t items) (hs:s.heap.IsSliceOf sl vl vu .none) (pl:IsPart vl lo) (pu:IsPart vu hi)
  (hw:¬ (sIx items.size 0 lo = 0∧sIx items.size items.size hi = items.size))
  (h:Q (.ref s.heap.objs.size) { s with heap:=s.heap.push { cls:=.type "tuple",data:=.seq ((items.toList.drop (sIx items.size 0 lo)).take (sIx items.size items.size hi - sIx items.size 0 lo)).toArray } })
  (hsz:items.size≤sizeLine):wpAny (model prog w) A (getItem (.ref t) (.ref sl)) Q E s:=by
 have htake:sizeOk (.seq ((items.toList.drop (sIx items.size 0 lo)).take (sIx items.size items.size hi - sIx items.size 0 lo)).toArray):=by
  show ((items.toList.drop (sIx items.size 0 lo)).take (sIx items.size items.size hi - sIx items.size 0 lo)).toArray.size≤sizeLine
  rw [List.size_toArray,List.length_take,List.length_drop,Array.length_toList]
  lia
 have hj:sIx items.size items.size hi≤items.size:=sIx_le _ _ (Nat.le_refl _) hi
 obtain ⟨os,hos,hcs,hds⟩:=id hs
 have hTs:s.TypeIs (.ref sl) "slice":=⟨os,hos,hcs⟩
 unfold getItem
 try with_reducible refine wpAny_holding ?_
 first | refine wpAny_bind (wpAny_pure ?_) | skip
 refine wpAny_bind (wpAny_sequenceKey ht.typeIs (by decide) ?_)
 refine wpAny_bind (wpAny_callSpecial?_slot (name:=Str.ofString "__getitem__") ht.typeIs PyProof.Rows.slot_tuple_getitem
  (wpAny_call_entry PyProof.Rows.slot_tuple_getitem ht.typeIs entry_tuple_getitem ?_ (args_tuple_getitem _ _)))
 show wpAny _ _ (Builtin.Tuple.tupleItemsOf (.ref t) >>= _) _ _ s
 refine wpAny_bind (tupleItemsOf_ ht ?_)
 refine wpAny_bind (wpAny_typeOf hTs ?_)
 rw [if_pos (by decide)]
 refine wpAny_bind (sliceApplied_gen hs pl pu ?_)
 have hno:¬ ((((sIx items.size 0 lo:Nat):Int) == 0 && (1:Int) == 1 && (sIx items.size items.size hi - sIx items.size 0 lo) == items.size) = true):=by
  intro q
  rw [Bool.and_eq_true,Bool.and_eq_true] at q
  have q1:((sIx items.size 0 lo:Nat):Int) = 0:=eq_of_beq q.1.1
  have q2:sIx items.size items.size hi - sIx items.size 0 lo = items.size:=eq_of_beq q.2
  exact hw ⟨by lia,by lia⟩
 show wpAny _ _ (if (((sIx items.size 0 lo:Nat):Int) == 0 && (1:Int) == 1 && (sIx items.size items.size hi - sIx items.size 0 lo) == items.size) = true then _ else _) _ _ s
 rw [if_neg hno,pick_gen]
 first
  | exact wpAny_bind (m:=Builtin.Tuple.tupleExact _) (wpAny_newObj_type (wpAny_pure ⟨_,rfl,wpAny_pure h⟩) htake)
  | exact wpAny_bind (m:=Builtin.Tuple.tupleExact _) (wpAny_newObj_type (wpAny_bind (wpAny_pure (wpAny_pure ⟨_,rfl,wpAny_pure h⟩))) htake)
  | exact wpAny_bind (wpAny_bind (m:=Builtin.Tuple.tupleExact _) (wpAny_newObj_type (wpAny_pure (wpAny_pure ⟨_,rfl,wpAny_pure h⟩)) htake))
  | exact wpAny_bind (wpAny_bind (m:=Builtin.Tuple.tupleExact _) (wpAny_newObj_type (wpAny_pure ⟨_,rfl,wpAny_pure h⟩) htake))
end
end HT
namespace L2
open PySem PySem.Spec PyProof.Rows
abbrev TO:=St→Hp→(Option Int→Hp→Prop)→Prop
def PO (X:Cx) (e:Option Expr) (t:TO):Prop :=
 ∀ (pins:List (Addr × Obj)) (s:Shared) (σ:St) (H:Hp) (Q:Option Int→Hp→Prop),Inv X pins σ H s→t σ H Q →
  wpAny (model X.prog X.w) X.A (evalPart e X.env) (fun u s'=>∃ o H',Inv X pins σ H' s'∧IsPart u o∧Q o H') X.xe s
def tNoPart:TO:=fun _ H Q=>Q none H
def tPart (t:TE):TO:=fun σ H Q=>t σ H fun x H1=>∃ i,x = .int i∧Q (some i) H1
section
variable {X:Cx} {e:Expr} {te:TE} {lo hi:Option Expr} {tl th:TO} {pos p2:Pos}
theorem po_none:PO X none tNoPart:=by
 intro pins s σ H Q I h
 rw [evalPart_none]
 exact wpAny_pure ⟨none,H,I,.none,h⟩
theorem po_some (h:PE X e te):PO X (some e) (tPart te):=by
 intro pins s σ H Q I hw
 rw [evalPart_some]
 refine thn (h pins s σ H _ I hw) fun u s1 ⟨x,H1,I1,r1,q1⟩=>?_
 obtain ⟨i,rfl,q⟩:=q1
 obtain ⟨t,rfl⟩:=r1
 exact ⟨some i,H1,I1,.int i t,q⟩
def SlR (X:Cx) (r:V→Option Int→Option Int→Hp→VK→Prop):Prop :=
 ∀ (pins:List (Addr × Obj)) (s:Shared) (σ:St) (H:Hp) (x:V) (v vl vu:Value) (lo hi:Option Int) (sl:Addr) (Q:VK),Inv X pins σ H s→RelV x v→s.heap.IsSliceOf sl vl vu .none→IsPart vl lo→IsPart vu hi→r x lo hi H Q →
  ∃ T id,typeLookup (.type T) "__getitem__" = pure (some (.builtin id))∧s.TypeIs v T∧wpAny (model X.prog X.w) X.A (getItem v (.ref sl)) (EP X pins σ Q) X.xe s
def tSl (r:V→Option Int→Option Int→Hp→VK→Prop) (te:TE) (tl th:TO):TE:=fun σ H Q=>te σ H fun x H1=>tl σ H1 fun l H2=>th σ H2 fun u H3=>r x l u H3 Q
theorem pe_slice {r:V→Option Int→Option Int→Hp→VK→Prop} (hr:SlR X r) (he:PE X e te) (hl:PO X lo tl) (hu:PO X hi th):PE X (.Subscript e (.Slice lo hi none p2) pos) (tSl r te tl th):=by
 intro pins s σ H Q I h
 refine Subscript_ (thn (he pins s σ H _ I h) fun v s1 ⟨x,H1,I1,r1,q1⟩=>?_)
 refine wpAny_Slice (thn (hl pins s1 σ H1 _ I1 q1) fun vl s2 ⟨l,H2,I2,pl,q2⟩=>thn (hu pins s2 σ H2 _ I2 q2) fun vu s3 ⟨u,H3,I3,pu,q3⟩=>?_)
 rw [evalPart_none]
 refine wpAny_pure ?_
 have I4:Inv X pins σ H3 { s3 with heap:=s3.heap.push { cls:=.type "slice",data:=.fields #[vl,vu,.none] } }:=I3.kept (t':=s3.toks) fun b ob q=>Heap.get?_push_of_some _ q
 obtain ⟨T,id,hT,ht,hg⟩:=hr pins { s3 with heap:=s3.heap.push { cls:=.type "slice",data:=.fields #[vl,vu,.none] } } σ H3 x v vl vu l u s3.heap.objs.size Q I4 r1 (Heap.IsSliceOf.new ..) pl pu q3
 show wpAny (model X.prog X.w) X.A (subscriptTail e (.Slice lo hi none p2) v (.ref s3.heap.objs.size)) (EP X pins σ Q) X.xe { s3 with heap:=s3.heap.push { cls:=.type "slice",data:=.fields #[vl,vu,.none] } }
 exact tail_any (ops:=[.ref s3.heap.objs.size,v]) ht hT hg (by with_unfolding_all rfl)
def cutV (xs:List V) (lo hi:Option Int):List V:=(xs.drop (HT.sIx xs.length 0 lo)).take (HT.sIx xs.length xs.length hi - HT.sIx xs.length 0 lo)
theorem cutV_length (xs:List V) (lo hi:Option Int):(cutV xs lo hi).length≤xs.length:=by
 unfold cutV
 rw [List.length_take,List.length_drop]
 lia
def rSlT (K:PySem.W.Frag):V→Option Int→Option Int→Hp→VK→Prop:=fun x lo hi H Q=>∃ a xs,x = .ref a∧SqT K H a xs ∧
 ¬ (HT.sIx xs.length 0 lo = 0∧HT.sIx xs.length xs.length hi = xs.length)∧∀ p,H p = none→Q (.ref p) (upd H p (.tup (cutV xs lo hi)))
theorem sl_tup:SlR X (rSlT X.K):=by
 intro pins s σ H x v vl vu lo hi sl Q I rx hs pl pu h
 obtain ⟨a,xs,rfl,hx,hw,q⟩:=h
 cases rx
 obtain ⟨its,r,ht,hz⟩:=I.tuple hx
 have hlen:its.toArray.size = xs.length:=by rw [List.size_toArray]; exact r.length.symm
 refine ⟨"tuple",_,PyProof.Rows.slot_tuple_getitem.lookup,ht.typeIs,?_⟩
 refine HT.getItem_tuple_cut ht hs pl pu (by rw [hlen]; exact hw) ?_ (by rw [hlen]; exact hz)
 rw [hlen]
 refine ⟨.ref s.heap.objs.size,_,I.laid (t':=s.toks) (o:=.tup (cutV xs lo hi)) (fun b ob q=>Heap.get?_push_of_some _ q) (Nat.le_refl _) ?_,rfl,q _ (I.hok.fresh (Nat.le_refl _))⟩
 exact ⟨Nat.le_trans (cutV_length xs lo hi) hz,_,(r.drop (HT.sIx xs.length 0 lo)).take (HT.sIx xs.length xs.length hi - HT.sIx xs.length 0 lo),IsTup.new _ _⟩
end
end L2
namespace L2
open PySem PySem.Spec PyProof.Rows
def ixN (n:Nat) (i:Int):Option Nat:=if 0≤i then (if i < n then some i.toNat else none) else if -(n:Int)≤i then some (i + n).toNat else none
def atI {α:Type} (xs:List α) (i:Int):Option α:=(ixN xs.length i).bind fun j=>xs[j]?
theorem ixN_seq {n:Nat} {i:Int} {j:Nat} (h:ixN n i = some j):seqIndex? i n = some j∧j < n∧-(n:Int)≤i∧i < n:=by
 unfold ixN at h
 by_cases h0:0≤i
 ·rw [if_pos h0] at h
  by_cases h1:i < n
  ·rw [if_pos h1] at h
   have e:i.toNat = j:=Option.some.inj h
   exact ⟨by rw [seqIndex_of h0 h1,e],by lia,by lia,h1⟩
  ·rw [if_neg h1] at h; cases h
 ·rw [if_neg h0] at h
  by_cases h1:-(n:Int)≤i
  ·rw [if_pos h1] at h
   have e:(i + n).toNat = j:=Option.some.inj h
   exact ⟨by rw [seqIndex_neg (by lia) h1,e],by lia,h1,by lia⟩
  ·rw [if_neg h1] at h; cases h
theorem atI_get {α:Type} {xs:List α} {i:Int} {v:α} (h:atI xs i = some v):∃ j,seqIndex? i xs.length = some j∧xs[j]? = some v∧j < xs.length∧-(xs.length:Int)≤i∧i < xs.length:=by
 unfold atI at h
 cases e:ixN xs.length i with
 | none=>rw [e] at h; cases h
 | some j =>
  rw [e] at h
  obtain ⟨h1,h2,h3,h4⟩:=ixN_seq e
  exact ⟨j,h1,h,h2,h3,h4⟩
theorem atI_nat {α:Type} {xs:List α} {j:Nat} {v:α} (h:xs[j]? = some v):atI xs (j:Int) = some v:=by
 have hj:j < xs.length:=(List.getElem?_eq_some_iff.mp h).1
 have e:ixN xs.length (j:Int) = some j:=by
  unfold ixN
  rw [if_pos (by lia),if_pos (by lia)]; simp
 unfold atI; rw [e]; exact h
def PlainIx (b:Expr):Prop:=∀ o i,subscripted b false o i = operate [o,i] (getItem o i)
def IxR (X:Cx) (r:R2):Prop :=
 ∀ (value slice:Expr) (pins:List (Addr × Obj)) (s:Shared) (σ:St) (H:Hp) (x y:V) (v u:Value) (Q:VK),Inv X pins σ H s→RelV x v→RelV y u→r x y H Q →
  subscripted slice false v u = operate [v,u] (getItem v u)→wpAny (model X.prog X.w) X.A (subscriptTail value slice v u) (EP X pins σ Q) X.xe s
def MtR (X:Cx) (id:String) (r:V→List V→Hp→VK→Prop):Prop :=
 ∀ (pins:List (Addr × Obj)) (s:Shared) (σ:St) (H:Hp) (x:V) (xs:List V) (v:Value) (us:List Value) (Q:VK),Inv X pins σ H s→RelV x v→Vals xs us→r x xs H Q →
  wpAny (model X.prog X.w) X.A (call (.builtin id) (v :: us)) (EP X pins σ Q) X.xe s
section
variable {X:Cx} {a b:Expr} {ta tb:TE} {pos:Pos}
theorem pe_ix {r:R2} (hr:IxR X r) (ha:PE X a ta) (hb:PE X b tb) (hs:PlainIx b):PE X (.Subscript a b pos) (tOp r ta tb):=by
 intro pins s σ H Q I h
 exact Subscript_ (binT ha hb I h fun v u s2 x y H2 I2 rx ry q=>hr a b pins s2 σ H2 x y v u Q I2 rx ry q (hs _ _))
def rIxL (K:PySem.W.Frag):R2:=fun x y H Q=>∃ p xs i v,x = .ref p∧y = .int i∧SqL K H p xs∧atI xs i = some v∧Q v H
def rIxT (K:PySem.W.Frag):R2:=fun x y H Q=>∃ p xs i v,x = .ref p∧y = .int i∧SqT K H p xs∧atI xs i = some v∧Q v H
theorem ix_list:IxR X (rIxL X.K):=by
 intro value slice pins s σ H x y v u Q I rx ry h hs
 obtain ⟨p,xs,i,z,rfl,rfl,hq,he,q⟩:=h
 cases rx
 obtain ⟨t,rfl⟩:=ry
 obtain ⟨its,r,pl,hz⟩:=I.list hq
 obtain ⟨j,h1,h2,h3,h4,h5⟩:=atI_get he
 obtain ⟨w,ew,rw'⟩:=r.get h2
 have hl:=r.length
 have hn:=line63
 have fin:EP X pins σ Q w s:=⟨z,H,I,rw',q⟩
 by_cases h0:0≤i
 ·have hj:i.toNat = j:=by
   rw [seqIndex_of h0 h5] at h1
   exact Option.some.inj h1
  exact item_listR pl.isList h0 (by lia) (by rw [hj]; simpa using ew) fin hs
 ·have hj:(i + (its.toArray.size:Int)).toNat = j:=by
   rw [seqIndex_neg (by lia) h4] at h1
   rw [List.size_toArray,← hl]
   exact Option.some.inj h1
  exact subscriptTail_builtinR (x:=w) pl.isList.typeIs slot_list_getitem.lookup
   (wpAny_getItem_list_neg (Q:=fun r s'=>r = w∧EP X pins σ Q r s') pl.isList (by lia) (by rw [List.size_toArray] <;> lia) (by lia) (by rw [hj]; simpa using ew) ⟨rfl,fin⟩) hs
theorem ix_tup:IxR X (rIxT X.K):=by
 intro value slice pins s σ H x y v u Q I rx ry h hs
 obtain ⟨p,xs,i,z,rfl,rfl,hq,he,q⟩:=h
 cases rx
 obtain ⟨t,rfl⟩:=ry
 obtain ⟨its,r,pl,hz⟩:=I.tuple hq
 obtain ⟨j,h1,h2,h3,h4,h5⟩:=atI_get he
 obtain ⟨w,ew,rw'⟩:=r.get h2
 have hl:=r.length
 have hn:=line63
 have fin:EP X pins σ Q w s:=⟨z,H,I,rw',q⟩
 exact subscriptTail_builtinR (x:=w) pl.typeIs slot_tuple_getitem.lookup
  (getItem_tuple (j:=j) (Q:=fun r s'=>r = w∧EP X pins σ Q r s') pl (by lia) (by lia) (by rw [List.size_toArray,← hl]; exact h1) (by simpa using ew) ⟨rfl,fin⟩) hs
theorem mapSeq_set (its:List Value) (n j:Nat) (u:Value):Obj.mapSeq (·.setIfInBounds j u) { cls:=.type "list",data:=.seq its.toArray n } = { cls:=.type "list",data:=.seq (its.set j u).toArray n }:=by
 simp [Obj.mapSeq]
theorem Inv.lst {pins:List (Addr × Obj)} {σ:St} {H:Hp} {s:Shared} {p:Addr} {xs:List V} (I:Inv X pins σ H s) (h:H p = some (.lst xs)) :
  ∃ (its:List Value) (n:Nat),Vals xs its∧s.heap.get? p = some { cls:=.type "list",data:=.seq its.toArray n }∧xs.length≤sizeLine:=by
 obtain ⟨z,its,n,r,e⟩:=I.hok p _ h
 exact ⟨its,n,r,e,z⟩
theorem Inv.lstUpd {pins:List (Addr × Obj)} {σ:St} {H:Hp} {s:Shared} {p:Addr} {xs ys:List V} {its its':List Value} {n n':Nat} {f:Obj→Obj} (I:Inv X pins σ H s) (h:H p = some (.lst xs))
  (ho:s.heap.get? p = some { cls:=.type "list",data:=.seq its.toArray n }) (hf:f { cls:=.type "list",data:=.seq its.toArray n } = { cls:=.type "list",data:=.seq its'.toArray n' }) (r:Vals ys its') (hz:ys.length≤sizeLine) (t:Nat) :
  Inv X pins σ (upd H p (.lst ys)) { s with heap:=s.heap.update p f,toks:=t }:=by
 have e:(s.heap.update p f).get? p = some { cls:=.type "list",data:=.seq its'.toArray n' }:=by
  rw [Heap.get?_update_self f ho (by rw [hf] <;> rfl),hf]
 refine I.write (x:=p) (e:=p) (by rw [h]; trivial) (.inl rfl) (fun b u hb q=>(Heap.get?_update_other _ _ (Ne.symm hb)).trans q) ⟨_,e⟩ ?_
 exact ⟨hz,its',n',r,e⟩
def rSetL:V→V→V→Hp→(Hp→Prop)→Prop:=fun o i v H Q=>∃ p xs k j,o = .ref p∧i = .int k∧H p = some (.lst xs)∧ixN xs.length k = some j∧Q (upd H p (.lst (xs.set j v)))
theorem set_list:PSet X rSetL:=by
 intro pins s σ H o i v ov iv u Q I ro ri rv h
 obtain ⟨p,xs,k,j,rfl,rfl,hp,hj,q⟩:=h
 cases ro
 obtain ⟨t,rfl⟩:=ri
 obtain ⟨its,n,r,ho,hz⟩:=I.lst hp
 obtain ⟨h1,h2,h3,h4⟩:=ixN_seq hj
 have hl:=r.length
 have hn:=line63
 have I':Inv X pins σ (upd H p (.lst (xs.set j v))) { s with heap:=s.heap.update p (Obj.mapSeq (·.setIfInBounds j u)) } :=
  I.lstUpd hp ho (mapSeq_set its n j u) (r.set rv j) (by rw [List.length_set]; exact hz) s.toks
 by_cases h0:0≤k
 ·have hk:k.toNat = j:=by
   rw [seqIndex_of h0 h4] at h1
   exact Option.some.inj h1
  exact PySem.W.ki_setAt ho h0 (by lia) (by rw [List.size_toArray,← hl]; exact h4) (by rw [hk]; exact ⟨_,I',q⟩)
 ·have hk:(k + (its.toArray.size:Int)).toNat = j:=by
   rw [seqIndex_neg (by lia) h3] at h1
   rw [List.size_toArray,← hl]
   exact Option.some.inj h1
  exact PySem.W.ki_setBack ho (by lia) (by rw [List.size_toArray,← hl]; exact h3) (by lia) (by rw [hk]; exact ⟨_,I',q⟩)
theorem slice_bounds (lo hi:Option Int) (n:Nat):(sliceBounds lo hi none n).1 = ((HT.sIx n 0 lo:Nat):Int)∧(sliceBounds lo hi none n).2.1 = ((HT.sIx n n hi:Nat):Int)∧(sliceBounds lo hi none n).2.2 = 1:=by
 refine ⟨?_,?_,rfl⟩
 ·cases lo with
  | none=>simp [sliceBounds,HT.sIx]
  | some i =>
   simp only [sliceBounds,HT.sIx,Option.getD_none,show (1:Int) > 0 by decide,if_true]
   by_cases h:i < 0
   ·simp only [h,if_true] <;> lia
   ·simp only [h,if_false] <;> lia
 ·cases hi with
  | none=>simp [sliceBounds,HT.sIx]
  | some i =>
   simp only [sliceBounds,HT.sIx,Option.getD_none,show (1:Int) > 0 by decide,if_true]
   by_cases h:i < 0
   ·simp only [h,if_true] <;> lia
   ·simp only [h,if_false] <;> lia
theorem slicePick_cut (its:List Value) (lo hi:Option Int):slicePick its.toArray lo hi none = ((its.drop (HT.sIx its.length 0 lo)).take (HT.sIx its.length its.length hi - HT.sIx its.length 0 lo)).toArray:=by
 obtain ⟨h1,h2,h3⟩:=slice_bounds lo hi its.toArray.size
 unfold slicePick
 rw [h1,h2,h3]
 simp only [sliceRange_one,pick_run,List.size_toArray] <;> rfl
def rSlL (K:PySem.W.Frag):V→Option Int→Option Int→Hp→VK→Prop:=fun x lo hi H Q=>∃ a xs,x = .ref a∧SqL K H a xs∧∀ p,H p = none→Q (.ref p) (upd H p (.lst (cutV xs lo hi)))
theorem sl_list:SlR X (rSlL X.K):=by
 intro pins s σ H x v vl vu lo hi sl Q I rx hs pl pu h
 obtain ⟨a,xs,rfl,hx,q⟩:=h
 cases rx
 obtain ⟨its,r,ht,hz⟩:=I.list hx
 have hlen:=r.length
 refine ⟨"list",_,slot_list_getitem.lookup,ht.isList.typeIs,?_⟩
 refine wpAny_getItem_list_slice ht.isList hs pl pu .none (by simp) ?_ (by rw [List.size_toArray] <;> lia)
 rw [slicePick_cut,← hlen]
 refine ⟨.ref s.heap.objs.size,_,I.laid (t':=s.toks) (o:=.lst (cutV xs lo hi)) (fun b ob q=>Heap.get?_push_of_some _ q) (Nat.le_refl _) ?_,rfl,q _ (I.hok.fresh (Nat.le_refl _))⟩
 exact ⟨Nat.le_trans (cutV_length xs lo hi) hz,_,0,(r.drop (HT.sIx xs.length 0 lo)).take (HT.sIx xs.length xs.length hi - HT.sIx xs.length 0 lo),Heap.get?_push_size _ rfl⟩
def flatV:V→Bool
 | .non=>true
 | .bl _=>true
 | .int _=>true
 | .str _=>true
 | _=>false
def eqV:V→V→Bool
 | .non,.non=>true
 | .bl a,.bl b=>a == b
 | .bl a,.int b=>(if a then 1 else 0) == b
 | .int a,.bl b=>a == (if b then 1 else 0)
 | .int a,.int b=>a == b
 | .str a,.str b=>a == b
 | _,_=>false
theorem eqAt_V {A:Around} {s:Shared} {y x:V} {u v:Value} (ry:RelV y u) (rx:RelV x v) (fy:flatV y = true) (fx:flatV x = true):SeqAt.EqAt A s u v (eqV y x):=by
 cases y with
 | non =>
  cases ry
  cases x with
  | non=>cases rx; exact SeqAt.EqAt.same _
  | bl b=>cases rx; exact SeqAt.EqAt.none_bool b
  | int b=>obtain ⟨t,rfl⟩:=rx; exact SeqAt.EqAt.none_int b t
  | str b=>obtain ⟨t,rfl⟩:=rx; exact SeqAt.EqAt.none_str b t
  | _=>exact absurd (show false = true from fx) Bool.false_ne_true
 | bl a =>
  cases ry
  cases x with
  | non=>cases rx; exact SeqAt.EqAt.bool_none a
  | bl b=>cases rx; exact SeqAt.EqAt.bool_bool a b
  | int b=>obtain ⟨t,rfl⟩:=rx; exact SeqAt.EqAt.bool_int a b t
  | str b=>obtain ⟨t,rfl⟩:=rx; exact SeqAt.EqAt.bool_str a b t
  | _=>exact absurd (show false = true from fx) Bool.false_ne_true
 | int a =>
  obtain ⟨t',rfl⟩:=ry
  cases x with
  | non=>cases rx; exact SeqAt.EqAt.int_none a t'
  | bl b=>cases rx; exact SeqAt.EqAt.int_bool a t' b
  | int b=>obtain ⟨t,rfl⟩:=rx; exact SeqAt.EqAt.int_int a t' b t
  | str b=>obtain ⟨t,rfl⟩:=rx; exact SeqAt.EqAt.int_str a t' b t
  | _=>exact absurd (show false = true from fx) Bool.false_ne_true
 | str a =>
  obtain ⟨t',rfl⟩:=ry
  cases x with
  | non=>cases rx; exact SeqAt.EqAt.str_none a t'
  | bl b=>cases rx; exact SeqAt.EqAt.str_bool a t' b
  | int b=>obtain ⟨t,rfl⟩:=rx; exact SeqAt.EqAt.str_int a t' b t
  | str b=>obtain ⟨t,rfl⟩:=rx; exact SeqAt.EqAt.str_str a t' b t
  | _=>exact absurd (show false = true from fx) Bool.false_ne_true
 | _=>exact absurd (show false = true from fy) Bool.false_ne_true
theorem call_len_seq:CallR X (.builtin "len") (fun xs H Q=>∃ p ys,xs = [.ref p]∧(SqL X.K H p ys∨SqT X.K H p ys)∧Q (.int ys.length) H):=by
 intro pins s σ H xs us Q I r h
 obtain ⟨p,ys,rfl,hq,q⟩:=h
 obtain ⟨u,rfl,rx⟩:=vals1 r
 cases rx
 have hn:=line63
 rcases hq with hq | hq
 ·obtain ⟨its,r',pl,hz⟩:=I.list hq
  have hlen:=r'.length
  exact Calls.call_len_list pl.isList (by simp only [List.size_toArray] <;> lia) ⟨.int ys.length,H,I.tok _,⟨s.toks + 1,by rw [List.size_toArray,hlen]⟩,q⟩
 ·obtain ⟨its,r',pl,hz⟩:=I.tuple hq
  have hlen:=r'.length
  exact len_tuple pl (by simp only [List.size_toArray] <;> lia) ⟨.int ys.length,H,I.tok _,⟨s.toks + 1,by rw [List.size_toArray,hlen]⟩,q⟩
theorem call_tuple_of:CallR X (.type "tuple") (fun xs H Q=>∃ p ys,xs = [.ref p]∧((SqL X.K H p ys∧∀ l,H l = none→Q (.ref l) (upd H l (.tup ys)))∨(SqT X.K H p ys∧Q (.ref p) H))):=by
 intro pins s σ H xs us Q I r h
 obtain ⟨p,ys,rfl,h⟩:=h
 obtain ⟨u,rfl,rx⟩:=vals1 r
 cases rx
 rcases h with ⟨hq,q⟩ | ⟨hq,q⟩
 ·obtain ⟨its,r',pl,hz⟩:=I.list hq
  have hlen:=r'.length
  refine call_tuple_list pl.isList (fun h' kp=>?_) (by simp only [List.size_toArray] <;> lia)
  have I1:Inv X pins σ H { s with heap:=h' }:=I.kept (t':=s.toks) kp
  have I2:Inv X pins σ (upd H h'.objs.size (.tup ys)) { s with heap:=h'.push { cls:=.type "tuple",data:=.seq its.toArray } } :=
   I1.laid (t':=s.toks) (fun b o e=>Heap.get?_push_of_some _ e) (Nat.le_refl _) (show ObjOk X.prog X.w _ _ _ (.tup ys) from ⟨hz,its,r',IsTup.new _ _⟩)
  exact ⟨.ref h'.objs.size,_,I2,rfl,q _ (I1.hok.fresh (Nat.le_refl _))⟩
 ·obtain ⟨its,r',pl,hz⟩:=I.tuple hq
  exact call_tuple_same pl ⟨.ref p,H,I,rfl,q⟩
def tyV (K:PySem.W.Frag) (T:String) (x:V) (H:Hp):Prop:=match x with
 | .str _=>T = "str"
 | .int _=>T = "int"
 | .ref p=>(T = "list"∧∃ xs,SqL K H p xs)∨(T = "tuple"∧∃ o,K.lookup p = some o∧o.cls = .type "tuple"∧o.dict = none) ∨
   (T = "dict"∧((∃ kvs,H p = some (.dK kvs))∨∃ kvs,H p = some (.dT kvs)))∨(T = "set"∧∃ S n,H p = some (.set S n))
 | _=>False
theorem tyV_is {pins:List (Addr × Obj)} {σ:St} {H:Hp} {s:Shared} {T:String} {x:V} {v:Value} (I:Inv X pins σ H s) (r:RelV x v) (ty:tyV X.K T x H) :
  s.TypeIs v T∧∀ a,v = .ref a→∃ ob,s.heap.get? a = some ob∧ob.dict = none:=by
 cases x with
 | str z =>
  obtain ⟨t,rfl⟩:=r
  cases (show T = "str" from ty)
  exact ⟨typeIs_str s z t,fun _ e=>nomatch e⟩
 | int i =>
  obtain ⟨t,rfl⟩:=r
  cases (show T = "int" from ty)
  exact ⟨typeIs_int s i t,fun _ e=>nomatch e⟩
 | ref p =>
  cases r
  rcases ty with ⟨rfl,xs,hq⟩ | ⟨rfl,o,hk,hc,hd⟩ | ⟨rfl,hk⟩ | ⟨rfl,S,n,hk⟩
  ·obtain ⟨its,_,pl,_⟩:=I.list hq
   refine ⟨pl.isList.typeIs,fun a e=>?_⟩
   cases e
   obtain ⟨o,n,e,c,hd,_⟩:=pl
   exact ⟨o,e,hd⟩
  ·refine ⟨⟨o,I.kIn p o hk,hc⟩,fun a e=>?_⟩
   cases e
   exact ⟨o,I.kIn _ o hk,hd⟩
  ·have z:∃ o,s.heap.get? p = some o∧o.ExactDict:=by
    rcases hk with ⟨kvs,hk⟩ | ⟨kvs,hk⟩
    ·obtain ⟨_,_,_,_,o,_,_,e,ex,_⟩:=I.hok p _ hk
     exact ⟨o,e,ex⟩
    ·obtain ⟨_,_,_,_,o,_,_,e,ex,_⟩:=I.hok p _ hk
     exact ⟨o,e,ex⟩
   obtain ⟨o,e,ex⟩:=z
   refine ⟨⟨o,e,ex.1⟩,fun a e2=>?_⟩
   cases e2
   exact ⟨o,e,ex.2.1⟩
  ·obtain ⟨o,_,_,_,e,ex,_⟩:=I.hok p _ hk
   refine ⟨⟨o,e,ex.1⟩,fun a e2=>?_⟩
   cases e2
   exact ⟨o,e,ex.2.1⟩
 | _=>exact False.elim ty
def tBM (K:PySem.W.Frag) (T:String) (r:V→List V→Hp→VK→Prop) (to:TE) (t:TA):TE:=fun σ H Q=>to σ H fun x H1=>tyV K T x H1∧t σ H1 fun xs H2=>r x xs H2 Q
variable {o e:Expr} {es:List Expr} {to:TE} {t:TA} {name:Str} {apos cpos:Pos} {T id:String} {r:V→List V→Hp→VK→Prop}
theorem pe_bm (pa:PlainAttrs T) (slot:Slot T name id) (hty:typeOf (.builtin id) = pure (.type "method_descriptor")) (hm:MtR X id r) (ho:PE X o to) (ha:PA X (e :: es) t)
  (hbase:attributeBase o name X.env (eval o X.env) = eval o X.env:=by rfl)
  (hfew:((backTo cpos (starEach (e :: es) X.env)).all (fun x=>!x.1) && (backToKw cpos (keywordEach [] X.env)).all (fun x=>x.1.isSome)
   && decide ((e :: es).length + ([]:List Keyword).length + (if ([]:List Keyword).isEmpty then 0 else 1) < 30)) = true:=by rfl)
  (hline:(apos.endLine == cpos.line) = true:=by rfl) (hs:starEach (e :: es) X.env = (false,eval e X.env) :: starEach es X.env:=by rfl) (hplain:(backTo cpos (starEach es X.env)).any (·.1) = false:=by rfl) :
  PE X (.Call (.Attribute o name apos) (e :: es) [] cpos) (tBM X.K T r to t):=by
 intro pins s σ H Q I h
 refine wpAny_Call_method_late hbase hfew hline rfl (thn (ho pins s σ H _ I h) fun v s1 ⟨x,H1,I1,r1,ty,q1⟩=>?_)
 obtain ⟨h1,h2⟩:=tyV_is I1 r1 ty
 refine ⟨T,id,pa,slot,hty,h1,h2,?_⟩
 have hA:=ha cpos pins s1 σ H1 _ I1 q1
 rw [hs] at hA ⊢
 refine Calls.callWith_builtin (by show (false || (backTo cpos (starEach es X.env)).any (·.1)) = false; rw [hplain] <;> rfl) (Calls.evalArgs_plain ?_)
 exact thn hA fun us s2 ⟨vs,H2,I2,r2,q2⟩=>hm pins s2 σ H2 x vs v us Q I2 r1 r2 q2
/- xs.append(e),list.index on a module's tuple .. are MtR facts of 06m -/
end
end L2
namespace L2
open PySem PySem.Spec PyProof.Rows
def MtM (X:Cx) (id:String) (r:V→List V→Hp→VK→Prop):Prop :=
 ∀ (pins:List (Addr × Obj)) (s:Shared) (σ:St) (H:Hp) (x:V) (xs:List V) (v:Value) (us:List Value) (Q:VK),Inv X pins σ H s→RelV x v→Vals xs us→r x xs H Q →
  wpAny (model X.prog X.w) X.A (call (.builtin id) (v :: us)) (EP X pins σ Q) X.xe s
theorem Vals.one:∀ {x:V} {us:List Value},Vals [x] us→∃ u,us = [u]∧RelV x u
 | _,_,.cons r .nil=>⟨_,rfl,r⟩
section
variable {X:Cx} {pins:List (Addr × Obj)} {σ:St} {H:Hp} {s:Shared} {l b:Addr} {xs ys zs:List V}
theorem Inv.lset {its its':List Value} {n:Nat} {f:Array Value→Array Value} {t':Nat} (I:Inv X pins σ H s) (hH:H l = some (.lst xs))
  (e:s.heap.get? l = some { cls:=.type "list",data:=.seq its.toArray n }) (hf:f its.toArray = its'.toArray) (hv:Vals ys its') (hz:ys.length≤sizeLine) :
  Inv X pins σ (upd H l (.lst ys)) { s with heap:=s.heap.update l (Obj.mapSeq f),toks:=t' }:=by
 have q:=PySem.IsL.update e f
 rw [hf] at q
 refine I.write (x:=l) (e:=l) (by rw [hH]; exact trivial) (.inl rfl) (fun b' u hb hu=>(Heap.get?_update_other s.heap (Obj.mapSeq f) (Ne.symm hb)).trans hu) ⟨_,q⟩ ?_
 exact ⟨hz,its',_,hv,q⟩
theorem Inv.lnew {its:List Value} {t':Nat} (I:Inv X pins σ H s) (hv:Vals ys its) (hz:ys.length≤sizeLine) :
  Inv X pins σ (upd H s.heap.objs.size (.lst ys)) { s with heap:=s.heap.push { cls:=.type "list",data:=.seq its.toArray },toks:=t' } :=
 I.laid (fun _ _ q=>Heap.get?_push_of_some _ q) (Nat.le_refl _) ⟨hz,its,0,hv,Heap.get?_push_size _ rfl⟩
theorem Inv.fresh (I:Inv X pins σ H s):H s.heap.objs.size = none:=I.hok.fresh (Nat.le_refl _)
theorem Inv.lstM (I:Inv X pins σ H s) (hH:H l = some (.lst xs)):xs.length≤sizeLine∧∃ (its:List Value) (n:Nat),Vals xs its∧xs.length = its.length∧s.heap.get? l = some { cls:=.type "list",data:=.seq its.toArray n }:=by
 obtain ⟨z,its,n,r,e⟩:=I.hok l _ hH
 exact ⟨z,its,n,r,r.length,e⟩
end
section
variable {X:Cx}
def rAppend:V→List V→Hp→VK→Prop:=fun x vs H Q=>∃ l xs y,x = .ref l∧vs = [y]∧H l = some (.lst xs)∧xs.length < sizeLine∧Q .non (upd H l (.lst (xs ++ [y])))
theorem mt_append:MtM X "list.append" rAppend:=by
 intro pins s σ H x vs v us Q I rx rv h
 obtain ⟨l,xs,y,rfl,rfl,hH,hz,q⟩:=h
 cases rx
 obtain ⟨u,rfl,ru⟩:=rv.one
 obtain ⟨z,its,n,r,hl,e⟩:=I.lstM hH
 refine call_meets F.slot_list_append ⟨_,e,rfl⟩ F.entry_list_append (F.args_list_append_2 _ _) (PySem.list_append l its.toArray n u (by rw [List.size_toArray]; lia)) ⟨e,?_⟩
 refine ⟨.non,_,I.lset (its':=its ++ [u]) hH e (by simp) (r.append (.cons ru .nil)) ?_,rfl,q⟩
 rw [List.length_append,List.length_singleton]
 lia
end
section
variable {prog:Program} {w:World} {A:Around} {E:Value→Shared→Prop} {s:Shared}
set_option maxRecDepth 100000 in
end
section
variable {X:Cx}
end
end L2
namespace Att
open PySem PySem.W PySem.Calls PyProof.Rows
theorem ints_of_wellAll {P:Params} {h:Heap}:∀ (ns:List Int) (vs:List Value),WellAll P h vs (ns.map WData.int)→IntsAre vs ns:=by
 intro ns
 induction ns with
 | nil =>
  intro vs w
  rw [List.map_nil] at w
  cases w
  exact .nil
 | cons n ns ih =>
  intro vs w
  rw [List.map_cons] at w
  cases w with
  | cons a b =>
   cases a
   exact .cons _ _ (ih _ b)
theorem script_of {l:OpenLaw} {n:Nat} (hn:l.most = some n) {P:Params} {h:Heap} {args:List WData} {vals:List Value}
  (hpre:l.row.toRowW.claim.pre args = true) (hwl:WellAll P h vals args) :
  ∃ a vs ns,vals = [Value.ref a]∧args = [WData.list (ns.map WData.int)]∧h.get? a = some { cls:=.type "list",data:=.seq vs.toArray }∧IntsAre vs ns∧ns.length≤n:=by
 have hsh:WShape.hasAll [] args [.list .int] = true:=(pre_splitW hpre).1
 have hc:l.pre.holds [] { args:=args } = true:=(pre_splitW hpre).2
 obtain ⟨d,r,rfl,h1,h2⟩:=hasAllW_cons hsh
 obtain rfl:=hasAllW_nil h2
 obtain ⟨xs,rfl,h3⟩:=hasW_list h1
 obtain ⟨ns,rfl⟩:=items_int h3
 have hlen:ns.length≤n:=by
  unfold OpenLaw.pre at hc
  have h4:(WTm.not (.lt (.lit (.int (n:Int))) (.len (.arg 0)))).holds [] { args:=[.list (ns.map .int)] } = true:=by
   have h4:=(holds_andW hc).1
   rw [hn] at h4
   exact h4
  have h5:=condW_of h4 (w_not (w_lt w_lit (w_len_list (w_arg rfl))))
  rw [List.length_map] at h5
  refine Nat.le_of_not_lt fun q=>?_
  have q':(n:Int) < ((ns.length:Nat):Int):=by lia
  first
   | (rw [decide_eq_true q'] at h5; exact absurd h5 (by decide))
   | (simp at h5; lia)
 cases hwl with
 | cons w1 w2 =>
  cases w2
  cases w1 with
  | list ho hall=>exact ⟨_,_,ns,rfl,rfl,ho,ints_of_wellAll ns _ hall,hlen⟩
theorem post_true (l:OpenLaw) (args:List WData):l.row.toRowW.claim.post args (.bool true) args = true :=
 postW_of (r:=l.row.toRowW) (X:=(true == true))
  (show WShape.has [] (.bool true) .bool = true by first | rfl | decide | simp [WShape.has,WShape.arms,WShape.armsAll])
  (show (WTm.eq .res (.lit (.bool true))).value [] { args:=args,res:=some (.bool true),after:=args } = some (.bool (true == true)) from w_eq_bool (w_res rfl) w_lit) rfl
theorem attach_call {l:OpenLaw} {n:Nat} {q:Program} {loose:List Str} {XP:(Str→Option Value)→Heap→Prop} {YP:World→Heap→Prop} {d:DefRec}
  (hn:l.most = some n) (hdf:d.params.defaults = [])
  (call:∀ (w:World) (s₀ s₁:Shared) (mg mb:Str→Option Value) (fa:Addr) (o:Obj) (pm cd doc:Value) (a:Addr) (vs:List Value) (ns:List Int),
   Ground q loose [] XP w s₀ mg mb s₁.heap→YP w s₁.heap →
   s₁.heap.get? fa = some o→o.data = .func (docDef d.name d.params d.body d.scope pm cd doc)→s₁.heap.CodeRec cd d.name→mg d.name = some (.ref fa) →
   s₁.heap.get? a = some { cls:=.type "list",data:=.seq vs.toArray }→IntsAre vs ns→ns.length≤n→s₁.gens = #[] →
   codeAny (model l.prog w) callerA (.call (.ref fa) ⟨[.ref a],[]⟩) (fun r s'=>r = .ok (.ret (.bool true))∧OldK s₁.heap s'.heap∧s'.os = s₁.os∧AllBare s'.gens) s₁) :
  WalkO q loose XP YP l.row.toRowW d [] (fun f vs=>PySem.call f vs):=by
 intro w s₀ s₁ mg mb G Y fa o pm cd doc dV kV ho hd hcd hD hmg hg args vals as hpre hlay hrd hwl hlo
 obtain rfl:dV = .none:=Dflts.none hD hdf
 obtain rfl:kV = .none:=Dflts.noKw hD
 obtain ⟨a,vs,ns,rfl,rfl,hobj,hints,hlen⟩:=script_of hn hpre hwl
 refine enter_call (codeAny_mono (call w s₀ s₁ mg mb fa o pm cd doc a vs ns G Y ho (fd_plain hd) hcd hmg hobj hints hlen hg) fun r s' hq=>?_)
 obtain ⟨rfl,h2,h3,h4⟩:=hq
 exact ⟨.inl ⟨.bool true,.bool true,[],rfl,fun _=>rfl,.bool true,post_true l _,fun _=>⟨List.Pairwise.nil,fun _ hm=>(nomatch hm)⟩⟩,h2,h3,h4⟩
section
variable {prog:Program} {w:World} {A:Around} {E:Value→Shared→Prop} {s:Shared} {K:Frag}
end
end Att
namespace L2
open PySem PySem.Spec PyProof.Rows
theorem vals_ints:∀ {vs:List Value} {ns:List Int},IntsAre vs ns→Vals (ns.map V.int) vs
 | _,_,.nil=>.nil
 | _,_,.cons n t h=>.cons ⟨t,rfl⟩ (vals_ints h)
end L2
namespace L2
open PySem PySem.Spec PyProof.Rows
end L2
namespace L2
open PySem PySem.Spec PyProof.Rows
def inClass (s:Stmt) (j:Nat):Stmt:=match s with
 | .ClassDef _ _ _ body _ _ _ _ _ _ _=>body.getD j (.Pass ⟨0,0,0,0⟩)
 | _=>.Pass ⟨0,0,0,0⟩
def defArgs (s:Stmt):Arguments:=match s with
 | .FunctionDef _ a _ _ _ _ _ _ _ _=>a
 | _=>{ posonlyargs:=[],args:=[],vararg:=none,kwonlyargs:=[],kw_defaults:=[],kwarg:=none,defaults:=[] }
def defBody (s:Stmt):List Stmt:=match s with
 | .FunctionDef _ _ b _ _ _ _ _ _ _=>b
 | _=>[]
def defScope (s:Stmt):Scope:=match s with
 | .FunctionDef _ _ _ _ _ _ sc _ _ _=>sc
 | _=>{ kind:=.function,names:=[],isGenerator:=false,isCoroutine:=false }
abbrev CX0:CXT:=fun _ _ _ _ _ _=>False
abbrev E0:XK:=fun _ _ _=>False
theorem pass0 {X:Cx}:Passes CX0 X E0:=fun _ _ _ _ _ _ _ h=>h.elim
structure Fun (K:PySem.W.Frag) (x qual:Str) (st:Stmt) (f:Addr) (fd:FuncData):Prop where
 ex:∃ (oc:Value) (od:Option Addr) (kV doc pm:Value) (an:Option Addr) (cdv ct:Value) (osl:Array (Option Value)),
  fd = PySem.W.fnOf x qual (defArgs st) (defBody st) (defScope st) .none kV doc pm an cdv ct∧K.lookup f = some ⟨oc,od,.func fd,osl⟩∧PySem.W.codeIn K cdv qual = true
 kp:PySem.W.keepIn K (.ref f) = true
section
variable {P:Program} {w:World} {K:PySem.W.Frag} {mg:Str→Option Value} {base:Heap}
theorem Fun.ok {x qual:Str} {st:Stmt} {f:Addr} {fd:FuncData} {N ps:List Str} {k:Nat} {sp:Sp} (F:Fun K x qual st f fd) (S:FnScope N ps (defScope st)) (len:∀ vs H Q E,sp vs H Q E→vs.length = ps.length)
  (hbody:∀ (cdv:Value) (A:Around) (outer:List Env) (s:Shared) (H:Hp) (vs:List V) (Q:VK) (E:XK),Room k (A.deeper (envOfC qual (defScope st) s.heap.objs.size f cdv))→sp vs H Q E →
   ∃ t,PSs (cxOf CX0 P w K mg base N qual (defScope st) f cdv A outer s H E).nox (defBody st) t∧t { nx:=fun _ H'=>Q .non H',rt:=Q } (start N vs) H):FnOk P w K mg base CX0 (k + 1) f fd ps sp:=by
 obtain ⟨oc,od,kV,doc,pm,an,cdv,ct,osl,rfl,lk,hcd⟩:=F.ex
 refine fn_of lk hcd S len fun A outer s H vs Q E hr hsp=>?_
 obtain ⟨t,h,q⟩:=hbody cdv A outer s H vs Q E hr hsp
 exact ⟨t,h.nox,q⟩
theorem Fun.binds {x qual:Str} {st:Stmt} {f:Addr} {fd:FuncData} {ps:List Str} (F:Fun K x qual st f fd)
  (h:∀ (kV doc pm:Value) (an:Option Addr) (cdv ct:Value) (us:List Value),us.length = ps.length→bindArgs (PySem.W.fnOf x qual (defArgs st) (defBody st) (defScope st) .none kV doc pm an cdv ct) ⟨us,[]⟩ = pure (ps.zip us)):Binds K fd ps []:=by
 obtain ⟨oc,od,kV,doc,pm,an,cdv,ct,osl,rfl,lk,hcd⟩:=F.ex
 exact .all (h kV doc pm an cdv ct)
theorem fun_mk {x qual:Str} {st:Stmt} {f:Addr} {oc:Value} {od an:Option Addr} {osl:Array (Option Value)} {kV doc pm cdv ct:Value} (l:K.lookup f = some ⟨oc,od,.func (PySem.W.fnOf x qual (defArgs st) (defBody st) (defScope st) .none kV doc pm an cdv ct),osl⟩)
  (c:PySem.W.codeIn K cdv qual = true) (k:PySem.W.keepIn K (.ref f) = true):Fun K x qual st f (PySem.W.fnOf x qual (defArgs st) (defBody st) (defScope st) .none kV doc pm an cdv ct):=⟨⟨oc,od,kV,doc,pm,an,cdv,ct,osl,rfl,l,c⟩,k⟩
end
theorem hu_of {A:Around} {k:Nat} (hr:Room k A):A.units + 1 < cLine:=Nat.lt_of_le_of_lt (Nat.add_le_add_left (by decide:1≤64) _) hr.units
section
variable {X:Cx}
theorem pv (i:Nat) {x:Str} {pos:Pos} (hN:X.N[i]? = some x:=by rfl) (hv:Vis X.env.scope x:=by first | exact Or.inl rfl | exact Or.inr (Or.inl rfl) | exact Or.inr (Or.inr rfl)) (hd:(x == ("__debug__":Str)) = false:=by decide)
  (hcd:(x == ("__classdict__":Str)) = false:=by decide):PE X (.Name x pos) (tVar i):=pe_var hN hv hd hcd
end
theorem iteF {A B:Prop} (h:B):if false = true then A else B:=by
 rw [if_neg Bool.false_ne_true]
 exact h
theorem iteT {A B:Prop} (h:A):if true = true then A else B:=by
 rw [if_pos rfl]
 exact h
theorem iteNS {c A B:Prop} [Decidable c] (hc:c) (h:B):if (!decide c) = true then A else B:=by
 rw [decide_eq_true hc]
 exact iteF h
def Same (H H':Hp):Prop:=∀ b o,H b = some o→H' b = some o
theorem Same.refl (H:Hp):Same H H:=fun _ _ h=>h
theorem Same.trans {H H1 H2:Hp} (a:Same H H1) (b:Same H1 H2):Same H H2:=fun c o h=>b c o (a c o h)
end L2
set_option maxHeartbeats 4000000
namespace Ow
open PySem PySem.Spec PyProof.Rows L2
structure Has (P:Program) (w:World) (K:PySem.W.Frag) (mg:Str→Option Value) (base:Heap) (k:Nat) (x:Str) (ps:List Str) (sp:Sp):Prop where
 ex:∃ (f:Addr) (fd:FuncData),FnOk P w K mg base CX0 k f fd ps sp∧Binds K fd ps []∧PySem.W.keepIn K (.ref f) = true∧mg x = some (.ref f)
section
variable {X:Cx} {k:Nat} {x:Str} {ps:List Str} {sp:Sp} {p pos:Pos} {e:Expr} {es:List Expr} {t:TA}
theorem pe_fn (h:Has X.prog X.w X.K X.mg X.base k x ps sp) (hr:Room k X.A) (hg:Gl X x) (ha:PA X (e :: es) t) (hdb:(x == ("__debug__":Str)) = false:=by decide)
  (he:starEach (e :: es) X.env = (false,eval e X.env) :: starEach es X.env:=by rfl) (hpl:(backTo pos (starEach es X.env)).any (·.1) = false:=by rfl) :
  PE X (.Call (.Name x p) (e :: es) [] pos) (tCall sp [] E0 t):=by
 obtain ⟨f,fd,F,b,kp,m⟩:=h.ex
 exact pe_call F hr hg m kp b .nil pass0 ha hdb he hpl
theorem pe_ty {T:String} (hg:Gl X x) (hm:X.mg x = none) (hv:bootBuiltins x = some (.type T)) (hn:x ≠ "__name__":=by decide) (hd:(x == ("__debug__":Str)) = false:=by decide):PE X (.Name x pos) (tC (.ty T)):=pe_bltn (v:=.ty T) hg hm hv rfl hn hd
theorem pe_cls {C:Addr} (hg:Gl X x) (hm:X.mg x = some (.ref C)) (hd:(x == ("__debug__":Str)) = false:=by decide):PE X (.Name x pos) (tC (.ref C)):=pe_glob (v:=.ref C) hg hm rfl hd
def clsV:V→Option Value
 | .ty n=>some (.type n)
 | .ref C=>some (.ref C)
 | _=>none
theorem clsV_rel {c:V} {u cv:Value} (r:RelV c u) (h:clsV c = some cv):u = cv:=by
 cases c with
 | ty n=>cases h; exact r
 | ref C=>cases h; exact r
 | _=>cases h
theorem call_isinst:CallR X (.builtin "isinstance") (fun xs H Q=>∃ x c t cv b,xs = [x,c]∧clsV c = some cv∧TyOf X.K H x t∧PySem.W.kitOne X.K t cv = some b∧Q (.bl b) H):=by
 intro pins s σ H xs us Q I r h
 obtain ⟨x,c,t,cv,b,rfl,hc,ty,e,q⟩:=h
 obtain ⟨u,u',rfl,rx,rc⟩:=vals2 r
 cases clsV_rel rc hc
 exact isinst_ok I rx ty e fun tk=>⟨.bl b,H,I.tok _,rfl,q⟩
theorem op_fdivB:OpR X (binaryOp .FloorDiv) (rI (fun _ j=>0 < j∧j.natAbs.log2 < 9000) fun i j=>.int (i / j)):=opI fun i j _ _ _ _ _ hc q=>by
 have h1:(0:Int) < j:=hc.1
 exact floordiv_int (by lia) (by rw [Int.fdiv_eq_ediv_of_nonneg i (by lia)]; exact q) (.inl (PyProof.noPylong_of_log2 hc.2))
theorem op_mulB:OpR X (binaryOp .Mult) (rI (fun i j=>Builtin.Int.intBits i≤100000∧Builtin.Int.intBits j≤100000) fun i j=>.int (i * j)):=opI fun _ _ _ _ _ _ _ hc q =>
 mul_int q (IntMulOk.of_bits (Nat.le_trans hc.1 (by decide)) (Nat.le_trans hc.2 (by decide)))
theorem op_shlB:OpR X (binaryOp .LShift) (rI (fun i j=>0≤j∧j≤100000∧Builtin.Int.intBits i≤100000) fun i j=>.int (i * 2 ^ j.toNat)):=opI fun i j _ _ _ _ _ hc q =>
 lshift_int hc.1 (by have h1:=hc.2.1; have h2:Builtin.Int.intBits i≤100000:=hc.2.2; have h3:(2:Int) ^ 27 = 134217728:=(by decide); rw [h3]; lia) q
end
theorem kit_int_int (K:PySem.W.Frag):PySem.W.kitOne K (.type "int") (.type "int") = some true:=rfl
theorem kit_int_bool (K:PySem.W.Frag):PySem.W.kitOne K (.type "int") (.type "bool") = some false:=by with_unfolding_all rfl
theorem kit_bl_int (K:PySem.W.Frag):PySem.W.kitOne K (.type "bool") (.type "int") = some true:=by with_unfolding_all rfl
theorem kit_bl_bl (K:PySem.W.Frag):PySem.W.kitOne K (.type "bool") (.type "bool") = some true:=rfl
theorem iteD {c A B:Prop} [Decidable c] (hc:c) (h:A):if decide c = true then A else B:=by
 rw [if_pos (decide_eq_true hc)]
 exact h
theorem iteDN {c A B:Prop} [Decidable c] (hc:¬ c) (h:B):if decide c = true then A else B:=by
 rw [if_neg (by rw [decide_eq_false hc]; decide)]
 exact h
theorem iteN {c A B:Prop} [Decidable c] (hc:¬ c) (h:A):if (!decide c) = true then A else B:=by
 rw [decide_eq_false hc]
 exact iteT h
theorem p_pos (n:Nat):(0:Int) < 2 ^ n:=Int.pow_pos (by decide)
theorem p_mono {m n:Nat} (h:m≤n):(2:Int) ^ m≤2 ^ n:=by
 have e:n = m + (n - m):=by lia
 rw [e,Int.pow_add]
 have h1:=p_pos m
 have h2:(1:Int)≤2 ^ (n - m):=p_pos (n - m)
 have h3:=Int.mul_le_mul_of_nonneg_left h2 (Int.le_of_lt h1)
 rw [Int.mul_one] at h3
 exact h3
def SameX (p:Addr) (H H':Hp):Prop:=∀ b o,b ≠ p→H b = some o→H' b = some o
theorem SameX.trans {p:Addr} {H H1 H2:Hp} (a:SameX p H H1) (b:SameX p H1 H2):SameX p H H2:=fun c o n h=>b c o n (a c o n h)
theorem SameX.of {p:Addr} {H H':Hp} (a:Same H H'):SameX p H H':=fun c o _ h=>a c o h
theorem same_new {H:Hp} {p:Addr} (h:H p = none) (o:HO):Same H (L2.upd H p o):=fun b u q=>by rw [upd_ne (ne_of_none q h)]; exact q
theorem getI (ns:List Int) (k:Nat) (h:k < ns.length):atI (ns.map V.int) (k:Int) = some (.int ns[k]):=atI_nat (by rw [List.getElem?_map,List.getElem?_eq_getElem h] <;> rfl)
end Ow
namespace Ow
open PySem PySem.Spec PyProof.Rows L2
section
variable {X:Cx} {k:Nat} {x m:Str} {C:Addr} {p pos apos:Pos} {o e:Expr} {es:List Expr} {ta:TE} {t:TA}
end
end Ow
namespace Ow
open PySem PySem.Spec PyProof.Rows L2
def cxComp (X:Cx) (N:List Str) (scope:Scope) (cl:List (Str × Addr)) (C:Addr) (s2:Shared) (H2:Hp) (fp:List Addr):Cx where
 prog:=X.prog
 w:=X.w
 K:=X.K
 mg:=X.mg
 base:=X.base
 A:=X.A
 N:=N
 s₀:=s2
 H₀:=H2
 env:=compEnvC scope cl C X.env
 outer:=X.stack
 stack:=X.stack
 ex:=fp
 calm:=true
 fn:=fun _=>false
 pn:=[]
 xe:=fun _ _=>False
def tComp (wi:TI) (te:TE) (cap:L2.St→L2.St):TE:=fun σ H Q=>wi σ H fun J H1=>∀ D,H1 D = none→∃ W:Nat→Nat→Hp→Prop,(∃ m,W 0 m (upd H1 D (.lst [])))∧∀ i m H,W i m H →
 (J.stop i H∧Q (.ref D) H)∨(J.go i H∧∀ x H',J.yld i H x H'→te (some x :: cap σ) H' fun y H2=>∃ ys,H2 D = some (.lst ys)∧ys.length < sizeLine∧∃ m',m' < m∧W (i + 1) m' (upd H2 D (.lst (ys ++ [y]))))
section
variable {X:Cx} {elt iter:Expr} {x:Str} {px pos:Pos} {scope:Scope} {wi:TI} {te:TE} {N:List Str} {cl:List (Str × Addr)} {cap:L2.St→L2.St}
theorem pe_comp (hc:X.calm = true) (hclos:closureFor scope X.env = pure cl) (hsub:∀ n c,cl.lookup n = some c→X.env.cells.lookup n = some c)
  (hcell:∀ y ∈ scope.names,y.2 ≠ .cell) (hkind:scope.kind = .function) (hnames:∀ y ∈ scope.names,y.2 = .local→scope.names.lookup y.1 = some .local) (hx:scope.names.lookup x = some .local)
  (hhas:∀ y,(Env.kindOf (compEnvC scope cl 0 X.env) y = some .cell∨Env.kindOf (compEnvC scope cl 0 X.env) y = some .free)→∃ c,cl.lookup y = some c)
  (hN:(x :: N).Nodup) (hcapl:∀ σ,(cap σ).length = N.length)
  (hcap:∀ (σ:L2.St) (i:Nat) (y:Str) (v:V),σ.length = X.N.length→N[i]? = some y→(cap σ)[i]? = some (some v)→(Env.kindOf (compEnvC scope cl 0 X.env) y = some .cell∨Env.kindOf (compEnvC scope cl 0 X.env) y = some .free)∧X.env.kindOf y = some .cell∧∃ j:Nat,X.N[j]? = some y∧σ[j]? = some (some v))
  (hi:PI X (.Name x px) iter wi) (he:∀ C s2 H2 fp,PE (cxComp X (x :: N) scope cl C s2 H2 fp) elt te)
  (hs:∀ z,foldedSetIterable iter X.env z = pure z:=by intro _; rfl) :
  PE X (.ListComp elt [⟨.Name x px,iter,[],0⟩] scope pos) (tComp wi te cap):=by
 intro pins s σ H Q I h
 rw [eval_ListComp]
 refine wpAny_comprehension_free (use:=none) rfl hs hclos hkind hnames (thn (hi pins s σ H _ I h) fun xv s1 h1=>thn h1 fun itv s2 h2=>?_)
 obtain ⟨it,fp,tn,J,H2,e,I2,T,st2,f2,hW⟩:=h2
 subst e
 have hD:H2 s2.heap.objs.size = none:=I2.hok.fresh (Nat.le_refl _)
 obtain ⟨W,⟨m0,w0⟩,turn⟩:=hW s2.heap.objs.size hD
 refine wpAny_newObj_type (wpAny_newFunctionEnv hcell (by intro y hy; simp at hy) (fun h4 hns4 hsb4=>?_) hkind) (by show 0≤sizeLine; decide)
 dsimp only at hns4 hsb4 ⊢
 generalize hH3:s2.heap.push { cls:=.type "list",dict:=none,data:=.seq ([]:List Value).toArray } = H3 at hns4 hsb4 ⊢
 have hCz:H3.objs.size = s2.heap.objs.size + 1:=by rw [← hH3,Heap.size_push]
 have old3:∀ b o,s2.heap.get? b = some o→H3.get? b = some o:=fun b o e=>hH3 ▸ Heap.get?_push_of_some _ e
 have eD3:H3.get? s2.heap.objs.size = some { cls:=.type "list",dict:=none,data:=.seq ([]:List Value).toArray }:=hH3 ▸ Heap.get?_push_size _ rfl
 have old4:∀ b o,H3.get? b = some o→h4.get? b = some o:=fun b o e=>hsb4.extBut b o (Nat.ne_of_lt (Heap.lt_size e)) (Heap.get?_push_of_some _ e)
 have old:∀ b o,s2.heap.get? b = some o→h4.get? b = some o:=fun b o e=>old4 b o (old3 b o e)
 have szC:s2.heap.objs.size < H3.objs.size:=by rw [hCz]; exact Nat.lt_succ_self _
 have fpC:∀ b ∈ fp,b ≠ H3.objs.size:=fun b hb=>by
  obtain ⟨o,ho,_⟩:=T.obj 0 _ st2 b hb
  exact Nat.ne_of_lt (Nat.lt_trans (Heap.lt_size ho) szC)
 have ok':(cxComp X (x :: N) scope cl H3.objs.size s2 H2 fp).Ok:=by
  refine ⟨I2.ok.mod,hkind,I2.ok.glob,I2.ok.blt,(Nat.le_of_lt szC),fun a b c e1 e2=>I2.ok.inj a b c (hsub a c e1) (hsub b c e2),fun y hy=>hhas y hy,fun y c z _=>absurd (show false = true from z) (by decide),
   fun _=>I2.ok.hd hc,I2.ok.frames,.inl rfl,fun b hb=>⟨fpC b hb,fun y c e=>(f2 b hb).2.2.2.2.1 y c (hsub y c e)⟩,I2.bs,Nat.le_trans I2.ok.bsz I2.sz,fun b o e hb=>?_,fun b hb z=>?_,I2.stack,I2.stkFree⟩
  ·rcases (f2 b hb).2.2.2.1 with q | q
   ·exact I2.ok.noex b o e q
   ·exact absurd (Nat.lt_of_lt_of_le (Heap.lt_size e) (Nat.le_trans I2.ok.bsz q)) (Nat.lt_irrefl _)
  ·rcases List.mem_cons.mp (I2.stkSub b z) with q | q
   ·exact (f2 b hb).2.1 q
   ·exact (f2 b hb).2.2.1 q
 have okD:ObjOk X.prog X.w (upd H2 s2.heap.objs.size (.lst [])) h4 s2.heap.objs.size (.lst []):=⟨Nat.zero_le _,[],0,.nil,old4 _ _ eD3⟩
 have I4:Inv (cxComp X (x :: N) scope cl H3.objs.size s2 H2 fp) [] (none :: cap σ) (upd H2 s2.heap.objs.size (.lst [])) { s2 with heap:=h4,toks:=s2.toks + ([]:List (Str × Value)).length }:=by
  refine ⟨ok',rfl,I2.bare,Un.laid old (Nat.le_refl _) hD,⟨_,hns4,fun i y v e1 e2 _=>?_⟩,fun y c e=>?_,?_,fun y c e=>?_,fun p hp=>absurd hp (by show p ∉ ([] ++ []:List (Addr × Obj)); simp),I2.hok.laid old (Nat.le_refl _) okD,?_⟩
  ·cases i with
   | zero=>simp at e2
   | succ i =>
    obtain ⟨k1,k2,j,e3,e4⟩:=hcap σ i y v I2.len (show N[i]? = some y from e1) (show (cap σ)[i]? = some (some v) from e2)
    obtain ⟨m,_,hl⟩:=I2.loc
    obtain ⟨u,ru,lk⟩:=hl j y v e3 e4 (.inr (.inl k2))
    refine ⟨u,ru,.inr ⟨k1,?_⟩⟩
    rcases lk with ⟨z,_⟩ | ⟨_,c,e5,hcl⟩
    ·rw [k2] at z; cases z
    ·obtain ⟨c',e6⟩:=hhas y k1
     have:c' = c:=by
      have:=hsub y c' e6
      rw [e5] at this
      exact (Option.some.inj this).symm
     subst this
     obtain ⟨oc,ho,hd⟩:=hcl
     exact ⟨c',e6,oc,old _ _ ho,hd⟩
  ·obtain ⟨v,oc,ho,hd⟩:=I2.cell y c (hsub y c e)
   exact ⟨v,oc,old _ _ ho,hd⟩
  ·show upd H2 s2.heap.objs.size (.lst []) H3.objs.size = none
   rw [upd_ne (Nat.ne_of_gt szC)]
   exact I2.hok.fresh (Nat.le_of_lt szC)
  ·have h1:=I2.freeC y c (hsub y c e)
   obtain ⟨v,oc,ho,_⟩:=I2.cell y c (hsub y c e)
   rw [upd_ne (Nat.ne_of_lt (Heap.lt_size ho))]
   exact h1
  ·show (none :: cap σ).length = (x :: N).length
   simp [hcapl]
 have stat:∀ {H':Hp},(∀ b ∈ fp,H' b = none)→∀ b ∈ fp,FpOk (cxComp X (x :: N) scope cl H3.objs.size s2 H2 fp) [] H' b:=fun {H'} hn b hb =>
  ⟨hn b hb,(ok'.exf b hb).1,ok'.exfs b hb,.inl hb,(ok'.exf b hb).2,fun p hp=>absurd hp (by show p ∉ ([] ++ []:List (Addr × Obj)); simp)⟩
 have loop:codeAny (model X.prog X.w) X.A (.compLoop (.ListComp elt [⟨.Name x px,iter,[],0⟩] scope pos) 0 (.ref it) (.ref s2.heap.objs.size) (compEnvC scope cl H3.objs.size X.env))
   (compPost (model X.prog X.w) X.A X.xe none (EP X pins σ Q) (.ref s2.heap.objs.size) H3.objs.size) { s2 with heap:=h4,toks:=s2.toks + ([]:List (Str × Value)).length }:=by
  refine codeAny_compLoop_list (fun n s'=>∃ (i:Nat) (z0:Option V) (H':Hp),Inv (cxComp X (x :: N) scope cl H3.objs.size s2 H2 fp) [] (z0 :: cap σ) H' s'∧tn i s'.heap∧(∀ b ∈ fp,H' b = none)∧W i n H') ?_ m0
   ⟨0,none,_,I4,T.keep 0 _ _ st2 (fun b _ o e=>old b o e),fun b hb=>?_,w0⟩
  ·rintro n s5 ⟨i,z0,H5,I5,st5,fr5,w5⟩
   rcases turn i n H5 w5 with ⟨stop,qn⟩ | ⟨go,step⟩
   ·refine wpAny_mono (T.done (cxComp X (x :: N) scope cl H3.objs.size s2 H2 fp) rfl rfl rfl rfl i [] s5 _ H5 _ I5 (stat fr5) st5 stop) (fun r s6 ⟨hr,I6⟩=>?_) fun _ _ z=>z
    subst hr
    obtain ⟨m,hn6,_⟩:=id I6.loc
    refine ⟨m,hn6,fun h' sb=>⟨.ref s2.heap.objs.size,H5,?_,rfl,qn⟩⟩
    have kp:∀ b o,b ≠ H3.objs.size→s6.heap.get? b = some o→h'.get? b = some o:=fun b o hb e=>sb.extBut b o hb e
    have nC:∀ b o,s2.heap.get? b = some o→b ≠ H3.objs.size:=fun b o e=>Nat.ne_of_lt (Nat.lt_trans (Heap.lt_size e) szC)
    have fC:H5 H3.objs.size = none:=I6.free
    refine I2.call' (ch:=fp) (s':={ s6 with heap:=h' }) I6.os ?_ ?_ I6.bare fun b hb=>⟨(f2 b hb).2.2.2.1,(f2 b hb).2.1,(f2 b hb).2.2.2.2.1,(f2 b hb).2.2.2.2.2⟩
    ·have U:Un (frs X.stack) fp H2 H5 s2.heap s6.heap:=I6.base
     exact ⟨fun b o e n1 n2 n3=>kp b o (nC b o e) (U.keep b o e n1 n2 n3),fun b o e n1 n2 n3=>by
       obtain ⟨sl,q⟩:=U.slot b o e n1 n2 n3
       exact ⟨sl,kp b _ (nC b o e) q⟩,U.free,fun b o e n3=>by
       obtain ⟨o',q⟩:=U.there b o e n3
       exact ⟨o',kp b _ (nC b o e) q⟩,U.tups,U.frzs,U.tbls⟩
    ·intro b u e
     refine (I6.hok b u e).stay (fun c v hc q=>kp c v (fun z=>?_) q) (fun _ q=>q) fun _ _ q=>q
     rcases hc with y | y
     ·rw [← y,z,fC] at e
      cases e
     ·rw [z,fC] at y
      cases y
   ·refine wpAny_mono (T.item (cxComp X (x :: N) scope cl H3.objs.size s2 H2 fp) rfl rfl rfl rfl i [] s5 _ H5 _ I5 (stat fr5) st5 go) (fun r s6 ⟨u,hr,h6⟩=>?_) fun _ _ z=>z
    subst hr
    have key:(letOwnedTupleGo (.Name x px) (.ref it) u >>= fun _=>assign (.Name x px) (compEnvC scope cl H3.objs.size X.env) u) = assign (.Name x px) (compEnvC scope cl H3.objs.size X.env) u:=by first | rfl | exact pure_bind _ _
    dsimp only
    rw [← key]
    refine wpAny_bind (wpAny_mono h6 (fun _ s7 ⟨v,H7,I7,r7,y7,st7,fr7⟩=>?_) fun _ _ z=>z)
    have I7':=I7.pinned (stat fr7) (T.obj _ _ st7)
    refine wpAny_assign_Name (store_ok (i:=0) I7' hN rfl (.inl (lookup_relabel_local hx)) r7 (fun s8 I8=>?_) (.inr (lookup_relabel_local hx)))
    refine wpAny_mono (he H3.objs.size s2 H2 fp _ s8 (some v :: cap σ) H7 _ I8 (step v H7 y7)) (fun w9 s9 ⟨y,H9,I9,r9,ys,hys,hlt,m',hm,w9'⟩=>?_) fun _ _ z=>z.elim
    refine wpAny_mono (mt_append (X:=cxComp X (x :: N) scope cl H3.objs.size s2 H2 fp) _ s9 _ H9 (.ref s2.heap.objs.size) [y] _ [w9] (fun _ Hn=>Hn = upd H9 s2.heap.objs.size (.lst (ys ++ [y]))) I9 rfl (.cons r9 .nil) ⟨_,ys,y,rfl,rfl,hys,hlt,rfl⟩) (fun _ s10 ⟨_,H10,I10,_,e10⟩=>?_) fun _ _ z=>z.elim
    subst e10
    refine ⟨m',hm,i + 1,some v,_,I10.unpinned,T.keep _ _ _ st7 fun b hb o e=>(I10.pin (b,o) (List.mem_append_right _ (List.mem_append_right _ (mem_pinsAt hb e)))).1,fun b hb=>?_,w9'⟩
    obtain ⟨o,e,d⟩:=T.obj _ _ st7 b hb
    exact (I10.pin (b,o) (List.mem_append_right _ (List.mem_append_right _ (mem_pinsAt hb e)))).2.1
  ·obtain ⟨o,ho,_⟩:=T.obj 0 _ st2 b hb
   rw [upd_ne (Nat.ne_of_lt (Heap.lt_size ho))]
   exact (f2 b hb).1
 exact codeAny_compStart_list loop (T.self X.A 0 _ _ _ (T.keep 0 _ _ st2 (fun b _ o e=>old b o e)) loop)
theorem pe_comp0 (hc:X.calm = true) (hclos:closureFor scope X.env = pure []) (hno:∀ p ∈ scope.names,p.2 ≠ .cell∧p.2 ≠ .free) (hkind:scope.kind = .function)
  (hnames:∀ y ∈ scope.names,y.2 = .local→scope.names.lookup y.1 = some .local) (hx:scope.names.lookup x = some .local)
  (hi:PI X (.Name x px) iter wi) (he:∀ C s2 H2 fp,PE (cxComp X [x] scope [] C s2 H2 fp) elt te)
  (hs:∀ z,foldedSetIterable iter X.env z = pure z:=by intro _; rfl) :
  PE X (.ListComp elt [⟨.Name x px,iter,[],0⟩] scope pos) (tComp wi te fun _=>[]):=by
 refine pe_comp (N:=[]) (cl:=[]) hc hclos (fun _ _ e=>nomatch e) (fun y hy=>(hno y hy).1) hkind hnames hx (fun y hy=>?_) (by simp) (fun _=>rfl) (fun _ i y v _ e _=>by simp at e) hi he hs
 exfalso
 have sub:∀ (l:List (Str × NameKind)),(∀ p ∈ l,p.2 ≠ .cell∧p.2 ≠ .free)→∀ p ∈ (l.map fun (n,k)=>if (k == NameKind.free && X.env.scope.kind == ScopeKind.function && X.env.kindOf n == some NameKind.cell) then (n,NameKind.cell) else (n,k)),p.2 ≠ .cell∧p.2 ≠ .free:=by
  intro l hl p hp
  obtain ⟨q,hq,e⟩:=List.mem_map.mp hp
  have h1:=hl q hq
  obtain ⟨n,k⟩:=q
  have hf:(k == NameKind.free) = false:=by
   cases k <;> first | rfl | exact absurd rfl h1.2
  rw [← e]
  dsimp only
  rw [hf,Bool.false_and,Bool.false_and,if_neg (by decide)]
  exact h1
 have mem:∀ k,Env.kindOf (compEnvC scope [] 0 X.env) y = some k→k ≠ .cell∧k ≠ .free:=fun k e=>sub scope.names hno (y,k) (PySem.mem_of_lookup e)
 rcases hy with z | z
 ·exact (mem _ z).1 rfl
 ·exact (mem _ z).2 rfl
theorem ps_comp {i:Nat} {y:Str} {py spos:Pos} (hNX:X.N.Nodup) (hiy:X.N[i]? = some y) (hly:Loc X.env.scope y) (hsw:swapsWith (.ListComp elt [⟨.Name x px,iter,[],0⟩] scope pos) (some (.Name y py)) spos.line X.env = pure true) (hc:X.calm = true) (hclos:closureFor scope X.env = pure cl) (hsub:∀ n c,cl.lookup n = some c→X.env.cells.lookup n = some c)
  (hcell:∀ y ∈ scope.names,y.2 ≠ .cell) (hkind:scope.kind = .function) (hnames:∀ y ∈ scope.names,y.2 = .local→scope.names.lookup y.1 = some .local) (hx:scope.names.lookup x = some .local)
  (hhas:∀ y,(Env.kindOf (compEnvC scope cl 0 X.env) y = some .cell∨Env.kindOf (compEnvC scope cl 0 X.env) y = some .free)→∃ c,cl.lookup y = some c)
  (hN:(x :: N).Nodup) (hcapl:∀ σ,(cap σ).length = N.length)
  (hcap:∀ (σ:L2.St) (i:Nat) (y:Str) (v:V),σ.length = X.N.length→N[i]? = some y→(cap σ)[i]? = some (some v)→(Env.kindOf (compEnvC scope cl 0 X.env) y = some .cell∨Env.kindOf (compEnvC scope cl 0 X.env) y = some .free)∧X.env.kindOf y = some .cell∧∃ j:Nat,X.N[j]? = some y∧σ[j]? = some (some v))
  (hi:PI X (.Name x px) iter wi) (he:∀ C s2 H2 fp,PE (cxComp X (x :: N) scope cl C s2 H2 fp) elt te)
  (hs:∀ z,foldedSetIterable iter X.env z = pure z:=by intro _; rfl) (hf:X.fn y = true∨X.env.scope.names.lookup y = some .local:=by first | exact .inl rfl | exact .inr rfl | assumption) :
  PS X (.Assign [.Name y py] (.ListComp elt [⟨.Name x px,iter,[],0⟩] scope pos) spos) (tAsg (tComp wi te cap) (gName i)):=by
 intro pins s σ H DD I h
 rw [exec_Assign_Name_used _ _ _ _ hsw]
 refine wpAny_bind (wpAny_standAt (wpAny_bind ?_))
 show wpAny _ X.A (do let _ ← comprehension (.ListComp elt [⟨.Name x px,iter,[],0⟩] scope pos) scope X.env _ (newList []) false (eval iter X.env) (some (assign (.Name y py) X.env))) _ _ s
 refine wpAny_bind (wpAny_mono (wpAny_comprehension_free (use:=some (assign (.Name y py) X.env)) (Q:=fun _ s'=>SP X pins DD .next s') rfl hs hclos hkind hnames (thn (hi pins s σ H _ I h) fun xv s1 h1=>thn h1 fun itv s2 h2=>?_)) (fun _ s' hq=>wpAny_pure (wpAny_pure hq)) fun _ _ e=>e)
 obtain ⟨it,fp,tn,J,H2,e,I2,T,st2,f2,hW⟩:=h2
 subst e
 have hD:H2 s2.heap.objs.size = none:=I2.hok.fresh (Nat.le_refl _)
 obtain ⟨W,⟨m0,w0⟩,turn⟩:=hW s2.heap.objs.size hD
 refine wpAny_newObj_type (wpAny_newFunctionEnv hcell (by intro y hy; simp at hy) (fun h4 hns4 hsb4=>?_) hkind) (by show 0≤sizeLine; decide)
 dsimp only at hns4 hsb4 ⊢
 generalize hH3:s2.heap.push { cls:=.type "list",dict:=none,data:=.seq ([]:List Value).toArray } = H3 at hns4 hsb4 ⊢
 have hCz:H3.objs.size = s2.heap.objs.size + 1:=by rw [← hH3,Heap.size_push]
 have old3:∀ b o,s2.heap.get? b = some o→H3.get? b = some o:=fun b o e=>hH3 ▸ Heap.get?_push_of_some _ e
 have eD3:H3.get? s2.heap.objs.size = some { cls:=.type "list",dict:=none,data:=.seq ([]:List Value).toArray }:=hH3 ▸ Heap.get?_push_size _ rfl
 have old4:∀ b o,H3.get? b = some o→h4.get? b = some o:=fun b o e=>hsb4.extBut b o (Nat.ne_of_lt (Heap.lt_size e)) (Heap.get?_push_of_some _ e)
 have old:∀ b o,s2.heap.get? b = some o→h4.get? b = some o:=fun b o e=>old4 b o (old3 b o e)
 have szC:s2.heap.objs.size < H3.objs.size:=by rw [hCz]; exact Nat.lt_succ_self _
 have fpC:∀ b ∈ fp,b ≠ H3.objs.size:=fun b hb=>by
  obtain ⟨o,ho,_⟩:=T.obj 0 _ st2 b hb
  exact Nat.ne_of_lt (Nat.lt_trans (Heap.lt_size ho) szC)
 have ok':(cxComp X (x :: N) scope cl H3.objs.size s2 H2 fp).Ok:=by
  refine ⟨I2.ok.mod,hkind,I2.ok.glob,I2.ok.blt,(Nat.le_of_lt szC),fun a b c e1 e2=>I2.ok.inj a b c (hsub a c e1) (hsub b c e2),fun y hy=>hhas y hy,fun y c z _=>absurd (show false = true from z) (by decide),
   fun _=>I2.ok.hd hc,I2.ok.frames,.inl rfl,fun b hb=>⟨fpC b hb,fun y c e=>(f2 b hb).2.2.2.2.1 y c (hsub y c e)⟩,I2.bs,Nat.le_trans I2.ok.bsz I2.sz,fun b o e hb=>?_,fun b hb z=>?_,I2.stack,I2.stkFree⟩
  ·rcases (f2 b hb).2.2.2.1 with q | q
   ·exact I2.ok.noex b o e q
   ·exact absurd (Nat.lt_of_lt_of_le (Heap.lt_size e) (Nat.le_trans I2.ok.bsz q)) (Nat.lt_irrefl _)
  ·rcases List.mem_cons.mp (I2.stkSub b z) with q | q
   ·exact (f2 b hb).2.1 q
   ·exact (f2 b hb).2.2.1 q
 have okD:ObjOk X.prog X.w (upd H2 s2.heap.objs.size (.lst [])) h4 s2.heap.objs.size (.lst []):=⟨Nat.zero_le _,[],0,.nil,old4 _ _ eD3⟩
 have I4:Inv (cxComp X (x :: N) scope cl H3.objs.size s2 H2 fp) [] (none :: cap σ) (upd H2 s2.heap.objs.size (.lst [])) { s2 with heap:=h4,toks:=s2.toks + ([]:List (Str × Value)).length }:=by
  refine ⟨ok',rfl,I2.bare,Un.laid old (Nat.le_refl _) hD,⟨_,hns4,fun i y v e1 e2 _=>?_⟩,fun y c e=>?_,?_,fun y c e=>?_,fun p hp=>absurd hp (by show p ∉ ([] ++ []:List (Addr × Obj)); simp),I2.hok.laid old (Nat.le_refl _) okD,?_⟩
  ·cases i with
   | zero=>simp at e2
   | succ i =>
    obtain ⟨k1,k2,j,e3,e4⟩:=hcap σ i y v I2.len (show N[i]? = some y from e1) (show (cap σ)[i]? = some (some v) from e2)
    obtain ⟨m,_,hl⟩:=I2.loc
    obtain ⟨u,ru,lk⟩:=hl j y v e3 e4 (.inr (.inl k2))
    refine ⟨u,ru,.inr ⟨k1,?_⟩⟩
    rcases lk with ⟨z,_⟩ | ⟨_,c,e5,hcl⟩
    ·rw [k2] at z; cases z
    ·obtain ⟨c',e6⟩:=hhas y k1
     have:c' = c:=by
      have:=hsub y c' e6
      rw [e5] at this
      exact (Option.some.inj this).symm
     subst this
     obtain ⟨oc,ho,hd⟩:=hcl
     exact ⟨c',e6,oc,old _ _ ho,hd⟩
  ·obtain ⟨v,oc,ho,hd⟩:=I2.cell y c (hsub y c e)
   exact ⟨v,oc,old _ _ ho,hd⟩
  ·show upd H2 s2.heap.objs.size (.lst []) H3.objs.size = none
   rw [upd_ne (Nat.ne_of_gt szC)]
   exact I2.hok.fresh (Nat.le_of_lt szC)
  ·have h1:=I2.freeC y c (hsub y c e)
   obtain ⟨v,oc,ho,_⟩:=I2.cell y c (hsub y c e)
   rw [upd_ne (Nat.ne_of_lt (Heap.lt_size ho))]
   exact h1
  ·show (none :: cap σ).length = (x :: N).length
   simp [hcapl]
 have stat:∀ {H':Hp},(∀ b ∈ fp,H' b = none)→∀ b ∈ fp,FpOk (cxComp X (x :: N) scope cl H3.objs.size s2 H2 fp) [] H' b:=fun {H'} hn b hb =>
  ⟨hn b hb,(ok'.exf b hb).1,ok'.exfs b hb,.inl hb,(ok'.exf b hb).2,fun p hp=>absurd hp (by show p ∉ ([] ++ []:List (Addr × Obj)); simp)⟩
 have loop:codeAny (model X.prog X.w) X.A (.compLoop (.ListComp elt [⟨.Name x px,iter,[],0⟩] scope pos) 0 (.ref it) (.ref s2.heap.objs.size) (compEnvC scope cl H3.objs.size X.env))
   (compPost (model X.prog X.w) X.A X.xe (some (assign (.Name y py) X.env)) (fun _ s'=>SP X pins DD .next s') (.ref s2.heap.objs.size) H3.objs.size) { s2 with heap:=h4,toks:=s2.toks + ([]:List (Str × Value)).length }:=by
  refine codeAny_compLoop_list (fun n s'=>∃ (i:Nat) (z0:Option V) (H':Hp),Inv (cxComp X (x :: N) scope cl H3.objs.size s2 H2 fp) [] (z0 :: cap σ) H' s'∧tn i s'.heap∧(∀ b ∈ fp,H' b = none)∧W i n H') ?_ m0
   ⟨0,none,_,I4,T.keep 0 _ _ st2 (fun b _ o e=>old b o e),fun b hb=>?_,w0⟩
  ·rintro n s5 ⟨i,z0,H5,I5,st5,fr5,w5⟩
   rcases turn i n H5 w5 with ⟨stop,qn⟩ | ⟨go,step⟩
   ·refine wpAny_mono (T.done (cxComp X (x :: N) scope cl H3.objs.size s2 H2 fp) rfl rfl rfl rfl i [] s5 _ H5 _ I5 (stat fr5) st5 stop) (fun r s6 ⟨hr,I6⟩=>?_) fun _ _ z=>z
    subst hr
    obtain ⟨m,hn6,_⟩:=id I6.loc
    have I6X:Inv X pins σ H5 s6:=I2.call' (ch:=fp) (s':=s6) I6.os I6.base I6.hok I6.bare fun b hb=>⟨(f2 b hb).2.2.2.1,(f2 b hb).2.1,(f2 b hb).2.2.2.2.1,(f2 b hb).2.2.2.2.2⟩
    have fC:H5 H3.objs.size = none:=I6.free
    have nL:H3.objs.size ≠ X.env.locals:=Ne.symm (Nat.ne_of_lt (Nat.lt_trans I2.lt szC))
    have nCl:∀ z c,X.env.cells.lookup z = some c→c ≠ H3.objs.size:=fun z c e=>by
     obtain ⟨v,oc,ho,_⟩:=I2.cell z c e
     exact Nat.ne_of_lt (Nat.lt_trans (Heap.lt_size ho) szC)
    refine wpAny_assign_Name (store_ok2 I6X hNX hiy hly (v:=.ref s2.heap.objs.size) rfl (fun s7 I7 ⟨ad,sb7,had⟩=>?_) hf)
    have nA:H3.objs.size ≠ ad:=by
     rcases had with e | e
     ·rw [e]; exact nL
     ·exact Ne.symm (nCl _ _ e)
    refine ⟨m,hn6.sameBut sb7 nA,fun h' sb=>⟨_,H5,?_,qn⟩⟩
    refine I7.turned (it:=H3.objs.size) (t':=s7.toks) (fun b o hb e=>sb.extBut b o hb e) fC nL (.inr (Nat.le_trans I2.sz (Nat.le_of_lt szC))) nCl fun p hp=>?_
    exact Nat.ne_of_lt (Nat.lt_trans (Heap.lt_size (I2.pin p hp).1) szC)
   ·refine wpAny_mono (T.item (cxComp X (x :: N) scope cl H3.objs.size s2 H2 fp) rfl rfl rfl rfl i [] s5 _ H5 _ I5 (stat fr5) st5 go) (fun r s6 ⟨u,hr,h6⟩=>?_) fun _ _ z=>z
    subst hr
    have key:(letOwnedTupleGo (.Name x px) (.ref it) u >>= fun _=>assign (.Name x px) (compEnvC scope cl H3.objs.size X.env) u) = assign (.Name x px) (compEnvC scope cl H3.objs.size X.env) u:=by first | rfl | exact pure_bind _ _
    dsimp only
    rw [← key]
    refine wpAny_bind (wpAny_mono h6 (fun _ s7 ⟨v,H7,I7,r7,y7,st7,fr7⟩=>?_) fun _ _ z=>z)
    have I7':=I7.pinned (stat fr7) (T.obj _ _ st7)
    refine wpAny_assign_Name (store_ok (i:=0) I7' hN rfl (.inl (lookup_relabel_local hx)) r7 (fun s8 I8=>?_) (.inr (lookup_relabel_local hx)))
    refine wpAny_mono (he H3.objs.size s2 H2 fp _ s8 (some v :: cap σ) H7 _ I8 (step v H7 y7)) (fun w9 s9 ⟨yv,H9,I9,r9,ys,hys,hlt,m',hm,w9'⟩=>?_) fun _ _ z=>z.elim
    refine wpAny_mono (mt_append (X:=cxComp X (x :: N) scope cl H3.objs.size s2 H2 fp) _ s9 _ H9 (.ref s2.heap.objs.size) [yv] _ [w9] (fun _ Hn=>Hn = upd H9 s2.heap.objs.size (.lst (ys ++ [yv]))) I9 rfl (.cons r9 .nil) ⟨_,ys,yv,rfl,rfl,hys,hlt,rfl⟩) (fun _ s10 ⟨_,H10,I10,_,e10⟩=>?_) fun _ _ z=>z.elim
    subst e10
    refine ⟨m',hm,i + 1,some v,_,I10.unpinned,T.keep _ _ _ st7 fun b hb o e=>(I10.pin (b,o) (List.mem_append_right _ (List.mem_append_right _ (mem_pinsAt hb e)))).1,fun b hb=>?_,w9'⟩
    obtain ⟨o,e,d⟩:=T.obj _ _ st7 b hb
    exact (I10.pin (b,o) (List.mem_append_right _ (List.mem_append_right _ (mem_pinsAt hb e)))).2.1
  ·obtain ⟨o,ho,_⟩:=T.obj 0 _ st2 b hb
   rw [upd_ne (Nat.ne_of_lt (Heap.lt_size ho))]
   exact (f2 b hb).1
 exact codeAny_compStart_list loop (T.self X.A 0 _ _ _ (T.keep 0 _ _ st2 (fun b _ o e=>old b o e)) loop)
theorem comp_list {K:PySem.W.Frag} {a D:Addr} {xs:List V} {te':TE} {tl:L2.St} {G:Hp→Prop} {H1:Hp} (Pv:Nat→Hp→Prop) (h0:Pv 0 (upd H1 D (.lst []))) (hl:∀ i H,i≤xs.length→Pv i H→SqL K H a xs)
  (hs:∀ i x H,xs[i]? = some x→Pv i H→te' (some x :: tl) H fun y H2=>∃ ys,H2 D = some (.lst ys)∧ys.length < sizeLine∧∃ m',m' < xs.length - i∧(m' = xs.length - (i + 1)∧i + 1≤xs.length∧Pv (i + 1) (upd H2 D (.lst (ys ++ [y])))))
  (hd:∀ H,Pv xs.length H→G H) :
  ∃ W:Nat→Nat→Hp→Prop,(∃ m,W 0 m (upd H1 D (.lst [])))∧∀ i m H,W i m H →
   ((Itl K a).stop i H∧G H)∨((Itl K a).go i H∧∀ x H',(Itl K a).yld i H x H'→te' (some x :: tl) H' fun y H2=>∃ ys,H2 D = some (.lst ys)∧ys.length < sizeLine∧∃ m',m' < m∧W (i + 1) m' (upd H2 D (.lst (ys ++ [y])))):=by
 refine ⟨fun i m H=>m = xs.length - i∧i≤xs.length∧Pv i H,⟨xs.length,by simp,Nat.zero_le _,h0⟩,?_⟩
 rintro i m H ⟨rfl,hi,p⟩
 have q:=hl i H hi p
 by_cases hlt:i < xs.length
 ·refine .inr ⟨⟨xs,xs[i],q,by simp [hlt]⟩,fun x H' y=>?_⟩
  obtain ⟨e,y⟩:=y
  subst e
  exact hs i x _ (y xs q) p
 ·have e:i = xs.length:=by lia
  subst e
  exact .inl ⟨⟨xs,q,Nat.le_refl _⟩,hd H p⟩
end
def tJoin (t u:TS):TS:=fun D σ H=>∃ J:L2.St→Hp→Prop,t { D with nx:=J } σ H∧∀ σ' H',J σ' H'→u D σ' H'
theorem pss_join {X:Cx} {st:Stmt} {rest:List Stmt} {t u:TS} (h1:PS X st t) (h2:PSs X rest u):PSs X (st :: rest) (tJoin t u):=by
 intro pins s σ H D I h
 obtain ⟨J,h,hJ⟩:=h
 refine wpAny_execs_cons (thn (h1 pins s σ H { D with nx:=J } I h) fun f s1 q=>?_)
 cases f with
 | next =>
  obtain ⟨σ',H',I',q⟩:=q
  exact h2 pins s1 σ' H' D I' (hJ _ _ q)
 | ret v=>exact q
 | brk=>exact q
 | cont=>exact q
end Ow
namespace Ow
open PySem PySem.Spec PyProof.Rows L2
section
variable {X:Cx}
theorem vals_at {xs:List V} {us:List Value} (r:Vals xs us) {j:Nat} (h1:j < us.length):RelV (xs.getD j .non) us[j]:=by
 have hl:=r.length
 have hj:j < xs.length:=by lia
 obtain ⟨u,hu,ru⟩:=r.get (i:=j) (x:=xs[j]) (List.getElem?_eq_getElem hj)
 rw [List.getElem?_eq_getElem h1] at hu
 rw [List.getD_eq_getElem?_getD,List.getElem?_eq_getElem hj]
 cases hu
 exact ru
def rEq0 (K:PySem.W.Frag) (neg:Bool):R2:=fun x y H Q=>∃ p q xs,x = .ref p∧y = .ref q∧SqL K H p xs∧SqL K H q []∧Q (.bl (if neg then !xs.isEmpty else xs.isEmpty)) H
theorem op_eq0 (hu:X.A.units < cLine):OpR X (compareOp .Eq) (rEq0 X.K false):=by
 intro pins s σ H x y v u Q I rx ry h
 obtain ⟨p,q,xs,rfl,rfl,hp,hq,k⟩:=h
 cases rx
 cases ry
 obtain ⟨its,r,pl,hz⟩:=I.list hp
 obtain ⟨its2,r2,pl2,hz2⟩:=I.list hq
 cases r2
 have hl:=r.length
 cases xs with
 | nil =>
  cases r
  exact SeqAt.eq_listAt (e:=fun _=>true) pl.isList pl2.isList rfl hu (fun j h1 _=>absurd h1 (by simp)) ⟨.bl _,H,I,rfl,k⟩
 | cons z zs =>
  refine SeqAt.eq_list_lengthsAt pl.isList pl2.isList ?_ hu ⟨.bl _,H,I,rfl,k⟩
  rw [List.length_cons] at hl
  simp only [List.size_toArray,← hl]
  rfl
end
end Ow
namespace Ow
open PySem PySem.Spec PyProof.Rows L2
section
variable {X:Cx}
def rAddL (K:PySem.W.Frag):R2:=fun x y H Q=>∃ a b xs ys,x = .ref a∧y = .ref b∧SqL K H a xs∧SqL K H b ys∧xs.length + ys.length≤sizeLine∧∀ p,H p = none→Q (.ref p) (upd H p (.lst (xs ++ ys)))
theorem op_addL:OpR X (binaryOp .Add) (rAddL X.K):=by
 intro pins s σ H x y v u Q I rx ry h
 obtain ⟨a,b,xs,ys,rfl,rfl,ha,hb,hz,q⟩:=h
 cases rx
 cases ry
 obtain ⟨its,r,pl,_⟩:=I.list ha
 obtain ⟨its2,r2,pl2,_⟩:=I.list hb
 have hl:=r.length
 have hl2:=r2.length
 obtain ⟨⟨cls,dd,data,sl⟩,ho,hc,n,hd⟩:=id pl.isList
 obtain ⟨⟨cls2,dd2,data2,sl2⟩,ho2,hc2,n2,hd2⟩:=id pl2.isList
 simp only at hc hd hc2 hd2
 subst hc hd hc2 hd2
 have e:its.toArray ++ its2.toArray = (its ++ its2).toArray:=by simp
 refine concat_meets ⟨_,ho,rfl⟩ ⟨_,ho2,rfl⟩ noFill_list_add seq_list_add PySem.F.slot_list_add PySem.F.entry_list_add (PySem.F.args_list_add_2 _ _) (list_addW a b its.toArray its2.toArray n n2 dd dd2 sl sl2 (by simp; lia)) ⟨ho,ho2,?_⟩
 rw [e]
 exact ⟨.ref s.heap.objs.size,_,I.lnew (t':=s.toks) (r.append r2) (by rw [List.length_append]; exact hz),rfl,q _ I.fresh⟩
variable {tg:Expr}
inductive EqD (K:PySem.W.Frag) (H:Hp):Nat→V→V→Bool→Prop where
 | flat {d:Nat} {x y:V} (fx:flatV x = true) (fy:flatV y = true):EqD K H d x y (eqV x y)
 | tup {d:Nat} {p q:Addr} {xs ys:List V} {e:Nat→Bool} (hn:p ≠ q) (hx:SqT K H p xs) (hy:SqT K H q ys) (he:∀ j,j < xs.length→j < ys.length→EqD K H d (xs.getD j .non) (ys.getD j .non) (e j)) :
   EqD K H (d + 1) (.ref p) (.ref q) ((List.range (min xs.length ys.length)).all e && xs.length == ys.length)
 | lst {d:Nat} {p q:Addr} {xs ys:List V} {e:Nat→Bool} (hn:p ≠ q) (hx:SqL K H p xs) (hy:SqL K H q ys) (hl:xs.length = ys.length) (he:∀ j,j < xs.length→EqD K H d (xs.getD j .non) (ys.getD j .non) (e j)) :
   EqD K H (d + 1) (.ref p) (.ref q) ((List.range xs.length).all e)
 | same {d:Nat} {p:Addr}:EqD K H d (.ref p) (.ref p) true
theorem EqD.at {pins:List (Addr × Obj)} {σ:L2.St} {H:Hp} {s:Shared} (I:Inv X pins σ H s):∀ {d:Nat} {x y:V} {b:Bool} {u v:Value} {A:Around},EqD X.K H d x y b→RelV x u→RelV y v→A.units + d < cLine→SeqAt.EqAt A s u v b:=by
 intro d x y b u v A h
 induction h generalizing u v A with
 | flat fx fy=>intro rx ry _; exact eqAt_V rx ry fx fy
 | same=>intro rx ry _; cases rx; cases ry; exact SeqAt.EqAt.same _
 | @tup d p q xs ys e hn hx hy he ih =>
  intro rx ry hu
  cases rx
  cases ry
  obtain ⟨its,r,pl,_⟩:=I.tuple hx
  obtain ⟨its2,r2,pl2,_⟩:=I.tuple hy
  have hl:=r.length
  have hl2:=r2.length
  have:=SeqAt.EqAt.of_refs hn (SeqAt.RcAt.tuples (A:=A) (e:=e) pl pl2 (by lia) (fun j h1 h2=>by
   have h1':j < its.length:=by simpa using h1
   have h2':j < its2.length:=by simpa using h2
   have z:=ih j (by lia) (by lia) (vals_at r h1') (vals_at r2 h2') (A:=A.in1) (by show A.units + 1 + d < _; lia)
   simpa using z))
  simp only [List.size_toArray,← hl,← hl2] at this
  exact this
 | @lst d p q xs ys e hn hx hy hle he ih =>
  intro rx ry hu
  cases rx
  cases ry
  obtain ⟨its,r,pl,_⟩:=I.list hx
  obtain ⟨its2,r2,pl2,_⟩:=I.list hy
  have hl:=r.length
  have hl2:=r2.length
  have:=SeqAt.EqAt.of_refs hn (SeqAt.RcAt.lists (A:=A) (e:=e) pl.isList pl2.isList (by simp only [List.size_toArray]; lia) (by lia) (fun j h1 h2=>by
   have h1':j < its.length:=by simpa using h1
   have h2':j < its2.length:=by simpa using h2
   have z:=ih j (by lia) (vals_at r h1') (vals_at r2 h2') (A:=A.in1) (by show A.units + 1 + d < _; lia)
   simpa using z))
  simp only [List.size_toArray,← hl] at this
  exact this
def rEqLD (K:PySem.W.Frag) (d:Nat) (neg:Bool):R2:=fun x y H Q=>∃ p q xs ys e,x = .ref p∧y = .ref q∧SqL K H p xs∧SqL K H q ys∧xs.length = ys.length∧(∀ j,j < xs.length→EqD K H d (xs.getD j .non) (ys.getD j .non) (e j))∧Q (.bl (if neg = true then !(List.range xs.length).all e else (List.range xs.length).all e)) H
theorem op_eqLD {d:Nat} (hu:X.A.units + d + 1 < cLine):OpR X (compareOp .Eq) (rEqLD X.K d false):=by
 intro pins s σ H x y v u Q I rx ry h
 obtain ⟨p,q,xs,ys,e,rfl,rfl,hp,hq,hle,he,k⟩:=h
 cases rx
 cases ry
 obtain ⟨its,r,pl,_⟩:=I.list hp
 obtain ⟨its2,r2,pl2,_⟩:=I.list hq
 have hl:=r.length
 have hl2:=r2.length
 refine SeqAt.eq_listAt (e:=e) pl.isList pl2.isList (by simp only [List.size_toArray]; lia) (by lia) (fun j h1 h2=>?_) ⟨.bl _,H,I,rfl,?_⟩
 ·have h1':j < its.length:=by simpa using h1
  have h2':j < its2.length:=by simpa using h2
  have z:=(he j (by lia)).at I (vals_at r h1') (vals_at r2 h2') (A:=X.A.in1) (by show X.A.units + 1 + d < _; lia)
  simpa using z
 ·simp only [List.size_toArray,← hl]
  exact k
theorem op_neLD {d:Nat} (hu:X.A.units + d + 1 < cLine):OpR X (compareOp .NotEq) (rEqLD X.K d true):=by
 intro pins s σ H x y v u Q I rx ry h
 obtain ⟨p,q,xs,ys,e,rfl,rfl,hp,hq,hle,he,k⟩:=h
 cases rx
 cases ry
 obtain ⟨its,r,pl,_⟩:=I.list hp
 obtain ⟨its2,r2,pl2,_⟩:=I.list hq
 have hl:=r.length
 have hl2:=r2.length
 refine SeqAt.RcNeAt.lists (e:=e) pl.isList pl2.isList (by simp only [List.size_toArray]; lia) (by lia) (fun j h1 h2=>?_) X.prog X.w X.xe _ ⟨.bl _,H,I,rfl,?_⟩
 ·have h1':j < its.length:=by simpa using h1
  have h2':j < its2.length:=by simpa using h2
  have z:=(he j (by lia)).at I (vals_at r h1') (vals_at r2 h2') (A:=X.A.in1) (by show X.A.units + 1 + d < _; lia)
  simpa using z
 ·simp only [List.size_toArray,← hl]
  exact k
theorem all_true {n:Nat} {e:Nat→Bool} (h:∀ j,j < n→e j = true):(List.range n).all e = true:=List.all_eq_true.mpr fun j hj=>h j (List.mem_range.mp hj)
end
end Ow
namespace Ow
open PySem PySem.Spec PyProof.Rows L2
section
variable {X:Cx} {tg:Expr}
theorem call_all_bl (hc:X.calm = true):CallR X (.builtin "all") (fun xs H Q=>∃ (a:Addr) (bs:List Bool),xs = [.ref a]∧SqL X.K H a (bs.map V.bl)∧Q (.bl (bs.all id)) H):=by
 intro pins s σ H xs us Q I r h
 obtain ⟨a,bs,rfl,hq,q⟩:=h
 obtain ⟨u,rfl,rx⟩:=vals1 r
 cases rx
 obtain ⟨its,rv,pl,hz⟩:=I.list hq
 have hl:=rv.length
 rw [List.length_map] at hl
 refine call_all_walk (wpAny_pyIter_list pl.isList ?_)
 have hne:a ≠ s.heap.objs.size:=by
  obtain ⟨o,ho,_⟩:=pl.isList
  exact Nat.ne_of_lt (Heap.lt_size ho)
 refine ⟨s.heap.objs.size,_,_,_,_,_,fun j=>bs.getD j false,rfl,Walks.list (A:=X.A.in1) (I.ok.hd hc) s.heap.objs.size a hne its.toArray,⟨⟨_,Heap.get?_push_size _ rfl,rfl,rfl⟩,Heap.IsList.push pl.isList _⟩,?_,?_⟩
 ·intro i v s' Q' E' hP hQ'
  have hP':its[i]? = some v:=by simpa using hP
  have hi:i < its.length:=(List.getElem?_eq_some_iff.mp hP').1
  have hb:(bs.map V.bl)[i]? = some (V.bl (bs.getD i false)):=by
   rw [List.getElem?_map,List.getD_eq_getElem?_getD,List.getElem?_eq_getElem (by lia)]
   rfl
  obtain ⟨u',hu',ru'⟩:=rv.get hb
  rw [hP'] at hu'
  cases hu'
  cases ru'
  exact wpAny_truthy_bool hQ'
 ·intro h' tk hk
  refine ⟨.bl _,H,I.kept (t':=tk) fun b o e=>hk b o (fun z=>?_) (Heap.get?_push_of_some _ e),?_,q⟩
  ·have z':b = s.heap.objs.size:=by simpa using z
   exact absurd (Heap.lt_size e) (by rw [z']; exact Nat.lt_irrefl _)
  ·have e1:(List.range its.toArray.size).all (fun j=>bs.getD j false) = bs.all id:=by
    rw [List.size_toArray,← hl]
    rw [Bool.eq_iff_iff,List.all_eq_true,List.all_eq_true]
    constructor
    ·intro h x hx
     obtain ⟨j,hj,e⟩:=List.getElem_of_mem hx
     have:=h j (List.mem_range.mpr hj)
     rw [List.getD_eq_getElem?_getD,List.getElem?_eq_getElem hj] at this
     show x = true
     rw [← e]
     exact this
    ·intro h j hj
     have hj':=List.mem_range.mp hj
     rw [List.getD_eq_getElem?_getD,List.getElem?_eq_getElem hj']
     exact h _ (List.getElem_mem hj')
   rw [e1]
   rfl
variable {elt iter:Expr} {x:Str} {px pos:Pos} {scope:Scope} {wi:TI} {te:TE} {cl:List (Str × Addr)}
theorem pe_compC (js:List Nat) (ns:List Str) (hc:X.calm = true) (hclos:closureFor scope X.env = pure cl) (hcls:cl.map (·.1) = ns) (hsub:∀ p ∈ cl,X.env.cells.lookup p.1 = some p.2)
  (hno:∀ p ∈ scope.names,p.2 ≠ .cell∧(p.2 = .free→p.1 ∈ ns)) (hkind:scope.kind = .function) (hnames:∀ y ∈ scope.names,y.2 = .local→scope.names.lookup y.1 = some .local) (hx:scope.names.lookup x = some .local)
  (hN:(x :: ns).Nodup) (hkd:∀ y ∈ ns,(Env.kindOf (compEnvC scope cl 0 X.env) y = some .cell∨Env.kindOf (compEnvC scope cl 0 X.env) y = some .free)∧X.env.kindOf y = some .cell)
  (hjl:js.length = ns.length) (hj:js.map (fun j=>X.N[j]?) = ns.map some)
  (hi:PI X (.Name x px) iter wi) (he:∀ C s2 H2 fp,PE (cxComp X (x :: ns) scope cl C s2 H2 fp) elt te)
  (hs:∀ z,foldedSetIterable iter X.env z = pure z:=by intro _; rfl) :
  PE X (.ListComp elt [⟨.Name x px,iter,[],0⟩] scope pos) (tComp wi te fun σ=>js.map fun j=>(σ[j]?).getD none):=by
 refine pe_comp (N:=ns) (cl:=cl) hc hclos (fun n c e=>hsub (n,c) (PySem.mem_of_lookup e)) (fun y hy=>(hno y hy).1) hkind hnames hx (fun y hy=>?_) hN (fun σ=>by rw [List.length_map]; exact hjl) (fun σ i y v _ e1 e2=>?_) hi he hs
 ·have sub:∀ (l:List (Str × NameKind)),(∀ p ∈ l,p.2 ≠ .cell∧(p.2 = .free→p.1 ∈ ns))→∀ p ∈ (l.map fun (n,k)=>if (k == NameKind.free && X.env.scope.kind == ScopeKind.function && X.env.kindOf n == some NameKind.cell) then (n,NameKind.cell) else (n,k)),(p.2 = .cell∨p.2 = .free)→p.1 ∈ ns:=by
   intro l hl p hp hk
   obtain ⟨q,hq,e⟩:=List.mem_map.mp hp
   have h1:=hl q hq
   obtain ⟨n,k⟩:=q
   dsimp only at e
   by_cases hf:k = .free
   ·have h2:=h1.2 hf
    split at e
    ·rw [← e]; exact h2
    ·rw [← e]; exact h2
   ·have hf':(k == NameKind.free) = false:=by
     cases k <;> first | rfl | exact absurd rfl hf
    rw [hf',Bool.false_and,Bool.false_and,if_neg (by decide)] at e
    rw [← e] at hk
    rcases hk with z | z
    ·exact absurd z h1.1
    ·exact absurd z hf
  have hy':y ∈ ns:=by
   rcases hy with z | z
   ·exact sub scope.names hno (y,.cell) (PySem.mem_of_lookup z) (.inl rfl)
   ·exact sub scope.names hno (y,.free) (PySem.mem_of_lookup z) (.inr rfl)
  rw [← hcls] at hy'
  have key:∀ l:List (Str × Addr),y ∈ l.map (·.1)→∃ c,l.lookup y = some c:=by
   intro l
   induction l with
   | nil=>intro h; simp at h
   | cons p r ih =>
    intro h
    by_cases e:y = p.1
    ·exact ⟨p.2,by obtain ⟨p1,p2⟩:=p; dsimp only at e; subst e; simp [List.lookup]⟩
    ·have h':y ∈ r.map (·.1):=by
      rw [List.map_cons] at h
      exact (List.mem_cons.mp h).resolve_left e
     obtain ⟨c,hc'⟩:=ih h'
     refine ⟨c,?_⟩
     obtain ⟨p1,p2⟩:=p
     have:(y == p1) = false:=by simpa using e
     rw [List.lookup_cons,this]
     exact hc'
  exact key cl hy'
 ·have hm:y ∈ ns:=List.mem_of_getElem? e1
  refine ⟨(hkd y hm).1,(hkd y hm).2,?_⟩
  rw [List.getElem?_map] at e2
  cases hji:js[i]? with
  | none=>rw [hji] at e2; cases e2
  | some j =>
   rw [hji] at e2
   have e3:(σ[j]?).getD none = some v:=by
    have:=Option.some.inj e2
    exact this
   have e4:=congrArg (fun l=>l[i]?) hj
   rw [List.getElem?_map,List.getElem?_map,hji,e1] at e4
   have e5:X.N[j]? = some y:=by
    have:=Option.some.inj e4
    exact this
   refine ⟨j,e5,?_⟩
   cases hσ:σ[j]? with
   | none=>rw [hσ] at e3; cases e3
   | some o =>
    rw [hσ] at e3
    have e6:o = some v:=e3
    rw [e6]
end
end Ow
namespace Ow
open PySem PySem.Spec PyProof.Rows L2
section
variable {X:Cx}
theorem ix_listK {K:PySem.W.Frag} (h:X.K = K):IxR X (rIxL K):=by
 subst h
 exact ix_list
theorem ix_tupK {K:PySem.W.Frag} (h:X.K = K):IxR X (rIxT K):=by
 subst h
 exact ix_tup
variable {elt iter:Expr} {x:Str} {px pos:Pos} {scope:Scope} {wi:TI} {te:TE} {cl:List (Str × Addr)}
theorem ps_compC {i:Nat} {y:Str} {py spos:Pos} (hNX:X.N.Nodup) (hiy:X.N[i]? = some y) (hly:Loc X.env.scope y) (hsw:swapsWith (.ListComp elt [⟨.Name x px,iter,[],0⟩] scope pos) (some (.Name y py)) spos.line X.env = pure true) (js:List Nat) (ns:List Str) (hc:X.calm = true) (hclos:closureFor scope X.env = pure cl) (hcls:cl.map (·.1) = ns) (hsub:∀ p ∈ cl,X.env.cells.lookup p.1 = some p.2)
  (hno:∀ p ∈ scope.names,p.2 ≠ .cell∧(p.2 = .free→p.1 ∈ ns)) (hkind:scope.kind = .function) (hnames:∀ y ∈ scope.names,y.2 = .local→scope.names.lookup y.1 = some .local) (hx:scope.names.lookup x = some .local)
  (hN:(x :: ns).Nodup) (hkd:∀ y ∈ ns,(Env.kindOf (compEnvC scope cl 0 X.env) y = some .cell∨Env.kindOf (compEnvC scope cl 0 X.env) y = some .free)∧X.env.kindOf y = some .cell)
  (hjl:js.length = ns.length) (hj:js.map (fun j=>X.N[j]?) = ns.map some)
  (hi:PI X (.Name x px) iter wi) (he:∀ C s2 H2 fp,PE (cxComp X (x :: ns) scope cl C s2 H2 fp) elt te)
  (hs:∀ z,foldedSetIterable iter X.env z = pure z:=by intro _; rfl) (hf:X.fn y = true∨X.env.scope.names.lookup y = some .local:=by first | exact .inl rfl | exact .inr rfl | assumption) :
  PS X (.Assign [.Name y py] (.ListComp elt [⟨.Name x px,iter,[],0⟩] scope pos) spos) (tAsg (tComp wi te fun σ=>js.map fun j=>(σ[j]?).getD none) (gName i)):=by
 refine ps_comp hNX hiy hly hsw (N:=ns) (cl:=cl) hc hclos (fun n c e=>hsub (n,c) (PySem.mem_of_lookup e)) (fun y hy=>(hno y hy).1) hkind hnames hx (fun y hy=>?_) hN (fun σ=>by rw [List.length_map]; exact hjl) (fun σ i y v _ e1 e2=>?_) hi he hs hf
 ·have sub:∀ (l:List (Str × NameKind)),(∀ p ∈ l,p.2 ≠ .cell∧(p.2 = .free→p.1 ∈ ns))→∀ p ∈ (l.map fun (n,k)=>if (k == NameKind.free && X.env.scope.kind == ScopeKind.function && X.env.kindOf n == some NameKind.cell) then (n,NameKind.cell) else (n,k)),(p.2 = .cell∨p.2 = .free)→p.1 ∈ ns:=by
   intro l hl p hp hk
   obtain ⟨q,hq,e⟩:=List.mem_map.mp hp
   have h1:=hl q hq
   obtain ⟨n,k⟩:=q
   dsimp only at e
   by_cases hf:k = .free
   ·have h2:=h1.2 hf
    split at e
    ·rw [← e]; exact h2
    ·rw [← e]; exact h2
   ·have hf':(k == NameKind.free) = false:=by
     cases k <;> first | rfl | exact absurd rfl hf
    rw [hf',Bool.false_and,Bool.false_and,if_neg (by decide)] at e
    rw [← e] at hk
    rcases hk with z | z
    ·exact absurd z h1.1
    ·exact absurd z hf
  have hy':y ∈ ns:=by
   rcases hy with z | z
   ·exact sub scope.names hno (y,.cell) (PySem.mem_of_lookup z) (.inl rfl)
   ·exact sub scope.names hno (y,.free) (PySem.mem_of_lookup z) (.inr rfl)
  rw [← hcls] at hy'
  have key:∀ l:List (Str × Addr),y ∈ l.map (·.1)→∃ c,l.lookup y = some c:=by
   intro l
   induction l with
   | nil=>intro h; simp at h
   | cons p r ih =>
    intro h
    by_cases e:y = p.1
    ·exact ⟨p.2,by obtain ⟨p1,p2⟩:=p; dsimp only at e; subst e; simp [List.lookup]⟩
    ·have h':y ∈ r.map (·.1):=by
      rw [List.map_cons] at h
      exact (List.mem_cons.mp h).resolve_left e
     obtain ⟨c,hc'⟩:=ih h'
     refine ⟨c,?_⟩
     obtain ⟨p1,p2⟩:=p
     have:(y == p1) = false:=by simpa using e
     rw [List.lookup_cons,this]
     exact hc'
  exact key cl hy'
 ·have hm:y ∈ ns:=List.mem_of_getElem? e1
  refine ⟨(hkd y hm).1,(hkd y hm).2,?_⟩
  rw [List.getElem?_map] at e2
  cases hji:js[i]? with
  | none=>rw [hji] at e2; cases e2
  | some j =>
   rw [hji] at e2
   have e3:(σ[j]?).getD none = some v:=by
    have:=Option.some.inj e2
    exact this
   have e4:=congrArg (fun l=>l[i]?) hj
   rw [List.getElem?_map,List.getElem?_map,hji,e1] at e4
   have e5:X.N[j]? = some y:=by
    have:=Option.some.inj e4
    exact this
   refine ⟨j,e5,?_⟩
   cases hσ:σ[j]? with
   | none=>rw [hσ] at e3; cases e3
   | some o =>
    rw [hσ] at e3
    have e6:o = some v:=e3
    rw [e6]
end
end Ow
namespace Ow
open PySem PySem.Spec PyProof.Rows L2
structure Gnd (P:Program) (w:World) (base:Heap) (fs:List Addr) (H H':Hp) (h B:Heap):Prop where
 st:base.StaysIn B
 keep:∀ b o,h.get? b = some o→H b = none→b ∉ fs→B.get? b = some o
 free:∀ b o,h.get? b = some o→H b = none→H' b = none
 there:∀ b o,h.get? b = some o→b ∉ fs→∃ o',B.get? b = some o'
 tups:∀ b xs,H b = some (.tup xs)→H' b = some (.tup xs)
 frzs:∀ b o u,H b = some (.frz o u)→H' b = some (.frz o u)
 tbls:∀ b ps,H b = some (.tbl ps)→∃ more,H' b = some (.tbl (ps ++ more))
 hok:HOk P w H' B
def Slots (fs:List Addr) (h h':Heap):Prop:=∀ b ∈ fs,∀ o,h.get? b = some o→∃ sl,h'.get? b = some { o with slots:=sl }
section
variable {P:Program} {w:World} {base h h1 h2 B:Heap} {fs:List Addr} {H H':Hp} {l:List Env}
theorem Gnd.un (G:Gnd P w base fs H H' h B) (sb:B.StaysIn h1) (sl:Slots fs h h1):Un fs [] H H' h h1 where
 keep:=fun b o q n hb _=>sb _ _ (G.keep b o q n hb)
 slot:=fun b o q _ hb _=>sl b hb o q
 free:=fun b o q n _=>G.free b o q n
 there:=fun b o q _=>by
  by_cases hb:b ∈ fs
  ·obtain ⟨s,e⟩:=sl b hb o q
   exact ⟨_,e⟩
  ·obtain ⟨o',e⟩:=G.there b o q hb
   exact ⟨o',sb _ _ e⟩
 tups:=G.tups
 frzs:=G.frzs
 tbls:=G.tbls
theorem Slots.on (x:Slots (frs l) h h1) (hl:h1.FunFrames B l) (u:h1.UpToSlots h2):Slots (frs l) h h2:=fun b hb o q=>by
 obtain ⟨sl,e⟩:=x b hb o q
 obtain ⟨_,o1,e1,d1⟩:=hl.mem hb
 rw [e] at e1
 cases e1
 obtain ⟨s2,e2⟩:=u b _ e d1
 exact ⟨s2,e2⟩
end
abbrev VE:List Value:=[.type "ValueError",.type "Exception",.type "BaseException",.type "object"]
section
variable {P:Program} {w:World} {K:PySem.W.Frag} {mg:Str→Option Value} {base:Heap} {N:List Str} {qual:Str} {scope:Scope} {f:Addr} {cdv:Value} {A:Around} {outer:List Env} {s₀:Shared} {H₀:Hp} {E:XK}
end
def caught (X:Cx) (a:Addr) (oe:Obj):Cx:={ X with A:=X.A.mark (some (.ref a)),calm:=false,pn:=(a,oe) :: X.pn }
section
variable {X:Cx} {pins:List (Addr × Obj)} {σ:L2.St} {H:Hp} {s:Shared} {a:Addr} {oe:Obj}
theorem caught_inv (I:Inv X pins σ H s) (e:s.heap.get? a = some oe) (n:H a = none) (hl:a ≠ X.env.locals) (hf:a ∉ X.fs) (hd:∀ v,oe.data ≠ .cell v):Inv (caught X a oe) pins σ H s :=
 ⟨⟨I.ok.mod,I.ok.kind,I.ok.glob,I.ok.blt,I.ok.above,I.ok.inj,I.ok.has,I.ok.cab,(fun z=>nomatch z),I.ok.frames,I.ok.stk,I.ok.exf,I.ok.bs,I.ok.bsz,I.ok.noex,I.ok.exfs,I.ok.funs,I.ok.frf⟩,
  I.os,I.bare,I.base,I.loc,I.cell,I.free,I.freeC,fun p hp=>by
   rcases List.mem_cons.mp (show p ∈ (a,oe) :: (X.pn ++ pins) from hp) with rfl | hp
   ·exact ⟨e,n,hl,hf,hd⟩
   ·exact I.pin p hp,I.hok,I.len⟩
theorem suite_end {h':Heap} {m':Str→Option Value} {t':Nat} (I:Inv (caught X a oe) pins σ H s) (okX:X.Ok) (hn:h'.Ns X.env.locals m') (hs:Heap.SameBut X.env.locals s.heap h') :
  Inv X pins (List.replicate X.N.length none) H { s with heap:=h',toks:=t' }:=by
 have neL:∀ b o,X.s₀.heap.get? b = some o→b ≠ X.env.locals:=fun b o e=>Nat.ne_of_lt (Nat.lt_of_lt_of_le (Heap.lt_size e) okX.above)
 refine ⟨okX,I.os,I.bare,⟨fun b o e n hb hx=>?_,fun b o e n hb hx=>?_,I.base.free,fun b o e hx=>?_,I.base.tups,I.base.frzs,I.base.tbls⟩,⟨m',hn,fun i x v e1 e2 e3=>?_⟩,fun x c e=>?_,I.free,I.freeC,fun p hp=>?_,fun b ob e=>?_,List.length_replicate ..⟩
 ·exact (hs.2 b (neL b o e)).trans (I.base.keep b o e n hb hx)
 ·obtain ⟨sl,e1⟩:=I.base.slot b o e n hb hx
  exact ⟨sl,(hs.2 b (neL b o e)).trans e1⟩
 ·obtain ⟨o',e1⟩:=I.base.there b o e hx
  exact ⟨o',(hs.2 b (neL b o e)).trans e1⟩
 ·rw [List.getElem?_replicate] at e2
  split at e2 <;> cases e2
 ·obtain ⟨v,z⟩:=I.cell x c e
  exact ⟨v,z.sameBut hs (I.cne x c e)⟩
 ·obtain ⟨e,n,ne,nf,d⟩:=I.pin p (List.mem_cons_of_mem _ hp)
  exact ⟨(hs.2 p.1 ne).trans e,n,ne,nf,d⟩
 ·refine (I.hok b ob e).stay (fun c w' hc z=>(hs.2 c ?_).trans z) (fun _ z=>z) fun _ _ z=>z
  have fr:H X.env.locals = none:=I.free
  rintro rfl
  rcases hc with rfl | hc
  ·rw [fr] at e; cases e
  ·rw [fr] at hc; cases hc
end
section
variable {X:Cx} {k i j:Nat} {f y n c:Str} {ps:List Str} {sp:Sp} {e:Expr} {es:List Expr} {ta:TA} {C₁:Addr} {b₀:Stmt} {suite:List Stmt} {tb:Addr→Obj→TS} {py p pos apos np hpos tpos:Pos}
end
structure ExF (K:PySem.W.Frag) (C:Addr):Prop where
 ga:PySem.W.findIn K (.ref C) "__getattribute__" = some (some (.builtin "BaseException.__getattribute__"))
 gn:PySem.W.findIn K (.ref C) "__getattr__" = some none
 gc:PySem.W.findIn K (.ref C) "__class__" = some (some (.builtin "object.__class__"))
 mo:PySem.W.mroIn K C (.type "object") = some true
 mb:PySem.W.mroIn K C (.type "BaseException") = some true
section
variable {prog:Program} {w:World} {A:Around} {E:Value→Shared→Prop} {h:Heap} {g:Array GenState} {d:Drawn} {t:Nat} {os:OsState} {K:PySem.W.Frag} {a C:Addr} {o:Obj}
theorem exc_get {R:Result→Shared→Prop} (X:K.In h) (f:ExF K C) (hx:h.get? a = some o) (hc:o.cls = .ref C) (hq:R (.ok (.ret (.ref C))) ⟨h,g,d,t,os⟩) :
  codeAny (model prog w) A (.call (.builtin "getset_descriptor.__get__") ⟨[.builtin "object.__class__",.ref a,.ref C],[]⟩) R ⟨h,g,d,t,os⟩:=by
 have hT5:(⟨h,g,d,t,os⟩:Shared).TypeIs (.builtin "object.__class__") "getset_descriptor":=F.typeOf_object_class
 have L1:PySem.W.Looks (model prog w) h (isSubtype (.ref C) (.type (".".intercalate ("object.__class__".cutAt '.').dropLast))) true:=by
  rw [F.owner_object_class]
  exact PySem.W.looks_mroIn X f.mo
 refine codeAny_call_builtin F.slot_gs_get.plain F.entry_gs_get (F.slot_gs_get.check _ _ _ _ _ _ _ _ hT5 (F.args_gs_get _ _ _) ?_)
 repeat (any_goals (first | assumption | (with_reducible refine wpAny_loadPart_at hx ?_; rw [hc]) | with_reducible refine L1.at ?_ | wp_step))
 refine ⟨Code.quiet_builtin _ (by decide +kernel),codeAny_builtin F.entry_object_class ?_⟩
 repeat (any_goals (first | assumption | (with_reducible refine wpAny_loadPart_at hx ?_; rw [hc]) | wp_step))
theorem exc_entry {tk:Tok} {Q:Fin→Shared→Prop} (X:K.In h) (f:ExF K C) (hx:h.get? a = some o) (hc:o.cls = .ref C) (hq:Q (.done (.ret (.ref C))) ⟨h,g,d,t,os⟩) :
  wpAny (model prog w) A (Builtin.«object.__getattribute__» ⟨[.ref a,.str "__class__" tk],[]⟩) Q E ⟨h,g,d,t,os⟩:=by
 have hT5:(⟨h,g,d,t,os⟩:Shared).TypeIs (.builtin "object.__class__") "getset_descriptor":=F.typeOf_object_class
 have L1:=PySem.W.looks_findIn (M:=model prog w) X f.gc
 have f5:=F.typeOf_object_class
 have f6:=F.slot_gs_get.lookup
 have f7:=F.slot_gs_set.lookup
 repeat (any_goals (first | assumption | (with_reducible refine wpAny_loadPart_at hx ?_; rw [hc]) | with_reducible refine L1.at ?_ | wp_step))
 refine exc_get X f hx hc ?_
 repeat (any_goals (first | assumption | wp_step))
theorem exc_check {M:Model} {nv:Value} {Q:Unit→Shared→Prop} (X:K.In h) (f:ExF K C) (hx:h.get? a = some o) (hc:o.cls = .ref C) (hq:Q () ⟨h,g,d,t,os⟩) :
  wpAny M A (checkBuiltinCall "BaseException.__getattribute__" ⟨[.ref a,nv],[]⟩) Q E ⟨h,g,d,t,os⟩:=by
 have k1:builtinKind "BaseException.__getattribute__" = some .slot:=by decide +kernel
 have k2:splitId "BaseException.__getattribute__" = some ("BaseException", "__getattribute__"):=by decide +kernel
 have L1:=PySem.W.looks_mroIn (M:=M) X f.mb
 have k3:=F.args_bexc_ga (.ref a) nv
 simp only [checkBuiltinCall,k1,k2]
 refine wpAny_bind ?_
 unfold isInstance
 repeat (first | (with_reducible refine wpAny_loadPart_at hx ?_; rw [hc]) | with_reducible refine L1.at ?_ | wp_step)
 exact hq
theorem exc_call {tk:Tok} {R:Result→Shared→Prop} (X:K.In h) (f:ExF K C) (hx:h.get? a = some o) (hc:o.cls = .ref C) (hq:R (.ok (.ret (.ref C))) ⟨h,g,d,t,os⟩) :
  codeAny (model prog w) A (.call (.builtin "BaseException.__getattribute__") ⟨[.ref a,.str "__class__" tk],[]⟩) R ⟨h,g,d,t,os⟩ :=
 codeAny_call_builtin F.attr_ValueError.ga.plain F.entry_bexc_ga (exc_check X f hx hc (exc_entry X f hx hc hq))
theorem exc_by {tk:Tok} {fill:Bool} {Q:Value→Shared→Prop} (X:K.In h) (f:ExF K C) (hx:h.get? a = some o) (hc:o.cls = .ref C) (hq:Q (.ref C) ⟨h,g,d,t,os⟩) :
  wpAny (model prog w) A (getAttrBy (.ref a) (.str "__class__" tk) fill) Q E ⟨h,g,d,t,os⟩:=by
 have f3:=F.attr_ValueError.ga.bind (.ref a)
 have L1:=PySem.W.looks_findIn (M:=model prog w) X f.ga
 have L2:=PySem.W.looks_findIn (M:=model prog w) X f.gn
 have hx2:(Value.builtin "BaseException.__getattribute__" == Value.builtin "object.__getattribute__") = false:=by decide +kernel
 have hx1:(onTheHeap (Value.ref C) && Value.builtin "BaseException.__getattribute__" == Value.builtin "object.__getattribute__") = false:=by rw [hx2]; rfl
 have hx0:(false && onTheHeap (Value.builtin "BaseException.__getattribute__")) = false:=rfl
 repeat (any_goals (first | assumption | (with_reducible refine wpAny_loadPart_at hx ?_; rw [hc]) | with_reducible refine L1.at ?_ | with_reducible refine L2.at ?_ | wp_step))
 refine exc_call X f hx hc ?_
 repeat (any_goals (first | assumption | wp_step))
theorem exc_class {Q:Option Value→Shared→Prop} (X:K.In h) (f:ExF K C) (hx:h.get? a = some o) (hc:o.cls = .ref C) (hq:Q (some (.ref C)) ⟨h,g,d,t + 1,os⟩) :
  wpAny (model prog w) A (getAttr? (.ref a) "__class__") Q E ⟨h,g,d,t,os⟩:=by
 unfold getAttr? getAttrBy?
 refine wpAny_bind (wpAny_mkText (wpAny_bind (wpAny_attempt (exc_by X f hx hc ?_))))
 exact wpAny_pure hq
end
theorem kitx_exc {K:PySem.W.Frag} {a C:Addr} (f:ExF K C):PySem.W.KitX K (.ref a) (.ref C) (fun h=>∃ o,h.get? a = some o∧o.cls = .ref C) where
 ty:=fun M h _ p=>by
  obtain ⟨o,e1,e2⟩:=p
  exact e2 ▸ (PySem.W.Looks.ld e1).andThen .now
 it:=fun M h X _=>by
  obtain ⟨cd,e1,_⟩:=Option.bind_eq_some_iff.mp f.mo
  unfold PySem.W.clsIn at e1
  split at e1
  ·next c' d' cd' sl' e0 =>
   intro A' Q' E' s' k q
   unfold isType loadHead
   exact wpAny_bind (wpAny_loadPart (k _ _ (X _ _ e0)) (wpAny_pure q))
  ·cases e1
 ne:=fun h tp dd its n sl X htp=>by
  obtain ⟨cd,e1,_⟩:=Option.bind_eq_some_iff.mp f.mo
  refine Bool.eq_false_iff.mpr fun q=>?_
  have e:C = tp:=Value.ref.inj (beq_iff_eq.mp q)
  subst e
  unfold PySem.W.clsIn at e1
  split at e1
  ·next c' d' cd' sl' e0 =>
   have z:=(X _ _ e0).symm.trans htp
   cases z
  ·cases e1
 ca:=fun {prog w A E Q s} X p k=>by
  obtain ⟨hh,g,d,t,os⟩:=s
  obtain ⟨o,e1,e2⟩:=p
  exact exc_class X f e1 e2 k
theorem kitc_of {K:PySem.W.Frag} {C D:Addr} {b:Bool} (h1:PySem.W.isClsIn K D = true) (h2:PySem.W.typeIn K (.ref D) = some (.type "type")) (h3:PySem.W.mroIn K C (.ref D) = some b):PySem.W.kitCls K (.ref C) (.ref D) = some b:=by
 unfold PySem.W.kitCls
 have e:((PySem.W.clsIn K D).isSome && PySem.W.typeIn K (.ref D) == some (.type "type")) = true:=by
  rw [h2]
  have h1':(PySem.W.clsIn K D).isSome = true:=h1
  rw [h1',Bool.true_and]
  exact beq_self_eq_true _
 show (if ((PySem.W.clsIn K D).isSome && PySem.W.typeIn K (.ref D) == some (.type "type")) = true then PySem.W.subIn K (.ref C) (.ref D) else none) = _
 rw [if_pos e]
 exact h3
theorem exm_of {K:PySem.W.Frag} {C D:Addr} (h1:PySem.W.isClsIn K D = true) (h2:PySem.W.typeIn K (.ref D) = some (.type "type")) (h3:PySem.W.mroIn K C (.ref D) = some true) (h4:PySem.W.mroIn K D (.type "BaseException") = some true):PySem.W.exmOne K (.ref C) (.ref D) = some true:=by
 unfold PySem.W.exmOne
 have e:PySem.W.subIn K (.ref D) (.type "BaseException") = some true:=h4
 rw [e,if_pos (by rw [beq_self_eq_true])]
 exact kitc_of h1 h2 h3
theorem kit_apart {K:PySem.W.Frag} {C D:Addr} (h1:PySem.W.isClsIn K D = true) (h2:PySem.W.typeIn K (.ref D) = some (.type "type")) (h3:PySem.W.mroIn K C (.ref D) = some false) (h4:PySem.W.mroIn K D (.ref D) = some true):PySem.W.kitOne K (.ref C) (.ref D) = some false:=by
 unfold PySem.W.kitOne
 split
 ·next q =>
  have e:C = D:=Value.ref.inj (beq_iff_eq.mp q)
  subst e
  rw [h3] at h4
  cases h4
 ·exact kitc_of h1 h2 h3
end Ow
namespace Ow
open PySem PySem.Spec PyProof.Rows L2
section
variable {P:Program} {w:World} {K:PySem.W.Frag} {mg:Str→Option Value} {base:Heap} {N:List Str} {qual:Str} {scope:Scope} {f:Addr} {cdv:Value} {A:Around} {outer:List Env} {s₀:Shared} {H₀:Hp} {E:XK}
end
def pinned (X:Cx) (pins:List (Addr × Obj)):Cx:={ X with pn:=X.pn ++ pins }
section
variable {X:Cx} {pins pins':List (Addr × Obj)} {σ:L2.St} {H:Hp} {s:Shared} {E:L2.St→XK}
theorem to_pinned (I:Inv X pins σ H s):Inv (pinned X pins) [] σ H s :=
 ⟨⟨I.ok.mod,I.ok.kind,I.ok.glob,I.ok.blt,I.ok.above,I.ok.inj,I.ok.has,I.ok.cab,I.ok.hd,I.ok.frames,I.ok.stk,I.ok.exf,I.ok.bs,I.ok.bsz,I.ok.noex,I.ok.exfs,I.ok.funs,I.ok.frf⟩,
  I.os,I.bare,I.base,I.loc,I.cell,I.free,I.freeC,fun p hp=>I.pin p (by
   rw [List.append_nil] at hp
   exact hp),I.hok,I.len⟩
theorem of_pinned (okX:X.Ok) (I:Inv (pinned X pins) pins' σ H s):Inv X pins σ H s :=
 ⟨okX,I.os,I.bare,I.base,I.loc,I.cell,I.free,I.freeC,fun p hp=>I.pin p (List.mem_append_left _ hp),I.hok,I.len⟩
def tCallT (sp:Sp) (E:L2.St→XK) (t:TA):TE:=fun σ H Q=>t σ H fun vs H1=>sp (vs ++ []) H1 Q (E σ)
end
theorem kit_base {K:PySem.W.Frag} {C:Addr} {T:String} (h0:PySem.W.kitMeta T = true) (h1:PySem.W.mroIn K C (.type T) = some true):PySem.W.kitOne K (.ref C) (.type T) = some true:=by
 unfold PySem.W.kitOne
 rw [if_neg (by intro z; cases (beq_iff_eq.mp z))]
 show (if PySem.W.kitMeta T = true then PySem.W.subIn K (.ref C) (.type T) else none) = _
 rw [if_pos h0]
 exact h1
end Ow
namespace Ow
open PySem PySem.Spec PyProof.Rows L2
section
variable {X:Cx} {pins:List (Addr × Obj)} {σ:L2.St} {H:Hp} {s:Shared} {a:Addr} {oe:Obj} {j:Nat} {n:Str}
theorem suite_endK {h':Heap} {m:Str→Option Value} {v':Option Value} {t':Nat} (I:Inv (caught X a oe) pins σ H s) (okX:X.Ok) (hN:X.N.Nodup) (hj:X.N[j]? = some n)
  (hl:∀ (i:Nat) (x:Str) (v:V),X.N[i]? = some x→σ[i]? = some (some v)→Vis X.env.scope x→∃ u,RelV v u∧Look X.env s.heap m x u)
  (hn:h'.Ns X.env.locals (fun x=>if x = n then v' else m x)) (hs:Heap.SameBut X.env.locals s.heap h') :
  Inv X pins (σ.set j none) H { s with heap:=h',toks:=t' }:=by
 have neL:∀ b o,X.s₀.heap.get? b = some o→b ≠ X.env.locals:=fun b o e=>Nat.ne_of_lt (Nat.lt_of_lt_of_le (Heap.lt_size e) okX.above)
 refine ⟨okX,I.os,I.bare,⟨fun b o e n hb hx=>?_,fun b o e n hb hx=>?_,I.base.free,fun b o e hx=>?_,I.base.tups,I.base.frzs,I.base.tbls⟩,⟨_,hn,fun i x v e1 e2 e3=>?_⟩,fun x c e=>?_,I.free,I.freeC,fun p hp=>?_,fun b ob e=>?_,by rw [List.length_set]; exact I.len⟩
 ·exact (hs.2 b (neL b o e)).trans (I.base.keep b o e n hb hx)
 ·obtain ⟨sl,e1⟩:=I.base.slot b o e n hb hx
  exact ⟨sl,(hs.2 b (neL b o e)).trans e1⟩
 ·obtain ⟨o',e1⟩:=I.base.there b o e hx
  exact ⟨o',(hs.2 b (neL b o e)).trans e1⟩
 ·by_cases hij:i = j
  ·subst hij
   have hi:i < σ.length:=by have z:σ.length = X.N.length:=I.len; rw [z]; exact (List.getElem?_eq_some_iff.mp hj).1
   rw [List.getElem?_set_self hi] at e2
   cases e2
  ·rw [List.getElem?_set_ne (Ne.symm hij)] at e2
   obtain ⟨u',r',q⟩:=hl i x v e1 e2 e3
   refine ⟨u',r',?_⟩
   rcases q with ⟨k,e⟩ | ⟨k,c,e,z⟩
   ·refine .inl ⟨k,?_⟩
    have:x ≠ n:=fun e=>hij (nodup_ix hN e1 (e ▸ hj))
    simp [this,e]
   ·exact .inr ⟨k,c,e,z.sameBut hs (I.cne x c e)⟩
 ·obtain ⟨v,z⟩:=I.cell x c e
  exact ⟨v,z.sameBut hs (I.cne x c e)⟩
 ·obtain ⟨e,n,ne,nf,d⟩:=I.pin p (List.mem_cons_of_mem _ hp)
  exact ⟨(hs.2 p.1 ne).trans e,n,ne,nf,d⟩
 ·refine (I.hok b ob e).stay (fun c w' hc z=>(hs.2 c ?_).trans z) (fun _ z=>z) fun _ _ z=>z
  have fr:H X.env.locals = none:=I.free
  rintro rfl
  rcases hc with rfl | hc
  ·rw [fr] at e; cases e
  ·rw [fr] at hc; cases hc
end
def endsK (j:Nat) (D:Ends):Ends:={ nx:=fun σ H=>D.nx (σ.set j none) H,rt:=D.rt }
section
variable {X:Cx} {j:Nat} {n c:Str} {C₁:Addr} {b₀:Stmt} {suite:List Stmt} {tb:Addr→Obj→TS} {np hpos:Pos}
end
end Ow
namespace Ow
open PySem PySem.Spec PyProof.Rows L2
def Ctx0 (o:Obj):Prop:=∃ vs,o.data = .fields vs∧vs[2]? = some .none
def OwnD (c:Bool) (h:Heap) (e:Addr) (d:Option Addr):Prop:=∃ o,h.get? e = some o∧o.dict = d∧(c = true→Ctx0 o)
theorem mapF_dict (f:Array Value→Array Value) (o:Obj):(Obj.mapFields f o).dict = o.dict:=by
 obtain ⟨c,d,dt,sl⟩:=o
 cases dt <;> rfl
section
variable {M:Model} {A:Around} {E:Value→Shared→Prop} {s:Shared} {bs:Heap} {en:Env} {out:List Env} {L e:Addr} {c:Bool}
theorem entry_own {oe:Obj} {vs:Array Value} {hd0 a0:Value} {nx:Bool} {Q:Unit→Shared→Prop} (fr:A.frames = some (en :: out)) (ff:s.heap.FunFrames bs (en :: out)) (fl:en.frame = some L)
  (ge:s.heap.get? e = some oe) (st:bs.StaysIn s.heap) (ne:bs.get? e = none) (dt:oe.data = .fields vs) (z1:1 < vs.size) (z0:vs[0]? = some a0) (z2:c = true→vs[2]? = some .none)
  (k:∀ h',Heap.NotedW bs (en :: out) e oe.cls a0 (rawInt L) s.heap h'→OwnD c h' e oe.dict→Q () { s with heap:=h' }) :
  wpAny M A (do let a ← frameOf en; let pl ← entryPlaceOf L nx; let b ← EntryCells.newEntry hd0 a .none (rawInt L) .none pl; setField (.ref e) 1 b) Q E s:=by
 have nf:e ∉ (en :: out).filterMap (·.frame):=fun hm=>by
  obtain ⟨_,o,g1,g2⟩:=ff.mem hm
  rw [ge] at g1
  cases g1
  exact g2 _ dt
 refine wpAny_bind (wpAny_frameOf_fun fr ff fl fun h1 so=>wpAny_bind (wpAny_entryPlaceOf fun pl hpl=>?_))
 unfold EntryCells.newEntry newFields
 refine wpAny_bind (wpAny_newObj_type ?_ (hpl.sizeOk5 _ _ _ _ _))
 generalize hT:(([hd0,Value.ref L,Value.none,rawInt L,Value.none] ++ (if pl.isEmpty then List.replicate 6 Value.none else pl)).toArray:Array Value) = ts
 have t3:ts[3]? = some (rawInt L):=by
  rw [← hT]
  rfl
 have g1:h1.get? e = some oe:=(so.2.1 e nf).trans ge
 have g2:(h1.push { cls:=.type "traceback",dict:=none,data:=.fields ts }).get? e = some oe:=Heap.get?_push_of_some _ g1
 have neT:h1.objs.size ≠ e:=Nat.ne_of_gt (Heap.lt_size g1)
 have st1:bs.StaysIn h1:=fun b o hb=>(so.2.1 b fun hm=>by rw [(ff.mem hm).1] at hb; cases hb).trans (st b o hb)
 refine wpAny_setField g2 dt z1 (k _ ?_ ?_)
 ·have g3:=Heap.get?_update_self (Obj.mapFields (·.setIfInBounds 1 (Value.ref h1.objs.size))) g2 (Obj.isFreed_of_fields (Obj.data_mapFields dt _))
  have kp:∀ b o,b ≠ e→h1.get? b = some o→((h1.push { cls:=.type "traceback",dict:=none,data:=.fields ts }).update e (Obj.mapFields (·.setIfInBounds 1 (Value.ref h1.objs.size)))).get? b = some o:=fun b o hb q=>by
   rw [Heap.get?_update_other _ _ (Ne.symm hb)]
   exact Heap.get?_push_of_some _ q
  have nr:∀ b o,s.heap.get? b = some o→(∀ us,o.data ≠ .fields us)→b ≠ e:=fun b o q hn z=>by
   subst z
   rw [ge] at q
   cases q
   exact hn _ dt
  refine ⟨fun b o hb=>kp b o (fun z=>by rw [z,ne] at hb; cases hb) (st1 b o hb),ff.of_keeps fun b o q hn=>?_,⟨_,_,h1.objs.size,⟨.type "traceback",none,.fields ts,#[]⟩,ts,g3,⟨Obj.cls_mapFields _ _,?_⟩,Obj.data_mapFields dt _,?_,st1.fresh,neT,?_,rfl,t3⟩,fun b o q hn=>?_⟩
  ·obtain ⟨sl,e1⟩:=so.2.2 b o q
   exact ⟨_,kp b _ (nr b o q hn) e1,rfl⟩
  ·rw [Array.getElem?_setIfInBounds_ne (by decide)]
   exact z0
  ·rw [Array.getElem?_setIfInBounds_self_of_lt z1]
  ·exact (Heap.get?_update_other _ _ (Ne.symm neT)).trans (Heap.get?_push_size h1 rfl)
  ·obtain ⟨sl,e1⟩:=so.2.2 b o q
   exact ⟨sl,kp b _ (nr b o q hn) e1⟩
 ·exact ⟨_,Heap.get?_update_self _ g2 (Obj.isFreed_of_fields (Obj.data_mapFields dt _)),mapF_dict _ _,fun hc=>⟨_,Obj.data_mapFields dt _,by rw [Array.getElem?_setIfInBounds_ne (by decide)]; exact z2 hc⟩⟩
theorem note_own {cls a0:Value} {d:Option Addr} {Q:Unit→Shared→Prop} (fr:A.frames = some (en :: out)) (fl:en.frame = some L) (F:Heap.FlyingW bs (en :: out) e cls a0 s.heap) (D:OwnD c s.heap e d)
  (k:∀ h',Heap.HeldW bs (en :: out) e cls a0 L h'→OwnD c h' e d→s.heap.UpToSlots h'→Q () { s with heap:=h' }):wpAny M A (noteFrame (.ref e) en) Q E s:=by
 obtain ⟨st,ne,ff,oe,vs,T,oT,ts,ge,⟨rfl,z0⟩,dt,z1,nT,neT,gT,dT,t3⟩:=F
 obtain ⟨o1,g1,rfl,hc⟩:=D
 cases ge.symm.trans g1
 unfold noteFrame
 simp only [fl]
 refine wpAny_bind (wpAny_field ge dt z1 ?_)
 rw [if_pos (show (Value.ref T != Value.none) = true from rfl)]
 refine wpAny_bind (wpAny_field gT dT t3 ?_)
 rw [if_neg (show ¬ ((Value.none == rawInt L) = true) from fun z=>by cases z)]
 refine wpAny_bind (wpAny_setField gT dT (Array.getElem?_eq_some_iff.mp t3).1 ?_)
 have ot:∀ b,b ≠ T→(s.heap.update T (Obj.mapFields (·.setIfInBounds 3 Value.none))).get? b = s.heap.get? b:=fun b hb=>Heap.get?_update_other _ _ (Ne.symm hb)
 have nr:∀ b o,s.heap.get? b = some o→(∀ us,o.data ≠ .fields us)→b ≠ T:=fun b o q hn z=>by
  subst z
  rw [gT] at q
  cases q
  exact hn _ dT
 refine entry_own (s:={ s with heap:=s.heap.update T (Obj.mapFields (·.setIfInBounds 3 Value.none)) }) fr (ff.of_keeps fun b o q hn=>⟨o,(ot b (nr b o q hn)).trans q,rfl⟩) fl ((ot e (Ne.symm neT)).trans ge) (fun b o q=>(ot b fun z=>by subst z; rw [nT] at q; cases q).trans (st b o q)) ne dt
  (Array.getElem?_eq_some_iff.mp z1).1 z0 (fun h=>by obtain ⟨vs',q1,q2⟩:=hc h; rw [dt] at q1; cases q1; exact q2) fun h' ⟨x1,x2,x3,x4⟩ D'=>k h' ⟨x1,ne,x2,x3⟩ D' fun b o q hn=>x4 b o ((ot b (nr b o q hn)).trans q) hn
theorem flight_own {l:List Env} {cls a0 fv:Value} {d:Option Addr} {Q:Unit→Shared→Prop} (st:bs.StaysIn s.heap) (ne:bs.get? e = none) (ff:s.heap.FunFrames bs l) (tr:s.heap.TracedAtW bs e cls a0 fv) (D:OwnD c s.heap e d)
  (k:∀ h',Heap.FlyingW bs l e cls a0 h'→OwnD c h' e d→s.heap.UpToSlots h'→Q () { s with heap:=h' }):wpAny M A (setFlight (.ref e) none) Q E s:=by
 obtain ⟨oe,vs,T,oT,ts,ge,hc,dt,z1,nT,neT,gT,dT,t3⟩:=tr
 have ot:∀ b,b ≠ T→(s.heap.update T (Obj.mapFields (·.setIfInBounds 3 ((none:Option Addr).elim Value.none fun f=>rawInt f)))).get? b = s.heap.get? b:=fun b hb=>Heap.get?_update_other _ _ (Ne.symm hb)
 have nr:∀ b o,s.heap.get? b = some o→(∀ us,o.data ≠ .fields us)→b ≠ T:=fun b o q hn z=>by
  subst z
  rw [gT] at q
  cases q
  exact hn _ dT
 have z3:=(Array.getElem?_eq_some_iff.mp t3).1
 unfold setFlight
 refine wpAny_bind (wpAny_field ge dt z1 ?_)
 rw [if_pos (show (Value.ref T != Value.none) = true from rfl)]
 refine wpAny_setField gT dT z3 (k _ ⟨fun b o q=>(ot b fun z=>by subst z; rw [nT] at q; cases q).trans (st b o q),ne,ff.of_keeps fun b o q hn=>⟨o,(ot b (nr b o q hn)).trans q,rfl⟩,
  oe,vs,T,_,_,(ot e (Ne.symm neT)).trans ge,hc,dt,z1,nT,neT,Heap.get?_update_self _ gT (Obj.isFreed_of_fields (Obj.data_mapFields dT _)),Obj.data_mapFields dT _,Array.getElem?_setIfInBounds_self_of_lt z3⟩ ?_ fun b o q hn=>⟨o.slots,(ot b (nr b o q hn)).trans q⟩)
 obtain ⟨o1,g1,hd⟩:=D
 exact ⟨o1,(ot e (Ne.symm neT)).trans g1,hd⟩
theorem leave_own {cls a0:Value} {d:Option Addr} {Q:Unit→Shared→Prop} (fr:A.frames = some (en :: out)) (fl:en.frame = some L) (F:Heap.FlyingW bs (en :: out) e cls a0 s.heap) (D:OwnD c s.heap e d)
  (k:∀ h',Heap.FlyingW bs out e cls a0 h'→OwnD c h' e d→s.heap.UpToSlots h'→Q () { s with heap:=h' }):wpAny M A (leaving en (.ref e)) Q E s:=by
 unfold leaving
 refine wpAny_bind (note_own fr fl F D fun h1 ⟨x1,x2,x3,x4⟩ D1 u1=>flight_own (s:={ s with heap:=h1 }) x1 x2 x3 x4 D1 fun h2 ⟨y1,y2,y3,y4⟩ D2 u2=>?_)
 obtain ⟨_,_,y3'⟩:=y3
 exact k h2 ⟨y1,y2,y3',y4⟩ D2 (u1.trans u2)
theorem leave_first {oe:Obj} {vs:Array Value} {a0:Value} {Q:Unit→Shared→Prop} (fr:A.frames = some (en :: out)) (ff:s.heap.FunFrames bs (en :: out)) (fl:en.frame = some L)
  (ge:s.heap.get? e = some oe) (st:bs.StaysIn s.heap) (ne:bs.get? e = none) (dt:oe.data = .fields vs) (z1:vs[1]? = some .none) (z0:vs[0]? = some a0) (z2:c = true→vs[2]? = some .none)
  (k:∀ h',Heap.FlyingW bs out e oe.cls a0 h'→OwnD c h' e oe.dict→s.heap.UpToSlots h'→Q () { s with heap:=h' }):wpAny M A (leaving en (.ref e)) Q E s:=by
 unfold leaving noteFrame
 simp only [fl]
 refine wpAny_bind (wpAny_bind (wpAny_field ge dt z1 ?_))
 rw [if_neg (by decide)]
 refine entry_own fr ff fl ge st ne dt (Array.getElem?_eq_some_iff.mp z1).1 z0 z2 fun h1 ⟨x1,x2,x3,x4⟩ D1=>flight_own (s:={ s with heap:=h1 }) x1 ne x2 x3 D1 fun h2 ⟨y1,y2,y3,y4⟩ D2 u2=>?_
 obtain ⟨_,_,y3'⟩:=y3
 exact k h2 ⟨y1,y2,y3',y4⟩ D2 (Heap.UpToSlots.trans x4 u2)
end
end Ow
namespace Ow
open PySem PySem.Spec PyProof.Rows L2
theorem refuse_tail {h:Heap} {l:List Value} (self:Value) (T:OwnTail h VE l):refuseLoop self "__setattr__" l = pure ():=by
 induction T with
 | base=>exact PySem.F.store_ValueError.passes self
 | own _ _ _ _ ih=>rw [refuseLoop_ref]; exact ih
section
variable {prog:Program} {w:World} {A:Around} {E:Value→Shared→Prop} {s:Shared} {K:PySem.W.Frag} {x C N:Addr} {fs:Array Value} {sl:Array (Option Value)} {name:Str} {v:Value}
variable {nm qn:Str} {bs bm:List Value} {sn:List Str} {sub:List Value} {ab:Bool} {col:Option Bool} {dd:Option Addr} {k0 k1 k2 k3 k5:Option Value} {nid:String}
theorem set_exc {Q:Unit→Shared→Prop} (X:K.In s.heap) (hx:s.heap.get? x = some ⟨.ref C,none,.fields fs,sl⟩) (hC:s.heap.get? C = some (excClassObj nm qn C N bs bm true sn sub ab col dd k0 k1 k2 k3 k5 nid)) (T:OwnTail s.heap VE bm)
  (sa:PySem.W.findIn K (.ref C) "__setattr__" = some (some (.builtin "object.__setattr__"))) (na:PySem.W.findIn K (.ref C) name = some none) (mo:PySem.W.mroIn K C (.type "object") = some true)
  (k:∀ h' t',h'.get? x = some ⟨.ref C,some s.heap.objs.size,.fields fs,sl⟩→h'.Ns1 s.heap.objs.size (fun y=>if y = name then some v else none)→(∀ b o,b ≠ x→s.heap.get? b = some o→h'.get? b = some o)→Q () { s with heap:=h',toks:=t' }) :
  wpAny (model prog w) A (setAttr (.ref x) name v) Q E s:=by
 have I:PySem.W.InstAt s.heap x ⟨.ref C,none,.fields fs,sl⟩ C none:=⟨hx,rfl,rfl,True.intro⟩
 have SF:=PySem.F.store_object
 have su:PySem.W.Looks (model prog w) s.heap (isInstance (.ref x) (.type "object")) true:=I.type.andThen (PySem.W.looks_mroIn X mo)
 refine PySem.W.set_plain X I sa (codeAny_call_builtin SF.slot.plain SF.entry (@PySem.W.check_slot (model prog w) _ _ { s with toks:=s.toks + 1 } "object.__setattr__" "object" "__setattr__" (.ref x) [.str name s.toks,v] [] _ SF.kind SF.split su (SF.args (.ref x) (.str name s.toks) v) ?_))
 rw [PySem.W.osa_eq,refuse_eq]
 refine wpAny_bind (wpAny_bind (PySem.W.Looks.here (s:={ s with toks:=s.toks + 1 }) I.type (wpAny_bind (wpAny_mroOf_exc hC ?_))))
 rw [refuseLoop_ref,refuse_tail _ T]
 refine wpAny_pure (wpAny_bind (PySem.W.Looks.here (s:={ s with toks:=s.toks + 1 }) I.type (wpAny_bind (PySem.W.Looks.here (s:={ s with toks:=s.toks + 1 }) (PySem.W.looks_findIn X na) (wpAny_bind (wpAny_pure ?_))))))
 show wpAny _ _ (Builtin.ObjectAttr.storeInOwnDict (.ref x) (.ref C) (.str name s.toks) name v false) _ _ _
 have L1:PySem.W.Looks (model prog w) s.heap (classData C) _:=(PySem.W.Looks.ld (part:=none) hC).andThen .now
 have xs:x ≠ s.heap.objs.size:=Nat.ne_of_lt (Heap.lt_size hx)
 have hx1:(s.heap.push { cls:=.type "dict",data:=.dict #[] }).get? x = some ⟨.ref C,none,.fields fs,sl⟩:=Heap.get?_push_of_some _ hx
 have up:∀ f:Obj→Obj,f ⟨.ref C,none,.fields fs,sl⟩ = ⟨.ref C,some s.heap.objs.size,.fields fs,sl⟩→((s.heap.push { cls:=.type "dict",data:=.dict #[] }).update x f).get? x = some ⟨.ref C,some s.heap.objs.size,.fields fs,sl⟩:=fun f ef=>by
  rw [Heap.get?_update_self f hx1 (by rw [ef]; rfl),ef]
 refine wpAny_bind (wpAny_pure (wpAny_bind (wpAny_bind (wpAny_loadPart hx (wpAny_bind (PySem.W.Looks.here (s:={ s with toks:=s.toks + 1 }) L1 ?_))))))
 refine wpAny_bind (wpAny_alloc' (wpAny_bind (wpAny_update' hx1 (wpAny_pure ?_))))
 have gd:((s.heap.push { cls:=.type "dict",data:=.dict #[] }).update x fun o=>{ o with dict:=some s.heap.objs.size }).get? s.heap.objs.size = some { cls:=.type "dict",data:=.dict #[] } :=
  (Heap.get?_update_other _ _ xs).trans (Heap.get?_push_size _ rfl)
 have nd:((s.heap.push { cls:=.type "dict",data:=.dict #[] }).update x fun o=>{ o with dict:=some s.heap.objs.size }).Ns s.heap.objs.size (fun _=>none):=⟨_,#[],_,gd,rfl,fun e he=>absurd he (by simp),fun _=>rfl⟩
 refine wpAny_bind (wpAny_pure (wpAny_bind (wpAny_nsSet1 (Heap.Ns1.of_empty nd) fun h' n2 sb=>?_)))
 obtain ⟨oD,eD,pD,gD,dD,cD⟩:=n2.count (PySem.Within.cons name v PySem.Within.nil)
 refine wpAny_bind (wpAny_lookBehind gD (by rw [dD]; exact pastItsLine_dict (Nat.le_trans cD (by rw [List.length_cons,List.length_nil,sizeLine_eq]; lia))) ?_)
 refine wpAny_pure (k h' _ ?_ ?_ fun b o hb q=>?_)
 ·exact (sb.2 x xs).trans (up _ rfl)
 ·exact n2
 ·exact (sb.2 b (Nat.ne_of_lt (Heap.lt_size q))).trans ((Heap.get?_update_other _ _ (Ne.symm hb)).trans (Heap.get?_push_of_some _ q))
end
end Ow
namespace Ow
open PySem PySem.Spec PyProof.Rows L2
abbrev exF (t:Addr):Array Value:=#[.ref t,.none,.none,.none,.bool false,.none]
abbrev exT (v:Value):Obj:={ cls:=.type "tuple",data:=.seq [v].toArray }
section
variable {prog:Program} {w:World} {A:Around} {E:Value→Shared→Prop} {h:Heap} {g:Array GenState} {d:Drawn} {t:Nat} {os:OsState} {C N fI:Addr} {v:Value} {oI:Obj} {mN:Str→Option Value}
variable {nm qn:Str} {bs bm:List Value} {hdc:Bool} {sn:List Str} {sub:List Value} {ab:Bool} {col:Option Bool} {dd:Option Addr} {k0 k1 k2 k3 k5:Option Value}
theorem made_exc {Q:Fin→Shared→Prop} (T:OwnTail h VE bm) (hC:h.get? C = some (excClassObj nm qn C N bs bm hdc sn sub ab col dd k0 k1 k2 k3 k5 "ValueError.__new__")) (hn:h.Ns N mN) (hi:mN "__init__" = some (.ref fI))
  (gf:h.get? fI = some oI) (cf:oI.cls = .type "function")
  (k:wpAny (model prog w) A (call (.ref fI) [.ref (h.objs.size + 1),v]) (fun r s'=>r = .none∧Q (.done (.ret (.ref (h.objs.size + 1)))) s') E ⟨(h.push (exT v)).push { cls:=.ref C,data:=.fields (exF h.objs.size) },g,d,t,os⟩) :
  wpAny (model prog w) A (Builtin.«type.__call__» ⟨[.ref C,v],[]⟩) Q E ⟨h,g,d,t,os⟩:=by
 have F:=PySem.F.excBase_ValueError
 have st:∀ b o,h.get? b = some o→((h.push (exT v)).push { cls:=.ref C,data:=.fields (exF h.objs.size) }).get? b = some o:=fun b o e=>Heap.get?_push_of_some _ (Heap.get?_push_of_some _ e)
 have ge:((h.push (exT v)).push { cls:=.ref C,data:=.fields (exF h.objs.size) }).get? (h.objs.size + 1) = some { cls:=.ref C,data:=.fields (exF h.objs.size) }:=by
  have z:=Heap.get?_push_size (h.push (exT v)) (o:={ cls:=.ref C,data:=.fields (exF h.objs.size) }) rfl
  rwa [Heap.size_push] at z
 have cc:(Value.ref C :: bm).contains (.ref C) = true:=by rw [List.contains_cons,beq_self_eq_true,Bool.true_or]
 repeat (first | with_reducible refine wpAny_loadPart_at hC ?_ | with_reducible refine wpAny_madeBy_exc hC ?_ | wp_step)
 refine codeAny_call_builtin_code (Code.quiet_builtin _ F.quiet) (wpAny_check_new_subT F T hC (codeAny_exc_new_subT F T hC (rest:=[v]) ?_))
 show wpAny _ _ _ _ _ _
 unfold isInstance
 repeat (first | with_reducible refine wpAny_loadPart_at ge ?_ | (with_reducible refine wpAny_isSubtype_exc (st _ _ hC) ?_; rw [cc]) | wp_step)
 show wpAny _ _ (typeLookup (.ref C) _) _ _ _
 refine wpAny_typeLookup_tail (st _ _ hC) (hn.keeps st) (T.keeps st) F.mroIs F.init.lookup ?_
 rw [hi]
 refine wpAny_holding (wpAny_bind ?_)
 unfold bindSpecial
 refine wpAny_bind (wpAny_typeOf (T:="function") ⟨_,st _ _ gf,cf⟩ ?_)
 rw [if_pos (by decide)]
 refine wpAny_pure (wpAny_bind (wpAny_mono k (fun r s' q=>?_) fun _ _ z=>z))
 obtain ⟨rfl,q⟩:=q
 wp_walk
 exact q
theorem call_exc {Q:Value→Shared→Prop} (T:OwnTail h VE bm) (hC:h.get? C = some (excClassObj nm qn C N bs bm hdc sn sub ab col dd k0 k1 k2 k3 k5 "ValueError.__new__")) (hn:h.Ns N mN) (hi:mN "__init__" = some (.ref fI))
  (gf:h.get? fI = some oI) (cf:oI.cls = .type "function")
  (k:wpAny (model prog w) (A.under (.builtin "type.__call__" ⟨[.ref C,v],[]⟩)) (call (.ref fI) [.ref (h.objs.size + 1),v]) (fun r s'=>r = .none∧Q (.ref (h.objs.size + 1)) s') E ⟨(h.push (exT v)).push { cls:=.ref C,data:=.fields (exF h.objs.size) },g,d,t,os⟩) :
  wpAny (model prog w) A (call (.ref C) [v]) Q E ⟨h,g,d,t,os⟩:=by
 have f1:=tc_lookup
 have f2:=tc_bind (.ref C)
 have tT:(⟨h,g,d,t,os⟩:Shared).TypeIs (.ref C) "type":=⟨_,hC,rfl⟩
 refine wpAny_call (codeAny_of_tree ?_)
 show wpAny _ _ (callAny (.ref C) _) _ _ _
 repeat (any_goals (first | assumption | with_reducible refine wpAny_loadPart_at hC ?_ | wp_step))
 exact ⟨rfl,codeAny_call_builtin_at (Code.quiet_builtin _ (by decide +kernel)) entry_typeCall (wpAny_check_type_call_sub hC (made_exc T hC hn hi gf cf k))⟩
end
theorem raise_inst {M:Model} {A:Around} {E:Value→Shared→Prop} {s:Shared} {env:Env} {C N:Addr} {nm qn:Str} {bs bm:List Value} {hdc:Bool} {sn:List Str} {sub:List Value} {ab:Bool} {col:Option Bool} {dd:Option Addr} {k0 k1 k2 k3 k5:Option Value} {nid:String}
  {x:Sem Value} {Q:Flow→Shared→Prop} (hb:bm.contains (.type "BaseException") = true) (hh:A.handled = none)
  (k:wpAny M A x (fun v s1=>∃ (e t:Addr) (od:Option Addr),v = .ref e∧s1.heap.get? C = some (excClassObj nm qn C N bs bm hdc sn sub ab col dd k0 k1 k2 k3 k5 nid)∧s1.heap.get? e = some ⟨.ref C,od,.fields (exF t),#[]⟩∧E (.ref e) s1) E s) :
  wpAny M A (raiseStmt env (some x) none) Q E s:=by
 have cb:(Value.ref C :: bm).contains (.type "BaseException") = true:=by rw [List.contains_cons,hb,Bool.or_true]
 unfold raiseStmt
 refine wpAny_bind (wpAny_mono k (fun v s1 q=>?_) fun _ _ z=>z)
 obtain ⟨e,t,od,rfl,gC,ge,q⟩:=q
 obtain ⟨hp,g,d,tk,os⟩:=s1
 repeat (first | with_reducible refine wpAny_loadPart_at ge ?_ | with_reducible refine wpAny_loadPart_at gC ?_ | (with_reducible refine wpAny_isSubtype_exc gC ?_; rw [cb]) | wp_step)
 exact wpAny_raiseNew_none hh q
end Ow
namespace Ow
open PySem PySem.Spec PyProof.Rows L2
def excFn (K:PySem.W.Frag) (C f:Addr):Bool :=
 match K.lookup C with
 | some ⟨.type "type",_,.cls c,q⟩ =>
  (match c.mro,q.toList with
  | .ref D :: tl,[_,_,_,_,some (.builtin n),_]=>D == C && (n == "ValueError.__new__" && (!c.hasDel && (c.hasDict && (PySem.W.tailIn K VE tl && (PySem.W.nsOkIn K c.ns && PySem.W.nsIn K c.ns "__init__" == some (some (.ref f)))))))
  | _,_=>false)
 | _=>false
theorem ns_some {K:PySem.W.Frag} {h:Heap} {N:Addr} {m:Str→Option Value} {n:Str} {v:Value} (X:K.In h) (G:h.Ns N m) (e:PySem.W.nsIn K N n = some (some v)):m n = some v:=by
 obtain ⟨o,es,ep,go,hd,_,hf⟩:=G
 unfold PySem.W.nsIn at e
 split at e
 ·next q =>
  have z:=X _ _ q
  rw [go] at z
  cases z
  cases hd
  split at e
  ·next he =>
   cases e
   rw [← hf]
   unfold nsFind findBy
   rw [← Array.find?_toList,he]
   rfl
  ·split at e <;> cases e
 ·cases e
theorem exc_fn {K:PySem.W.Frag} {h:Heap} {C f:Addr} (X:K.In h) (q:excFn K C f = true) :
  ∃ bm N nm qn bs sn sub ab col dd k0 k1 k2 k3 k5 mN,h.get? C = some (excClassObj nm qn C N bs bm true sn sub ab col dd k0 k1 k2 k3 k5 "ValueError.__new__")∧h.Ns N mN∧mN "__init__" = some (.ref f)∧OwnTail h VE bm:=by
 unfold excFn at q
 split at q
 ·next d0 c0 s0 e0 =>
  split at q
  ·next D m1 y0 y1 y2 y3 n1 y5 em es =>
   simp only [beq_iff_eq,Bool.not_eq_true',Bool.and_eq_true] at q
   obtain ⟨eC,en,ed,eh,et,eo,ei⟩:=q
   subst eC en
   obtain ⟨a1,a2,a3,a4,a5,a6,a7,a8,a9,a10,a11⟩:=c0
   dsimp only at em ed eo ei eh
   subst em ed eh
   obtain ⟨l0⟩:=s0
   have es':l0 = [y0,y1,y2,y3,some (Value.builtin "ValueError.__new__"),y5]:=es
   subst es'
   have G:h.Ns a4 _:=.of_isNs (PySem.W.isNs_of_in X eo)
   exact ⟨m1,a4,a1,a5,a2,a7,a8,a9,a10,d0,y0,y1,y2,y3,y5,_,X _ _ e0,G,ns_some X G ei,PySem.W.tail_of_in X et⟩
  ·cases q
 ·cases q
def xO (e C t:Addr) (od:Option Addr):HO:=.ext fun h=>h.get? e = some ⟨.ref C,od,.fields (exF t),#[]⟩
def drop (H:Hp) (e:Addr):Hp:=fun b=>if b = e then none else H b
theorem drop_ne {H:Hp} {e b:Addr} (h:b ≠ e):drop H e b = H b:=if_neg h
theorem drop_same {H:Hp} {e:Addr}:drop H e e = none:=if_pos rfl
theorem xO_ok {P:Program} {w:World} {H:Hp} {h:Heap} {e C t:Addr} {od:Option Addr} (g:h.get? e = some ⟨.ref C,od,.fields (exF t),#[]⟩):ObjOk P w H h e (xO e C t od):=⟨g,⟨_,g⟩,fun _ _ a b=>b _ a⟩
def CX2c (c:Bool) (P:Program) (w:World) (base:Heap):CXT:=fun outer H s E e s' =>
 ∃ (a:Addr) (cls a0:Value) (B:Heap) (H':Hp) (dd:Option Addr),e = .ref a∧s'.os = s.os∧AllBare s'.gens∧Gnd P w base (frs outer) H H' s.heap B∧Slots (frs outer) s.heap s'.heap∧Heap.FlyingW B outer a cls a0 s'.heap∧H' a = none∧OwnD c s'.heap a dd∧E cls dd H'
abbrev CX2 (P:Program) (w:World) (base:Heap):CXT:=CX2c true P w base
section
variable {P:Program} {w:World} {K:PySem.W.Frag} {mg:Str→Option Value} {base:Heap} {N:List Str} {qual:Str} {scope:Scope} {f:Addr} {cdv:Value} {A:Around} {outer:List Env} {s₀:Shared} {H₀:Hp} {E:XK}
theorem leaves_own {pins:List (Addr × Obj)} {σ:L2.St} {H:Hp} {s:Shared} {e C t:Addr} {od:Option Addr} (I:Inv (cxOf (CX2 P w base) P w K mg base N qual scope f cdv A outer s₀ H₀ E) pins σ H s)
  (he:H e = some (xO e C t od)) (hn:s₀.heap.get? e = none) (q:E (.ref C) od (drop H e)):(cxOf (CX2 P w base) P w K mg base N qual scope f cdv A outer s₀ H₀ E).xe (.ref e) s:=by
 have ge:s.heap.get? e = some ⟨.ref C,od,.fields (exF t),#[]⟩:=(I.hok e _ he).1
 have hst:=I.stack
 have nof:∀ b o,s₀.heap.get? b = some o→b ∉ frs outer→b ∉ e :: frs (envOfC qual scope s₀.heap.objs.size f cdv :: outer):=fun b o e1 nb hm=>by
  rcases List.mem_cons.mp hm with z | hm
  ·rw [z,hn] at e1
   cases e1
  rcases List.mem_cons.mp (I.stkSub b hm) with z | z
  ·exact Nat.lt_irrefl _ (Nat.lt_of_lt_of_le (z ▸ Heap.lt_size e1) I.ok.above)
  ·exact nb z
 have nx:∀ b:Addr,b ∉ ([]:List Addr):=fun b z=>nomatch z
 have ne:∀ b u,H b = some u→(∀ φ,u ≠ .ext φ)→b ≠ e:=fun b u e1 hk z=>by
  rw [z,he] at e1
  cases e1
  exact hk _ rfl
 have dr:∀ b u,H b = some u→(∀ φ,u ≠ .ext φ)→drop H e b = some u:=fun b u e1 hk=>by rw [drop_ne (ne b u e1 hk)]; exact e1
 refine leave_first (c:=true) (bs:=PySem.W.hideAll s.heap (e :: frs (envOfC qual scope s₀.heap.objs.size f cdv :: outer))) (a0:=.ref t) I.ok.frames
  (PySem.W.funFrames_hide hst fun e1 he1 b hb=>List.mem_cons_of_mem _ (List.mem_filterMap.mpr ⟨e1,he1,hb⟩)) rfl ge (fun b o e1=>PySem.W.of_hideAll _ e1) (PySem.W.hideAll_none _ (List.mem_cons_self ..)) rfl rfl rfl (fun _=>rfl) fun h2 fl D up=>?_
 refine ⟨e,_,.ref t,_,drop H e,od,rfl,I.os,I.bare,⟨fun b o e1=>PySem.W.hideAll_get _ (I.bk b o e1) fun hm=>?_,fun b o e1 n nb=>PySem.W.hideAll_get _ (I.base.keep b o e1 n nb (nx b)) (nof b o e1 nb),fun b o e1 n=>?_,
  fun b o e1 nb=>?_,fun b xs z=>dr b _ (I.base.tups b xs z) (fun _ z=>nomatch z),fun b o u z=>dr b _ (I.base.frzs b o u z) (fun _ z=>nomatch z),fun b ps z=>?_,fun b u e1=>?_⟩,fun b hb o e1=>?_,fl,drop_same,D,q⟩
 ·rcases List.mem_cons.mp hm with z | hm
  ·have z2:=(I.bs b o e1).2
   rw [z,he] at z2
   cases z2
  ·have z:=(hst.mem hm).1
   exact nomatch (show (some o:Option Obj) = none from e1.symm.trans z)
 ·by_cases hb:b = e
  ·rw [hb,drop_same]
  ·rw [drop_ne hb]
   exact I.base.free b o e1 n (nx b)
 ·obtain ⟨o',e2⟩:=I.base.there b o e1 (nx b)
  exact ⟨o',PySem.W.hideAll_get _ e2 (nof b o e1 nb)⟩
 ·obtain ⟨more,z2⟩:=I.base.tbls b ps z
  exact ⟨more,dr b _ z2 (fun _ z=>nomatch z)⟩
 ·have hb:b ≠ e:=fun z=>by
   rw [z,drop_same] at e1
   cases e1
  rw [drop_ne hb] at e1
  refine (I.hok b u e1).stay (fun c v hc e2=>PySem.W.hideAll_get _ e2 fun hm=>?_) (fun c z=>dr c _ z (fun _ z=>nomatch z)) fun c xs z=>dr c _ z (fun _ z=>nomatch z)
  rcases List.mem_cons.mp hm with z | hm
  ·rcases hc with hc | hc
   ·exact hb (hc.symm.trans z)
   ·rw [z,he] at hc
    cases hc
  ·have z:=I.stkFree c hm
   rcases hc with rfl | hc
   ·rw [e1] at z; cases z
   ·rw [hc] at z; cases z
 ·obtain ⟨sl,e2⟩:=I.base.slot b o e1 (I.ok.frf b hb) hb (nx b)
  obtain ⟨_,o1,e3,d⟩:=I.funs.mem hb
  rw [e2] at e3
  cases e3
  obtain ⟨s2,e4⟩:=up b _ e2 d
  exact ⟨s2,e4⟩
end
end Ow
namespace Ow
open PySem PySem.Spec PyProof.Rows L2
structure XCls (K:PySem.W.Frag) (C fI:Addr) (f:Str):Prop where
 ef:excFn K C fI = true
 sa:PySem.W.findIn K (.ref C) "__setattr__" = some (some (.builtin "object.__setattr__"))
 mo:PySem.W.mroIn K C (.type "object") = some true
 na:PySem.W.findIn K (.ref C) f = some none
 fn:PySem.W.typeIn K (.ref fI) = some (.type "function")
 kp:PySem.W.keepIn K (.ref C) = true
def sXset (K:PySem.W.Frag) (ta tv:TE) (f:Str):TS:=fun D σ H=>tv σ H fun y H1=>ta σ H1 fun x H2=>∃ e C t fI,x = .ref e∧H2 e = some (xO e C t none)∧XCls K C fI f∧∀ d,H2 d = none→d ≠ e→D.nx σ (upd (upd H2 d (.xd [(f,y)])) e (xO e C t (some d)))
section
variable {X:Cx} {f:Str} {o value:Expr} {ta tv:TE} {pos pos':Pos}
theorem ps_xset (ha:PE X o ta) (hv:PE X value tv) (hs:swapsWith value (some (.Attribute o f pos')) pos.line X.env = pure false):PS X (.Assign [.Attribute o f pos'] value pos) (sXset X.K ta tv f):=by
 intro pins s σ H D I h
 refine plainObj_wpAny_Assign_Attribute (thn (hv pins s σ H _ I h) fun u s1 ⟨y,H1,I1,ry,q⟩=>thn (ha pins s1 σ H1 _ I1 q) fun ov s2 ⟨x,H2,I2,rx,e,C,t,fI,ex,he,c,q2⟩=>?_) hs
 subst ex
 obtain rfl:ov = Value.ref e:=rx
 have ge:s2.heap.get? e = some ⟨.ref C,none,.fields (exF t),#[]⟩:=(I2.hok e _ he).1
 obtain ⟨bm,N,nm,qn,bs,sn,sub,ab,col,dd,k0,k1,k2,k3,k5,mN,gC,_,_,T⟩:=exc_fn I2.kIn c.ef
 refine set_exc I2.kIn ge gC T c.sa c.na c.mo fun h' t' g1 n1 kp=>?_
 have hd:H2 s2.heap.objs.size = none:=I2.hok.fresh (Nat.le_refl _)
 have dne:s2.heap.objs.size ≠ e:=fun z=>by rw [z,he] at hd; cases hd
 obtain ⟨od,es,ep,gd,hda,rest⟩:=n1
 have gd1:(s2.heap.push od).get? s2.heap.objs.size = some od:=Heap.get?_push_size _ (by
  obtain ⟨c1,c2,c3,c4⟩:=od
  cases (show c3 = .dict es ep from hda)
  rfl)
 have I3:=I2.laid (a:=s2.heap.objs.size) (o:=.xd [(f,y)]) (h':=s2.heap.push od) (t':=s2.toks) (fun b u q=>Heap.get?_push_of_some _ q) (Nat.le_refl _) ⟨_,⟨od,es,ep,gd1,hda,rest⟩,fun g=>by
  by_cases hg:g = f
  ·subst hg
   rw [if_pos rfl,List.lookup_cons_self]
   exact ry
  ·rw [if_neg hg,List.lookup_cons,beq_eq_false_iff_ne.mpr hg]
   exact True.intro⟩
 have I4:=I3.write (x:=e) (e:=e) (o:=xO e C t (some s2.heap.objs.size)) (h':=h') (t':=t') (by rw [upd_ne (Ne.symm dne),he]; exact True.intro) (.inl rfl) (fun b v hb z=>by
  by_cases hz:b = s2.heap.objs.size
  ·subst hz
   have z1:=gd1.symm.trans z
   cases z1
   exact gd
  ·rw [Heap.get?_push_ne _ _ _ hz] at z
   exact kp b v hb z) ⟨_,g1⟩ (xO_ok g1)
 exact ⟨σ,_,I4,q2 _ hd dne⟩
end
end Ow
namespace Ow
open PySem PySem.Spec PyProof.Rows L2
def spXI (f:Str) (C:Addr):Sp:=fun vs H Q _=>∃ (e t:Addr) (v:V),vs = [.ref e,v]∧H e = some (xO e C t none)∧∀ d,H d = none→d ≠ e→Q .non (upd (upd H d (.xd [(f,v)])) e (xO e C t (some d)))
structure XHas (P:Program) (w:World) (K:PySem.W.Frag) (mg:Str→Option Value) (base:Heap) (k:Nat) (x:Str) (C:Addr) (f:Str):Prop where
 ex:∃ (fI:Addr) (fd:FuncData) (p1 p2:Str),FnOk P w K mg base CX0 k fI fd [p1,p2] (spXI f C)∧Binds K fd [p1,p2] []∧XCls K C fI f∧mg x = some (.ref C)
section
variable {P:Program} {w:World} {K:PySem.W.Frag} {mg:Str→Option Value} {base:Heap} {N:List Str} {qual:Str} {scope:Scope} {fa:Addr} {cdv:Value} {A:Around} {outer:List Env} {s₀:Shared} {H₀:Hp} {E:XK}
def tRaise1 (C:Addr) (f:Str) (E:XK) (ta:TA):TS:=fun _ σ H=>ta σ H fun vs H1=>∃ v,vs = [v]∧∀ d,H1 d = none→E (.ref C) (some d) (upd H1 d (.xd [(f,v)]))
theorem ps_raise1 {k:Nat} {x f:Str} {C:Addr} {np cpos pos:Pos} {e1:Expr} {ta:TA} (h:XHas P w K mg base k x C f) (hr:Room (k + 1) (cxOf (CX2 P w base) P w K mg base N qual scope fa cdv A outer s₀ H₀ E).A) (hg:Gl (cxOf (CX2 P w base) P w K mg base N qual scope fa cdv A outer s₀ H₀ E) x)
  (ha:PA (cxOf (CX2 P w base) P w K mg base N qual scope fa cdv A outer s₀ H₀ E) [e1] ta) (hdb:(x == ("__debug__":Str)) = false:=by decide)
  (hst:starEach [e1] (cxOf (CX2 P w base) P w K mg base N qual scope fa cdv A outer s₀ H₀ E).env = (false,eval e1 (cxOf (CX2 P w base) P w K mg base N qual scope fa cdv A outer s₀ H₀ E).env) :: starEach [] (cxOf (CX2 P w base) P w K mg base N qual scope fa cdv A outer s₀ H₀ E).env:=by rfl) :
  PS (cxOf (CX2 P w base) P w K mg base N qual scope fa cdv A outer s₀ H₀ E) (.Raise (some (.Call (.Name x np) [e1] [] cpos)) none pos) (tRaise1 C f E ta):=by
 intro pins s σ H D I ht
 obtain ⟨fI,fd,p1,p2,F,hb,c,hm⟩:=h.ex
 obtain ⟨bm,N',nm,qn,bs,sn,sub,ab,col,dd,k0,k1,k2,k3,k5,mN,gC,gN,gi,T⟩:=exc_fn I.ok.mod.kin c.ef
 rw [arm_exec_Raise]
 refine wpAny_bind (wpAny_standAt (raise_inst (C:=C) (nm:=nm) (qn:=qn) (N:=N') (bs:=bs) (bm:=bm) (hdc:=true) (sn:=sn) (sub:=sub) (ab:=ab) (col:=col) (dd:=dd) (k0:=k0) (k1:=k1) (k2:=k2) (k3:=k3) (k5:=k5) (nid:="ValueError.__new__")
  (T.hasType PySem.F.excBase_ValueError.hasBase) (I.ok.hd rfl) (wpAny_bind (wpAny_mono (Q:=fun v s1=>∃ (e t:Addr) (od:Option Addr),v = .ref e∧s1.heap.get? C = some (excClassObj nm qn C N' bs bm true sn sub ab col dd k0 k1 k2 k3 k5 "ValueError.__new__")∧s1.heap.get? e = some ⟨.ref C,od,.fields (exF t),#[]⟩∧(cxOf (CX2 P w base) P w K mg base N qual scope fa cdv A outer s₀ H₀ E).xe (.ref e) s1) ?_ (fun v s3 h3=>wpAny_bind (wpAny_standAt (wpAny_pure h3))) fun _ _ z=>z))))
 refine wpAny_Call_Name_kw (ld_glob I hg hm ?_ hdb)
 refine PySem.W.callWith_K (h₀:=base) I.ok.mod.kin c.kp (thn (ha cpos pins s σ H _ I ht) fun us s1 ⟨vs,H1,I1,r1,v,ev,q1⟩=>⟨I1.kIn,?_⟩) hst rfl
 subst ev
 obtain ⟨u,rfl,ru⟩:=r1.one
 have st1:=I1.bk
 have gf:∃ oI,s1.heap.get? fI = some oI∧oI.cls = .type "function":=by
  obtain ⟨oI,e1,e2⟩:=Option.map_eq_some_iff.mp c.fn
  exact ⟨oI,I1.kIn _ _ e1,e2⟩
 obtain ⟨oI,gf,cf⟩:=gf
 obtain ⟨hh,g,dr,tk,os⟩:=s1
 have ge:((hh.push (exT u)).push { cls:=.ref C,data:=.fields (exF hh.objs.size) }).get? (hh.objs.size + 1) = some { cls:=.ref C,data:=.fields (exF hh.objs.size) }:=by
  have z:=Heap.get?_push_size (hh.push (exT u)) (o:={ cls:=.ref C,data:=.fields (exF hh.objs.size) }) rfl
  rwa [Heap.size_push] at z
 have He:H1 (hh.objs.size + 1) = none:=I1.hok.fresh (Nat.le_succ _)
 have I2:=I1.laid (a:=hh.objs.size + 1) (o:=xO (hh.objs.size + 1) C hh.objs.size none) (h':=(hh.push (exT u)).push { cls:=.ref C,data:=.fields (exF hh.objs.size) }) (t':=tk) (fun b o q=>Heap.get?_push_of_some _ (Heap.get?_push_of_some _ q)) (Nat.le_succ _) (xO_ok ge)
 refine call_exc (T.keeps st1) (st1 _ _ gC) (gN.keeps st1) gi gf cf (wpAny_call (codeAny_mono (F.run _ (cxOf (CX2 P w base) P w K mg base N qual scope fa cdv A outer s₀ H₀ E).stack _ _ ⟨[.ref (hh.objs.size + 1),u],[]⟩ [.ref (hh.objs.size + 1),u] [.ref (hh.objs.size + 1),v]
  (fun y H3=>y = .non∧∃ d,upd H1 (hh.objs.size + 1) (xO (hh.objs.size + 1) C hh.objs.size none) d = none∧d ≠ hh.objs.size + 1∧H3 = upd (upd (upd H1 (hh.objs.size + 1) (xO (hh.objs.size + 1) C hh.objs.size none)) d (.xd [(f,v)])) (hh.objs.size + 1) (xO (hh.objs.size + 1) C hh.objs.size (some d))) E0 (hr.make C [u] [])
  (I2.env0.make C [u] []) (hb _ _ I2.kIn rfl) (.cons rfl (.cons ru .nil)) ⟨_,_,v,rfl,upd_same ..,fun d hd ne=>⟨rfl,d,hd,ne,rfl⟩⟩) fun r s' hq=>?_))
 cases r with
 | error e=>exact False.elim hq
 | ok fl =>
  cases fl with
  | ret u' =>
   obtain ⟨y,H3,I3,ry,rfl,d,hd,ne,rfl⟩:=I2.after hq
   refine ⟨ry,hh.objs.size + 1,hh.objs.size,some d,rfl,I3.bk _ _ gC,(I3.hok _ _ (upd_same ..)).1,?_⟩
   rw [upd_ne ne] at hd
   refine leaves_own I3 (upd_same ..) ?_ ?_
   ·refine Heap.get?_none_of_le (Nat.le_trans I1.sz (Nat.le_succ _))
   ·have e3:drop (upd (upd (upd H1 (hh.objs.size + 1) (xO (hh.objs.size + 1) C hh.objs.size none)) d (.xd [(f,v)])) (hh.objs.size + 1) (xO (hh.objs.size + 1) C hh.objs.size (some d))) (hh.objs.size + 1) = upd H1 d (.xd [(f,v)]):=by
     funext b
     by_cases hb:b = hh.objs.size + 1
     ·rw [hb,drop_same,upd_ne (Ne.symm ne),He]
     ·rw [drop_ne hb,upd_ne hb]
      by_cases hbd:b = d
      ·rw [hbd,upd_same,upd_same]
      ·rw [upd_ne hbd,upd_ne hb,upd_ne hbd]
    rw [e3]
    exact q1 d hd
  | next=>exact False.elim hq
  | brk=>exact False.elim hq
  | cont=>exact False.elim hq
end
end Ow
namespace Ow
open PySem PySem.Spec PyProof.Rows L2
section
variable {P:Program} {w:World} {K:PySem.W.Frag} {mg:Str→Option Value} {base:Heap} {N:List Str} {qual:Str} {scope:Scope} {f:Addr} {cdv:Value} {A:Around} {outer:List Env} {s₀:Shared} {H₀:Hp} {E:XK}
theorem Fun.okY {x qual:Str} {st:Stmt} {f:Addr} {fd:FuncData} {N ps:List Str} {k:Nat} {sp:Sp} (F:Fun K x qual st f fd) (S:FnScope N ps (defScope st)) (len:∀ vs H Q E,sp vs H Q E→vs.length = ps.length)
  (hbody:∀ (cdv:Value) (A:Around) (outer:List Env) (s:Shared) (H:Hp) (vs:List V) (Q:VK) (E:XK),Room k (A.deeper (envOfC qual (defScope st) s.heap.objs.size f cdv))→sp vs H Q E →
   ∃ t,PSs (cxOf (CX2 P w base) P w K mg base N qual (defScope st) f cdv A outer s H E) (defBody st) t∧t { nx:=fun _ H'=>Q .non H',rt:=Q } (start N vs) H):FnOk P w K mg base (CX2 P w base) (k + 1) f fd ps sp:=by
 obtain ⟨oc,od,kV,doc,pm,an,cdv,ct,osl,e1,lk,hcd⟩:=F.ex
 subst e1
 exact fn_of lk hcd S len fun A outer s H vs Q E hr hsp=>hbody cdv A outer s H vs Q E hr hsp
theorem passY:Passes (CX2 P w base) (cxOf (CX2 P w base) P w K mg base N qual scope f cdv A outer s₀ H₀ E) E:=by
 intro pins σ H s e s' I hq
 obtain ⟨a,cls,a0,B,H2,dd,rfl,hos,hba,G,sl,fl,ha0,D,hw⟩:=hq
 have nof:∀ b o,s₀.heap.get? b = some o→b ∉ frs outer→b ∉ frs (envOfC qual scope s₀.heap.objs.size f cdv :: outer):=fun b o e1 nb hm=>by
  rcases List.mem_cons.mp (I.stkSub b hm) with z | z
  ·exact Nat.lt_irrefl _ (Nat.lt_of_lt_of_le (z ▸ Heap.lt_size e1) I.ok.above)
  ·exact nb z
 have nx:∀ b:Addr,b ∉ ([]:List Addr):=fun b z=>nomatch z
 have sub:∀ b ∈ frs outer,b ∈ frs (envOfC qual scope s₀.heap.objs.size f cdv :: outer):=fun b hb=>by
  obtain ⟨en,he,hf⟩:=List.mem_filterMap.mp hb
  exact List.mem_filterMap.mpr ⟨en,List.mem_cons_of_mem _ he,hf⟩
 refine leave_own I.ok.frames rfl fl D fun h2 fl2 D2 up=>?_
 refine ⟨a,cls,a0,B,H2,dd,rfl,hos.trans I.os,hba,⟨G.st,fun b o e1 n nb=>G.keep b o (I.base.keep b o e1 n nb (nx b)) (I.base.free b o e1 n (nx b)) (nof b o e1 nb),fun b o e1 n=>?_,fun b o e1 nb=>?_,
  fun b xs z=>G.tups b xs (I.base.tups b xs z),fun b o u z=>G.frzs b o u (I.base.frzs b o u z),fun b ps z=>?_,G.hok⟩,fun b hb o e1=>?_,fl2,ha0,D2,hw⟩
 ·obtain ⟨o',e2⟩:=I.base.there b o e1 (nx b)
  exact G.free b o' e2 (I.base.free b o e1 n (nx b))
 ·obtain ⟨o',e2⟩:=I.base.there b o e1 (nx b)
  exact G.there b o' e2 (nof b o e1 nb)
 ·obtain ⟨m1,e1⟩:=I.base.tbls b ps z
  obtain ⟨m2,e2⟩:=G.tbls b _ e1
  exact ⟨m1 ++ m2,by rw [e2,Array.append_assoc]⟩
 ·obtain ⟨l1,e2⟩:=I.base.slot b o e1 (I.ok.frf b hb) hb (nx b)
  obtain ⟨l2,e3⟩:=sl b (sub b hb) _ e2
  obtain ⟨_,o1,e4,d⟩:=fl.2.2.1.mem (sub b hb)
  rw [e3] at e4
  cases e4
  obtain ⟨l3,e5⟩:=up b _ e3 d
  exact ⟨l3,e5⟩
end
structure HasY (P:Program) (w:World) (K:PySem.W.Frag) (mg:Str→Option Value) (base:Heap) (k:Nat) (x:Str) (ps:List Str) (sp:Sp):Prop where
 ex:∃ (f:Addr) (fd:FuncData),FnOk P w K mg base (CX2 P w base) k f fd ps sp∧Binds K fd ps []∧PySem.W.keepIn K (.ref f) = true∧mg x = some (.ref f)
section
variable {P:Program} {w:World} {K:PySem.W.Frag} {mg:Str→Option Value} {base:Heap} {N:List Str} {qual:Str} {scope:Scope} {f:Addr} {cdv:Value} {A:Around} {outer:List Env} {s₀:Shared} {H₀:Hp} {E:XK}
theorem pe_fnYX {k:Nat} {x:Str} {ps:List Str} {sp:Sp} {p pos:Pos} {e:Expr} {es:List Expr} {t:TA} (h:HasY P w K mg base k x ps sp) (hr:Room k (cxOf (CX2 P w base) P w K mg base N qual scope f cdv A outer s₀ H₀ E).A)
  (hg:Gl (cxOf (CX2 P w base) P w K mg base N qual scope f cdv A outer s₀ H₀ E) x) (ha:PA (cxOf (CX2 P w base) P w K mg base N qual scope f cdv A outer s₀ H₀ E) (e :: es) t) (hdb:(x == ("__debug__":Str)) = false:=by decide)
  (he:starEach (e :: es) (cxOf (CX2 P w base) P w K mg base N qual scope f cdv A outer s₀ H₀ E).env = (false,eval e (cxOf (CX2 P w base) P w K mg base N qual scope f cdv A outer s₀ H₀ E).env) :: starEach es (cxOf (CX2 P w base) P w K mg base N qual scope f cdv A outer s₀ H₀ E).env:=by rfl)
  (hpl:(backTo pos (starEach es (cxOf (CX2 P w base) P w K mg base N qual scope f cdv A outer s₀ H₀ E).env)).any (·.1) = false:=by rfl) :
  PE (cxOf (CX2 P w base) P w K mg base N qual scope f cdv A outer s₀ H₀ E) (.Call (.Name x p) (e :: es) [] pos) (tCall sp [] E t):=by
 obtain ⟨fa,fd,F,b,kp,m⟩:=h.ex
 exact pe_call F hr hg m kp b .nil passY ha hdb he hpl
end
def tryCy (X:Cx) (pins:List (Addr × Obj)) (E:L2.St→XK):Cx:=(pinned X pins).wish fun e s'=>∃ (pins':List (Addr × Obj)) (σ':L2.St) (H:Hp) (s:Shared),Inv (pinned X pins) pins' σ' H s∧CX2 X.prog X.w X.base X.stack H s (E σ') e s'
theorem pe_fnYT {X:Cx} {pins:List (Addr × Obj)} {E:L2.St→XK} {k:Nat} {x:Str} {ps:List Str} {sp:Sp} {p pos:Pos} {e:Expr} {es:List Expr} {t:TA} (h:HasY X.prog X.w X.K X.mg X.base k x ps sp) (hr:Room k X.A) (hg:Gl X x) (ha:PA (tryCy X pins E) (e :: es) t) (hdb:(x == ("__debug__":Str)) = false:=by decide)
  (he:starEach (e :: es) X.env = (false,eval e X.env) :: starEach es X.env:=by rfl) (hpl:(backTo pos (starEach es X.env)).any (·.1) = false:=by rfl) :
  PE (tryCy X pins E) (.Call (.Name x p) (e :: es) [] pos) (tCallT sp E t):=by
 intro pins2 s σ H Q I ht
 obtain ⟨fa,fd,F,hbi,hk,hm⟩:=h.ex
 refine wpAny_Call_Name_kw (ld_glob I hg hm ?_ hdb)
 refine PySem.W.callWith_K (h₀:=X.base) I.ok.mod.kin hk (thn (ha pos pins2 s σ H _ I ht) fun us s1 ⟨vs,H1,I1,r1,q1⟩=>⟨I1.kIn,?_⟩) he hpl
 have r2:Vals (vs ++ []) us:=by rw [List.append_nil]; exact r1
 have hl:us.length = ps.length:=by rw [← r2.length]; exact F.len _ _ _ _ q1
 have bd:=hbi s1 us I1.kIn (by rw [List.append_nil]; exact hl)
 rw [List.append_nil] at bd
 refine wpAny_call (codeAny_mono (F.run X.A X.stack s1 H1 ⟨us,[]⟩ us (vs ++ []) _ _ hr I1.env0 bd r2 q1) fun r s' hq=>?_)
 cases r with
 | error ev=>exact ⟨pins2,σ,H1,s1,I1.unwish,hq⟩
 | ok fl =>
  cases fl with
  | ret u=>exact I1.after hq
  | next=>exact False.elim hq
  | brk=>exact False.elim hq
  | cont=>exact False.elim hq
section
variable {X:Cx} {j:Nat} {n c:Str} {C₁:Addr} {b₀:Stmt} {suite:List Stmt} {tb:Addr→Obj→TS} {np hpos:Pos}
end
end Ow
namespace Ow
open PySem PySem.Spec PyProof.Rows L2
section
variable {prog:Program} {w:World} {A:Around} {E:Value→Shared→Prop} {h:Heap} {g:Array GenState} {d:Drawn} {t:Nat} {os:OsState} {K:PySem.W.Frag} {a C D:Addr} {o od:Obj} {name:Str} {v:Value}
theorem xat (hx:h.get? a = some o) (hc:o.cls = .ref C) (hd:o.dict = some D) (hn:PySem.W.notCls o = true) (gd:h.get? D = some od):PySem.W.InstAt h a o C (some od):=⟨hx,hc,hn,by rw [hd]; exact gd⟩
theorem getx_entry {tk:Tok} {Q:Fin→Shared→Prop} (X:K.In h) (I:PySem.W.InstAt h a o C (some od)) (hf:PySem.W.findObj K C (some od) name = some (.value v)) (hq:Q (.done (.ret v)) ⟨h,g,d,t,os⟩) :
  wpAny (model prog w) A (Builtin.«object.__getattribute__» ⟨[.ref a,.str name tk],[]⟩) Q E ⟨h,g,d,t,os⟩:=by
 have L0:=I.type (M:=model prog w)
 have L1:=PySem.W.looks_find (M:=model prog w) X I hf
 refine wpAny_bind (wpAny_pure (wpAny_bind (wpAny_pure (wpAny_bind (L0.at (wpAny_bind (L1.at ?_)))))))
 exact wpAny_pure hq
theorem getx_by {tk:Tok} {fill ex:Bool} {Q:Value→Shared→Prop} (X:K.In h) (f:ExF K C) (I:PySem.W.InstAt h a o C (some od)) (hf:PySem.W.findObj K C (some od) name = some (.value v)) (hv:PySem.W.handedIn v = true) (hq:Q v ⟨h,g,d,t,os⟩) :
  wpAny (model prog w) A (getAttrBy (.ref a) (.str name tk) fill ex) Q E ⟨h,g,d,t,os⟩:=by
 have hx:=I.at_
 have hc:=I.cls
 have f3:=F.attr_ValueError.ga.bind (.ref a)
 have L1:=PySem.W.looks_findIn (M:=model prog w) X f.ga
 have L2:=PySem.W.looks_findIn (M:=model prog w) X f.gn
 have hx2:(Value.builtin "BaseException.__getattribute__" == Value.builtin "object.__getattribute__") = false:=by decide +kernel
 have hx1:(onTheHeap (Value.ref C) && Value.builtin "BaseException.__getattribute__" == Value.builtin "object.__getattribute__") = false:=by rw [hx2]; rfl
 have hx0:(ex && onTheHeap (Value.builtin "BaseException.__getattribute__")) = false:=by cases ex <;> rfl
 have hho:=PySem.W.handedOut_of hv
 repeat (any_goals (first | assumption | (with_reducible refine wpAny_loadPart_at hx ?_; rw [hc]) | with_reducible refine L1.at ?_ | with_reducible refine L2.at ?_ | wp_step))
 refine codeAny_call_builtin F.attr_ValueError.ga.plain F.entry_bexc_ga (exc_check X f hx hc (getx_entry X I hf ?_))
 repeat (any_goals (first | assumption | wp_step))
theorem getx {ex:Bool} {Q:Value→Shared→Prop} (X:K.In h) (f:ExF K C) (I:PySem.W.InstAt h a o C (some od)) (hf:PySem.W.findObj K C (some od) name = some (.value v)) (hv:PySem.W.handedIn v = true) (hq:Q v ⟨h,g,d,t + 1,os⟩) :
  wpAny (model prog w) A (getAttr (.ref a) name ex) Q E ⟨h,g,d,t,os⟩:=by
 unfold getAttr
 exact wpAny_bind (wpAny_mkText (getx_by X f I hf hv hq))
end
def tXf (K:PySem.W.Frag) (ta:TE) (a:Addr) (oe:Obj) (f:Str):TE:=fun σ H Q=>ta σ H fun x H1=>∃ C D fs v,x = .ref a∧oe.cls = .ref C∧oe.dict = some D∧PySem.W.notCls oe = true∧ExF K C∧PySem.W.hasDictIn K C = true∧NoAttr K C f∧H1 D = some (.xd fs)∧fs.lookup f = some v∧Q v H1
theorem pe_xf {X:Cx} {a:Addr} {oe:Obj} {f:Str} {e:Expr} {ta:TE} {pos:Pos} (hp:(a,oe) ∈ X.pn) (he:PE X e ta) (hb:attributeBase e f X.env (eval e X.env) = eval e X.env):PE X (.Attribute e f pos) (tXf X.K ta a oe f):=by
 intro pins s σ H Q I h
 refine attr_of hb (thn (he pins s σ H _ I h) fun u s1 ⟨x,H1,I1,rx,C,D,fs,v,ex,hc,hd,hn,f1,f2,f3,hD,hl,q⟩=>?_)
 subst ex
 obtain rfl:u = Value.ref a:=rx
 have pa:=I1.pin _ (List.mem_append_left _ hp)
 obtain ⟨mA,ns,r⟩:=I1.hok D _ hD
 obtain ⟨od,gd,hlk⟩:=lookIn_ns ns
 obtain ⟨v',hv,rv⟩:=RelO.some_of (v:=v) (o:=mA f) (by rw [← hl]; exact r f)
 obtain ⟨hh,g,d,t,os⟩:=s1
 exact getx I1.kIn f1 (xat pa.1 hc hd hn gd) (PySem.W.findObj_own f2 f3 rfl (by rw [hlk,hv])) (handed_of rv) ⟨v,H1,I1.tok _,rv,q⟩
end Ow
namespace Ow
open PySem PySem.Spec PyProof.Rows L2
def Rise (xs:Array Nat):Prop:=∀ i j,i < j→j < xs.size→xs.getD i 0 < xs.getD j 0
theorem getD_any {xs:Array Nat} {i a b:Nat} (h:i < xs.size):xs.getD i a = xs.getD i b:=by
 rw [Array.getD_eq_getD_getElem?,Array.getD_eq_getD_getElem?,Array.getElem?_eq_getElem h]
 rfl
theorem below_go {xs:Array Nat} {j:Nat} (R:Rise xs):∀ (n lo hi:Nat),hi - lo≤n→lo≤hi→hi≤xs.size→(∀ k,k < lo→xs.getD k 0 < j)→(∀ k,hi≤k→k < xs.size→j≤xs.getD k 0) →
  let i:=SetTable.below.go xs j n lo hi; i≤xs.size∧(∀ k,k < i→xs.getD k 0 < j)∧∀ k,i≤k→k < xs.size→j≤xs.getD k 0
 | 0,lo,hi,h1,h2,h3,h4,h5=>by
  have e:lo = hi:=by lia
  subst e
  exact ⟨h3,h4,h5⟩
 | n + 1,lo,hi,h1,h2,h3,h4,h5=>by
  unfold SetTable.below.go
  by_cases c:lo < hi
  ·rw [if_pos c]
   dsimp only
   have m1:(lo + hi) / 2 < hi:=by lia
   have m0:lo≤(lo + hi) / 2:=by lia
   have ms:(lo + hi) / 2 < xs.size:=by lia
   rw [getD_any (b:=0) ms]
   by_cases q:xs.getD ((lo + hi) / 2) 0 < j
   ·rw [if_pos q]
    refine below_go R n _ hi (by lia) (by lia) h3 (fun k hk=>?_) h5
    by_cases hm:k = (lo + hi) / 2
    ·rw [hm]; exact q
    ·exact Nat.lt_trans (R k _ (by lia) ms) q
   ·rw [if_neg q]
    refine below_go R n lo _ (by lia) (by lia) (by lia) h4 fun k hk hs=>?_
    by_cases hm:k = (lo + hi) / 2
    ·rw [hm]; lia
    ·have:=R ((lo + hi) / 2) k (by lia) hs
     lia
  ·rw [if_neg c]
   have e:lo = hi:=by lia
   subst e
   exact ⟨h3,h4,h5⟩
theorem below_ok {xs:Array Nat} (R:Rise xs) (j:Nat):SetTable.below xs j≤xs.size∧(∀ k,k < SetTable.below xs j→xs.getD k 0 < j)∧∀ k,SetTable.below xs j≤k→k < xs.size→j≤xs.getD k 0 :=
 below_go R xs.size 0 xs.size (by lia) (Nat.zero_le _) (Nat.le_refl _) (fun k h=>absurd h (Nat.not_lt_zero k)) fun k h1 h2=>by lia
theorem below_at {xs:Array Nat} (R:Rise xs) {j i:Nat} (hi:i≤xs.size) (h1:∀ k,k < i→xs.getD k 0 < j) (h2:∀ k,i≤k→k < xs.size→j≤xs.getD k 0):SetTable.below xs j = i:=by
 obtain ⟨a,b,c⟩:=below_ok R j
 by_cases q:SetTable.below xs j < i
 ·have:=c _ (Nat.le_refl _) (by lia)
  have:=h1 _ q
  lia
 by_cases q2:i < SetTable.below xs j
 ·have:=b i q2
  have:=h2 i (Nat.le_refl _) (by lia)
  lia
 lia
theorem rise_insert {xs:Array Nat} (R:Rise xs) {j:Nat} (hn:xs[SetTable.below xs j]? ≠ some j):Rise (SetTable.insertAt xs (SetTable.below xs j) j):=by
 obtain ⟨a,b,c⟩:=below_ok R j
 generalize SetTable.below xs j = p at *
 have sz:(SetTable.insertAt xs p j).size = xs.size + 1:=by
  unfold SetTable.insertAt
  simp only [Array.size_append,Array.size_push,Array.size_extract]
  lia
 have g:∀ i,i < xs.size + 1→(SetTable.insertAt xs p j).getD i 0 = if i < p then xs.getD i 0 else if i = p then j else xs.getD (i - 1) 0:=fun i hi=>by
  unfold SetTable.insertAt
  rw [Array.getD_eq_getD_getElem?,Array.getElem?_append,Array.size_push,Array.size_extract]
  have e1:min p xs.size - 0 = p:=by lia
  rw [e1]
  by_cases q:i < p + 1
  ·rw [if_pos q,Array.getElem?_push,Array.size_extract,e1]
   by_cases q2:i = p
   ·rw [if_pos q2,if_neg (by lia),if_pos q2]
    rfl
   ·rw [if_neg q2,if_pos (by lia),Array.getElem?_extract,if_pos (by lia),Array.getD_eq_getD_getElem?,Nat.zero_add]
  ·rw [if_neg q,if_neg (by lia),if_neg (by lia),Array.getElem?_extract,if_pos (by lia),Array.getD_eq_getD_getElem?]
   congr 2
   lia
 have d:∀ k,p≤k→k < xs.size→j < xs.getD k 0:=fun k h1 h2=>by
  have h3:=c k h1 h2
  by_cases e:k = p
  ·subst e
   refine Nat.lt_of_le_of_ne h3 fun z=>hn ?_
   rw [Array.getElem?_eq_getElem h2]
   rw [Array.getD_eq_getD_getElem?,Array.getElem?_eq_getElem h2] at z
   exact congrArg some z.symm
  ·exact Nat.lt_of_le_of_lt (c p (Nat.le_refl _) (by lia)) (R p k (by lia) h2)
 intro i k hik hk
 rw [sz] at hk
 rw [g i (by lia),g k hk]
 by_cases i1:i < p
 ·rw [if_pos i1]
  by_cases k1:k < p
  ·rw [if_pos k1]; exact R i k hik (by lia)
  ·rw [if_neg k1]
   by_cases k2:k = p
   ·rw [if_pos k2]; exact b i i1
   ·rw [if_neg k2]; exact R i (k - 1) (by lia) (by lia)
 ·rw [if_neg i1,if_neg (show ¬ k < p by lia),if_neg (show ¬ k = p by lia)]
  by_cases i2:i = p
  ·rw [if_pos i2]; exact d (k - 1) (by lia) (by lia)
  ·rw [if_neg i2]; exact R (i - 1) (k - 1) (by lia) (by lia)
def Good (t:SetTable):Prop:=t.plain = true→Rise t.place
theorem slot_free {t:SetTable} {j:Nat} (h:∀ i,t.slot j ≠ .live i):t.place[SetTable.below t.place j]? ≠ some j:=fun z=>by
 unfold SetTable.slot at h
 dsimp only at h
 rw [z] at h
 exact h _ (by rw [beq_self_eq_true]; rfl)
theorem probe_free {t:SetTable} {f:Nat→Int} {h:Int}:∀ (n:Nat) (p:SetTable.Probe) {j:Nat} {d:Option Nat},(∀ x,p.dummy = some x→t.slot x = .dummy)→SetTable.probe.go t f h n p = some (.empty j d)→t.slot j = .empty∧∀ x,d = some x→t.slot x = .dummy
 | 0,p,j,d,hp,e=>by cases e
 | n + 1,p,j,d,hp,e=>by
  unfold SetTable.probe.go at e
  split at e
  ·next q =>
   cases e
   exact ⟨q,hp⟩
  ·next q =>
   refine probe_free n _ (fun x hx=>?_) e
   have:({ p with dummy:=some p.j }:SetTable.Probe).dummy = some x:=by
    unfold SetTable.advance at hx
    split at hx <;> exact hx
   cases this
   exact q
  ·next i q =>
   split at e
   ·cases e
   ·refine probe_free n _ (fun x hx=>hp x ?_) e
    unfold SetTable.advance at hx
    split at hx <;> exact hx
theorem freeSlot_ok {t:SetTable} {h:Int} {s:Nat} {b:Bool} (e:t.freeSlot h = some (s,b)):∀ i,t.slot s ≠ .live i:=by
 unfold SetTable.freeSlot at e
 split at e
 ·next j d q =>
  cases e
  obtain ⟨h1,h2⟩:=probe_free _ _ (fun x hx=>by cases hx) q
  intro i z
  cases d with
  | none=>rw [show (none:Option Nat).getD j = j from rfl,h1] at z; cases z
  | some x=>rw [show (some x).getD j = x from rfl,h2 x rfl] at z; cases z
 ·cases e
theorem orStandIn_keeps (t:SetTable) (n:Nat) (g:Good t):(t.orStandIn n).led = t.led∧Good (t.orStandIn n):=by
 unfold SetTable.orStandIn
 split
 ·exact ⟨rfl,g⟩
 ·exact ⟨rfl,fun hp=>by cases hp⟩
theorem layNew_keeps (t:SetTable) (es:Array (Int × Value)) (h:Int) (x:Value) (g:Good t):(layNew t es h x).2.1.led = t.led∧Good (layNew t es h x).2.1:=by
 unfold layNew
 split
 ·next s b e =>
  have z:=orStandIn_keeps (t.put s).1 (SetTable.insertAt es (t.put s).2 (h,x)).size (fun hp=>rise_insert (g hp) (slot_free (freeSlot_ok e)))
  exact ⟨z.1,z.2⟩
 ·exact ⟨rfl,fun hp=>by cases hp⟩
theorem rise_range {α:Type} (f:Nat→Option α):∀ (l:List Nat),l.Pairwise (· < ·)→((l.filterMap fun j=>(f j).map (j,·)).map (·.1)).Pairwise (· < ·):=by
 intro l h
 refine List.pairwise_map.mpr (List.Pairwise.filterMap _ (fun a b hab x hx y hy=>?_) h)
 obtain ⟨_,_,rfl⟩:=Option.map_eq_some_iff.mp hx
 obtain ⟨_,_,rfl⟩:=Option.map_eq_some_iff.mp hy
 exact hab
theorem rise_of {l:List Nat} (h:l.Pairwise (· < ·)):Rise l.toArray:=by
 intro i j hij hj
 have hj':j < l.length:=by simpa using hj
 rw [Array.getD_eq_getD_getElem?,Array.getD_eq_getD_getElem?,List.getElem?_toArray,List.getElem?_toArray,List.getElem?_eq_getElem (show i < l.length by lia),List.getElem?_eq_getElem hj']
 exact List.pairwise_iff_getElem.mp h i j _ _ hij
theorem laid_keeps {m f mo:Nat} {led pl:Bool} {hs:Array Int} {t:SetTable} {o:Array Nat} (e:SetTable.laid m f mo led pl hs = some (t,o)):t.led = led∧Good t:=by
 unfold SetTable.laid at e
 obtain ⟨ow,_,e⟩:=Option.bind_eq_some_iff.mp e
 cases e
 exact ⟨rfl,fun _=>rise_of (rise_range _ _ List.pairwise_lt_range)⟩
theorem relayAll_keeps (t:SetTable) (es:Array (Int × Value)) (n:Nat):(relayAll t es n).2.1.led = t.led∧Good (relayAll t es n).2.1:=by
 unfold relayAll
 split
 ·next t' o e =>
  dsimp only
  split
  ·exact laid_keeps e
  ·exact ⟨rfl,fun hp=>by cases hp⟩
 ·exact ⟨rfl,fun hp=>by cases hp⟩
end Ow
namespace Ow
open PySem PySem.Spec PyProof.Rows L2
def keyI (e:Int × Value):Int:=match e.2 with | .int k _=>k | _=>0
def AllI (l:List (Int × Value)):Prop:=∀ e ∈ l,∃ k tk,e = (hashInt k,Value.int k tk)
def SetI (w:World) (o:Obj) (ks:List Int):Prop:=∃ es ep t,o = ⟨.type "set",none,.set es ep t,#[]⟩∧AllI es.toList∧es.toList.map keyI = ks∧ks.Nodup∧es.size < scanBound∧t.fits es.size = true∧(w.params.followText "set-order" = false→t.led = true)∧Good t
theorem AllI.elems {prog:Program} {w:World} {l:List (Int × Value)} (h:AllI l):ElemsOf (intKind prog w) l:=fun e he=>by
 obtain ⟨k,tk,rfl⟩:=h e he
 exact ⟨⟨k,intKind_is _ _ _ _,rfl⟩,rfl⟩
theorem AllI.push {l l':List (Int × Value)} {k:Int} {tk:Tok} (h:AllI l) (p:List.Perm l' (l ++ [(hashInt k,Value.int k tk)])):AllI l':=fun e he=>by
 rcases List.mem_append.mp (p.mem_iff.mp he) with z | z
 ·exact h e z
 ·rw [List.mem_singleton] at z
  exact ⟨k,tk,z⟩
theorem isInt_key {l:List (Int × Value)} (h:AllI l) {e:Int × Value} (he:e ∈ l) (k:Int):Value.isInt k e.2 = true ↔ keyI e = k:=by
 obtain ⟨k',tk,rfl⟩:=h e he
 show (Value.isInt k (Value.int k' tk) = true) ↔ k' = k
 unfold Value.isInt
 rw [beq_iff_eq]
section
variable {prog:Program} {w:World} {A:Around} {E:Value→Shared→Prop} {s:Shared} {a:Addr} {o:Obj} {ks:List Int} {k:Int} {tk:Tok}
theorem addI {Q:Bool→Shared→Prop} (ho:s.heap.get? a = some o) (S:SetI w o ks) (hr:ks.length + 1 < scanBound)
  (hq:∀ h' o' ks' b,Heap.SameBut a s.heap h'→h'.get? a = some o'→SetI w o' ks'→(∀ x,x ∈ ks' ↔ x ∈ ks∨x = k)→ks'.length≤ks.length + 1→Q b { s with heap:=h' }) :
  wpAny (model prog w) A (setAddHashed a (.int k tk) (hashInt k)) Q E s:=by
 obtain ⟨es,ep,t,rfl,al,rfl,nd,hb,hf,led,gd⟩:=S
 have hsz:es.size + 1 < scanBound:=by rw [List.length_map,Array.length_toList] at hr; exact hr
 unfold setAddHashed setAddHashedIn
 refine wpAny_holding (wpAny_bind (wpAny_setState_of ho rfl hf ?_))
 dsimp only
 rw [byScan_of (knd:=intKind prog w) rfl hb al.elems]
 simp only [↓reduceIte]
 unfold setAddByScan
 refine wpAny_bind (wpAny_bind (wpAny_rule (wpAny_bind (wpAny_setScan_of (knd:=intKind prog w) (k:=k) (intKind_is _ _ _ _) ho rfl hf al.elems ?_))))
 cases hr2:List.findIdx? (fun e=>(intKind prog w).is k e.2) es.toList with
 | some j =>
  dsimp only
  obtain ⟨hj,pj,_⟩:=List.findIdx?_eq_some_iff_getElem.mp hr2
  have hk:k ∈ es.toList.map keyI:=List.mem_map.mpr ⟨es.toList[j],List.getElem_mem hj,(isInt_key al (List.getElem_mem hj) k).mp pj⟩
  refine wpAny_pure (wpAny_pure ?_)
  have z:=hq s.heap _ _ false (Heap.SameBut.refl a s.heap) ho ⟨es,ep,t,rfl,al,rfl,nd,hb,hf,led,gd⟩ (fun x=>⟨.inl,fun q=>q.elim id fun q=>q ▸ hk⟩) (Nat.le_succ _)
  exact z
 | none =>
  dsimp only
  have nk:k ∉ es.toList.map keyI:=fun q=>by
   obtain ⟨e,he,hk⟩:=List.mem_map.mp q
   have z:=List.findIdx?_eq_none_iff.mp hr2 e he
   rw [show (intKind prog w).is k e.2 = true from (isInt_key al he k).mpr hk] at z
   cases z
  have pm:=layNew_perm t es (hashInt k) (.int k tk)
  have fi:=layNew_fits t es (hashInt k) (.int k tk)
  have kp:=layNew_keeps t es (hashInt k) (.int k tk) gd
  generalize hL:layNew t es (hashInt k) (.int k tk) = L at pm fi kp ⊢
  obtain ⟨es1,t1,wd,gave⟩:=L
  dsimp only at pm fi kp ⊢
  rw [Array.toList_push] at pm
  have al1:=al.push pm
  have len1:es1.size = es.size + 1:=by rw [← Array.length_toList,pm.length_eq,List.length_append,Array.length_toList]; rfl
  have kperm:List.Perm (es1.toList.map keyI) (es.toList.map keyI ++ [k]):=by
   have z:=pm.map keyI
   rwa [List.map_append] at z
  have nd1:(es1.toList.map keyI).Nodup:=by
   refine kperm.nodup_iff.mpr ?_
   rw [List.nodup_append]
   exact ⟨nd,List.nodup_cons.mpr ⟨List.not_mem_nil,List.nodup_nil⟩,fun x hx y hy z=>by rw [List.mem_singleton] at hy; subst hy; subst z; exact nk hx⟩
  have mem1:∀ x,x ∈ es1.toList.map keyI ↔ x ∈ es.toList.map keyI∨x = k:=fun x=>by rw [kperm.mem_iff,List.mem_append,List.mem_singleton]
  have gw:∀ (b:Bool) {s1:Shared} {Q':Unit→Shared→Prop},Q' () s1→wpAny (model prog w) A (match b with | true=>rule "set.scan.the-table-gave-way" | false=>pure ()) Q' E s1:=fun b s1 Q' q=>by
   cases b <;> first | exact wpAny_pure q | exact wpAny_rule q
  have tail:∀ t2:SetTable,t2.fits es1.size = true→(w.params.followText "set-order" = false→t2.led = true)→Good t2→wpAny (model prog w) A (do
    storeSet a es1 t2
    if (!wd && t2.tooFull) = true then do
      (match (relayAll t2 es1 (SetTable.grown es1.size)).2.2 with | true=>rule "set.scan.the-table-gave-way" | false=>pure ())
      storeSet a (relayAll t2 es1 (SetTable.grown es1.size)).1 (relayAll t2 es1 (SetTable.grown es1.size)).2.1
      pure (some true)
     else pure (some true)) (fun r s'=>wpAny (model prog w) A (match r with | some added=>pure added | none=>setAddHashedIn a (.int k tk) (hashInt k) 99999) Q E s') E s:=fun t2 f2 l2 g2=>by
   have sz1:es1.size≤sizeLine:=fits_of_scanBound (by rw [len1]; exact hsz)
   refine wpAny_bind (wpAny_storeSet_of ho rfl ?_ sz1)
   have g1:(s.heap.update a (Obj.putSet es1 t2)).get? a = some ⟨.type "set",none,.set es1 (ep + 1) t2,#[]⟩:=Heap.get?_update_self _ ho rfl
   split
   ·have p2:=relayAll_perm t2 es1 (SetTable.grown es1.size)
    have f3:=relayAll_fits t2 es1 (SetTable.grown es1.size)
    have k3:=relayAll_keeps t2 es1 (SetTable.grown es1.size)
    generalize relayAll t2 es1 (SetTable.grown es1.size) = R at p2 f3 k3 ⊢
    obtain ⟨es2,t3,gv⟩:=R
    dsimp only at p2 f3 k3 ⊢
    have len2:es2.size = es1.size:=by rw [← Array.length_toList,p2.length_eq,Array.length_toList]
    refine wpAny_bind (gw _ (wpAny_bind (wpAny_storeSet_of (s:={ s with heap:=s.heap.update a (Obj.putSet es1 t2) }) g1 rfl ?_ (by rw [len2]; exact sz1))))
    have g3:((s.heap.update a (Obj.putSet es1 t2)).update a (Obj.putSet es2 t3)).get? a = some ⟨.type "set",none,.set es2 (ep + 1 + 1) t3,#[]⟩:=Heap.get?_update_self _ g1 rfl
    refine wpAny_pure (wpAny_pure (hq _ _ (es2.toList.map keyI) true ((Heap.SameBut.update _ a _).trans (Heap.SameBut.update _ a _)) g3 ⟨es2,_,t3,rfl,fun e he=>al1 e (p2.mem_iff.mp he),rfl,(p2.map keyI).nodup_iff.mpr nd1,by rw [len2,len1]; exact hsz,f3,fun q=>by rw [k3.1]; exact l2 q,k3.2⟩ (fun x=>by rw [(p2.map keyI).mem_iff]; exact mem1 x) ?_))
    rw [List.length_map,List.length_map,Array.length_toList,Array.length_toList,len2,len1]
    exact Nat.le_refl _
   ·refine wpAny_pure (wpAny_pure (hq _ _ (es1.toList.map keyI) true (Heap.SameBut.update _ a _) g1 ⟨es1,_,t2,rfl,al1,rfl,nd1,by rw [len1]; exact hsz,f2,l2,g2⟩ mem1 ?_))
    rw [List.length_map,List.length_map,Array.length_toList,Array.length_toList,len1]
    exact Nat.le_refl _
  refine wpAny_bind (gw _ ?_)
  split
  ·refine wpAny_bind ?_
   rw [hashByValue_scannable 8 rfl]
   refine wpAny_pure ?_
   exact tail t1 fi (fun q=>by rw [kp.1]; exact led q) kp.2
  ·refine wpAny_bind (wpAny_pure ?_)
   simp only [↓reduceIte]
   exact tail t1 fi (fun q=>by rw [kp.1]; exact led q) kp.2
end
end Ow
namespace Ow
open PySem PySem.Spec PyProof.Rows L2
def Upto (w:World) (val:Nat→Int) (i:Nat) (S:Addr) (h:Heap):Prop:=∃ o ks,h.get? S = some o∧SetI w o ks∧ks.length≤i∧∀ x,x ∈ ks ↔ ∃ j,j < i∧val j = x
section
variable {prog:Program} {w:World} {A:Around} {R:Result→Shared→Prop} {I:Addr} {fp wr:List Addr} {G:Array GenState→Array GenState→Prop} {n:Nat} {P:Nat→Value→Prop} {St:Nat→Shared→Prop}
theorem setloopI (W:WalksS prog w A.in1 I fp wr G n P St) (S:Addr) (nS:S ∉ fp) (val:Nat→Int) (hv:∀ i v,P i v→∃ t,v = .int (val i) t) (hb:n + 1 < scanBound) :
  ∀ (k i:Nat) (s:Shared),n - i = k→i≤n→St i s→Upto w val i S s.heap→(∀ s',Moved (S :: wr) G s s'→Upto w val n S s'.heap→R (.ok (.ret .none)) s') →
   codeAny (model prog w) A (.builtin "set.update.loop" ⟨[.ref S,.ref I],[]⟩) R s:=by
 have nw:S ∉ wr:=fun z=>nS (W.sub _ z)
 have sb:∀ b ∈ wr,b ∈ S :: wr:=fun b z=>List.mem_cons_of_mem _ z
 have mv:∀ {i:Nat} {s s':Shared},Moved wr G s s'→Upto w val i S s.heap→Upto w val i S s'.heap:=fun m ⟨o,ks,g,r⟩=>⟨o,ks,m.heap S _ nw g,r⟩
 intro k
 induction k with
 | zero =>
  intro i s e1 e2 st U hR
  have e3:i = n:=by lia
  subst e3
  refine codeAny_builtin F.entry_set_update_loop ?_
  rw [Around.under_plainId F.plain_set_update_loop _]
  show wpAny _ A.in1 (pyNext (.ref I) >>= _) _ _ s
  refine wpAny_bind (W.done s _ _ st fun s1 m=>?_)
  show wpAny _ A.in1 (ret Value.none) _ _ s1
  exact wpAny_pure (hR s1 (m.mono sb) (mv m U))
 | succ k ih =>
  intro i s e1 e2 st U hR
  have e3:i < n:=by lia
  refine codeAny_builtin F.entry_set_update_loop ?_
  rw [Around.under_plainId F.plain_set_update_loop _]
  show wpAny _ A.in1 (pyNext (.ref I) >>= _) _ _ s
  refine wpAny_bind (W.item i s _ _ e3 st fun v s1 hP st1 m=>?_)
  obtain ⟨t,rfl⟩:=hv i v hP
  obtain ⟨o,ks,g,SI,le,mem⟩:=mv m U
  show wpAny _ A.in1 (holding [Value.int (val i) t] (setAdd S (.int (val i) t)) >>= _) _ _ s1
  refine wpAny_bind (wpAny_holding ?_)
  unfold setAdd
  refine wpAny_holding (wpAny_bind ((intKind prog w).pyHash (k:=val i) (intKind_is _ _ _ _) ?_))
  refine addI (s:={ s1 with toks:=s1.toks + 1 }) g SI (by lia) fun h' o' ks' b same g' SI' mem' le'=>?_
  have U':Upto w val (i + 1) S h':=⟨o',ks',g',SI',by lia,fun x=>by
   rw [mem' x,mem x]
   constructor
   ·rintro (⟨j,hj,e⟩ | rfl)
    ·exact ⟨j,by lia,e⟩
    ·exact ⟨i,by lia,rfl⟩
   ·rintro ⟨j,hj,e⟩
    by_cases hji:j = i
    ·subst hji; exact .inr e.symm
    ·exact .inl ⟨j,by lia,e⟩⟩
  have oth:∀ b' o2,b' ≠ S→s1.heap.get? b' = some o2→h'.get? b' = some o2:=fun b' o2 hne q=>(same.2 b' hne).trans q
  refine wpAny_pure ⟨plainId_quiet F.plain_set_update_loop _,ih (i + 1) { s1 with heap:=h',toks:=s1.toks + 1 } (by lia) e3 (W.frame _ s1 h' (s1.toks + 1) st1 (Nat.le_succ _) fun b' hb' o2 q=>oth b' o2 (fun z=>nS (z ▸ hb')) q) U' fun s2 m2 U2=>?_⟩
  exact hR s2 (Moved.trans W.gtrans ((m.mono sb).then_heap (Nat.le_succ _) fun b' o2 hb' q=>oth b' o2 (fun z=>hb' (z ▸ List.mem_cons_self ..)) q) m2) U2
end
section
variable {prog:Program} {w:World} {A:Around} {E:Value→Shared→Prop} {s:Shared}
theorem newset_code (a:Value) {Q:Value→Shared→Prop}
  (h:Q (.ref s.heap.objs.size) { s with heap:=s.heap.push { cls:=.type "set",dict:=none,data:=.set #[] 0 (.fresh 0 0 (!(w.params.followText "set-order"))) } }) :
  codeAny (model prog w) A (.call (.builtin "set.__new__") ⟨[.type "set",a],[]⟩) (wants Q E) s:=by
 refine codeAny_of_tree ?_
 show wpAny _ A.in1 (do checkBuiltinCall "set.__new__" ⟨[.type "set",a],[]⟩; again (.builtin "set.__new__" ⟨[.type "set",a],[]⟩)) _ _ s
 refine wpAny_bind (wpAny_of_eq (F.newCall_set_1 a) (wpAny_pure ⟨plainId_quiet F.plain_set_new _,codeAny_builtin F.entry_set_new ?_⟩))
 rw [Around.under_plainId F.plain_set_new _]
 unfold Builtin.«set.__new__» Builtin.Frozenset.newClass
 have su:=sub_set_self
 obtain ⟨hp,g,d,tk,os⟩:=s
 dsimp only
 wp_walk
 refine wpAny_askSetting (wpAny_pure ?_)
 dsimp only
 simp only [newObj]
 exact wpAny_bind (wpAny_alloc (wpAny_pure (wpAny_pure h)))
theorem call_setI {l:Addr} {its:Array Value} {ns:List Int} {Q:Value→Shared→Prop} (hh:A.handled = none) (hl:s.heap.IsList l its) (hi:IntsAre its.toList ns) (hb:its.size + 1 < scanBound)
  (k:∀ (h':Heap) (tk:Nat),Upto w (fun i=>ns.getD i 0) its.size s.heap.objs.size h'→(∀ b o,b < s.heap.objs.size→s.heap.get? b = some o→h'.get? b = some o)→Q (.ref s.heap.objs.size) { s with heap:=h',toks:=tk }) :
  wpAny (model prog w) A (call (.type "set") [.ref l]) Q E s:=by
 obtain ⟨c,tl,hmro⟩:=F.called_set.mro
 have q1:=F.called_set.made
 have q2:=F.called_set.sub
 have q3:=F.called_set.notType
 have q4:=F.called_set.canCreate
 have q5:=F.typeCall_set_1 (.ref l)
 generalize hled:(!(w.params.followText "set-order")) = led
 refine wpAny_call (codeAny_of_tree ?_)
 show wpAny _ _ (callAny (.type "set") _) _ _ _
 refine wpAny_pure ⟨Code.quiet_builtin _ (by decide +kernel),codeAny_builtin F.entry_type_call ?_⟩
 rw [Around.under_plain (weight_type_call_type "set" [.ref l] []) rfl]
 repeat (any_goals (first | assumption | wp_step))
 refine codeAny_mono (newset_code (.ref l) (E:=E) (Q:=fun ob s1=>ob = .ref s.heap.objs.size∧s1 = { s with heap:=s.heap.push { cls:=.type "set",dict:=none,data:=.set #[] 0 (.fresh 0 0 led) } }) ⟨rfl,by rw [hled]⟩) fun r s1 hr=>?_
 cases r with
 | error e=>exact hr
 | ok fl =>
  cases fl with
  | ret ob =>
   obtain ⟨rfl,rfl⟩:=hr
   have gS:(s.heap.push { cls:=.type "set",dict:=none,data:=.set #[] 0 (.fresh 0 0 led) }).get? s.heap.objs.size = some { cls:=.type "set",dict:=none,data:=.set #[] 0 (.fresh 0 0 led) }:=Heap.get?_push_size _ rfl
   have tS:Shared.TypeIs { s with heap:=s.heap.push { cls:=.type "set",dict:=none,data:=.set #[] 0 (.fresh 0 0 led) } } (.ref s.heap.objs.size) "set":=⟨_,gS,rfl⟩
   have q6:=F.called_set.init.lookup
   have q7:=F.called_set.init.bind (.ref s.heap.objs.size)
   repeat (any_goals (first | assumption | wp_step))
   refine codeAny_mono (codeAny_call_builtin (R:=wants (fun r s2=>r = .none∧∃ h' tk,s2 = { s with heap:=h',toks:=tk }∧Upto w (fun i=>ns.getD i 0) its.size s.heap.objs.size h'∧∀ b o,b < s.heap.objs.size→s.heap.get? b = some o→h'.get? b = some o) E)
    F.called_set.init.plain F.entry_set_init (check_set_init_1 tS ?_)) fun r2 s2 hr2=>?_
   ·obtain ⟨ol,go,hcl,nl,hdl⟩:=hl
    obtain ⟨o1,o2,o3,o4⟩:=ol
    simp only at hcl hdl
    subst hcl hdl
    have gl:(s.heap.push { cls:=.type "set",dict:=none,data:=.set #[] 0 (.fresh 0 0 led) }).get? l = some { cls:=.type "list",dict:=o2,data:=.seq its nl,slots:=o4 }:=Heap.get?_push_of_some _ go
    have p1:=F.sub_list_set
    have p2:=F.sub_list_frozenset
    have p3:(Value.type "list" == Value.type "dict") = false:=by decide
    have il:(s.heap.push { cls:=.type "set",dict:=none,data:=.set #[] 0 (.fresh 0 0 led) }).IsList l its:=⟨_,gl,rfl,nl,rfl⟩
    unfold Builtin.«set.__init__» noKeywords Builtin.Frozenset.updateFrom
    generalize eP:pyIter = PI
    wp_walk
    subst eP
    refine wpAny_pyIter_list il (wpAny_bind (wpAny_runValue ?_))
    have lS:l < s.heap.objs.size:=Heap.lt_size go
    have hh3:A.in1.in1.in1.handled = none:=by simp [hh]
    have lI:l ≠ (s.heap.push { cls:=.type "set",dict:=none,data:=.set #[] 0 (.fresh 0 0 led) }).objs.size:=by
     rw [Heap.size_push]
     exact Nat.ne_of_lt (Nat.lt_succ_of_lt lS)
    have nS:s.heap.objs.size ∉ [(s.heap.push { cls:=.type "set",dict:=none,data:=.set #[] 0 (.fresh 0 0 led) }).objs.size,l]:=fun z=>by
     rw [Heap.size_push] at z
     rcases List.mem_cons.mp z with z | z
     ·lia
     ·rw [List.mem_singleton] at z
      exact absurd z.symm (Nat.ne_of_lt lS)
    refine setloopI ((Walks.list hh3 _ l lI its).toS) s.heap.objs.size nS (fun i=>ns.getD i 0) (fun i v hv=>IntsAre.int_at hi i v (by rw [Array.getElem?_toList]; exact hv)) hb (its.size - 0) 0 _ (by lia) (Nat.zero_le _)
     ⟨⟨_,Heap.get?_push_size _ rfl,rfl,rfl⟩,il.push _⟩ ?U0 ?hR
    case U0 =>
     refine ⟨_,[],Heap.get?_push_of_some _ gS,⟨#[],0,.fresh 0 0 led,rfl,(fun e he=>by simp at he),rfl,List.nodup_nil,by unfold scanBound; decide,rfl,fun z=>?_,fun _ i j hij hj=>?_⟩,Nat.le_refl _,fun x=>⟨fun z=>(List.not_mem_nil z).elim,fun ⟨j,hj,_⟩=>by lia⟩⟩
     ·show led = true
      rw [← hled,z]
      rfl
     ·exact absurd hj (Nat.not_lt_zero _)
    case hR =>
     intro s' m U
     obtain ⟨h',g',d',tk',os'⟩:=s'
     obtain rfl:g' = s.gens:=m.gens
     obtain rfl:d' = s.drawn:=m.drawn
     obtain rfl:os' = s.os:=m.os
     show wpAny _ _ _ _ _ _
     refine wpAny_pure ?_
     show wpAny _ _ (ret Value.none) _ _ _
     refine wpAny_pure ⟨rfl,h',tk',rfl,U,fun b o hb' e=>m.heap b o (fun z=>?_) (Heap.get?_push_of_some _ (Heap.get?_push_of_some _ e))⟩
     rcases List.mem_cons.mp z with z | z
     ·exact absurd z (Nat.ne_of_lt hb')
     ·rw [List.mem_singleton,Heap.size_push] at z
      exact absurd z (Nat.ne_of_lt (Nat.lt_succ_of_lt hb'))
   ·cases r2 with
    | error e=>exact hr2
    | ok fl2 =>
     cases fl2 with
     | ret r =>
      obtain ⟨rfl,h',tk,rfl,U,kp⟩:=hr2
      repeat (any_goals (first | assumption | wp_step))
      exact k _ _ U kp
     | _=>exact hr2.elim
  | _=>exact hr.elim
end
end Ow
namespace Ow
open PySem PySem.Spec PyProof.Rows L2
theorem slot_setit:Slot "set_iterator" "__next__" "set_iterator.__next__" :=
 .of (owner:="set_iterator") (n:="__next__") (by rw [typeLookup_type,builtinLookup_eq_fast]; kernel_rfl) (by decide +kernel) (by decide +kernel) (by decide +kernel) (by first | exact .inl (by decide +kernel) | exact .inr (by decide +kernel)) (by rw [isSubtype_type]; kernel_rfl)
theorem entry_setit:entryFor table "set_iterator.__next__" = some Builtin.«set_iterator.__next__»:=entryFor_of_fast (by kernel_rfl)
theorem args_setit (a:Value):argsOk "set_iterator.__next__" ⟨[a],[]⟩:=by unfold argsOk; kernel_rfl
theorem setNext_is (a:Addr) (slot given ep:Nat):setNext a slot given ep = (do
  let (es,epoch,t) ← setState a
  if ← setsByText then
   if epoch != ep then unsupported "set_iterator.__next__:elements-changed"
   return ((← setWalk a)[given]?).map fun e=>(e.2,slot)
  if !t.plain && es.size > 1 then unsupported "set_iterator.__next__:the-table-is-plain-no-more"
  (if !t.led && !es.isEmpty then unsupported "set:maker-not-led" else pure ():Sem Unit)
  let i:=SetTable.below t.place slot
  return match es[i]?,t.place[i]? with
   | some (_,x),some j=>some (x,j + 1)
   | _,_=>none):=rfl
theorem setWalk_is (a:Addr):setWalk a = (do
  let (es,epoch,t) ← setState a
  if ← setsByText then return pickOrder ((← ask).params.setOrder a epoch) es
  if !t.plain && es.size > 1 then return (← drawOrder es.size es.toList).toArray
  (if !t.led && es.size > 1 then unsupported "set:maker-not-led" else pure ():Sem Unit)
  return es):=rfl
def itO (first:Value) (i:Nat) (S:Addr) (n ep:Nat):Obj:=⟨.type "set_iterator",none,.fields #[first,.int i 0,.ref S,.int n 0,.int ep 0],#[]⟩
section
variable {prog:Program} {w:World} {A:Around} {E:Value→Shared→Prop} {s:Shared} {S I:Addr} {es:Array (Int × Value)} {ep:Nat} {t:SetTable}
theorem byText_at {Q:Bool→Shared→Prop} (h:Q (w.params.followText "set-order") s):wpAny (model prog w) A setsByText Q E s:=by
 unfold setsByText
 exact wpAny_bind (wpAny_askSetting (wpAny_pure h))
theorem nextC {slot given:Nat} {e:Int × Value} {j:Nat} {Q:Option (Value × Nat)→Shared→Prop} (hS:s.heap.get? S = some ⟨.type "set",none,.set es ep t,#[]⟩) (hf:t.fits es.size = true) (hb:w.params.followText "set-order" = false) (hd:(!t.plain && decide (es.size > 1)) = false) (hl:t.led = true)
  (h:Q (match es[SetTable.below t.place slot]?,t.place[SetTable.below t.place slot]? with | some (_,x),some j=>some (x,j + 1) | _,_=>none) s) :
  wpAny (model prog w) A (setNext S slot given ep) Q E s:=by
 rw [setNext_is]
 refine wpAny_bind (wpAny_setState_of hS rfl hf (wpAny_bind (byText_at ?_)))
 rw [hb]
 simp only [Bool.false_eq_true,↓reduceIte]
 rw [hd,hl]
 simp only [Bool.false_eq_true,↓reduceIte,Bool.not_true,Bool.false_and]
 exact wpAny_pure h
theorem nextA {slot given:Nat} {Q:Option (Value × Nat)→Shared→Prop} (hS:s.heap.get? S = some ⟨.type "set",none,.set es ep t,#[]⟩) (hf:t.fits es.size = true) (hb:w.params.followText "set-order" = true)
  (h:Q (((pickOrder (w.params.setOrder S ep) es)[given]?).map fun e=>(e.2,slot)) s) :
  wpAny (model prog w) A (setNext S slot given ep) Q E s:=by
 rw [setNext_is]
 refine wpAny_bind (wpAny_setState_of hS rfl hf (wpAny_bind (byText_at ?_)))
 rw [hb]
 simp only [bne_self_eq_false,Bool.false_eq_true,↓reduceIte]
 rw [setWalk_is]
 refine wpAny_bind (wpAny_bind (wpAny_setState_of hS rfl hf (wpAny_bind (byText_at ?_))))
 rw [hb]
 simp only [↓reduceIte]
 exact wpAny_bind (wpAny_askSetting (wpAny_pure (wpAny_pure h)))
theorem next_item {slot i n:Nat} {x:Value} {slot':Nat} {Q:Option Value→Shared→Prop} (hI:s.heap.get? I = some (itO (.int slot 0) i S n ep)) (hS:s.heap.get? S = some ⟨.type "set",none,.set es ep t,#[]⟩) (hf:t.fits es.size = true) (hn:n = es.size)
  (hnx:∀ (A:Around) (E:Value→Shared→Prop) (Q:Option (Value × Nat)→Shared→Prop),Q (some (x,slot')) s→wpAny (model prog w) A (setNext S slot i ep) Q E s)
  (h:∀ h',h'.get? I = some (itO (.int slot' 0) (i + 1) S n ep)→Heap.SameBut I s.heap h'→Q (some x) { s with heap:=h' }):wpAny (model prog w) A (pyNext (.ref I)) Q E s:=by
 unfold pyNext
 have ty:s.TypeIs (.ref I) "set_iterator":=⟨_,hI,rfl⟩
 refine wpAny_bind (wpAny_attempt (wpAny_callSpecial?_slot (name:=Str.ofString "__next__") ty slot_setit (wpAny_call_entry slot_setit ty entry_setit ?_ (args_setit _))))
 unfold Builtin.«set_iterator.__next__»
 refine wpAny_bind (wpAny_pure ?_)
 dsimp only
 refine wpAny_bind (wpAny_fieldsOf hI rfl ?_)
 dsimp only
 refine wpAny_bind (wpAny_setEntries_of hS rfl hf ?_)
 subst hn
 simp only [bne_self_eq_false,Bool.false_eq_true,↓reduceIte]
 simp only [Int.toNat_natCast]
 refine wpAny_bind (hnx _ _ _ ?_)
 dsimp only
 refine wpAny_bind (wpAny_setField hI rfl (by show 0 < 5; decide) ?_)
 have g1:=Heap.get?_update_self (Obj.mapFields (·.setIfInBounds 0 (rawInt slot'))) hI rfl
 refine wpAny_bind (wpAny_setField g1 rfl (by show 1 < 5; decide) ?_)
 have g2:=Heap.get?_update_self (Obj.mapFields (·.setIfInBounds 1 (rawInt ((i:Int) + 1)))) g1 rfl
 exact wpAny_pure ⟨x,rfl,wpAny_pure (h _ g2 ((Heap.SameBut.update ..).trans (Heap.SameBut.update ..)))⟩
theorem stop_it {Q:Option Value→Shared→Prop} {o:Obj} {vs:Array Value} (hh:A.handled = none) (hI:s.heap.get? I = some o) (hd:o.data = .fields vs) (hz:2 < vs.size) (h:∀ h',Heap.ExtBut I s.heap h'→Q none { s with heap:=h' }) :
  wpAny (model prog w) A.in1 (do
    setField (Value.ref I) 2 Value.none
    let e ← newExc (Value.type "StopIteration") []
    raiseNew e)
   (fun fin s'=>∃ v,fin = Fin.done (Flow.ret v)∧wpAny (model prog w) A (pure (some v)) Q E s')
   (fun e s'=>wpAny (model prog w) A (do if ← isInstance e (Value.type "StopIteration") then pure none else throw e) Q E s') s:=by
 refine wpAny_bind (wpAny_setField hI hd hz (wpAny_bind ?_))
 simp only [newExc,newTuple]
 refine wpAny_bind (wpAny_newObj_type ?_ (by size_fits))
 refine wpAny_bind (m:=firstArgMember _ _) (wpAny_of_eq (a:=Value.none) (by first | rfl | (simp only [firstArgMember]; rfl)) ?_)
 refine wpAny_newObj_type ?_ (by size_fits)
 simp only [raiseNew]
 refine wpAny_bind (wpAny_handled ?_)
 rw [show A.in1.handled = none from hh]
 refine wpAny_bind (wpAny_pure (wpAny_throw ?_))
 refine wpAny_bind (wpAny_isInstance (T:="StopIteration") (b:=true) ⟨_,Heap.get?_push_size _ rfl,rfl⟩ isSubtype_stop ?_)
 simp only [↓reduceIte]
 refine wpAny_pure (h _ fun b ob hb q=>?_)
 exact Heap.get?_push_of_some _ (Heap.get?_push_of_some _ ((Heap.get?_update_other _ _ (Ne.symm hb)).trans q))
theorem next_end {slot i n:Nat} {Q:Option Value→Shared→Prop} (hh:A.handled = none) (hI:s.heap.get? I = some (itO (.int slot 0) i S n ep)) (hS:s.heap.get? S = some ⟨.type "set",none,.set es ep t,#[]⟩) (hf:t.fits es.size = true) (hn:n = es.size)
  (hnx:∀ (A:Around) (E:Value→Shared→Prop) (Q:Option (Value × Nat)→Shared→Prop),Q none s→wpAny (model prog w) A (setNext S slot i ep) Q E s)
  (h:∀ h',Heap.ExtBut I s.heap h'→Q none { s with heap:=h' }):wpAny (model prog w) A (pyNext (.ref I)) Q E s:=by
 unfold pyNext
 have ty:s.TypeIs (.ref I) "set_iterator":=⟨_,hI,rfl⟩
 refine wpAny_bind (wpAny_attempt (wpAny_callSpecial?_slot (name:=Str.ofString "__next__") ty slot_setit (wpAny_call_entry slot_setit ty entry_setit ?_ (args_setit _))))
 unfold Builtin.«set_iterator.__next__»
 refine wpAny_bind (wpAny_pure ?_)
 dsimp only
 refine wpAny_bind (wpAny_fieldsOf hI rfl ?_)
 dsimp only
 refine wpAny_bind (wpAny_setEntries_of hS rfl hf ?_)
 subst hn
 simp only [bne_self_eq_false,Bool.false_eq_true,↓reduceIte]
 simp only [Int.toNat_natCast]
 refine wpAny_bind (hnx _ _ _ ?_)
 exact stop_it hh hI rfl (by show 2 < 5; decide) h
theorem draw_item {T:Addr} {ot:Obj} {ps:Array Value} {i n p:Nat} {tk:Tok} {e:Int × Value} {Q:Option Value→Shared→Prop} (hI:s.heap.get? I = some (itO (.ref T) i S n ep)) (hS:s.heap.get? S = some ⟨.type "set",none,.set es ep t,#[]⟩) (hf:t.fits es.size = true) (hn:n = es.size)
  (hT:s.heap.get? T = some ot) (hd:∃ m,ot.data = .seq ps m) (hp:ps[i]? = some (.int p tk)) (he:es[p]? = some e)
  (h:∀ h',h'.get? I = some (itO (.ref T) (i + 1) S n ep)→Heap.SameBut I s.heap h'→Q (some e.2) { s with heap:=h' }):wpAny (model prog w) A (pyNext (.ref I)) Q E s:=by
 unfold pyNext
 have ty:s.TypeIs (.ref I) "set_iterator":=⟨_,hI,rfl⟩
 refine wpAny_bind (wpAny_attempt (wpAny_callSpecial?_slot (name:=Str.ofString "__next__") ty slot_setit (wpAny_call_entry slot_setit ty entry_setit ?_ (args_setit _))))
 unfold Builtin.«set_iterator.__next__»
 refine wpAny_bind (wpAny_pure ?_)
 dsimp only
 refine wpAny_bind (wpAny_fieldsOf hI rfl ?_)
 dsimp only
 refine wpAny_bind (wpAny_setEntries_of hS rfl hf ?_)
 subst hn
 simp only [bne_self_eq_false,Bool.false_eq_true,↓reduceIte]
 simp only [Int.toNat_natCast]
 obtain ⟨m,hd⟩:=hd
 refine wpAny_bind (wpAny_seqItems hT hd ?_)
 dsimp only
 rw [hp]
 dsimp only
 unfold setNextDrawn
 refine wpAny_bind (wpAny_bind (wpAny_setState_of hS rfl hf ?_))
 simp only [bne_self_eq_false,Bool.false_eq_true,↓reduceIte,Int.toNat_natCast,he]
 refine wpAny_pure (wpAny_bind (wpAny_setField hI rfl (by show 1 < 5; decide) ?_))
 have g2:=Heap.get?_update_self (Obj.mapFields (·.setIfInBounds 1 (rawInt ((i:Int) + 1)))) hI rfl
 exact wpAny_pure ⟨_,rfl,wpAny_pure (h _ g2 (Heap.SameBut.update ..))⟩
theorem draw_end {T:Addr} {ot:Obj} {ps:Array Value} {i n:Nat} {Q:Option Value→Shared→Prop} (hh:A.handled = none) (hI:s.heap.get? I = some (itO (.ref T) i S n ep)) (hS:s.heap.get? S = some ⟨.type "set",none,.set es ep t,#[]⟩) (hf:t.fits es.size = true) (hn:n = es.size)
  (hT:s.heap.get? T = some ot) (hd:∃ m,ot.data = .seq ps m) (hp:ps[i]? = none)
  (h:∀ h',Heap.ExtBut I s.heap h'→Q none { s with heap:=h' }):wpAny (model prog w) A (pyNext (.ref I)) Q E s:=by
 unfold pyNext
 have ty:s.TypeIs (.ref I) "set_iterator":=⟨_,hI,rfl⟩
 refine wpAny_bind (wpAny_attempt (wpAny_callSpecial?_slot (name:=Str.ofString "__next__") ty slot_setit (wpAny_call_entry slot_setit ty entry_setit ?_ (args_setit _))))
 unfold Builtin.«set_iterator.__next__»
 refine wpAny_bind (wpAny_pure ?_)
 dsimp only
 refine wpAny_bind (wpAny_fieldsOf hI rfl ?_)
 dsimp only
 refine wpAny_bind (wpAny_setEntries_of hS rfl hf ?_)
 subst hn
 simp only [bne_self_eq_false,Bool.false_eq_true,↓reduceIte]
 simp only [Int.toNat_natCast]
 obtain ⟨m,hd⟩:=hd
 refine wpAny_bind (wpAny_seqItems hT hd ?_)
 dsimp only
 rw [hp]
 dsimp only
 refine wpAny_bind (wpAny_setField hI rfl (by show 0 < 5; decide) ?_)
 have g1:=Heap.get?_update_self (Obj.mapFields (·.setIfInBounds 0 (rawInt 0))) hI rfl
 refine stop_it (s:={ s with heap:=s.heap.update I (Obj.mapFields (·.setIfInBounds 0 (rawInt 0))) }) hh g1 rfl (by show 2 < 5; decide) fun h' x=>h h' fun b o hb q=>x b o hb ((Heap.get?_update_other _ _ (Ne.symm hb)).trans q)
end
end Ow
namespace Ow
open PySem PySem.Spec PyProof.Rows L2
theorem slot_setit_iter:Slot "set_iterator" "__iter__" "set_iterator.__iter__" :=
 .of (owner:="set_iterator") (n:="__iter__") (by rw [typeLookup_type,builtinLookup_eq_fast]; kernel_rfl) (by decide +kernel) (by decide +kernel) (by decide +kernel) (by first | exact .inl (by decide +kernel) | exact .inr (by decide +kernel)) (by rw [isSubtype_type]; kernel_rfl)
theorem args_setit_iter (a:Value):argsOk "set_iterator.__iter__" ⟨[a],[]⟩:=by unfold argsOk; kernel_rfl
theorem entry_setit_iter:entryFor table "set_iterator.__iter__" = some Builtin.«dict_keyiterator.__iter__» :=
 entryFor_alias (id':="dict_keyiterator.__iter__") (by kernel_rfl) rfl (by decide +kernel) (by kernel_rfl)
theorem erase_perm {α:Type}:∀ (l:List α) (i:Nat) (h:i < l.length),List.Perm ([l[i]] ++ l.eraseIdx i) l
 | x :: l,0,h=>.refl _
 | x :: l,i + 1,h=>(List.Perm.swap x _ _).trans (.cons x (erase_perm l i (Nat.lt_of_succ_lt_succ h)))
theorem pick_perm {α:Type} (f:Nat→Nat):∀ (n k:Nat) (l:List α) (out:Array α),l.length = n→List.Perm (pickOrder.go f n k l out).toList (out.toList ++ l)
 | 0,k,l,out,h=>by
  obtain rfl:l = []:=List.length_eq_zero_iff.mp h
  show List.Perm out.toList _
  rw [List.append_nil]
 | n + 1,k,l,out,h=>by
  have hlt:f k % l.length < l.length:=Nat.mod_lt _ (by lia)
  unfold pickOrder.go
  rw [List.getElem?_eq_getElem hlt]
  dsimp only
  refine (pick_perm f n (k + 1) (l.eraseIdx (f k % l.length)) (out.push l[f k % l.length]) (by rw [List.length_eraseIdx_of_lt hlt]; lia)).trans ?_
  rw [Array.toList_push,List.append_assoc]
  exact List.Perm.append_left _ (erase_perm l _ hlt)
theorem pickOrder_perm {α:Type} (f:Nat→Nat) (xs:Array α):List.Perm (pickOrder f xs).toList xs.toList:=by
 have z:=pick_perm f xs.size 0 xs.toList #[] (Array.length_toList)
 exact z
section
variable {prog:Program} {w:World} {A:Around} {E:Value→Shared→Prop} {s:Shared} {S I:Addr} {es:Array (Int × Value)} {ep:Nat} {t:SetTable}
theorem iter_setit {first:Value} {i n:Nat} {Q:Value→Shared→Prop} (hI:s.heap.get? I = some (itO first i S n ep)) (h:Q (.ref I) s):wpAny (model prog w) A (pyIter (.ref I)) Q E s:=by
 have ty:s.TypeIs (.ref I) "set_iterator":=⟨_,hI,rfl⟩
 refine wpAny_pyIter_slot ty slot_setit_iter (wpAny_call_entry slot_setit_iter ty entry_setit_iter ?_ (args_setit_iter _))
 show wpAny _ _ (ret (.ref I)) _ _ s
 exact wpAny_pure ⟨_,rfl, "set_iterator",_,ty,slot_setit.lookup,h⟩
abbrev stO (es:Array (Int × Value)) (ep:Nat) (t:SetTable):Obj:=⟨.type "set",none,.set es ep t,#[]⟩
theorem walkC (hh:A.handled = none) (hne:S ≠ I) (hf:t.fits es.size = true) (hb:w.params.followText "set-order" = false) (hd:(!t.plain && decide (es.size > 1)) = false) (hl:t.led = true) (R:Rise t.place) :
  Walks prog w A I [I,S] [I] es.size (fun i v=>(es.toList.map (·.2))[i]? = some v) (fun i h=>h.get? S = some (stO es ep t)∧∃ slot:Nat,h.get? I = some (itO (.int slot 0) i S es.size ep)∧(∀ k,k < i→t.place.getD k 0 < slot)∧∀ k,i≤k→k < t.place.size→slot≤t.place.getD k 0):=by
 have hsz:t.place.size = es.size:=by
  simp only [SetTable.fits,Bool.and_eq_true,beq_iff_eq] at hf
  exact hf.1
 refine ⟨fun b hb=>by simp at hb; simp [hb],fun i h h' ⟨g1,slot,g2,r⟩ k=>⟨k S (by simp) _ g1,slot,k I (by simp) _ g2,r⟩,fun i s Q E hi ⟨g1,slot,g2,r1,r2⟩ hQ=>?_,fun s Q E ⟨g1,slot,g2,r1,r2⟩ hQ=>?_,fun i s Q E ⟨g1,slot,g2,_⟩ hQ=>iter_setit g2 hQ⟩
 ·have bl:SetTable.below t.place slot = i:=below_at R (by lia) r1 r2
  have hj:t.place[i]? = some (t.place.getD i 0):=by
   rw [Array.getD_eq_getD_getElem?,Array.getElem?_eq_getElem (show i < t.place.size by lia)]
   rfl
  have he:es[i]? = some es[i]:=Array.getElem?_eq_getElem hi
  refine next_item (x:=es[i].2) (slot':=t.place.getD i 0 + 1) g2 g1 hf rfl (fun A E Q q=>nextC (e:=es[i]) (j:=0) g1 hf hb hd hl (by rw [bl,he,hj]; exact q)) fun h' g3 sb=>hQ _ h' s.toks ?_ ⟨(sb.2 S hne).trans g1,_,g3,fun k hk=>?_,fun k h1 h2=>?_⟩ fun b o hb q=>(sb.2 b fun z=>hb (by simp [z])).trans q
  ·rw [List.getElem?_map,Array.getElem?_toList,he]
   rfl
  ·by_cases e:k = i
   ·rw [e]; exact Nat.lt_succ_self _
   ·have:=R k i (by lia) (by lia)
    lia
  ·exact R i k (by lia) h2
 ·have bl:SetTable.below t.place slot = es.size:=below_at R (by lia) r1 r2
  refine next_end hh g2 g1 hf rfl (fun A E Q q=>nextC (e:=(0,.none)) (j:=0) g1 hf hb hd hl (by rw [bl,Array.getElem?_eq_none (Nat.le_refl _)]; exact q)) fun h' ex=>hQ h' s.toks fun b o hb q=>ex b o (fun z=>hb (by simp [z])) q
theorem walkA (hh:A.handled = none) (hne:S ≠ I) (hf:t.fits es.size = true) (hb:w.params.followText "set-order" = true) :
  Walks prog w A I [I,S] [I] es.size (fun i v=>((pickOrder (w.params.setOrder S ep) es).toList.map (·.2))[i]? = some v) (fun i h=>h.get? S = some (stO es ep t)∧∃ slot:Nat,h.get? I = some (itO (.int slot 0) i S es.size ep)):=by
 have hsz:(pickOrder (w.params.setOrder S ep) es).size = es.size:=by
  rw [← Array.length_toList,(pickOrder_perm _ es).length_eq,Array.length_toList]
 refine ⟨fun b hb=>by simp at hb; simp [hb],fun i h h' ⟨g1,slot,g2⟩ k=>⟨k S (by simp) _ g1,slot,k I (by simp) _ g2⟩,fun i s Q E hi ⟨g1,slot,g2⟩ hQ=>?_,fun s Q E ⟨g1,slot,g2⟩ hQ=>?_,fun i s Q E ⟨g1,slot,g2⟩ hQ=>iter_setit g2 hQ⟩
 ·have he:(pickOrder (w.params.setOrder S ep) es)[i]? = some (pickOrder (w.params.setOrder S ep) es)[i]:=Array.getElem?_eq_getElem (by lia)
  refine next_item (x:=(pickOrder (w.params.setOrder S ep) es)[i].2) (slot':=slot) g2 g1 hf rfl (fun A E Q q=>nextA g1 hf hb (by rw [he]; exact q)) fun h' g3 sb=>hQ _ h' s.toks ?_ ⟨(sb.2 S hne).trans g1,slot,g3⟩ fun b o hb q=>(sb.2 b fun z=>hb (by simp [z])).trans q
  rw [List.getElem?_map,Array.getElem?_toList,he]
  rfl
 ·refine next_end hh g2 g1 hf rfl (fun A E Q q=>nextA g1 hf hb (by rw [Array.getElem?_eq_none (by lia)]; exact q)) fun h' ex=>hQ h' s.toks fun b o hb q=>ex b o (fun z=>hb (by simp [z])) q
theorem walkB {T:Addr} {ps:List Nat} {ot:Obj} (hh:A.handled = none) (hne:S ≠ I) (hnT:T ≠ I) (hf:t.fits es.size = true) (hd:∃ m,ot.data = .seq (ps.map fun i:Nat=>rawInt i).toArray m) (hp:List.Perm ps (List.range es.size)) :
  Walks prog w A I [I,S,T] [I] es.size (fun i v=>(ps.map fun p=>(es.getD p (0,.none)).2)[i]? = some v) (fun i h=>h.get? S = some (stO es ep t)∧h.get? T = some ot∧h.get? I = some (itO (.ref T) i S es.size ep)):=by
 have hlen:ps.length = es.size:=by rw [hp.length_eq,List.length_range]
 refine ⟨fun b hb=>by simp at hb; simp [hb],fun i h h' ⟨g1,g2,g3⟩ k=>⟨k S (by simp) _ g1,k T (by simp) _ g2,k I (by simp) _ g3⟩,fun i s Q E hi ⟨g1,g2,g3⟩ hQ=>?_,fun s Q E ⟨g1,g2,g3⟩ hQ=>?_,fun i s Q E ⟨g1,g2,g3⟩ hQ=>iter_setit g3 hQ⟩
 ·have hi':i < ps.length:=by lia
  have hpi:ps[i] < es.size:=List.mem_range.mp (hp.mem_iff.mp (List.getElem_mem hi'))
  have he:es[ps[i]]? = some es[ps[i]]:=Array.getElem?_eq_getElem hpi
  refine draw_item (p:=ps[i]) (tk:=0) (e:=es[ps[i]]) g3 g1 hf rfl g2 hd (by rw [List.getElem?_toArray,List.getElem?_map,List.getElem?_eq_getElem hi']; rfl) he fun h' g4 sb=>hQ _ h' s.toks ?_ ⟨(sb.2 S hne).trans g1,(sb.2 T hnT).trans g2,g4⟩ fun b o hb q=>(sb.2 b fun z=>hb (by simp [z])).trans q
  rw [List.getElem?_map,List.getElem?_eq_getElem hi']
  show some (es.getD ps[i] (0,.none)).2 = some es[ps[i]].2
  rw [Array.getD_eq_getD_getElem?,he]
  rfl
 ·refine draw_end hh g3 g1 hf rfl g2 hd (by rw [List.getElem?_toArray,List.getElem?_eq_none (by rw [List.length_map]; lia)]) fun h' ex=>hQ h' s.toks fun b o hb q=>ex b o (fun z=>hb (by simp [z])) q
theorem range_vals (es:Array (Int × Value)):(List.range es.size).map (fun p=>(es.getD p (0,.none)).2) = es.toList.map (·.2):=by
 refine List.ext_getElem (by simp) fun i h1 h2=>?_
 have hi:i < es.size:=by simpa using h1
 simp [Array.getD_eq_getD_getElem?,Array.getElem?_eq_getElem hi]
theorem drawOrder_perm {α:Type} {Q:List α→Shared→Prop}:∀ (n:Nat) (xs:List α) (s:Shared),xs.length = n→(∀ ys d,List.Perm ys xs→Q ys { s with drawn:=d })→wpAny (model prog w) A (drawOrder n xs) Q E s
 | 0,xs,s,h,k=>by
  obtain rfl:xs = []:=List.length_eq_zero_iff.mp h
  exact wpAny_pure (k [] s.drawn (.refl _))
 | n + 1,[],s,h,k=>by cases h
 | n + 1,x :: xs,s,h,k=>by
  unfold drawOrder
  refine wpAny_bind fun Γ p hΓ=>?_
  show Sem.wp _ _ (Sem.choose .order (x :: xs).length Sem.pure) _ _ _ _
  rw [Sem.wp_choose]
  refine ⟨by rw [List.length_cons]; lia,?_⟩
  generalize hc:(model prog w).w.draws .order (s.drawn.get .order) % (x :: xs).length = c
  have hlt:c < (x :: xs).length:=by rw [← hc]; exact Nat.mod_lt _ (by rw [List.length_cons]; lia)
  have k2:wpAny (model prog w) A (do
    match (x :: xs)[c]? with
    | some x1=>return x1 :: (← drawOrder n ((x :: xs).eraseIdx c))
    | none=>unsupported "internal:drawOrder") Q E { s with drawn:=s.drawn.bump .order }:=by
   rw [List.getElem?_eq_getElem hlt]
   refine wpAny_bind (drawOrder_perm n _ _ (by rw [List.length_eraseIdx_of_lt hlt]; lia) fun ys d pm=>wpAny_pure (k _ d ?_))
   exact (List.Perm.cons _ pm).trans (erase_perm (x :: xs) c hlt)
  rw [Sem.wp_pure]
  exact k2
end
end Ow
namespace Ow
open PySem PySem.Spec PyProof.Rows L2
theorem slot_set_iter':Slot "set" "__iter__" "set.__iter__" :=
 .of (owner:="set") (n:="__iter__") (by rw [typeLookup_type,builtinLookup_eq_fast]; kernel_rfl) (by decide +kernel) (by decide +kernel) (by decide +kernel) (by first | exact .inl (by decide +kernel) | exact .inr (by decide +kernel)) (by rw [isSubtype_type]; kernel_rfl)
theorem args_set_iter' (a:Value):argsOk "set.__iter__" ⟨[a],[]⟩:=by unfold argsOk; kernel_rfl
theorem entry_set_iter':entryFor table "set.__iter__" = some Builtin.«frozenset.__iter__»:=entryFor_alias (id':="frozenset.__iter__") (by kernel_rfl) rfl (by decide +kernel) (by kernel_rfl)
theorem setDrawn_is (a:Addr):setDrawn a = (do
  let (es,_,t) ← setState a
  let byText ← setsByText
  return !byText && (!t.plain && es.size > 1)):=rfl
theorem setEpoch_is (a:Addr):setEpoch a = (do return (← setState a).2.1):=rfl
def Yields (es:Array (Int × Value)) (vs:List Value):Prop:=List.Perm vs (es.toList.map (·.2))
section
variable {prog:Program} {w:World} {A:Around} {E:Value→Shared→Prop} {s:Shared} {S:Addr} {es:Array (Int × Value)} {ep:Nat} {t:SetTable}
theorem iter_set {A':Around} {Q:Value→Shared→Prop} (hh:A'.handled = none) (hS:s.heap.get? S = some (stO es ep t)) (hf:t.fits es.size = true) (hzz:es.size < scanBound) (hled:w.params.followText "set-order" = false→t.led = true) (hg:Good t)
  (k:∀ (I:Addr) (s':Shared) (vs:List Value) (fp:List Addr) (St:Nat→Heap→Prop),s'.gens = s.gens→s'.os = s.os→s'.toks = s.toks→(∀ b o,s.heap.get? b = some o→s'.heap.get? b = some o)→s.heap.objs.size≤I→(∀ b ∈ fp,b < s'.heap.objs.size∧(b = S∨s.heap.objs.size≤b))→I ∈ fp →
   Yields es vs→Walks prog w A' I fp [I] es.size (fun i v=>vs[i]? = some v) St→St 0 s'.heap→Q (.ref I) s') :
  wpAny (model prog w) A (pyIter (.ref S)) Q E s:=by
 have ty:s.TypeIs (.ref S) "set":=⟨_,hS,rfl⟩
 have lS:S < s.heap.objs.size:=Heap.lt_size hS
 refine wpAny_pyIter_slot ty slot_set_iter' (wpAny_call_entry slot_set_iter' ty entry_set_iter' ?_ (args_set_iter' _))
 unfold Builtin.«frozenset.__iter__» Builtin.Frozenset.slot0 Builtin.Frozenset.sizeOf
 refine wpAny_bind (wpAny_pure (wpAny_bind (wpAny_bind (wpAny_setEntries_of hS rfl hf (wpAny_pure ?_)))))
 rw [setDrawn_is]
 refine wpAny_bind (wpAny_bind (wpAny_setState_of hS rfl hf (wpAny_bind (byText_at (wpAny_pure ?_)))))
 by_cases hdr:(!w.params.followText "set-order" && (!t.plain && decide (es.size > 1))) = true
 ·rw [if_pos hdr]
  refine wpAny_bind (drawOrder_perm es.size (List.range es.size) s (List.length_range ..) fun ps d pm=>?_)
  have hbt:w.params.followText "set-order" = false:=by
   cases z:w.params.followText "set-order" with
   | false=>rfl
   | true=>rw [z] at hdr; cases hdr
  refine wpAny_bind (wpAny_newTuple ?_ (by rw [List.length_map,pm.length_eq,List.length_range]; exact fits_of_scanBound hzz))
  dsimp only
  generalize hot:({ cls:=.type "tuple",data:=.seq (ps.map fun i:Nat=>rawInt i).toArray }:Obj) = ot
  have gT:(s.heap.push ot).get? s.heap.objs.size = some ot:=Heap.get?_push_size _ (by rw [← hot]; rfl)
  have gS1:(s.heap.push ot).get? S = some (stO es ep t):=Heap.get?_push_of_some _ hS
  rw [setEpoch_is]
  refine wpAny_bind (wpAny_bind (wpAny_setState_of gS1 rfl hf (wpAny_pure ?_)))
  refine wpAny_bind (wpAny_newObj_type (wpAny_pure ?_))
  have gI:((s.heap.push ot).push (itO (.ref s.heap.objs.size) 0 S es.size ep)).get? (s.heap.push ot).objs.size = some (itO (.ref s.heap.objs.size) 0 S es.size ep):=Heap.get?_push_size _ rfl
  refine ⟨_,rfl, "set_iterator",_,⟨_,gI,rfl⟩,slot_setit.lookup,?_⟩
  have lI:(s.heap.push ot).objs.size = s.heap.objs.size + 1:=Heap.size_push _ _
  refine k _ _ (ps.map fun p=>(es.getD p (0,.none)).2) [(s.heap.push ot).objs.size,S,s.heap.objs.size] _ rfl rfl rfl (fun b o q=>Heap.get?_push_of_some _ (Heap.get?_push_of_some _ q)) (by rw [lI]; exact Nat.le_succ _) (fun b hb=>?_) (List.mem_cons_self ..) ?_
   (walkB hh (by rw [lI]; exact Nat.ne_of_lt (Nat.lt_succ_of_lt lS)) (by rw [lI]; exact Nat.ne_of_lt (Nat.lt_succ_self _)) hf (ot:=ot) (by rw [← hot]; exact ⟨_,rfl⟩) pm) ⟨Heap.get?_push_of_some _ gS1,Heap.get?_push_of_some _ gT,gI⟩
  ·show b < ((s.heap.push ot).push _).objs.size∧_
   rw [Heap.size_push,lI]
   rcases List.mem_cons.mp hb with z | hb
   ·rw [z,lI]; exact ⟨Nat.lt_succ_self _,.inr (Nat.le_succ _)⟩
   rcases List.mem_cons.mp hb with z | hb
   ·rw [z]; exact ⟨Nat.lt_succ_of_lt (Nat.lt_succ_of_lt lS),.inl rfl⟩
   ·rw [List.mem_singleton] at hb
    rw [hb]; exact ⟨Nat.lt_succ_of_lt (Nat.lt_succ_self _),.inr (Nat.le_refl _)⟩
  ·show List.Perm _ _
   rw [← range_vals]
   exact pm.map _
 ·rw [if_neg hdr]
  refine wpAny_bind (wpAny_pure ?_)
  rw [setEpoch_is]
  refine wpAny_bind (wpAny_bind (wpAny_setState_of hS rfl hf (wpAny_pure ?_)))
  refine wpAny_bind (wpAny_newObj_type (wpAny_pure ?_))
  have gI:(s.heap.push (itO (.int 0 0) 0 S es.size ep)).get? s.heap.objs.size = some (itO (.int 0 0) 0 S es.size ep):=Heap.get?_push_size _ rfl
  refine ⟨_,rfl, "set_iterator",_,⟨_,gI,rfl⟩,slot_setit.lookup,?_⟩
  have nI:S ≠ s.heap.objs.size:=Nat.ne_of_lt lS
  have fpO:∀ b ∈ [s.heap.objs.size,S],b < (s.heap.push (itO (.int 0 0) 0 S es.size ep)).objs.size∧(b = S∨s.heap.objs.size≤b):=fun b hb=>by
   rw [Heap.size_push]
   rcases List.mem_cons.mp hb with z | hb
   ·rw [z]; exact ⟨Nat.lt_succ_self _,.inr (Nat.le_refl _)⟩
   ·rw [List.mem_singleton] at hb
    rw [hb]; exact ⟨Nat.lt_succ_of_lt lS,.inl rfl⟩
  cases hbt:w.params.followText "set-order" with
  | true =>
   exact k _ _ ((pickOrder (w.params.setOrder S ep) es).toList.map (fun e:Int × Value=>e.2)) [s.heap.objs.size,S] _ rfl rfl rfl (fun b o q=>Heap.get?_push_of_some _ q) (Nat.le_refl _) fpO (List.mem_cons_self ..) ((pickOrder_perm _ es).map _) (walkA hh nI hf hbt) ⟨Heap.get?_push_of_some _ hS,0,gI⟩
  | false =>
   rw [hbt] at hdr
   have hd:(!t.plain && decide (es.size > 1)) = false:=by
    cases z:(!t.plain && decide (es.size > 1)) with
    | false=>rfl
    | true=>rw [z] at hdr; exact absurd rfl hdr
   have R:Rise t.place:=by
    cases hp:t.plain with
    | true=>exact hg hp
    | false =>
     rw [hp] at hd
     have h1:¬ es.size > 1:=by simpa using hd
     have hsz:t.place.size = es.size:=by
      simp only [SetTable.fits,Bool.and_eq_true,beq_iff_eq] at hf
      exact hf.1
     intro i j hij hj
     lia
   exact k _ _ (es.toList.map (fun e:Int × Value=>e.2)) [s.heap.objs.size,S] _ rfl rfl rfl (fun b o q=>Heap.get?_push_of_some _ q) (Nat.le_refl _) fpO (List.mem_cons_self ..) (List.Perm.refl _) (walkC hh nI hf hbt hd (hled hbt) R) ⟨Heap.get?_push_of_some _ hS,0,gI,(fun k hk=>absurd hk (Nat.not_lt_zero _)),fun k _ _=>Nat.zero_le _⟩
end
end Ow
namespace Ow
open PySem PySem.Spec PyProof.Rows L2
abbrev eL:Obj:={ cls:=.type "list",data:=.seq ([]:List Value).toArray }
section
variable {prog:Program} {w:World} {A:Around} {E:Value→Shared→Prop} {s:Shared} {S:Addr} {es:Array (Int × Value)} {ep:Nat} {t:SetTable}
theorem hint_set {Q:Bool→Shared→Prop} (hS:s.heap.get? S = some (stO es ep t)) (h:Q false s):wpAny (model prog w) A (Builtin.List.listLengthHint (.ref S)) Q E s:=by
 have ty:s.TypeIs (.ref S) "set":=⟨_,hS,rfl⟩
 unfold Builtin.List.listLengthHint
 refine wpAny_bind (wpAny_specialOf ty PySem.F.slot_set_len.lookup ?_)
 (generalize hid:("set.__len__":String) = id0; (fail_if_success (clear hid id0)); wp_delta; rw [show splitId id0 = some ("set", "__len__") from by subst hid; decide +kernel]; subst hid)
 refine wpAny_bind (wpAny_isInstance (b:=true) ty (by rw [isSubtype_type]; kernel_rfl) ?_)
 simp only [Bool.not_true,Bool.false_eq_true,if_false]
 rw [if_pos (by decide +kernel)]
 exact wpAny_bind (wpAny_typeOf ty (wpAny_pure h))
theorem collect_set {Q:List Value→Shared→Prop} (hh:A.handled = none) (hS:s.heap.get? S = some (stO es ep t)) (hf:t.fits es.size = true) (hz:es.size < scanBound) (hled:w.params.followText "set-order" = false→t.led = true) (hg:Good t)
  (k:∀ (s':Shared) (acc:List Value),s'.gens = s.gens→s'.os = s.os→s.toks≤s'.toks→s.heap.objs.size < s'.heap.objs.size→(∀ b o,s.heap.get? b = some o→s'.heap.get? b = some o)→Yields es acc→Q acc s'):wpAny (model prog w) A (collect (.ref S)) Q E s:=by
 have lS:S < s.heap.objs.size:=Heap.lt_size hS
 unfold collect
 refine wpAny_bind (wpAny_runValue (codeAny_builtin F.entry_proto_collect ?_))
 rw [Around.under_plainId F.plain_proto_collect _]
 show wpAny _ A.in1 (newList [] >>= fun l=>again (.builtin "list.__iadd__" ⟨[l,.ref S],[]⟩)) _ _ s
 refine wpAny_bind (wpAny_newObj_type (wpAny_pure ⟨plainId_quiet F.plain_list_iadd _,codeAny_builtin F.entry_list_iadd ?_⟩))
 rw [Around.under_plainId F.plain_list_iadd _]
 have gL:(s.heap.push eL).get? s.heap.objs.size = some eL:=Heap.get?_push_size _ rfl
 have gS:(s.heap.push eL).get? S = some (stO es ep t):=Heap.get?_push_of_some _ hS
 have n1:Builtin.List.listSameRef (.ref s.heap.objs.size) (.ref S) = false:=by
  unfold Builtin.List.listSameRef
  exact beq_eq_false_iff_ne.mpr (Nat.ne_of_gt lS)
 show wpAny _ A.in1 (Builtin.List.listExtendWith (.ref s.heap.objs.size) (.ref S) (.ref s.heap.objs.size)) _ _ _
 unfold Builtin.List.listExtendWith
 refine wpAny_bind (wpAny_typeOf (T:="set") ⟨_,gS,rfl⟩ ?_)
 rw [if_neg (by rw [n1]; decide)]
 refine wpAny_bind (iter_set (A':=A.in1) hh gS hf hz hled hg fun I s1 vs fp St e1 e2 e3 kp le fpO If Y W st=>?_)
 have gS1:s1.heap.get? S = some (stO es ep t):=kp _ _ gS
 have gL1:s1.heap.get? s.heap.objs.size = some eL:=kp _ _ gL
 refine wpAny_bind (wpAny_holding (hint_set gS1 ?_))
 dsimp only
 rw [if_pos (by decide +kernel)]
 have lL:s.heap.objs.size ∉ fp:=fun z=>by
  rcases (fpO _ z).2 with q | q
  ·exact absurd q.symm (Nat.ne_of_lt lS)
  ·dsimp only at q
   rw [Heap.size_push] at q
   exact absurd q (Nat.not_succ_le_self _)
 refine wpAny_bind (wpAny_rule (wpAny_bind ?_))
 show wpAny _ A.in1 (updateSeq s.heap.objs.size (·.push .none) >>= fun _=>updateSeq s.heap.objs.size (·.pop)) _ _ _
 refine wpAny_bind (wpAny_updateSeq gL1 rfl ?_)
 have g2:=Heap.get?_update_self (Obj.mapSeq (·.push Value.none)) gL1 rfl
 refine wpAny_updateSeq g2 rfl ?_
 have g3:=Heap.get?_update_self (Obj.mapSeq (·.pop)) g2 rfl
 have oth:∀ b o,b ≠ s.heap.objs.size→s1.heap.get? b = some o→((s1.heap.update s.heap.objs.size (Obj.mapSeq (·.push Value.none))).update s.heap.objs.size (Obj.mapSeq (·.pop))).get? b = some o :=
  fun b o hb q=>(Heap.get?_update_other _ _ (Ne.symm hb)).trans ((Heap.get?_update_other _ _ (Ne.symm hb)).trans q)
 have W':=W.toS
 refine wpAny_pure ⟨plainId_quiet F.plain_extend_loop _,codeAny_extend_loopS W' (fits_of_scanBound hz) _ lL _ es.size 0 _ _ _ rfl (Nat.zero_le _)
  (W.frame 0 s1.heap _ st fun b hb o q=>oth b o (fun z=>lL (z ▸ hb)) q) g3 (ItemsOf.nil _) fun s' acc c' m gA it=>?_⟩
 show wpAny _ A (load s.heap.objs.size >>= _) _ _ s'
 refine wpAny_bind (wpAny_load gA (wpAny_pure (k s' acc.toList (m.gens.trans e1) (m.os.trans e2) (by have:=m.toks; have e3':s1.toks = s.toks:=e3; rw [← e3']; exact this) (Heap.lt_size gA) (fun b o q=>?_) ?_)))
 ·have lb:=Heap.lt_size q
  refine m.heap b o (fun z=>?_) (oth b o (Nat.ne_of_lt lb) (kp b o (Heap.get?_push_of_some _ q)))
  rcases List.mem_cons.mp z with z | z
  ·exact absurd z (Nat.ne_of_lt lb)
  ·rw [List.mem_singleton] at z
   have le':s.heap.objs.size + 1≤I:=by
    have q2:=le
    dsimp only at q2
    rw [Heap.size_push] at q2
    exact q2
   rw [z] at lb
   exact absurd (Nat.lt_of_lt_of_le lb (Nat.le_of_succ_le le')) (Nat.lt_irrefl _)
 ·have e4:acc.toList = vs:=by
   have lv:vs.length = es.size:=by rw [Y.length_eq,List.length_map,Array.length_toList]
   refine List.ext_getElem (by rw [Array.length_toList,it.1,lv]) fun i h1 h2=>?_
   have z:vs[i]? = some acc.toList[i]:=it.2 i acc.toList[i] (by rw [← Array.getElem?_toList]; exact List.getElem?_eq_getElem h1)
   rw [List.getElem?_eq_getElem h2] at z
   exact (Option.some.inj z).symm
  rw [e4]
  exact Y
end
end Ow
namespace Ow
open PySem PySem.Spec PyProof.Rows L2
def intOf:Value→Int | .int k _=>k | _=>0
theorem ints_of:∀ {l:List Value},(∀ v ∈ l,∃ k tk,v = Value.int k tk)→IntsAre l (l.map intOf)
 | [],_=>.nil
 | v :: r,h=>by
  obtain ⟨k,tk,rfl⟩:=h v (List.mem_cons_self ..)
  exact .cons k tk (ints_of fun v hv=>h v (List.mem_cons_of_mem _ hv))
section
variable {prog:Program} {w:World} {A:Around} {E:Value→Shared→Prop} {s:Shared} {S:Addr} {o:Obj} {ks:List Int}
end
def sI (w:World) (p:Addr) (ns:List Int):HO:=.ext fun h=>∃ o ks,h.get? p = some o∧SetI w o ks∧(∀ x,x ∈ ks ↔ x ∈ ns)∧ks.length≤ns.length
theorem vals_ints:∀ {ns:List Int} {us:List Value},Vals (ns.map V.int) us→IntsAre us ns
 | [],us,r=>by cases r; exact .nil
 | n :: ns,us,r=>by
  cases r with
  | cons h r =>
   obtain ⟨t,rfl⟩:=h
   exact .cons n t (vals_ints r)
theorem ints_vals {us:List Value} {ns:List Int} (h:IntsAre us ns):Vals (ns.map V.int) us:=by
 induction h with
 | nil=>exact .nil
 | cons n t _ ih=>exact .cons ⟨t,rfl⟩ ih
theorem mem_getD {ns:List Int} {x:Int}:(∃ j,j < ns.length∧ns.getD j 0 = x) ↔ x ∈ ns:=by
 constructor
 ·rintro ⟨j,hj,rfl⟩
  rw [List.getD_eq_getElem?_getD,List.getElem?_eq_getElem hj]
  exact List.getElem_mem hj
 ·intro h
  obtain ⟨j,hj,rfl⟩:=List.mem_iff_getElem.mp h
  exact ⟨j,hj,by rw [List.getD_eq_getElem?_getD,List.getElem?_eq_getElem hj]; rfl⟩
theorem call_set {X:Cx} (hh:X.A.handled = none):CallR X (.type "set") (fun xs H Q=>∃ (l:Addr) (ns:List Int),xs = [.ref l]∧SqL X.K H l (ns.map V.int)∧ns.length < 1000∧∀ p,H p = none→Q (.ref p) (upd H p (sI X.w p ns))):=by
 intro pins s σ H xs us Q I r h
 obtain ⟨l,ns,rfl,hl,hn,k⟩:=h
 obtain ⟨u,rfl,ru⟩:=r.one
 cases (show u = Value.ref l from ru)
 obtain ⟨its,rv,pl,_⟩:=I.list hl
 have hi:=vals_ints rv
 have le:its.length = ns.length:=by have:=rv.length; rw [List.length_map] at this; exact this.symm
 refine call_setI hh pl.isList (by simpa using hi) (by rw [List.size_toArray,le]; unfold scanBound; lia) fun h' tk U kp=>?_
 obtain ⟨o,ks,go,SI,lk,mem⟩:=U
 rw [List.size_toArray,le] at lk
 have ok:ObjOk X.prog X.w (upd H s.heap.objs.size (sI X.w s.heap.objs.size ns)) h' s.heap.objs.size (sI X.w s.heap.objs.size ns) :=
  ⟨⟨o,ks,go,SI,fun x=>by rw [mem x,List.size_toArray,le]; exact mem_getD,lk⟩,⟨o,go⟩,fun h1 h2 ⟨o1,k1,g1,r1⟩ q=>⟨o1,k1,q _ g1,r1⟩⟩
 exact ⟨.ref s.heap.objs.size,_,I.laid (fun b u q=>kp b u (Heap.lt_size q) q) (Nat.le_refl _) ok,rfl,k _ (I.hok.fresh (Nat.le_refl _))⟩
theorem strict {ns:List Int} (h:ns.Pairwise (·≤·)) (nd:ns.Nodup):ns.Pairwise (· < ·):=by
 refine (h.and nd).imp fun {a b} ⟨h1,h2⟩=>?_
 exact Int.lt_iff_le_and_ne.mpr ⟨h1,h2⟩
end Ow
namespace L2
open PySem PySem.Spec PyProof.Rows
def cxLam (X:Cx) (N:List Str) (qual:Str) (scope:Scope) (f:Addr) (cd:Value) (cl:List (Str × Addr)) (s:Shared) (H:Hp):Cx where
 prog:=X.prog
 w:=X.w
 K:=X.K
 mg:=X.mg
 base:=X.base
 A:=X.A.deeper (PySem.W.envX qual scope s.heap.objs.size f cd cl)
 N:=N
 s₀:=s
 H₀:=H
 env:=PySem.W.envX qual scope s.heap.objs.size f cd cl
 outer:=X.stack
 stack:=PySem.W.envX qual scope s.heap.objs.size f cd cl :: X.stack
 ex:=[]
 calm:=true
 fn:=fun _=>false
 pn:=[]
 xe:=fun _ _=>False
structure Cells (h:Heap) (H:Hp) (fs:List Addr) (cl:List (Str × Addr)) (ns:List Str) (vals:List V):Prop where
 all:∀ x c,cl.lookup x = some c→H c = none∧c ∉ fs∧∃ v,h.IsCell c v
 inj:∀ x y c,cl.lookup x = some c→cl.lookup y = some c→x = y
 val:∀ (i:Nat) y v,ns[i]? = some y→vals[i]? = some v→∃ c u,cl.lookup y = some c∧RelV v u∧h.IsCell c (some u)
section
variable {X:Cx} {pins:List (Addr × Obj)} {σ:St} {H:Hp} {s:Shared} {cl:List (Str × Addr)} {ns:List Str} {vals:List V}
theorem inv_lam {qual:Str} {scope:Scope} {f:Addr} {cd:Value} {x:Str} {v:V} {u:Value} {h₁:Heap} {t':Nat} {fs:List Addr} (I:Inv X pins σ H s) (hc:X.calm = true)
  (hkind:scope.kind = .function) (hx:scope.names.lookup x = some .local) (hns:∀ y ∈ ns,scope.names.lookup y = some .free)
  (hfree:∀ y,(scope.names.lookup y = some .cell∨scope.names.lookup y = some .free)→∃ c,cl.lookup y = some c)
  (C:Cells s.heap H fs cl ns vals) (hl:vals.length = ns.length) (r:RelV v u)
  (n1:h₁.Ns s.heap.objs.size (fun y=>[(x,u)].reverse.lookup y)) (hk:∀ b o,s.heap.get? b = some o→h₁.get? b = some o) :
  Inv (cxLam X (x :: ns) qual scope f cd cl s H) [] (some v :: vals.map some) H { s with heap:=h₁,toks:=t' }:=by
 have noA:∀ b:Addr,b ∉ (cxLam X (x :: ns) qual scope f cd cl s H).ex:=fun b z=>absurd (show b ∈ ([]:List Addr) from z) (by simp)
 refine ⟨⟨I.ok.mod,hkind,rfl,rfl,Nat.le_refl _,C.inj,fun y hy=>hfree y hy,fun y c z _=>(nomatch z),fun _=>I.ok.hd hc,Around.frames_deeper I.ok.frames,.inr ⟨rfl,rfl⟩,fun b z=>absurd z (noA b),I.bs,Nat.le_trans I.ok.bsz I.sz,fun b _ _=>noA b,fun b z=>absurd z (noA b),I.stack,I.stkFree⟩,
  rfl,I.bare,Un.kept hk,⟨_,n1,fun i y w h1 h2 h3=>?_⟩,fun y c h=>?_,I.hok.fresh (Nat.le_refl _),fun y c h=>(C.all y c h).1,fun p hp=>absurd (show p ∈ ([]:List (Addr × Obj)) from hp) (by simp),I.hok.kept hk,?_⟩
 ·cases i with
  | zero =>
   have e1:x = y:=by simpa [cxLam] using h1
   have e2:v = w:=by simpa using h2
   subst e1 e2
   exact ⟨u,r,.inl ⟨hx,by simp⟩⟩
  | succ i =>
   have e1:ns[i]? = some y:=by simpa [cxLam] using h1
   have e2:vals[i]? = some w:=by
    rw [List.getElem?_cons_succ,List.getElem?_map] at h2
    cases q:vals[i]? with
    | none=>rw [q] at h2; cases h2
    | some z=>rw [q] at h2; cases h2; rfl
   obtain ⟨c,u',l,r',hv⟩:=C.val i y w e1 e2
   exact ⟨u',r',.inr ⟨.inr (hns y (List.mem_of_getElem? e1)),c,l,hv.keeps hk⟩⟩
 ·obtain ⟨_,_,w,hv⟩:=C.all y c h
  exact ⟨w,hv.keeps hk⟩
 ·show (some v :: vals.map some).length = (x :: ns).length
  simp [hl]
theorem lam_run {name qual:Str} {params:Arguments} {body:Expr} {scope:Scope} {f c':Addr} {pm ctv:Value} {x:Str} {v:V} {u:Value} {Q:VK} {te:TE} {fs:List Addr} {k:Nat} (I:Inv X pins σ H s) (hc:X.calm = true) (hr:Room k X.A)
  (ho:s.heap.get? f = some (PySem.W.kla_obj name qual params body scope cl pm c' ctv)) (hcd:s.heap.CodeRec (.ref c') qual)
  (hbind:bindArgs (PySem.W.kla_fn name qual params body scope cl pm (.ref c') ctv) ⟨[u],[]⟩ = pure [(x,u)])
  (hco:scope.isCoroutine = false) (hgen:scope.isGenerator = false) (hcell:∀ y ∈ scope.names,y.2 ≠ .cell)
  (hkind:scope.kind = .function) (hx:scope.names.lookup x = some .local) (hns:∀ y ∈ ns,scope.names.lookup y = some .free)
  (hfree:∀ y,(scope.names.lookup y = some .cell∨scope.names.lookup y = some .free)→∃ c,cl.lookup y = some c)
  (C:Cells s.heap H fs cl ns vals) (hl:vals.length = ns.length) (r:RelV v u)
  (hb:PE (cxLam X (x :: ns) qual scope f (.ref c') cl s H) body te) (hq:te (some v :: vals.map some) H Q) :
  wpAny (model X.prog X.w) X.A (call (.ref f) [u]) (EP X pins σ Q) X.xe s:=by
 have run:codeAny (model X.prog X.w) X.A (.call (.ref f) ⟨[u],[]⟩) (CR CX0 X.stack X.prog X.w H s Q E0) s:=by
  refine PySem.W.kla_callFunE hr.depth ho rfl hco hgen rfl hcd ?_
  rw [hbind]
  refine wpAny_pure (wpAny_newFunctionEnv hcell (fun y hy=>?_) (fun h₁ n1 hsb=>?_) hkind)
  ·have e:y = (x,u):=by simpa using hy
   rw [e]; exact hx
  ·have hk₁:∀ b o,s.heap.get? b = some o→h₁.get? b = some o:=fun b o e=>hsb.extBut b o (Nat.ne_of_lt (Heap.lt_size e)) (Heap.get?_push_of_some _ e)
   refine ⟨I.nolimit.keeps hk₁,?_⟩
   show codeAny _ _ (.expr body (PySem.W.envX qual scope s.heap.objs.size f (.ref c') cl)) _ _
   have J:=inv_lam (qual:=qual) (f:=f) (cd:=.ref c') (t':=s.toks + 1) I hc hkind hx hns hfree C hl r n1 hk₁
   refine PySem.W.kla_codeExpr (wpAny_mono (hb [] _ _ H Q J hq) (fun z s' hz=>?_) fun e s' z=>z.elim)
   obtain ⟨v',H',J',rv,q⟩:=hz
   exact ⟨v',H',J'.os,J'.bare,J'.base,J'.hok,rv,q⟩
 refine wpAny_call (codeAny_mono run fun r s' hq=>?_)
 cases r with
 | error e=>exact False.elim hq
 | ok fl =>
  cases fl with
  | ret u=>exact I.after hq
  | next=>exact False.elim hq
  | brk=>exact False.elim hq
  | cont=>exact False.elim hq
end
def Clo (name qual:Str) (params:Arguments) (body:Expr) (scope:Scope) (cl:List (Str × Addr)) (H:Hp) (f:Addr):Prop :=
 ∃ (pm:Value) (c':Addr) (ctv:Value),H f = some (.ext fun h=>h.get? f = some (PySem.W.kla_obj name qual params body scope cl pm c' ctv))∧H c' = some (.ext fun h=>h.CodeRec (.ref c') qual)
section
variable {X:Cx}
end
section
variable {X:Cx}
end
def TabOk (P:Addr) (pos:Pos) (qual:Str) (H:Hp):Prop:=∃ ps:Array Value,H P = some (.tbl ps)∧TriplesOk ps.toList ∧
 (codeAmong pos ps.toList = none∨∃ c',codeAmong pos ps.toList = some (.ref c')∧H c' = some (.ext fun h=>h.CodeRec (.ref c') qual))
theorem TabOk.mono {P:Addr} {pos:Pos} {qual:Str} {H H':Hp} (x:TabOk P pos qual H) (h:∀ a u,H a = some u→H' a = some u):TabOk P pos qual H':=by
 obtain ⟨ps,e,t,z⟩:=x
 refine ⟨ps,h _ _ e,t,?_⟩
 rcases z with z | ⟨c',z1,z2⟩
 ·exact .inl z
 ·exact .inr ⟨c',z1,h _ _ z2⟩
theorem triples_snoc {pos:Pos} {c:Value}:∀ (l:List Value),TriplesOk l→TriplesOk (l ++ [rawInt pos.line,rawInt pos.col,c])
 | [],_=>trivial
 | .int _ _ :: .int _ _ :: _ :: r,h=>triples_snoc (pos:=pos) (c:=c) r h
structure LamBase (mg:Str→Option Value) (base:Heap) (c P:Addr):Prop where
 code:PySem.W.CodeHd base c P
 bm:∃ bm ob,mg "__builtins__" = some (.ref bm)∧bm ≠ builtinsNs∧base.get? bm = some ob∧ob.cls = .type "module"∧ob.dict = some builtinsNs∧ob.data = .plain
def tLam (P:Addr) (pos:Pos) (qual:Str) (params:Arguments) (body:Expr) (scope:Scope) (cl:List (Str × Addr)):TE:=fun _ H Q=>TabOk P pos qual H ∧
 ∀ f H',(∀ a u,a ≠ P→H a = some u→H' a = some u)→H f = none→Clo "<lambda>" qual params body scope cl H' f→TabOk P pos qual H'→Q (.ref f) H'
section
variable {X:Cx}
theorem pe_lam {params:Arguments} {body:Expr} {scope:Scope} {pos:Pos} {c P:Addr} {cl:List (Str × Addr)} {qual:Str} (B:LamBase X.mg X.base c P) (hcode:X.env.code = .ref c) (hcl:closureFor scope X.env = pure cl) (hq:X.env.qual ++ "<lambda>" = qual)
  (hdef:defaultsOf params X.env = ([],[]):=by rfl):PE X (.Lambda params body scope pos) (tLam P pos qual params body scope cl):=by
 intro pins s σ H Q I h
 obtain ⟨⟨ps,eP,ht,hit⟩,h⟩:=h
 have hP:s.heap.get? P = some (PySem.W.tabObj ps):=I.hok P _ eP
 have hg:s.heap.Ns mainGlobals X.mg:=I.mod.glob.keeps I.bk
 have C:PySem.W.CodeHd s.heap c P:=B.code.keeps I.bk
 have hgP:mainGlobals ≠ P:=fun q=>by
  obtain ⟨o,es,ep,e,hd,_⟩:=hg
  rw [q,hP] at e; cases e; cases hd
 have hb:s.heap.BuiltinsAt X.mg P:=by
  obtain ⟨bm,ob,b1,b2,b3,b4,b5,b6⟩:=B.bm
  refine ⟨bm,ob,b1,b2,fun q=>?_,fun q=>?_,I.bk _ _ b3,b4,b5,b6⟩
  ·obtain ⟨o,es,ep,e,hd,_⟩:=I.mod.glob
   rw [q,e] at b3; cases b3; rw [hd] at b6; cases b6
  ·have e:=I.bk _ _ b3
   rw [q,hP] at e; cases e; cases b4
 refine PySem.W.kla_eval hdef ?_
 rw [hq]
 have hP1:P < s.heap.objs.size:=Heap.lt_size hP
 rcases hit with hnf | ⟨c',hf,ec⟩
 ·refine PySem.W.kla_makeFunction hcl I.ok.glob hg hcode C hP ht hnf hgP hb fun c' ctv h' tk hx hge hlt hrec htb=>?_
  have hsz:s.heap.objs.size≤h'.objs.size:=Nat.le_trans hge (Nat.le_of_lt hlt)
  have nc:H c' = none:=I.hok.fresh hge
  have nf:H h'.objs.size = none:=I.hok.fresh hsz
  have ncf:c' ≠ h'.objs.size:=Nat.ne_of_lt hlt
  have ncP:c' ≠ P:=fun z=>absurd hP1 (by rw [← z]; exact Nat.not_lt.mpr hge)
  have nfP:h'.objs.size ≠ P:=fun z=>absurd hP1 (by rw [← z]; exact Nat.not_lt.mpr hsz)
  generalize hps:ps ++ #[rawInt pos.line,rawInt pos.col,.ref c'] = ps' at htb
  let H':Hp:=upd (upd (upd H P (.tbl ps')) c' (.ext fun h=>h.CodeRec (.ref c') qual)) h'.objs.size (.ext fun h=>h.get? h'.objs.size = some (PySem.W.kla_obj "<lambda>" qual params body scope cl ((X.mg "__name__").getD .none) c' ctv))
  have u1:∀ a,a ≠ P→a ≠ c'→a ≠ h'.objs.size→H' a = H a:=fun a n1 n2 n3=>by
   show upd (upd (upd H P _) c' _) _ _ a = _
   rw [upd_ne n3,upd_ne n2,upd_ne n1]
  have u2:H' P = some (.tbl ps'):=by
   show upd (upd (upd H P _) c' _) _ _ P = _
   rw [upd_ne (Ne.symm nfP),upd_ne (Ne.symm ncP),upd_same]
  have u3:H' c' = some (.ext fun h=>h.CodeRec (.ref c') qual):=by
   show upd (upd (upd H P _) c' _) _ _ c' = _
   rw [upd_ne ncf,upd_same]
  have u4:H' h'.objs.size = some (.ext fun h=>h.get? h'.objs.size = some (PySem.W.kla_obj "<lambda>" qual params body scope cl ((X.mg "__name__").getD .none) c' ctv)):=upd_same
  have keepH:∀ a u,a ≠ P→H a = some u→H' a = some u:=fun a u n e=>by
   rw [u1 a n (ne_of_none e nc) (ne_of_none e nf)]; exact e
  let o':=PySem.W.kla_obj "<lambda>" qual params body scope cl ((X.mg "__name__").getD .none) c' ctv
  have k1:∀ b o,b ≠ P→s.heap.get? b = some o→(h'.push o').get? b = some o:=fun b o n e=>Heap.get?_push_of_some _ (hx b o n e)
  have nP:∀ b,H b = none→b ≠ P:=fun b n z=>by rw [z,eP] at n; cases n
  have un:Un X.fs [] H H' s.heap (h'.push o'):=⟨fun b o e n _ _=>k1 b o (nP b n) e,fun b o e n _ _=>⟨o.slots,k1 b o (nP b n) e⟩,
   fun b o e n _=>by
    have hb:=Heap.lt_size e
    rw [u1 b (nP b n) (fun z=>absurd hb (by rw [z]; exact Nat.not_lt.mpr hge)) (fun z=>absurd hb (by rw [z]; exact Nat.not_lt.mpr hsz))]; exact n,
   fun b o e _=>by
    by_cases z:b = P
    ·rw [z]; exact ⟨_,Heap.get?_push_of_some _ htb⟩
    ·exact ⟨o,k1 b o z e⟩,
   fun b xs e=>keepH b _ (fun z=>by rw [z,eP] at e; cases e) e,fun b o u e=>keepH b _ (fun z=>by rw [z,eP] at e; cases e) e,
   fun b qs e=>by
    by_cases z:b = P
    ·rw [z,eP] at e
     cases e
     refine ⟨#[rawInt pos.line,rawInt pos.col,.ref c'],?_⟩
     rw [z,u2,hps]
    ·exact ⟨#[],by rw [keepH b _ z e]; simp⟩⟩
  have hok:HOk X.prog X.w H' (h'.push o'):=fun b u e=>by
   by_cases z1:b = h'.objs.size
   ·subst z1
    rw [u4] at e; cases e
    exact ⟨Heap.get?_push_size _ rfl,⟨_,Heap.get?_push_size _ rfl⟩,fun h1 h2 e1 kk=>kk _ e1⟩
   ·by_cases z2:b = c'
    ·subst z2
     rw [u3] at e; cases e
     obtain ⟨c₂,oc,vs,t,e2,hoc,hd,hv⟩:=hrec
     cases e2
     refine ⟨⟨_,oc,vs,t,rfl,Heap.get?_push_of_some _ hoc,hd,hv⟩,⟨oc,Heap.get?_push_of_some _ hoc⟩,fun h1 h2 ⟨c₂,oc,vs,t,e2,hoc,hd,hv⟩ kk=>?_⟩
     cases e2
     exact ⟨_,oc,vs,t,rfl,kk _ hoc,hd,hv⟩
    ·by_cases z3:b = P
     ·subst z3
      rw [u2] at e; cases e
      exact Heap.get?_push_of_some _ htb
     ·rw [u1 b z3 z2 z1] at e
      refine (I.hok b u e).stay (fun d v hd q=>k1 d v (fun z=>?_) q) (fun d q=>keepH d _ (fun z=>by rw [z,eP] at q; cases q) q) fun d xs q=>keepH d _ (fun z=>by rw [z,eP] at q; cases q) q
      rcases hd with y | y
      ·exact z3 (y.symm.trans z)
      ·rw [z,eP] at y; cases y
  refine ⟨.ref h'.objs.size,H',I.un (h':=h'.push o') (t':=tk) un hok,rfl,h _ H' keepH nf ⟨_,c',ctv,u4,u3⟩ ⟨ps',u2,?_,.inr ⟨c',?_,u3⟩⟩⟩
  ·rw [← hps,Array.toList_append]
   exact triples_snoc _ ht
  ·rw [← hps,Array.toList_append]
   exact codeAmong_snoc _ ht hnf
 ·refine PySem.W.kla_makeFunctionHit hcl I.ok.glob hg hcode C hP ht hf hb fun ctv h' tk hk hsz=>?_
  have nf:H h'.objs.size = none:=I.hok.fresh hsz
  let o':=PySem.W.kla_obj "<lambda>" qual params body scope cl ((X.mg "__name__").getD .none) c' ctv
  let H':Hp:=upd H h'.objs.size (.ext fun h=>h.get? h'.objs.size = some o')
  have keepH:∀ a u,H a = some u→H' a = some u:=fun a u e=>by
   show upd H _ _ a = _
   rw [upd_ne (ne_of_none e nf)]; exact e
  have u4:H' h'.objs.size = some (.ext fun h=>h.get? h'.objs.size = some o'):=upd_same
  refine ⟨.ref h'.objs.size,H',I.laid (h':=h'.push o') (t':=tk) (fun b o e=>Heap.get?_push_of_some _ (hk b o e)) hsz ?_,rfl,h _ H' (fun a u _ e=>keepH a u e) nf ⟨_,c',ctv,u4,keepH _ _ ec⟩ ⟨ps,keepH _ _ eP,ht,.inr ⟨c',hf,keepH _ _ ec⟩⟩⟩
  exact ⟨Heap.get?_push_size _ rfl,⟨_,Heap.get?_push_size _ rfl⟩,fun h1 h2 e1 kk=>kk _ e1⟩
end
theorem law_callT {P:Program} {w:World} {K:PySem.W.Frag} {mg mb:Str→Option Value} {CX:CXT} {k:Nat} {fa a:Addr} {fd:FuncData} {x:Str} {sp:Sp} {s₁:Shared} {vs:List Value} {ns:List Int} {tabs:List (Addr × Addr)}
  (KX:K.In s₁.heap) (hns:s₁.heap.Ns mainGlobals mg) (hb:s₁.heap.Ns builtinsNs mb) (hbb:∀ x:Str,x ≠ "__name__"→mb x = bootBuiltins x) (hlim:s₁.heap.NoLimit) (hg:s₁.gens = #[])
  (hbm:∃ bm ob,mg "__builtins__" = some (.ref bm)∧bm ≠ builtinsNs∧s₁.heap.get? bm = some ob∧ob.cls = .type "module"∧ob.dict = some builtinsNs∧ob.data = .plain)
  (hT:PySem.W.TabsAt tabs s₁.heap) (hTK:∀ q ∈ tabs,K.lookup q.2 = none)
  (ha:s₁.heap.get? a = some { cls:=.type "list",data:=.seq vs.toArray }) (hi:IntsAre vs ns) (hl:ns.length≤sizeLine) (hr:Room k callerA)
  (F:∀ base:Heap,K.In base→base.Ns mainGlobals mg→(∀ q ∈ tabs,LamBase mg base q.1 q.2)→FnOk P w K mg base CX k fa fd [x] sp) (hbind:∀ (s:Shared) (u:Value),BindsTo s fd ⟨[u],[]⟩ [(x,u)])
  (hsp:∀ H:Hp,(∀ q ∈ tabs,H q.2 = some (.tbl #[]))→SqL K H a (ns.map V.int)→sp [.ref a] H (fun v _=>v = .bl true) fun _ _ _=>False)
  (hCX:∀ H e s',CX [] H s₁ (fun _ _ _=>False) e s'→False) :
  codeAny (model P w) callerA (.call (.ref fa) ⟨[.ref a],[]⟩) (fun r s'=>r = .ok (.ret (.bool true))∧OldK s₁.heap s'.heap∧s'.os = s₁.os∧AllBare s'.gens) s₁:=by
 have rv:=vals_ints hi
 have lenV:=hi.length
 have tabAt:∀ b,b ∈ tabs.map (·.2)→∃ q ∈ tabs,q.2 = b∧s₁.heap.get? b = some (PySem.W.tabObj #[]):=fun b hb=>by
  obtain ⟨q,hq,rfl⟩:=List.mem_map.mp hb
  exact ⟨q,hq,rfl,(hT q hq).2⟩
 have aT:a ∉ tabs.map (·.2):=fun z=>by
  obtain ⟨_,_,_,e⟩:=tabAt a z
  rw [ha] at e
  have e':=congrArg Obj.data (Option.some.inj e)
  have e2:Data.seq vs.toArray _ = Data.fields #[]:=e'
  cases e2
 have core:∀ H:Hp,(∀ b,H b = none∨(b = a∧∃ xs,H b = some (.frz { cls:=.type "list",data:=.seq vs.toArray } (.lst xs)))∨(b ∈ tabs.map (·.2)∧H b = some (.tbl #[])))→(∀ b ∈ tabs.map (·.2),H b = some (.tbl #[]))→SqL K H a (ns.map V.int)→HOk P w H s₁.heap→(H a ≠ none→K.lookup a = none) →
   codeAny (model P w) callerA (.call (.ref fa) ⟨[.ref a],[]⟩) (fun r s'=>r = .ok (.ret (.bool true))∧OldK s₁.heap s'.heap∧s'.os = s₁.os∧AllBare s'.gens) s₁:=by
  intro H hO hTb hS hok hK
  have base_of:∀ {b:Addr} {o:Obj},s₁.heap.get? b = some o→H b = none→(hidT s₁.heap H).get? b = some o:=fun e n=>hidT_get e n
  have noA:∀ {b:Addr} {o:Obj},s₁.heap.get? b = some o→(o.data ≠ .seq vs.toArray)→o.cls ≠ .none→H b = none:=fun {b o} e d c=>by
   rcases hO b with z | ⟨z,_⟩ | ⟨z,_⟩
   ·exact z
   ·rw [z,ha] at e; cases e; exact absurd rfl d
   ·obtain ⟨_,_,_,e2⟩:=tabAt b z
    rw [e] at e2; cases e2; exact absurd rfl c
  have noD:∀ {b:Addr} {o:Obj} {es:Array DictEntry} {ep:Nat},s₁.heap.get? b = some o→o.data = .dict es ep→H b = none:=fun {b o es ep} e d=>by
   rcases hO b with z | ⟨z,_⟩ | ⟨z,_⟩
   ·exact z
   ·rw [z,ha] at e; cases e
    have d':Data.seq vs.toArray _ = Data.dict es ep:=d
    cases d'
   ·obtain ⟨_,_,_,e2⟩:=tabAt b z
    rw [e] at e2; cases e2; cases d
  have nsK:∀ {b:Addr} {m:Str→Option Value},s₁.heap.Ns b m→(hidT s₁.heap H).Ns b m:=fun {b m} ⟨o,es,ep,e,d,r⟩=>⟨o,es,ep,base_of e (noD e d),d,r⟩
  have hKb:K.In (hidT s₁.heap H):=fun b o e=>base_of (KX b o e) (by
   rcases hO b with z | ⟨z,xs,z2⟩ | ⟨z,z2⟩
   ·exact z
   ·rw [z,hK (by rw [← z,z2]; simp)] at e; cases e
   ·obtain ⟨q,hq,hqb,_⟩:=tabAt b z
    rw [← hqb,hTK q hq] at e; cases e)
  have hM:Mod K mg (hidT s₁.heap H):=⟨hKb,nsK hns,⟨mb,nsK hb,hbb⟩,let ⟨mc,h1,h2⟩:=hlim; ⟨mc,nsK h1,h2⟩⟩
  have hLB:∀ q ∈ tabs,LamBase mg (hidT s₁.heap H) q.1 q.2:=fun q hq=>by
   refine ⟨?_,?_⟩
   ·obtain ⟨o,us,file,tf,flags,tg,inF,text,tt,e,e2,e3,r⟩:=(hT q hq).1
    refine ⟨o,us,file,tf,flags,tg,inF,text,tt,base_of e (noA e (by rw [e3]; nofun) (by rw [e2]; nofun)),e2,e3,r⟩
   ·obtain ⟨bm,ob,b1,b2,b3,b4,b5,b6⟩:=hbm
    exact ⟨bm,ob,b1,b2,base_of b3 (noA b3 (by rw [b6]; nofun) (by rw [b4]; nofun)),b4,b5,b6⟩
  have e0:Env0 P w K mg (hidT s₁.heap H) callerA [] s₁ H:=⟨rfl,hM,fun b o e=>of_hidT e,Nat.le_of_eq (hidT_size _ _),trivial,fun b hb=>absurd (show b ∈ ([]:List Addr) from hb) (by simp),hok,.of_eq hg⟩
  refine codeAny_mono ((F _ hKb (nsK hns) hLB).run callerA [] s₁ H ⟨[.ref a],[]⟩ [.ref a] [.ref a] _ _ hr e0 (hbind s₁ (.ref a)) (.cons rfl .nil) (hsp H (fun q hq=>hTb _ (List.mem_map_of_mem hq)) hS)) fun r s' h=>?_
  cases r with
  | error e=>exact (hCX H e s' h).elim
  | ok fl =>
   cases fl with
   | next=>exact False.elim h
   | brk=>exact False.elim h
   | cont=>exact False.elim h
   | ret u =>
    obtain ⟨v,H',os,bare,un,hok',r',q⟩:=h
    have q':v = .bl true:=q
    subst q'
    obtain rfl:u = Value.bool true:=r'
    have key:∀ b o,s₁.heap.get? b = some o→asItWas s₁.heap s'.heap b o∧∃ o',s'.heap.get? b = some o':=fun b o e=>by
     rcases hO b with z | ⟨z,xs,z2⟩ | ⟨z,z2⟩
     ·have e1:=un.keep b o e z (by intro z; exact absurd (show b ∈ ([]:List Addr) from z) (by simp)) (by simp)
      exact ⟨.inl e1,o,e1⟩
     ·have z3:=un.frzs b _ _ z2
      obtain ⟨e1,_⟩:=hok b _ z2
      obtain ⟨e2,_⟩:=hok' b _ z3
      rw [e] at e1; cases e1
      exact ⟨.inl e2,_,e2⟩
     ·obtain ⟨q,hq,rfl,e1⟩:=tabAt b z
      rw [e] at e1; cases e1
      obtain ⟨more,z3⟩:=un.tbls _ _ z2
      have e2:s'.heap.get? q.2 = some (PySem.W.tabObj (#[] ++ more)):=hok' _ _ z3
      exact ⟨.inr (.inl ⟨((hT q hq).1.tab (hT q hq).2).isCodeTable,rfl,#[],more,rfl,e2⟩),_,e2⟩
    exact ⟨rfl,⟨fun b o e=>(key b o e).1,fun b o e=>(key b o e).2⟩,os,bare⟩
 have tbOk:∀ (H:Hp) (b:Addr),b ∈ tabs.map (·.2)→ObjOk P w H s₁.heap b (.tbl #[]):=fun H b hb=>by
  obtain ⟨_,_,_,e⟩:=tabAt b hb
  exact e
 have dec:∀ b,Decidable (b ∈ tabs.map (·.2)):=fun b=>inferInstance
 cases hk:K.lookup a with
 | some o =>
  have e:=KX a o hk
  rw [ha] at e
  cases e
  refine core (fun b=>if b ∈ tabs.map (·.2) then some (.tbl #[]) else none) (fun b=>?_) (fun b hb=>if_pos hb) (.inr ⟨_,vs.toArray,_,hk,rfl,rfl,rfl,by rw [List.size_toArray,lenV]; exact hl,by simpa using rv⟩) (fun b u z=>?_) fun z=>absurd (if_neg aT) z
  ·by_cases hb:b ∈ tabs.map (·.2)
   ·exact .inr (.inr ⟨hb,if_pos hb⟩)
   ·exact .inl (if_neg hb)
  ·by_cases hb:b ∈ tabs.map (·.2)
   ·have z':=(if_pos hb).symm.trans z
    cases z'
    exact tbOk _ b hb
   ·have z':=(if_neg hb).symm.trans z
    cases z'
 | none =>
  have eA:(if a = a then some (HO.frz { cls:=.type "list",data:=.seq vs.toArray } (.lst (ns.map V.int))) else if a ∈ tabs.map (·.2) then some (.tbl #[]) else none) = some (HO.frz { cls:=.type "list",data:=.seq vs.toArray } (.lst (ns.map V.int))):=if_pos rfl
  refine core (fun b=>if b = a then some (.frz { cls:=.type "list",data:=.seq vs.toArray } (.lst (ns.map V.int))) else if b ∈ tabs.map (·.2) then some (.tbl #[]) else none) (fun b=>?_) (fun b hb=>?_) (.inl (.inr ⟨{ cls:=.type "list",data:=.seq vs.toArray },if_pos rfl⟩)) (fun b u z=>?_) fun _=>hk
  ·by_cases hb:b = a
   ·exact .inr (.inl ⟨hb,_,if_pos hb⟩)
   ·by_cases hb2:b ∈ tabs.map (·.2)
    ·exact .inr (.inr ⟨hb2,(if_neg hb).trans (if_pos hb2)⟩)
    ·exact .inl ((if_neg hb).trans (if_neg hb2))
  ·exact (if_neg fun z=>aT (by rw [← z]; exact hb)).trans (if_pos hb)
  ·by_cases hb:b = a
   ·have z':=(if_pos hb).symm.trans z
    cases z'
    subst hb
    exact ⟨ha,by rw [List.length_map]; exact hl,vs,_,rv,ha⟩
   ·have z':=(if_neg hb).symm.trans z
    by_cases hb2:b ∈ tabs.map (·.2)
    ·have z'':=(if_pos hb2).symm.trans z'
     cases z''
     exact tbOk _ b hb2
    ·have z'':=(if_neg hb2).symm.trans z'
     cases z''
theorem walk_ofT {l:PySem.W.OpenLaw} {n k:Nat} {q:Program} {loose:List Str} {XP:(Str→Option Value)→Heap→Prop} {YP:World→Heap→Prop} {d:DefRec} {K:Params→PySem.W.Frag} {CX:World→CXT} {sp:World→Sp} {x:Str} (tabs:List (Addr × Addr))
  (hn:l.most = some n) (hn2:n≤sizeLine) (hdf:d.params.defaults = []) (hr:Room k callerA)
  (hY:∀ (w:World) (h:Heap),YP w h→(K w.params).In h)
  (hT:∀ (w:World) (lo:List Str) (mean:ExcName→Option Value) (mg mb:Str→Option Value) (h:Heap),Top q lo mean mg mb h→(K w.params).In h→PySem.W.TabsAt tabs h)
  (hTK:∀ w:World,∀ t ∈ tabs,(K w.params).lookup t.2 = none)
  (F:∀ (w:World) (mg:Str→Option Value) (fa:Addr) (h:Heap),(K w.params).In h→h.Ns mainGlobals mg→mg d.name = some (.ref fa) →
   ∃ fd:FuncData,(∀ (s:Shared) (u:Value),BindsTo s fd ⟨[u],[]⟩ [(x,u)]) ∧
    ∀ base:Heap,(K w.params).In base→base.Ns mainGlobals mg→(∀ t ∈ tabs,LamBase mg base t.1 t.2)→FnOk l.prog w (K w.params) mg base (CX w) k fa fd [x] (sp w))
  (hsp:∀ (w:World) (H:Hp) (a:Addr) (ns:List Int),ns.length≤n→(∀ t ∈ tabs,H t.2 = some (.tbl #[]))→SqL (K w.params) H a (ns.map V.int)→sp w [.ref a] H (fun v _=>v = .bl true) fun _ _ _=>False)
  (hCX:∀ (w:World) (H:Hp) (s:Shared) (e:Value) (s':Shared),CX w [] H s (fun _ _ _=>False) e s'→False) :
  PySem.W.WalkO q loose XP YP l.row.toRowW d [] (fun f vs=>PySem.call f vs):=by
 refine Att.attach_call hn hdf fun w s₀ s₁ mg mb fa o pm cd doc a vs ns G Y ho hd hcd hmg hobj hints hlen hg=>?_
 have KX:=hY w _ Y
 obtain ⟨fd,hb,hF⟩:=F w mg fa _ KX G.T.g hmg
 exact law_callT KX G.T.g G.T.b G.T.builtins G.T.nolimit hg G.T.bmain (hT w _ _ mg mb _ G.T KX) (hTK w) hobj hints (Nat.le_trans hlen hn2) hr hF hb (fun H hO hS=>hsp w H a ns hlen hO hS) fun H e s'=>hCX w H s₁ e s'
theorem Fun.okC {P:Program} {w:World} {K:PySem.W.Frag} {mg:Str→Option Value} {base:Heap} {x qual:Str} {st:Stmt} {f c:Addr} {fd:FuncData} {N ps:List Str} {k:Nat} {sp:Sp} (F:Fun K x qual st f fd) (hc:fd.code = .ref c) (S:FnScope N ps (defScope st)) (len:∀ vs H Q E,sp vs H Q E→vs.length = ps.length)
  (hbody:∀ (A:Around) (outer:List Env) (s:Shared) (H:Hp) (vs:List V) (Q:VK) (E:XK),Room k (A.deeper (envOfC qual (defScope st) s.heap.objs.size f (.ref c)))→sp vs H Q E →
   ∃ t,PSs (cxOf CX0 P w K mg base N qual (defScope st) f (.ref c) A outer s H E).nox (defBody st) t∧t { nx:=fun _ H'=>Q .non H',rt:=Q } (start N vs) H):FnOk P w K mg base CX0 (k + 1) f fd ps sp:=by
 obtain ⟨oc,od,kV,doc,pm,an,cdv,ct,osl,rfl,lk,hcd⟩:=F.ex
 obtain rfl:cdv = .ref c:=hc
 refine fn_of lk hcd S len fun A outer s H vs Q E hr hsp=>?_
 obtain ⟨t,h,q⟩:=hbody A outer s H vs Q E hr hsp
 exact ⟨t,h.nox,q⟩
theorem Inv.cells {X:Cx} {pins:List (Addr × Obj)} {σ:St} {H:Hp} {s:Shared} {cl:List (Str × Addr)} {ns:List Str} {vals:List V} (I:Inv X pins σ H s) (hfn:∀ x,X.fn x = true) (hsub:∀ x c,cl.lookup x = some c→X.env.cells.lookup x = some c)
  (hval:∀ (i:Nat) y v,ns[i]? = some y→vals[i]? = some v→∃ (j:Nat) (c:Addr),X.N[j]? = some y∧σ[j]? = some (some v)∧X.env.kindOf y = some .cell∧cl.lookup y = some c):Cells s.heap H (frs X.stack) cl ns vals:=by
 refine ⟨fun x c e=>⟨I.freeC x c (hsub x c e),fun z=>?_,I.cell x c (hsub x c e)⟩,fun x y c e1 e2=>I.ok.inj x y c (hsub x c e1) (hsub y c e2),fun i y v e1 e2=>?_⟩
 ·rcases List.mem_cons.mp (I.stkSub c z) with q | q
  ·exact I.cne x c (hsub x c e) q
  ·obtain ⟨_,o,ho,_⟩:=I.ok.funs.mem q
   exact absurd (Heap.lt_size ho) (Nat.not_lt.mpr (I.ok.cab x c (hfn x) (hsub x c e)))
 ·obtain ⟨j,c,h1,h2,h3,h4⟩:=hval i y v e1 e2
  obtain ⟨m,_,hl⟩:=I.loc
  obtain ⟨u,r,l⟩:=hl j y v h1 h2 (.inr (.inl h3))
  rcases l with ⟨k,_⟩ | ⟨_,c',hc,hv⟩
  ·rw [h3] at k; cases k
  ·rw [hsub y c h4] at hc
   cases hc
   exact ⟨c,u,h4,r,hv⟩
end L2
namespace L2
open PySem PySem.Spec PyProof.Rows
theorem free_has {names:List (Str × NameKind)} {cl:List (Str × Addr)} {ns:List Str} (hcls:cl.map (·.1) = ns) (hno:∀ p ∈ names,p.2 ≠ .cell∧(p.2 = .free→p.1 ∈ ns)) :
  ∀ y,(names.lookup y = some .cell∨names.lookup y = some .free)→∃ c,cl.lookup y = some c:=fun y hy=>by
 have hy':y ∈ ns:=by
  rcases hy with z | z
  ·exact absurd rfl (hno (y,.cell) (PySem.mem_of_lookup z)).1
  ·exact (hno (y,.free) (PySem.mem_of_lookup z)).2 rfl
 rw [← hcls] at hy'
 have key:∀ l:List (Str × Addr),y ∈ l.map (·.1)→∃ c,l.lookup y = some c:=by
  intro l
  induction l with
  | nil=>intro h; simp at h
  | cons p r ih =>
   intro h
   by_cases e:y = p.1
   ·exact ⟨p.2,by obtain ⟨p1,p2⟩:=p; dsimp only at e; subst e; simp [List.lookup]⟩
   ·have h':y ∈ r.map (·.1):=by
     rw [List.map_cons] at h
     exact (List.mem_cons.mp h).resolve_left e
    obtain ⟨c,hc'⟩:=ih h'
    refine ⟨c,?_⟩
    obtain ⟨p1,p2⟩:=p
    have:(y == p1) = false:=by simpa using e
    rw [List.lookup_cons,this]
    exact hc'
 exact key cl hy'
def lamA (e:Expr):Arguments:=match e with
 | .Lambda a _ _ _=>a
 | _=>{ posonlyargs:=[],args:=[],vararg:=none,kwonlyargs:=[],kw_defaults:=[],kwarg:=none,defaults:=[] }
def lamP (e:Expr):Pos:=match e with
 | .Lambda _ _ _ p=>p
 | _=>⟨0,0,0,0⟩
end L2
namespace Ow
open PySem PySem.Spec PyProof.Rows L2
theorem Has.imp {P:Program} {w:World} {K:PySem.W.Frag} {mg:Str→Option Value} {base:Heap} {k:Nat} {x:Str} {ps:List Str} {sp sp':Sp} (h:Has P w K mg base k x ps sp) (i:∀ vs H Q E,sp' vs H Q E→sp vs H Q E):Has P w K mg base k x ps sp':=by
 obtain ⟨f,fd,F,b,kp,m⟩:=h.ex
 exact ⟨f,fd,F.imp i,b,kp,m⟩
theorem dk_none {P:Program} {w:World} {H:Hp} (h:Heap) (hb:sysModules < h.objs.size):ObjOk P w H (h.push { cls:=.type "dict",data:=.dict #[] }) h.objs.size (.dK []) :=
 ⟨Nat.zero_le _,beq_eq_false_iff_ne.mpr (Ne.symm (Nat.ne_of_lt hb)),[],.nil,Heap.DictOf.new h⟩
theorem inv_big {X:Cx} {pins:List (Addr × Obj)} {σ:L2.St} {H:Hp} {s:Shared} (I:Inv X pins σ H s):sysModules < s.heap.objs.size:=by
 have h1:=I.ok.mod.glob.lt
 have h2:=Nat.le_trans I.ok.bsz I.sz
 exact Nat.lt_of_lt_of_le (Nat.lt_of_le_of_lt (by decide) h1) h2
def tDNew:TE:=fun _ H Q=>∀ p,H p = none→Q (.ref p) (upd H p (.dK []))
theorem pe_dnewK {X:Cx} {pos:Pos}:PE X (.Dict [] [] pos) tDNew:=fun pins s σ H Q I h =>
 wpAny_Dict_empty ⟨.ref s.heap.objs.size,_,I.laid (a:=s.heap.objs.size) (o:=.dK []) (t':=s.toks) (fun _ _ q=>Heap.get?_push_of_some _ q) (Nat.le_refl _) (dk_none s.heap (inv_big I)),rfl,h _ (I.hok.fresh (Nat.le_refl _))⟩
inductive Th (H:Hp):V→Prop where
 | int (i:Int):Th H (.int i)
 | bl (b:Bool):Th H (.bl b)
 | str (x:Str):Th H (.str x)
 | non:Th H .non
 | lst {a:Addr} {xs:List V} (h:H a = some (.lst xs)):Th H (.ref a)
 | tup {a:Addr} {xs:List V} (h:H a = some (.tup xs)):Th H (.ref a)
 | dct {a:Addr} {kvs:List (Key × V)} (h:H a = some (.dK kvs)):Th H (.ref a)
theorem Th.same {H H':Hp} {x:V} (t:Th H x) (s:Same H H'):Th H' x:=by
 cases t with
 | int i=>exact .int i
 | bl b=>exact .bl b
 | str x=>exact .str x
 | non=>exact .non
 | lst h=>exact .lst (s _ _ h)
 | tup h=>exact .tup (s _ _ h)
 | dct h=>exact .dct (s _ _ h)
def isI:V→Bool
 | .int _=>true
 | _=>false
def btw (x:V) (lo hi:Int):Bool:=match x with
 | .int i=>decide (lo≤i) && decide (i≤hi)
 | _=>false
theorem btw_not {x:V} {lo hi:Int} (h:isI x = false):btw x lo hi = false:=by
 cases x <;> first | rfl | cases h
theorem kit_str_int (K:PySem.W.Frag):PySem.W.kitOne K (.type "str") (.type "int") = some false:=by with_unfolding_all rfl
theorem kit_non_int (K:PySem.W.Frag):PySem.W.kitOne K (.type "NoneType") (.type "int") = some false:=by with_unfolding_all rfl
theorem kit_lst_int (K:PySem.W.Frag):PySem.W.kitOne K (.type "list") (.type "int") = some false:=by with_unfolding_all rfl
theorem kit_tup_int (K:PySem.W.Frag):PySem.W.kitOne K (.type "tuple") (.type "int") = some false:=by with_unfolding_all rfl
theorem kit_dct_int (K:PySem.W.Frag):PySem.W.kitOne K (.type "dict") (.type "int") = some false:=by with_unfolding_all rfl
def spWholeG:Sp:=fun vs H Q _=>∃ x:V,vs = [x]∧Th H x∧Q (.bl (isI x)) H
def spBtwG:Sp:=fun vs H Q _=>∃ (x:V) (lo hi:Int),vs = [x,.int lo,.int hi]∧Th H x∧Q (.bl (btw x lo hi)) H
end Ow
namespace Ow
open PySem PySem.Spec PyProof.Rows L2
section
variable {X:Cx} {elt iter cc:Expr} {x:Str} {px pos:Pos} {scope:Scope} {wi:TI} {tc:TT} {te:TE} {N:List Str} {cl:List (Str × Addr)} {cap:L2.St→L2.St}
end
end Ow
namespace Ow
open PySem PySem.Spec PyProof.Rows L2
section
variable {X:Cx}
end
end Ow
namespace Ow
open PySem PySem.Spec PyProof.Rows L2
theorem kit_of {K:PySem.W.Frag} {C D:Addr} (h1:PySem.W.isClsIn K D = true) (h2:PySem.W.typeIn K (.ref D) = some (.type "type")) (h3:PySem.W.mroIn K C (.ref D) = some true):PySem.W.kitOne K (.ref C) (.ref D) = some true:=by
 unfold PySem.W.kitOne
 split
 ·rfl
 ·unfold PySem.W.kitCls
  have e:((PySem.W.clsIn K D).isSome && PySem.W.typeIn K (.ref D) == some (.type "type")) = true:=by
   rw [h2]
   have h1':(PySem.W.clsIn K D).isSome = true:=h1
   rw [h1',Bool.true_and]
   exact beq_self_eq_true _
  show (if ((PySem.W.clsIn K D).isSome && PySem.W.typeIn K (.ref D) == some (.type "type")) = true then PySem.W.subIn K (.ref C) (.ref D) else none) = _
  rw [if_pos e]
  exact h3
end Ow
namespace Ow
open PySem PySem.Spec PyProof.Rows L2
section
variable {X:Cx} {elt iter cc:Expr} {x:Str} {px pos:Pos} {scope:Scope} {wi:TI} {tc:TT} {te:TE} {N:List Str} {cl:List (Str × Addr)} {cap:L2.St→L2.St}
end
end Ow
namespace Ow
open PySem PySem.Spec PyProof.Rows L2
theorem comp_rng {lo:Int} {n:Nat} {D:Addr} {te':TE} {tl:L2.St} {G:Hp→Prop} {H1:Hp} (Pv:Nat→Hp→Prop) (h0:Pv 0 (upd H1 D (.lst [])))
  (hs:∀ (i:Nat) H,i < n→Pv i H→te' (some (.int (lo + i)) :: tl) H fun y H2=>∃ ys,H2 D = some (.lst ys)∧ys.length < sizeLine∧∃ m',m' < n - i∧(m' = n - (i + 1)∧i + 1≤n∧Pv (i + 1) (upd H2 D (.lst (ys ++ [y])))))
  (hd:∀ H,Pv n H→G H) :
  ∃ W:Nat→Nat→Hp→Prop,(∃ m,W 0 m (upd H1 D (.lst [])))∧∀ i m H,W i m H →
   ((Itr lo n).stop i H∧G H)∨((Itr lo n).go i H∧∀ x H',(Itr lo n).yld i H x H'→te' (some x :: tl) H' fun y H2=>∃ ys,H2 D = some (.lst ys)∧ys.length < sizeLine∧∃ m',m' < m∧W (i + 1) m' (upd H2 D (.lst (ys ++ [y])))):=by
 refine ⟨fun i m H=>m = n - i∧i≤n∧Pv i H,⟨n,by simp,Nat.zero_le _,h0⟩,?_⟩
 rintro i m H ⟨rfl,hi,p⟩
 by_cases hlt:i < n
 ·refine .inr ⟨hlt,fun x H' y=>?_⟩
  obtain ⟨e,y⟩:=y
  subst e y
  exact hs i _ hlt p
 ·have e:i = n:=by lia
  subst e
  exact .inl ⟨Nat.le_refl _,hd H p⟩
end Ow
namespace Ow
open PySem PySem.Spec PyProof.Rows L2
section
variable {X:Cx}
end
end Ow
namespace Ow
open PySem PySem.Spec PyProof.Rows L2
end Ow
namespace Ow
open PySem PySem.Spec PyProof.Rows L2
section
variable {prog:Program} {w:World} {K:Type} [DecidableEq K] {knd:KeyKind prog w K} {A:Around} {E:Value→Shared→Prop} {s:Shared}
end
section
variable {prog:Program} {w:World} {A:Around} {E:Value→Shared→Prop} {s:Shared}
end
section
variable {X:Cx}
theorem dk_at {pins:List (Addr × Obj)} {σ:L2.St} {H:Hp} {s:Shared} (I:Inv X pins σ H s) {a:Addr} {kvs:List (Key × V)} (e:H a = some (.dK kvs)):kvs.length≤sizeLine∧(a == sysModules) = false∧∃ vs,KV kvs vs∧s.heap.DictOf (mixKind X.prog X.w) a vs:=I.hok a _ e
def Sm1 (H:Hp) (x:V):Prop:=∀ a kvs,x = .ref a→H a = some (.dK kvs)→kvs.length≤1
end
def noStar:Expr→Bool
 | .Starred _ _=>false
 | _=>true
theorem star_cons {e:Expr} (h:noStar e = true) (rest:List Expr) (env:Env):starEach (e :: rest) env = (false,eval e env) :: starEach rest env:=by
 cases e <;> first | rfl | cases h
theorem pa_consN {X:Cx} {e:Expr} {es:List Expr} {te:TE} {t:TA} (ha:PE X e te) (hr:PA X es t) (hn:noStar e = true:=by rfl):PA X (e :: es) (tCons te t):=pa_cons ha hr (star_cons hn es X.env)
structure Sl (p:Prop):Prop where
 out:p
section
variable {X:Cx}
theorem pss_consS {rest:List Stmt} {st:Stmt} {t u:TS} (h1:Sl (PS X st t)) (h2:PSs X rest u):Sl (PSs X (st :: rest) (tSeq t u)):=⟨pss_cons h1.out h2⟩
theorem ps_setS {i:Nat} {x:Str} {e:Expr} {te:TE} {pos pos':Pos} (hN:X.N.Nodup) (hi:X.N[i]? = some x) (hx:Loc X.env.scope x) (he:Sl (PE X e te)) (hs:swapsWith e (some (.Name x pos')) pos.line X.env = pure false:=by rfl) (hf:X.fn x = true∨X.env.scope.names.lookup x = some .local:=by first | exact .inl rfl | exact .inr rfl | assumption) :
  Sl (PS X (.Assign [.Name x pos'] e pos) (tAsg te (gName i))):=⟨ps_set hN hi hx he.out hs hf⟩
theorem pe_lstS {es:List Expr} {t:TA} {pos:Pos} (h:Sl (PA X es t)):Sl (PE X (.List es pos) (tLst t)):=⟨pe_lst h.out⟩
theorem pa_consS {e:Expr} {es:List Expr} {te:TE} {t:TA} (ha:PE X e te) (hr:Sl (PA X es t)) (hn:noStar e = true:=by rfl):Sl (PA X (e :: es) (tCons te t)):=⟨pa_consN ha hr.out hn⟩
theorem pa_nilS:Sl (PA X [] tNil):=⟨pa_nil⟩
end
end Ow
namespace L2
open PySem PySem.Spec PyProof.Rows
section
variable {κ:Type} [DecidableEq κ]
end
section
variable {P:Program} {w:World} {H:Hp} {h:Heap} {a:Addr}
end
section
variable {X:Cx} {pins:List (Addr × Obj)} {σ:St} {H:Hp} {s:Shared} {a:Addr} {y v:V} {u r:Value} {o:Option V} {A:Around} {E:Value→Shared→Prop}
end
section
variable {X:Cx} {pins:List (Addr × Obj)} {σ:St} {H:Hp} {s:Shared} {a:Addr} {kvs:List (Key × V)} {k:Key} {u:Value} {A:Around} {E:Value→Shared→Prop}
end
section
variable {X:Cx} {o i e value:Expr} {pos pos' tpos:Pos} {td ty tv:TE}
end
section
variable {X:Cx} {pos:Pos}
end
section
variable {X:Cx} {pins:List (Addr × Obj)} {σ:St} {H:Hp} {s:Shared} {a:Addr} {y d:V} {u r:Value} {o:Option V} {A:Around} {E:Value→Shared→Prop}
end
section
variable {X:Cx} {o e f:Expr} {apos cpos:Pos} {td ty tx:TE}
end
section
variable {X:Cx} {pins:List (Addr × Obj)} {σ:St} {H:Hp} {s:Shared} {a:Addr} {kvs:List (Key × V)} {A:Around} {E:Value→Shared→Prop}
end
section
variable {X:Cx} {pins:List (Addr × Obj)} {σ:St} {H:Hp} {s:Shared} {a:Addr} {y:V} {u:Value} {A:Around} {E:Value→Shared→Prop}
end
end L2
namespace L2
open PySem PySem.Spec PyProof.Rows
section
variable {κ:Type} [DecidableEq κ]
end
end L2
namespace Ow
open PySem PySem.Spec PyProof.Rows L2
section
variable {X:Cx} {pins:List (Addr × Obj)} {σ:L2.St} {H:Hp} {s:Shared}
end
section
variable {X:Cx} {tg:Expr}
end
section
variable {X:Cx}
end
end Ow
namespace Ow
open PySem PySem.Spec PyProof.Rows L2
theorem entry_unchain:entryFor table "proto.unchain" = some Builtin.«proto.unchain»:=by kernel_rfl
theorem raiseNew_some {P:Program} {w:World} {A:Around} {E:Value→Shared→Prop} {s:Shared} {α:Type} {Q:α→Shared→Prop} {e a:Addr} {o oe:Obj} {vs:Array Value} (hh:A.handled = some (.ref a)) (ga:s.heap.get? a = some o) (c0:Ctx0 o) (ge:s.heap.get? e = some oe) (de:oe.data = .fields vs) (z:2 < vs.size) (ne:a ≠ e)
  (k:E (.ref e) { s with heap:=s.heap.update e (Obj.mapFields (·.setIfInBounds 2 (.ref a))) }):wpAny (model P w) A (raiseNew (α:=α) (.ref e)) Q E s:=by
 obtain ⟨ws,dw,hw⟩:=c0
 obtain ⟨hp,g,d,tk,os⟩:=s
 unfold raiseNew
 refine wpAny_bind (wpAny_handled ?_)
 rw [hh]
 dsimp only
 rw [if_pos (by
  rw [bne_iff_ne]
  intro z
  injection z with z
  exact ne z)]
 refine wpAny_bind (wpAny_holding (wpAny_runValue (codeAny_builtin entry_unchain ?_)))
 show wpAny _ _ (field (.ref a) 2 >>= _) _ _ _
 refine wpAny_bind (wpAny_field ga dw hw ?_)
 rw [if_pos (by decide)]
 refine wpAny_pure ?_
 show wpAny _ _ (updateField e 2 (.ref a) >>= _) _ _ _
 unfold updateField
 refine wpAny_bind (wpAny_bind (wpAny_load ge ?_))
 rw [de]
 dsimp only
 rw [if_pos z]
 exact wpAny_update' ge (wpAny_throw k)
end Ow
namespace Ow
open PySem PySem.Spec PyProof.Rows L2
def calmA (A:Around):Around:={ A with handled:=none }
def hn (A:Around):Bool:=A.handled.isNone
def HdOk (A:Around) (h:Heap) (H:Hp) (fs:List Addr):Prop:=A.handled = none∨∃ (a:Addr) (o:Obj),A.handled = some (.ref a)∧h.get? a = some o∧Ctx0 o∧H a = none∧a ∉ fs
structure FnOkR (P:Program) (w:World) (K:PySem.W.Frag) (mg:Str→Option Value) (base:Heap) (CX:Bool→CXT) (r:Bool) (k:Nat) (f:Addr) (fd:FuncData) (ps:List Str) (sp:Sp):Prop where
 len:∀ vs H Q E,sp vs H Q E→vs.length = ps.length
 run:∀ (A:Around) (outer:List Env) (s:Shared) (H:Hp) (args:Args) (us:List Value) (vs:List V) (Q:VK) (E:XK),Room k (calmA A)→(r = true→HdOk A s.heap H (frs outer))→Env0 P w K mg base A outer s H→BindsTo s fd args (ps.zip us)→Vals vs us→sp vs H Q E →
  codeAny (model P w) A (.call (.ref f) args) (CR (CX (hn A)) outer P w H s Q E) s
def cxR (CX:Bool→CXT) (P:Program) (w:World) (K:PySem.W.Frag) (mg:Str→Option Value) (base:Heap) (N:List Str) (qual:Str) (scope:Scope) (f:Addr) (cd:Value) (A:Around) (outer:List Env) (s:Shared) (H:Hp) (E:XK):Cx :=
 { cxOf (CX (hn A)) P w K mg base N qual scope f cd A outer s H E with calm:=false }
theorem inv_startR {CX:Bool→CXT} {P:Program} {w:World} {K:PySem.W.Frag} {mg:Str→Option Value} {base:Heap} {N ps:List Str} {qual:Str} {scope:Scope} {f:Addr} {cd:Value} {A:Around} {outer:List Env} {s s1:Shared} {H:Hp} {E:XK} {us:List Value} {vs:List V}
  (S:FnScope N ps scope) (e0:Env0 P w K mg base A outer s H) (hl:vs.length = ps.length) (r:Vals vs us)
  (x:InCallC s s.heap.objs.size (bindL (envOfC qual scope s.heap.objs.size f cd).kindOf (ps.zip us) fun _=>none) (cellsFrom (s.heap.objs.size + 1) scope.names []) (bindC (envOfC qual scope s.heap.objs.size f cd).kindOf (ps.zip us) fun _=>none) s1) :
  Inv (cxR CX P w K mg base N qual scope f cd A outer s H E) [] (start N vs) H s1:=by
 have I:Inv (cxOf (CX (hn A)) P w K mg base N qual scope f cd (calmA A) outer s H E) [] (start N vs) H s1:=inv_start S rfl ⟨e0.frames,e0.mod,e0.bs,e0.bsz,e0.funs,e0.frf,e0.hok,e0.bare⟩ hl r x
 exact ⟨⟨I.ok.mod,I.ok.kind,I.ok.glob,I.ok.blt,I.ok.above,I.ok.inj,I.ok.has,I.ok.cab,(fun z=>nomatch z),I.ok.frames,I.ok.stk,I.ok.exf,I.ok.bs,I.ok.bsz,I.ok.noex,I.ok.exfs,I.ok.funs,I.ok.frf⟩,
  I.os,I.bare,I.base,I.loc,I.cell,I.free,I.freeC,I.pin,I.hok,I.len⟩
def HdX (X:Cx):Prop:=∀ (pins:List (Addr × Obj)) (σ:L2.St) (H:Hp) (s:Shared),Inv X pins σ H s→HdOk X.A s.heap H (frs X.stack)
theorem hd_in {CX:Bool→CXT} {P:Program} {w:World} {K:PySem.W.Frag} {mg:Str→Option Value} {base:Heap} {N:List Str} {qual:Str} {scope:Scope} {f:Addr} {cd:Value} {A:Around} {outer:List Env} {s:Shared} {H:Hp} {E:XK}
  (h0:HdOk A s.heap H (frs outer)):HdX (cxR CX P w K mg base N qual scope f cd A outer s H E):=by
 intro pins σ H1 s1 I
 rcases h0 with h | ⟨a,o,e,g,c0,n,nf⟩
 ·exact .inl h
 ·have nx:a ∉ ([]:List Addr):=fun z=>nomatch z
  refine .inr ⟨a,o,e,I.base.keep a o g n nf nx,c0,I.base.free a o g n nx,fun hm=>?_⟩
  rcases List.mem_cons.mp (I.stkSub a hm) with z | z
  ·exact Nat.lt_irrefl _ (Nat.lt_of_lt_of_le (z ▸ Heap.lt_size g) I.ok.above)
  ·exact nf z
theorem hd_caught {X:Cx} {a:Addr} {oe:Obj} (c0:Ctx0 oe) (hst:X.stack = X.env :: X.outer) (hfr:X.env.frame = some X.env.locals):HdX (caught X a oe):=by
 intro pins σ H s I
 obtain ⟨e,n,nl,nf,_⟩:=I.pin (a,oe) (List.mem_append_left _ (List.mem_cons_self ..))
 refine .inr ⟨a,oe,rfl,e,c0,n,fun hm=>?_⟩
 have hm':a ∈ frs (X.env :: X.outer):=hst ▸ hm
 obtain ⟨en,he,hf⟩:=List.mem_filterMap.mp hm'
 rcases List.mem_cons.mp he with rfl | he
 ·rw [hfr] at hf
  cases hf
  exact nl rfl
 ·exact nf (List.mem_filterMap.mpr ⟨en,he,hf⟩)
theorem fn_ofR {CX:Bool→CXT} {r:Bool} {P:Program} {w:World} {K:PySem.W.Frag} {mg:Str→Option Value} {base:Heap} {k:Nat} {f:Addr} {name qual:Str} {params:Arguments} {body:List Stmt} {scope:Scope} {dV kV doc pm cdv ct oc:Value} {an od:Option Addr}
  {osl:Array (Option Value)} {N ps:List Str} {sp:Sp} (lk:K.lookup f = some ⟨oc,od,.func (PySem.W.fnOf name qual params body scope dV kV doc pm an cdv ct),osl⟩) (hcd:PySem.W.codeIn K cdv qual = true) (S:FnScope N ps scope)
  (len:∀ vs H Q E,sp vs H Q E→vs.length = ps.length)
  (hbody:∀ (A:Around) (outer:List Env) (s:Shared) (H:Hp) (vs:List V) (Q:VK) (E:XK),Room k (calmA (A.deeper (envOfC qual scope s.heap.objs.size f cdv)))→(r = true→HdOk A s.heap H (frs outer))→sp vs H Q E →
   ∃ t,PSs (cxR CX P w K mg base N qual scope f cdv A outer s H E) body t∧t { nx:=fun _ H'=>Q .non H',rt:=Q } (start N vs) H) :
  FnOkR P w K mg base CX r (k + 1) f (PySem.W.fnOf name qual params body scope dV kV doc pm an cdv ct) ps sp:=by
 refine ⟨len,fun A outer s H args us vs Q E hr hh e0 hb r hsp=>?_⟩
 have hl:=len _ _ _ _ hsp
 have KX:K.In s.heap:=e0.mod.kin.keeps fun b o e=>(e0.bs b o e).1
 have lim:s.heap.NoLimit:=e0.mod.nolimit.keeps fun b o e=>(e0.bs b o e).1
 have hkind:∀ y ∈ ps.zip us,scope.names.lookup y.1 = some .local∨(scope.names.lookup y.1 = some .cell∧((cellsFrom (s.heap.objs.size + 1) scope.names []).lookup y.1).isSome = true):=fun ⟨n,v⟩ hy=>by
  rcases S.par n (List.of_mem_zip hy).1 with q | q
  ·exact .inl q
  ·exact .inr ⟨q,PySem.W.cellsFrom_some _ _ _ (.inl q)⟩
 refine codeAny_call_function (show A.depth < recursionLimit from hr.depth) (KX _ _ lk) rfl S.co S.gen rfl (PySem.W.codeRec_of KX hcd) (hb _ _ _ _ ?_)
 refine wpAny_newFunctionEnv_cells S.kind hkind fun env he s1 x=>?_
 subst he
 refine ⟨lim.keeps x.toInCall.keep,codeAny_func ?_⟩
 obtain ⟨t,ht,hq⟩:=hbody A outer s H vs Q E (hr.deeper _) hh hsp
 have I:Inv (cxR CX P w K mg base N qual scope f cdv A outer s H E) [] (start N vs) H s1:=inv_startR S e0 hl r x
 refine wpAny_mono (ht [] s1 (start N vs) H _ I hq) (fun fl s' hs=>?_) fun e s' hs=>hs
 have fin:∀ {σ':L2.St} {H':Hp} {v:V} {u:Value},Inv (cxR CX P w K mg base N qual scope f cdv A outer s H E) [] σ' H' s'→RelV v u→Q v H'→CE outer P w H s Q u s' :=
  fun {σ' H' v u} J rv q=>⟨v,H',J.os,J.bare,J.base,J.hok,rv,q⟩
 cases fl with
 | ret u =>
  obtain ⟨v,σ',H',J,rv,q⟩:=hs
  exact fin J rv q
 | next =>
  obtain ⟨σ',H',J,q⟩:=hs
  exact fin (v:=V.non) (u:=Value.none) J rfl q
 | brk =>
  obtain ⟨_,_,_,q⟩:=hs
  exact False.elim q
 | cont =>
  obtain ⟨_,_,_,q⟩:=hs
  exact False.elim q
section
variable {P:Program} {w:World} {K:PySem.W.Frag} {mg:Str→Option Value} {base:Heap}
theorem Fun.okR {CX:Bool→CXT} {r:Bool} {x qual:Str} {st:Stmt} {f:Addr} {fd:FuncData} {N ps:List Str} {k:Nat} {sp:Sp} (F:Fun K x qual st f fd) (S:FnScope N ps (defScope st)) (len:∀ vs H Q E,sp vs H Q E→vs.length = ps.length)
  (hbody:∀ (cdv:Value) (A:Around) (outer:List Env) (s:Shared) (H:Hp) (vs:List V) (Q:VK) (E:XK),Room k (calmA (A.deeper (envOfC qual (defScope st) s.heap.objs.size f cdv)))→(r = true→HdOk A s.heap H (frs outer))→sp vs H Q E →
   ∃ t,PSs (cxR CX P w K mg base N qual (defScope st) f cdv A outer s H E) (defBody st) t∧t { nx:=fun _ H'=>Q .non H',rt:=Q } (start N vs) H):FnOkR P w K mg base CX r (k + 1) f fd ps sp:=by
 obtain ⟨oc,od,kV,doc,pm,an,cdv,ct,osl,e1,lk,hcd⟩:=F.ex
 subst e1
 exact fn_ofR lk hcd S len fun A outer s H vs Q E hr hh hsp=>hbody cdv A outer s H vs Q E hr hh hsp
theorem Fun.okR0 {r:Bool} {x qual:Str} {st:Stmt} {f:Addr} {fd:FuncData} {N ps:List Str} {k:Nat} {sp:Sp} (F:Fun K x qual st f fd) (S:FnScope N ps (defScope st)) (len:∀ vs H Q E,sp vs H Q E→vs.length = ps.length)
  (hbody:∀ (cdv:Value) (A:Around) (outer:List Env) (s:Shared) (H:Hp) (vs:List V) (Q:VK) (E:XK),Room k (calmA (A.deeper (envOfC qual (defScope st) s.heap.objs.size f cdv)))→(r = true→HdOk A s.heap H (frs outer))→sp vs H Q E →
   ∃ t,PSs (cxR (fun _=>CX0) P w K mg base N qual (defScope st) f cdv A outer s H E).nox (defBody st) t∧t { nx:=fun _ H'=>Q .non H',rt:=Q } (start N vs) H):FnOkR P w K mg base (fun _=>CX0) r (k + 1) f fd ps sp :=
 Fun.okR F S len fun cdv A outer s H vs Q E hr hh hsp=>by
  obtain ⟨t,h,q⟩:=hbody cdv A outer s H vs Q E hr hh hsp
  exact ⟨t,h.nox,q⟩
end
def PassAt (CX:CXT) (X:Cx) (E:L2.St→XK):Prop:=∀ (pins:List (Addr × Obj)) (σ:L2.St) (H:Hp) (s:Shared) (e:Value) (s':Shared),Inv X pins σ H s→CX X.stack H s (E σ) e s'→X.xe e s'
theorem pat0 {X:Cx}:PassAt CX0 X (fun _=>E0):=fun _ _ _ _ _ _ _ h=>h.elim
structure HasR (P:Program) (w:World) (K:PySem.W.Frag) (mg:Str→Option Value) (base:Heap) (CX:Bool→CXT) (r:Bool) (k:Nat) (x:Str) (ps:List Str) (sp:Sp):Prop where
 ex:∃ (f:Addr) (fd:FuncData),FnOkR P w K mg base CX r k f fd ps sp∧Binds K fd ps []∧PySem.W.keepIn K (.ref f) = true∧mg x = some (.ref f)
section
variable {X:Cx} {CX:Bool→CXT} {r:Bool} {k:Nat} {f C:Addr} {fd:FuncData} {ps:List Str} {sp:Sp} {E:L2.St→XK} {x m:Str} {p pos apos:Pos} {e o:Expr} {es:List Expr} {ta:TE} {t:TA}
theorem run_fnG {pins:List (Addr × Obj)} {σ:L2.St} {H:Hp} {s:Shared} {Q:VK} {us:List Value} {vs:List V} (F:FnOkR X.prog X.w X.K X.mg X.base CX r k f fd ps sp) (hr:Room k (calmA X.A)) (hh:r = true→HdX X) (hb:Binds X.K fd ps []) (hx:PassAt (CX (hn X.A)) X E)
  (I:Inv X pins σ H s) (rv:Vals vs us) (h:sp (vs ++ []) H Q (E σ)):wpAny (model X.prog X.w) X.A (call (.ref f) us) (EP X pins σ Q) X.xe s:=by
 have r2:Vals (vs ++ []) (us ++ []):=rv.append .nil
 have hl:(us ++ []).length = ps.length:=by rw [← r2.length]; exact F.len _ _ _ _ h
 refine wpAny_call (codeAny_mono (F.run X.A X.stack s H ⟨us,[]⟩ (us ++ []) (vs ++ []) Q (E σ) hr (fun z=>hh z _ _ _ _ I) I.env0 (hb s us I.kIn hl) r2 h) fun r s' hq=>?_)
 cases r with
 | error e=>exact hx pins σ H s e s' I hq
 | ok fl =>
  cases fl with
  | ret u=>exact I.after hq
  | next=>exact False.elim hq
  | brk=>exact False.elim hq
  | cont=>exact False.elim hq
theorem pe_fnG (h:HasR X.prog X.w X.K X.mg X.base CX r k x ps sp) (hr:Room k (calmA X.A)) (hh:r = true→HdX X) (hg:Gl X x) (hx:PassAt (CX (hn X.A)) X E)
  (ha:PA X (e :: es) t) (hdb:(x == ("__debug__":Str)) = false:=by decide) (he:starEach (e :: es) X.env = (false,eval e X.env) :: starEach es X.env:=by rfl) (hpl:(backTo pos (starEach es X.env)).any (·.1) = false:=by rfl) :
  PE X (.Call (.Name x p) (e :: es) [] pos) (tCallT sp E t):=by
 intro pins s σ H Q I h1
 obtain ⟨f,fd,F,hb,hk,hm⟩:=h.ex
 refine wpAny_Call_Name_kw (ld_glob I hg hm ?_ hdb)
 refine PySem.W.callWith_K (h₀:=X.base) I.ok.mod.kin hk (thn (ha pos pins s σ H _ I h1) fun us s1 ⟨vs,H1,I1,r,q⟩=>⟨I1.kIn,?_⟩) he hpl
 exact run_fnG F hr hh hb hx I1 r q
end
end Ow
namespace Ow
open PySem PySem.Spec PyProof.Rows L2
section
variable {P:Program} {w:World} {K:PySem.W.Frag} {mg:Str→Option Value} {base:Heap} {N:List Str} {qual:Str} {scope:Scope} {f:Addr} {cdv:Value} {A:Around} {outer:List Env} {s₀:Shared} {H₀:Hp} {E:XK}
end
end Ow
namespace Ow
open PySem PySem.Spec PyProof.Rows L2
theorem room_any {k:Nat} {A B:Around} (r:Room k A) (h1:B.depth = A.depth) (h2:B.units = A.units) (h3:B.guards = A.guards):Room k (calmA B) :=
 ⟨rfl,by have:=r.dp; show B.depth + 3 * k + 5 < _; lia,by have:=r.un; show B.units + 16 * k + 200 < _; lia,h3.trans r.gd⟩
theorem hd_wish {X:Cx} {E:Value→Shared→Prop} (h:HdX X):HdX (X.wish E):=fun pins σ H s I=>h pins σ H s I.unwish
section
variable {X:Cx}
end
end Ow
namespace Ow
open PySem PySem.Spec PyProof.Rows L2
end Ow
namespace Ow
open PySem PySem.Spec PyProof.Rows L2
section
variable {X:Cx}
theorem pe_ixS {a b:Expr} {r:R2} {ta tb:TE} {pos:Pos} (hr:IxR X r) (ha:Sl (PE X a ta)) (hb:PE X b tb) (hs:PlainIx b):Sl (PE X (.Subscript a b pos) (tOp r ta tb)):=⟨pe_ix hr ha.out hb hs⟩
end
end Ow
namespace Ow
open PySem PySem.Spec PyProof.Rows L2
def Zx (a:Addr) (cls:Value) (A:Around) (h:Heap) (H:Hp) (fs:List Addr):Prop:=∃ o:Obj,A.handled = some (.ref a)∧h.get? a = some o∧o.cls = cls∧H a = none∧a ∉ fs
structure FnOkE (P:Program) (w:World) (K:PySem.W.Frag) (mg:Str→Option Value) (base:Heap) (a:Addr) (cls:Value) (k:Nat) (f:Addr) (fd:FuncData) (ps:List Str) (sp:Sp):Prop where
 len:∀ vs H Q E,sp vs H Q E→vs.length = ps.length
 run:∀ (A:Around) (outer:List Env) (s:Shared) (H:Hp) (args:Args) (us:List Value) (vs:List V) (Q:VK) (E:XK),Room k (calmA A)→Zx a cls A s.heap H (frs outer)→Env0 P w K mg base A outer s H→BindsTo s fd args (ps.zip us)→Vals vs us→sp vs H Q E →
  codeAny (model P w) A (.call (.ref f) args) (CR CX0 outer P w H s Q E) s
def HdE (X:Cx) (a:Addr) (cls:Value):Prop:=∀ (pins:List (Addr × Obj)) (σ:L2.St) (H:Hp) (s:Shared),Inv X pins σ H s→∃ o,s.heap.get? a = some o∧o.cls = cls
theorem hde_in {CX:Bool→CXT} {P:Program} {w:World} {K:PySem.W.Frag} {mg:Str→Option Value} {base:Heap} {N:List Str} {qual:Str} {scope:Scope} {f:Addr} {cd:Value} {A:Around} {outer:List Env} {s:Shared} {H:Hp} {E:XK} {a:Addr} {cls:Value}
  (h0:Zx a cls A s.heap H (frs outer)):HdE (cxR CX P w K mg base N qual scope f cd A outer s H E).nox a cls:=by
 intro pins σ H1 s1 I
 obtain ⟨o,e,g,c0,n,nf⟩:=h0
 have nx:a ∉ ([]:List Addr):=fun z=>nomatch z
 have I':Inv (cxR CX P w K mg base N qual scope f cd A outer s H E) pins σ H1 s1:=I.unwish
 exact ⟨o,I'.base.keep a o g n nf nx,c0⟩
theorem fn_ofE {xa:Addr} {xc:Value} {P:Program} {w:World} {K:PySem.W.Frag} {mg:Str→Option Value} {base:Heap} {k:Nat} {f:Addr} {name qual:Str} {params:Arguments} {body:List Stmt} {scope:Scope} {dV kV doc pm cdv ct oc:Value} {an od:Option Addr}
  {osl:Array (Option Value)} {N ps:List Str} {sp:Sp} (lk:K.lookup f = some ⟨oc,od,.func (PySem.W.fnOf name qual params body scope dV kV doc pm an cdv ct),osl⟩) (hcd:PySem.W.codeIn K cdv qual = true) (S:FnScope N ps scope)
  (len:∀ vs H Q E,sp vs H Q E→vs.length = ps.length)
  (hbody:∀ (A:Around) (outer:List Env) (s:Shared) (H:Hp) (vs:List V) (Q:VK) (E:XK),Room k (calmA (A.deeper (envOfC qual scope s.heap.objs.size f cdv)))→Zx xa xc A s.heap H (frs outer)→sp vs H Q E →
   ∃ t,PSs (cxR (fun _=>CX0) P w K mg base N qual scope f cdv A outer s H E) body t∧t { nx:=fun _ H'=>Q .non H',rt:=Q } (start N vs) H) :
  FnOkE P w K mg base xa xc (k + 1) f (PySem.W.fnOf name qual params body scope dV kV doc pm an cdv ct) ps sp:=by
 refine ⟨len,fun A outer s H args us vs Q E hr hh e0 hb r hsp=>?_⟩
 have hl:=len _ _ _ _ hsp
 have KX:K.In s.heap:=e0.mod.kin.keeps fun b o e=>(e0.bs b o e).1
 have lim:s.heap.NoLimit:=e0.mod.nolimit.keeps fun b o e=>(e0.bs b o e).1
 have hkind:∀ y ∈ ps.zip us,scope.names.lookup y.1 = some .local∨(scope.names.lookup y.1 = some .cell∧((cellsFrom (s.heap.objs.size + 1) scope.names []).lookup y.1).isSome = true):=fun ⟨n,v⟩ hy=>by
  rcases S.par n (List.of_mem_zip hy).1 with q | q
  ·exact .inl q
  ·exact .inr ⟨q,PySem.W.cellsFrom_some _ _ _ (.inl q)⟩
 refine codeAny_call_function (show A.depth < recursionLimit from hr.depth) (KX _ _ lk) rfl S.co S.gen rfl (PySem.W.codeRec_of KX hcd) (hb _ _ _ _ ?_)
 refine wpAny_newFunctionEnv_cells S.kind hkind fun env he s1 x=>?_
 subst he
 refine ⟨lim.keeps x.toInCall.keep,codeAny_func ?_⟩
 obtain ⟨t,ht,hq⟩:=hbody A outer s H vs Q E (hr.deeper _) hh hsp
 have I:Inv (cxR (fun _=>CX0) P w K mg base N qual scope f cdv A outer s H E) [] (start N vs) H s1:=inv_startR S e0 hl r x
 refine wpAny_mono (ht [] s1 (start N vs) H _ I hq) (fun fl s' hs=>?_) fun e s' hs=>hs
 have fin:∀ {σ':L2.St} {H':Hp} {v:V} {u:Value},Inv (cxR (fun _=>CX0) P w K mg base N qual scope f cdv A outer s H E) [] σ' H' s'→RelV v u→Q v H'→CE outer P w H s Q u s' :=
  fun {σ' H' v u} J rv q=>⟨v,H',J.os,J.bare,J.base,J.hok,rv,q⟩
 cases fl with
 | ret u =>
  obtain ⟨v,σ',H',J,rv,q⟩:=hs
  exact fin J rv q
 | next =>
  obtain ⟨σ',H',J,q⟩:=hs
  exact fin (v:=V.non) (u:=Value.none) J rfl q
 | brk =>
  obtain ⟨_,_,_,q⟩:=hs
  exact False.elim q
 | cont =>
  obtain ⟨_,_,_,q⟩:=hs
  exact False.elim q
section
variable {P:Program} {w:World} {K:PySem.W.Frag} {mg:Str→Option Value} {base:Heap}
theorem Fun.okE {xa:Addr} {xc:Value} {x qual:Str} {st:Stmt} {f:Addr} {fd:FuncData} {N ps:List Str} {k:Nat} {sp:Sp} (F:Fun K x qual st f fd) (S:FnScope N ps (defScope st)) (len:∀ vs H Q E,sp vs H Q E→vs.length = ps.length)
  (hbody:∀ (cdv:Value) (A:Around) (outer:List Env) (s:Shared) (H:Hp) (vs:List V) (Q:VK) (E:XK),Room k (calmA (A.deeper (envOfC qual (defScope st) s.heap.objs.size f cdv)))→Zx xa xc A s.heap H (frs outer)→sp vs H Q E →
   ∃ t,PSs (cxR (fun _=>CX0) P w K mg base N qual (defScope st) f cdv A outer s H E).nox (defBody st) t∧t { nx:=fun _ H'=>Q .non H',rt:=Q } (start N vs) H):FnOkE P w K mg base xa xc (k + 1) f fd ps sp:=by
 obtain ⟨oc,od,kV,doc,pm,an,cdv,ct,osl,e1,lk,hcd⟩:=F.ex
 subst e1
 exact fn_ofE lk hcd S len fun A outer s H vs Q E hr hh hsp=>by
  obtain ⟨t,h,q⟩:=hbody cdv A outer s H vs Q E hr hh hsp
  exact ⟨t,h.nox,q⟩
end
structure HasE (P:Program) (w:World) (K:PySem.W.Frag) (mg:Str→Option Value) (base:Heap) (k:Nat) (x:Str) (ps:List Str) (sp:Addr→Value→Sp):Prop where
 ex:∃ (f:Addr) (fd:FuncData),(∀ a cls,FnOkE P w K mg base a cls k f fd ps (sp a cls))∧Binds K fd ps []∧PySem.W.keepIn K (.ref f) = true∧mg x = some (.ref f)
section
variable {X:Cx} {k:Nat} {ps:List Str} {sp:Addr→Value→Sp} {x:Str} {p pos:Pos} {e:Expr} {es:List Expr} {t:TA} {a:Addr} {oe:Obj}
theorem pe_fnE (h:HasE X.prog X.w X.K X.mg X.base k x ps sp) (hr:Room k (calmA (caught X a oe).A)) (hg:Gl (caught X a oe) x) (ha:PA (caught X a oe) (e :: es) t) (hst:X.stack = X.env :: X.outer:=by rfl) (hfr:X.env.frame = some X.env.locals:=by rfl)
  (hdb:(x == ("__debug__":Str)) = false:=by decide) (he:starEach (e :: es) X.env = (false,eval e X.env) :: starEach es X.env:=by rfl) (hpl:(backTo pos (starEach es X.env)).any (·.1) = false:=by rfl) :
  PE (caught X a oe) (.Call (.Name x p) (e :: es) [] pos) (tCallT (sp a oe.cls) (fun _=>E0) t):=by
 intro pins s σ H Q I h1
 obtain ⟨f,fd,F,hb,hk,hm⟩:=h.ex
 refine wpAny_Call_Name_kw (ld_glob I hg hm ?_ hdb)
 refine PySem.W.callWith_K (h₀:=X.base) I.ok.mod.kin hk (thn (ha pos pins s σ H _ I h1) fun us s1 ⟨vs,H1,I1,r,q⟩=>⟨I1.kIn,?_⟩) he hpl
 have r2:Vals (vs ++ []) (us ++ []):=r.append .nil
 have hl:(us ++ []).length = ps.length:=by rw [← r2.length]; exact (F a oe.cls).len _ _ _ _ q
 obtain ⟨e1,n1,nl,nf,_⟩:=I1.pin (a,oe) (List.mem_append_left _ (List.mem_cons_self ..))
 have nfs:a ∉ frs (caught X a oe).stack:=fun hm=>by
  have hm':a ∈ frs (X.env :: X.outer):=hst ▸ hm
  obtain ⟨en,he,hf⟩:=List.mem_filterMap.mp hm'
  rcases List.mem_cons.mp he with rfl | he
  ·rw [hfr] at hf
   cases hf
   exact nl rfl
  ·exact nf (List.mem_filterMap.mpr ⟨en,he,hf⟩)
 refine wpAny_call (codeAny_mono ((F a oe.cls).run (caught X a oe).A (caught X a oe).stack s1 H1 ⟨us,[]⟩ (us ++ []) (vs ++ []) Q E0 hr ⟨oe,rfl,e1,rfl,n1,nfs⟩ I1.env0 (hb s1 us I1.kIn hl) r2 q) fun r s' hq=>?_)
 cases r with
 | error e=>exact False.elim hq
 | ok fl =>
  cases fl with
  | ret u=>exact I1.after hq
  | next=>exact False.elim hq
  | brk=>exact False.elim hq
  | cont=>exact False.elim hq
theorem call_isinstE {cls:Value} (hd:HdE X a cls):CallR X (.builtin "isinstance") (fun xs H Q=>∃ (C:Addr) (c:V) (cv:Value) (b:Bool),xs = [.ref a,c]∧cls = .ref C∧ExF X.K C∧clsV c = some cv∧PySem.W.kitOne X.K (.ref C) cv = some b∧Q (.bl b) H):=by
 intro pins s σ H xs us Q I r h
 obtain ⟨C,c,cv,b,rfl,hc,f,hcv,e,q⟩:=h
 obtain ⟨u,u',rfl,rx,rc⟩:=vals2 r
 cases clsV_rel rc hcv
 cases (show u = Value.ref a from rx)
 obtain ⟨o,g,oc⟩:=hd pins σ H s I
 exact PySem.W.kia_one (kitx_exc f) I.kIn ⟨o,g,oc.trans hc⟩ e (fun z=>nomatch z) fun tk=>⟨.bl b,H,I.tok _,rfl,q⟩
end
end Ow
namespace Ow
open PySem PyProof.Rows
class KeyC where
 ky:Keyed→Int
 isIn:Keyed→Prop
 kd:SortKind
abbrev ky [KeyC] (p:Keyed):Int:=KeyC.ky p
abbrev IsIn [KeyC] (p:Keyed):Prop:=KeyC.isIn p
class KeyL [KeyC] (prog:Program) (w:World) (A:Around) (s:Shared):Prop where
 lt:∀ {E:Value→Shared→Prop} {st:SortSt} {x y:Keyed} {Q:Option Bool→SortSt→Prop},kindOf st = KeyC.kd→IsIn x→IsIn y→Q (some (decide (ky x < ky y))) st→wpS (model prog w) A E s (lt' x y) Q st
variable [KeyC]
def gallop':Bool→Keyed→Array Keyed→Nat→Nat→Nat→StateT SortSt Sem (Option Nat):=sortPriv% PySem.Builtin.gallop
def byd (left:Bool) (key:Keyed) (arr:Array Keyed) (base i:Nat):StateT SortSt Sem (Option Bool):=do
 let x ← elem' arr (base + i)
 if left then lt' x key else return (← lt' key x).map (!·)
theorem gallop'_eq (left:Bool) (key:Keyed) (arr:Array Keyed) (base n hint:Nat):gallop' left key arr base n hint = (do
 let mut lastofs:=0
 let mut ofs:=1
 let mut lo:=0
 let mut hi:=0
 let some right ← byd left key arr base hint | return none
 if right then
  let maxofs:=n - hint
  for _ in [0:n] do
   if ofs ≥ maxofs then break
   let some more ← byd left key arr base (hint + ofs) | return none
   if !more then break
   lastofs:=ofs
   ofs:=2 * ofs + 1
  lo:=hint + lastofs + 1
  hi:=hint + min ofs maxofs
 else
  let maxofs:=hint + 1
  for _ in [0:n] do
   if ofs ≥ maxofs then break
   let some found ← byd left key arr base (hint - ofs) | return none
   if found then break
   lastofs:=ofs
   ofs:=2 * ofs + 1
  lo:=hint + 1 - min ofs maxofs
  hi:=hint - lastofs
 for _ in [0:n] do
  if lo ≥ hi then break
  let m:=lo + (hi - lo) / 2
  let some more ← byd left key arr base m | return none
  if more then lo:=m + 1 else hi:=m
 return some hi):=rfl
section
variable {prog:Program} {w:World} {A:Around} {E:Value→Shared→Prop} {s:Shared} [KeyL prog w A s]
theorem wpS_lt {st:SortSt} {x y:Keyed} {Q:Option Bool→SortSt→Prop} (hk:kindOf st = KeyC.kd) (hx:IsIn x) (hy:IsIn y) (h:Q (some (decide (ky x < ky y))) st):wpS (model prog w) A E s (lt' x y) Q st:=KeyL.lt hk hx hy h
theorem wpS_elem {st:SortSt} {arr:Array Keyed} {i:Nat} {x:Keyed} {Q:Keyed→SortSt→Prop} (e:arr[i]? = some x) (h:Q x st):wpS (model prog w) A E s (elem' arr i) Q st:=by
 rw [elem'_eq,e]
 exact wpS_pure h
def bydB (left:Bool) (key x:Keyed):Bool:=if left then decide (ky x < ky key) else !decide (ky key < ky x)
theorem wpS_byd {st:SortSt} {left:Bool} {key x:Keyed} {arr:Array Keyed} {base i:Nat} {Q:Option Bool→SortSt→Prop} (hk:kindOf st = KeyC.kd) (ik:IsIn key) (e:arr[base + i]? = some x) (ix:IsIn x) (h:Q (some (bydB left key x)) st) :
  wpS (model prog w) A E s (byd left key arr base i) Q st:=by
 unfold byd
 refine wpS_bind (wpS_elem e ?_)
 unfold bydB at h
 cases left with
 | true=>exact wpS_lt hk ix ik h
 | false=>exact wpS_bind (wpS_lt hk ik ix (wpS_pure h))
theorem wpS_gallop {st:SortSt} {left:Bool} {key:Keyed} {arr:Array Keyed} {base n hint:Nat} {Q:Option Nat→SortSt→Prop} (b:Nat→Bool)
  (hb:∀ i,i < n→∀ R:Option Bool→SortSt→Prop,R (some (b i)) st→wpS (model prog w) A E s (byd left key arr base i) R st)
  (anti:∀ i j,i≤j→j < n→b j = true→b i = true) (hn:hint < n)
  (h:∀ k,k≤n→(∀ i,i < k→b i = true)→(∀ i,k≤i→i < n→b i = false)→Q (some k) st):wpS (model prog w) A E s (gallop' left key arr base n hint) Q st:=by
 have down:∀ i j,i≤j→j < n→b i = false→b j = false:=fun i j hij hj hi=>by
  cases e:b j with
  | false=>rfl
  | true=>rw [anti i j hij hj e] at hi; cases hi
 have third:∀ lo hi:Nat,lo≤hi→hi≤n→(∀ i,i < lo→b i = true)→(∀ i,hi≤i→i < n→b i = false)→wpS (model prog w) A E s (do
   let mut lo:=lo
   let mut hi:=hi
   for _ in [0:n] do
    if lo ≥ hi then break
    let m:=lo + (hi - lo) / 2
    let some more ← byd left key arr base m | return none
    if more then lo:=m + 1 else hi:=m
   return some hi) Q st:=by
  intro lo hi hlh hhn h1 h2
  dsimp only
  refine wpS_bind (wpS_mono (wpS_forRange (I:=fun x c st'=>st' = st∧∃ l r,c = (none,l,r)∧l≤r∧r≤n∧r - l≤n - x∧(∀ i,i < l→b i = true)∧(∀ i,r≤i→i < n→b i = false))
   (Q:=fun c st'=>st' = st∧∃ l r,c = (none,l,r)∧l = r∧r≤n∧(∀ i,i < l→b i = true)∧(∀ i,r≤i→i < n→b i = false)) ?_ ?_ ⟨rfl,lo,hi,rfl,hlh,hhn,by lia,h1,h2⟩) ?_)
  ·rintro x c st' _ hx ⟨rfl,l,r,rfl,lr,rn,lm,g1,g2⟩
   dsimp only
   by_cases hge:l ≥ r
   ·rw [if_pos hge]
    exact wpS_pure ⟨rfl,l,r,rfl,by lia,rn,g1,g2⟩
   ·rw [if_neg hge]
    refine wpS_bind (hb _ (by lia) _ ?_)
    dsimp only
    cases e:b (l + (r - l) / 2) with
    | true =>
     rw [if_pos rfl]
     exact wpS_pure ⟨rfl,_,r,rfl,by lia,rn,by lia,fun i hi=>anti i _ (by lia) (by lia) e,g2⟩
    | false =>
     rw [if_neg (by decide)]
     exact wpS_pure ⟨rfl,l,_,rfl,by lia,by lia,by lia,g1,fun i h3 h4=>down _ i h3 h4 e⟩
  ·rintro c st' ⟨rfl,l,r,rfl,lr,rn,lm,g1,g2⟩
   exact ⟨rfl,l,r,rfl,by lia,rn,g1,g2⟩
  ·rintro c st' ⟨rfl,l,r,rfl,rfl,rn,g1,g2⟩
   exact wpS_pure (h l rn g1 g2)
 rw [gallop'_eq]
 dsimp only
 refine wpS_bind (hb hint hn _ ?_)
 dsimp only
 cases e:b hint with
 | true =>
  rw [if_pos rfl]
  refine wpS_bind (wpS_mono (wpS_forRange (I:=fun x c st'=>st' = st∧∃ l o,c = (none,l,o)∧l < o∧x < o∧hint + l < n∧b (hint + l) = true)
   (Q:=fun c st'=>st' = st∧∃ l o,c = (none,l,o)∧l < o∧hint + l < n∧b (hint + l) = true∧(n - hint≤o∨(hint + o < n∧b (hint + o) = false))) ?_ ?_ ⟨rfl,0,1,rfl,by lia,by lia,by lia,e⟩) ?_)
  ·rintro x c st' _ hx ⟨rfl,l,o,rfl,lo,xo,ln,bl⟩
   dsimp only
   by_cases hge:o ≥ n - hint
   ·rw [if_pos hge]
    exact wpS_pure ⟨rfl,l,o,rfl,lo,ln,bl,.inl hge⟩
   ·rw [if_neg hge]
    refine wpS_bind (hb _ (by lia) _ ?_)
    dsimp only
    cases e2:b (hint + o) with
    | false =>
     rw [if_pos (show (!false) = true from rfl)]
     exact wpS_pure ⟨rfl,l,o,rfl,lo,ln,bl,.inr ⟨by lia,e2⟩⟩
    | true =>
     rw [if_neg (show ¬ (!true) = true by decide)]
     exact wpS_pure ⟨rfl,o,_,rfl,by lia,by lia,by lia,e2⟩
  ·rintro c st' ⟨rfl,l,o,rfl,lo,xo,ln,bl⟩
   exact ⟨rfl,l,o,rfl,lo,ln,bl,.inl (by lia)⟩
  ·rintro c st' ⟨rfl,l,o,rfl,lo,ln,bl,ho⟩
   dsimp only
   refine third (hint + l + 1) (hint + min o (n - hint)) (by lia) (by lia) (fun i hi=>anti i _ (by lia) ln bl) fun i h1 h2=>?_
   rcases ho with ho | ⟨ho,bo⟩
   ·lia
   ·exact down _ i (by lia) h2 bo
 | false =>
  rw [if_neg (by decide)]
  refine wpS_bind (wpS_mono (wpS_forRange (I:=fun x c st'=>st' = st∧∃ l o,c = (none,l,o)∧l < o∧x < o∧l≤hint∧b (hint - l) = false)
   (Q:=fun c st'=>st' = st∧∃ l o,c = (none,l,o)∧l < o∧l≤hint∧b (hint - l) = false∧(hint + 1≤o∨(o≤hint∧b (hint - o) = true))) ?_ ?_ ⟨rfl,0,1,rfl,by lia,by lia,by lia,e⟩) ?_)
  ·rintro x c st' _ hx ⟨rfl,l,o,rfl,lo,xo,ln,bl⟩
   dsimp only
   by_cases hge:o ≥ hint + 1
   ·rw [if_pos hge]
    exact wpS_pure ⟨rfl,l,o,rfl,lo,ln,bl,.inl hge⟩
   ·rw [if_neg hge]
    refine wpS_bind (hb _ (by lia) _ ?_)
    dsimp only
    cases e2:b (hint - o) with
    | true =>
     rw [if_pos rfl]
     exact wpS_pure ⟨rfl,l,o,rfl,lo,ln,bl,.inr ⟨by lia,e2⟩⟩
    | false =>
     rw [if_neg (by decide)]
     exact wpS_pure ⟨rfl,o,_,rfl,by lia,by lia,by lia,e2⟩
  ·rintro c st' ⟨rfl,l,o,rfl,lo,xo,ln,bl⟩
   exact ⟨rfl,l,o,rfl,lo,ln,bl,.inl (by lia)⟩
  ·rintro c st' ⟨rfl,l,o,rfl,lo,ln,bl,ho⟩
   dsimp only
   refine third (hint + 1 - min o (hint + 1)) (hint - l) (by lia) (by lia) (fun i hi=>?_) fun i h1 h2=>down _ i h1 h2 bl
   rcases ho with ho | ⟨ho,bo⟩
   ·lia
   ·exact anti i (hint - o) (by lia) (by lia) bo
end
end Ow
namespace Ow
open PySem PyProof.Rows
variable [KeyC]
def hasK (k:Int) (p:Keyed):Bool:=ky p == k
def Srt (l:List Keyed):Prop:=l.Pairwise (fun x y=>ky x≤ky y)
theorem srt_le {l:List Keyed} (s:Srt l) {i j:Nat} (h:i≤j) {x y:Keyed} (ex:l[i]? = some x) (ey:l[j]? = some y):ky x≤ky y:=by
 obtain ⟨hi,e1⟩:=List.getElem?_eq_some_iff.mp ex
 obtain ⟨hj,e2⟩:=List.getElem?_eq_some_iff.mp ey
 by_cases e:i = j
 ·subst e
  rw [ex] at ey
  cases ey
  exact Int.le_refl _
 ·have:=List.pairwise_iff_getElem.mp s i j hi hj (by lia)
  rw [e1,e2] at this
  exact this
theorem arr_at (a:Array Keyed) (i:Nat):a[i]? = a.toList[i]?:=by simp
theorem mem_take {l:List Keyed} {n:Nat} {x:Keyed} (h:x ∈ l.take n):∃ i,i < n∧l[i]? = some x:=by
 obtain ⟨i,e⟩:=List.getElem?_of_mem h
 have hi:i < n:=by
  have:=(List.getElem?_eq_some_iff.mp e).1
  rw [List.length_take] at this
  lia
 exact ⟨i,hi,by rw [List.getElem?_take_of_lt hi] at e; exact e⟩
theorem take_snocK {l:List Keyed} {n:Nat} {x:Keyed} (h:l[n]? = some x):l.take (n + 1) = l.take n ++ [x]:=by
 rw [List.take_add_one,h]; rfl
theorem fil_mem {l m n:List Keyed} (h:∀ k,l.filter (hasK k) = m.filter (hasK k) ++ n.filter (hasK k)) {x:Keyed} (hx:x ∈ l):x ∈ m∨x ∈ n:=by
 have:x ∈ l.filter (hasK (ky x)):=List.mem_filter.mpr ⟨hx,by unfold hasK; simp⟩
 rw [h,List.mem_append] at this
 rcases this with h1 | h1
 ·exact .inl (List.mem_filter.mp h1).1
 ·exact .inr (List.mem_filter.mp h1).1
theorem fil_none {l:List Keyed} {k:Int} (h:∀ x ∈ l,ky x ≠ k):l.filter (hasK k) = []:=List.filter_eq_nil_iff.mpr fun x hx=>by
 unfold hasK
 rw [beq_iff_eq]
 exact h x hx
structure MS (a b out:Array Keyed) (ia ib:Nat):Prop where
 srt:Srt out.toList
 fil:∀ k,out.toList.filter (hasK k) = (a.toList.take ia).filter (hasK k) ++ (b.toList.take ib).filter (hasK k)
 s3:∀ i j x y,ia≤i→j < ib→a.toList[i]? = some x→b.toList[j]? = some y→ky y < ky x
 s4:∀ i j x y,i < ia→ib≤j→a.toList[i]? = some x→b.toList[j]? = some y→ky x≤ky y
section
variable {a b out:Array Keyed} {ia ib:Nat}
theorem MS.pushA (m:MS a b out ia ib) (sa:Srt a.toList) (sb:Srt b.toList) {x:Keyed} (ex:a.toList[ia]? = some x) (h:∀ y,b.toList[ib]? = some y→ky x≤ky y):MS a b (out.push x) (ia + 1) ib:=by
 refine ⟨?_,fun k=>?_,fun i j u v h1 h2=>m.s3 i j u v (by lia) h2,fun i j u v h1 h2 eu ev=>?_⟩
 ·rw [Array.toList_push]
  refine List.pairwise_append.mpr ⟨m.srt,List.pairwise_singleton _ _,fun z hz w hw=>?_⟩
  cases List.mem_singleton.mp hw
  rcases fil_mem m.fil hz with hz | hz
  ·obtain ⟨i,hi,e⟩:=mem_take hz
   exact srt_le sa (by lia) e ex
  ·obtain ⟨j,hj,e⟩:=mem_take hz
   exact Int.le_of_lt (m.s3 ia j x z (Nat.le_refl _) hj ex e)
 ·rw [Array.toList_push,List.filter_append,m.fil,take_snocK ex,List.filter_append]
  by_cases hk:ky x = k
  ·rw [fil_none (l:=b.toList.take ib) fun y hy=>by
    obtain ⟨j,hj,e⟩:=mem_take hy
    have:=m.s3 ia j x y (Nat.le_refl _) hj ex e
    lia,List.append_nil,List.append_nil]
  ·rw [fil_none (l:=[x]) fun y hy=>by cases List.mem_singleton.mp hy; exact hk,List.append_nil,List.append_nil]
 ·by_cases e:i < ia
  ·exact m.s4 i j u v e h2 eu ev
  ·obtain rfl:i = ia:=by lia
   rw [ex] at eu
   cases eu
   have hl:=(List.getElem?_eq_some_iff.mp ev).1
   have e0:b.toList[ib]? = some b.toList[ib]:=List.getElem?_eq_getElem (by lia)
   exact Int.le_trans (h _ e0) (srt_le sb h2 e0 ev)
theorem MS.pushB (m:MS a b out ia ib) (sa:Srt a.toList) (sb:Srt b.toList) {y:Keyed} (ey:b.toList[ib]? = some y) (h:∀ x,a.toList[ia]? = some x→ky y < ky x):MS a b (out.push y) ia (ib + 1):=by
 refine ⟨?_,fun k=>?_,fun i j u v h1 h2 eu ev=>?_,fun i j u v h1 h2=>m.s4 i j u v h1 (by lia)⟩
 ·rw [Array.toList_push]
  refine List.pairwise_append.mpr ⟨m.srt,List.pairwise_singleton _ _,fun z hz w hw=>?_⟩
  cases List.mem_singleton.mp hw
  rcases fil_mem m.fil hz with hz | hz
  ·obtain ⟨i,hi,e⟩:=mem_take hz
   exact m.s4 i ib z y hi (Nat.le_refl _) e ey
  ·obtain ⟨j,hj,e⟩:=mem_take hz
   exact srt_le sb (by lia) e ey
 ·rw [Array.toList_push,List.filter_append,m.fil,take_snocK ey,List.filter_append,List.append_assoc]
 ·by_cases e:j < ib
  ·exact m.s3 i j u v h1 e eu ev
  ·obtain rfl:j = ib:=by lia
   rw [ey] at ev
   cases ev
   have hl:=(List.getElem?_eq_some_iff.mp eu).1
   have e0:a.toList[ia]? = some a.toList[ia]:=List.getElem?_eq_getElem (by lia)
   exact Int.lt_of_lt_of_le (h _ e0) (srt_le sa h1 e0 eu)
theorem ext_succ {a:Array Keyed} {i k:Nat} (h:i + k < a.size):a.extract i (i + (k + 1)) = (a.extract i (i + k)).push a[i + k]:=by
 apply Array.toList_inj.mp
 rw [Array.toList_push,Array.toList_extract,Array.toList_extract,List.extract_eq_take_drop,List.extract_eq_take_drop]
 rw [show i + (k + 1) - i = k + 1 by lia,show i + k - i = k by lia,List.take_add_one]
 congr 1
 rw [List.getElem?_drop,← arr_at,getElem?_pos a (i + k) h]
 rfl
theorem ext_zero {a:Array Keyed} {i:Nat}:a.extract i (i + 0) = #[]:=by
 apply Array.toList_inj.mp
 rw [Array.toList_extract,List.extract_eq_take_drop]
 simp
theorem MS.moreA (sa:Srt a.toList) (sb:Srt b.toList) (m:MS a b out ia ib):∀ (k:Nat),ia + k≤a.size→(∀ i x y,ia≤i→i < ia + k→a.toList[i]? = some x→b.toList[ib]? = some y→ky x≤ky y)→MS a b (out ++ a.extract ia (ia + k)) (ia + k) ib
 | 0,_,_=>by rw [ext_zero,Array.append_empty]; exact m
 | k + 1,hk,h=>by
  have ih:=MS.moreA sa sb m k (by lia) fun i x y h1 h2=>h i x y h1 (by lia)
  have e:a.toList[ia + k]? = some a[ia + k]:=by rw [← arr_at]; exact getElem?_pos a _ (by lia)
  rw [ext_succ (by lia),Array.append_push]
  exact ih.pushA sa sb e fun y ey=>h _ _ _ (by lia) (by lia) e ey
theorem MS.moreB (sa:Srt a.toList) (sb:Srt b.toList) (m:MS a b out ia ib):∀ (k:Nat),ib + k≤b.size→(∀ j x y,ib≤j→j < ib + k→a.toList[ia]? = some x→b.toList[j]? = some y→ky y < ky x)→MS a b (out ++ b.extract ib (ib + k)) ia (ib + k)
 | 0,_,_=>by rw [ext_zero,Array.append_empty]; exact m
 | k + 1,hk,h=>by
  have ih:=MS.moreB sa sb m k (by lia) fun i x y h1 h2=>h i x y h1 (by lia)
  have e:b.toList[ib + k]? = some b[ib + k]:=by rw [← arr_at]; exact getElem?_pos b _ (by lia)
  rw [ext_succ (by lia),Array.append_push]
  exact ih.pushB sa sb e fun x ex=>h _ _ _ (by lia) (by lia) ex e
def Mgd (a b m:Array Keyed):Prop:=Srt m.toList∧∀ k,m.toList.filter (hasK k) = a.toList.filter (hasK k) ++ b.toList.filter (hasK k)
theorem MS.all (m:MS a b out a.size b.size):Mgd a b out:=⟨m.srt,fun k=>by
 have:=m.fil k
 rwa [List.take_of_length_le (by simp),List.take_of_length_le (by simp)] at this⟩
theorem none_at {a:Array Keyed} {i:Nat} (h:a.size≤i):a.toList[i]? = none:=List.getElem?_eq_none (by simpa using h)
theorem MS.endB (sa:Srt a.toList) (sb:Srt b.toList) (m:MS a b out ia b.size) (h:ia≤a.size):Mgd a b (out ++ a.extract ia a.size ++ b.extract b.size b.size):=by
 have z:=m.moreA sa sb (a.size - ia) (by lia) fun i x y _ _ _ e=>by rw [none_at (Nat.le_refl _)] at e; cases e
 rw [show ia + (a.size - ia) = a.size by lia] at z
 have z2:=z.moreB sa sb 0 (by lia) fun j x y h1 h2=>by lia
 exact z2.all
theorem MS.endA (sa:Srt a.toList) (sb:Srt b.toList) (m:MS a b out a.size ib) (h:ib≤b.size):Mgd a b (out ++ a.extract a.size a.size ++ b.extract ib b.size):=by
 have z:=m.moreA sa sb 0 (by lia) fun i x y h1 h2=>by lia
 have z2:=z.moreB sa sb (b.size - ib) (by lia) fun j x y _ _ e=>by rw [Nat.add_zero,none_at (Nat.le_refl _)] at e; cases e
 rw [show ib + (b.size - ib) = b.size by lia] at z2
 exact z2.all
theorem MS.lastA (sa:Srt a.toList) (sb:Srt b.toList) (m:MS a b out ia ib) (h:ib≤b.size) (e:ia + 1 = a.size) (lst:∀ (j:Nat) x y,a.toList[a.size - 1]? = some x→b.toList[j]? = some y→ky y < ky x):Mgd a b (out ++ b.extract ib b.size ++ a.extract ia a.size):=by
 have z:=m.moreB sa sb (b.size - ib) (by lia) fun j x y _ _ ex ey=>lst j x y (by rw [show a.size - 1 = ia by lia]; exact ex) ey
 rw [show ib + (b.size - ib) = b.size by lia] at z
 have z2:=z.moreA sa sb (a.size - ia) (by lia) fun i x y _ _ _ e=>by rw [none_at (Nat.le_refl _)] at e; cases e
 rw [show ia + (a.size - ia) = a.size by lia] at z2
 exact z2.all
end
def Ints (a:Array Keyed):Prop:=∀ p ∈ a.toList,IsIn p
theorem Ints.at {a:Array Keyed} (h:Ints a) {i:Nat} (hi:i < a.size):∃ x,a[i]? = some x∧a.toList[i]? = some x∧IsIn x:=⟨a[i],getElem?_pos a i hi,by rw [← arr_at]; exact getElem?_pos a i hi,h _ (by simp)⟩
section
variable {prog:Program} {w:World} {A:Around} {E:Value→Shared→Prop} {s:Shared} [KeyL prog w A s]
theorem wpS_galR {st:SortSt} {key:Keyed} {arr:Array Keyed} {base n hint:Nat} {Q:Option Nat→SortSt→Prop} (hk:kindOf st = KeyC.kd) (ik:IsIn key) (ia:Ints arr) (hs:∀ i j x y,base≤i→i≤j→j < base + n→arr.toList[i]? = some x→arr.toList[j]? = some y→ky x≤ky y) (hz:base + n≤arr.size) (hn:hint < n)
  (h:∀ k,k≤n→(∀ i x,base≤i→i < base + k→arr.toList[i]? = some x→ky x≤ky key)→(∀ i x,base + k≤i→i < base + n→arr.toList[i]? = some x→ky key < ky x)→Q (some k) st):wpS (model prog w) A E s (gallop' false key arr base n hint) Q st:=by
 have g:∀ i,i < n→∃ x,arr[base + i]? = some x∧arr.toList[base + i]? = some x∧IsIn x:=fun i hi=>ia.at (by lia)
 refine wpS_gallop (fun i=>match arr[base + i]? with | some x=>bydB false key x | none=>false) (fun i hi R hR=>?_) (fun i j hij hj=>?_) hn fun k hk' h1 h2=>h k hk' (fun i x a1 a2 ex=>?_) fun i x a1 a2 ex=>?_
 ·obtain ⟨x,e1,e2,ix⟩:=g i hi
  try dsimp only at hR
  rw [e1] at hR
  exact wpS_byd hk ik e1 ix hR
 ·obtain ⟨x,e1,e2,ix⟩:=g i (by lia)
  obtain ⟨y,f1,f2,iy⟩:=g j hj
  try dsimp only
  rw [e1,f1]
  show (!decide (ky key < ky y)) = true→(!decide (ky key < ky x)) = true
  have:=hs (base + i) (base + j) x y (by lia) (by lia) (by lia) e2 f2
  simp
  lia
 ·have z:=h1 (i - base) (by lia)
  try dsimp only at z
  rw [show base + (i - base) = i by lia,arr_at,ex] at z
  have z:(!decide (ky key < ky x)) = true:=z
  simp at z
  lia
 ·have z:=h2 (i - base) (by lia) (by lia)
  try dsimp only at z
  rw [show base + (i - base) = i by lia,arr_at,ex] at z
  have z:(!decide (ky key < ky x)) = false:=z
  simp at z
  lia
theorem wpS_galL {st:SortSt} {key:Keyed} {arr:Array Keyed} {base n hint:Nat} {Q:Option Nat→SortSt→Prop} (hk:kindOf st = KeyC.kd) (ik:IsIn key) (ia:Ints arr) (hs:∀ i j x y,base≤i→i≤j→j < base + n→arr.toList[i]? = some x→arr.toList[j]? = some y→ky x≤ky y) (hz:base + n≤arr.size) (hn:hint < n)
  (h:∀ k,k≤n→(∀ i x,base≤i→i < base + k→arr.toList[i]? = some x→ky x < ky key)→(∀ i x,base + k≤i→i < base + n→arr.toList[i]? = some x→ky key≤ky x)→Q (some k) st):wpS (model prog w) A E s (gallop' true key arr base n hint) Q st:=by
 have g:∀ i,i < n→∃ x,arr[base + i]? = some x∧arr.toList[base + i]? = some x∧IsIn x:=fun i hi=>ia.at (by lia)
 refine wpS_gallop (fun i=>match arr[base + i]? with | some x=>bydB true key x | none=>false) (fun i hi R hR=>?_) (fun i j hij hj=>?_) hn fun k hk' h1 h2=>h k hk' (fun i x a1 a2 ex=>?_) fun i x a1 a2 ex=>?_
 ·obtain ⟨x,e1,e2,ix⟩:=g i hi
  try dsimp only at hR
  rw [e1] at hR
  exact wpS_byd hk ik e1 ix hR
 ·obtain ⟨x,e1,e2,ix⟩:=g i (by lia)
  obtain ⟨y,f1,f2,iy⟩:=g j hj
  try dsimp only
  rw [e1,f1]
  show decide (ky y < ky key) = true→decide (ky x < ky key) = true
  have:=hs (base + i) (base + j) x y (by lia) (by lia) (by lia) e2 f2
  simp
  lia
 ·have z:=h1 (i - base) (by lia)
  try dsimp only at z
  rw [show base + (i - base) = i by lia,arr_at,ex] at z
  have z:decide (ky x < ky key) = true:=z
  simp at z
  lia
 ·have z:=h2 (i - base) (by lia) (by lia)
  try dsimp only at z
  rw [show base + (i - base) = i by lia,arr_at,ex] at z
  have z:decide (ky x < ky key) = false:=z
  simp at z
  lia
end
end Ow
namespace Ow
open PySem PyProof.Rows
variable [KeyC]
abbrev setGallop (st:SortSt) (g:Nat):SortSt:=SortSt.mk' (kindOf st) (arrOf st) (pendingOf st) g (failedOf st)
def setMinGallop':Nat→StateT SortSt Sem Unit:=sortPriv% PySem.Builtin.setMinGallop
theorem setMinGallop'_eq (g:Nat):setMinGallop' g = modify fun st=>setGallop st g:=rfl
def mergeLo':Array Keyed→Array Keyed→StateT SortSt Sem (Array Keyed):=sortPriv% PySem.Builtin.mergeLo
theorem mergeLo'_eq (a b:Array Keyed):mergeLo' a b = (do
 rule "list.sort.merge-lo"
 let total:=a.size + b.size
 let done (out:Array Keyed) (ia ib:Nat):=out ++ a.extract ia a.size ++ b.extract ib b.size
 let lastOfA (out:Array Keyed) (ia ib:Nat):=out ++ b.extract ib b.size ++ a.extract ia a.size
 let mut out:Array Keyed:=#[← elem' b 0]
 let mut ia:=0
 let mut ib:=1
 if ib == b.size then return done out ia ib
 if ia + 1 == a.size then return lastOfA out ia ib
 let mut minGallop:=gallopOf (← get)
 for _ in [0:total] do
  let mut acount:=0
  let mut bcount:=0
  for _ in [0:total] do
   let some bWins ← lt' (← elem' b ib) (← elem' a ia) | return done out ia ib
   if bWins then
    out:=out.push (← elem' b ib); ib:=ib + 1; bcount:=bcount + 1; acount:=0
    if ib == b.size then return done out ia ib
    if bcount ≥ minGallop then break
   else
    out:=out.push (← elem' a ia); ia:=ia + 1; acount:=acount + 1; bcount:=0
    if ia + 1 == a.size then return lastOfA out ia ib
    if acount ≥ minGallop then break
  rule "list.sort.gallop"
  minGallop:=minGallop + 1
  for _ in [0:total] do
   if minGallop > 1 then minGallop:=minGallop - 1
   setMinGallop' minGallop
   let some k ← gallop' false (← elem' b ib) a ia (a.size - ia) 0 | return done out ia ib
   acount:=k
   if k > 0 then
    out:=out ++ a.extract ia (ia + k); ia:=ia + k
    if ia + 1 == a.size then return lastOfA out ia ib
    if ia == a.size then return done out ia ib
   out:=out.push (← elem' b ib); ib:=ib + 1
   if ib == b.size then return done out ia ib
   let some k ← gallop' true (← elem' a ia) b ib (b.size - ib) 0 | return done out ia ib
   bcount:=k
   if k > 0 then
    out:=out ++ b.extract ib (ib + k); ib:=ib + k
    if ib == b.size then return done out ia ib
   out:=out.push (← elem' a ia); ia:=ia + 1
   if ia + 1 == a.size then return lastOfA out ia ib
   if acount < 7 && bcount < 7 then break
  minGallop:=minGallop + 1
  setMinGallop' minGallop
 unsupported "internal:list.sort.merge-bound"):=rfl
structure Sim (st st':SortSt):Prop where
 kind:kindOf st' = kindOf st
 arr:arrOf st' = arrOf st
 pend:pendingOf st' = pendingOf st
 failed:failedOf st' = failedOf st
theorem Sim.refl (st:SortSt):Sim st st:=⟨rfl,rfl,rfl,rfl⟩
theorem Sim.set {st st':SortSt} (h:Sim st st') (g:Nat):Sim st (setGallop st' g):=⟨h.kind,h.arr,h.pend,h.failed⟩
theorem beqT {a b:Nat} (h:a = b):(a == b) = true:=by rw [h]; simp
theorem beqF {a b:Nat} (h:a ≠ b):¬ (a == b) = true:=by simpa using h
theorem ms0 {a b:Array Keyed}:MS a b #[] 0 0:=⟨List.Pairwise.nil,fun k=>rfl,fun i j x y h1 h2=>by lia,fun i j x y h1 h2=>by lia⟩
abbrev LoT:=Option (Array Keyed) × Array Keyed × Nat × Nat × Nat × Nat × Nat
def loZ (a b o:Array Keyed) (i j g k k1:Nat):StateT SortSt Sem (ForInStep LoT):=do
 let l ← elem' a i
 if i + 1 + 1 == a.size then pure (.done (some (o.push l ++ b.extract j b.size ++ a.extract (i + 1) a.size),o.push l,i + 1,j,g,k,k1))
 else if (decide (k < 7) && decide (k1 < 7)) = true then pure (.done (none,o.push l,i + 1,j,g,k,k1))
 else pure (.yield (none,o.push l,i + 1,j,g,k,k1))
def loY (a b o:Array Keyed) (i j g k bc:Nat):StateT SortSt Sem (ForInStep LoT):=do
 let l ← elem' b j
 if j + 1 == b.size then pure (.done (some (o.push l ++ a.extract i a.size ++ b.extract (j + 1) b.size),o.push l,i,j + 1,g,k,bc))
 else do
  let x ← elem' a i
  let r ← gallop' true x b (j + 1) (b.size - (j + 1)) 0
  match r with
  | some k1 =>
   if k1 > 0 then
    if j + 1 + k1 == b.size then pure (.done (some (o.push l ++ b.extract (j + 1) (j + 1 + k1) ++ a.extract i a.size ++ b.extract (j + 1 + k1) b.size),o.push l ++ b.extract (j + 1) (j + 1 + k1),i,j + 1 + k1,g,k,k1))
    else loZ a b (o.push l ++ b.extract (j + 1) (j + 1 + k1)) i (j + 1 + k1) g k k1
   else loZ a b (o.push l) i (j + 1) g k k1
  | _=>pure (.done (some (o.push l ++ a.extract i a.size ++ b.extract (j + 1) b.size),o.push l,i,j + 1,g,k,bc))
def loX (a b o:Array Keyed) (i j g ac bc:Nat):StateT SortSt Sem (ForInStep LoT):=do
 setMinGallop' g
 let y ← elem' b j
 let r ← gallop' false y a i (a.size - i) 0
 match r with
 | some k =>
  if k > 0 then
   if i + k + 1 == a.size then pure (.done (some (o ++ a.extract i (i + k) ++ b.extract j b.size ++ a.extract (i + k) a.size),o ++ a.extract i (i + k),i + k,j,g,k,bc))
   else if i + k == a.size then pure (.done (some (o ++ a.extract i (i + k) ++ a.extract (i + k) a.size ++ b.extract j b.size),o ++ a.extract i (i + k),i + k,j,g,k,bc))
   else loY a b (o ++ a.extract i (i + k)) (i + k) j g k bc
  else loY a b o i j g k bc
 | _=>pure (.done (some (o ++ a.extract i a.size ++ b.extract j b.size),o,i,j,g,ac,bc))
section
variable {prog:Program} {w:World} {A:Around} {E:Value→Shared→Prop} {s:Shared} [KeyL prog w A s]
structure LoP (st:SortSt) (a b:Array Keyed) (n:Nat) (P:ForInStep LoT→SortSt→Prop):Prop where
 dn:∀ m d st',Sim st st'→Mgd a b m→P (.done (some m,d)) st'
 go:∀ o i j g k k1 st',Sim st st'→MS a b o i j→i + 1 < a.size→j < b.size→n≤i + j→P (.done (none,o,i,j,g,k,k1)) st'∧P (.yield (none,o,i,j,g,k,k1)) st'
section
variable {st st':SortSt} {a b o:Array Keyed} {i j g k k1 bc ac n:Nat} {P:ForInStep LoT→SortSt→Prop}
theorem wpS_loZ (hp:LoP st a b n P) (sm:Sim st st') (sa:Srt a.toList) (sb:Srt b.toList) (na:Ints a) (lst:∀ (j:Nat) x y,a.toList[a.size - 1]? = some x→b.toList[j]? = some y→ky y < ky x) (ms:MS a b o i j) (hi:i + 1 < a.size) (hj:j < b.size) (le:∀ x y,a.toList[i]? = some x→b.toList[j]? = some y→ky x≤ky y) (hn:n≤i + 1 + j) :
  wpS (model prog w) A E s (loZ a b o i j g k k1) P st':=by
 unfold loZ
 obtain ⟨x,a1,a2,ix⟩:=na.at (show i < a.size by lia)
 refine wpS_bind (wpS_elem a1 ?_)
 have ms2:=ms.pushA sa sb a2 fun y ey=>le x y a2 ey
 by_cases c3:i + 1 + 1 = a.size
 ·rw [if_pos (beqT c3)]
  exact wpS_pure (hp.dn _ _ _ sm (ms2.lastA sa sb (by lia) c3 lst))
 rw [if_neg (beqF c3)]
 split
 ·exact wpS_pure (hp.go _ _ _ _ _ _ _ sm ms2 (by lia) hj (by lia)).1
 ·exact wpS_pure (hp.go _ _ _ _ _ _ _ sm ms2 (by lia) hj (by lia)).2
theorem wpS_loY (hk:kindOf st = KeyC.kd) (hp:LoP st a b n P) (sm:Sim st st') (sa:Srt a.toList) (sb:Srt b.toList) (na:Ints a) (nb:Ints b) (lst:∀ (j:Nat) x y,a.toList[a.size - 1]? = some x→b.toList[j]? = some y→ky y < ky x) (ms:MS a b o i j) (hi:i + 1 < a.size) (hj:j < b.size) (lt:∀ x y,a.toList[i]? = some x→b.toList[j]? = some y→ky y < ky x) (hn:n≤i + 1 + j) :
  wpS (model prog w) A E s (loY a b o i j g k bc) P st':=by
 unfold loY
 obtain ⟨y,b1,b2,iy⟩:=nb.at hj
 obtain ⟨x,a1,a2,ix⟩:=na.at (show i < a.size by lia)
 refine wpS_bind (wpS_elem b1 ?_)
 have ms2:=ms.pushB sa sb b2 fun x ex=>lt x y ex b2
 by_cases c3:j + 1 = b.size
 ·rw [if_pos (beqT c3)]
  rw [c3] at ms2 ⊢
  exact wpS_pure (hp.dn _ _ _ sm (ms2.endB sa sb (by lia)))
 rw [if_neg (beqF c3)]
 refine wpS_bind (wpS_elem a1 (wpS_bind (wpS_galL (by rw [sm.kind]; exact hk) ix nb (fun i j x y _ h1 _ e1 e2=>srt_le sb h1 e1 e2) (by lia) (by lia) fun k2 hk2 g1 g2=>?_)))
 dsimp only
 have ms3:=ms2.moreB sa sb k2 (by lia) fun j' x' y' h1 h2 ex ey=>by rw [a2] at ex; cases ex; exact g1 j' y' h1 h2 ey
 have le3:∀ x' y',a.toList[i]? = some x'→b.toList[j + 1 + k2]? = some y'→ky x'≤ky y':=fun x' y' ex ey=>by
  rw [a2] at ex
  cases ex
  exact g2 _ y' (Nat.le_refl _) (by have:=(List.getElem?_eq_some_iff.mp ey).1; rw [Array.length_toList] at this; lia) ey
 by_cases c4:k2 > 0
 ·rw [if_pos c4]
  by_cases c5:j + 1 + k2 = b.size
  ·rw [if_pos (beqT c5)]
   rw [c5] at ms3 ⊢
   exact wpS_pure (hp.dn _ _ _ sm (ms3.endB sa sb (by lia)))
  ·rw [if_neg (beqF c5)]
   exact wpS_loZ hp sm sa sb na lst ms3 hi (by lia) le3 (by lia)
 ·rw [if_neg c4]
  obtain rfl:k2 = 0:=by lia
  exact wpS_loZ hp sm sa sb na lst ms2 hi (by lia) le3 (by lia)
theorem wpS_loX (hk:kindOf st = KeyC.kd) (hp:LoP st a b n P) (sm:Sim st st') (sa:Srt a.toList) (sb:Srt b.toList) (na:Ints a) (nb:Ints b) (lst:∀ (j:Nat) x y,a.toList[a.size - 1]? = some x→b.toList[j]? = some y→ky y < ky x) (ms:MS a b o i j) (hi:i + 1 < a.size) (hj:j < b.size) (hn:n≤i + 1 + j) :
  wpS (model prog w) A E s (loX a b o i j g ac bc) P st':=by
 unfold loX
 rw [setMinGallop'_eq]
 refine wpS_bind (wpS_modify ?_)
 obtain ⟨y,b1,b2,iy⟩:=nb.at hj
 have sm2:=sm.set g
 refine wpS_bind (wpS_elem b1 (wpS_bind (wpS_galR (by rw [sm2.kind]; exact hk) iy na (fun i j x y _ h1 _ e1 e2=>srt_le sa h1 e1 e2) (by lia) (by lia) fun k2 hk2 g1 g2=>?_)))
 dsimp only
 have ms3:=ms.moreA sa sb k2 (by lia) fun i' x' y' h1 h2 ex ey=>by rw [b2] at ey; cases ey; exact g1 i' x' h1 h2 ex
 have lt3:∀ x' y',a.toList[i + k2]? = some x'→b.toList[j]? = some y'→ky y' < ky x':=fun x' y' ex ey=>by
  rw [b2] at ey
  cases ey
  exact g2 _ x' (Nat.le_refl _) (by have:=(List.getElem?_eq_some_iff.mp ex).1; rw [Array.length_toList] at this; lia) ex
 by_cases c4:k2 > 0
 ·rw [if_pos c4]
  by_cases c5:i + k2 + 1 = a.size
  ·rw [if_pos (beqT c5)]
   exact wpS_pure (hp.dn _ _ _ sm2 (ms3.lastA sa sb (by lia) c5 lst))
  rw [if_neg (beqF c5)]
  by_cases c6:i + k2 = a.size
  ·rw [if_pos (beqT c6)]
   rw [c6] at ms3 ⊢
   exact wpS_pure (hp.dn _ _ _ sm2 (ms3.endA sa sb (by lia)))
  ·rw [if_neg (beqF c6)]
   exact wpS_loY hk hp sm2 sa sb na nb lst ms3 (by lia) hj lt3 (by lia)
 ·rw [if_neg c4]
  obtain rfl:k2 = 0:=by lia
  exact wpS_loY hk hp sm2 sa sb na nb lst ms hi hj lt3 hn
end
theorem wpS_mergeLo {st:SortSt} {a b:Array Keyed} {Q:Array Keyed→SortSt→Prop} (hk:kindOf st = KeyC.kd) (sa:Srt a.toList) (sb:Srt b.toList) (na:Ints a) (nb:Ints b) (za:0 < a.size) (zb:0 < b.size)
  (fst:∀ x y,a.toList[0]? = some x→b.toList[0]? = some y→ky y < ky x) (lst:∀ (j:Nat) x y,a.toList[a.size - 1]? = some x→b.toList[j]? = some y→ky y < ky x)
  (h:∀ m st',Sim st st'→Mgd a b m→Q m st'):wpS (model prog w) A E s (mergeLo' a b) Q st:=by
 have srtA:∀ (base n:Nat) (i j:Nat) x y,base≤i→i≤j→j < base + n→a.toList[i]? = some x→a.toList[j]? = some y→ky x≤ky y:=fun _ _ i j x y _ h1 _ e1 e2=>srt_le sa h1 e1 e2
 have srtB:∀ (base n:Nat) (i j:Nat) x y,base≤i→i≤j→j < base + n→b.toList[i]? = some x→b.toList[j]? = some y→ky x≤ky y:=fun _ _ i j x y _ h1 _ e1 e2=>srt_le sb h1 e1 e2
 rw [mergeLo'_eq]
 refine wpS_bind (wpS_lift (wpAny_rule ⟨rfl,?_⟩))
 obtain ⟨y0,e1,e2,iy⟩:=nb.at zb
 refine wpS_bind (wpS_elem e1 ?_)
 dsimp only
 have m0:MS a b #[y0] 0 1:=ms0.pushB sa sb e2 fun x ex=>fst x y0 ex e2
 by_cases c1:1 = b.size
 ·rw [if_pos (beqT c1)]
  refine wpS_pure (h _ _ (Sim.refl _) ?_)
  rw [c1]
  rw [c1] at m0
  exact m0.endB sa sb (by lia)
 rw [if_neg (beqF c1)]
 by_cases c2:0 + 1 = a.size
 ·rw [if_pos (beqT c2)]
  exact wpS_pure (h _ _ (Sim.refl _) (m0.lastA sa sb (by lia) c2 lst))
 rw [if_neg (beqF c2)]
 refine wpS_bind (wpS_get ?_)
 refine wpS_bind (wpS_mono (wpS_forRange
  (I:=fun x c st'=>Sim st st'∧∃ out i j g,c = (none,out,i,j,g)∧MS a b out i j∧i + 1 < a.size∧j < b.size∧x + 1≤i + j)
  (Q:=fun c st'=>Sim st st'∧∃ m d,c = (some m,d)∧Mgd a b m) ?_ ?_ ⟨Sim.refl _,_,_,_,_,rfl,m0,by lia,by lia,by lia⟩) ?_)
 ·rintro x c st' _ hx ⟨sm,out,i,j,g,rfl,ms,hi,hj,px⟩
  dsimp only
  refine wpS_bind (wpS_mono (wpS_forRange
   (I:=fun y c st''=>Sim st st''∧∃ out i' j' ac bc,c = (none,out,i',j',ac,bc)∧MS a b out i' j'∧i' + 1 < a.size∧j' < b.size∧i + j + y≤i' + j')
   (Q:=fun c st''=>Sim st st''∧((∃ m d,c = (some m,d)∧Mgd a b m)∨∃ out i' j' ac bc,c = (none,out,i',j',ac,bc)∧MS a b out i' j'∧i' + 1 < a.size∧j' < b.size∧i + j + 1≤i' + j')) ?_ ?_ ⟨sm,_,_,_,_,_,rfl,ms,hi,hj,by lia⟩) ?_)
  ·rintro y c st'' _ hy ⟨sm,out,i',j',ac,bc,rfl,ms,hi,hj,py⟩
   dsimp only
   obtain ⟨yb,b1,b2,ib⟩:=nb.at hj
   obtain ⟨xa,a1,a2,ia⟩:=na.at (show i' < a.size by lia)
   refine wpS_bind (wpS_elem b1 (wpS_bind (wpS_elem a1 (wpS_bind (wpS_lt (by rw [sm.kind]; exact hk) ib ia ?_)))))
   dsimp only
   by_cases cw:ky yb < ky xa
   ·rw [if_pos (decide_eq_true cw)]
    refine wpS_bind (wpS_elem b1 ?_)
    try dsimp only
    have ms2:=ms.pushB sa sb b2 fun x ex=>by rw [a2] at ex; cases ex; exact cw
    by_cases c3:j' + 1 = b.size
    ·rw [if_pos (beqT c3)]
     rw [c3] at ms2 ⊢
     exact wpS_pure ⟨sm,.inl ⟨_,_,rfl,ms2.endB sa sb (by lia)⟩⟩
    rw [if_neg (beqF c3)]
    split
    ·exact wpS_pure ⟨sm,.inr ⟨_,_,_,_,_,rfl,ms2,hi,by lia,by lia⟩⟩
    ·exact wpS_pure ⟨sm,_,_,_,_,_,rfl,ms2,hi,by lia,by lia⟩
   ·rw [if_neg (by rw [decide_eq_true_eq]; exact cw)]
    refine wpS_bind (wpS_elem a1 ?_)
    try dsimp only
    have ms2:=ms.pushA sa sb a2 fun y ey=>by rw [b2] at ey; cases ey; lia
    by_cases c3:i' + 1 + 1 = a.size
    ·rw [if_pos (beqT c3)]
     exact wpS_pure ⟨sm,.inl ⟨_,_,rfl,ms2.lastA sa sb (by lia) c3 lst⟩⟩
    rw [if_neg (beqF c3)]
    split
    ·exact wpS_pure ⟨sm,.inr ⟨_,_,_,_,_,rfl,ms2,by lia,hj,by lia⟩⟩
    ·exact wpS_pure ⟨sm,_,_,_,_,_,rfl,ms2,by lia,hj,by lia⟩
  ·rintro c st'' ⟨sm,out,i',j',ac,bc,rfl,ms,hi,hj,py⟩
   lia
  ·rintro c st'' ⟨sm,⟨m,d,rfl,hm⟩ | ⟨out,i',j',ac,bc,rfl,ms,hi,hj,py⟩⟩
   ·dsimp only
    exact wpS_pure ⟨sm,m,_,rfl,hm⟩
   dsimp only
   refine wpS_bind (wpS_lift (wpAny_rule ⟨rfl,?_⟩))
   refine wpS_bind (wpS_mono (wpS_forRange
    (I:=fun y c st''=>Sim st st''∧∃ out i2 j2 g ac bc,c = (none,out,i2,j2,g,ac,bc)∧MS a b out i2 j2∧i2 + 1 < a.size∧j2 < b.size∧i' + j' + y≤i2 + j2)
    (Q:=fun c st''=>Sim st st''∧((∃ m d,c = (some m,d)∧Mgd a b m)∨∃ out i2 j2 g ac bc,c = (none,out,i2,j2,g,ac,bc)∧MS a b out i2 j2∧i2 + 1 < a.size∧j2 < b.size∧i' + j'≤i2 + j2)) ?_ ?_ ⟨sm,_,_,_,_,_,_,rfl,ms,hi,hj,by lia⟩) ?_)
   ·rintro y c st3 _ hy ⟨sm,out,i2,j2,g,ac,bc,rfl,ms,hi,hj,py⟩
    dsimp only
    show wpS _ _ _ _ (if g > 1 then loX a b out i2 j2 (g - 1) ac bc else loX a b out i2 j2 g ac bc) _ _
    have hp:LoP st a b (i' + j' + y + 1) (fun r st'_1=>match r with
     | ForInStep.done c'=>Sim st st'_1∧((∃ m d,c' = (some m,d)∧Mgd a b m)∨∃ out i2 j2 g ac bc,c' = (none,out,i2,j2,g,ac,bc)∧MS a b out i2 j2∧i2 + 1 < a.size∧j2 < b.size∧i' + j'≤i2 + j2)
     | ForInStep.yield c'=>Sim st st'_1∧∃ out i2 j2 g ac bc,c' = (none,out,i2,j2,g,ac,bc)∧MS a b out i2 j2∧i2 + 1 < a.size∧j2 < b.size∧i' + j' + (y + 1)≤i2 + j2) :=
     ⟨fun m d st' q1 q2=>⟨q1,.inl ⟨m,d,rfl,q2⟩⟩,fun o i j g k k1 st' q1 q2 q3 q4 q5=>⟨⟨q1,.inr ⟨o,i,j,g,k,k1,rfl,q2,q3,q4,by lia⟩⟩,⟨q1,o,i,j,g,k,k1,rfl,q2,q3,q4,by lia⟩⟩⟩
    split
    ·exact wpS_mono (wpS_loX (n:=i' + j' + y + 1) hk hp sm sa sb na nb lst ms hi hj (by lia)) fun r st' z=>by cases r <;> exact z
    ·exact wpS_mono (wpS_loX (n:=i' + j' + y + 1) hk hp sm sa sb na nb lst ms hi hj (by lia)) fun r st' z=>by cases r <;> exact z
   ·rintro c st3 ⟨sm,out,i2,j2,g,ac,bc,rfl,ms,hi,hj,py⟩
    lia
   ·rintro c st3 ⟨sm,⟨m,d,rfl,hm⟩ | ⟨out,i2,j2,g,ac,bc,rfl,ms,hi,hj,py⟩⟩
    ·dsimp only
     exact wpS_pure ⟨sm,m,_,rfl,hm⟩
    dsimp only
    rw [setMinGallop'_eq]
    exact wpS_bind (wpS_modify (wpS_pure ⟨sm.set _,_,_,_,_,rfl,ms,hi,hj,by lia⟩))
 ·rintro c st' ⟨sm,out,i,j,g,rfl,ms,hi,hj,px⟩
  lia
 ·rintro c st' ⟨sm,m,d,rfl,hm⟩
  dsimp only
  exact wpS_pure (h m st' sm hm)
end
end Ow
namespace Ow
open PySem PyProof.Rows
variable [KeyC]
def mergeHi':Array Keyed→Array Keyed→StateT SortSt Sem (Array Keyed):=sortPriv% PySem.Builtin.mergeHi
theorem mergeHi'_eq (a b:Array Keyed):mergeHi' a b = (do
 rule "list.sort.merge-hi"
 let total:=a.size + b.size
 let done (out:Array Keyed) (na nb:Nat):=a.extract 0 na ++ b.extract 0 nb ++ out.reverse
 let firstOfB (out:Array Keyed) (na nb:Nat):=b.extract 0 nb ++ a.extract 0 na ++ out.reverse
 let mut na:=a.size - 1
 let mut nb:=b.size
 let mut out:Array Keyed:=#[← elem' a na]
 if na == 0 then return done out na nb
 if nb == 1 then return firstOfB out na nb
 let mut minGallop:=gallopOf (← get)
 for _ in [0:total] do
  let mut acount:=0
  let mut bcount:=0
  for _ in [0:total] do
   let some aWins ← lt' (← elem' b (nb - 1)) (← elem' a (na - 1)) | return done out na nb
   if aWins then
    na:=na - 1; out:=out.push (← elem' a na); acount:=acount + 1; bcount:=0
    if na == 0 then return done out na nb
    if acount ≥ minGallop then break
   else
    nb:=nb - 1; out:=out.push (← elem' b nb); bcount:=bcount + 1; acount:=0
    if nb == 1 then return firstOfB out na nb
    if bcount ≥ minGallop then break
  rule "list.sort.gallop"
  minGallop:=minGallop + 1
  for _ in [0:total] do
   if minGallop > 1 then minGallop:=minGallop - 1
   setMinGallop' minGallop
   let some at_ ← gallop' false (← elem' b (nb - 1)) a 0 na (na - 1) | return done out na nb
   let k:=na - at_
   acount:=k
   if k > 0 then
    out:=out ++ (a.extract at_ na).reverse; na:=at_
    if na == 0 then return done out na nb
   nb:=nb - 1; out:=out.push (← elem' b nb)
   if nb == 1 then return firstOfB out na nb
   let some at_ ← gallop' true (← elem' a (na - 1)) b 0 nb (nb - 1) | return done out na nb
   let k:=nb - at_
   bcount:=k
   if k > 0 then
    out:=out ++ (b.extract at_ nb).reverse; nb:=at_
    if nb == 1 then return firstOfB out na nb
    if nb == 0 then return done out na nb
   na:=na - 1; out:=out.push (← elem' a na)
   if na == 0 then return done out na nb
   if acount < 7 && bcount < 7 then break
  minGallop:=minGallop + 1
  setMinGallop' minGallop
 unsupported "internal:list.sort.merge-bound"):=rfl
structure MH (a b out:Array Keyed) (na nb:Nat):Prop where
 srt:Srt out.toList.reverse
 fil:∀ k,out.toList.reverse.filter (hasK k) = (a.toList.drop na).filter (hasK k) ++ (b.toList.drop nb).filter (hasK k)
 s3:∀ i j x y,na≤i→j < nb→a.toList[i]? = some x→b.toList[j]? = some y→ky y < ky x
 s4:∀ i j x y,i < na→nb≤j→a.toList[i]? = some x→b.toList[j]? = some y→ky x≤ky y
theorem mem_drop {l:List Keyed} {n:Nat} {x:Keyed} (h:x ∈ l.drop n):∃ i,n≤i∧l[i]? = some x:=by
 obtain ⟨i,e⟩:=List.getElem?_of_mem h
 rw [List.getElem?_drop] at e
 exact ⟨n + i,by lia,e⟩
theorem drop_cons {l:List Keyed} {n:Nat} {x:Keyed} (h:l[n]? = some x):l.drop n = x :: l.drop (n + 1):=by
 obtain ⟨hn,e⟩:=List.getElem?_eq_some_iff.mp h
 rw [List.drop_eq_getElem_cons hn,e]
section
variable {a b out:Array Keyed} {na nb:Nat}
theorem MH.pushA (m:MH a b out (na + 1) nb) (sa:Srt a.toList) (sb:Srt b.toList) {x:Keyed} (ex:a.toList[na]? = some x) (h:∀ j y,j < nb→b.toList[j]? = some y→ky y < ky x):MH a b (out.push x) na nb:=by
 refine ⟨?_,fun k=>?_,fun i j u v h1 h2 eu ev=>?_,fun i j u v h1 h2=>m.s4 i j u v (by lia) h2⟩
 ·rw [Array.toList_push,List.reverse_append]
  refine List.pairwise_cons.mpr ⟨fun z hz=>?_,m.srt⟩
  rcases fil_mem m.fil hz with hz | hz
  ·obtain ⟨i,hi,e⟩:=mem_drop hz
   exact srt_le sa (by lia) ex e
  ·obtain ⟨j,hj,e⟩:=mem_drop hz
   exact m.s4 na j x z (by lia) hj ex e
 ·rw [Array.toList_push,List.reverse_append,drop_cons ex]
  show (x :: out.toList.reverse).filter (hasK k) = _
  rw [List.filter_cons,List.filter_cons,m.fil]
  split <;> rfl
 ·by_cases e:na + 1≤i
  ·exact m.s3 i j u v e h2 eu ev
  ·obtain rfl:i = na:=by lia
   rw [ex] at eu
   cases eu
   exact h j v h2 ev
theorem MH.pushB (m:MH a b out na (nb + 1)) (sa:Srt a.toList) (sb:Srt b.toList) {y:Keyed} (ey:b.toList[nb]? = some y) (h:∀ i x,i < na→a.toList[i]? = some x→ky x≤ky y):MH a b (out.push y) na nb:=by
 refine ⟨?_,fun k=>?_,fun i j u v h1 h2=>m.s3 i j u v h1 (by lia),fun i j u v h1 h2 eu ev=>?_⟩
 ·rw [Array.toList_push,List.reverse_append]
  refine List.pairwise_cons.mpr ⟨fun z hz=>?_,m.srt⟩
  rcases fil_mem m.fil hz with hz | hz
  ·obtain ⟨i,hi,e⟩:=mem_drop hz
   exact Int.le_of_lt (m.s3 i nb z y hi (by lia) e ey)
  ·obtain ⟨j,hj,e⟩:=mem_drop hz
   exact srt_le sb (by lia) ey e
 ·rw [Array.toList_push,List.reverse_append,drop_cons ey]
  show (y :: out.toList.reverse).filter (hasK k) = _
  rw [List.filter_cons,List.filter_cons,m.fil]
  split
  ·rename_i hk
   have hk':ky y = k:=by unfold hasK at hk; exact beq_iff_eq.mp hk
   rw [fil_none (l:=a.toList.drop na) fun z hz=>by
    obtain ⟨i,hi,e⟩:=mem_drop hz
    have:=m.s3 i nb z y hi (by lia) e ey
    lia]
   rfl
  ·rfl
 ·by_cases e:nb + 1≤j
  ·exact m.s4 i j u v h1 e eu ev
  ·obtain rfl:j = nb:=by lia
   rw [ey] at ev
   cases ev
   exact h i u h1 eu
theorem ext_pred {a:Array Keyed} {i j:Nat} (h:i < j) (hj:j≤a.size):(a.extract i j).reverse = (a.extract (i + 1) j).reverse.push a[i]:=by
 apply Array.toList_inj.mp
 rw [Array.toList_push,Array.toList_reverse,Array.toList_reverse,Array.toList_extract,Array.toList_extract,List.extract_eq_take_drop,List.extract_eq_take_drop]
 have e:a.toList[i]? = some a[i]:=by rw [← arr_at]; exact getElem?_pos a i (by lia)
 rw [drop_cons e,show j - i = (j - (i + 1)) + 1 by lia,List.take_succ_cons,List.reverse_cons]
theorem MH.moreA (sa:Srt a.toList) (sb:Srt b.toList) {top:Nat} (m:MH a b out top nb) (ht:top≤a.size):∀ (k at':Nat),at' + k = top→(∀ i j x y,at'≤i→i < top→j < nb→a.toList[i]? = some x→b.toList[j]? = some y→ky y < ky x)→MH a b (out ++ (a.extract at' top).reverse) at' nb
 | 0,at',e,_=>by
  obtain rfl:at' = top:=by lia
  rw [show a.extract at' at' = #[] by have:=ext_zero (a:=a) (i:=at'); rwa [Nat.add_zero] at this]
  simpa using m
 | k + 1,at',e,h=>by
  have ih:=MH.moreA sa sb m ht k (at' + 1) (by lia) fun i j x y h1=>h i j x y (by lia)
  have ea:a.toList[at']? = some a[at']:=by rw [← arr_at]; exact getElem?_pos a _ (by lia)
  rw [ext_pred (by lia) ht,Array.append_push]
  exact ih.pushA sa sb ea fun j y hj ey=>h at' j _ y (Nat.le_refl _) (by lia) hj ea ey
theorem MH.moreB (sa:Srt a.toList) (sb:Srt b.toList) {top:Nat} (m:MH a b out na top) (ht:top≤b.size):∀ (k at':Nat),at' + k = top→(∀ i j x y,at'≤j→j < top→i < na→a.toList[i]? = some x→b.toList[j]? = some y→ky x≤ky y)→MH a b (out ++ (b.extract at' top).reverse) na at'
 | 0,at',e,_=>by
  obtain rfl:at' = top:=by lia
  rw [show b.extract at' at' = #[] by have:=ext_zero (a:=b) (i:=at'); rwa [Nat.add_zero] at this]
  simpa using m
 | k + 1,at',e,h=>by
  have ih:=MH.moreB sa sb m ht k (at' + 1) (by lia) fun i j x y h1=>h i j x y (by lia)
  have eb:b.toList[at']? = some b[at']:=by rw [← arr_at]; exact getElem?_pos b _ (by lia)
  rw [ext_pred (by lia) ht,Array.append_push]
  exact ih.pushB sa sb eb fun i x hi ex=>h i at' x _ (Nat.le_refl _) (by lia) hi ex eb
theorem MH.all (m:MH a b out 0 0):Mgd a b out.reverse:=by
 refine ⟨by rw [Array.toList_reverse]; exact m.srt,fun k=>?_⟩
 have:=m.fil k
 rw [Array.toList_reverse]
 simpa using this
theorem MH.endA (sa:Srt a.toList) (sb:Srt b.toList) (m:MH a b out 0 nb) (h:nb≤b.size):Mgd a b (a.extract 0 0 ++ b.extract 0 nb ++ out.reverse):=by
 have z:=(m.moreB sa sb h nb 0 (by lia) fun i j x y _ _ h=>by lia).all
 rw [Array.reverse_append,Array.reverse_reverse] at z
 have e:a.extract 0 0 = #[]:=ext_zero (a:=a) (i:=0)
 rw [e,Array.empty_append]
 exact z
theorem MH.endB (sa:Srt a.toList) (sb:Srt b.toList) (m:MH a b out na 0) (h:na≤a.size):Mgd a b (a.extract 0 na ++ b.extract 0 0 ++ out.reverse):=by
 have z:=(m.moreA sa sb h na 0 (by lia) fun i j x y _ _ h=>by lia).all
 rw [Array.reverse_append,Array.reverse_reverse] at z
 have e:b.extract 0 0 = #[]:=ext_zero (a:=b) (i:=0)
 rw [e,Array.append_empty]
 exact z
theorem MH.firstB (sa:Srt a.toList) (sb:Srt b.toList) (m:MH a b out na 1) (h:na≤a.size) (hb:1≤b.size) (fst:∀ x y,a.toList[0]? = some x→b.toList[0]? = some y→ky y < ky x):Mgd a b (b.extract 0 1 ++ a.extract 0 na ++ out.reverse):=by
 have z:=m.moreA sa sb h na 0 (by lia) fun i j x y _ h1 h2 ex ey=>by
  obtain rfl:j = 0:=by lia
  have hl0:0 < a.toList.length:=by rw [Array.length_toList]; lia
  have e0:a.toList[0]? = some a.toList[0]:=List.getElem?_eq_getElem hl0
  exact Int.lt_of_lt_of_le (fst _ _ e0 ey) (srt_le sa (by lia) e0 ex)
 have z2:=(z.moreB sa sb hb 1 0 (by lia) fun i j x y _ _ h=>by lia).all
 rw [Array.reverse_append,Array.reverse_reverse,Array.reverse_append,Array.reverse_reverse,← Array.append_assoc] at z2
 exact z2
end
abbrev hiDone (a b out:Array Keyed) (na nb:Nat):Array Keyed:=a.extract 0 na ++ b.extract 0 nb ++ out.reverse
abbrev hiFst (a b out:Array Keyed) (na nb:Nat):Array Keyed:=b.extract 0 nb ++ a.extract 0 na ++ out.reverse
def hiZ (a b o:Array Keyed) (na nb g k k1:Nat):StateT SortSt Sem (ForInStep (Option (Array Keyed) × Nat × Nat × Array Keyed × Nat × Nat × Nat)):=do
 let l ← elem' a (na - 1)
 if na - 1 == 0 then pure (.done (some (hiDone a b (o.push l) (na - 1) nb),na - 1,nb,o.push l,g,k,k1))
 else if (decide (k < 7) && decide (k1 < 7)) = true then pure (.done (none,na - 1,nb,o.push l,g,k,k1))
 else pure (.yield (none,na - 1,nb,o.push l,g,k,k1))
def hiY (a b o:Array Keyed) (na nb g k bc:Nat):StateT SortSt Sem (ForInStep (Option (Array Keyed) × Nat × Nat × Array Keyed × Nat × Nat × Nat)):=do
 let l ← elem' b (nb - 1)
 if nb - 1 == 1 then pure (.done (some (hiFst a b (o.push l) na (nb - 1)),na,nb - 1,o.push l,g,k,bc))
 else do
  let x ← elem' a (na - 1)
  let r ← gallop' true x b 0 (nb - 1) (nb - 1 - 1)
  match r with
  | some at' =>
   if nb - 1 - at' > 0 then
    if at' == 1 then pure (.done (some (hiFst a b (o.push l ++ (b.extract at' (nb - 1)).reverse) na at'),na,at',o.push l ++ (b.extract at' (nb - 1)).reverse,g,k,nb - 1 - at'))
    else if at' == 0 then pure (.done (some (hiDone a b (o.push l ++ (b.extract at' (nb - 1)).reverse) na at'),na,at',o.push l ++ (b.extract at' (nb - 1)).reverse,g,k,nb - 1 - at'))
    else hiZ a b (o.push l ++ (b.extract at' (nb - 1)).reverse) na at' g k (nb - 1 - at')
   else hiZ a b (o.push l) na (nb - 1) g k (nb - 1 - at')
  | _=>pure (.done (some (hiDone a b (o.push l) na (nb - 1)),na,nb - 1,o.push l,g,k,bc))
def hiX (a b o:Array Keyed) (na nb g ac bc:Nat):StateT SortSt Sem (ForInStep (Option (Array Keyed) × Nat × Nat × Array Keyed × Nat × Nat × Nat)):=do
 setMinGallop' g
 let y ← elem' b (nb - 1)
 let r ← gallop' false y a 0 na (na - 1)
 match r with
 | some at' =>
  if na - at' > 0 then
   if at' == 0 then pure (.done (some (hiDone a b (o ++ (a.extract at' na).reverse) at' nb),at',nb,o ++ (a.extract at' na).reverse,g,na - at',bc))
   else hiY a b (o ++ (a.extract at' na).reverse) at' nb g (na - at') bc
  else hiY a b o na nb g (na - at') bc
 | _=>pure (.done (some (hiDone a b o na nb),na,nb,o,g,ac,bc))
abbrev HiT:=Option (Array Keyed) × Nat × Nat × Array Keyed × Nat × Nat × Nat
section
variable {prog:Program} {w:World} {A:Around} {E:Value→Shared→Prop} {s:Shared} [KeyL prog w A s]
structure HiP (st:SortSt) (a b:Array Keyed) (n:Nat) (P:ForInStep HiT→SortSt→Prop):Prop where
 dn:∀ m d st',Sim st st'→Mgd a b m→P (.done (some m,d)) st'
 go:∀ o na nb g k k1 st',Sim st st'→MH a b o na nb→0 < na→na≤a.size→1 < nb→nb≤b.size→na + nb≤n→P (.done (none,na,nb,o,g,k,k1)) st'∧P (.yield (none,na,nb,o,g,k,k1)) st'
section
variable {st st':SortSt} {a b o:Array Keyed} {na nb g k k1 bc ac n:Nat} {P:ForInStep HiT→SortSt→Prop}
theorem wpS_hiZ (hp:HiP st a b n P) (sm:Sim st st') (sa:Srt a.toList) (sb:Srt b.toList) (ia:Ints a) (ms:MH a b o na nb) (h0:0 < na) (h1:na≤a.size) (h2:1 < nb) (h3:nb≤b.size) (lt:∀ j x y,j < nb→a.toList[na - 1]? = some x→b.toList[j]? = some y→ky y < ky x) (hn:na - 1 + nb≤n) :
  wpS (model prog w) A E s (hiZ a b o na nb g k k1) P st':=by
 unfold hiZ
 obtain ⟨x,a1,a2,ix⟩:=ia.at (show na - 1 < a.size by lia)
 refine wpS_bind (wpS_elem a1 ?_)
 have ms':MH a b o (na - 1 + 1) nb:=by rw [show na - 1 + 1 = na by lia]; exact ms
 have ms2:=ms'.pushA sa sb a2 fun j y hj ey=>lt j x y hj a2 ey
 by_cases c3:na - 1 = 0
 ·rw [if_pos (beqT c3)]
  rw [c3] at ms2 ⊢
  exact wpS_pure (hp.dn _ _ _ sm (ms2.endA sa sb h3))
 rw [if_neg (beqF c3)]
 split
 ·exact wpS_pure (hp.go _ _ _ _ _ _ _ sm ms2 (by lia) (by lia) h2 h3 (by lia)).1
 ·exact wpS_pure (hp.go _ _ _ _ _ _ _ sm ms2 (by lia) (by lia) h2 h3 (by lia)).2
theorem wpS_hiY (hk:kindOf st = KeyC.kd) (hp:HiP st a b n P) (sm:Sim st st') (sa:Srt a.toList) (sb:Srt b.toList) (ia:Ints a) (ib:Ints b) (fst:∀ x y,a.toList[0]? = some x→b.toList[0]? = some y→ky y < ky x) (ms:MH a b o na nb) (h0:0 < na) (h1:na≤a.size) (h2:1 < nb) (h3:nb≤b.size)
  (le:∀ i x y,i < na→a.toList[i]? = some x→b.toList[nb - 1]? = some y→ky x≤ky y) (hn:na + nb≤n + 1) :
  wpS (model prog w) A E s (hiY a b o na nb g k bc) P st':=by
 unfold hiY
 obtain ⟨y,b1,b2,iy⟩:=ib.at (show nb - 1 < b.size by lia)
 obtain ⟨x,a1,a2,ix⟩:=ia.at (show na - 1 < a.size by lia)
 refine wpS_bind (wpS_elem b1 ?_)
 have ms':MH a b o na (nb - 1 + 1):=by rw [show nb - 1 + 1 = nb by lia]; exact ms
 have ms2:=ms'.pushB sa sb b2 fun i x hi ex=>le i x y hi ex b2
 by_cases c3:nb - 1 = 1
 ·rw [if_pos (beqT c3)]
  rw [c3] at ms2 ⊢
  exact wpS_pure (hp.dn _ _ _ sm (ms2.firstB sa sb h1 (by lia) fst))
 rw [if_neg (beqF c3)]
 refine wpS_bind (wpS_elem a1 (wpS_bind (wpS_galL (by rw [sm.kind]; exact hk) ix ib (fun i j x y _ h1 _ e1 e2=>srt_le sb h1 e1 e2) (by lia) (by lia) fun k2 hk2 g1 g2=>?_)))
 dsimp only
 have ms3:=ms2.moreB sa sb (by lia) (nb - 1 - k2) k2 (by lia) fun i j x' y' q1 q2 q3 ex ey=>Int.le_trans (srt_le sa (by lia) ex a2) (g2 j y' (by lia) (by lia) ey)
 have lt3:∀ (j:Nat) x' y',j < k2→a.toList[na - 1]? = some x'→b.toList[j]? = some y'→ky y' < ky x':=fun j x' y' hj ex ey=>by
  rw [a2] at ex
  cases ex
  exact g1 j y' (by lia) (by lia) ey
 by_cases c4:nb - 1 - k2 > 0
 ·rw [if_pos c4]
  by_cases c5:k2 = 1
  ·rw [if_pos (beqT c5)]
   rw [c5] at ms3 ⊢
   exact wpS_pure (hp.dn _ _ _ sm (ms3.firstB sa sb h1 (by lia) fst))
  rw [if_neg (beqF c5)]
  by_cases c6:k2 = 0
  ·rw [if_pos (beqT c6)]
   rw [c6] at ms3 ⊢
   exact wpS_pure (hp.dn _ _ _ sm (ms3.endB sa sb h1))
  ·rw [if_neg (beqF c6)]
   exact wpS_hiZ hp sm sa sb ia ms3 h0 h1 (by lia) (by lia) lt3 (by lia)
 ·rw [if_neg c4]
  obtain rfl:k2 = nb - 1:=by lia
  exact wpS_hiZ hp sm sa sb ia ms2 h0 h1 (by lia) (by lia) lt3 (by lia)
theorem wpS_hiX (hk:kindOf st = KeyC.kd) (hp:HiP st a b n P) (sm:Sim st st') (sa:Srt a.toList) (sb:Srt b.toList) (ia:Ints a) (ib:Ints b) (fst:∀ x y,a.toList[0]? = some x→b.toList[0]? = some y→ky y < ky x) (ms:MH a b o na nb) (h0:0 < na) (h1:na≤a.size) (h2:1 < nb) (h3:nb≤b.size) (hn:na + nb≤n + 1) :
  wpS (model prog w) A E s (hiX a b o na nb g ac bc) P st':=by
 unfold hiX
 rw [setMinGallop'_eq]
 refine wpS_bind (wpS_modify ?_)
 obtain ⟨y,b1,b2,iy⟩:=ib.at (show nb - 1 < b.size by lia)
 have sm2:=sm.set g
 refine wpS_bind (wpS_elem b1 (wpS_bind (wpS_galR (by rw [sm2.kind]; exact hk) iy ia (fun i j x y _ h1 _ e1 e2=>srt_le sa h1 e1 e2) (by lia) (by lia) fun k2 hk2 g1 g2=>?_)))
 dsimp only
 have ms3:=ms.moreA sa sb h1 (na - k2) k2 (by lia) fun i j x' y' q1 q2 q3 ex ey=>Int.lt_of_le_of_lt (srt_le sb (by lia) ey b2) (g2 i x' (by lia) (by lia) ex)
 have le3:∀ (i:Nat) x' y',i < k2→a.toList[i]? = some x'→b.toList[nb - 1]? = some y'→ky x'≤ky y':=fun i x' y' hi ex ey=>by
  rw [b2] at ey
  cases ey
  exact g1 i x' (by lia) (by lia) ex
 by_cases c4:na - k2 > 0
 ·rw [if_pos c4]
  by_cases c5:k2 = 0
  ·rw [if_pos (beqT c5)]
   rw [c5] at ms3 ⊢
   exact wpS_pure (hp.dn _ _ _ sm2 (ms3.endA sa sb h3))
  ·rw [if_neg (beqF c5)]
   exact wpS_hiY hk hp sm2 sa sb ia ib fst ms3 (by lia) (by lia) h2 h3 le3 (by lia)
 ·rw [if_neg c4]
  obtain rfl:k2 = na:=by lia
  exact wpS_hiY hk hp sm2 sa sb ia ib fst ms h0 h1 h2 h3 le3 hn
end
theorem mh0 {a b:Array Keyed}:MH a b #[] a.size b.size:=⟨List.Pairwise.nil,fun k=>by rw [List.drop_of_length_le (by simp),List.drop_of_length_le (by simp)]; rfl,(fun i j x y h1 h2 e=>by rw [none_at h1] at e; cases e),fun i j x y h1 h2 _ e=>by rw [none_at h2] at e; cases e⟩
theorem wpS_mergeHi {st:SortSt} {a b:Array Keyed} {Q:Array Keyed→SortSt→Prop} (hk:kindOf st = KeyC.kd) (sa:Srt a.toList) (sb:Srt b.toList) (ia:Ints a) (ib:Ints b) (za:0 < a.size) (zb:0 < b.size)
  (fst:∀ x y,a.toList[0]? = some x→b.toList[0]? = some y→ky y < ky x) (lst:∀ (j:Nat) x y,a.toList[a.size - 1]? = some x→b.toList[j]? = some y→ky y < ky x)
  (h:∀ m st',Sim st st'→Mgd a b m→Q m st'):wpS (model prog w) A E s (mergeHi' a b) Q st:=by
 rw [mergeHi'_eq]
 refine wpS_bind (wpS_lift (wpAny_rule ⟨rfl,?_⟩))
 obtain ⟨x0,e1,e2,ix⟩:=ia.at (show a.size - 1 < a.size by lia)
 refine wpS_bind (wpS_elem e1 ?_)
 dsimp only
 have m00:MH a b #[] (a.size - 1 + 1) b.size:=by rw [show a.size - 1 + 1 = a.size by lia]; exact mh0
 have m0:MH a b #[x0] (a.size - 1) b.size:=m00.pushA sa sb e2 fun j y _ ey=>lst j x0 y e2 ey
 by_cases c1:a.size - 1 = 0
 ·rw [if_pos (beqT c1)]
  refine wpS_pure (h _ _ (Sim.refl _) ?_)
  rw [c1] at m0 ⊢
  exact m0.endA sa sb (Nat.le_refl _)
 rw [if_neg (beqF c1)]
 by_cases c2:b.size = 1
 ·rw [if_pos (beqT c2)]
  refine wpS_pure (h _ _ (Sim.refl _) ?_)
  rw [c2] at m0 ⊢
  exact m0.firstB sa sb (by lia) (by lia) fst
 rw [if_neg (beqF c2)]
 refine wpS_bind (wpS_get ?_)
 refine wpS_bind (wpS_mono (wpS_forRange
  (I:=fun x c st'=>Sim st st'∧∃ out i j g,c = (none,i,j,out,g)∧MH a b out i j∧0 < i∧i≤a.size∧1 < j∧j≤b.size∧i + j + x + 1≤a.size + b.size)
  (Q:=fun c st'=>Sim st st'∧∃ m d,c = (some m,d)∧Mgd a b m) ?_ ?_ ⟨Sim.refl _,_,_,_,_,rfl,m0,by lia,by lia,by lia,by lia,by lia⟩) ?_)
 ·rintro x c st' _ hx ⟨sm,out,i,j,g,rfl,ms,h0,h1,h2,h3,px⟩
  dsimp only
  refine wpS_bind (wpS_mono (wpS_forRange
   (I:=fun y c st''=>Sim st st''∧∃ out i' j' ac bc,c = (none,i',j',out,ac,bc)∧MH a b out i' j'∧0 < i'∧i'≤a.size∧1 < j'∧j'≤b.size∧i' + j' + y≤i + j)
   (Q:=fun c st''=>Sim st st''∧((∃ m d,c = (some m,d)∧Mgd a b m)∨∃ out i' j' ac bc,c = (none,i',j',out,ac,bc)∧MH a b out i' j'∧0 < i'∧i'≤a.size∧1 < j'∧j'≤b.size∧i' + j' + 1≤i + j)) ?_ ?_ ⟨sm,_,_,_,_,_,rfl,ms,h0,h1,h2,h3,by lia⟩) ?_)
  ·rintro y c st'' _ hy ⟨sm,out,i',j',ac,bc,rfl,ms,h0,h1,h2,h3,py⟩
   dsimp only
   obtain ⟨yb,b1,b2,iyb⟩:=ib.at (show j' - 1 < b.size by lia)
   obtain ⟨xa,a1,a2,ixa⟩:=ia.at (show i' - 1 < a.size by lia)
   refine wpS_bind (wpS_elem b1 (wpS_bind (wpS_elem a1 (wpS_bind (wpS_lt (by rw [sm.kind]; exact hk) iyb ixa ?_)))))
   dsimp only
   by_cases cw:ky yb < ky xa
   ·rw [if_pos (decide_eq_true cw)]
    refine wpS_bind (wpS_elem a1 ?_)
    try dsimp only
    have ms':MH a b out (i' - 1 + 1) j':=by rw [show i' - 1 + 1 = i' by lia]; exact ms
    have ms2:=ms'.pushA sa sb a2 fun jj y hj ey=>Int.lt_of_le_of_lt (srt_le sb (by lia) ey b2) cw
    by_cases c3:i' - 1 = 0
    ·rw [if_pos (beqT c3)]
     rw [c3] at ms2 ⊢
     exact wpS_pure ⟨sm,.inl ⟨_,_,rfl,ms2.endA sa sb h3⟩⟩
    rw [if_neg (beqF c3)]
    split
    ·exact wpS_pure ⟨sm,.inr ⟨_,_,_,_,_,rfl,ms2,by lia,by lia,h2,h3,by lia⟩⟩
    ·exact wpS_pure ⟨sm,_,_,_,_,_,rfl,ms2,by lia,by lia,h2,h3,by lia⟩
   ·rw [if_neg (by rw [decide_eq_true_eq]; exact cw)]
    refine wpS_bind (wpS_elem b1 ?_)
    try dsimp only
    have ms':MH a b out i' (j' - 1 + 1):=by rw [show j' - 1 + 1 = j' by lia]; exact ms
    have ms2:=ms'.pushB sa sb b2 fun ii x hi ex=>Int.le_trans (srt_le sa (by lia) ex a2) (by lia)
    by_cases c3:j' - 1 = 1
    ·rw [if_pos (beqT c3)]
     rw [c3] at ms2 ⊢
     exact wpS_pure ⟨sm,.inl ⟨_,_,rfl,ms2.firstB sa sb h1 (by lia) fst⟩⟩
    rw [if_neg (beqF c3)]
    split
    ·exact wpS_pure ⟨sm,.inr ⟨_,_,_,_,_,rfl,ms2,h0,h1,by lia,by lia,by lia⟩⟩
    ·exact wpS_pure ⟨sm,_,_,_,_,_,rfl,ms2,h0,h1,by lia,by lia,by lia⟩
  ·rintro c st'' ⟨sm,out,i',j',ac,bc,rfl,ms,h0,h1,h2,h3,py⟩
   lia
  ·rintro c st'' ⟨sm,⟨m,d,rfl,hm⟩ | ⟨out,i',j',ac,bc,rfl,ms,h0,h1,h2,h3,py⟩⟩
   ·dsimp only
    exact wpS_pure ⟨sm,m,_,rfl,hm⟩
   dsimp only
   refine wpS_bind (wpS_lift (wpAny_rule ⟨rfl,?_⟩))
   refine wpS_bind (wpS_mono (wpS_forRange
    (I:=fun y c st''=>Sim st st''∧∃ out i2 j2 g ac bc,c = (none,i2,j2,out,g,ac,bc)∧MH a b out i2 j2∧0 < i2∧i2≤a.size∧1 < j2∧j2≤b.size∧i2 + j2 + y≤i' + j')
    (Q:=fun c st''=>Sim st st''∧((∃ m d,c = (some m,d)∧Mgd a b m)∨∃ out i2 j2 g ac bc,c = (none,i2,j2,out,g,ac,bc)∧MH a b out i2 j2∧0 < i2∧i2≤a.size∧1 < j2∧j2≤b.size∧i2 + j2≤i' + j')) ?_ ?_ ⟨sm,_,_,_,_,_,_,rfl,ms,h0,h1,h2,h3,by lia⟩) ?_)
   ·rintro y c st3 _ hy ⟨sm,out,i2,j2,g,ac,bc,rfl,ms,h0,h1,h2,h3,py⟩
    dsimp only
    show wpS _ _ _ _ (if g > 1 then hiX a b out i2 j2 (g - 1) ac bc else hiX a b out i2 j2 g ac bc) _ _
    have hp:HiP st a b (i' + j' - y - 1) (fun r st'_1=>match r with
     | ForInStep.done c'=>Sim st st'_1∧((∃ m d,c' = (some m,d)∧Mgd a b m)∨∃ out i2 j2 g ac bc,c' = (none,i2,j2,out,g,ac,bc)∧MH a b out i2 j2∧0 < i2∧i2≤a.size∧1 < j2∧j2≤b.size∧i2 + j2≤i' + j')
     | ForInStep.yield c'=>Sim st st'_1∧∃ out i2 j2 g ac bc,c' = (none,i2,j2,out,g,ac,bc)∧MH a b out i2 j2∧0 < i2∧i2≤a.size∧1 < j2∧j2≤b.size∧i2 + j2 + (y + 1)≤i' + j') :=
     ⟨fun m d st' q1 q2=>⟨q1,.inl ⟨m,d,rfl,q2⟩⟩,fun o i j g k k1 st' q1 q2 q3 q4 q5 q6 q7=>⟨⟨q1,.inr ⟨o,i,j,g,k,k1,rfl,q2,q3,q4,q5,q6,by lia⟩⟩,⟨q1,o,i,j,g,k,k1,rfl,q2,q3,q4,q5,q6,by lia⟩⟩⟩
    split
    ·exact wpS_mono (wpS_hiX (n:=i' + j' - y - 1) hk hp sm sa sb ia ib fst ms h0 h1 h2 h3 (by lia)) fun r st' z=>by cases r <;> exact z
    ·exact wpS_mono (wpS_hiX (n:=i' + j' - y - 1) hk hp sm sa sb ia ib fst ms h0 h1 h2 h3 (by lia)) fun r st' z=>by cases r <;> exact z
   ·rintro c st3 ⟨sm,out,i2,j2,g,ac,bc,rfl,ms,h0,h1,h2,h3,py⟩
    lia
   ·rintro c st3 ⟨sm,⟨m,d,rfl,hm⟩ | ⟨out,i2,j2,g,ac,bc,rfl,ms,h0,h1,h2,h3,py⟩⟩
    ·dsimp only
     exact wpS_pure ⟨sm,m,_,rfl,hm⟩
    dsimp only
    rw [setMinGallop'_eq]
    exact wpS_bind (wpS_modify (wpS_pure ⟨sm.set _,_,_,_,_,rfl,ms,h0,h1,h2,h3,by lia⟩))
 ·rintro c st' ⟨sm,out,i,j,g,rfl,ms,h0,h1,h2,h3,px⟩
  lia
 ·rintro c st' ⟨sm,m,d,rfl,hm⟩
  dsimp only
  exact wpS_pure (h m st' sm hm)
end
end Ow
namespace Ow
open PySem PyProof.Rows
variable [KeyC]
theorem mergeAt'_eq (i:Nat):mergeAt' i = (do
 let s ← get
 let (some (sa,na,power),some (sb,nb,_)):=((pendingOf s)[i]?,(pendingOf s)[i + 1]?) | unsupported "internal:list.sort.pending"
 set (setPending s (((pendingOf s).setIfInBounds i (sa,na + nb,power)).eraseIdxIfInBounds (i + 1)))
 let some k ← gallop' false (← elem' (arrOf s) sb) (arrOf s) sa na 0 | return false
 let (sa,na):=(sa + k,na - k)
 if na == 0 then return true
 let some nb ← gallop' true (← elem' (arrOf s) (sa + na - 1)) (arrOf s) sb nb (nb - 1) | return false
 if nb == 0 then return true
 let x:=(arrOf s).extract sa sb
 let y:=(arrOf s).extract sb (sb + nb)
 let merged ← if na≤nb then mergeLo' x y else mergeHi' x y
 modify fun s=>setArr s (merged.toList.zipIdx.foldl (fun a (p,j)=>a.setIfInBounds (sa + j) p) (arrOf s))
 return (failedOf (← get)).isNone):=rfl
def putAt (sa:Nat):List Keyed→Nat→Array Keyed→Array Keyed
 | [],_,a=>a
 | p :: ps,j,a=>putAt sa ps (j + 1) (a.setIfInBounds (sa + j) p)
theorem putAt_eq (sa:Nat):∀ (l:List Keyed) (j:Nat) (a:Array Keyed),(l.zipIdx j).foldl (fun a (p:Keyed × Nat)=>a.setIfInBounds (sa + p.2) p.1) a = putAt sa l j a
 | [],_,_=>rfl
 | p :: ps,j,a=>by rw [List.zipIdx_cons,List.foldl_cons]; exact putAt_eq sa ps (j + 1) _
theorem putAt_list (sa:Nat):∀ (l:List Keyed) (j:Nat) (a:Array Keyed),sa + j + l.length≤a.size→(putAt sa l j a).toList = a.toList.take (sa + j) ++ l ++ a.toList.drop (sa + j + l.length)
 | [],j,a,_=>by simp [putAt]
 | p :: ps,j,a,h=>by
  rw [List.length_cons] at h
  unfold putAt
  rw [putAt_list sa ps (j + 1) _ (by rw [Array.size_setIfInBounds]; lia),Array.toList_setIfInBounds]
  have hl:sa + j < a.toList.length:=by rw [Array.length_toList]; lia
  rw [List.length_cons]
  have e1:(a.toList.set (sa + j) p).take (sa + (j + 1)) = a.toList.take (sa + j) ++ [p]:=by
   rw [show sa + (j + 1) = sa + j + 1 by lia,List.take_succ_eq_append_getElem (by rw [List.length_set]; exact hl),List.getElem_set_self,List.take_set_of_le (Nat.le_refl _)]
  have e2:(a.toList.set (sa + j) p).drop (sa + (j + 1) + ps.length) = a.toList.drop (sa + j + (ps.length + 1)):=by
   rw [List.drop_set_of_lt (by lia)]
   congr 1
   lia
  rw [e1,e2]
  simp
def seg (a:Array Keyed) (i n:Nat):List Keyed:=(a.toList.drop i).take n
theorem seg_at {a:Array Keyed} {i n j:Nat} (h:j < n):(seg a i n)[j]? = a.toList[i + j]?:=by
 unfold seg
 rw [List.getElem?_take_of_lt h,List.getElem?_drop]
theorem seg_ext {a:Array Keyed} {i j:Nat}:(a.extract i j).toList = seg a i (j - i):=by
 unfold seg
 rw [Array.toList_extract,List.extract_eq_take_drop]
theorem seg_app {a:Array Keyed} {i n m:Nat}:seg a i (n + m) = seg a i n ++ seg a (i + n) m:=by
 unfold seg
 rw [List.take_add,List.drop_drop]
theorem seg_srt {a:Array Keyed} {i n:Nat} (h:Srt (seg a i n)) {p q:Nat} {x y:Keyed} (h1:i≤p) (h2:p≤q) (h3:q < i + n) (ex:a.toList[p]? = some x) (ey:a.toList[q]? = some y):ky x≤ky y:=by
 refine srt_le h (i:=p - i) (j:=q - i) (by lia) ?_ ?_
 ·rw [seg_at (by lia),show i + (p - i) = p by lia]; exact ex
 ·rw [seg_at (by lia),show i + (q - i) = q by lia]; exact ey
theorem srt_of {a:Array Keyed} {i n:Nat} (h:∀ p q x y,i≤p→p≤q→q < i + n→a.toList[p]? = some x→a.toList[q]? = some y→ky x≤ky y):Srt (seg a i n):=by
 refine List.pairwise_iff_getElem.mpr fun p q hp hq hpq=>?_
 have hl:(seg a i n).length≤n:=by unfold seg; rw [List.length_take]; lia
 have e1:(seg a i n)[p]? = some (seg a i n)[p]:=List.getElem?_eq_getElem hp
 have e2:(seg a i n)[q]? = some (seg a i n)[q]:=List.getElem?_eq_getElem hq
 rw [seg_at (by lia)] at e1 e2
 exact h _ _ _ _ (by lia) (by lia) (by lia) e1 e2
end Ow
namespace Ow
open PySem PyProof.Rows
variable [KeyC]
def FilEq (a b:Array Keyed):Prop:=∀ k,a.toList.filter (hasK k) = b.toList.filter (hasK k)
theorem fil_perm {l m:List Keyed} (h:∀ k,l.filter (hasK k) = m.filter (hasK k)):l.Perm m:=by
 haveI:DecidableEq Keyed:=fun a b=>Classical.propDecidable (a = b)
 refine List.perm_iff_count.mpr fun p=>?_
 have e:hasK (ky p) p = true:=by unfold hasK; simp
 rw [← List.count_filter e,← List.count_filter (l:=m) e,h]
theorem FilEq.perm {a b:Array Keyed} (h:FilEq a b):a.toList.Perm b.toList:=fil_perm h
theorem FilEq.size {a b:Array Keyed} (h:FilEq a b):a.size = b.size:=by
 have:=h.perm.length_eq
 rwa [Array.length_toList,Array.length_toList] at this
theorem FilEq.ints {a b:Array Keyed} (h:FilEq a b) (i:Ints b):Ints a:=fun p hp=>i p (h.perm.mem_iff.mp hp)
theorem FilEq.trans {a b c:Array Keyed} (h:FilEq a b) (g:FilEq b c):FilEq a c:=fun k=>(h k).trans (g k)
def Out (a b:Array Keyed) (i j:Nat):Prop:=∀ p,p < i∨j≤p→a.toList[p]? = b.toList[p]?
theorem split3 {l:List Keyed} {i j:Nat} (h:i≤j):l = l.take i ++ (l.drop i).take (j - i) ++ l.drop j:=by
 have e:l.drop j = (l.drop i).drop (j - i):=by rw [List.drop_drop]; congr 1; lia
 rw [e,List.append_assoc,List.take_append_drop,List.take_append_drop]
theorem put_back {a m:Array Keyed} {i j:Nat} (hij:i≤j) (hj:j≤a.size) (hl:m.size = j - i) (hf:∀ k,m.toList.filter (hasK k) = (seg a i (j - i)).filter (hasK k)) :
  FilEq (putAt i m.toList 0 a) a∧Out (putAt i m.toList 0 a) a i j∧∀ p,i≤p→p < j→(putAt i m.toList 0 a).toList[p]? = m.toList[p - i]?:=by
 have hm:m.toList.length = j - i:=by rw [Array.length_toList]; exact hl
 have e:=putAt_list i m.toList 0 a (by lia)
 rw [Nat.add_zero,hm,show i + (j - i) = j by lia] at e
 have li:(a.toList.take i).length = i:=by rw [List.length_take,Array.length_toList]; lia
 refine ⟨fun k=>?_,fun p hp=>?_,fun p h1 h2=>?_⟩
 ·have e2:=split3 (l:=a.toList) hij
  rw [e]
  conv=>rhs; rw [e2]
  rw [List.filter_append,List.filter_append,List.filter_append,List.filter_append,hf]
  rfl
 ·rw [e]
  rcases hp with hp | hp
  ·rw [List.append_assoc,List.getElem?_append_left (by lia),List.getElem?_take_of_lt hp]
  ·rw [List.getElem?_append_right (by rw [List.length_append]; lia),List.length_append,li,hm,List.getElem?_drop]
   congr 1
   lia
 ·rw [e,List.append_assoc,List.getElem?_append_right (by lia),li,List.getElem?_append_left (by lia)]
section
variable {prog:Program} {w:World} {A:Around} {E:Value→Shared→Prop} {s:Shared} [KeyL prog w A s]
theorem wpS_set {σ:Type} {M:Model} {st st':σ} {Q:PUnit→σ→Prop} (h:Q ⟨⟩ st'):wpS M A E s (set st':StateT σ Sem PUnit) Q st:=by
 unfold wpS
 rw [StateT.run_set]
 exact wpAny_pure ⟨rfl,h⟩
theorem wpS_mergeAt {st:SortSt} {i sa na pw sb nb pw2:Nat} {Q:Bool→SortSt→Prop} (hk:kindOf st = KeyC.kd) (hf:failedOf st = none) (nI:Ints (arrOf st)) (p1:(pendingOf st)[i]? = some (sa,na,pw)) (p2:(pendingOf st)[i + 1]? = some (sb,nb,pw2)) (hb:sb = sa + na) (za:0 < na) (zb:0 < nb) (hz:sb + nb≤(arrOf st).size)
  (s1:Srt (seg (arrOf st) sa na)) (s2:Srt (seg (arrOf st) sb nb))
  (h:∀ st',kindOf st' = KeyC.kd→failedOf st' = none→pendingOf st' = ((pendingOf st).setIfInBounds i (sa,na + nb,pw)).eraseIdxIfInBounds (i + 1)→FilEq (arrOf st') (arrOf st)→Out (arrOf st') (arrOf st) sa (sb + nb)→Srt (seg (arrOf st') sa (na + nb))→Q true st') :
  wpS (model prog w) A E s (mergeAt' i) Q st:=by
 subst hb
 rw [mergeAt'_eq]
 refine wpS_bind (wpS_get ?_)
 rw [p1,p2]
 dsimp only
 refine wpS_bind (wpS_set ?_)
 have at':∀ p,p < (arrOf st).size→∃ x,(arrOf st)[p]? = some x∧(arrOf st).toList[p]? = some x∧IsIn x:=fun p hp=>nI.at hp
 obtain ⟨kb,kb1,kb2,ikb⟩:=at' (sa + na) (by lia)
 have stay:(∀ p q x y,sa≤p→p < sa + na→sa + na≤q→q < sa + na + nb→(arrOf st).toList[p]? = some x→(arrOf st).toList[q]? = some y→ky x≤ky y)→Srt (seg (arrOf st) sa (na + nb)):=fun hx=>by
  refine srt_of fun p q x y h1 h2 h3 ex ey=>?_
  by_cases c1:q < sa + na
  ·exact seg_srt s1 h1 h2 c1 ex ey
  ·by_cases c2:sa + na≤p
   ·exact seg_srt s2 c2 h2 (by lia) ex ey
   ·exact hx p q x y h1 (by lia) (by lia) (by lia) ex ey
 refine wpS_bind (wpS_elem kb1 (wpS_bind (wpS_galR hk ikb nI (fun i j x y q1 q2 q3 e1 e2=>seg_srt s1 q1 q2 q3 e1 e2) (by lia) za fun k hk1 g1 g2=>?_)))
 dsimp only
 by_cases c0:na - k = 0
 ·rw [if_pos (beqT c0)]
  refine wpS_pure (h _ hk hf rfl (fun _=>rfl) (fun _ _=>rfl) (stay fun p q x y q1 q2 q3 q4 ex ey=>?_))
  exact Int.le_trans (g1 p x q1 (by lia) ex) (seg_srt s2 (Nat.le_refl _) q3 q4 kb2 ey)
 rw [if_neg (beqF c0)]
 rw [show sa + k + (na - k) - 1 = sa + na - 1 by lia]
 obtain ⟨ka,ka1,ka2,ika⟩:=at' (sa + na - 1) (by lia)
 refine wpS_bind (wpS_elem ka1 (wpS_bind (wpS_galL hk ika nI (fun i j x y q1 q2 q3 e1 e2=>seg_srt s2 q1 q2 q3 e1 e2) (by lia) (by lia) fun n2 hn2 f1 f2=>?_)))
 dsimp only
 by_cases c1:n2 = 0
 ·rw [if_pos (beqT c1)]
  refine wpS_pure (h _ hk hf rfl (fun _=>rfl) (fun _ _=>rfl) (stay fun p q x y q1 q2 q3 q4 ex ey=>?_))
  exact Int.le_trans (seg_srt s1 q1 (by lia) (by lia) ex ka2) (f2 q y (by lia) (by lia) ey)
 rw [if_neg (beqF c1)]
 have ex1:((arrOf st).extract (sa + k) (sa + na)).toList = seg (arrOf st) (sa + k) (na - k):=by rw [seg_ext]; congr 1; lia
 have ey1:((arrOf st).extract (sa + na) (sa + na + n2)).toList = seg (arrOf st) (sa + na) n2:=by rw [seg_ext]; congr 1; lia
 have zx:((arrOf st).extract (sa + k) (sa + na)).size = na - k:=by rw [Array.size_extract]; lia
 have zy:((arrOf st).extract (sa + na) (sa + na + n2)).size = n2:=by rw [Array.size_extract]; lia
 have xs:Srt ((arrOf st).extract (sa + k) (sa + na)).toList:=by rw [ex1]; exact srt_of fun p q x y q1 q2 q3 e1 e2=>seg_srt s1 (by lia) q2 (by lia) e1 e2
 have ys:Srt ((arrOf st).extract (sa + na) (sa + na + n2)).toList:=by rw [ey1]; exact srt_of fun p q x y q1 q2 q3 e1 e2=>seg_srt s2 q1 q2 (by lia) e1 e2
 have mem:∀ {i n:Nat} {x:Keyed},x ∈ seg (arrOf st) i n→∃ p,i≤p∧p < i + n∧(arrOf st).toList[p]? = some x:=fun {i n x} hx=>by
  obtain ⟨p,hp,e⟩:=mem_take hx
  rw [List.getElem?_drop] at e
  exact ⟨i + p,by lia,by lia,e⟩
 have nx:Ints ((arrOf st).extract (sa + k) (sa + na)):=fun p hp=>by
  rw [ex1] at hp
  obtain ⟨q,_,_,e⟩:=mem hp
  exact nI p (List.mem_of_getElem? e)
 have ny:Ints ((arrOf st).extract (sa + na) (sa + na + n2)):=fun p hp=>by
  rw [ey1] at hp
  obtain ⟨q,_,_,e⟩:=mem hp
  exact nI p (List.mem_of_getElem? e)
 have fst:∀ x y,((arrOf st).extract (sa + k) (sa + na)).toList[0]? = some x→((arrOf st).extract (sa + na) (sa + na + n2)).toList[0]? = some y→ky y < ky x:=fun x y e1 e2=>by
  rw [ex1,seg_at (by lia)] at e1
  rw [ey1,seg_at (by lia),Nat.add_zero,kb2] at e2
  cases e2
  exact g2 _ x (by lia) (by lia) e1
 have lst:∀ (j:Nat) x y,((arrOf st).extract (sa + k) (sa + na)).toList[((arrOf st).extract (sa + k) (sa + na)).size - 1]? = some x→((arrOf st).extract (sa + na) (sa + na + n2)).toList[j]? = some y→ky y < ky x:=fun j x y e1 e2=>by
  rw [zx,ex1,seg_at (by lia),show sa + k + (na - k - 1) = sa + na - 1 by lia,ka2] at e1
  cases e1
  have hj:j < n2:=by have:=(List.getElem?_eq_some_iff.mp e2).1; rw [Array.length_toList,zy] at this; exact this
  rw [ey1,seg_at hj] at e2
  exact f1 _ y (by lia) (by lia) e2
 have fin:∀ (m:Array Keyed) (st2:SortSt),Sim (setPending st (((pendingOf st).setIfInBounds i (sa,na + nb,pw)).eraseIdxIfInBounds (i + 1))) st2→Mgd ((arrOf st).extract (sa + k) (sa + na)) ((arrOf st).extract (sa + na) (sa + na + n2)) m →
   wpS (model prog w) A E s (do
    modify fun s=>setArr s (m.toList.zipIdx.foldl (fun a (x:Keyed × Nat)=>a.setIfInBounds (sa + k + x.2) x.1) (arrOf s))
    return (failedOf (← get)).isNone) Q st2:=fun m st2 sm mg=>by
  refine wpS_bind (wpS_modify (wpS_bind (wpS_get (wpS_pure ?_))))
  have e0:arrOf st2 = arrOf st:=sm.arr
  have hfil:∀ kk,m.toList.filter (hasK kk) = (seg (arrOf st) (sa + k) (sa + na + n2 - (sa + k))).filter (hasK kk):=fun kk=>by
   rw [mg.2 kk,ex1,ey1,show sa + na + n2 - (sa + k) = (na - k) + n2 by lia,seg_app,List.filter_append,show sa + k + (na - k) = sa + na by lia]
  have hm:m.size = sa + na + n2 - (sa + k):=by
   have:=(fil_perm hfil).length_eq
   rw [Array.length_toList] at this
   rw [this]
   unfold seg
   rw [List.length_take,List.length_drop,Array.length_toList]
   lia
  have pb:=put_back (a:=arrOf st) (m:=m) (i:=sa + k) (j:=sa + na + n2) (by lia) (by lia) hm hfil
  rw [← putAt_eq,← e0] at pb
  obtain ⟨pb1,pb2,pb3⟩:=pb
  rw [e0] at pb1 pb2
  have fl:(failedOf (setArr st2 (m.toList.zipIdx.foldl (fun a (x:Keyed × Nat)=>a.setIfInBounds (sa + k + x.2) x.1) (arrOf st2)))).isNone = true:=by
   show (failedOf st2).isNone = true
   rw [sm.failed]
   show (failedOf st).isNone = true
   rw [hf]
   rfl
  rw [fl]
  refine h _ (sm.kind.trans hk) (sm.failed.trans hf) sm.pend (by rw [e0]; exact pb1) (by rw [e0]; exact fun p hp=>pb2 p (by lia)) ?_
  have pbI:∀ p x,sa + k≤p→p < sa + na + n2→m.toList[p - (sa + k)]? = some x→ky kb≤ky x∧ky x≤ky ka:=fun p x q1 q2 e=>by
   rcases fil_mem mg.2 (List.mem_of_getElem? e) with hx | hx
   ·rw [ex1] at hx
    obtain ⟨q,r1,r2,e⟩:=mem hx
    exact ⟨Int.le_of_lt (g2 q x (by lia) (by lia) e),seg_srt s1 (by lia) (by lia) (by lia) e ka2⟩
   ·rw [ey1] at hx
    obtain ⟨q,r1,r2,e⟩:=mem hx
    exact ⟨seg_srt s2 (Nat.le_refl _) r1 (by lia) kb2 e,Int.le_of_lt (f1 q x r1 r2 e)⟩
  refine srt_of fun p q x y q1 q2 q3 e1 e2=>?_
  rw [e0] at pb3
  have e1':(setArr st2 (m.toList.zipIdx.foldl (fun a (x:Keyed × Nat)=>a.setIfInBounds (sa + k + x.2) x.1) (arrOf st2)) |> arrOf).toList[p]? = some x:=e1
  have e2':(setArr st2 (m.toList.zipIdx.foldl (fun a (x:Keyed × Nat)=>a.setIfInBounds (sa + k + x.2) x.1) (arrOf st2)) |> arrOf).toList[q]? = some y:=e2
  have o1:p < sa + k∨sa + na + n2≤p→(arrOf st).toList[p]? = some x:=fun hp=>by rw [← pb2 p hp,← e0]; exact e1'
  have o2:q < sa + k∨sa + na + n2≤q→(arrOf st).toList[q]? = some y:=fun hq=>by rw [← pb2 q hq,← e0]; exact e2'
  have i1:sa + k≤p→p < sa + na + n2→m.toList[p - (sa + k)]? = some x:=fun r1 r2=>by rw [← pb3 p r1 r2,← e0]; exact e1'
  have i2:sa + k≤q→q < sa + na + n2→m.toList[q - (sa + k)]? = some y:=fun r1 r2=>by rw [← pb3 q r1 r2,← e0]; exact e2'
  by_cases d1:p < sa + k
  ·have a1:=g1 p x q1 (by lia) (o1 (.inl d1))
   by_cases d2:q < sa + k
   ·exact seg_srt s1 q1 q2 (by lia) (o1 (.inl d1)) (o2 (.inl d2))
   ·by_cases d3:q < sa + na + n2
    ·exact Int.le_trans a1 (pbI q y (by lia) d3 (i2 (by lia) d3)).1
    ·exact Int.le_trans a1 (seg_srt s2 (Nat.le_refl _) (by lia) (by lia) kb2 (o2 (.inr (by lia))))
  ·by_cases d2:p < sa + na + n2
   ·by_cases d3:q < sa + na + n2
    ·exact srt_le mg.1 (by lia) (i1 (by lia) d2) (i2 (by lia) d3)
    ·exact Int.le_trans (pbI p x (by lia) d2 (i1 (by lia) d2)).2 (f2 q y (by lia) (by lia) (o2 (.inr (by lia))))
   ·exact seg_srt s2 (by lia) q2 (by lia) (o1 (.inr (by lia))) (o2 (.inr (by lia)))
 by_cases c2:na - k≤n2
 ·rw [if_pos c2]
  exact wpS_bind (wpS_mergeLo hk xs ys nx ny (by lia) (by lia) fst lst fin)
 ·rw [if_neg c2]
  exact wpS_bind (wpS_mergeHi hk xs ys nx ny (by lia) (by lia) fst lst fin)
end
end Ow
namespace Ow
open PySem PyProof.Rows
variable [KeyC]
theorem mirror_list {xs:Array Keyed} {X Y Z:List Keyed} (e:xs.toList = X ++ Y ++ Z) {i j:Nat} (hi:i = X.length) (hj:j = X.length + Y.length):(mirror xs i j ((j - i) / 2)).toList = X ++ Y.reverse ++ Z:=by
 subst hi hj
 have hz:X.length + Y.length≤xs.size:=by rw [← Array.length_toList,e]; simp
 apply List.ext_getElem?
 intro k
 rw [← arr_at,getElem?_mirror_all hz,arr_at,arr_at,e]
 by_cases h1:X.length≤k∧k < X.length + Y.length
 ·rw [if_pos h1,List.append_assoc,List.getElem?_append_right (by lia),List.getElem?_append_left (by lia),List.append_assoc,List.getElem?_append_right (by lia),List.getElem?_append_left (by rw [List.length_reverse]; lia),List.getElem?_reverse (by lia)]
  congr 1
  lia
 ·rw [if_neg h1]
  by_cases h2:k < X.length
  ·rw [List.append_assoc,List.getElem?_append_left h2,List.append_assoc,List.getElem?_append_left h2]
  ·rw [List.getElem?_append_right (by rw [List.length_append]; lia),List.getElem?_append_right (by rw [List.length_append,List.length_reverse]; lia)]
   simp
theorem bubble_list {xs:Array Keyed} {X Y W:List Keyed} {z:Keyed} (e:xs.toList = X ++ Y ++ z :: W) {src d:Nat} (hs:src = X.length + Y.length) (hd:d = Y.length):(bubble xs src d).toList = X ++ z :: (Y ++ W):=by
 subst hs hd
 have hz:X.length + Y.length < xs.size:=by rw [← Array.length_toList,e]; simp
 apply List.ext_getElem?
 intro k
 rw [← arr_at,getElem?_bubble hz _ (by lia),arr_at,arr_at,arr_at,e,show X.length + Y.length - Y.length = X.length by lia]
 by_cases h1:k = X.length
 ·subst h1
  rw [if_pos rfl,List.getElem?_append_right (by rw [List.length_append]; lia),List.length_append,Nat.sub_self,List.getElem?_append_right (Nat.le_refl _),Nat.sub_self]
  rfl
 ·rw [if_neg h1]
  by_cases h2:X.length < k∧k≤X.length + Y.length
  ·rw [if_pos h2,List.append_assoc,List.getElem?_append_right (by lia),List.getElem?_append_left (by lia),List.getElem?_append_right (by lia)]
   obtain ⟨m,hm⟩:∃ m,k - X.length = m + 1:=⟨k - X.length - 1,by lia⟩
   rw [hm,List.getElem?_cons_succ,List.getElem?_append_left (by lia)]
   congr 1
   lia
  ·rw [if_neg h2]
   by_cases h3:k < X.length
   ·rw [List.append_assoc,List.getElem?_append_left h3,List.getElem?_append_left h3]
   ·rw [List.getElem?_append_right (by rw [List.length_append]; lia),List.length_append,List.getElem?_append_right (by lia)]
    obtain ⟨m,hm⟩:∃ m,k - (X.length + Y.length) = m + 1:=⟨k - (X.length + Y.length) - 1,by lia⟩
    obtain ⟨m2,hm2⟩:∃ m,k - X.length = m + 1:=⟨k - X.length - 1,by lia⟩
    rw [hm,hm2,List.getElem?_cons_succ,List.getElem?_cons_succ,List.getElem?_append_right (by lia)]
    congr 1
    lia
structure Ar (p:Array (Nat × Nat × Nat)) (st:SortSt) (l:List Keyed):Prop where
 kind:kindOf st = KeyC.kd
 failed:failedOf st = none
 pend:pendingOf st = p
 arr:(arrOf st).toList = l
def IntL (l:List Keyed):Prop:=∀ x ∈ l,IsIn x
section
variable {prog:Program} {w:World} {A:Around} {E:Value→Shared→Prop} {s:Shared} [KeyL prog w A s] {p:Array (Nat × Nat × Nat)}
theorem Ar.set {st:SortSt} {l l':List Keyed} {xs:Array Keyed} (h:Ar p st l) (e:xs.toList = l'):Ar p (setArr st xs) l':=⟨h.kind,h.failed,h.pend,e⟩
theorem wpS_ltL {st:SortSt} {l:List Keyed} {i j:Nat} {x y:Keyed} {Q:Option Bool→SortSt→Prop} (h:Ar p st l) (nI:IntL l) (ex:l[i]? = some x) (ey:l[j]? = some y) (hq:Q (some (decide (ky x < ky y))) st):wpS (model prog w) A E s (ltAt' i j) Q st:=by
 rw [ltAt'_eq]
 refine wpS_bind (wpS_get ?_)
 show wpS _ _ _ _ (do let x ← elem' (arrOf st) i; let y ← elem' (arrOf st) j; lt' x y) Q st
 refine wpS_bind (wpS_elem (x:=x) (by rw [arr_at,h.arr]; exact ex) (wpS_bind (wpS_elem (x:=y) (by rw [arr_at,h.arr]; exact ey) ?_)))
 exact wpS_lt h.kind (nI x (List.mem_of_getElem? ex)) (nI y (List.mem_of_getElem? ey)) hq
theorem wpS_rev {st:SortSt} {X Y Z:List Keyed} {i j:Nat} {Q:PUnit→SortSt→Prop} (h:Ar p st (X ++ Y ++ Z)) (hi:i = X.length) (hj:j = X.length + Y.length) (hq:∀ st',Ar p st' (X ++ Y.reverse ++ Z)→Q ⟨⟩ st'):wpS (model prog w) A E s (reverseSlice' i j) Q st:=by
 rw [reverseSlice'_eq]
 exact wpS_modify (hq _ (h.set (mirror_list h.arr hi hj)))
theorem wpS_down {st:SortSt} {X Y W:List Keyed} {z:Keyed} {src dst:Nat} {Q:PUnit→SortSt→Prop} (h:Ar p st (X ++ Y ++ z :: W)) (hs:src = X.length + Y.length) (hd:dst = X.length) (hq:∀ st',Ar p st' (X ++ z :: (Y ++ W))→Q ⟨⟩ st'):wpS (model prog w) A E s (moveDown' src dst) Q st:=by
 rw [moveDown'_eq]
 exact wpS_modify (hq _ (h.set (bubble_list h.arr hs (by lia))))
end
def StS (m l:List Keyed):Prop:=Srt l∧∀ k,l.filter (hasK k) = m.filter (hasK k)
theorem StS.len {m l:List Keyed} (h:StS m l):l.length = m.length:=(fil_perm h.2).length_eq
theorem StS.mem {m l:List Keyed} (h:StS m l) {x:Keyed} (hx:x ∈ l):x ∈ m:=(fil_perm h.2).mem_iff.mp hx
theorem hasK_iff {k:Int} {x:Keyed}:hasK k x = true ↔ ky x = k:=by unfold hasK; exact beq_iff_eq
theorem StS.ins {m X Y:List Keyed} {z:Keyed} (h:StS m (X ++ Y)) (h1:∀ x ∈ X,ky x≤ky z) (h2:∀ y ∈ Y,ky z < ky y):StS (m ++ [z]) (X ++ z :: Y):=by
 obtain ⟨s,f⟩:=h
 have s':Srt (X ++ Y):=s
 obtain ⟨sx,sy,sxy⟩:=List.pairwise_append.mp s'
 refine ⟨List.pairwise_append.mpr ⟨sx,List.pairwise_cons.mpr ⟨fun y hy=>Int.le_of_lt (h2 y hy),sy⟩,fun x hx y hy=>?_⟩,fun k=>?_⟩
 ·rcases List.mem_cons.mp hy with rfl | hy
  ·exact h1 x hx
  ·exact sxy x hx y hy
 ·rw [List.filter_append,List.filter_append,← f k,List.filter_append,List.filter_cons,List.filter_cons]
  split
  ·rename_i hk
   have e:=hasK_iff.mp hk
   rw [fil_none (l:=Y) fun y hy=>by have:=h2 y hy; lia]
   simp
  ·simp
section
variable {prog:Program} {w:World} {A:Around} {E:Value→Shared→Prop} {s:Shared} [KeyL prog w A s] {p:Array (Nat × Nat × Nat)}
theorem split_at {l:List Keyed} {n:Nat} (h:n < l.length):∃ x,l[n]? = some x∧l = l.take n ++ x :: l.drop (n + 1):=⟨l[n],List.getElem?_eq_getElem h,by rw [← List.drop_eq_getElem_cons h,List.take_append_drop]⟩
theorem wpS_binSort {st:SortSt} {T M R:List Keyed} {lo n ok:Nat} {Q:Bool→SortSt→Prop} (ht:T.length = lo) (hn:n≤M.length) (hok:ok≤n) (h0:1≤ok) (nI:IntL (T ++ M)) (hR:StS (M.take ok) R) (h:Ar p st (T ++ R ++ M.drop ok))
  (hq:∀ st' R',StS (M.take n) R'→Ar p st' (T ++ R' ++ M.drop n)→Q true st'):wpS (model prog w) A E s (binarySort' lo n ok) Q st:=by
 rw [binarySort'_eq,show max ok 1 = ok by lia]
 refine wpS_bind (wpS_mono (wpS_forRange (I:=fun k c st'=>c = (none,())∧k≤n∧∃ R',StS (M.take k) R'∧Ar p st' (T ++ R' ++ M.drop k))
  (Q:=fun c st'=>c = (none,())∧∃ R',StS (M.take n) R'∧Ar p st' (T ++ R' ++ M.drop n)) ?_ ?_ ⟨rfl,hok,R,hR,h⟩) ?_)
 ·rintro k c st' hk1 hk2 ⟨rfl,_,R',hs,ha⟩
  obtain ⟨z,ez,es⟩:=split_at (l:=M) (n:=k) (by lia)
  have hl:R'.length = k:=by rw [hs.len,List.length_take]; lia
  have ed:M.drop k = z :: M.drop (k + 1):=drop_cons ez
  have nL:IntL (T ++ R' ++ M.drop k):=fun x hx=>by
   rcases List.mem_append.mp hx with hx | hx
   ·rcases List.mem_append.mp hx with hx | hx
    ·exact nI x (List.mem_append_left _ hx)
    ·exact nI x (List.mem_append_right _ (List.mem_of_mem_take (hs.mem hx)))
   ·exact nI x (List.mem_append_right _ (List.mem_of_mem_drop hx))
  have az:(T ++ R' ++ M.drop k)[lo + k]? = some z:=by rw [List.getElem?_append_right (by rw [List.length_append]; lia),List.length_append,ht,hl,Nat.sub_self,ed]; rfl
  have ar:∀ i,i < k→∀ x,R'[i]? = some x→(T ++ R' ++ M.drop k)[lo + i]? = some x:=fun i hi x ex=>by rw [List.append_assoc,List.getElem?_append_right (by lia),ht,List.getElem?_append_left (by lia),show lo + i - lo = i by lia]; exact ex
  refine wpS_bind (wpS_mono (wpS_forRange (I:=fun x c st''=>st'' = st'∧∃ l r,c = (none,l,r)∧l≤r∧r≤k∧r - l≤k - x∧(∀ i y,i < l→R'[i]? = some y→ky y≤ky z)∧(∀ i y,r≤i→R'[i]? = some y→ky z < ky y))
   (Q:=fun c st''=>st'' = st'∧∃ l r,c = (none,l,r)∧l≤k∧(∀ i y,i < l→R'[i]? = some y→ky y≤ky z)∧(∀ i y,l≤i→R'[i]? = some y→ky z < ky y)) ?_ ?_ ⟨rfl,0,k,rfl,by lia,by lia,by lia,fun i y hi=>by lia,fun i y hi e=>by have:=(List.getElem?_eq_some_iff.mp e).1; lia⟩) ?_)
  ·rintro x c st'' _ hx ⟨rfl,l,r,rfl,lr,rk,lm,g1,g2⟩
   dsimp only
   by_cases hge:l ≥ r
   ·rw [if_pos hge]
    obtain rfl:l = r:=by lia
    exact wpS_pure ⟨rfl,l,l,rfl,rk,g1,g2⟩
   ·rw [if_neg hge]
    obtain ⟨y,ey,_⟩:=split_at (l:=R') (n:=(l + r) / 2) (by lia)
    refine wpS_bind (wpS_ltL ha nL az (ar _ (by lia) y ey) ?_)
    dsimp only
    by_cases cw:ky z < ky y
    ·rw [if_pos (decide_eq_true cw)]
     exact wpS_pure ⟨rfl,l,_,rfl,by lia,by lia,by lia,g1,fun i y' hi e=>Int.lt_of_lt_of_le cw (srt_le hs.1 hi ey e)⟩
    ·rw [if_neg (by rw [decide_eq_true_eq]; exact cw)]
     exact wpS_pure ⟨rfl,_,r,rfl,by lia,by lia,by lia,fun i y' hi e=>Int.le_trans (srt_le hs.1 (by lia) e ey) (by lia),g2⟩
  ·rintro c st'' ⟨rfl,l,r,rfl,lr,rk,lm,g1,g2⟩
   obtain rfl:l = r:=by lia
   exact ⟨rfl,l,l,rfl,rk,g1,g2⟩
  ·rintro c st'' ⟨rfl,l,r,rfl,lk,g1,g2⟩
   show wpS _ _ _ _ (do moveDown' (lo + k) (lo + l); pure (ForInStep.yield (none,()))) _ _
   have e1:T ++ R' ++ M.drop k = (T ++ R'.take l) ++ R'.drop l ++ z :: M.drop (k + 1):=by rw [ed,List.append_assoc T (R'.take l),List.take_append_drop]
   rw [e1] at ha
   refine wpS_bind (wpS_down ha (by rw [List.length_append,List.length_take,List.length_drop]; lia) (by rw [List.length_append,List.length_take]; lia) fun st3 h3=>wpS_pure ⟨rfl,by lia,R'.take l ++ z :: R'.drop l,?_,?_⟩)
   ·rw [take_snocK ez]
    refine StS.ins (by rw [List.take_append_drop]; exact hs) (fun x hx=>?_) fun y hy=>?_
    ·obtain ⟨i,hi,e⟩:=mem_take hx
     exact g1 i x hi e
    ·obtain ⟨i,hi,e⟩:=mem_drop hy
     exact g2 i y hi e
   ·have e2:T ++ R'.take l ++ z :: (R'.drop l ++ M.drop (k + 1)) = T ++ (R'.take l ++ z :: R'.drop l) ++ M.drop (k + 1):=by simp
    rw [← e2]
    exact h3
 ·rintro c st' ⟨rfl,hkn,R',hs,ha⟩
  rw [show max ok n = n by lia] at hs ha
  exact ⟨rfl,R',hs,ha⟩
 ·rintro c st' ⟨rfl,R',hs,ha⟩
  exact wpS_pure (hq st' R' hs ha)
end
end Ow
namespace Ow
open PySem PyProof.Rows
variable [KeyC]
def ascL (lo a nrem:Nat):StateT SortSt Sem AscSt :=
 forIn [a:nrem] ((none,a):AscSt) fun _ __s=>do
  let __x ← ltAt' (lo + __s.snd) (lo + __s.snd - 1)
  match __x with
  | some smaller=>if smaller = true then pure (ForInStep.done (none,__s.snd)) else pure (ForInStep.yield (none,__s.snd + 1))
  | _=>pure (ForInStep.done (some none,__s.snd))
def tailL (lo n nrem:Nat):StateT SortSt Sem (Option Nat):=do
 reverseSlice' lo (lo + n)
 let __s ← ascL lo n nrem
 match __s.fst with
 | some r=>pure r
 | none=>pure (some __s.snd)
def descL (lo n nrem:Nat):StateT SortSt Sem DescSt :=
 forIn [n:nrem] ((none,n,0):DescSt) fun _ __s=>do
  let __x ← ltAt' (lo + __s.snd.fst) (lo + __s.snd.fst - 1)
  match __x with
  | some smaller =>
   if smaller = true then
    if __s.snd.snd > 0 then do
     reverseSlice' (lo + __s.snd.fst - (__s.snd.snd + 1)) (lo + __s.snd.fst)
     pure (ForInStep.yield (none,__s.snd.fst + 1,0))
    else pure (ForInStep.yield (none,__s.snd.fst + 1,0))
   else do
    let __x ← ltAt' (lo + __s.snd.fst - 1) (lo + __s.snd.fst)
    match __x with
    | some larger =>
     if larger = true then pure (ForInStep.done (none,__s.snd.fst,__s.snd.snd))
     else pure (ForInStep.yield (none,__s.snd.fst + 1,__s.snd.snd + 1))
    | _=>pure (ForInStep.done (some none,__s.snd.fst,__s.snd.snd))
  | _=>pure (ForInStep.done (some none,__s.snd.fst,__s.snd.snd))
def partL (lo n nrem:Nat):StateT SortSt Sem (Option Nat):=do
 liftM (rule "list.sort.descending-run")
 let __s ← descL lo (n + 1) nrem
 match __s.fst with
 | some r=>pure r
 | none =>
  if __s.snd.snd > 0 then do
   reverseSlice' (lo + __s.snd.fst - (__s.snd.snd + 1)) (lo + __s.snd.fst)
   tailL lo __s.snd.fst nrem
  else tailL lo __s.snd.fst nrem
local macro_rules | `(tactic| walk_at "tailL_eq")=>`(tactic| (funext s3; obtain ⟨r3,n3⟩:=s3; cases r3 <;> rfl))
local macro_rules | `(tactic| walk_at "t3L_eq")=>`(tactic| (congr 1; funext _w; congr 1; walk_at "tailL_eq"))
local macro_rules | `(tactic| walk_at "descL_eq")=>`(tactic| (congr 1; funext _u; congr 1; congr 1; funext s2; obtain ⟨r2,n2,q2⟩:=s2; cases r2 with
 | some r2=>rfl
 | none=>(dsimp only; split; (congr 1; funext _v; walk_at "t3L_eq"); walk_at "t3L_eq")))
theorem countL_eq (lo nrem:Nat):countRun' lo nrem = (do
  let __s ← ascL lo 1 nrem
  match __s.fst with
  | some r=>pure r
  | none =>
   if (__s.snd == nrem) = true then pure (some __s.snd)
   else if __s.snd > 1 then do
    let __x ← ltAt' lo (lo + __s.snd - 1)
    match __x with
    | some rose=>if rose = true then pure (some __s.snd) else do
      reverseSlice' lo (lo + __s.snd)
      partL lo __s.snd nrem
    | _=>pure none
   else partL lo __s.snd nrem):=by
 rw [countRun'_eq]
 unfold partL tailL descL ascL
 dsimp only
 congr 1
 funext __s
 obtain ⟨r,n⟩:=__s
 cases r with
 | some r=>rfl
 | none =>
  dsimp only
  split
  ·rfl
  ·split
   ·congr 1
    funext x
    cases x with
    | none=>rfl
    | some rose =>
     dsimp only
     split
     ·rfl
     ·congr 1
      funext _r
      walk_at "descL_eq"
   ·walk_at "descL_eq"
theorem at_in {T R D:List Keyed} {i j:Nat} {x:Keyed} (e:R[i]? = some x) (hj:j = T.length + i):(T ++ R ++ D)[j]? = some x:=by
 have hi:=(List.getElem?_eq_some_iff.mp e).1
 subst hj
 rw [List.append_assoc,List.getElem?_append_right (by lia),List.getElem?_append_left (by lia),show T.length + i - T.length = i by lia]
 exact e
theorem at_past {T R D:List Keyed} {j:Nat} {z:Keyed} (hj:j = T.length + R.length):(T ++ R ++ z :: D)[j]? = some z:=by
 subst hj
 rw [List.getElem?_append_right (by rw [List.length_append]; lia),List.length_append,Nat.sub_self]
 rfl
theorem StS.srtL {m l:List Keyed} (h:StS m l) {i:Nat} {y:Keyed} (ey:l[i]? = some y) (hi:l.length = i + 1):∀ x ∈ l,ky x≤ky y:=by
 intro x hx
 obtain ⟨j,hj⟩:=List.getElem?_of_mem hx
 have:=(List.getElem?_eq_some_iff.mp hj).1
 exact srt_le h.1 (by lia) hj ey
theorem StS.one (x:Keyed):StS [x] [x]:=⟨List.pairwise_singleton _ _,fun _=>rfl⟩
def DI (M' P G:List Keyed) (e:Int):Prop:=StS M' (G ++ P.reverse)∧(∀ x ∈ G,ky x = e)∧(∀ x ∈ P,e < ky x)
section
variable {prog:Program} {w:World} {A:Around} {E:Value→Shared→Prop} {s:Shared} [KeyL prog w A s] {p:Array (Nat × Nat × Nat)}
theorem int_of {T M R:List Keyed} {k:Nat} (nI:IntL (T ++ M)) (hR:∀ x ∈ R,x ∈ M.take k):IntL (T ++ R ++ M.drop k):=fun x hx=>by
 rcases List.mem_append.mp hx with hx | hx
 ·rcases List.mem_append.mp hx with hx | hx
  ·exact nI x (List.mem_append_left _ hx)
  ·exact nI x (List.mem_append_right _ (List.mem_of_mem_take (hR x hx)))
 ·exact nI x (List.mem_append_right _ (List.mem_of_mem_drop hx))
theorem wpS_ascL {st:SortSt} {T M R:List Keyed} {lo a nrem:Nat} {Q:AscSt→SortSt→Prop} (ht:T.length = lo) (hn:nrem≤M.length) (ha:1≤a) (han:a≤nrem) (nI:IntL (T ++ M)) (hR:StS (M.take a) R) (h:Ar p st (T ++ R ++ M.drop a))
  (hq:∀ n R',a≤n→n≤nrem→StS (M.take n) R'→Ar p st (T ++ R' ++ M.drop n)→(n = nrem∨∃ z y,M[n]? = some z∧R'[n - 1]? = some y∧ky z < ky y)→Q (none,n) st):wpS (model prog w) A E s (ascL lo a nrem) Q st:=by
 unfold ascL
 refine wpS_forRange (I:=fun x c st'=>st' = st∧c = (none,x)∧∃ R',StS (M.take x) R'∧Ar p st (T ++ R' ++ M.drop x)) ?_ ?_ ⟨rfl,rfl,R,hR,h⟩
 ·rintro x c st' hax hxn ⟨rfl,rfl,R',hs,hA⟩
  dsimp only
  obtain ⟨z,ez,es⟩:=split_at (l:=M) (n:=x) (by lia)
  have ed:M.drop x = z :: M.drop (x + 1):=drop_cons ez
  have hl:R'.length = x:=by rw [hs.len,List.length_take]; lia
  obtain ⟨y,ey,_⟩:=split_at (l:=R') (n:=x - 1) (by lia)
  have nL:=int_of nI fun u hu=>hs.mem hu
  have az:(T ++ R' ++ M.drop x)[lo + x]? = some z:=by rw [ed]; exact at_past (by lia)
  have ay:(T ++ R' ++ M.drop x)[lo + x - 1]? = some y:=at_in ey (by lia)
  refine wpS_bind (wpS_ltL hA nL az ay ?_)
  dsimp only
  by_cases c:ky z < ky y
  ·rw [if_pos (decide_eq_true c)]
   exact wpS_pure (hq x R' hax (by lia) hs hA (.inr ⟨z,y,ez,ey,c⟩))
  ·rw [if_neg (by rw [decide_eq_true_eq]; exact c)]
   refine wpS_pure ⟨rfl,rfl,R' ++ [z],?_,?_⟩
   ·rw [take_snocK ez]
    exact StS.ins (Y:=[]) (by rw [List.append_nil]; exact hs) (fun u hu=>Int.le_trans (hs.srtL ey (by lia) u hu) (by lia)) (fun _ hy=>absurd hy (List.not_mem_nil))
   ·have e2:T ++ R' ++ M.drop x = T ++ (R' ++ [z]) ++ M.drop (x + 1):=by rw [ed]; simp
    rw [← e2]
    exact hA
 ·rintro c st' ⟨rfl,rfl,R',hs,hA⟩
  rw [show max a nrem = nrem by lia] at hs hA ⊢
  exact hq nrem R' han (Nat.le_refl _) hs hA (.inl rfl)
theorem wpS_tailL {st:SortSt} {T M L:List Keyed} {lo n nrem:Nat} {Q:Option Nat→SortSt→Prop} (ht:T.length = lo) (hn:nrem≤M.length) (h1:1≤n) (hnn:n≤nrem) (nI:IntL (T ++ M)) (hL:StS (M.take n) L.reverse) (h:Ar p st (T ++ L ++ M.drop n))
  (hq:∀ m st' R',1≤m→m≤nrem→StS (M.take m) R'→Ar p st' (T ++ R' ++ M.drop m)→Q (some m) st'):wpS (model prog w) A E s (tailL lo n nrem) Q st:=by
 unfold tailL
 have hl:L.length = n:=by rw [← List.length_reverse,hL.len,List.length_take]; lia
 refine wpS_bind (wpS_rev h (by lia) (by lia) fun st' h'=>?_)
 refine wpS_bind (wpS_ascL ht hn h1 hnn nI hL h' fun m R' hm1 hm2 hs hA _=>wpS_pure (hq m st' R' (by lia) hm2 hs hA))
theorem wpS_descL {st:SortSt} {T M P:List Keyed} {z0:Keyed} {lo n nrem:Nat} {Q:DescSt→SortSt→Prop} (ht:T.length = lo) (hn:nrem≤M.length) (h1:1≤n) (hnn:n≤nrem) (nI:IntL (T ++ M)) (hD:DI (M.take n) P [z0] (ky z0)) (h:Ar p st (T ++ (P ++ [z0]) ++ M.drop n))
  (hq:∀ m st' P' G e,n≤m→m≤nrem→1≤G.length→DI (M.take m) P' G e→Ar p st' (T ++ (P' ++ G) ++ M.drop m)→Q (none,m,G.length - 1) st'):wpS (model prog w) A E s (descL lo n nrem) Q st:=by
 unfold descL
 refine wpS_forRange (I:=fun x c st'=>∃ P' G e,1≤G.length∧c = (none,x,G.length - 1)∧DI (M.take x) P' G e∧Ar p st' (T ++ (P' ++ G) ++ M.drop x)) ?_ ?_ ⟨P,[z0],_,Nat.le_refl 1,rfl,hD,h⟩
 ·rintro x c st' hax hxn ⟨P',G,e,hg,rfl,hD',hA⟩
  dsimp only
  obtain ⟨z,ez,es⟩:=split_at (l:=M) (n:=x) (by lia)
  have ed:M.drop x = z :: M.drop (x + 1):=drop_cons ez
  have hl:P'.length + G.length = x:=by
   have:=hD'.1.len
   rw [List.length_append,List.length_reverse,List.length_take] at this
   lia
  obtain ⟨y,ey,_⟩:=split_at (l:=G) (n:=G.length - 1) (by lia)
  have yG:y ∈ G:=List.mem_of_getElem? ey
  have ye:ky y = e:=hD'.2.1 y yG
  have nL:IntL (T ++ (P' ++ G) ++ M.drop x):=int_of nI fun u hu=>hD'.1.mem (by
   rcases List.mem_append.mp hu with hu | hu
   ·exact List.mem_append_right _ (List.mem_reverse.mpr hu)
   ·exact List.mem_append_left _ hu)
  have az:(T ++ (P' ++ G) ++ M.drop x)[lo + x]? = some z:=by rw [ed]; exact at_past (by rw [List.length_append]; lia)
  have ay:(T ++ (P' ++ G) ++ M.drop x)[lo + x - 1]? = some y:=at_in (i:=x - 1) (by rw [List.getElem?_append_right (by lia),show x - 1 - P'.length = G.length - 1 by lia]; exact ey) (by lia)
  refine wpS_bind (wpS_ltL hA nL az ay ?_)
  dsimp only
  by_cases c:ky z < ky y
  ·rw [if_pos (decide_eq_true c)]
   have hD2:DI (M.take (x + 1)) (P' ++ G.reverse) [z] (ky z):=by
    refine ⟨?_,fun u hu=>by rw [List.mem_singleton.mp hu],fun u hu=>?_⟩
    ·rw [take_snocK ez,List.reverse_append,List.reverse_reverse]
     refine StS.ins (X:=[]) (Y:=G ++ P'.reverse) hD'.1 (fun _ hx=>absurd hx List.not_mem_nil) fun u hu=>?_
     rcases List.mem_append.mp hu with hu | hu
     ·rw [hD'.2.1 u hu]; lia
     ·have:=hD'.2.2 u (List.mem_reverse.mp hu); lia
    ·rcases List.mem_append.mp hu with hu | hu
     ·have:=hD'.2.2 u hu; lia
     ·rw [hD'.2.1 u (List.mem_reverse.mp hu)]; lia
   have fin:∀ st2,Ar p st2 (T ++ (P' ++ G.reverse) ++ M.drop x)→Ar p st2 (T ++ (P' ++ G.reverse ++ [z]) ++ M.drop (x + 1)):=fun st2 h2=>by
    have e2:T ++ (P' ++ G.reverse) ++ M.drop x = T ++ (P' ++ G.reverse ++ [z]) ++ M.drop (x + 1):=by rw [ed]; simp
    rw [← e2]
    exact h2
   by_cases hng:G.length - 1 > 0
   ·rw [if_pos hng]
    have hA2:Ar p st' ((T ++ P') ++ G ++ M.drop x):=by rw [List.append_assoc T P' G]; exact hA
    refine wpS_bind (wpS_rev hA2 (by rw [List.length_append]; lia) (by rw [List.length_append]; lia) fun st2 h2=>wpS_pure ⟨P' ++ G.reverse,[z],ky z,Nat.le_refl 1,rfl,hD2,fin st2 ?_⟩)
    rw [← List.append_assoc T P']
    exact h2
   ·rw [if_neg hng]
    refine wpS_pure ⟨P' ++ G.reverse,[z],ky z,Nat.le_refl 1,rfl,hD2,fin _ ?_⟩
    obtain ⟨g,rfl⟩:=List.length_eq_one_iff.mp (show G.length = 1 by lia)
    exact hA
  ·rw [if_neg (by rw [decide_eq_true_eq]; exact c)]
   refine wpS_bind (wpS_ltL hA nL ay az ?_)
   dsimp only
   by_cases c2:ky y < ky z
   ·rw [if_pos (decide_eq_true c2)]
    exact wpS_pure (hq x st' P' G e hax (by lia) hg hD' hA)
   ·rw [if_neg (by rw [decide_eq_true_eq]; exact c2)]
    have ez2:ky z = e:=by lia
    refine wpS_pure ⟨P',G ++ [z],e,by rw [List.length_append]; lia,?_,⟨?_,fun u hu=>?_,hD'.2.2⟩,?_⟩
    ·rw [List.length_append,List.length_singleton,show G.length - 1 + 1 = G.length + 1 - 1 by lia]
    ·rw [take_snocK ez,List.append_assoc]
     exact StS.ins (X:=G) (Y:=P'.reverse) hD'.1 (fun u hu=>by rw [hD'.2.1 u hu]; lia) fun u hu=>by have:=hD'.2.2 u (List.mem_reverse.mp hu); lia
    ·rcases List.mem_append.mp hu with hu | hu
     ·exact hD'.2.1 u hu
     ·rw [List.mem_singleton.mp hu]; exact ez2
    ·have e2:T ++ (P' ++ G) ++ M.drop x = T ++ (P' ++ (G ++ [z])) ++ M.drop (x + 1):=by rw [ed]; simp
     rw [← e2]
     exact hA
 ·rintro c st' ⟨P',G,e,hg,rfl,hD',hA⟩
  rw [show max n nrem = nrem by lia] at hD' hA ⊢
  exact hq nrem st' P' G e hnn (Nat.le_refl _) hg hD' hA
theorem wpS_partL {st:SortSt} {T M R:List Keyed} {z:Keyed} {lo n nrem:Nat} {Q:Option Nat→SortSt→Prop} (ht:T.length = lo) (hn:nrem≤M.length) (h1:1≤n) (hnn:n + 1≤nrem) (nI:IntL (T ++ M)) (hR:StS (M.take n) R) (ez:M[n]? = some z) (hz:∀ x ∈ R,ky z < ky x) (h:Ar p st (T ++ R.reverse ++ M.drop n))
  (hq:∀ m st' R',1≤m→m≤nrem→StS (M.take m) R'→Ar p st' (T ++ R' ++ M.drop m)→Q (some m) st'):wpS (model prog w) A E s (partL lo n nrem) Q st:=by
 unfold partL
 refine wpS_bind (wpS_lift (wpAny_rule ⟨rfl,?_⟩))
 have ed:M.drop n = z :: M.drop (n + 1):=drop_cons ez
 have hD:DI (M.take (n + 1)) R.reverse [z] (ky z):=by
  refine ⟨?_,fun u hu=>by rw [List.mem_singleton.mp hu],fun u hu=>hz u (List.mem_reverse.mp hu)⟩
  rw [take_snocK ez,List.reverse_reverse]
  exact StS.ins (X:=[]) (Y:=R) hR (fun _ hx=>absurd hx List.not_mem_nil) hz
 have hA:Ar p st (T ++ (R.reverse ++ [z]) ++ M.drop (n + 1)):=by
  have e2:T ++ R.reverse ++ M.drop n = T ++ (R.reverse ++ [z]) ++ M.drop (n + 1):=by rw [ed]; simp
  rw [← e2]
  exact h
 refine wpS_bind (wpS_descL ht hn (by lia) hnn nI hD hA fun m st' P' G e hm1 hm2 hg hD' hA'=>?_)
 dsimp only
 have hl:P'.length + G.length = m:=by
  have:=hD'.1.len
  rw [List.length_append,List.length_reverse,List.length_take] at this
  lia
 have hL:StS (M.take m) (P' ++ G.reverse).reverse:=by rw [List.reverse_append,List.reverse_reverse]; exact hD'.1
 by_cases hng:G.length - 1 > 0
 ·rw [if_pos hng]
  have hA2:Ar p st' ((T ++ P') ++ G ++ M.drop m):=by rw [List.append_assoc T P' G]; exact hA'
  refine wpS_bind (wpS_rev hA2 (by rw [List.length_append]; lia) (by rw [List.length_append]; lia) fun st2 h2=>?_)
  exact wpS_tailL ht hn (by lia) hm2 nI hL (by rw [← List.append_assoc T P']; exact h2) hq
 ·rw [if_neg hng]
  obtain ⟨g,rfl⟩:=List.length_eq_one_iff.mp (show G.length = 1 by lia)
  exact wpS_tailL ht hn (by lia) hm2 nI hL hA' hq
theorem wpS_countL {st:SortSt} {T M:List Keyed} {lo nrem:Nat} {Q:Option Nat→SortSt→Prop} (ht:T.length = lo) (hn:nrem≤M.length) (h1:1≤nrem) (nI:IntL (T ++ M)) (h:Ar p st (T ++ M))
  (hq:∀ m st' R',1≤m→m≤nrem→StS (M.take m) R'→Ar p st' (T ++ R' ++ M.drop m)→Q (some m) st'):wpS (model prog w) A E s (countRun' lo nrem) Q st:=by
 rw [countL_eq]
 obtain ⟨a,ea,es⟩:=split_at (l:=M) (n:=0) (by lia)
 have hR:StS (M.take 1) [a]:=by
  rw [show (1:Nat) = 0 + 1 from rfl,take_snocK ea]
  exact StS.one a
 have hA:Ar p st (T ++ [a] ++ M.drop 1):=by
  have e2:T ++ M = T ++ [a] ++ M.drop 1:=by
   rw [List.append_assoc]
   congr 1
  rw [← e2]
  exact h
 refine wpS_bind (wpS_ascL ht hn (Nat.le_refl 1) h1 nI hR hA fun n R' hn1 hn2 hs hA' hor=>?_)
 dsimp only
 by_cases hnn:n = nrem
 ·rw [if_pos (by simpa using hnn)]
  exact wpS_pure (hq n st R' hn1 hn2 hs hA')
 ·rw [if_neg (by simpa using hnn)]
  obtain ⟨z,y,ez,ey,hzy⟩:=hor.resolve_left hnn
  have hl:R'.length = n:=by rw [hs.len,List.length_take]; lia
  have nL:=int_of nI fun u hu=>hs.mem hu
  by_cases hgt:n > 1
  ·rw [if_pos hgt]
   obtain ⟨b,eb,_⟩:=split_at (l:=R') (n:=0) (by lia)
   refine wpS_bind (wpS_ltL hA' nL (at_in eb (by lia)) (at_in ey (by lia)) ?_)
   dsimp only
   by_cases c:ky b < ky y
   ·rw [if_pos (decide_eq_true c)]
    exact wpS_pure (hq n st R' hn1 hn2 hs hA')
   ·rw [if_neg (by rw [decide_eq_true_eq]; exact c)]
    refine wpS_bind (wpS_rev hA' (by lia) (by lia) fun st2 h2=>?_)
    refine wpS_partL ht hn hn1 (by lia) nI hs ez (fun u hu=>?_) h2 hq
    obtain ⟨j,hj⟩:=List.getElem?_of_mem hu
    have:=srt_le hs.1 (Nat.zero_le j) eb hj
    lia
  ·rw [if_neg hgt]
   obtain ⟨b,rfl⟩:=List.length_eq_one_iff.mp (show R'.length = 1 by lia)
   refine wpS_partL ht hn hn1 (by lia) nI hs ez (fun u hu=>?_) hA' hq
   have:=hs.srtL ey (by lia) y (List.mem_of_getElem? ey)
   rw [List.mem_singleton.mp hu]
   rw [List.mem_singleton.mp (List.mem_of_getElem? ey)] at hzy
   exact hzy
end
end Ow
namespace Ow
open PySem PyProof.Rows
variable [KeyC]
def Chn (a:Array Keyed):Nat→List (Nat × Nat × Nat)→Nat→Prop
 | lo,[],hi=>lo = hi
 | lo,(s,n,_) :: r,hi=>s = lo∧0 < n∧Srt (seg a s n)∧Chn a (lo + n) r hi
theorem Chn.le {a:Array Keyed}:∀ {l:List (Nat × Nat × Nat)} {lo hi:Nat},Chn a lo l hi→lo + l.length≤hi
 | [],_,_,h=>Nat.le_of_eq h
 | (s,n,w) :: r,lo,hi,h=>by have:=h.2.2.2.le; have:=h.2.1; rw [List.length_cons]; lia
theorem srt_same {a a':Array Keyed} {i n:Nat} (h:Srt (seg a i n)) (e:∀ p,i≤p→p < i + n→a'.toList[p]? = a.toList[p]?):Srt (seg a' i n) :=
 srt_of fun p q x y h1 h2 h3 ex ey=>seg_srt h h1 h2 h3 (by rw [← e p h1 (by lia)]; exact ex) (by rw [← e q (by lia) h3]; exact ey)
theorem Chn.same {a a':Array Keyed}:∀ {l:List (Nat × Nat × Nat)} {lo hi:Nat},Chn a lo l hi→(∀ p,lo≤p→p < hi→a'.toList[p]? = a.toList[p]?)→Chn a' lo l hi
 | [],_,_,h,_=>h
 | (s,n,w) :: r,lo,hi,h,e=>by
  have hl:=h.2.2.2.le
  obtain ⟨rfl,hn,hs,hr⟩:=h
  exact ⟨rfl,hn,srt_same hs fun p h1 h2=>e p h1 (by lia),hr.same fun p h1 h2=>e p (by lia) h2⟩
theorem Chn.get {a:Array Keyed} {sa na pw sb nb pw2:Nat} {B:List (Nat × Nat × Nat)}:∀ {A:List (Nat × Nat × Nat)} {lo hi:Nat},Chn a lo (A ++ (sa,na,pw) :: (sb,nb,pw2) :: B) hi→lo≤sa∧sb = sa + na∧0 < na∧0 < nb∧Srt (seg a sa na)∧Srt (seg a sb nb)∧sb + nb≤hi
 | [],lo,hi,h=>by
  obtain ⟨rfl,h1,h2,rfl,h3,h4,h5⟩:=h
  have:=h5.le
  exact ⟨Nat.le_refl _,rfl,h1,h3,h2,h4,by lia⟩
 | (s,n,w) :: A,lo,hi,h=>by
  obtain ⟨g1,g⟩:=Chn.get (A:=A) h.2.2.2
  exact ⟨by lia,g⟩
theorem Chn.merge {a a':Array Keyed} {sa na pw sb nb pw2:Nat} {B:List (Nat × Nat × Nat)} (o:Out a' a sa (sb + nb)) (hs:Srt (seg a' sa (na + nb))):∀ {A:List (Nat × Nat × Nat)} {lo hi:Nat},Chn a lo (A ++ (sa,na,pw) :: (sb,nb,pw2) :: B) hi→Chn a' lo (A ++ (sa,na + nb,pw) :: B) hi
 | [],lo,hi,h=>by
  obtain ⟨rfl,h1,h2,rfl,h3,h4,h5⟩:=h
  refine ⟨rfl,by lia,hs,?_⟩
  rw [← Nat.add_assoc]
  exact h5.same fun p g1 g2=>o p (.inr g1)
 | (s,n,w) :: A,lo,hi,h=>by
  obtain ⟨g1,_⟩:=Chn.get (A:=A) h.2.2.2
  obtain ⟨rfl,h1,h2,h3⟩:=h
  exact ⟨rfl,h1,srt_same h2 fun p q1 q2=>o p (.inl (by lia)),Chn.merge o hs (A:=A) h3⟩
theorem Chn.mod {a:Array Keyed} {pw:Nat} {f:Nat × Nat × Nat→Nat × Nat × Nat} (hf:∀ s n w,f (s,n,w) = (s,n,pw)) {X:List (Nat × Nat × Nat)}:∀ {l:List (Nat × Nat × Nat)} {i lo hi:Nat},Chn a lo (l ++ X) hi→Chn a lo (l.modify i f ++ X) hi
 | [],i,lo,hi,h=>by cases i <;> exact h
 | (s,n,w) :: r,0,lo,hi,h=>by rw [List.modify_zero_cons,hf]; exact h
 | (s,n,w) :: r,i + 1,lo,hi,h=>by rw [List.modify_succ_cons]; exact ⟨h.1,h.2.1,h.2.2.1,Chn.mod hf h.2.2.2⟩
theorem Chn.add {a:Array Keyed} {s n w:Nat} (h:0 < n) (hs:Srt (seg a s n)):∀ {l:List (Nat × Nat × Nat)} {lo:Nat},Chn a lo l s→Chn a lo (l ++ [(s,n,w)]) (s + n)
 | [],lo,e=>by cases e; exact ⟨rfl,h,hs,rfl⟩
 | (_,_,_) :: r,lo,e=>⟨e.1,e.2.1,e.2.2.1,Chn.add h hs e.2.2.2⟩
theorem two_at {l:List (Nat × Nat × Nat)} {i:Nat} (h:i + 1 < l.length):∃ sa na pw sb nb pw2,l[i]? = some (sa,na,pw)∧l[i + 1]? = some (sb,nb,pw2)∧l = l.take i ++ (sa,na,pw) :: (sb,nb,pw2) :: l.drop (i + 2) :=
 ⟨l[i].1,l[i].2.1,l[i].2.2,l[i+1].1,l[i+1].2.1,l[i+1].2.2,List.getElem?_eq_getElem _,List.getElem?_eq_getElem _,by
  show l = l.take i ++ l[i] :: l[i+1] :: l.drop (i + 2)
  rw [← List.drop_eq_getElem_cons h,← List.drop_eq_getElem_cons (by lia),List.take_append_drop]⟩
theorem erased {l:List (Nat × Nat × Nat)} {A B:List (Nat × Nat × Nat)} {x y z:Nat × Nat × Nat} {i:Nat} (e:l = A ++ x :: y :: B) (hi:i = A.length):(l.set i z).eraseIdx (i + 1) = A ++ z :: B:=by
 subst e hi
 rw [List.set_append_right _ _ (Nat.le_refl _),Nat.sub_self,List.set_cons_zero,List.eraseIdx_append_of_length_le (by lia),show A.length + 1 - A.length = 0 + 1 by lia]
 rfl
section
variable {prog:Program} {w:World} {A:Around} {E:Value→Shared→Prop} {s:Shared} [KeyL prog w A s]
structure SI (a₀:Array Keyed) (X:List (Nat × Nat × Nat)) (hi:Nat) (st:SortSt):Prop where
 kind:kindOf st = KeyC.kd
 failed:failedOf st = none
 fil:FilEq (arrOf st) a₀
 chn:Chn (arrOf st) 0 ((pendingOf st).toList ++ X) hi
theorem wpS_mergeC {a₀:Array Keyed} {X:List (Nat × Nat × Nat)} {hi i:Nat} {st:SortSt} {Q:Bool→SortSt→Prop} (h:SI a₀ X hi st) (nI:Ints a₀) (hz:hi≤a₀.size) (hp:i + 1 < (pendingOf st).size) (hq:∀ st',SI a₀ X hi st'→(pendingOf st').size + 1 = (pendingOf st).size→Q true st'):wpS (model prog w) A E s (mergeAt' i) Q st:=by
 obtain ⟨sa,na,pw,sb,nb,pw2,e1,e2,es⟩:=two_at (l:=(pendingOf st).toList) (i:=i) (by rw [Array.length_toList]; exact hp)
 have c:=h.chn
 rw [es,List.append_assoc] at c
 obtain ⟨g1,g2,g3,g4,g5,g6,g7⟩:=Chn.get c
 refine wpS_mergeAt h.kind h.failed (h.fil.ints nI) (by rw [← Array.getElem?_toList]; exact e1) (by rw [← Array.getElem?_toList]; exact e2) g2 g3 g4 (by rw [h.fil.size]; lia) g5 g6 fun st' k1 k2 k3 k4 k5 k6=>?_
 have ep:(pendingOf st').toList = (pendingOf st).toList.take i ++ (sa,na + nb,pw) :: (pendingOf st).toList.drop (i + 2):=by
  rw [k3,Array.toList_eraseIdxIfInBounds,Array.toList_setIfInBounds]
  exact erased es (by rw [List.length_take,Array.length_toList]; lia)
 refine hq st' ⟨k1,k2,k4.trans h.fil,?_⟩ ?_
 ·rw [ep,List.append_assoc]
  exact Chn.merge k5 k6 c
 ·have:=congrArg List.length ep
  rw [Array.length_toList,List.length_append,List.length_cons,List.length_take,List.length_drop,Array.length_toList] at this
  lia
def restL (size lo n:Nat):StateT SortSt Sem (ForInStep (Option PUnit × Nat)):=do
 let st ← get
 match (pendingOf st).back? with
 | some (s1,n1,_)=>do
  let r ← forIn [:size] ((none,()):Option PUnit × PUnit) fun _ _=>do
   let st ← get
   match (if (pendingOf st).size > 1 then (pendingOf st)[(pendingOf st).size - 2]? else none) with
   | some (_,_,older)=>if older≤power' size (2 * s1 + n1) (2 * s1 + n1 + n1 + n) size then pure (ForInStep.done (none,())) else do
     let b ← mergeAt' ((pendingOf st).size - 2)
     if (!b) = true then pure (ForInStep.done (some (),())) else pure (ForInStep.yield (none,()))
   | _=>pure (ForInStep.done (none,()))
  match r.fst with
  | some r=>pure (ForInStep.done (some r,lo))
  | none=>do
   modify fun s=>setPending s ((pendingOf s).modify ((pendingOf s).size - 1) fun x=>(x.fst,x.2.fst,power' size (2 * s1 + n1) (2 * s1 + n1 + n1 + n) size))
   modify fun s=>setPending s ((pendingOf s).push (lo,n,0))
   pure (ForInStep.yield (none,lo + n))
 | _=>do
  modify fun s=>setPending s ((pendingOf s).push (lo,n,0))
  pure (ForInStep.yield (none,lo + n))
theorem wpS_rest {a₀:Array Keyed} {lo n:Nat} {st:SortSt} {Q:ForInStep (Option PUnit × Nat)→SortSt→Prop} (nI:Ints a₀) (hz:lo + n≤a₀.size) (h:SI a₀ [(lo,n,0)] (lo + n) st) (hq:∀ st',SI a₀ [] (lo + n) st'→Q (ForInStep.yield (none,lo + n)) st'):wpS (model prog w) A E s (restL a₀.size lo n) Q st:=by
 have goon:∀ (st2:SortSt),SI a₀ [(lo,n,0)] (lo + n) st2→wpS (model prog w) A E s (do
   modify fun s=>setPending s ((pendingOf s).push (lo,n,0))
   pure (ForInStep.yield ((none,lo + n):Option PUnit × Nat))) Q st2:=fun st2 hs=>by
  refine wpS_bind (wpS_modify (wpS_pure (hq _ ⟨hs.kind,hs.failed,hs.fil,?_⟩)))
  rw [List.append_nil]
  show Chn _ _ ((pendingOf st2).push (lo,n,0)).toList _
  rw [Array.toList_push]
  exact hs.chn
 unfold restL
 refine wpS_bind (wpS_get ?_)
 rcases hb:(pendingOf st).back? with _ | ⟨s1,n1,w1⟩
 ·exact goon st h
 ·dsimp only
  refine wpS_bind (wpS_mono (wpS_forRange (I:=fun _ c st'=>c = (none,())∧SI a₀ [(lo,n,0)] (lo + n) st') (Q:=fun c st'=>c = (none,())∧SI a₀ [(lo,n,0)] (lo + n) st') ?_ (fun _ _ hh=>hh) ⟨rfl,h⟩) ?_)
  ·rintro x c st2 _ hx ⟨rfl,hS⟩
   refine wpS_bind (wpS_get ?_)
   by_cases hp:(pendingOf st2).size > 1
   ·rw [if_pos hp]
    rcases hg:(pendingOf st2)[(pendingOf st2).size - 2]? with _ | ⟨s2,n2,w2⟩
    ·exact wpS_pure ⟨rfl,hS⟩
    ·dsimp only
     split
     ·exact wpS_pure ⟨rfl,hS⟩
     ·exact wpS_bind (wpS_mergeC hS nI hz (by lia) fun st3 hS3 _=>wpS_pure ⟨rfl,hS3⟩)
   ·rw [if_neg hp]
    exact wpS_pure ⟨rfl,hS⟩
  ·rintro c st2 ⟨rfl,hS⟩
   dsimp only
   refine wpS_bind (wpS_modify ?_)
   refine goon _ ⟨hS.kind,hS.failed,hS.fil,?_⟩
   show Chn _ _ (((pendingOf st2).modify _ _).toList ++ _) _
   rw [Array.toList_modify]
   exact Chn.mod (fun _ _ _=>rfl) hS.chn
local macro_rules | `(tactic| walk_at "rest_eq")=>`(tactic| (
 unfold restL
 refine congrArg (bind get) (funext fun st4=>?_)
 rcases (pendingOf st4).back? with _ | ⟨s1,n1,w1⟩
 ·rfl
 ·dsimp only
  refine congr (congrArg bind (congrArg (forIn _ _) (funext fun _=>funext fun _=>congrArg (bind get) (funext fun st5=>?_)))) (funext fun r=>?_)
  ·rcases (if (pendingOf st5).size > 1 then (pendingOf st5)[(pendingOf st5).size - 2]? else none) with _ | ⟨_,_,_⟩ <;> rfl
  ·rcases r with ⟨_ | _,_⟩ <;> rfl))
theorem wpS_sortAll {st:SortSt} {Q:PUnit→SortSt→Prop} (hk:kindOf st = KeyC.kd) (hf:failedOf st = none) (hp:pendingOf st = #[]) (nI:Ints (arrOf st))
  (hq:∀ st',failedOf st' = none→StS (arrOf st).toList (arrOf st').toList→Q ⟨⟩ st'):wpS (model prog w) A E s sortRuns' Q st:=by
 generalize ha:arrOf st = a₀ at nI hq
 rw [sortRuns'_eq]
 refine wpS_bind (wpS_get ?_)
 dsimp only
 rw [ha]
 refine wpS_bind (wpS_mono (wpS_forRange (I:=fun x c st'=>∃ lo,c = (none,lo)∧x≤lo∧lo≤a₀.size∧SI a₀ [] lo st') (Q:=fun c st'=>c = (none,a₀.size)∧SI a₀ [] a₀.size st') ?_ ?_ ⟨0,rfl,Nat.le_refl 0,Nat.zero_le _,hk,hf,by rw [ha]; exact fun _=>rfl,by rw [hp]; exact rfl⟩) ?_)
 ·rintro x c st1 _ hx ⟨lo,rfl,hxl,hl,hS⟩
  dsimp only
  by_cases hge:lo ≥ a₀.size
  ·rw [if_pos hge]
   obtain rfl:lo = a₀.size:=by lia
   exact wpS_pure ⟨rfl,hS⟩
  rw [if_neg hge]
  have hsz:(arrOf st1).toList.length = a₀.size:=by rw [Array.length_toList,hS.fil.size]
  have nI1:=hS.fil.ints nI
  have hsp:(arrOf st1).toList = (arrOf st1).toList.take lo ++ (arrOf st1).toList.drop lo:=(List.take_append_drop _ _).symm
  have ht:((arrOf st1).toList.take lo).length = lo:=by rw [List.length_take]; lia
  have hm:((arrOf st1).toList.drop lo).length = a₀.size - lo:=by rw [List.length_drop,hsz]
  have nL:IntL ((arrOf st1).toList.take lo ++ (arrOf st1).toList.drop lo):=by rw [← hsp]; exact fun u hu=>nI1 u hu
  generalize (arrOf st1).toList.take lo = T at hsp ht nL
  generalize (arrOf st1).toList.drop lo = M at hsp hm nL
  have after:∀ (n:Nat) (R:List Keyed) (st2:SortSt),1≤n→n≤a₀.size - lo→StS (M.take n) R→Ar (pendingOf st1) st2 (T ++ R ++ M.drop n)→SI a₀ [(lo,n,0)] (lo + n) st2:=fun n R st2 h1 h2 hs hA=>by
   have hR:R.length = n:=by rw [hs.len,List.length_take]; lia
   have eL:∀ p,p < lo→(arrOf st2).toList[p]? = (arrOf st1).toList[p]?:=fun p hp=>by
    rw [hA.arr,hsp,List.append_assoc,List.getElem?_append_left (by lia),List.getElem?_append_left (by lia)]
   refine ⟨hA.kind,hA.failed,FilEq.trans (fun k=>?_) hS.fil,?_⟩
   ·rw [hA.arr,hsp,List.filter_append,List.filter_append,hs.2 k,List.append_assoc,← List.filter_append,List.take_append_drop,← List.filter_append]
   ·have hc:=hS.chn
    rw [List.append_nil,← hA.pend] at hc
    refine Chn.add (by lia) ?_ (hc.same fun p _ h2=>eL p h2)
    unfold seg
    rw [hA.arr,List.append_assoc,List.drop_append_of_le_length (by lia),List.drop_of_length_le (by lia),List.nil_append,List.take_append_of_le_length (by lia),List.take_of_length_le (by lia)]
    exact hs.1
  refine wpS_bind (wpS_countL ht (by lia) (by lia) nL ⟨hS.kind,hS.failed,rfl,hsp⟩ fun m st2 R h1 h2 hs hA=>?_)
  dsimp only
  by_cases hlt:m < minRun' a₀.size a₀.size 0
  ·rw [if_pos hlt]
   refine wpS_bind (wpS_lift (wpAny_rule ⟨rfl,?_⟩))
   refine wpS_bind (wpS_binSort ht (by lia) (by lia) h1 nL hs hA fun st3 R' hs' hA'=>?_)
   rw [if_neg (by decide)]
   refine Eq.mp (congrArg (fun m=>wpS (model prog w) A E s m _ _) ?_) (wpS_rest (n:=min (a₀.size - lo) (minRun' a₀.size a₀.size 0)) nI (by lia) (after _ R' st3 (by lia) (by lia) hs' hA') fun st' h'=>⟨_,rfl,by lia,by lia,h'⟩)
   walk_at "rest_eq"
  ·rw [if_neg hlt]
   refine Eq.mp (congrArg (fun m=>wpS (model prog w) A E s m _ _) ?_) (wpS_rest (n:=m) nI (by lia) (after m R st2 h1 h2 hs hA) fun st' h'=>⟨_,rfl,by lia,by lia,h'⟩)
   walk_at "rest_eq"
 ·rintro c st' ⟨lo,rfl,h1,h2,hS⟩
  obtain rfl:lo = a₀.size:=by lia
  exact ⟨rfl,hS⟩
 ·rintro c st1 ⟨rfl,hS⟩
  dsimp only
  refine wpS_bind (wpS_mono (wpS_forRange (I:=fun x c st'=>c = (none,())∧SI a₀ [] a₀.size st'∧((pendingOf st').size≤1∨(pendingOf st').size + x≤a₀.size)) (Q:=fun c st'=>c = (none,())∧SI a₀ [] a₀.size st'∧(pendingOf st').size≤1) ?_ ?_ ⟨rfl,hS,.inr ?_⟩) ?_)
  ·rintro x c st2 _ hx ⟨rfl,hS2,hor⟩
   refine wpS_bind (wpS_get ?_)
   by_cases hle:(pendingOf st2).size≤1
   ·rw [if_pos hle]
    exact wpS_pure ⟨rfl,hS2,hle⟩
   ·rw [if_neg hle]
    refine wpS_bind (wpS_mergeC hS2 nI (Nat.le_refl _) ?_ fun st3 hS3 hz=>?_)
    ·have q:∀ (b:Prop) [Decidable b],(if b then (pendingOf st2).size - 2 - 1 else (pendingOf st2).size - 2) + 1 < (pendingOf st2).size:=fun b _=>by split <;> lia
     exact q _
    ·exact wpS_pure ⟨rfl,hS3,.inr (by lia)⟩
  ·rintro c st2 ⟨rfl,hS2,hor⟩
   exact ⟨rfl,hS2,by lia⟩
  ·have:=hS.chn.le
   rw [List.append_nil,Array.length_toList] at this
   lia
  ·rintro c st2 ⟨rfl,hS2,hle⟩
   refine wpS_pure (hq st2 hS2.failed ⟨?_,hS2.fil⟩)
   have hc:=hS2.chn
   rw [List.append_nil] at hc
   have hl:(pendingOf st2).toList.length≤1:=by rw [Array.length_toList]; exact hle
   have hz:=hS2.fil.size
   rcases hpl:(pendingOf st2).toList with _ | ⟨⟨s0,n0,w0⟩,r⟩
   ·rw [hpl] at hc
    have e0:0 = a₀.size:=hc
    have:(arrOf st2).toList = []:=List.eq_nil_of_length_eq_zero (by rw [Array.length_toList]; lia)
    rw [this]
    exact List.Pairwise.nil
   ·rw [hpl] at hc hl
    rw [List.length_cons] at hl
    have:r = []:=List.eq_nil_of_length_eq_zero (by lia)
    subst this
    obtain ⟨rfl,h1,h2,h3⟩:=hc
    have h3':0 + n0 = a₀.size:=h3
    unfold seg at h2
    rw [List.drop_zero,List.take_of_length_le (by rw [Array.length_toList]; lia)] at h2
    exact h2
end
end Ow
namespace Ow
open PySem PySem.Spec PyProof.Rows L2
abbrev intC:KeyC:=⟨fun p=>numOf p.1,fun p=>∃ n t,p.1 = .int n t,oneType'⟩
theorem intL {prog:Program} {w:World} {A:Around} {s:Shared}:@KeyL intC prog w A s:=@KeyL.mk intC prog w A s (by
 intro E st x y Q hk hx hy h
 obtain ⟨a,t,e1⟩:=hx
 obtain ⟨b,u,e2⟩:=hy
 have ka:numOf x.1 = a:=by rw [e1]; rfl
 have kb:numOf y.1 = b:=by rw [e2]; rfl
 have h':Q (some (decide (numOf x.1 < numOf y.1))) st:=h
 rw [ka,kb] at h'
 rw [lt'_eq]
 refine wpS_bind (wpS_get ?_)
 rw [show kindOf st = oneType' from hk,keyLt'_oneType,e1,e2]
 refine wpS_bind (wpS_lift (wpAny_attempt (oneLt_int ⟨rfl,?_⟩)))
 exact wpS_pure h')
section
variable {prog:Program} {w:World} {A:Around} {E:Value→Shared→Prop} {s:Shared}
theorem list_sort_treeN {a:Addr} {vs:List Value} {ns:List Int} {n:Nat} {P:PySem.Fin→Shared→Prop} (ho:s.heap.get? a = some (seqObj "list" vs.toArray n))
  (hI:IntsAre vs ns) (hz:vs.length < 100000)
  (h:∀ (out:Array Value) (ns':List Int),IntsAre out.toList ns'→ns'.Perm ns→ns'.Pairwise (·≤·)→P (.done (.ret .none)) { s with heap:=sortedHeap s.heap a vs out }) :
  wpAny (model prog w) A (Builtin.«list.sort» ⟨[.ref a],[]⟩) P E s:=by
 rw [list_sort_plain]
 have ha:a < s.heap.objs.size:=Heap.lt_size ho
 have hz':vs.toArray.size≤sizeLine:=by rw [List.size_toArray,sizeLine_eq]; lia
 refine wpAny_bind (listItems_at ho rfl ?_)
 refine wpAny_bind (listUpdate_at ho rfl ?_ hz' (Nat.zero_le _))
 obtain ⟨e1,ho1⟩:∃ e1,(s.heap.update a (Obj.mapSeq fun _=>#[])).get? a = some (seqObj "list" #[] e1):=⟨_,get?_update_seq ho (fun _=>#[])⟩
 refine wpAny_bind (seqEpoch_at ho1 rfl ?_)
 refine wpAny_bind (wpAny_newTuple ?_ (by simpa using hz'))
 refine wpAny_bind (wpAny_newList ?_)
 refine wpAny_holding ?_
 have ho6:(((s.heap.update a (Obj.mapSeq fun _=>#[])).push (seqObj "tuple" vs.toArray 0)).push (seqObj "list" #[] 0)).get? a = some (seqObj "list" #[] e1):=by
  rw [Heap.get?_push_ne _ _ _ (by rw [size_push',Heap.size_update]; exact Nat.ne_of_lt (Nat.lt_succ_of_lt ha)),Heap.get?_push_ne _ _ _ (by rw [Heap.size_update]; exact Nat.ne_of_lt ha)]
  exact ho1
 show wpAny (model prog w) A _ P E { s with heap:=((s.heap.update a (Obj.mapSeq fun _=>#[])).push (seqObj "tuple" vs.toArray 0)).push (seqObj "list" #[] 0) }
 dsimp only
 have hsz:vs.toArray.size = vs.length:=by simp
 have fin:∀ st':SortSt,(arrOf st').Perm (pairsOf vs)→SortedTo (arrOf st') (pairsOf vs).size →
   P (.done (.ret .none)) { s with heap:=sortedHeap s.heap a vs ((arrOf st').map (·.2)) }:=by
  intro st' hp hs
  obtain ⟨ns',h1,h2,h3⟩:=sorted_out hI hp hs
  exact h _ ns' h1 h2 h3
 by_cases h2:vs.toArray.size < 2
 ·rw [if_pos h2,if_pos h2]
  refine wpAny_bind (wpAny_pure ?_)
  rw [StateT.run_pure]
  refine wpAny_bind (wpAny_pure ?_)
  dsimp only
  refine wpAny_bind (seqEpoch_at ho6 rfl ?_)
  refine wpAny_bind (listUpdate_at ho6 rfl ?_ (hsz2:=by rw [Array.size_map]; show (pairsOf vs).size≤_; rw [pairsOf_size,sizeLine_eq]; lia))
  simp only [bne_self_eq_false,Bool.false_eq_true,if_false]
  refine wpAny_pure (fin (SortSt.mk' general' (vs.toArray.zip vs.toArray) #[] 7 none) (Array.Perm.refl _) ?_)
  intro i j hij hj
  have:i = j:=by rw [pairsOf_size] at hj; lia
  subst this; exact Int.le_refl _
 ·rw [if_neg h2,if_neg h2]
  obtain ⟨v₁,v₂,rest,rfl⟩:∃ v₁ v₂ rest,vs = v₁ :: v₂ :: rest:=by
   match vs,hsz,h2 with
   | [],_,h2=>simp at h2
   | [_],_,h2=>simp at h2
   | v₁ :: v₂ :: rest,_,_=>exact ⟨v₁,v₂,rest,rfl⟩
  rw [keyKind_ints hI]
  refine wpAny_bind (wpAny_pure ?_)
  have hik:@Ints intC (pairsOf (v₁ :: v₂ :: rest)):=fun p hp=>hI.intKeys p hp
  refine wpAny_bind (wpAny_mono (@wpS_sortAll intC prog w A (fun _ _=>False) _ intL (SortSt.mk' oneType' ((v₁ :: v₂ :: rest).toArray.zip (v₁ :: v₂ :: rest).toArray) #[] 7 none)
   (fun _ st'=>failedOf st' = none∧@StS intC (pairsOf (v₁ :: v₂ :: rest)).toList (arrOf st').toList)
   rfl rfl rfl hik fun st' a1 a2=>⟨a1,a2⟩) ?_ fun _ _ e=>e.elim)
  rintro ⟨⟨⟩,st'⟩ s' ⟨rfl,hf,hst⟩
  have hp:(arrOf st').Perm (pairsOf (v₁ :: v₂ :: rest)):=Array.perm_iff_toList_perm.mpr (@fil_perm intC _ _ hst.2)
  have hs:SortedTo (arrOf st') (pairsOf (v₁ :: v₂ :: rest)).size:=fun i j hij hj=>by
   rw [← hp.size_eq] at hj
   rw [K_eq hj,K_eq (by lia:i < (arrOf st').size)]
   have hst':@Srt intC (arrOf st').toList:=hst.1
   have gi:(arrOf st').toList[i]? = some (arrOf st')[i]:=by rw [Array.getElem?_toList]; exact Array.getElem?_eq_getElem (by lia)
   have gj:(arrOf st').toList[j]? = some (arrOf st')[j]:=by rw [Array.getElem?_toList]; exact Array.getElem?_eq_getElem hj
   exact @srt_le intC _ hst' i j hij _ _ gi gj
  dsimp only
  refine wpAny_bind (seqEpoch_at ho6 rfl ?_)
  refine wpAny_bind (listUpdate_at ho6 rfl ?_ (hsz2:=by refine Nat.le_trans (Nat.le_of_eq ((Array.size_map ..).trans (hp.size_eq.trans (pairsOf_size _)))) ?_; rw [sizeLine_eq]; lia))
  rw [hf]
  simp only [bne_self_eq_false,Bool.false_eq_true,if_false]
  exact wpAny_pure (fin st' hp hs)
end
section
variable {prog:Program} {w:World} {A:Around} {E:Value→Shared→Prop} {s:Shared} {S:Addr} {o:Obj} {ks:List Int}
theorem sorted_setN {Q:Value→Shared→Prop} (hh:A.handled = none) (hS:s.heap.get? S = some o) (SI:SetI w o ks) (h64:ks.length < 10000)
  (k:∀ (p:Addr) (s':Shared) (out:List Value) (ns:List Int) (n:Nat),s'.gens = s.gens→s'.os = s.os→(∀ b u,s.heap.get? b = some u→s'.heap.get? b = some u)→s.heap.objs.size≤p→s'.heap.get? p = some (seqObj "list" out.toArray n)→IntsAre out ns→ns.Perm ks→ns.Pairwise (·≤·)→Q (.ref p) s') :
  wpAny (model prog w) A (call (.builtin "sorted") [.ref S]) Q E s:=by
 obtain ⟨es,ep,t,rfl,al,rfl,nd,hz,hf,led,gd⟩:=SI
 refine Calls.call_function_entry kind_sorted plain_sorted entry_sorted (args_sorted1 _) ?_
 unfold Builtin.«sorted»
 refine wpAny_bind (m:=checkCount "sorted" 1 1 _) (wpAny_pure (wpAny_bind (collect_set (A:=A.in1) hh hS hf hz led gd fun s1 acc e1 e2 e3 lt kp Y=>?_)))
 have ai:∀ v ∈ acc,∃ k tk,v = Value.int k tk:=fun v hv=>by
  obtain ⟨e,he,rfl⟩:=List.mem_map.mp (Y.mem_iff.mp hv)
  obtain ⟨k,tk,rfl⟩:=al e he
  exact ⟨k,tk,rfl⟩
 have la:acc.length = es.size:=by rw [Y.length_eq,List.length_map,Array.length_toList]
 have l64:acc.length < 100000:=by rw [la]; rw [List.length_map,Array.length_toList] at h64; lia
 refine wpAny_bind (wpAny_newList ?_ (by rw [sizeLine_eq]; lia))
 have gL:(s1.heap.push (seqObj "list" acc.toArray 0)).get? s1.heap.objs.size = some (seqObj "list" acc.toArray 0):=Heap.get?_push_size _ rfl
 refine wpAny_bind (wpAny_holding (wpAny_call_entry slot_list_sort ⟨_,gL,rfl⟩ entry_list_sort (list_sort_treeN gL (ints_of ai) l64 fun out ns a1 a2 a3=>⟨_,rfl,?_⟩) (args_list_sort _)))
 obtain ⟨m,gO⟩:∃ m,(sortedHeap (s1.heap.push (seqObj "list" acc.toArray 0)) s1.heap.objs.size acc out).get? s1.heap.objs.size = some (seqObj "list" out m):=sortedHeap_at gL
 have lt1:s.heap.objs.size≤s1.heap.objs.size:=Nat.le_of_lt lt
 refine wpAny_pure ⟨_,rfl,k _ _ out.toList ns m e1 e2 (fun b u q=>?_) lt1 ?_ a1 (a2.trans ?_) a3⟩
 ·have q1:=kp b u q
  exact (sortedHeap_old (Nat.ne_of_lt (Heap.lt_size q1)) (by rw [size_push']; exact Nat.lt_succ_of_lt (Heap.lt_size q1))).trans (Heap.get?_push_of_some _ q1)
 ·exact gO
 ·have z:=Y.map intOf
  rw [List.map_map] at z
  refine z.trans (List.Perm.of_eq (List.map_congr_left fun e he=>?_))
  obtain ⟨k,tk,rfl⟩:=al e he
  rfl
end
theorem call_sorted_setN {X:Cx} (hh:X.A.handled = none):CallR X (.builtin "sorted") (fun xs H Q=>∃ (p:Addr) (ns:List Int),xs = [.ref p]∧H p = some (sI X.w p ns)∧ns.length < 10000∧∀ (q:Addr) (zs:List Int),H q = none→zs.Pairwise (· < ·)→(∀ x,x ∈ zs ↔ x ∈ ns)→Q (.ref q) (upd H q (.lst (zs.map V.int)))):=by
 intro pins s σ H xs us Q I r h
 obtain ⟨p,ns,rfl,hp,hn,k⟩:=h
 obtain ⟨u,rfl,ru⟩:=r.one
 cases (show u = Value.ref p from ru)
 obtain ⟨⟨o,ks,go,SI,mem,lk⟩,_⟩:=I.hok p _ hp
 have nd:ks.Nodup:=by
  obtain ⟨_,_,_,_,_,_,nd,_⟩:=SI
  exact nd
 refine sorted_setN hh go SI (by lia) fun q s' out zs n e1 e2 kp le gq iz pm pw=>?_
 have fr:H q = none:=I.hok.fresh le
 have hb:AllBare s'.gens:=by rw [e1]; exact I.bare
 have lz:zs.length = ks.length:=pm.length_eq
 have I2:=I.call' (H':=upd H q (.lst (zs.map V.int))) (s':=s') (ch:=[]) e2 (Un.laid kp le fr) (I.hok.laid kp le ⟨by rw [List.length_map,sizeLine_eq]; lia,out,n,ints_vals iz,gq⟩) hb fun b z=>nomatch z
 exact ⟨.ref q,_,I2,rfl,k q zs fr (strict pw (pm.nodup_iff.mpr nd)) fun x=>by rw [pm.mem_iff,mem x]⟩
end Ow
namespace Ow
open PySem PySem.Spec PyProof.Rows L2
section
variable {prog:Program} {w:World} {A:Around} {R:Result→Shared→Prop} {s:Shared}
end
section
variable {X:Cx} {elt iter:Expr} {x y:Str} {px py pos tp:Pos} {kk:Nat} {scope:Scope} {wi:TI} {te:TE} {N:List Str} {cl:List (Str × Addr)} {cap:L2.St→L2.St}
end
section
variable {X:Cx} {elt iter:Expr} {x y0:Str} {px py pos tp:Pos} {kk:Nat} {scope:Scope} {wi:TI} {te:TE} {cl:List (Str × Addr)}
end
end Ow
namespace L2
open PySem PySem.Spec PyProof.Rows
section
variable {X:Cx}
end
end L2
namespace L2
open PySem PySem.Spec PyProof.Rows
end L2
namespace L2
open PySem PySem.Spec PyProof.Rows
theorem vals_refs:∀ {ps:List Addr} {us:List Value},Vals (ps.map V.ref) us→us = ps.map Value.ref
 | [],_,.nil=>rfl
 | p :: ps,_,.cons (b:=u) r rs=>by
  have e:u = Value.ref p:=r
  rw [e,vals_refs (ps:=ps) rs]
  rfl
def KeyTurn (X:Cx) (σ:St) (H:Hp) (q:Addr) (ps:List Addr) (kf:Nat→Int):Prop :=
 ∀ (i:Nat) (p:Addr) (pins:List (Addr × Obj)) (s:Shared),ps[i]? = some p→Inv X pins σ H s→wpAny (model X.prog X.w) X.A.in1 (call (.ref q) [.ref p]) (fun x s'=>∃ t,x = .int (kf i) t∧Inv X pins σ H s') (fun _ _=>False) s
section
variable {X:Cx} {pins:List (Addr × Obj)} {σ:St} {H:Hp} {s:Shared} {l q Ia S:Addr} {ps:List Addr} {kf:Nat→Int}
theorem Inv.refs (I:Inv X pins σ H s) (h:H l = some (.lst (ps.map V.ref))):s.heap.IsList l (ps.map Value.ref).toArray:=by
 obtain ⟨its,r,pl,_⟩:=I.list (SqL.of h)
 rw [← vals_refs r]
 exact pl.isList
theorem Inv.mine {t':Nat} {h':Heap} (I:Inv X pins σ H s) (f:FpOk X pins H Ia) (k:∀ b o,b ≠ Ia→s.heap.get? b = some o→h'.get? b = some o):Inv X pins σ H { s with heap:=h',toks:=t' } :=
 I.turned k f.1 f.2.1 f.2.2.2.1 f.2.2.2.2.1 f.2.2.2.2.2
theorem Inv.hold {oI oS:Obj} (I:Inv X pins σ H s) (fI:FpOk X pins H Ia) (fS:FpOk X pins H S) (hI:s.heap.get? Ia = some oI) (hS:s.heap.get? S = some oS) (nI:∀ v,oI.data ≠ .cell v) (nS:∀ v,oS.data ≠ .cell v):Inv X ((Ia,oI) :: (S,oS) :: pins) σ H s :=
 I.pins_of fun p hp=>by
  rcases List.mem_cons.mp hp with rfl | hp
  ·exact ⟨hI,fI.1,fI.2.1,fI.2.2.1,nI⟩
  ·rcases List.mem_cons.mp hp with rfl | hp
   ·exact ⟨hS,fS.1,fS.2.1,fS.2.2.1,nS⟩
   ·exact I.pin p (List.mem_append_right _ hp)
theorem Inv.drop2 {oI oS:Obj} (I:Inv X ((Ia,oI) :: (S,oS) :: pins) σ H s):Inv X pins σ H s∧s.heap.get? Ia = some oI∧s.heap.get? S = some oS :=
 ⟨I.pins_of fun p hp=>I.pin p (List.mem_append_right _ (List.mem_cons_of_mem _ (List.mem_cons_of_mem _ hp))),(I.pin _ (List.mem_append_right _ (List.mem_cons_self ..))).1,(I.pin _ (List.mem_append_right _ (List.mem_cons_of_mem _ (List.mem_cons_self ..)))).1⟩
abbrev best2 (p:Addr) (k:Int) (t:Tok) (c:Nat):Obj:=seqObj "list" #[.ref p,.int k t] c
theorem max_loopI {R:Result→Shared→Prop} (hh:X.A.handled = none) (hl:H l = some (.lst (ps.map V.ref))) (hlI:l ≠ Ia) (hSI:S ≠ Ia) (fI:FpOk X pins H Ia) (fS:FpOk X pins H S) (turn:KeyTurn X σ H q ps kf)
  (hR:∀ i p s',ps[i]? = some p→(∀ j,j < ps.length→kf j≤kf i∧(j < i→kf j < kf i))→Inv X pins σ H s'→R (.ok (.ret (.ref p))) s') :
  ∀ (r j i:Nat) (s:Shared) (pb:Addr) (tb:Tok) (c:Nat) (oI:Obj),ps.length - (j + 1) = r→j + 1≤ps.length→Inv X pins σ H s→s.heap.get? S = some (best2 pb (kf i) tb c)→s.heap.get? Ia = some oI→s.heap.IsListIter Ia l (j + 1) →
   ps[i]? = some pb→i≤j→(∀ j',j'≤j→kf j'≤kf i∧(j' < i→kf j' < kf i))→codeAny (model X.prog X.w) X.A (.builtin "max.loop" ⟨[.ref Ia,.ref q,.ref S],[]⟩) R s:=by
 have nm:(toString "max" ++ toString ".loop":String) = "max.loop":=by decide
 have W:=Walks.list (prog:=X.prog) (w:=X.w) (A:=X.A.in1) hh Ia l hlI (ps.map Value.ref).toArray
 have sz:(ps.map Value.ref).toArray.size = ps.length:=by rw [List.size_toArray,List.length_map]
 intro r
 induction r with
 | zero =>
  intro j i s pb tb c oI hr hj I gS gI it hb ij best
  have fin:j + 1 = ps.length:=by lia
  refine codeAny_builtin PySem.F.entry_max_loop (by
   rw [Around.under_plainId PySem.F.plain_max_loop _]
   refine wpAny_bind (wpAny_seqItems gS rfl (wpAny_bind (wpAny_tryCatch (W.done _ _ _ ⟨by rw [sz,← fin]; exact it,I.refs hl⟩ fun h' tk' k'=>?_))))
   have J:=I.mine (t':=tk') fI fun b o n e=>k' b o (by simpa using n) e
   have gS':=k' S _ (by simpa using hSI) gS
   refine wpAny_bind (wpAny_updateSeq gS' rfl (wpAny_bind (wpAny_letGo (wpAny_pure ?_))))
   exact hR i pb _ hb (fun j' hj'=>best j' (by lia)) (J.mine fS fun b o n e=>((Heap.SameBut.update h' S (Obj.mapSeq fun _=>(#[]:Array Value))).2 b n).trans e))
 | succ r ih =>
  intro j i s pb tb c oI hr hj I gS gI it hb ij best
  have lt:j + 1 < ps.length:=by lia
  refine codeAny_builtin PySem.F.entry_max_loop (by
   rw [Around.under_plainId PySem.F.plain_max_loop _]
   refine wpAny_bind (wpAny_seqItems gS rfl (wpAny_bind (wpAny_tryCatch (W.item (j + 1) _ _ _ (by rw [sz]; exact lt) ⟨it,I.refs hl⟩ fun v h' tk' hP st' k'=>?_))))
   obtain ⟨p,ep,rfl⟩:∃ p,ps[j + 1]? = some p∧v = Value.ref p:=by
    have hv:(ps.map Value.ref)[j + 1]? = some v:=by simpa using hP
    rw [List.getElem?_map] at hv
    cases e:ps[j + 1]? with
    | none=>rw [e] at hv; cases hv
    | some p=>rw [e] at hv; cases hv; exact ⟨p,rfl,rfl⟩
   have J:=I.mine (t':=tk') fI fun b o n e=>k' b o (by simpa using n) e
   have gS':=k' S _ (by simpa using hSI) gS
   obtain ⟨oI',gI',cI,dI⟩:=id st'.1
   have JJ:=J.hold fI fS gI' gS' (by rw [dI]; nofun) nofun
   refine wpAny_bind (wpAny_tryCatch (wpAny_holding (wpAny_mono (turn (j + 1) p _ _ ep JJ) (fun x s2 he=>?_) fun _ _ z=>z.elim)))
   obtain ⟨t2,rfl,J2⟩:=he
   obtain ⟨J2,gI2,gS2⟩:=J2.drop2
   have it2:s2.heap.IsListIter Ia l (j + 1 + 1):=⟨oI',gI2,cI,dI⟩
   refine wpAny_bind (wpAny_tryCatch (wpAny_holding (wpAny_bind (CmpOf.ints_gt (prog:=X.prog) (w:=X.w) (A:=X.A.in1) (P:=fun i v=>∃ t,v = .int (kf i) t) kf (fun i v h=>h) (j + 1) i _ _ _ _ _ ⟨t2,rfl⟩ ⟨tb,rfl⟩ ?_))))
   refine wpAny_bind (wpAny_holding (wpAny_truthy_bool (wpAny_bind (wpAny_letGo (wpAny_pure ?_)))))
   by_cases b':kf (j + 1) > kf i
   ·simp only [b',decide_true,if_true]
    have s1:=Heap.SameBut.update s2.heap S (Obj.mapSeq fun _=>#[.ref p,.int (kf (j + 1)) t2])
    refine wpAny_bind (wpAny_updateSeq gS2 rfl (wpAny_bind (wpAny_letGo ?_)))
    rw [nm]
    refine wpAny_pure ⟨plainId_quiet PySem.F.plain_max_loop _,ih (j + 1) (j + 1) _ p t2 _ oI' (by lia) lt (J2.mine fS fun b o n e=>(s1.2 b n).trans e) (get?_update_seq gS2 fun _=>#[.ref p,.int (kf (j + 1)) t2]) ((s1.2 Ia hSI.symm).trans gI2) ⟨oI',(s1.2 Ia hSI.symm).trans gI2,cI,dI⟩ ep (Nat.le_refl _) fun j' hj'=>?_⟩
    by_cases e:j' = j + 1
    ·subst e; exact ⟨Int.le_refl _,fun z=>absurd z (Nat.lt_irrefl _)⟩
    ·have:=(best j' (by lia)).1
     exact ⟨by lia,fun _=>by lia⟩
   ·simp only [b',decide_false,Bool.false_eq_true,if_false]
    refine wpAny_bind (wpAny_letGo ?_)
    rw [nm]
    refine wpAny_pure ⟨plainId_quiet PySem.F.plain_max_loop _,ih (j + 1) i _ pb tb c oI' (by lia) lt J2 gS2 gI2 it2 hb (by lia) fun j' hj'=>?_⟩
    by_cases e:j' = j + 1
    ·subst e; exact ⟨by lia,fun z=>absurd z (by lia)⟩
    ·exact best j' (by lia))
theorem call_maxkey {E:Value→Shared→Prop} {Q:Value→Shared→Prop} (I:Inv X pins σ H s) (hc:X.calm = true) (hl:H l = some (.lst (ps.map V.ref))) (hne:0 < ps.length) (turn:KeyTurn X σ H q ps kf)
  (hQ:∀ i p s',ps[i]? = some p→(∀ j,j < ps.length→kf j≤kf i∧(j < i→kf j < kf i))→Inv X pins σ H s'→Q (.ref p) s'):wpAny (model X.prog X.w) X.A (call (.builtin "max") [.ref l] [(Str.ofString "key",.ref q)]) Q E s:=by
 have nm:(toString "max" ++ toString ".loop":String) = "max.loop":=by decide
 have hh:=I.ok.hd hc
 have hls:=I.refs hl
 obtain ⟨ol,hol,_⟩:=id hls
 have hll:l < s.heap.objs.size:=Heap.lt_size hol
 refine kmk_tree PySem.F.kind_max PySem.F.plain_max PySem.F.entry_max (kmk_max_key _ _) (wpAny_bind (wpAny_of_eq (show Builtin.Builtins.bindParams "max" ["key", "default"] 0 ⟨[],[(Str.ofString "key",.ref q)]⟩ = pure [some (.ref q),none] from rfl) ?_))
 refine wpAny_bind (wpAny_pure (wpAny_bind (wpAny_pyIter_list hls (wpAny_bind (wpAny_newList ?_ (Nat.zero_le _))))))
 rw [nm]
 let oI:Obj:={ cls:=.type "list_iterator",data:=.fields #[.ref l,.int 0 0] }
 have sS:(s.heap.push oI).objs.size = s.heap.objs.size + 1:=size_push' ..
 have fI:FpOk X pins H s.heap.objs.size:=I.fpOk (Nat.le_refl _) (I.hok.fresh (Nat.le_refl _))
 have fS:FpOk X pins H (s.heap.push oI).objs.size:=I.fpOk (by rw [sS]; exact Nat.le_succ _) (I.hok.fresh (by rw [sS]; exact Nat.le_succ _))
 have hlI:l ≠ s.heap.objs.size:=Nat.ne_of_lt hll
 have hSI:(s.heap.push oI).objs.size ≠ s.heap.objs.size:=by rw [sS]; exact Nat.succ_ne_self _
 have gI:((s.heap.push oI).push (seqObj "list" #[] 0)).get? s.heap.objs.size = some oI:=Heap.get?_push_of_some _ (Heap.get?_push_size _ rfl)
 have gS:((s.heap.push oI).push (seqObj "list" #[] 0)).get? (s.heap.push oI).objs.size = some (seqObj "list" #[] 0):=Heap.get?_push_size _ rfl
 have W:=Walks.list (prog:=X.prog) (w:=X.w) (A:=X.A.in1) hh s.heap.objs.size l hlI (ps.map Value.ref).toArray
 have sz:(ps.map Value.ref).toArray.size = ps.length:=by rw [List.size_toArray,List.length_map]
 refine wpAny_pure ⟨plainId_quiet PySem.F.plain_max_loop _,codeAny_builtin PySem.F.entry_max_loop ?_⟩
 rw [Around.under_plainId PySem.F.plain_max_loop _]
 have J0:∀ tk,Inv X pins σ H { s with heap:=(s.heap.push oI).push (seqObj "list" #[] 0),toks:=tk }:=fun tk=>I.kept (t':=tk) fun b u e=>Heap.get?_push_of_some _ (Heap.get?_push_of_some _ e)
 refine wpAny_bind (wpAny_seqItems gS rfl (wpAny_bind (wpAny_tryCatch (W.item 0 _ _ _ (by rw [sz]; exact hne) ⟨⟨_,gI,rfl,rfl⟩,(J0 s.toks).refs hl⟩ fun v h' tk' hP st' k'=>?_))))
 obtain ⟨p,ep,rfl⟩:∃ p,ps[0]? = some p∧v = Value.ref p:=by
  have hv:(ps.map Value.ref)[0]? = some v:=by simpa using hP
  rw [List.getElem?_map] at hv
  cases e:ps[0]? with
  | none=>rw [e] at hv; cases hv
  | some p=>rw [e] at hv; cases hv; exact ⟨p,rfl,rfl⟩
 have J:=(J0 s.toks).mine (t':=tk') fI fun b o n e=>k' b o (by simpa using n) e
 have gS':=k' _ _ (by simpa using hSI) gS
 obtain ⟨oI',gI',cI,dI⟩:=id st'.1
 have JJ:=J.hold fI fS gI' gS' (by rw [dI]; nofun) nofun
 refine wpAny_bind (wpAny_tryCatch (wpAny_holding (wpAny_mono (turn 0 p _ _ ep JJ) (fun x s2 he=>?_) fun _ _ z=>z.elim)))
 obtain ⟨t2,rfl,J2⟩:=he
 obtain ⟨J2,gI2,gS2⟩:=J2.drop2
 have s1:=Heap.SameBut.update s2.heap (s.heap.push oI).objs.size (Obj.mapSeq fun _=>#[.ref p,.int (kf 0) t2])
 refine wpAny_bind (wpAny_updateSeq gS2 rfl ?_)
 rw [nm]
 refine wpAny_pure ⟨plainId_quiet PySem.F.plain_max_loop _,max_loopI hh hl hlI hSI fI fS turn hQ _ 0 0 _ p t2 _ oI' rfl hne (J2.mine fS fun b o n e=>(s1.2 b n).trans e) (get?_update_seq gS2 fun _=>#[.ref p,.int (kf 0) t2]) ((s1.2 _ hSI.symm).trans gI2) ⟨oI',(s1.2 _ hSI.symm).trans gI2,cI,dI⟩ ep (Nat.le_refl _) fun j' hj'=>?_⟩
 have e:j' = 0:=by lia
 subst e
 exact ⟨Int.le_refl _,fun z=>absurd z (Nat.lt_irrefl _)⟩
end
end L2
namespace L2
open PySem PySem.Spec PyProof.Rows
def Cx.inF (X:Cx):Cx:={ X with A:=X.A.in1,xe:=fun _ _=>False }
theorem Inv.inF {X:Cx} {pins:List (Addr × Obj)} {σ:St} {H:Hp} {s:Shared} (I:Inv X pins σ H s):Inv X.inF pins σ H s :=
 ⟨⟨I.ok.mod,I.ok.kind,I.ok.glob,I.ok.blt,I.ok.above,I.ok.inj,I.ok.has,I.ok.cab,I.ok.hd,I.ok.frames,I.ok.stk,I.ok.exf,I.ok.bs,I.ok.bsz,I.ok.noex,I.ok.exfs,I.ok.funs,I.ok.frf⟩,I.os,I.bare,I.base,I.loc,I.cell,I.free,I.freeC,I.pin,I.hok,I.len⟩
theorem Inv.outF {X:Cx} {pins:List (Addr × Obj)} {σ:St} {H:Hp} {s:Shared} (I:Inv X.inF pins σ H s):Inv X pins σ H s :=
 ⟨⟨I.ok.mod,I.ok.kind,I.ok.glob,I.ok.blt,I.ok.above,I.ok.inj,I.ok.has,I.ok.cab,I.ok.hd,I.ok.frames,I.ok.stk,I.ok.exf,I.ok.bs,I.ok.bsz,I.ok.noex,I.ok.exfs,I.ok.funs,I.ok.frf⟩,I.os,I.bare,I.base,I.loc,I.cell,I.free,I.freeC,I.pin,I.hok,I.len⟩
def kwlAt (st:Stmt) (i:Nat):Expr:=match (defBody st).getD i (.Pass ⟨0,0,0,0⟩) with
 | .Assign _ (.Call _ _ [k] _) _=>k.value
 | _=>.Constant .none 0 ⟨0,0,0,0⟩
def maxKAt (P:Addr) (lp:Pos) (qual:Str) (j0 j1:Nat) (te:TE) (σ:St) (Q:VK):V→Hp→Prop:=fun x H1=>∃ (l:Addr) (ps:List Addr) (kf:Nat→Int) (v0 v1:V),x = .ref l∧H1 l = some (.lst (ps.map V.ref))∧0 < ps.length ∧
 σ[j0]? = some (some v0)∧σ[j1]? = some (some v1)∧TabOk P lp qual H1∧∀ H',(∀ a u,a ≠ P→H1 a = some u→H' a = some u)→TabOk P lp qual H' →
  (∀ i p,ps[i]? = some p→∀ Q':VK,Q' (.int (kf i)) H'→te [some (.ref p),some v0,some v1] H' Q')∧∀ i p,ps[i]? = some p→(∀ j,j < ps.length→kf j≤kf i∧(j < i→kf j < kf i))→Q (.ref p) H'
def tMaxK (P:Addr) (lp:Pos) (qual:Str) (te0:TE) (j0 j1:Nat) (te:TE):TE:=fun σ H Q=>te0 σ H (maxKAt P lp qual j0 j1 te σ Q)
theorem pe_maxKey {X:Cx} {k:Nat} {e:Expr} {te0 te:TE} {params:Arguments} {body:Expr} {scope:Scope} {lp kp p pos:Pos} {P:Addr} {cl:List (Str × Addr)} {qual x y0 y1:Str} {j0 j1:Nat} (hc:X.calm = true) (hr:Room (k + 1) X.A) (hfn:∀ x,X.fn x = true)
  (hg:Gl X "max") (hm:X.mg "max" = none) (ha:PE X e te0) (hL:PE X (.Lambda params body scope lp) (tLam P lp qual params body scope cl))
  (h0:X.N[j0]? = some y0) (h1:X.N[j1]? = some y1) (k0:X.env.kindOf y0 = some .cell) (k1:X.env.kindOf y1 = some .cell) (c0:∃ c,cl.lookup y0 = some c) (c1:∃ c,cl.lookup y1 = some c)
  (hsub:∀ x c,cl.lookup x = some c→X.env.cells.lookup x = some c)
  (hbind:∀ (pm ctv:Value) (c':Addr) (u:Value),bindArgs (PySem.W.kla_fn "<lambda>" qual params body scope cl pm (.ref c') ctv) ⟨[u],[]⟩ = pure [(x,u)])
  (hco:scope.isCoroutine = false) (hgen:scope.isGenerator = false) (hcell:∀ y ∈ scope.names,y.2 ≠ .cell)
  (hkind:scope.kind = .function) (hx:scope.names.lookup x = some .local) (hns:∀ y ∈ [y0,y1],scope.names.lookup y = some .free)
  (hfree:∀ y,(scope.names.lookup y = some .cell∨scope.names.lookup y = some .free)→∃ c,cl.lookup y = some c)
  (hb:∀ f c' s H,PE (cxLam X.inF [x,y0,y1] qual scope f (.ref c') cl s H) body te)
  (he:starEach [e] X.env = (false,eval e X.env) :: starEach [] X.env:=by rfl) (hpl:(backTo pos (starEach [e] X.env)).any (·.1) = false:=by rfl) :
  PE X (.Call (.Name "max" p) [e] [⟨some "key",.Lambda params body scope lp,kp⟩] pos) (tMaxK P lp qual te0 j0 j1 te):=by
 intro pins s σ H Q I h
 refine wpAny_Call_Name_kw (ld_blt I hg hm PyProof.Rows.boot_max ?_ (by decide) (by decide))
 refine callWith_kw (thn ((pa_cons ha pa_nil he) pos pins s σ H (fun vs H1=>match vs with | [v]=>maxKAt P lp qual j0 j1 te σ Q v H1 | _=>False) I h) fun us s1 ⟨vs,H1,I1,rv,q1⟩=>?_) (by rw [he]; rfl) hpl
 match vs,us,rv,q1 with
 | [v],_,.cons (b:=u) r1 .nil,q1 =>
  obtain ⟨l,ps,kf,v0,v1,rfl,hl,hne,e0,e1,to,q⟩:=q1
  obtain rfl:u = Value.ref l:=r1
  refine kws_cons (thn (hL pins s1 σ H1 (fun v H'=>∃ f,v = .ref f∧(∀ a u,a ≠ P→H1 a = some u→H' a = some u)∧Clo "<lambda>" qual params body scope cl H' f∧TabOk P lp qual H') I1 ⟨to,fun f H' sx _ clo to'=>⟨f,rfl,sx,clo,to'⟩⟩) fun fv s2 ⟨fv',H2,I2,r2,f,ef,sx,clo,to2⟩=>kws_nil ?_)
  subst ef
  obtain rfl:fv = Value.ref f:=r2
  obtain ⟨q1,q2⟩:=q H2 sx to2
  have nlP:l ≠ P:=fun z=>by
   obtain ⟨tb,eP,_⟩:=to
   rw [z,eP] at hl; cases hl
  have hl2:=sx _ _ nlP hl
  refine call_maxkey I2 hc hl2 hne (kf:=kf) (fun i p pins' s' ep I'=>?_) fun i p s' ep best I'=>⟨.ref p,H2,I',rfl,q2 i p ep best⟩
  obtain ⟨pm,c',ctv,z1,z2⟩:=clo
  obtain ⟨g1,_⟩:=I'.hok f _ z1
  obtain ⟨g2,_⟩:=I'.hok c' _ z2
  have C:Cells s'.heap H2 (frs X.stack) cl [y0,y1] [v0,v1]:=I'.cells hfn hsub fun i y v a1 a2=>by
   match i,a1,a2 with
   | 0,a1,a2=>cases a1; cases a2; obtain ⟨c,hc⟩:=c0; exact ⟨j0,c,h0,e0,k0,hc⟩
   | 1,a1,a2=>cases a1; cases a2; obtain ⟨c,hc⟩:=c1; exact ⟨j1,c,h1,e1,k1,hc⟩
   | n + 2,a1,_=>simp at a1
  have run:=lam_run (X:=X.inF) (pins:=pins') (Q:=fun v H'=>v = .int (kf i)∧H' = H2) I'.inF hc hr.in1 g1 g2 (hbind pm ctv c' (.ref p)) hco hgen hcell hkind hx hns hfree C rfl (show RelV (.ref p) (.ref p) from rfl) (hb f c' s' H2) (q1 i p ep _ ⟨rfl,rfl⟩)
  refine wpAny_mono run (fun z s3 hz=>?_) fun _ _ z=>z
  obtain ⟨v',H',J,rv,rfl,rfl⟩:=hz
  obtain ⟨t,rfl⟩:=rv
  exact ⟨t,rfl,J.outF⟩
end L2
namespace L2
open PySem PySem.Spec PyProof.Rows
section
variable {X:Cx} {pos:Pos}
end
end L2
namespace Ow
open PySem PySem.Spec PyProof.Rows L2
def wishL (K:PySem.W.Frag) (j:Nat) (D:Ends) (σ':L2.St):List (Addr × (Addr→Obj→TS))→XK
 | []=>fun _ _ _=>False
 | (C₁,ts) :: r=>fun cls dd H2=>(PySem.W.exmOne K cls (.ref C₁) = some true∧∀ (a:Addr) (oe:Obj),oe.cls = cls→oe.dict = dd→PySem.W.notCls oe = true→H2 a = none→ts a oe (endsK j D) (σ'.set j (some (.ref a))) H2)∨(PySem.W.exmOne K cls (.ref C₁) = some false∧wishL K j D σ' r cls dd H2)
inductive HsOk (X:Cx) (n:Str):List ExceptHandler→List (Addr × (Addr→Obj→TS))→Prop where
 | nil:HsOk X n [] []
 | cons {c:Str} {C₁:Addr} {b₀:Stmt} {suite:List Stmt} {ts:Addr→Obj→TS} {np hpos:Pos} {hs:List ExceptHandler} {l:List (Addr × (Addr→Obj→TS))} (hgc:Gl X c) (hmc:X.mg c = some (.ref C₁)) (hb:∀ (a:Addr) (oe:Obj),Ctx0 oe→PSs (caught X a oe) (b₀ :: suite) (ts a oe)) (r:HsOk X n hs l) (hdc:(c == ("__debug__":Str)) = false:=by decide) :
   HsOk X n (.ExceptHandler (some (.Name c np)) (some n) (b₀ :: suite) hpos :: hs) ((C₁,ts) :: l)
section
variable {X:Cx} {j:Nat} {n:Str}
theorem handL {pins:List (Addr × Obj)} {σ:L2.St} {D:Ends} {H2:Hp} {B h5:Heap} {s1 s':Shared} {a:Addr} {a0 cls:Value} {dd:Option Addr} (I:Inv X pins σ H2 { s' with heap:=h5 }) (hst:X.stack = X.env :: X.outer) (hfr:X.env.frame = some X.env.locals) (hN:X.N.Nodup) (hj:X.N[j]? = some n) (hnl:X.env.scope.names.lookup n = some .local) (hno:X.xe = fun _ _=>False)
  (inv:∀ (hh:Heap) (sx:Shared),sx.heap = hh→sx.os = s1.os→AllBare sx.gens→B.StaysIn hh→Slots (frs (X.env :: X.outer)) s1.heap hh→Inv X pins σ H2 sx) (hos:s'.os = s1.os) (hba:AllBare s'.gens) (noT:∀ hh:Heap,Heap.FlyingW B (X.env :: X.outer) a cls a0 hh→a ≠ X.env.locals∧a ∉ X.fs) (fl5:Heap.FlyingW B (X.env :: X.outer) a cls a0 h5) (D5:OwnD true h5 a dd) (sl5:Slots (frs (X.env :: X.outer)) s1.heap h5) (ha0:H2 a = none) :
  ∀ {hs:List ExceptHandler} {l:List (Addr × (Addr→Obj→TS))},HsOk X n hs l→wishL X.K j D σ l cls dd H2→wpAny (model X.prog X.w) X.A (handleBy (.ref a) X.env hs) (SP X pins D) X.xe { s' with heap:=h5 }
 | _,_,.nil,z=>z.elim
 | _,_,.cons (c:=c) (C₁:=C₁) (ts:=tb) hgc hmc hb r hdc,z=>by
  obtain ⟨o5,ob5,oc5⟩:=fl5.there
  obtain ⟨_,w5,ob5',_,od5,_⟩:=fl5.first
  have I5c:Inv (caught X a o5) pins σ H2 { s' with heap:=h5 }:=caught_inv I ob5 ha0 (noT h5 fl5).1 (noT h5 fl5).2 (fun v z=>by
   rw [ob5] at ob5'
   cases ob5'
   rw [od5] at z
   cases z)
  refine wpAny_handleBy_cons (codeAny_handlers_test (ld_glob I5c hgc hmc ?_ hdc)) (by intro z; cases z)
  have LT:PySem.W.Looks (model X.prog X.w) h5 (typeOf (.ref a)) cls:=oc5 ▸ (PySem.W.Looks.ld ob5).andThen .now
  rcases z with ⟨hm,hsu⟩ | ⟨hm,z⟩
  ·refine (PySem.W.exm_one (K:=X.K) I.kIn LT hm).here ?_
   refine codeAny_handlers_suite_as ?_
   refine flight_own (s:={ s' with heap:=h5 }) fl5.1 fl5.2.1 fl5.2.2.1 fl5.2.2.2 D5 fun h6 fl6 D6 up6=>?_
   have I6:Inv X pins σ H2 { s' with heap:=h6 }:=inv h6 _ rfl hos hba fl6.1 (sl5.on fl5.2.2.1 up6)
   obtain ⟨o6,w6,ob6,oc6,od6,_⟩:=fl6.first
   obtain ⟨dd6,cc6⟩:o6.dict = dd∧Ctx0 o6:=by
    obtain ⟨o7,e7,d7,c7⟩:=D6
    rw [ob6] at e7
    cases e7
    exact ⟨d7,c7 rfl⟩
   have I6c:Inv (caught X a o6) pins σ H2 { s' with heap:=h6 }:=caught_inv I6 ob6 ha0 (noT h6 fl6).1 (noT h6 fl6).2 (fun v z=>by rw [od6] at z; cases z)
   refine store_ok (X:=caught X a o6) I6c hN hj (.inl hnl) (v:=.ref a) rfl (fun s7 I7=>?_) (.inr hnl)
   refine wpAny_mono (hb a o6 cc6 pins s7 _ H2 _ I7 (hsu a o6 oc6 dd6 (by unfold PySem.W.notCls; rw [od6]) ha0)) (fun fw s8 q8=>?_) fun ex s8 q8=>?_
   ·cases fw with
    | ret u =>
     obtain ⟨v,σ8,H8,I8,r8,q8⟩:=q8
     obtain ⟨m8,n8,_⟩:=I8.loc
     refine wpAny_nameGoes (env:=X.env) hnl n8 (by rw [I.ok.kind]; rfl) fun h9 m9 n9 sb=>?_
     exact ⟨v,_,H8,suite_end I8 I.ok n9 sb,r8,q8⟩
    | next =>
     obtain ⟨σ8,H8,I8,q8⟩:=q8
     obtain ⟨m8,n8,l8⟩:=I8.loc
     refine wpAny_nameGoes_keeps (env:=X.env) hnl n8 (by rw [I.ok.kind]; rfl) fun h9 v9 n9 sb=>?_
     exact ⟨_,H8,suite_endK I8 I.ok hN hj l8 n9 sb,q8⟩
    | brk=>obtain ⟨_,_,_,z⟩:=q8; exact False.elim z
    | cont=>obtain ⟨_,_,_,z⟩:=q8; exact False.elim z
   ·have z:X.xe ex s8:=q8
    rw [hno] at z
    exact False.elim z
  ·refine (PySem.W.exm_one (K:=X.K) I.kIn LT hm).here ?_
   exact handL I hst hfr hN hj hnl hno inv hos hba noT fl5 D5 sl5 ha0 r z
theorem landL {pins:List (Addr × Obj)} {σ:L2.St} {H1:Hp} {s1 s':Shared} {D:Ends} {ev:Value} {hs:List ExceptHandler} {l:List (Addr × (Addr→Obj→TS))} (I:Inv X pins σ H1 s1) (hq:CX2c true X.prog X.w X.base X.stack H1 s1 (wishL X.K j D σ l) ev s') (hst:X.stack = X.env :: X.outer) (hfr:X.env.frame = some X.env.locals)
  (hN:X.N.Nodup) (hj:X.N[j]? = some n) (hnl:X.env.scope.names.lookup n = some .local) (hok:HsOk X n hs l) (hno:X.xe = fun _ _=>False) :
  wpAny (model X.prog X.w) X.A (noteFrame ev X.env) (fun _ s₂=>wpAny (model X.prog X.w) X.A (setFlight ev none) (fun _ s₃=>wpAny (model X.prog X.w) X.A (handleBy ev X.env hs) (SP X pins D) X.xe s₃) X.xe s₂) X.xe s':=by
 obtain ⟨a,cls,a0,B,H2,dd,rfl,hos,hba,G,sl,fl,ha0,D0,hw⟩:=hq
 have frm:X.A.frames = some (X.env :: X.outer):=hst ▸ I.ok.frames
 rw [hst] at fl
 have sl':Slots (frs (X.env :: X.outer)) s1.heap s'.heap:=hst ▸ sl
 refine note_own frm hfr fl D0 fun h4 hd4 D4 up4=>?_
 refine flight_own hd4.1 hd4.2.1 hd4.2.2.1 hd4.2.2.2 D4 fun h5 fl5 D5 up5=>?_
 have sl5:=(sl'.on fl.2.2.1 up4).on hd4.2.2.1 up5
 have inv:∀ (hh:Heap) (sx:Shared),sx.heap = hh→sx.os = s1.os→AllBare sx.gens→B.StaysIn hh→Slots (frs (X.env :: X.outer)) s1.heap hh→Inv X pins σ H2 sx:=fun hh sx e1 e2 e3 e4 e5=>by
  refine I.call' (ch:=[]) e2 ?_ ?_ e3 fun b z=>nomatch z
  ·rw [e1]; exact G.un e4 (hst ▸ e5)
  ·rw [e1]; exact G.hok.kept e4
 have I5:Inv X pins σ H2 { s' with heap:=h5 }:=inv h5 _ rfl hos hba fl5.1 sl5
 have noT:∀ hh:Heap,Heap.FlyingW B (X.env :: X.outer) a cls a0 hh→a ≠ X.env.locals∧a ∉ X.fs:=fun hh flx=>by
  obtain ⟨oe,ws,e1,_,e2,_⟩:=flx.first
  have key:∀ b ∈ frs (X.env :: X.outer),a ≠ b:=fun b hb z=>by
   obtain ⟨_,o,e3,d⟩:=flx.2.2.1.mem hb
   rw [← z,e1] at e3
   cases e3
   exact d _ e2
  have mL:X.env.locals ∈ frs (X.env :: X.outer):=List.mem_filterMap.mpr ⟨X.env,List.mem_cons_self ..,hfr⟩
  refine ⟨key _ mL,fun z=>key a ?_ rfl⟩
  obtain ⟨en,he,hf⟩:=List.mem_filterMap.mp z
  exact List.mem_filterMap.mpr ⟨en,List.mem_cons_of_mem _ he,hf⟩
 exact handL I5 hst hfr hN hj hnl hno inv hos hba noT fl5 D5 sl5 ha0 hok hw
end
def tTryL (K:PySem.W.Frag) (j:Nat) (l:List (Addr × (Addr→Obj→TS))) (tb:(L2.St→XK)→TS):TS:=fun D σ H=>tb (fun σ'=>wishL K j D σ' l) D σ H
theorem ps_tryYL {X:Cx} {j:Nat} {n:Str} {h₀:ExceptHandler} {hs:List ExceptHandler} {l:List (Addr × (Addr→Obj→TS))} {body:List Stmt} {tb:(L2.St→XK)→TS} {tpos:Pos} (hbd:∀ pins E,PSs (tryCy X pins E) body (tb E)) (hN:X.N.Nodup)
  (hj:X.N[j]? = some n) (hnl:X.env.scope.names.lookup n = some .local) (hok:HsOk X n (h₀ :: hs) l) (hno:X.xe = fun _ _=>False:=by rfl) (hst:X.stack = X.env :: X.outer:=by rfl) (hfr:X.env.frame = some X.env.locals:=by rfl):PS X (.Try body (h₀ :: hs) [] [] tpos) (tTryL X.K j l tb):=by
 intro pins s σ H D I ht
 refine wpAny_Try_except (wpAny_mono (hbd pins (fun σ'=>wishL X.K j D σ' l) [] s σ H D ((to_pinned I).wish _) ht) (fun fl s1 q=>?_) fun ev s1 q=>?_)
 ·cases fl with
  | next=>obtain ⟨σ',H',I',q⟩:=q; exact wpAny_execs_nil ⟨σ',H',of_pinned I.ok I'.unwish,q⟩
  | brk=>obtain ⟨σ',H',I',q⟩:=q; exact ⟨σ',H',of_pinned I.ok I'.unwish,q⟩
  | cont=>obtain ⟨σ',H',I',q⟩:=q; exact ⟨σ',H',of_pinned I.ok I'.unwish,q⟩
  | ret u=>obtain ⟨v,σ',H',I',r,q⟩:=q; exact ⟨v,σ',H',of_pinned I.ok I'.unwish,r,q⟩
 ·obtain ⟨pins2,σ2,H2,s2,I2,hq⟩:=q
  exact landL (of_pinned I.ok I2) hq hst hfr hN hj hnl hok hno
end Ow
namespace Ow
open PySem PySem.Spec PyProof.Rows L2
theorem exm_apart {K:PySem.W.Frag} {C D:Addr} (h1:PySem.W.isClsIn K D = true) (h2:PySem.W.typeIn K (.ref D) = some (.type "type")) (h3:PySem.W.mroIn K C (.ref D) = some false) (h4:PySem.W.mroIn K D (.type "BaseException") = some true):PySem.W.exmOne K (.ref C) (.ref D) = some false:=by
 unfold PySem.W.exmOne
 have e:PySem.W.subIn K (.ref D) (.type "BaseException") = some true:=h4
 rw [e,if_pos (by rw [beq_self_eq_true])]
 exact kitc_of h1 h2 h3
theorem hits1 {A:Around} {s:Shared}:∀ vs:List (Key × Value),vs.length≤1→PySem.W.KeqHits A s vs vs true
 | [],_=>.nil
 | [(k,v)],_=>.hit (y:=v) (e:=true) (b:=true) (by simp [valueAt]) (SeqAt.EqAt.same _) .nil
 | _ :: _ :: _,h=>absurd h (by simp)
def rNeM:R2:=fun x y H Q=>x = y∧Th H x∧Sm1 H x∧Q (.bl false) H
theorem op_neM {X:Cx} (hu:X.A.units < cLine):OpR X (compareOp .NotEq) rNeM:=by
 intro pins s σ H x y v u Q I rx ry h
 obtain ⟨rfl,th,sm,q⟩:=h
 cases th with
 | int i=>exact op_ne pins s σ H _ _ v u Q I rx ry ⟨rfl,by simpa using q⟩
 | bl i=>exact op_ne pins s σ H _ _ v u Q I rx ry ⟨rfl,by simpa using q⟩
 | str i=>exact op_ne pins s σ H _ _ v u Q I rx ry ⟨rfl,by simpa using q⟩
 | non=>exact op_ne pins s σ H _ _ v u Q I rx ry ⟨rfl,by simpa using q⟩
 | @lst a xs h =>
  cases rx
  cases ry
  obtain ⟨its,r,pl,_⟩:=I.list (SqL.of h)
  refine SeqAt.RcNeAt.lists (e:=fun _=>true) pl.isList pl.isList rfl hu (fun j h1 h2=>SeqAt.EqAt.same _) X.prog X.w X.xe _ ⟨.bl false,H,I,?_,q⟩
  show _ = _
  rw [all_true fun _ _=>rfl]
  rfl
 | @tup a xs h =>
  cases rx
  cases ry
  obtain ⟨its,r,pl,_⟩:=I.tuple (SqT.of h)
  refine SeqAt.RcNeAt.tuples (e:=fun _=>true) pl pl hu (fun j h1 h2=>SeqAt.EqAt.same _) X.prog X.w X.xe _ ⟨.bl false,H,I,?_,q⟩
  show _ = _
  rw [all_true fun _ _=>rfl,beq_self_eq_true]
  rfl
 | @dct a kvs h =>
  cases rx
  cases ry
  obtain ⟨z0,hs,vs,r,dd⟩:=dk_at I h
  have hl:vs.length≤1:=by
   have h1:=sm a kvs rfl h
   have h2:kvs.length = vs.length:=by
    clear h dd h1 sm z0
    unfold KV at r
    induction r with
    | nil=>rfl
    | cons _ _ ih=>simp [ih]
   lia
  have hits:PySem.W.KeqHits X.A.in1 s vs vs true:=hits1 vs hl
  have fin:EP X pins σ Q (.bool (!(vs.length == vs.length && true))) s:=⟨.bl false,H,I,(by rw [beq_self_eq_true]; rfl),q⟩
  exact PySem.W.keq_ne (prog:=X.prog) (w:=X.w) (K:=Key) (knd:=mixKind X.prog X.w) (A:=X.A) (E:=X.xe) (s:=s) (a:=a) (b:=a) (ka:=vs) (kb:=vs) (r:=true) (Q:=EP X pins σ Q) hs hs dd dd hu (fun _=>hits) fin
theorem slE {X:Cx} {b:List Stmt} {R:TS→Prop} (h:∃ t,Sl (PSs X b t)∧R t):∃ t,PSs X b t∧R t:=let ⟨t,a,r⟩:=h; ⟨t,a.out,r⟩
end Ow
namespace Ow
open PySem PySem.Spec PyProof.Rows L2
section
variable {prog:Program} {w:World} {A:Around} {E:Value→Shared→Prop} {s:Shared}
theorem next_range_endR {it a:Addr} {o:Obj} {x left step:Int} {Q:Option Value→Shared→Prop} (hh:A.handled = some (.ref a)) (ga:s.heap.get? a = some o) (c0:Ctx0 o) (hit:IsRangeIter s.heap it x left step) (hleft:left≤0)
  (hQ:∀ h',Heap.ExtBut it s.heap h'→Q none { s with heap:=h' }):wpAny (model prog w) A (pyNext (.ref it)) Q E s:=by
 have hT:s.TypeIs (.ref it) "range_iterator":=⟨_,hit,rfl⟩
 unfold pyNext
 refine wpAny_bind (wpAny_attempt (wpAny_callSpecial?_slot (name:=Str.ofString "__next__") hT F.slot_range_iterator_next
  (wpAny_call_entry F.slot_range_iterator_next hT F.entry_range_iterator_next ?_ (F.args_range_iterator_next_1 _))))
 show wpAny _ _ (field (.ref it) 0 >>= _) _ _ s
 refine wpAny_bind (wpAny_field hit rfl (x:=rawInt x) rfl ?_)
 show wpAny _ _ (field (.ref it) 1 >>= _) _ _ s
 refine wpAny_bind (wpAny_field hit rfl (x:=rawInt left) rfl ?_)
 show wpAny _ _ (field (.ref it) 2 >>= _) _ _ s
 refine wpAny_bind (wpAny_field hit rfl (x:=rawInt step) rfl ?_)
 show wpAny _ _ (if left≤0 then _ else _) _ _ s
 rw [if_pos hleft]
 refine wpAny_bind (wpAny_rule ?_)
 refine wpAny_bind ?_
 show wpAny _ _ (newExc (.type "StopIteration") [] >>= _) _ _ _
 refine wpAny_bind ?_
 simp only [newExc,newTuple]
 refine wpAny_bind (wpAny_newObj_type ?_ (by size_fits))
 refine wpAny_bind (m:=firstArgMember _ _) (wpAny_of_eq (a:=Value.none) (by first | rfl | (simp only [firstArgMember]; rfl)) ?_)
 refine wpAny_newObj_type ?_ (by size_fits)
 have lt:=Heap.lt_size ga
 refine raiseNew_some (a:=a) (o:=o) hh (Heap.get?_push_of_some _ (Heap.get?_push_of_some _ ga)) c0 (Heap.get?_push_size _ rfl) rfl (by rw [Array.size_append]; exact Nat.lt_of_lt_of_le (show 2 < 6 by decide) (Nat.le_add_right 6 _)) (by
  intro z
  have z':a = (s.heap.push _).objs.size:=z
  rw [Heap.size_push] at z'
  exact absurd lt (by rw [z']; exact Nat.not_lt_of_le (Nat.le_succ _))) ?_
 refine wpAny_bind (wpAny_isInstance (T:="StopIteration") (b:=true) ⟨_,Heap.get?_update_self _ (Heap.get?_push_size _ rfl) rfl,rfl⟩ isSubtype_stop ?_)
 refine wpAny_pure (hQ _ fun b ob hb e=>?_)
 refine (Heap.get?_update_other _ _ ?_).trans (Heap.get?_push_of_some _ (Heap.get?_push_of_some _ e))
 intro z
 have lb:=Heap.lt_size e
 have z':(s.heap.push _).objs.size = b:=z
 rw [Heap.size_push] at z'
 exact absurd lb (by rw [← z']; exact Nat.not_lt_of_le (Nat.le_succ _))
end
section
variable {X:Cx} {tg:Expr}
theorem range_itR {pins:List (Addr × Obj)} {σ:L2.St} {H:Hp} {s:Shared} {E:Value→Shared→Prop} {lo hi:Int} {t u v:Tok} {tk:Nat} {R:Addr→Shared→Prop} (I:Inv X pins σ H s) (h1:-(2 ^ 62)≤lo) (h2:lo < 2 ^ 62) (h3:-(2 ^ 62)≤hi) (h4:hi < 2 ^ 62)
  (q:∀ it s2,Inv X pins σ H s2→IsRangeIter s2.heap it (lo + ((0:Nat):Int) * 1) ((((hi - lo).toNat:Nat):Int) - ((0:Nat):Int)) 1→FpOk X pins H it→R it s2) :
  wpAny (model X.prog X.w) X.A (pyIter (.ref s.heap.objs.size)) (fun itv s2=>∃ it,itv = .ref it∧R it s2) E { s with heap:=s.heap.push { cls:=.type "range",data:=.fields #[.int lo t,.int hi u,.int 1 v] },toks:=tk }:=by
 refine wpAny_pyIter_range (IsRange.new ..) (small_one h1 h2 h3 h4) ?_
 have I1:Inv X pins σ H { s with heap:=s.heap.push { cls:=.type "range",data:=.fields #[.int lo t,.int hi u,.int 1 v] },toks:=tk }:=I.kept fun b o e=>Heap.get?_push_of_some _ e
 refine ⟨(s.heap.push { cls:=.type "range",data:=.fields #[.int lo t,.int hi u,.int 1 v] }).objs.size,rfl,q _ _ (I1.kept (t':=tk) fun b o e=>Heap.get?_push_of_some _ e) ?_ (I1.fpOk (Nat.le_refl _) (I1.hok.fresh (Nat.le_refl _)))⟩
 have e1:lo + ((0:Nat):Int) * 1 = lo:=by simp
 have e2:(((hi - lo).toNat:Nat):Int) - ((0:Nat):Int) = Builtin.Range.rangeSize lo hi 1:=by rw [rangeSize_one]; split <;> lia
 rw [e1,e2]
 exact Heap.get?_push_size _ rfl
theorem ps_forR {a:Expr} {ta:TA} {p ipos pos:Pos} {body:List Stmt} {g:TG} {tb:TS} (hp:PassesOwn (model X.prog X.w) X.A X.env X.xe) (hh:HdX X) (hg:Gl X "range") (hm:X.mg "range" = none) (ha:PA X [a] ta) (hG:PG X tg g) (hb:PSs X body tb)
  (hs1:starEach [a] X.env = [(false,eval a X.env)]:=by rfl) (hs:∀ x,foldedSetIterable (.Call (.Name "range" p) [a] [] ipos) X.env x = pure x:=by intro _; rfl):PS X (.For tg (.Call (.Name "range" p) [a] [] ipos) body [] pos) (tFor (iRng1 ta) g tb):=by
 intro pins s σ H D I h
 refine wpAny_For (Call_ (ld_blt I hg hm boot_range (PyProof.Rows.callWith_type1 (thn (ha ipos pins s σ H _ I h) fun us s1 ⟨vs,H1,I1,r1,q1⟩=>?_) hs1 rfl))) hs
 obtain ⟨j,e,q1,q2,W,⟨m0,w0⟩,turn⟩:=q1
 subst e
 cases r1 with
 | cons r rr =>
  cases rr
  obtain ⟨t,rfl⟩:=r
  refine call_range_1 (thn (range_itR (R:=fun it s2=>codeAny (model X.prog X.w) X.A (.forLoop tg (.ref it) body [] X.env) (fun r s'=>match r with | .ok f=>SP X pins D f s' | .error e=>cameBackBy (model X.prog X.w) X.A X.env X.xe e s') s2) I1 (by lia) (by lia) q1 q2 fun it s2 I2 st2 fo=>?_) fun itv s2 ⟨it,e,k⟩=>?_)
  ·have ej:(j - 0).toNat = j.toNat:=by rw [Int.sub_zero]
   rw [ej] at st2
   have stat:∀ {H':Hp},H' it = none→FpOk X pins H' it:=fun hn=>⟨hn,fo.2⟩
   have objs:∀ (i:Nat) (h:Heap),IsRangeIter h it (0 + (i:Nat) * 1) ((j.toNat:Int) - (i:Nat)) 1→∀ b ∈ [it],∃ o,h.get? b = some o∧∀ v,o.data ≠ .cell v:=(turn_range (P:=X.prog) (w:=X.w) (K:=X.K) (tg:=tg) it 0 j.toNat).obj
   refine codeAny_forLoop_any (fun n s'=>∃ i σ' H',Inv X pins σ' H' s'∧IsRangeIter s'.heap it (0 + (i:Nat) * 1) ((j.toNat:Int) - (i:Nat)) 1∧H' it = none∧W i n σ' H') ?_ m0 ⟨0,σ,H1,I2,st2,fo.1,w0⟩
   rintro n s3 ⟨i,σ3,H3,I3,st3,fr3,w3⟩
   have f3:=stat fr3
   rcases turn i n σ3 H3 w3 with ⟨stop,qn⟩ | ⟨go,N,hN,step⟩
   ·have nle:j.toNat≤i:=stop
    have fin:∀ h',Heap.ExtBut it s3.heap h'→Inv X pins σ3 H3 { s3 with heap:=h' }:=fun h' eb=>I3.turned (t':=s3.toks) (fun b o hb e=>eb b o hb e) f3.1 f3.2.1 f3.2.2.2.1 f3.2.2.2.2.1 f3.2.2.2.2.2
    refine wpAny_passesOwn hp ?_
    rcases hh _ _ _ _ I3 with hz | ⟨a,o,ea,ga,c0,na,nf⟩
    ·exact wpAny_pyNext_range_end hz st3 (by lia) fun h' eb=>wpAny_execs_nil ⟨σ3,H3,fin h' eb,qn⟩
    ·exact next_range_endR ea ga c0 st3 (by lia) fun h' eb=>wpAny_execs_nil ⟨σ3,H3,fin h' eb,qn⟩
   ·have lt:i < j.toNat:=go
    refine wpAny_passesOwn hp (wpAny_pyNext_range_item st3 (by lia) fun h' st4 sb=>?_)
    have I4:Inv X pins σ3 H3 { s3 with heap:=h',toks:=s3.toks + 1 }:=I3.turned (fun b o hb e=>sb.extBut b o hb e) f3.1 f3.2.1 f3.2.2.2.1 f3.2.2.2.2.1 f3.2.2.2.2.2
    have st4':IsRangeIter h' it (0 + ((i + 1:Nat):Int) * 1) ((j.toNat:Int) - ((i + 1:Nat):Int)) 1:=by
     have e1:(0:Int) + ((i + 1:Nat):Int) * 1 = 0 + (i:Int) * 1 + 1:=by lia
     have e2:(j.toNat:Int) - ((i + 1:Nat):Int) = (j.toNat:Int) - (i:Int) - 1:=by lia
     rw [e1,e2]
     exact st4
    refine wpAny_passesOwn hp (go_of (s:={ s3 with heap:=h',toks:=s3.toks + 1 }) (n:="range_iterator") st4 rfl rfl (by decide) ?_)
    have I5':=I4.pinned (fp:=[it]) (fun b hb=>by rw [List.mem_singleton.mp hb]; exact f3) (objs (i + 1) h' st4')
    have rv:RelV (.int (0 + (i:Int))) (.int (0 + (i:Nat) * 1) s3.toks):=⟨s3.toks,by rw [Int.mul_one]⟩
    refine wpAny_passesOwn hp (thn (hG _ _ σ3 H3 (.int (0 + (i:Int))) _ _ I5' rv (step _ H3 ⟨rfl,rfl⟩)) fun _ s6 ⟨σ6,H6,I6,q6⟩=>?_)
    refine wpAny_passesOwn hp (thn (hb _ s6 σ6 H6 _ I6 q6) fun f s7 q7=>?_)
    have again:∀ {σ7:L2.St} {H7:Hp},Inv X (pins ++ pinsAt [it] h') σ7 H7 s7→N σ7 H7→∃ m,m < n∧∃ i σ' H',Inv X pins σ' H' s7∧IsRangeIter s7.heap it (0 + (i:Nat) * 1) ((j.toNat:Int) - (i:Nat)) 1∧H' it = none∧W i m σ' H':=fun {σ7 H7} I7 n7=>by
     obtain ⟨m',hm,w7⟩:=hN σ7 H7 n7
     have pi:=I7.pin (it,_) (List.mem_append_right _ (List.mem_append_right _ (mem_pinsAt (List.mem_singleton.mpr rfl) st4')))
     exact ⟨m',hm,i + 1,σ7,H7,I7.unpinned,pi.1,pi.2.1,w7⟩
    cases f with
    | next=>obtain ⟨σ7,H7,I7,n7⟩:=q7; exact again I7 n7
    | cont=>obtain ⟨σ7,H7,I7,n7⟩:=q7; exact again I7 n7
    | brk=>obtain ⟨σ7,H7,I7,q7⟩:=q7; exact ⟨σ7,H7,I7.unpinned,q7⟩
    | ret v=>obtain ⟨x7,σ7,H7,I7,r7,q7⟩:=q7; exact ⟨x7,σ7,H7,I7.unpinned,r7,q7⟩
  ·subst e
   exact k
end
end Ow
namespace Ow
open PySem PySem.Spec PyProof.Rows L2
theorem slIn {p:Prop} (h:p):Sl p:=⟨h⟩
section
variable {X:Cx} {st:Stmt} {rest body:List Stmt} {t u tb:TS} {e:Expr} {es:List Expr} {te:TE} {ta:TA} {pos:Pos}
theorem pss_nilZ:Sl (PSs X [] tNext):=⟨pss_nil⟩
theorem pss_oneZ (h:Sl (PS X st t)):Sl (PSs X [st] t):=⟨pss_one h.out⟩
theorem pss_consZ (h1:Sl (PS X st t)) (h2:Sl (PSs X rest u)):Sl (PSs X (st :: rest) (tSeq t u)):=⟨pss_cons h1.out h2.out⟩
theorem pss_joinZ (h1:Sl (PS X st t)) (h2:Sl (PSs X rest u)):Sl (PSs X (st :: rest) (tJoin t u)):=⟨pss_join h1.out h2.out⟩
theorem ps_ifZ {c:Expr} {a b:List Stmt} {tc:TT} (hc:PT X c tc) (ha:Sl (PSs X a t)) (hb:Sl (PSs X b u)):Sl (PS X (.If c a b pos) (tIfS tc t u)):=⟨ps_if hc ha.out hb.out⟩
theorem ps_forZ {tg iter:Expr} {wi:TI} {g:TG} (hp:PassesOwn (model X.prog X.w) X.A X.env X.xe) (hc:X.calm = true) (hi:PI X tg iter wi) (hg:PG X tg g) (hb:Sl (PSs X body tb)) (hs:∀ x,foldedSetIterable iter X.env x = pure x:=by intro _; rfl):Sl (PS X (.For tg iter body [] pos) (tFor wi g tb)):=⟨ps_for hp hc hi hg hb.out hs⟩
theorem ps_exprZ (he:Sl (PE X e te)) (hs:swapsWith e none pos.line X.env = pure false:=by rfl):Sl (PS X (.Expr e pos) (tDrop te)):=⟨ps_expr he.out hs⟩
theorem ps_asgZ {tg:Expr} {g:TG} (he:Sl (PE X e te)) (hg:PG X tg g) (hs:swapsWithSole [tg] e pos.line X.env = pure false:=by rfl) (hw:swappedStores [tg] e X.env = pure none:=by rfl)
  (h1:(assignEach [tg] X.env).map (·.2) = [assign tg X.env]:=by rfl):Sl (PS X (.Assign [tg] e pos) (tAsg te g)):=⟨ps_asg he.out hg hs hw h1⟩
theorem pe_bmZ {T id:String} {name:Str} {o:Expr} {to:TE} {r:V→List V→Hp→(V→Hp→Prop)→Prop} {cpos apos:Pos} (pa:PlainAttrs T) (slot:Slot T name id) (hty:typeOf (.builtin id) = pure (.type "method_descriptor")) (hm:MtR X id r) (ho:PE X o to) (ha:Sl (PA X (e :: es) ta))
  (hbase:attributeBase o name X.env (eval o X.env) = eval o X.env:=by rfl)
  (hfew:((backTo cpos (starEach (e :: es) X.env)).all (fun x=>!x.1) && (backToKw cpos (keywordEach [] X.env)).all (fun x=>x.1.isSome)
   && decide ((e :: es).length + ([]:List Keyword).length + (if ([]:List Keyword).isEmpty then 0 else 1) < 30)) = true:=by rfl)
  (hline:(apos.endLine == cpos.line) = true:=by rfl) (hs:starEach (e :: es) X.env = (false,eval e X.env) :: starEach es X.env:=by rfl) (hplain:(backTo cpos (starEach es X.env)).any (·.1) = false:=by rfl) :
  Sl (PE X (.Call (.Attribute o name apos) (e :: es) [] cpos) (tBM X.K T r to ta)):=⟨pe_bm pa slot hty hm ho ha.out hbase hfew hline hs hplain⟩
theorem pa_consZ (ha:Sl (PE X e te)) (hr:Sl (PA X es ta)) (hn:noStar e = true:=by rfl):Sl (PA X (e :: es) (tCons te ta)):=⟨pa_consN ha.out hr.out hn⟩
theorem pe_opZ {a b:Expr} {op:Operator} {r:R2} {t1 t2:TE} (hr:OpR X (binaryOp op) r) (ha:Sl (PE X a t1)) (hb:Sl (PE X b t2)):Sl (PE X (.BinOp a op b pos) (tOp r t1 t2)):=⟨pe_op hr ha.out hb.out⟩
end
end Ow
namespace Ow
open PySem PySem.Spec PyProof.Rows L2
open Builtin.Int (intBits)
def top (i:Nat):Stmt:=PySem.Challenge.pw_overwise_k49_lines_and_rows_refused.main.body.getD i (.Pass ⟨0,0,0,0⟩)
abbrev s_NoWidth___init__:Stmt:=inClass (top 2) 0
theorem sc_NoWidth___init__:FnScope ["self", "found"] ["self", "found"] (defScope s_NoWidth___init__):=⟨rfl,rfl,rfl,by decide +kernel,rfl,by decide +kernel,by decide +kernel⟩
abbrev s_NoFraction___init__:Stmt:=inClass (top 3) 0
theorem sc_NoFraction___init__:FnScope ["self", "found"] ["self", "found"] (defScope s_NoFraction___init__):=⟨rfl,rfl,rfl,by decide +kernel,rfl,by decide +kernel,by decide +kernel⟩
abbrev s_NoForm___init__:Stmt:=inClass (top 4) 0
theorem sc_NoForm___init__:FnScope ["self", "found"] ["self", "found"] (defScope s_NoForm___init__):=⟨rfl,rfl,rfl,by decide +kernel,rfl,by decide +kernel,by decide +kernel⟩
abbrev s_NoLine___init__:Stmt:=inClass (top 5) 0
theorem sc_NoLine___init__:FnScope ["self", "found"] ["self", "found"] (defScope s_NoLine___init__):=⟨rfl,rfl,rfl,by decide +kernel,rfl,by decide +kernel,by decide +kernel⟩
abbrev s_is_whole:Stmt:=top 7
theorem sc_is_whole:FnScope ["thing"] ["thing"] (defScope s_is_whole):=⟨rfl,rfl,rfl,by decide +kernel,rfl,by decide +kernel,by decide +kernel⟩
abbrev s_is_between:Stmt:=top 8
theorem sc_is_between:FnScope ["thing", "low", "high"] ["thing", "low", "high"] (defScope s_is_between):=⟨rfl,rfl,rfl,by decide +kernel,rfl,by decide +kernel,by decide +kernel⟩
abbrev s_need_width:Stmt:=top 9
theorem sc_need_width:FnScope ["width"] ["width"] (defScope s_need_width):=⟨rfl,rfl,rfl,by decide +kernel,rfl,by decide +kernel,by decide +kernel⟩
abbrev s_common_divisor:Stmt:=top 11
theorem sc_common_divisor:FnScope ["a", "b", "rest"] ["a", "b"] (defScope s_common_divisor):=⟨rfl,rfl,rfl,by decide +kernel,rfl,by decide +kernel,by decide +kernel⟩
abbrev s_fraction:Stmt:=top 12
theorem sc_fraction:FnScope ["top", "bottom", "divisor"] ["top", "bottom"] (defScope s_fraction):=⟨rfl,rfl,rfl,by decide +kernel,rfl,by decide +kernel,by decide +kernel⟩
abbrev s_is_short:Stmt:=top 14
theorem sc_is_short:FnScope ["thing"] ["thing"] (defScope s_is_short):=⟨rfl,rfl,rfl,by decide +kernel,rfl,by decide +kernel,by decide +kernel⟩
abbrev s_need_line:Stmt:=top 15
theorem sc_need_line:FnScope ["n", "m", "a", "b"] ["n", "m", "a", "b"] (defScope s_need_line):=⟨rfl,rfl,rfl,by decide +kernel,rfl,by decide +kernel,by decide +kernel⟩
abbrev s_height:Stmt:=top 16
theorem sc_height:FnScope ["n", "m", "a", "b", "x"] ["n", "m", "a", "b", "x"] (defScope s_height):=⟨rfl,rfl,rfl,by decide +kernel,rfl,by decide +kernel,by decide +kernel⟩
abbrev s_fall_rows:Stmt:=top 17
theorem sc_fall_rows:FnScope ["n", "m", "a", "b", "rows", "x", "rest", "step", "drop", "far", "lack", "many", "times"] ["n", "m", "a", "b"] (defScope s_fall_rows):=⟨rfl,rfl,rfl,by decide +kernel,rfl,by decide +kernel,by decide +kernel⟩
abbrev s_falls:Stmt:=top 18
theorem sc_falls:FnScope ["n", "m", "a", "b"] ["n", "m", "a", "b"] (defScope s_falls):=⟨rfl,rfl,rfl,by decide +kernel,rfl,by decide +kernel,by decide +kernel⟩
abbrev s_places_reached:Stmt:=top 19
theorem sc_places_reached:FnScope ["n", "m", "a", "b", "places", "row"] ["n", "m", "a", "b"] (defScope s_places_reached):=⟨rfl,rfl,rfl,by decide +kernel,rfl,by decide +kernel,by decide +kernel⟩
abbrev s_corner_points:Stmt:=top 20
theorem sc_corner_points:FnScope ["n", "m", "a", "b", "from_left", "from_right"] ["n", "m", "a", "b"] (defScope s_corner_points):=⟨rfl,rfl,rfl,by decide +kernel,rfl,by decide +kernel,by decide +kernel⟩
abbrev s_corners:Stmt:=top 21
theorem sc_corners:FnScope ["n", "m", "a", "b"] ["n", "m", "a", "b"] (defScope s_corners):=⟨rfl,rfl,rfl,by decide +kernel,rfl,by decide +kernel,by decide +kernel⟩
abbrev s_inverse_by:Stmt:=top 22
theorem sc_inverse_by:FnScope ["number", "bottom", "rest", "later_rest", "worth", "later_worth", "many", "next_rest", "next_worth"] ["number", "bottom"] (defScope s_inverse_by):=⟨rfl,rfl,rfl,by decide +kernel,rfl,by decide +kernel,by decide +kernel⟩
abbrev s_side_between:Stmt:=top 23
theorem sc_side_between:FnScope ["one", "other", "across", "up", "g", "ux", "uy", "tx"] ["one", "other"] (defScope s_side_between):=⟨rfl,rfl,rfl,by decide +kernel,rfl,by decide +kernel,by decide +kernel⟩
abbrev s_paper:Stmt:=top 24
theorem sc_paper:FnScope ["n", "m", "a", "b", "points"] ["n", "m", "a", "b"] (defScope s_paper):=⟨rfl,rfl,rfl,by decide +kernel,rfl,by decide +kernel,by decide +kernel⟩
abbrev s_is_seven:Stmt:=top 25
theorem sc_is_seven:FnScope ["thing"] ["thing"] (defScope s_is_seven):=⟨rfl,rfl,rfl,by decide +kernel,rfl,by decide +kernel,by decide +kernel⟩
abbrev s_is_paper:Stmt:=top 30
theorem sc_is_paper:FnScope ["n", "m", "a", "b", "thing"] ["n", "m", "a", "b", "thing"] (defScope s_is_paper):=⟨rfl,rfl,rfl,by decide +kernel,rfl,by decide +kernel,by decide +kernel⟩
abbrev s_need_fraction:Stmt:=top 32
theorem sc_need_fraction:FnScope ["top", "bottom"] ["top", "bottom"] (defScope s_need_fraction):=⟨rfl,rfl,rfl,by decide +kernel,rfl,by decide +kernel,by decide +kernel⟩
abbrev s_need_product:Stmt:=top 33
theorem sc_need_product:FnScope ["width", "top", "bottom", "factor", "addend", "total"] ["width", "top", "bottom", "factor", "addend", "total"] (defScope s_need_product):=⟨rfl,rfl,rfl,by decide +kernel,rfl,by decide +kernel,by decide +kernel⟩
abbrev s_greatest_miss:Stmt:=top 34
theorem sc_greatest_miss:FnScope ["n", "m", "a", "b", "top", "bottom", "best"] ["n", "m", "a", "b", "top", "bottom"] (defScope s_greatest_miss):=⟨rfl,rfl,rfl,by decide +kernel,rfl,by decide +kernel,by decide +kernel⟩
abbrev s_greatest_lack:Stmt:=top 35
theorem sc_greatest_lack:FnScope ["n", "m", "a", "b", "top", "bottom"] ["n", "m", "a", "b", "top", "bottom"] (defScope s_greatest_lack):=⟨rfl,rfl,rfl,by decide +kernel,rfl,by decide +kernel,by decide +kernel⟩
abbrev s_greatest:Stmt:=top 36
theorem sc_greatest:FnScope ["n", "m", "a", "b", "top", "bottom"] ["n", "m", "a", "b", "top", "bottom"] (defScope s_greatest):=⟨rfl,rfl,rfl,by decide +kernel,rfl,by decide +kernel,by decide +kernel⟩
abbrev s_least:Stmt:=top 37
theorem sc_least:FnScope ["n", "m", "a", "b", "top", "bottom", "lack"] ["n", "m", "a", "b", "top", "bottom"] (defScope s_least):=⟨rfl,rfl,rfl,by decide +kernel,rfl,by decide +kernel,by decide +kernel⟩
abbrev s_miss_of:Stmt:=top 38
theorem sc_miss_of:FnScope ["width", "top", "bottom", "factor", "addend", "total", "last", "above", "below"] ["width", "top", "bottom", "factor", "addend", "total"] (defScope s_miss_of):=⟨rfl,rfl,rfl,by decide +kernel,rfl,by decide +kernel,by decide +kernel⟩
abbrev s_quotient_corners:Stmt:=top 39
theorem sc_quotient_corners:FnScope ["width", "top", "bottom", "last", "below"] ["width", "top", "bottom"] (defScope s_quotient_corners):=⟨rfl,rfl,rfl,by decide +kernel,rfl,by decide +kernel,by decide +kernel⟩
abbrev s_misfit:Stmt:=top 40
theorem sc_misfit:FnScope ["ends", "row", "point"] ["ends", "row"] (defScope s_misfit):=⟨rfl,rfl,rfl,by decide +kernel,rfl,by decide +kernel,by decide +kernel⟩
abbrev s_fits:Stmt:=top 41
theorem sc_fits:FnScope ["width", "top", "bottom", "factor", "addend", "total"] ["width", "top", "bottom", "factor", "addend", "total"] (defScope s_fits):=⟨rfl,rfl,rfl,by decide +kernel,rfl,by decide +kernel,by decide +kernel⟩
abbrev s_rows_to_try:Stmt:=top 42
theorem sc_rows_to_try:FnScope ["width", "top", "bottom", "rows", "total", "below", "above"] ["width", "top", "bottom"] (defScope s_rows_to_try):=⟨rfl,rfl,rfl,by decide +kernel,rfl,by decide +kernel,by decide +kernel⟩
abbrev s_exact_form:Stmt:=top 43
theorem sc_exact_form:FnScope ["width", "top", "bottom", "ends", "row"] ["width", "top", "bottom"] (defScope s_exact_form):=⟨rfl,rfl,rfl,by decide +kernel,rfl,by decide +kernel,by decide +kernel⟩
abbrev s__law_mixed:Stmt:=top 45
theorem sc__law_mixed:FnScope ["_law_cell", "_law_k", "_law_first", "_law_second"] ["_law_cell", "_law_k"] (defScope s__law_mixed):=⟨rfl,rfl,rfl,by decide +kernel,rfl,by decide +kernel,by decide +kernel⟩
abbrev s__law_take:Stmt:=top 46
theorem sc__law_take:FnScope ["_law_pool", "_law_most", "_law_cells", "_law_at", "_law_cell", "_law_number_here", "_law_room"] ["_law_pool", "_law_most"] (defScope s__law_take):=⟨rfl,rfl,rfl,by decide +kernel,rfl,by decide +kernel,by decide +kernel⟩
abbrev s__law_odd:Stmt:=top 48
theorem sc__law_odd:FnScope ["_law_k", "_law_some"] ["_law_k"] (defScope s__law_odd):=⟨rfl,rfl,rfl,by decide +kernel,rfl,by decide +kernel,by decide +kernel⟩
abbrev s__law_same:Stmt:=top 49
theorem sc__law_same:FnScope ["_law_found", "_law_due", "_law_k"] ["_law_found", "_law_due"] (defScope s__law_same):=⟨rfl,rfl,rfl,by decide +kernel,rfl,by decide +kernel,by decide +kernel⟩
abbrev s__law_asked:Stmt:=top 50
theorem sc__law_asked:FnScope ["_law_door", "_law_things", "_law_n", "_law_m", "_law_a", "_law_b", "_law_top", "_law_bottom", "_law_width", "_law_factor", "_law_addend", "_law_total"] ["_law_door", "_law_things"] (defScope s__law_asked):=⟨rfl,rfl,rfl,by decide +kernel,rfl,by decide +kernel,by decide +kernel⟩
abbrev s__law_alone:Stmt:=top 51
theorem sc__law_alone:FnScope ["_law_e", "_law_word", "_law_kinds", "_law_due"] ["_law_e", "_law_word"] (defScope s__law_alone):=⟨rfl,rfl,rfl,by decide +kernel,rfl,by decide +kernel,by decide +kernel⟩
abbrev s__law_answer:Stmt:=top 52
theorem sc__law_answer:FnScope ["_law_door", "_law_things", "_law_e", "_law_due"] ["_law_door", "_law_things"] (defScope s__law_answer):=⟨rfl,rfl,rfl,by decide +kernel,rfl,by decide +kernel,by decide +kernel⟩
abbrev s__law_number:Stmt:=top 53
theorem sc__law_number:FnScope ["_law_thing", "_law_low", "_law_high"] ["_law_thing", "_law_low", "_law_high"] (defScope s__law_number):=⟨rfl,rfl,rfl,by decide +kernel,rfl,by decide +kernel,by decide +kernel⟩
abbrev s__law_due_of_line:Stmt:=top 54
theorem sc__law_due_of_line:FnScope ["_law_door", "_law_things", "_law_far", "_law_n", "_law_m", "_law_a", "_law_b", "_law_top", "_law_bottom"] ["_law_door", "_law_things"] (defScope s__law_due_of_line):=⟨rfl,rfl,rfl,by decide +kernel,rfl,by decide +kernel,by decide +kernel⟩
abbrev s__law_due_of_row:Stmt:=top 55
theorem sc__law_due_of_row:FnScope ["_law_door", "_law_things", "_law_far", "_law_width", "_law_top", "_law_bottom", "_law_factor", "_law_addend", "_law_total"] ["_law_door", "_law_things"] (defScope s__law_due_of_row):=⟨rfl,rfl,rfl,by decide +kernel,rfl,by decide +kernel,by decide +kernel⟩
abbrev s__law_line_things:Stmt:=top 56
theorem sc__law_line_things:FnScope ["_law_pool", "_law_far", "_law_things", "_law_k", "_law_at", "_law_menu"] ["_law_pool"] (defScope s__law_line_things):=⟨rfl,rfl,rfl,by decide +kernel,rfl,by decide +kernel,by decide +kernel⟩
abbrev s__law_row_things:Stmt:=top 57
theorem sc__law_row_things:FnScope ["_law_pool", "_law_far", "_law_width", "_law_bottom", "_law_things", "_law_k", "_law_at"] ["_law_pool"] (defScope s__law_row_things):=⟨rfl,rfl,rfl,by decide +kernel,rfl,by decide +kernel,by decide +kernel⟩
abbrev s_law:Stmt:=top 58
theorem sc_law:FnScope ["_law_script", "_law_cell", "_law_pool", "_law_door", "_law_things", "_law_due"] ["_law_script"] (defScope s_law):=⟨rfl,rfl,rfl,by decide +kernel,rfl,by decide +kernel,by decide +kernel⟩
structure Ad where
 NoLine:Addr
 NoFraction:Addr
 NoForm:Addr
 NoWidth:Addr
 WiseError:Addr
structure Txt (K:PySem.W.Frag) (mg:Str→Option Value) (c:Ad):Prop where
 n_isinstance:mg "isinstance" = none
 n_int:mg "int" = none
 n_bool:mg "bool" = none
 n_list:mg "list" = none
 n_tuple:mg "tuple" = none
 n_len:mg "len" = none
 n_max:mg "max" = none
 n_min:mg "min" = none
 n_range:mg "range" = none
 n_sorted:mg "sorted" = none
 n_set:mg "set" = none
 n_abs:mg "abs" = none
 n_all:mg "all" = none
 n_ValueError:mg "ValueError" = none
 g_NoLine:mg "NoLine" = some (.ref c.NoLine)
 g_NoFraction:mg "NoFraction" = some (.ref c.NoFraction)
 g_NoForm:mg "NoForm" = some (.ref c.NoForm)
 g_NoWidth:mg "NoWidth" = some (.ref c.NoWidth)
 g_WiseError:mg "WiseError" = some (.ref c.WiseError)
 kf_if__NoLine:PySem.W.isClsIn K c.NoLine = true
 kf_tf_NoLine:PySem.W.typeIn K (.ref c.NoLine) = some (.type "type")
 kf_mf_NoLine:PySem.W.mroIn K c.NoLine (.ref c.NoLine) = some true
 kf_wb_NoLine:PySem.W.mroIn K c.NoLine (.type "BaseException") = some true
 kf_ga_NoLine:PySem.W.findIn K (.ref c.NoLine) "__getattribute__" = some (some (.builtin "BaseException.__getattribute__"))
 kf_gn_NoLine:PySem.W.findIn K (.ref c.NoLine) "__getattr__" = some none
 kf_gc_NoLine:PySem.W.findIn K (.ref c.NoLine) "__class__" = some (some (.builtin "object.__class__"))
 kf_mo_NoLine:PySem.W.mroIn K c.NoLine (.type "object") = some true
 kf_mb_NoLine:PySem.W.mroIn K c.NoLine (.type "BaseException") = some true
 kf_hd_NoLine:PySem.W.hasDictIn K c.NoLine = true
 kf_nf_NoLine:PySem.W.findIn K (.ref c.NoLine) "found" = some none
 kf_mw_NoLine:PySem.W.mroIn K c.NoLine (.ref c.WiseError) = some true
 kf_mv_NoLine:PySem.W.mroIn K c.NoLine (.type "ValueError") = some true
 kf_m_NoLine_NoFraction:PySem.W.mroIn K c.NoLine (.ref c.NoFraction) = some false
 kf_m_NoLine_NoForm:PySem.W.mroIn K c.NoLine (.ref c.NoForm) = some false
 kf_m_NoLine_NoWidth:PySem.W.mroIn K c.NoLine (.ref c.NoWidth) = some false
 kf_if__NoFraction:PySem.W.isClsIn K c.NoFraction = true
 kf_tf_NoFraction:PySem.W.typeIn K (.ref c.NoFraction) = some (.type "type")
 kf_mf_NoFraction:PySem.W.mroIn K c.NoFraction (.ref c.NoFraction) = some true
 kf_wb_NoFraction:PySem.W.mroIn K c.NoFraction (.type "BaseException") = some true
 kf_ga_NoFraction:PySem.W.findIn K (.ref c.NoFraction) "__getattribute__" = some (some (.builtin "BaseException.__getattribute__"))
 kf_gn_NoFraction:PySem.W.findIn K (.ref c.NoFraction) "__getattr__" = some none
 kf_gc_NoFraction:PySem.W.findIn K (.ref c.NoFraction) "__class__" = some (some (.builtin "object.__class__"))
 kf_mo_NoFraction:PySem.W.mroIn K c.NoFraction (.type "object") = some true
 kf_mb_NoFraction:PySem.W.mroIn K c.NoFraction (.type "BaseException") = some true
 kf_hd_NoFraction:PySem.W.hasDictIn K c.NoFraction = true
 kf_nf_NoFraction:PySem.W.findIn K (.ref c.NoFraction) "found" = some none
 kf_mw_NoFraction:PySem.W.mroIn K c.NoFraction (.ref c.WiseError) = some true
 kf_mv_NoFraction:PySem.W.mroIn K c.NoFraction (.type "ValueError") = some true
 kf_m_NoFraction_NoLine:PySem.W.mroIn K c.NoFraction (.ref c.NoLine) = some false
 kf_m_NoFraction_NoForm:PySem.W.mroIn K c.NoFraction (.ref c.NoForm) = some false
 kf_m_NoFraction_NoWidth:PySem.W.mroIn K c.NoFraction (.ref c.NoWidth) = some false
 kf_if__NoForm:PySem.W.isClsIn K c.NoForm = true
 kf_tf_NoForm:PySem.W.typeIn K (.ref c.NoForm) = some (.type "type")
 kf_mf_NoForm:PySem.W.mroIn K c.NoForm (.ref c.NoForm) = some true
 kf_wb_NoForm:PySem.W.mroIn K c.NoForm (.type "BaseException") = some true
 kf_ga_NoForm:PySem.W.findIn K (.ref c.NoForm) "__getattribute__" = some (some (.builtin "BaseException.__getattribute__"))
 kf_gn_NoForm:PySem.W.findIn K (.ref c.NoForm) "__getattr__" = some none
 kf_gc_NoForm:PySem.W.findIn K (.ref c.NoForm) "__class__" = some (some (.builtin "object.__class__"))
 kf_mo_NoForm:PySem.W.mroIn K c.NoForm (.type "object") = some true
 kf_mb_NoForm:PySem.W.mroIn K c.NoForm (.type "BaseException") = some true
 kf_hd_NoForm:PySem.W.hasDictIn K c.NoForm = true
 kf_nf_NoForm:PySem.W.findIn K (.ref c.NoForm) "found" = some none
 kf_mw_NoForm:PySem.W.mroIn K c.NoForm (.ref c.WiseError) = some true
 kf_mv_NoForm:PySem.W.mroIn K c.NoForm (.type "ValueError") = some true
 kf_m_NoForm_NoLine:PySem.W.mroIn K c.NoForm (.ref c.NoLine) = some false
 kf_m_NoForm_NoFraction:PySem.W.mroIn K c.NoForm (.ref c.NoFraction) = some false
 kf_m_NoForm_NoWidth:PySem.W.mroIn K c.NoForm (.ref c.NoWidth) = some false
 kf_if__NoWidth:PySem.W.isClsIn K c.NoWidth = true
 kf_tf_NoWidth:PySem.W.typeIn K (.ref c.NoWidth) = some (.type "type")
 kf_mf_NoWidth:PySem.W.mroIn K c.NoWidth (.ref c.NoWidth) = some true
 kf_wb_NoWidth:PySem.W.mroIn K c.NoWidth (.type "BaseException") = some true
 kf_ga_NoWidth:PySem.W.findIn K (.ref c.NoWidth) "__getattribute__" = some (some (.builtin "BaseException.__getattribute__"))
 kf_gn_NoWidth:PySem.W.findIn K (.ref c.NoWidth) "__getattr__" = some none
 kf_gc_NoWidth:PySem.W.findIn K (.ref c.NoWidth) "__class__" = some (some (.builtin "object.__class__"))
 kf_mo_NoWidth:PySem.W.mroIn K c.NoWidth (.type "object") = some true
 kf_mb_NoWidth:PySem.W.mroIn K c.NoWidth (.type "BaseException") = some true
 kf_hd_NoWidth:PySem.W.hasDictIn K c.NoWidth = true
 kf_nf_NoWidth:PySem.W.findIn K (.ref c.NoWidth) "found" = some none
 kf_mw_NoWidth:PySem.W.mroIn K c.NoWidth (.ref c.WiseError) = some true
 kf_mv_NoWidth:PySem.W.mroIn K c.NoWidth (.type "ValueError") = some true
 kf_m_NoWidth_NoLine:PySem.W.mroIn K c.NoWidth (.ref c.NoLine) = some false
 kf_m_NoWidth_NoFraction:PySem.W.mroIn K c.NoWidth (.ref c.NoFraction) = some false
 kf_m_NoWidth_NoForm:PySem.W.mroIn K c.NoWidth (.ref c.NoForm) = some false
 kf_if__WiseError:PySem.W.isClsIn K c.WiseError = true
 kf_tf_WiseError:PySem.W.typeIn K (.ref c.WiseError) = some (.type "type")
 kf_wb_WiseError:PySem.W.mroIn K c.WiseError (.type "BaseException") = some true
theorem log_small {m:Int} (h0:0 < m) (h:m < 2 ^ 80):m.natAbs.log2 < 9000:=by
 have h1:m.natAbs ≠ 0:=by lia
 have h2:m.natAbs < 2 ^ 80:=by lia
 have:=(Nat.log2_lt h1).mpr h2
 lia
theorem cpow1 {w:Int} (h1:0≤w) (h2:w≤100000):CPow 1 w:=⟨h1,by lia,by decide⟩
theorem at_last {xs:List Int} {s:Int} (h:xs[xs.length - 1]? = some s):atI (xs.map V.int) (-1) = some (.int s):=by
 have hl:=(List.getElem?_eq_some_iff.mp h).1
 have e:ixN (xs.map V.int).length (-1) = some (xs.length - 1):=by
  unfold ixN
  rw [if_neg (by decide),List.length_map,if_pos (by lia)]
  congr 1
  lia
 unfold atI
 rw [e]
 show (xs.map V.int)[xs.length - 1]? = _
 rw [List.getElem?_map,h]
 rfl
theorem b200 {x:Int} (h1:-(2 ^ 200) < x) (h2:x < 2 ^ 200):intBits x≤100000:=Nat.le_trans (intBits_le_iff.mpr (show x.natAbs < 2 ^ 200 by lia)) (by decide)
theorem iteC {c A B:Prop} [Decidable c] (h1:c→A) (h2:¬ c→B):if decide c = true then A else B:=by
 by_cases h:c
 ·exact iteD h (h1 h)
 ·exact iteDN h (h2 h)
theorem iteCN {c A B:Prop} [Decidable c] (h1:¬ c→A) (h2:c→B):if (!decide c) = true then A else B:=by
 by_cases h:c
 ·exact iteNS h (h2 h)
 ·exact iteN h (h1 h)
theorem iteI {a b:Int} {A B:Prop} (h1:a = b→A) (h2:a ≠ b→B):if decide (V.int a = V.int b) = true then A else B:=iteC (fun z=>h1 (by injection z)) (fun z=>h2 (fun e=>z (congrArg V.int e)))
theorem iteIN {a b:Int} {A B:Prop} (h1:a ≠ b→A) (h2:a = b→B):if (!decide (V.int a = V.int b)) = true then A else B:=iteCN (fun z=>h1 (fun e=>z (congrArg V.int e))) (fun z=>h2 (by injection z))
local macro_rules | `(tactic| walk_at "s")=>`(tactic| first
 | lia | assumption | exact ty_int | exact rfl | (dsimp only; lia) | exact cpow1 (by lia) (by lia) | exact ⟨by decide,by decide⟩ | exact ⟨by lia,log_small (by lia) (by lia)⟩
 | exact .inr ⟨by decide,by decide⟩ | exact .inl ⟨by decide,by decide⟩ | exact .inl ⟨by lia,by lia⟩ | exact .inr ⟨by lia,by lia⟩ | exact ⟨b200 (by lia) (by lia),b200 (by lia) (by lia)⟩
 | exact ⟨by decide,by decide,by decide⟩ | exact Nat.le_of_ble_eq_true rfl)
local macro_rules | `(tactic| walk_at "q")=>`(tactic| first | exact SqT.of (by first | assumption | exact upd_same) | exact SqL.of (by first | assumption | exact upd_same) | assumption)
local macro_rules | `(tactic| walk_at "o")=>`(tactic| repeat (first
 | refine ⟨_,rfl,?_⟩ | refine ⟨_,_,rfl,rfl,?_⟩ | with_reducible refine iteF ?_ | with_reducible refine iteT ?_
 | refine ⟨_,_,_,_,rfl,rfl,(by walk_at "q"),rfl,?_⟩
 | refine And.intro (by walk_at "s") ?_
 | refine ⟨_,_,rfl,?_⟩ | refine ⟨_,_,_,rfl,?_⟩
 | refine ⟨_,_,_,_,_,rfl,rfl,TyOf.int _,kit_int_int _,?_⟩ | refine ⟨_,_,_,_,_,rfl,rfl,TyOf.int _,kit_int_bool _,?_⟩
 | refine ⟨_,_,_,_,_,rfl,rfl,TyOf.bl _,rfl,?_⟩
 | refine ⟨_,_,_,_,_,rfl,rfl,TyOf.tup (by assumption),rfl,?_⟩
 | refine ⟨_,_,rfl,.inr (SqT.of (by assumption)),?_⟩ | refine ⟨_,_,rfl,.inl (SqL.of (by assumption)),?_⟩
 | with_reducible refine iteD (by lia) ?_ | with_reducible refine iteDN (by lia) ?_ | with_reducible refine iteN (by lia) ?_ | with_reducible refine iteNS (by lia) ?_
 | with_reducible refine iteNS rfl ?_))
local macro_rules | `(tactic| walk_at "c")=>`(tactic| first | with_reducible refine iteI ?_ ?_ | with_reducible refine iteIN ?_ ?_ | with_reducible refine iteC ?_ ?_ | with_reducible refine iteCN ?_ ?_ | refine ite2 ?_ ?_)
local macro_rules | `(tactic| walk_at "n")=>`(tactic| (intro z; injection z with z; revert z; decide +kernel))
def OnG (g:Int→Int) (u x v:Int):Prop:=(g v - g u) * (x - u)≤(g x - g u) * (v - u)
def Bnd (g:Int→Int) (u w p:Int):Prop:=(g w - g u) * (p - u) < (w - u) * (g p - g u)
structure Ch (g:Int→Int) (K:List Int):Prop where
 inc:∀ i u v,K[i]? = some u→K[i + 1]? = some v→u < v∧∀ x,u < x→x < v→OnG g u x v
 bnd:∀ i u v w,K[i]? = some u→K[i + 1]? = some v→K[i + 2]? = some w→Bnd g u v w
theorem Ch.tail {g:Int→Int} {u:Int} {K:List Int} (h:Ch g (u :: K)):Ch g K :=
 ⟨fun i a b e1 e2=>h.inc (i + 1) a b (by simpa using e1) (by simpa using e2),fun i a b c e1 e2 e3=>h.bnd (i + 1) a b c (by simpa using e1) (by simpa using e2) (by simpa using e3)⟩
theorem Ch.snoc {g:Int→Int} {A:List Int} {w p:Int} (c:Ch g (A ++ [w])) (hp:w < p) (on:∀ x,w < x→x < p→OnG g w x p) (hb:∀ B u,A = B ++ [u]→Bnd g u w p):Ch g (A ++ [w] ++ [p]):=by
 have L:(A ++ [w]).length = A.length + 1:=by simp
 have low:∀ i v,i < A.length + 1→(A ++ [w] ++ [p])[i]? = some v→(A ++ [w])[i]? = some v:=fun i v hi e=>by rwa [List.getElem?_append_left (by lia)] at e
 have top:∀ i v,i = A.length + 1→(A ++ [w] ++ [p])[i]? = some v→v = p:=fun i v hi e=>by
  rw [List.getElem?_append_right (by lia),L,hi,Nat.sub_self] at e
  simp at e; exact e.symm
 have wat:∀ v,(A ++ [w])[A.length]? = some v→v = w:=fun v e=>by
  rw [List.getElem?_append_right (Nat.le_refl _),Nat.sub_self] at e
  simp at e; exact e.symm
 have bnd:∀ (i:Nat) (v:Int),(A ++ [w] ++ [p])[i]? = some v→i < A.length + 2:=fun i v e=>by
  have:=(List.getElem?_eq_some_iff.mp e).1
  simp at this; lia
 refine ⟨fun i a b e1 e2=>?_,fun i a b d e1 e2 e3=>?_⟩
 ·have:=bnd _ _ e2
  by_cases h:i + 1 = A.length + 1
  ·have hb':=top _ _ h e2
   have ha:=low _ _ (by lia) e1
   rw [show i = A.length by lia] at ha
   have:=wat _ ha
   subst this hb'
   exact ⟨hp,on⟩
  ·exact c.inc i a b (low _ _ (by lia) e1) (low _ _ (by lia) e2)
 ·have:=bnd _ _ e3
  by_cases h:i + 2 = A.length + 1
  ·have hd:=top _ _ h e3
   have hb':=low _ _ (by lia) e2
   rw [show i + 1 = A.length by lia] at hb'
   have:=wat _ hb'
   have ha:=low _ _ (by lia) e1
   rw [List.getElem?_append_left (by lia)] at ha
   subst this hd
   refine hb (A.take i) a ?_
   have:A = A.take i ++ A.drop i:=(List.take_append_drop i A).symm
   rw [List.drop_eq_getElem_cons (by lia:i < A.length),List.drop_eq_nil_of_le (by lia:A.length≤i + 1)] at this
   rw [List.getElem?_eq_getElem (by lia)] at ha
   cases ha
   exact this
  ·exact c.bnd i a b d (low _ _ (by lia) e1) (low _ _ (by lia) e2) (low _ _ (by lia) e3)
structure Eu (m b step drop far lack rest:Int):Prop where
 s1:1≤step
 f0:0≤far
 d0:0≤drop
 db:drop < b
 l1:1≤lack
 es:b ∣ m * step + drop
 ef:b ∣ m * far - lack
 det:step * lack + far * drop = b
 mn:∀ s v,0 < s→s < step→1≤v→v≤rest→¬ b ∣ m * s + v
theorem Eu.less {m b step drop far lack rest rest':Int} (h:Eu m b step drop far lack rest) (hr:rest'≤rest):Eu m b step drop far lack rest' :=
 ⟨h.s1,h.f0,h.d0,h.db,h.l1,h.es,h.ef,h.det,fun s v a b c d=>h.mn s v a b c (by lia)⟩
theorem Eu.start (m b rest:Int) (b0:1≤b):Eu m b 1 (-m % b) 0 b rest:=by
 refine ⟨by lia,by lia,Int.emod_nonneg _ (by lia),Int.emod_lt_of_pos _ (by lia),b0,?_,?_,?_,fun s v a b=>by lia⟩
 ·refine Int.dvd_of_emod_eq_zero ?_
  rw [Int.mul_one,Int.add_emod_emod,Int.add_right_neg,Int.zero_emod]
 ·rw [Int.mul_zero,Int.zero_sub]; exact (Int.dvd_neg).mpr (Int.dvd_refl b)
 ·rw [Int.one_mul,Int.zero_mul,Int.add_zero]
theorem Eu.ratio {m b step drop far lack rest s v:Int} (h:Eu m b step drop far lack rest) (rb:rest < b) (hs:0 < s) (v1:1≤v) (v2:v≤rest) (hd:b ∣ m * s + v):v * step≤drop * s∧step≤s:=by
 refine ⟨Classical.byContradiction fun z=>?_,Classical.byContradiction fun z=>h.mn s v hs (by lia) v1 v2 hd⟩
 have s1:=h.s1
 have t0:=Int.emod_nonneg s (show step ≠ 0 by lia)
 have t1:=Int.emod_lt_of_pos s (show 0 < step by lia)
 have e:=Int.mul_ediv_add_emod s step
 have q0:0≤s / step:=Int.ediv_nonneg (by lia) (by lia)
 generalize s % step = t at t0 t1 e
 generalize s / step = q at q0 e
 have k1:drop * t < (v - q * drop) * step:=by
  have:drop * s = drop * (step * q + t):=by rw [e]
  grind
 have k0:0≤drop * t:=Int.mul_nonneg h.d0 t0
 have k2:1≤v - q * drop:=Classical.byContradiction fun y=>by
  have:=Int.mul_nonpos_of_nonpos_of_nonneg (show v - q * drop≤0 by lia) (show 0≤step by lia)
  lia
 have k3:0≤q * drop:=Int.mul_nonneg q0 h.d0
 have k4:b ∣ m * t + (v - q * drop):=by
  have:m * t + (v - q * drop) = (m * s + v) - (m * step + drop) * q:=by rw [← e]; grind
  rw [this]
  exact Int.dvd_sub hd (Int.dvd_mul_of_dvd_left h.es)
 by_cases c:t = 0
 ·rw [c,Int.mul_zero,Int.zero_add] at k4
  have:=Int.le_of_dvd (by lia) k4
  lia
 ·exact h.mn t _ (by lia) t1 k2 (by lia) k4
theorem Eu.none {m b step drop far lack rest s v:Int} (h:Eu m b step drop far lack rest) (hr:rest < drop) (hl:lack % drop = 0) (v1:1≤v) (v2:v≤rest):¬ b ∣ m * s + v:=fun hd=>by
 have d0:0 < drop:=by lia
 have e:=Int.mul_ediv_add_emod lack drop
 rw [hl,Int.add_zero] at e
 generalize lack / drop = q at e
 have k:b = (far + q * step) * drop:=by have:=h.det; rw [← e] at this; grind
 have k2:b ∣ m * (far + q * step):=by
  have:m * (far + q * step) = (m * far - lack) + (m * step + drop) * q:=by rw [← e]; grind
  rw [this]
  exact Int.dvd_add h.ef (Int.dvd_mul_of_dvd_left h.es)
 have k3:b ∣ (far + q * step) * v:=by
  have:(far + q * step) * v = (m * s + v) * (far + q * step) - m * (far + q * step) * s:=by grind
  rw [this]
  exact Int.dvd_sub (Int.dvd_mul_of_dvd_left hd) (Int.dvd_mul_of_dvd_left k2)
 have F0:far + q * step ≠ 0:=fun z=>by rw [z,Int.zero_mul] at k; have:=h.db; lia
 rw [k] at k3
 have k4:=Int.dvd_of_mul_dvd_mul_left F0 k3
 have:=Int.le_of_dvd (by lia) k4
 lia
theorem Eu.next {m b step drop far lack rest:Int} (h:Eu m b step drop far lack rest) (hr:rest < drop) (r0:0≤rest) (hl:lack % drop ≠ 0) {many:Int} (hm:many = min (-((rest - drop) / (lack % drop))) ((drop - 1) / (lack % drop))) :
  1≤many∧Eu m b (step + many * (far + lack / drop * step)) (drop - many * (lack % drop)) (far + lack / drop * step) (lack % drop) rest∧1≤drop - many * (lack % drop)∧drop - many * (lack % drop) < drop:=by
 have d0:0 < drop:=by lia
 have e:=Int.mul_ediv_add_emod lack drop
 have t0:=Int.emod_nonneg lack (show drop ≠ 0 by lia)
 have t1:=Int.emod_lt_of_pos lack d0
 have q0:0≤lack / drop:=Int.ediv_nonneg (by have:=h.l1; lia) (by lia)
 generalize lack % drop = L at *
 generalize lack / drop = q at *
 have s1:=h.s1
 have f0:=h.f0
 have F0:0≤far + q * step:=Int.add_nonneg h.f0 (Int.mul_nonneg q0 (by lia))
 have det:step * L + (far + q * step) * drop = b:=by have:=h.det; rw [← e] at this; grind
 have eF:b ∣ m * (far + q * step) - L:=by
  have:m * (far + q * step) - L = (m * far - lack) + (m * step + drop) * q:=by rw [← e]; grind
  rw [this]
  exact Int.dvd_add h.ef (Int.dvd_mul_of_dvd_left h.es)
 generalize far + q * step = F at *
 have L0:0 < L:=by lia
 have a1:=Int.ediv_mul_le (rest - drop) (show L ≠ 0 by lia)
 have a2:=Int.lt_ediv_add_one_mul_self (rest - drop) L0
 have b1:=Int.ediv_mul_le (drop - 1) (show L ≠ 0 by lia)
 have c1:1≤(drop - 1) / L:=Int.le_ediv_of_mul_le L0 (by lia)
 have c2:(rest - drop) / L < 0:=Int.ediv_neg_of_neg_of_pos (by lia) L0
 generalize (rest - drop) / L = A at *
 generalize (drop - 1) / L = B at *
 have m1:1≤many:=by lia
 have mB:many≤B:=by lia
 have mA:many≤-A:=by lia
 have n1:many * L≤B * L:=Int.mul_le_mul_of_nonneg_right mB (by lia)
 have n2:L≤many * L:=by have:=Int.mul_le_mul_of_nonneg_right m1 (show 0≤L by lia); lia
 have n3:0≤many * F:=Int.mul_nonneg (by lia) F0
 refine ⟨m1,⟨by lia,F0,by lia,by have:=h.db; lia,by lia,?_,eF,by grind,fun s v hs hs' v1 v2 hd=>?_⟩,by lia,by lia⟩
 ·have:m * (step + many * F) + (drop - many * L) = (m * step + drop) + (m * F - L) * many:=by grind
  rw [this]
  exact Int.dvd_add h.es (Int.dvd_mul_of_dvd_left eF)
 ·-- the two numbers of (s,v) by the two steps
  have x1:b ∣ s * L + v * F:=by
   have:s * L + v * F = (m * s + v) * F - (m * F - L) * s:=by grind
   rw [this]
   exact Int.dvd_sub (Int.dvd_mul_of_dvd_left hd) (Int.dvd_mul_of_dvd_left eF)
  have x2:b ∣ s * drop - v * step:=by
   have:s * drop - v * step = (m * step + drop) * s - (m * s + v) * step:=by grind
   rw [this]
   exact Int.dvd_sub (Int.dvd_mul_of_dvd_left h.es) (Int.dvd_mul_of_dvd_left hd)
  obtain ⟨α,hα⟩:=x1
  obtain ⟨β,hβ⟩:=x2
  have b0:0 < b:=by have:=h.db; lia
  have eα:s = α * step + β * F:=by
   have:s * b = (α * step + β * F) * b:=by
    have:s * b = s * (step * L + F * drop):=by rw [det]
    grind
   exact Int.eq_of_mul_eq_mul_right (by lia) this
  have eβ:v = α * drop - β * L:=by
   have:v * b = (α * drop - β * L) * b:=by
    have:v * b = v * (step * L + F * drop):=by rw [det]
    grind
   exact Int.eq_of_mul_eq_mul_right (by lia) this
  have p1:0 < s * L:=Int.mul_pos hs L0
  have p2:0≤v * F:=Int.mul_nonneg (by lia) F0
  have α1:1≤α:=Classical.byContradiction fun z=>by
   have:=Int.mul_nonpos_of_nonneg_of_nonpos (show 0≤b by lia) (show α≤0 by lia)
   lia
  have p3:drop≤α * drop:=by have:=Int.mul_le_mul_of_nonneg_right α1 (show 0≤drop by lia); lia
  have β1:many≤β:=by
   refine Int.le_trans mA (Classical.byContradiction fun z=>?_)
   have:=Int.mul_le_mul_of_nonneg_right (show β≤-A - 1 by lia) (show 0≤L by lia)
   have e1:(-A - 1) * L = -((A + 1) * L):=by grind
   lia
  have p4:step≤α * step:=by have:=Int.mul_le_mul_of_nonneg_right α1 (show 0≤step by lia); lia
  have p5:many * F≤β * F:=Int.mul_le_mul_of_nonneg_right β1 F0
  lia
def Rs (m a b x:Int):Int:=(m * x + a) % b
theorem Rs_drop {m a b x s v:Int} (b0:0 < b) (hd:b ∣ m * s + v) (v0:0≤v) (v1:v≤Rs m a b x):Rs m a b (x + s) = Rs m a b x - v:=by
 unfold Rs at *
 obtain ⟨k,hk⟩:=hd
 have e:=Int.mul_ediv_add_emod (m * x + a) b
 have h:=Int.emod_lt_of_pos (m * x + a) b0
 generalize (m * x + a) % b = r at *
 generalize (m * x + a) / b = q at *
 rw [show m * (x + s) + a = (r - v) + b * (q + k) by grind,Int.add_mul_emod_self_left,Int.emod_eq_of_lt (by lia) (by lia)]
theorem Rs_less {m a b x s:Int} (b0:0 < b) (h:Rs m a b (x + s) < Rs m a b x):1≤Rs m a b x - Rs m a b (x + s)∧Rs m a b x - Rs m a b (x + s)≤Rs m a b x∧b ∣ m * s + (Rs m a b x - Rs m a b (x + s)):=by
 unfold Rs at *
 have e1:=Int.mul_ediv_add_emod (m * x + a) b
 have e2:=Int.mul_ediv_add_emod (m * (x + s) + a) b
 have n2:=Int.emod_nonneg (m * (x + s) + a) (show b ≠ 0 by lia)
 generalize (m * x + a) % b = r at *
 generalize (m * (x + s) + a) % b = r' at *
 generalize (m * x + a) / b = q at *
 generalize (m * (x + s) + a) / b = q' at *
 exact ⟨by lia,by lia,⟨q' - q,by grind⟩⟩
theorem Rs_rg {m a b x:Int} (b0:0 < b):0≤Rs m a b x∧Rs m a b x < b:=⟨Int.emod_nonneg _ (by lia),Int.emod_lt_of_pos _ b0⟩
abbrev Row3:=Int × Int × Int
def plcs (rs:List Row3):List Int:=rs.foldl (fun P r=>P ++ [P.getLast?.getD 0 + r.1 * r.2.2]) [0]
theorem plcs_snoc (rs:List Row3) (r:Row3):plcs (rs ++ [r]) = plcs rs ++ [(plcs rs).getLast?.getD 0 + r.1 * r.2.2]:=by
 unfold plcs; rw [List.foldl_append]; rfl
theorem plcs_len (rs:List Row3):(plcs rs).length = rs.length + 1:=by
 have:∀ (rs:List Row3) (P:List Int),(rs.foldl (fun P r=>P ++ [P.getLast?.getD 0 + r.1 * r.2.2]) P).length = rs.length + P.length:=by
  intro rs
  induction rs with
  | nil=>intro P; simp
  | cons r rs ih=>intro P; rw [List.foldl_cons,ih]; simp; lia
 exact this rs [0]
structure RowOk (m a b n:Int) (P:List Int) (i:Nat) (r:Row3) (u:Int):Prop where
 s1:1≤r.1
 d1:1≤r.2.1
 d2:r.2.1≤Rs m a b u
 dv:b ∣ m * r.1 + r.2.1
 t1:1≤r.2.2
 tm:r.2.2 = min (Rs m a b u / r.2.1) ((n - u) / r.1)
 nx:P[i + 1]? = some (u + r.1 * r.2.2)
 mn:∀ s v,0 < s→s < r.1→1≤v→v≤Rs m a b u→¬ b ∣ m * s + v
structure FI (m a b n:Int) (rs:List Row3) (x rest step drop far lack:Int):Prop where
 eu:Eu m b step drop far lack rest
 x0:0≤x
 xn:x≤n
 re:rest = Rs m a b x
 ch:Ch (Rs m a b) (plcs rs)
 hd:(plcs rs)[0]? = some 0
 la:(plcs rs).getLast? = some x
 rc:∀ z,0≤z→z < x→Rs m a b x < Rs m a b z
 dn:∀ i u v,(plcs rs)[i]? = some u→(plcs rs)[i + 1]? = some v→Rs m a b v < Rs m a b u
 ed:∀ B u,plcs rs = B ++ [u] ++ [x]→∃ st dr ti,1≤st∧1≤dr∧1≤ti∧x = u + ti * st∧Rs m a b u = Rs m a b x + ti * dr∧st≤step∧(rest < dr∨n - x < st)
 rw:∀ i r u,rs[i]? = some r→(plcs rs)[i]? = some u→RowOk m a b n (plcs rs) i r u
 pw:(2:Int) ^ rs.length * rest < b∨n - x < step
 ln:∀ k,rs.length = k + 1→(2:Int) ^ k < b
theorem FI.start {m a b n:Int} (b0:1≤b) (n0:0≤n):FI m a b n [] 0 (a % b) 1 (-m % b) 0 b:=by
 have e:plcs [] = [0]:=rfl
 refine ⟨Eu.start m b _ b0,by lia,n0,by unfold Rs; rw [Int.mul_zero,Int.zero_add],⟨fun i u v e1 e2=>?_,fun i u v w e1 e2=>?_⟩,rfl,rfl,fun z a b=>by lia,fun i u v e1 e2=>?_,fun B u h=>?_,fun i r u h=>by simp at h,.inl ?_,fun k hk=>by simp at hk⟩
 ·rw [e] at e2; simp at e2
 ·rw [e] at e2; simp at e2
 ·rw [e] at e2; simp at e2
 ·rw [e] at h
  have:=congrArg List.length h
  simp at this
 ·show (2:Int) ^ 0 * (a % b) < b
  rw [Int.pow_zero,Int.one_mul]
  exact Int.emod_lt_of_pos _ (by lia)
theorem FI.next {m a b n:Int} {rs:List Row3} {x rest step drop far lack:Int} (h:FI m a b n rs x rest step drop far lack) (b0:0 < b) (hr:rest < drop) (hl:lack % drop ≠ 0) {many:Int} (hm:many = min (-((rest - drop) / (lack % drop))) ((drop - 1) / (lack % drop))) :
  FI m a b n rs x rest (step + many * (far + lack / drop * step)) (drop - many * (lack % drop)) (far + lack / drop * step) (lack % drop):=by
 have r0:0≤rest:=by rw [h.re]; exact (Rs_rg b0).1
 obtain ⟨m1,eu,_,_⟩:=h.eu.next hr r0 hl hm
 have mf:0≤many * (far + lack / drop * step):=Int.mul_nonneg (by lia) eu.f0
 refine ⟨eu,h.x0,h.xn,h.re,h.ch,h.hd,h.la,h.rc,h.dn,fun B u e=>?_,h.rw,h.pw.imp id fun z=>by lia,h.ln⟩
 obtain ⟨st,dr,ti,a1,a2,a3,a4,a5,a6,a7⟩:=h.ed B u e
 have:0≤many * (far + lack / drop * step):=Int.mul_nonneg (by lia) eu.f0
 exact ⟨st,dr,ti,a1,a2,a3,a4,a5,by lia,a7⟩
theorem last_split {P:List Int} {x:Int} (h:P.getLast? = some x):∃ A,P = A ++ [x]:=by
 cases e:P with
 | nil=>rw [e] at h; cases h
 | cons a t =>
  rw [e] at h
  refine ⟨(a :: t).dropLast,?_⟩
  have h2:(a :: t).getLast (by simp) = x:=by
   rw [List.getLast?_eq_some_getLast (by simp)] at h
   exact Option.some.inj h
  rw [← h2,List.dropLast_concat_getLast]
theorem FI.row {m a b n:Int} {rs:List Row3} {x rest step drop far lack:Int} (h:FI m a b n rs x rest step drop far lack) (b0:0 < b) (d1:0 < drop) (hr:drop≤rest) {times:Int} (ht:times = min (rest / drop) ((n - x) / step)) (t0:times ≠ 0) :
  FI m a b n (rs ++ [(step,drop,times)]) (x + times * step) (rest - times * drop) step drop far lack∧1≤times∧rest - times * drop < rest∧0≤rest - times * drop:=by
 have s1:=h.eu.s1
 have rg:=Rs_rg (m:=m) (a:=a) (b:=b) (x:=x) b0
 have re:=h.re
 have xn:=h.xn
 have q1:=Int.ediv_mul_le rest (show drop ≠ 0 by lia)
 have q0:0≤rest / drop:=Int.ediv_nonneg (by lia) (by lia)
 have q2:=Int.ediv_mul_le (n - x) (show step ≠ 0 by lia)
 have q3:0≤(n - x) / step:=Int.ediv_nonneg (by lia) (by lia)
 have q4:=Int.lt_ediv_add_one_mul_self rest d1
 have q5:=Int.lt_ediv_add_one_mul_self (n - x) (show 0 < step by lia)
 have t1:1≤times:=by lia
 have u1:times * drop≤rest / drop * drop:=Int.mul_le_mul_of_nonneg_right (by lia) (by lia)
 have u2:times * step≤(n - x) / step * step:=Int.mul_le_mul_of_nonneg_right (by lia) (by lia)
 have u3:drop≤times * drop:=by have:=Int.mul_le_mul_of_nonneg_right t1 (show 0≤drop by lia); lia
 have u4:step≤times * step:=by have:=Int.mul_le_mul_of_nonneg_right t1 (show 0≤step by lia); lia
 have dvt:b ∣ m * (times * step) + times * drop:=by
  have:m * (times * step) + times * drop = (m * step + drop) * times:=by grind
  rw [this]; exact Int.dvd_mul_of_dvd_left h.eu.es
 have Rx:Rs m a b (x + times * step) = rest - times * drop:=by
  rw [Rs_drop b0 dvt (by lia) (by lia),← re]
 have side:∀ s,0 < s→-(drop * s)≤(Rs m a b (x + s) - rest) * step:=fun s hs=>by
  by_cases c:Rs m a b (x + s) < rest
  ·obtain ⟨v1,v2,v3⟩:=Rs_less b0 (by rw [← re]; exact c)
   have:=(h.eu.ratio (by lia) hs v1 (by lia) v3).1
   rw [← re] at this
   grind
  ·have a1:0≤(Rs m a b (x + s) - rest) * step:=Int.mul_nonneg (by lia) (by lia)
   have a2:0≤drop * s:=Int.mul_nonneg (by lia) (by lia)
   lia
 have la:(plcs (rs ++ [(step,drop,times)])) = plcs rs ++ [x + times * step]:=by
  rw [plcs_snoc,h.la,Int.mul_comm times]; rfl
 obtain ⟨A,hA⟩:=last_split h.la
 have on:∀ z,x < z→z < x + times * step→OnG (Rs m a b) x z (x + times * step):=fun z h1 h2=>by
  have:=side (z - x) (by lia)
  rw [show x + (z - x) = z by lia] at this
  unfold OnG
  rw [Rx,← re]
  have k:=Int.mul_le_mul_of_nonneg_right this (show 0≤times by lia)
  grind
 have bd:∀ B u,A = B ++ [u]→Bnd (Rs m a b) u x (x + times * step):=fun B u e=>by
  obtain ⟨st,dr,ti,a1,a2,a3,a4,a5,a6,a7⟩:=h.ed B u (by rw [hA,e])
  have dr2:drop < dr:=by
   rcases a7 with a7 | a7
   ·lia
   ·lia
  unfold Bnd
  rw [Rx,a5,← re]
  have k:st * drop < step * dr:=by
   have i1:st * drop≤step * drop:=Int.mul_le_mul_of_nonneg_right a6 (by lia)
   have i2:step * drop < step * dr:=Int.mul_lt_mul_of_pos_left dr2 (by lia)
   lia
  have k2:=Int.mul_lt_mul_of_pos_right k (Int.mul_pos (show 0 < ti by lia) (show 0 < times by lia))
  rw [a4] at *
  grind
 have x0:=h.x0
 refine ⟨⟨h.eu.less (by lia),by lia,by lia,Rx.symm,?_,?_,?_,fun z z0 z1=>?_,?_,fun B u e=>?_,fun i r u e1 e2=>?_,?_,fun k hk=>?_⟩,t1,by lia,by lia⟩
 ·rw [la,hA]
  have hc:=h.ch
  rw [hA] at hc
  exact hc.snoc (by lia) on bd
 ·rw [la,List.getElem?_append_left (by rw [plcs_len]; lia)]; exact h.hd
 ·rw [la]; simp
 ·rw [Rx]
  by_cases c:z < x
  ·have:=h.rc z z0 c; lia
  ·by_cases c2:z = x
   ·rw [c2,← re]; lia
   ·have:=side (z - x) (by lia)
    rw [show x + (z - x) = z by lia] at this
    have k:drop * (z - x) < drop * (times * step):=Int.mul_lt_mul_of_pos_left (by lia) d1
    have:-(times * drop) * step < (Rs m a b z - rest) * step:=by grind
    have:=Int.lt_of_mul_lt_mul_right this (by lia)
    lia
 ·intro i u v e1 e2
  rw [la] at e1 e2
  have L:=plcs_len rs
  by_cases c:i + 1 < (plcs rs).length
  ·rw [List.getElem?_append_left (by lia)] at e1
   rw [List.getElem?_append_left c] at e2
   exact h.dn i u v e1 e2
  ·have l2:=(List.getElem?_eq_some_iff.mp e2).1
   rw [List.length_append,List.length_singleton] at l2
   have hi:i + 1 = (plcs rs).length:=by lia
   rw [List.getElem?_append_right (by lia),hi,Nat.sub_self] at e2
   rw [List.getElem?_append_left (by lia)] at e1
   have:(plcs rs)[i]? = some x:=by
    have z:=h.la
    rw [List.getLast?_eq_getElem?] at z
    rw [show i = (plcs rs).length - 1 by lia]; exact z
   rw [this] at e1
   simp at e1 e2
   subst e1 e2
   rw [Rx,← re]; lia
 ·rw [la,hA] at e
  have e2:=List.append_inj_left' e rfl
  have e3:=List.append_inj_right' e2 rfl
  simp at e3
  subst e3
  refine ⟨step,drop,times,s1,by lia,t1,rfl,by rw [Rx,← re]; lia,Int.le_refl _,?_⟩
  by_cases c:rest / drop≤(n - x) / step
  ·left
   have:times = rest / drop:=by lia
   rw [Int.add_mul,Int.one_mul,← this] at q4
   lia
  ·right
   have:times = (n - x) / step:=by lia
   rw [Int.add_mul,Int.one_mul,← this] at q5
   lia
 ·have L:=plcs_len rs
  rw [la] at e2
  by_cases c:i < rs.length
  ·rw [List.getElem?_append_left c] at e1
   rw [List.getElem?_append_left (by lia)] at e2
   obtain ⟨o1,o2,o3,o4,o5,o6,o7,o8⟩:=h.rw i r u e1 e2
   exact ⟨o1,o2,o3,o4,o5,o6,by rw [la,List.getElem?_append_left (by lia)]; exact o7,o8⟩
  ·have l2:=(List.getElem?_eq_some_iff.mp e1).1
   rw [List.length_append,List.length_singleton] at l2
   have hi:i = rs.length:=by lia
   subst hi
   rw [List.getElem?_append_right (Nat.le_refl _),Nat.sub_self] at e1
   rw [List.getElem?_append_left (by lia)] at e2
   have:(plcs rs)[rs.length]? = some x:=by
    have z:=h.la
    rw [List.getLast?_eq_getElem?] at z
    rw [show rs.length = (plcs rs).length - 1 by lia]; exact z
   rw [this] at e2
   simp at e1 e2
   subst e1 e2
   refine ⟨s1,(by show 1≤drop; lia),(by show drop≤_; lia),h.eu.es,t1,by rw [← re]; exact ht,?_,fun s v y1 y2 y3 y4=>h.eu.mn s v y1 y2 y3 (by lia)⟩
   rw [la,List.getElem?_append_right (by lia),L,Nat.sub_self]
   simp
   exact Int.mul_comm _ _
 ·have p0:(0:Int) < 2 ^ rs.length:=Int.pow_pos (by decide)
  rw [List.length_append,List.length_singleton]
  rcases h.pw with z | z
  ·by_cases c:rest / drop≤(n - x) / step
   ·left
    have:times = rest / drop:=by lia
    rw [Int.add_mul,Int.one_mul,← this] at q4
    have k:(2:Int) ^ rs.length * (2 * (rest - times * drop))≤2 ^ rs.length * rest:=Int.mul_le_mul_of_nonneg_left (by lia) (by lia)
    rw [Int.pow_succ,Int.mul_assoc]
    lia
   ·right
    have:times = (n - x) / step:=by lia
    rw [Int.add_mul,Int.one_mul,← this] at q5
    lia
  ·lia
 ·have p0:(0:Int) < 2 ^ rs.length:=Int.pow_pos (by decide)
  rw [List.length_append,List.length_singleton] at hk
  rw [show k = rs.length by lia]
  rcases h.pw with z | z
  ·have k:(2:Int) ^ rs.length * 1≤2 ^ rs.length * rest:=Int.mul_le_mul_of_nonneg_left (by lia) (by lia)
   lia
  ·lia
structure FF (m a b n:Int) (rs:List Row3) (x:Int):Prop where
 x0:0≤x
 xn:x≤n
 ch:Ch (Rs m a b) (plcs rs)
 hd:(plcs rs)[0]? = some 0
 la:(plcs rs).getLast? = some x
 rc:∀ z,0≤z→z < x→Rs m a b x < Rs m a b z
 dn:∀ i u v,(plcs rs)[i]? = some u→(plcs rs)[i + 1]? = some v→Rs m a b v < Rs m a b u
 rw:∀ i r u,rs[i]? = some r→(plcs rs)[i]? = some u→RowOk m a b n (plcs rs) i r u
 no:∀ s v,0 < s→s≤n - x→1≤v→v≤Rs m a b x→¬ b ∣ m * s + v
 ln:∀ k,rs.length = k + 1→(2:Int) ^ k < b
theorem FF.low {m a b n:Int} {rs:List Row3} {x:Int} (h:FF m a b n rs x) (b0:0 < b):∀ z,0≤z→z≤n→Rs m a b x≤Rs m a b z:=fun z z0 z1=>by
 by_cases c:z < x
 ·exact Int.le_of_lt (h.rc z z0 c)
 ·by_cases c2:z = x
  ·rw [c2]; exact Int.le_refl _
  ·refine Classical.byContradiction fun y=>?_
   obtain ⟨v1,v2,v3⟩:=Rs_less (m:=m) (a:=a) (x:=x) (s:=z - x) b0 (by rw [show x + (z - x) = z by lia]; lia)
   exact h.no (z - x) _ (by lia) (by lia) v1 v2 v3
theorem FI.fin {m a b n:Int} {rs:List Row3} {x rest step drop far lack:Int} (h:FI m a b n rs x rest step drop far lack) (no:∀ s v,0 < s→s≤n - x→1≤v→v≤rest→¬ b ∣ m * s + v):FF m a b n rs x :=
 ⟨h.x0,h.xn,h.ch,h.hd,h.la,h.rc,h.dn,h.rw,by rw [← h.re]; exact no,h.ln⟩
theorem FI.end_lack {m a b n:Int} {rs:List Row3} {x rest step drop far lack:Int} (h:FI m a b n rs x rest step drop far lack) (hr:rest < drop) (hl:lack % drop = 0):FF m a b n rs x:=h.fin fun _ _ _ _ v1 v2=>h.eu.none hr hl v1 v2
theorem FI.end_times {m a b n:Int} {rs:List Row3} {x rest step drop far lack:Int} (h:FI m a b n rs x rest step drop far lack) (d1:0 < drop) (hr:drop≤rest) (t0:min (rest / drop) ((n - x) / step) = 0):FF m a b n rs x:=by
 have q1:1≤rest / drop:=Int.le_ediv_of_mul_le d1 (by lia)
 have s1:=h.eu.s1
 have q5:=Int.lt_ediv_add_one_mul_self (n - x) (show 0 < step by lia)
 rw [show (n - x) / step = 0 by lia] at q5
 exact h.fin fun s v a b c d=>h.eu.mn s v a (by lia) c d
theorem FI.end_loop {m a b n:Int} {rs:List Row3} {x rest step drop far lack:Int} (h:FI m a b n rs x rest step drop far lack) (b0:0 < b) (hc:¬ (0 < drop∧0 < rest)):FF m a b n rs x:=by
 refine h.fin fun s v s0 s1 v1 v2 hd=>?_
 have rg:=Rs_rg (m:=m) (a:=a) (b:=b) (x:=x) b0
 have re:=h.re
 have d0:=h.eu.d0
 have dz:drop = 0:=by lia
 have:=(h.eu.ratio (by lia) s0 v1 v2 hd).1
 rw [dz,Int.zero_mul] at this
 have:1 * 1≤v * step:=Int.mul_le_mul v1 h.eu.s1 (by lia) (by lia)
 lia
theorem Ch.mirror {g:Int→Int} {n:Int} {Q:List Int} (h:Ch (fun z=>g (n - z)) Q):Ch g ((Q.map fun z=>n - z).reverse):=by
 have L:(Q.map fun z=>n - z).length = Q.length:=List.length_map _
 have get:∀ (i:Nat) (u:Int),((Q.map fun z=>n - z).reverse)[i]? = some u→i < Q.length∧Q[Q.length - 1 - i]? = some (n - u):=fun i u e=>by
  have hi:=(List.getElem?_eq_some_iff.mp e).1
  rw [List.length_reverse,L] at hi
  rw [List.getElem?_reverse (by lia),L,List.getElem?_map] at e
  cases c:Q[Q.length - 1 - i]? with
  | none=>rw [c] at e; cases e
  | some v =>
   rw [c] at e
   have:n - v = u:=Option.some.inj e
   exact ⟨hi,by rw [← this]; congr 1; lia⟩
 refine ⟨fun i u v e1 e2=>?_,fun i u v w e1 e2 e3=>?_⟩
 ·obtain ⟨h1,a1⟩:=get _ _ e1
  obtain ⟨h2,a2⟩:=get _ _ e2
  have k:=h.inc (Q.length - 1 - (i + 1)) (n - v) (n - u) a2 (by rw [show Q.length - 1 - (i + 1) + 1 = Q.length - 1 - i by lia]; exact a1)
  refine ⟨by lia,fun x x1 x2=>?_⟩
  have:=k.2 (n - x) (by lia) (by lia)
  unfold OnG at this ⊢
  simp only [show ∀ y:Int,n - (n - y) = y from fun y=>by lia] at this
  grind
 ·obtain ⟨h1,a1⟩:=get _ _ e1
  obtain ⟨h2,a2⟩:=get _ _ e2
  obtain ⟨h3,a3⟩:=get _ _ e3
  have:=h.bnd (Q.length - 1 - (i + 2)) (n - w) (n - v) (n - u) a3 (by rw [show Q.length - 1 - (i + 2) + 1 = Q.length - 1 - (i + 1) by lia]; exact a2) (by rw [show Q.length - 1 - (i + 2) + 2 = Q.length - 1 - i by lia]; exact a1)
  unfold Bnd at this ⊢
  simp only [show ∀ y:Int,n - (n - y) = y from fun y=>by lia] at this
  grind
theorem Ch.join {g:Int→Int}:∀ (B A:List Int) (u v:Int),Ch g (A ++ [u,v])→Ch g (v :: B)→(∀ w B',B = w :: B'→Bnd g u v w)→Ch g (A ++ [u] ++ (v :: B))
 | [],A,u,v,h,_,_=>by simpa using h
 | w :: B,A,u,v,h,c,hb=>by
  have i:=c.inc 0 v w rfl rfl
  have h':Ch g ((A ++ [u]) ++ [v]):=by simpa using h
  have s:=h'.snoc i.1 i.2 (fun B' t e=>by
   have:=List.append_inj_right' e rfl
   simp at this
   subst this
   exact hb w B rfl)
  have:=Ch.join B (A ++ [u]) v w (by simpa using s) c.tail (fun x B' e=>by subst e; exact c.bnd 0 v w x rfl rfl rfl)
  simpa using this
theorem Rs_mir (m a b n z:Int):Rs (-m) (m * n + a) b z = Rs m a b (n - z):=by
 unfold Rs
 congr 1
 grind
def crn (n:Int) (rs qs:List Row3):List Int:=if (plcs rs).getLast? = ((plcs qs).map fun z=>n - z).getLast? then plcs rs ++ ((plcs qs).map fun z=>n - z).reverse.tail else plcs rs ++ ((plcs qs).map fun z=>n - z).reverse
theorem crn_ch {m a b n:Int} {rs qs:List Row3} {xl xr:Int} (b0:0 < b) (hl:FF m a b n rs xl) (hr:FF (-m) (m * n + a) b n qs xr) :
  Ch (Rs m a b) (crn n rs qs)∧(crn n rs qs)[0]? = some 0∧(crn n rs qs).getLast? = some n∧∀ z,z ∈ crn n rs qs ↔ z ∈ plcs rs∨z ∈ (plcs qs).map fun z=>n - z:=by
 have fe:Rs (-m) (m * n + a) b = fun z=>Rs m a b (n - z):=funext fun z=>Rs_mir m a b n z
 have c1:=hl.ch
 have c2:Ch (Rs m a b) (((plcs qs).map fun z=>n - z).reverse):=Ch.mirror (by have:=hr.ch; rw [fe] at this; exact this)
 obtain ⟨A,hA⟩:=last_split hl.la
 obtain ⟨A2,hA2⟩:=last_split hr.la
 have eR:((plcs qs).map fun z=>n - z).reverse = (n - xr) :: (A2.map fun z=>n - z).reverse:=by rw [hA2]; simp
 have eG:((plcs qs).map fun z=>n - z).getLast? = some (n - xr):=by rw [hA2]; simp
 have m1:=hl.low b0
 have m2:∀ z,0≤z→z≤n→Rs m a b (n - xr)≤Rs m a b z:=fun z z0 z1=>by
  have:=hr.low b0 (n - z) (by lia) (by lia)
  rw [Rs_mir,Rs_mir,show n - (n - z) = z by lia] at this
  exact this
 have x1:=hl.x0
 have x2:=hl.xn
 have x3:=hr.x0
 have x4:=hr.xn
 have eq:Rs m a b xl = Rs m a b (n - xr):=Int.le_antisymm (m1 _ (by lia) (by lia)) (m2 _ x1 x2)
 have le:xl≤n - xr:=Classical.byContradiction fun z=>by
  have:=hl.rc (n - xr) (by lia) (by lia)
  lia
 have lst:(((plcs qs).map fun z=>n - z).reverse).getLast? = some n:=by
  rw [List.getLast?_reverse,List.head?_map,List.head?_eq_getElem?,hr.hd]
  simp
 rw [eR] at lst c2
 generalize hB:(A2.map fun z=>n - z).reverse = B at eR lst c2
 have up:∀ w B',B = w :: B'→n - xr < w∧Rs m a b (n - xr) < Rs m a b w:=fun w B' e=>by
  rw [e] at hB eR
  have g:(((plcs qs).map fun z=>n - z).reverse)[1]? = some w:=by rw [eR]; rfl
  have gl:=(List.getElem?_eq_some_iff.mp g).1
  rw [List.length_reverse,List.length_map] at gl
  rw [List.getElem?_reverse (by rw [List.length_map]; exact gl),List.length_map,List.getElem?_map] at g
  have la:=hr.la
  rw [List.getLast?_eq_getElem?] at la
  cases c:(plcs qs)[(plcs qs).length - 1 - 1]? with
  | none=>rw [c] at g; cases g
  | some v =>
   rw [c] at g
   have g:n - v = w:=Option.some.inj g
   have d:=hr.dn ((plcs qs).length - 1 - 1) v xr c (by rw [show (plcs qs).length - 1 - 1 + 1 = (plcs qs).length - 1 by lia]; exact la)
   have i:=(hr.ch.inc ((plcs qs).length - 1 - 1) v xr c (by rw [show (plcs qs).length - 1 - 1 + 1 = (plcs qs).length - 1 by lia]; exact la)).1
   rw [Rs_mir,Rs_mir,g] at d
   exact ⟨by lia,d⟩
 have dn:∀ A' t,A = A' ++ [t]→t < xl∧Rs m a b xl < Rs m a b t:=fun A' t e=>by
  have g1:(plcs rs)[A'.length]? = some t:=by rw [hA,e]; simp
  have g2:(plcs rs)[A'.length + 1]? = some xl:=by rw [hA,e]; simp
  exact ⟨(hl.ch.inc _ _ _ g1 g2).1,hl.dn _ _ _ g1 g2⟩
 have mem:∀ z,z ∈ ((plcs qs).map fun z=>n - z) ↔ z = n - xr∨z ∈ B:=fun z=>by rw [← List.mem_reverse,eR,List.mem_cons]
 by_cases c:xl = n - xr
 ·have e:crn n rs qs = A ++ [xl] ++ B:=by
   unfold crn
   rw [hl.la,eG,if_pos (by rw [c]),eR,List.tail_cons,hA]
  rw [← c] at c2 lst
  refine ⟨?_,?_,?_,fun z=>?_⟩
  ·rw [e]
   rw [hA] at c1
   cases hAA:A.getLast? with
   | none =>
    have:A = []:=by simpa using hAA
    subst this
    exact c2
   | some t =>
    obtain ⟨A',e'⟩:=last_split hAA
    obtain ⟨d1,d2⟩:=dn A' t e'
    rw [e'] at c1 ⊢
    have:=Ch.join B A' t xl (by simpa using c1) c2 (fun w B' ee=>by
     obtain ⟨u1,u2⟩:=up w B' ee
     unfold Bnd
     have k1:(Rs m a b t - Rs m a b xl) * (w - xl) > 0:=Int.mul_pos (by lia) (by lia)
     have k2:(xl - t) * (Rs m a b w - Rs m a b xl) > 0:=Int.mul_pos (by lia) (by lia)
     grind)
    simpa using this
  ·rw [e,← hA,List.getElem?_append_left (by rw [plcs_len]; lia)]; exact hl.hd
  ·rw [e,List.append_assoc,List.singleton_append,List.getLast?_append,lst]; rfl
  ·rw [mem,e,hA,List.mem_append,← c]
   constructor
   ·rintro (h | h)
    ·exact .inl h
    ·exact .inr (.inr h)
   ·rintro (h | h | h)
    ·exact .inl h
    ·exact .inl (by rw [h]; simp)
    ·exact .inr h
 ·have e:crn n rs qs = A ++ [xl] ++ ((n - xr) :: B):=by
   unfold crn
   rw [hl.la,eG,if_neg (fun z=>c (Option.some.inj z)),eR,hA]
  refine ⟨?_,?_,?_,fun z=>?_⟩
  ·rw [e]
   rw [hA] at c1
   have s:=c1.snoc (p:=n - xr) (by lia) (fun x h1 h2=>by
    unfold OnG
    rw [← eq,Int.sub_self,Int.zero_mul]
    exact Int.mul_nonneg (by have:=m1 x (by lia) (by lia); lia) (by lia)) (fun A' t e'=>by
     obtain ⟨d1,d2⟩:=dn A' t e'
     unfold Bnd
     rw [← eq]
     have k:(Rs m a b t - Rs m a b xl) * (n - xr - xl) > 0:=Int.mul_pos (by lia) (by lia)
     grind)
   exact Ch.join B A xl (n - xr) (by simpa using s) c2 (fun w B' ee=>by
     obtain ⟨u1,u2⟩:=up w B' ee
     unfold Bnd
     rw [← eq,Int.sub_self,Int.zero_mul]
     exact Int.mul_pos (by lia) (by lia))
  ·rw [e,← hA,List.getElem?_append_left (by rw [plcs_len]; lia)]; exact hl.hd
  ·rw [e,List.getLast?_append,lst]; rfl
  ·rw [mem,e,hA,List.mem_append,List.mem_cons]
theorem sorted_unique:∀ (K L:List Int),K.Pairwise (· < ·)→L.Pairwise (· < ·)→(∀ x,x ∈ K ↔ x ∈ L)→K = L
 | [],[],_,_,_=>rfl
 | [],l :: L,_,_,h=>absurd ((h l).mpr (List.mem_cons_self ..)) (by simp)
 | k :: K,[],_,_,h=>absurd ((h k).mp (List.mem_cons_self ..)) (by simp)
 | k :: K,l :: L,hk,hl,h=>by
  obtain ⟨k1,k2⟩:=List.pairwise_cons.mp hk
  obtain ⟨l1,l2⟩:=List.pairwise_cons.mp hl
  have e:k = l:=by
   have a:=(h k).mp (List.mem_cons_self ..)
   have b:=(h l).mpr (List.mem_cons_self ..)
   rcases List.mem_cons.mp a with a | a
   ·exact a
   ·rcases List.mem_cons.mp b with b | b
    ·exact b.symm
    ·have:=k1 l b
     have:=l1 k a
     lia
  subst e
  rw [sorted_unique K L k2 l2 fun x=>⟨fun hx=>?_,fun hx=>?_⟩]
  ·rcases List.mem_cons.mp ((h x).mp (List.mem_cons_of_mem _ hx)) with z | z
   ·have:=k1 x hx; lia
   ·exact z
  ·rcases List.mem_cons.mp ((h x).mpr (List.mem_cons_of_mem _ hx)) with z | z
   ·have:=l1 x hx; lia
   ·exact z
theorem Ch.rising {g:Int→Int}:∀ (K:List Int),Ch g K→K.Pairwise (· < ·)
 | [],_=>List.Pairwise.nil
 | [u],_=>by simp
 | u :: v :: K,h=>by
  have r:=Ch.rising (v :: K) h.tail
  refine List.pairwise_cons.mpr ⟨fun x hx=>?_,r⟩
  have uv:=(h.inc 0 u v rfl rfl).1
  rcases List.mem_cons.mp hx with z | z
  ·lia
  ·have:=(List.pairwise_cons.mp r).1 x z; lia
def PLg {α:Type} (R:Hp→Addr→α→Prop) (H:Hp) (ps:List Addr) (xs:List α):Prop:=ps.length = xs.length∧∀ (i:Nat) p x,ps[i]? = some p→xs[i]? = some x→R H p x
def TRg {α:Type} (f:α→List V) (H:Hp) (p:Addr) (x:α):Prop:=H p = some (.tup (f x))
theorem PLg.mono {α:Type} {R:Hp→Addr→α→Prop} {H H':Hp} {ps:List Addr} {xs:List α} (h:PLg R H ps xs) (f:∀ p x,R H p x→R H' p x):PLg R H' ps xs:=⟨h.1,fun i p x a b=>f _ _ (h.2 i p x a b)⟩
theorem PLg.nil {α:Type} {R:Hp→Addr→α→Prop} {H:Hp}:PLg R H [] []:=⟨rfl,fun i p x a b=>by simp at a⟩
theorem PLg.snoc {α:Type} {R:Hp→Addr→α→Prop} {H:Hp} {ps:List Addr} {xs:List α} {p:Addr} {x:α} (h:PLg R H ps xs) (g:R H p x):PLg R H (ps ++ [p]) (xs ++ [x]):=by
 refine ⟨by rw [List.length_append,List.length_append,h.1]; rfl,fun i q y a b=>?_⟩
 by_cases hi:i < ps.length
 ·rw [List.getElem?_append_left hi] at a
  rw [List.getElem?_append_left (by rw [← h.1]; exact hi)] at b
  exact h.2 i q y a b
 ·have l:=(List.getElem?_eq_some_iff.mp a).1
  rw [List.length_append,List.length_singleton] at l
  have e:i = ps.length:=by lia
  subst e
  rw [List.getElem?_append_right (Nat.le_refl _),Nat.sub_self] at a
  rw [List.getElem?_append_right (by rw [h.1]; exact Nat.le_refl _),h.1,Nat.sub_self] at b
  cases a
  cases b
  exact g
theorem PLg.get {α:Type} {R:Hp→Addr→α→Prop} {H:Hp} {ps:List Addr} {xs:List α} (h:PLg R H ps xs) {i:Nat} {x:α} (e:xs[i]? = some x):∃ p,ps[i]? = some p∧R H p x:=by
 have l:=(List.getElem?_eq_some_iff.mp e).1
 have q:ps[i]? = some (ps[i]'(by rw [h.1]; exact l)):=List.getElem?_eq_getElem _
 exact ⟨_,q,h.2 i _ x q e⟩
theorem PLg.get' {α:Type} {R:Hp→Addr→α→Prop} {H:Hp} {ps:List Addr} {xs:List α} (h:PLg R H ps xs) {i:Nat} {p:Addr} (e:ps[i]? = some p):∃ x,xs[i]? = some x∧R H p x:=by
 have l:=(List.getElem?_eq_some_iff.mp e).1
 have q:xs[i]? = some (xs[i]'(by rw [← h.1]; exact l)):=List.getElem?_eq_getElem _
 exact ⟨_,q,h.2 i p _ e q⟩
theorem PLg.same {α:Type} {f:α→List V} {H H':Hp} {ps:List Addr} {xs:List α} (h:PLg (TRg f) H ps xs) (s:Same H H'):PLg (TRg f) H' ps xs:=h.mono fun _ _ q=>s _ _ q
theorem PLg.updT {α:Type} {f:α→List V} {H:Hp} {l:Addr} {zs ys:List V} {ps:List Addr} {xs:List α} (h:PLg (TRg f) H ps xs) (e:H l = some (.lst zs)):PLg (TRg f) (upd H l (.lst ys)) ps xs :=
 h.mono fun p x q=>by
  show upd H l _ p = _
  rw [upd_ne (fun z=>by unfold TRg at q; rw [z,e] at q; cases q)]
  exact q
def ALg {α:Type} (f:α→List V) (H:Hp) (a:Addr) (xs:List α):Prop:=∃ ps:List Addr,H a = some (.lst (ps.map V.ref))∧PLg (TRg f) H ps xs
theorem ALg.same {α:Type} {f:α→List V} {H H':Hp} {a:Addr} {xs:List α} (h:ALg f H a xs) (s:Same H H'):ALg f H' a xs:=let ⟨ps,e,q⟩:=h; ⟨ps,s _ _ e,q.same s⟩
theorem Same.updL {H H':Hp} {l:Addr} {o:HO} (s:Same H H') (hl:H l = none):Same H (upd H' l o):=fun b u e=>by rw [upd_ne (ne_of_none e hl)]; exact s b u e
theorem Same.none {H H':Hp} (s:Same H H') {l:Addr} (h:H' l = none):H l = none:=by
 cases e:H l with
 | none=>rfl
 | some o=>rw [s _ _ e] at h; cases h
theorem ALg.app {α:Type} {f:α→List V} {H2:Hp} {l r:Addr} {ps:List Addr} {xs:List α} (h:PLg (TRg f) H2 ps xs) (hp:H2 l = some (.lst (ps.map V.ref))) (hr:H2 r = none) (x:α):ALg f (upd (upd H2 r (.tup (f x))) l (.lst (ps.map V.ref ++ [.ref r]))) l (xs ++ [x]):=by
 have sM:=same_new hr (.tup (f x))
 refine ⟨ps ++ [r],by rw [upd_same,List.map_append]; rfl,?_⟩
 have fx:TRg f (upd H2 r (.tup (f x))) r x:=upd_same
 exact ((h.same sM).snoc fx).updT (sM _ _ hp)
def i3 (r:Row3):List V:=[.int r.1,.int r.2.1,.int r.2.2]
def i2 (r:Int × Int):List V:=[.int r.1,.int r.2]
structure LnOk (n m a b:Int):Prop where
 n0:0≤n
 n1:n≤1099511627776
 m0:-99999999999999999999≤m
 m1:m≤99999999999999999999
 a0:-99999999999999999999≤a
 a1:a≤99999999999999999999
 b0:1≤b
 b1:b≤99999999999999999999
def hgt (m a b x:Int):Int:=(m * x + a) / b
structure LnB (n m a b:Int):Prop where
 n0:0≤n
 n1:n≤1099511627776
 m0:-2 ^ 150≤m
 m1:m≤2 ^ 150
 a0:-2 ^ 150≤a
 a1:a≤2 ^ 150
 b0:1≤b
 b1:b≤99999999999999999999
def spFall:Sp:=fun vs H Q _=>∃ n m a b:Int,vs = [.int n,.int m,.int a,.int b]∧LnB n m a b∧∀ l rs xl H',H l = none→ALg i3 H' l rs→FF m a b n rs xl→Same H H'→Q (.ref l) H'
def spPlc:Sp:=fun vs H Q _=>∃ n m a b:Int,vs = [.int n,.int m,.int a,.int b]∧LnB n m a b∧∀ l rs xl H',H l = none→H' l = some (.lst ((plcs rs).map V.int))→FF m a b n rs xl→Same H H'→Q (.ref l) H'
def Crn (m a b n:Int) (zs:List Int):Prop:=Ch (Rs m a b) zs∧zs[0]? = some 0∧zs.getLast? = some n∧zs.length≤140
structure LnC (n m a b:Int):Prop where
 n0:0≤n
 n1:n≤1099511627776
 m0:-2 ^ 100≤m
 m1:m≤2 ^ 100
 a0:-2 ^ 140≤a
 a1:a≤2 ^ 140
 b0:1≤b
 b1:b≤99999999999999999999
def spCrn:Sp:=fun vs H Q _=>∃ n m a b:Int,vs = [.int n,.int m,.int a,.int b]∧LnC n m a b∧∀ l zs H',H l = none→ALg i2 H' l (zs.map fun x=>(x,hgt m a b x))→Crn m a b n zs→Same H H'→Q (.ref l) H'
theorem mbd {m n B C:Int} (h1:-B≤m) (h2:m≤B) (n0:0≤n) (n1:n≤C):-(B * C)≤m * n∧m * n≤B * C:=by
 have b0:0≤B:=by lia
 have k1:B * n≤B * C:=Int.mul_le_mul_of_nonneg_left n1 b0
 have k2:m * n≤B * n:=Int.mul_le_mul_of_nonneg_right h2 n0
 have k3:(-B) * n≤m * n:=Int.mul_le_mul_of_nonneg_right h1 n0
 rw [Int.neg_mul] at k3
 lia
theorem FF.pos {m a b n:Int} {rs:List Row3} {x:Int} (h:FF m a b n rs x):∀ u ∈ plcs rs,0≤u∧u≤n:=fun u hu=>by
 have r:=Ch.rising _ h.ch
 obtain ⟨A,hA⟩:=last_split h.la
 have hd:=h.hd
 have xn:=h.xn
 constructor
 ·cases e:plcs rs with
  | nil=>rw [e] at hd; cases hd
  | cons z t =>
   rw [e] at hd hu r
   cases hd
   rcases List.mem_cons.mp hu with w | w
   ·lia
   ·exact Int.le_of_lt ((List.pairwise_cons.mp r).1 u w)
 ·rw [hA] at hu r
  rcases List.mem_append.mp hu with w | w
  ·have:=(List.pairwise_append.mp r).2.2 u w x (List.mem_singleton.mpr rfl)
   lia
  ·rw [List.mem_singleton.mp w]; exact xn
theorem FF.row {m a b n:Int} {rs:List Row3} {x:Int} (h:FF m a b n rs x) {i:Nat} {r:Row3} (e:rs[i]? = some r):1≤r.1∧r.1≤n∧1≤r.2.2∧r.2.2≤n:=by
 have l:=(List.getElem?_eq_some_iff.mp e).1
 have L:=plcs_len rs
 obtain ⟨u,hu⟩:∃ u,(plcs rs)[i]? = some u:=⟨_,List.getElem?_eq_getElem (by lia)⟩
 have o:=h.rw i r u e hu
 have u0:=(h.pos u (List.mem_of_getElem? hu)).1
 have s1:=o.s1
 have t1:=o.t1
 have un:=(h.pos _ (List.mem_of_getElem? o.nx)).2
 have k1:r.1 * 1≤r.1 * r.2.2:=Int.mul_le_mul_of_nonneg_left t1 (by lia)
 have k2:1 * r.2.2≤r.1 * r.2.2:=Int.mul_le_mul_of_nonneg_right s1 (by lia)
 lia
theorem FF.lenB {m a b n:Int} {rs:List Row3} {x:Int} (h:FF m a b n rs x) (hb:b≤2 ^ 67):rs.length≤67:=Classical.byContradiction fun z=>by
 have k:=h.ln (rs.length - 1) (by lia)
 have k2:(2:Int) ^ 67≤2 ^ (rs.length - 1):=p_mono (by lia)
 lia
theorem ediv_btw {x y P:Int} (P0:0 < P) (h1:y * P≤x) (h2:x < (y + 1) * P):x / P = y:=by
 have a:=Int.le_ediv_of_mul_le P0 h1
 have b:=Int.ediv_lt_of_lt_mul P0 h2
 lia
theorem low_hgt {m b x:Int} (b0:0 < b):-hgt (-m) (b - 1) b x = m * x / b:=by
 unfold hgt
 have e1:=Int.mul_ediv_add_emod (-m * x + (b - 1)) b
 have a1:=Int.emod_nonneg (-m * x + (b - 1)) (show b ≠ 0 by lia)
 have a2:=Int.emod_lt_of_pos (-m * x + (b - 1)) b0
 have e:-m * x = -(m * x):=Int.neg_mul ..
 rw [e] at e1 a1 a2 ⊢
 generalize (-(m * x) + (b - 1)) / b = q at *
 generalize (-(m * x) + (b - 1)) % b = r at *
 symm
 refine ediv_btw b0 ?_ ?_
 ·rw [Int.neg_mul,Int.mul_comm q b]; lia
 ·rw [Int.add_mul,Int.neg_mul,Int.mul_comm q b]; lia
structure Sd where
 (x y g e k s t:Int)
structure SdOk (x0 y0 x1 y1:Int) (d:Sd):Prop where
 x:d.x = x0
 y:d.y = y0
 g1:1≤d.g
 e1:1≤d.e
 nx:d.x + d.g * d.e = x1
 ny:d.y + d.g * d.k = y1
 det:d.e * d.t - d.k * d.s = 1
 s0:0≤d.s
 s1:d.s < d.e
structure Ivs (N B rest later wo lw:Int):Prop where
 r0:0≤rest
 l0:0≤later
 rB:rest≤B
 lB:later≤B
 c1:B ∣ N * wo - rest
 c2:B ∣ N * lw - later
 g:Int.gcd rest later = Int.gcd N B
 w0:-B≤wo
 w1:wo≤B
 v0:-B≤lw
 v1:lw≤B
 bd:later * (wo.natAbs:Int) + rest * (lw.natAbs:Int)≤B
theorem gcd_mod (N B:Int):Int.gcd (N % B) B = Int.gcd N B:=by
 have e:=Int.mul_ediv_add_emod N B
 have:=Int.gcd_add_mul_left_left B (N % B) (N / B)
 rw [← this]
 congr 1
 lia
theorem Ivs.start {N B:Int} (B1:1≤B):Ivs N B (N % B) B 1 0:=by
 have a1:=Int.emod_nonneg N (show B ≠ 0 by lia)
 have a2:=Int.emod_lt_of_pos N (show 0 < B by lia)
 refine ⟨a1,by lia,by lia,by lia,?_,⟨-1,by lia⟩,gcd_mod N B,by lia,by lia,by lia,by lia,by simp⟩
 have:=Int.mul_ediv_add_emod N B
 exact ⟨N / B,by lia⟩
theorem Ivs.next {N B rest later wo lw:Int} (h:Ivs N B rest later wo lw) (l1:later ≠ 0):Ivs N B later (rest - rest / later * later) lw (wo - rest / later * lw)∧rest - rest / later * later < later:=by
 obtain ⟨r0,l0,rB,lB,c1,c2,g,w0,w1,v0,v1,bd⟩:=h
 have e:=Int.mul_ediv_add_emod rest later
 have t0:=Int.emod_nonneg rest l1
 have t1:=Int.emod_lt_of_pos rest (show 0 < later by lia)
 have q0:0≤rest / later:=Int.ediv_nonneg r0 l0
 have e2:rest - rest / later * later = rest % later:=by rw [Int.mul_comm (rest / later)]; lia
 rw [e2]
 have G:Int.gcd later (rest % later) = Int.gcd N B:=by rw [← g,Int.gcd_comm,gcd_mod]
 generalize rest / later = q at *
 generalize rest % later = t at *
 have nn:((wo - q * lw).natAbs:Int)≤(wo.natAbs:Int) + q * (lw.natAbs:Int):=by
  have h1:(q * lw).natAbs = q.natAbs * lw.natAbs:=Int.natAbs_mul ..
  have h2:((q * lw).natAbs:Int) = q * (lw.natAbs:Int):=by rw [h1,Int.natCast_mul]; congr 1; lia
  lia
 have bd':t * (lw.natAbs:Int) + later * ((wo - q * lw).natAbs:Int)≤B:=by
  have k1:later * ((wo - q * lw).natAbs:Int)≤later * ((wo.natAbs:Int) + q * (lw.natAbs:Int)):=Int.mul_le_mul_of_nonneg_left nn l0
  have k2:rest * (lw.natAbs:Int) = (later * q + t) * (lw.natAbs:Int):=by rw [e]
  grind
 have nb:((wo - q * lw).natAbs:Int)≤B:=by
  have k1:1 * ((wo - q * lw).natAbs:Int)≤later * ((wo - q * lw).natAbs:Int):=Int.mul_le_mul_of_nonneg_right (by lia) (by lia)
  have k2:0≤t * (lw.natAbs:Int):=Int.mul_nonneg t0 (by lia)
  lia
 refine ⟨⟨l0,t0,lB,by lia,c2,?_,G,v0,v1,by lia,by lia,bd'⟩,t1⟩
 have:N * (wo - q * lw) - t = (N * wo - rest) - (N * lw - later) * q:=by rw [← e]; grind
 rw [this]
 exact Int.dvd_sub c1 (Int.dvd_mul_of_dvd_left c2)
theorem Ivs.done {N B rest wo lw:Int} (h:Ivs N B rest 0 wo lw) (hg:Int.gcd N B = 1):B ∣ N * (wo % B) - 1:=by
 have g:=h.g
 rw [hg,Int.gcd_zero_right] at g
 have r0:=h.r0
 have r1:rest = 1:=by lia
 have c1:=h.c1
 rw [r1] at c1
 have e:=Int.mul_ediv_add_emod wo B
 have:N * (wo % B) - 1 = (N * wo - 1) - B * (N * (wo / B)):=by
  have:wo % B = wo - B * (wo / B):=by lia
  rw [this]; grind
 rw [this]
 exact Int.dvd_sub c1 ⟨_,rfl⟩
theorem side_pre {x0 y0 x1 y1:Int} (hx:x0 < x1) {g:Int} (eg:g = ((Int.gcd (x1 - x0) ((y1 - y0).natAbs:Int):Nat):Int)) :
  1≤g∧g≤x1 - x0∧1≤(x1 - x0) / g∧(x1 - x0) / g≤x1 - x0∧-((y1 - y0).natAbs:Int)≤(y1 - y0) / g∧(y1 - y0) / g≤((y1 - y0).natAbs:Int)∧Int.gcd ((y1 - y0) / g) ((x1 - x0) / g) = 1∧g * ((x1 - x0) / g) = x1 - x0∧g * ((y1 - y0) / g) = y1 - y0:=by
 have ab:Int.gcd (x1 - x0) ((y1 - y0).natAbs:Int) = Int.gcd (x1 - x0) (y1 - y0):=by unfold Int.gcd; rw [Int.natAbs_natCast]
 have gp:0 < Int.gcd (x1 - x0) (y1 - y0):=Int.gcd_pos_of_ne_zero_left _ (by lia)
 have g1:1≤g:=by rw [eg,ab]; lia
 have d1:g ∣ x1 - x0:=by rw [eg,ab]; exact Int.gcd_dvd_left ..
 have d2:g ∣ y1 - y0:=by rw [eg,ab]; exact Int.gcd_dvd_right ..
 have co:Int.gcd ((y1 - y0) / g) ((x1 - x0) / g) = 1:=by
  rw [Int.gcd_comm,eg,ab]
  exact Int.gcd_ediv_gcd_ediv_gcd gp
 have gl:=Int.le_of_dvd (by lia) d1
 obtain ⟨e,he⟩:=d1
 obtain ⟨k,hk⟩:=d2
 have q1:(x1 - x0) / g = e:=by rw [he]; exact Int.mul_ediv_cancel_left _ (by lia)
 have q2:(y1 - y0) / g = k:=by rw [hk]; exact Int.mul_ediv_cancel_left _ (by lia)
 rw [q1,q2] at co ⊢
 have e1:1≤e:=Classical.byContradiction fun z=>by
  have:g * e≤g * 0:=Int.mul_le_mul_of_nonneg_left (by lia) (by lia)
  lia
 have e2:1 * e≤g * e:=Int.mul_le_mul_of_nonneg_right g1 (by lia)
 have na:((y1 - y0).natAbs:Int) = g * (k.natAbs:Int):=by
  rw [hk,Int.natAbs_mul,Int.natCast_mul]; congr 1; lia
 have e3:1 * (k.natAbs:Int)≤g * (k.natAbs:Int):=Int.mul_le_mul_of_nonneg_right g1 (by lia)
 exact ⟨g1,gl,e1,by lia,by lia,by lia,co,he.symm,hk.symm⟩
theorem side_ok {x0 y0 x1 y1 r g:Int} (hx:x0 < x1) (eg:g = ((Int.gcd (x1 - x0) ((y1 - y0).natAbs:Int):Nat):Int)) (hi:Int.gcd ((y1 - y0) / g) ((x1 - x0) / g) = 1→(x1 - x0) / g ∣ (y1 - y0) / g * r - 1) :
  SdOk x0 y0 x1 y1 ⟨x0,y0,g,(x1 - x0) / g,(y1 - y0) / g,-r % ((x1 - x0) / g),((y1 - y0) / g * (-r % ((x1 - x0) / g)) + 1) / ((x1 - x0) / g)⟩:=by
 obtain ⟨g1,_,e1,_,_,_,co,he,hk⟩:=side_pre hx eg
 have h:=hi co
 clear hi eg co
 generalize (x1 - x0) / g = e at *
 generalize (y1 - y0) / g = k at *
 have t0:=Int.emod_nonneg (-r) (show e ≠ 0 by lia)
 have t1:=Int.emod_lt_of_pos (-r) (show 0 < e by lia)
 have dv:e ∣ k * (-r % e) + 1:=by
  have em:=Int.mul_ediv_add_emod (-r) e
  have:k * (-r % e) + 1 = -(k * r - 1) - e * (k * (-r / e)):=by
   have:-r % e = -r - e * (-r / e):=by lia
   rw [this]; grind
  rw [this]
  exact Int.dvd_sub (Int.dvd_neg.mpr h) ⟨_,rfl⟩
 have em:=Int.mul_ediv_cancel' dv
 exact ⟨rfl,rfl,g1,e1,by show x0 + g * e = x1; lia,by show y0 + g * k = y1; lia,by show e * ((k * (-r % e) + 1) / e) - k * (-r % e) = 1; lia,t0,t1⟩
def sdv (d:Sd):List V:=[.int d.x,.int d.y,.int d.g,.int d.e,.int d.k,.int d.s,.int d.t]
def spGcd:Sp:=fun vs H Q _=>∃ x y:Int,vs = [.int x,.int y]∧0≤x∧0≤y∧Q (.int ((Int.gcd x y:Nat):Int)) H
def spInvB:Sp:=fun vs H Q _=>∃ N B:Int,vs = [.int N,.int B]∧1≤B∧B≤2 ^ 60∧∀ r:Int,0≤r→r < B→(Int.gcd N B = 1→B ∣ N * r - 1)→Q (.int r) H
def spSide:Sp:=fun vs H Q _=>∃ (p q:Addr) (x0 y0 x1 y1:Int),vs = [.ref p,.ref q]∧H p = some (.tup (i2 (x0,y0)))∧H q = some (.tup (i2 (x1,y1)))∧x0 < x1∧x1 - x0≤2 ^ 60∧-(2 ^ 150)≤y1 - y0∧y1 - y0≤2 ^ 150∧∀ (r:Addr) (d:Sd),H r = none→SdOk x0 y0 x1 y1 d→Q (.ref r) (upd H r (.tup (sdv d)))
def pts (m a b:Int) (zs:List Int):List (Int × Int):=zs.map fun x=>(x,hgt m a b x)
theorem hgt_bd {n m a b x:Int} (L:LnOk n m a b) (x0:0≤x) (xn:x≤n):-(2 ^ 110)≤hgt m a b x∧hgt m a b x≤2 ^ 110:=by
 obtain ⟨n0,n1,m0,m1,a0,a1,b0,b1⟩:=L
 have mb:=mbd (B:=99999999999999999999) m0 m1 x0 (Int.le_trans xn n1)
 unfold hgt
 have e1:-(2 ^ 110) * b≤-(2 ^ 110) * 1:=Int.mul_le_mul_of_nonpos_left (by decide) (by lia)
 have e2:(2 ^ 110:Int) * 1≤(2 ^ 110) * b:=Int.mul_le_mul_of_nonneg_left (by lia) (by decide)
 constructor
 ·exact Int.le_ediv_of_mul_le (by lia) (by lia)
 ·exact Int.ediv_le_of_le_mul (by lia) (by lia)
theorem Crn.rg {m a b n:Int} {zs:List Int} (h:Crn m a b n zs):∀ z ∈ zs,0≤z∧z≤n:=fun z hz=>by
 obtain ⟨ch,h0,hl,_⟩:=h
 cases zs with
 | nil=>cases h0
 | cons u t =>
  cases h0
  have r:=Ch.rising _ ch
  constructor
  ·rcases List.mem_cons.mp hz with e | e
   ·lia
   ·exact Int.le_of_lt ((List.pairwise_cons.mp r).1 z e)
  ·obtain ⟨A,hA⟩:=last_split hl
   rw [hA] at hz r
   rcases List.mem_append.mp hz with e | e
   ·have:=(List.pairwise_append.mp r).2.2 z e n (List.mem_singleton.mpr rfl)
    lia
   ·rw [List.mem_singleton.mp e]; exact Int.le_refl _
structure PrOk (w t b f ad tt:Int):Prop where
 w0:4≤w
 w1:w≤32
 t0:0≤t
 t1:t≤99999999999999999999
 b0:1≤b
 b1:b≤99999999999999999999
 f0:0≤f
 f1:f≤99999999999999999999
 a0:0≤ad
 a1:ad≤99999999999999999999
 s0:0≤tt
 s1:tt≤64
def qpt (t b:Int) (zs:List Int):List (Int × Int):=zs.map fun x=>(x,t * x / b)
structure Ends (w t b:Int) (zs ws:List Int):Prop where
 up:Crn t 0 b (1 * 2 ^ w.toNat - 1) zs
 lo:Crn (-t) (b - 1) b (1 * 2 ^ w.toNat - 1) ws
def spEnds:Sp:=fun vs H Q _=>∃ w t b:Int,vs = [.int w,.int t,.int b]∧4≤w∧w≤32∧0≤t∧t≤99999999999999999999∧1≤b∧b≤99999999999999999999 ∧
 ∀ (r l1 l2:Addr) (zs ws:List Int) H',H r = none→H' r = some (.tup [.ref l1,.ref l2])→ALg i2 H' l1 (qpt t b zs)→ALg i2 H' l2 (qpt t b ws)→Ends w t b zs ws→Same H H'→Q (.ref r) H'
def hi2 (f ad tt:Int) (p:Int × Int):Prop:=ad < p.2 * 2 ^ tt.toNat - f * p.1
def lo2 (f ad tt:Int) (p:Int × Int):Prop:=p.2 * 2 ^ tt.toNat - f * p.1≤ad - 1 * 2 ^ tt.toNat
structure PsB (ps:List (Int × Int)):Prop where
 bd:∀ p ∈ ps,0≤p.1∧p.1≤2 ^ 40∧0≤p.2∧p.2≤2 ^ 110
def MisV (ps qs:List (Int × Int)) (f ad tt:Int) (v:V):Prop:=(∃ p ∈ ps,hi2 f ad tt p∧v = .int p.1)∨(∃ p ∈ qs,lo2 f ad tt p∧v = .int p.1)∨((∀ p ∈ ps,¬ hi2 f ad tt p)∧(∀ p ∈ qs,¬ lo2 f ad tt p)∧v = .non)
def spMis:Sp:=fun vs H Q _=>∃ (e r l1 l2:Addr) (ps qs:List (Int × Int)) (f ad tt:Int),vs = [.ref e,.ref r]∧H e = some (.tup [.ref l1,.ref l2])∧ALg i2 H l1 ps∧ALg i2 H l2 qs∧PsB ps∧PsB qs∧H r = some (.tup [.int f,.int ad,.int tt])∧0≤f∧f≤2 ^ 140∧0≤tt∧tt≤64∧∀ v,MisV ps qs f ad tt v→Q v H
theorem hgt_up (t b x:Int):hgt t 0 b x = t * x / b:=by unfold hgt; rw [Int.add_zero]
theorem qpt_up (t b:Int) (zs:List Int):pts t 0 b zs = qpt t b zs:=by
 unfold pts qpt
 exact List.map_congr_left fun x _=>by rw [hgt_up]
theorem p32 {w:Int} (h:w≤32):(1:Int) * 2 ^ w.toNat≤4294967296:=by
 have:(2:Int) ^ w.toNat≤2 ^ 32:=p_mono (by lia)
 lia
theorem p64 {w:Int} (h:w≤64):(2:Int) ^ w.toNat≤18446744073709551616:=by
 have:(2:Int) ^ w.toNat≤2 ^ 64:=p_mono (by lia)
 lia
theorem p16 {w:Int} (h:4≤w):(16:Int)≤1 * 2 ^ w.toNat:=by
 have:(2:Int) ^ 4≤2 ^ w.toNat:=p_mono (by lia)
 lia
theorem qpt_bd {n m a b t c:Int} {zs:List Int} (h:Crn m a b n zs) (n1:n≤2 ^ 40) (t0:0≤t) (t1:t≤99999999999999999999) (c0:1≤c):PsB (qpt t c zs):=⟨fun p hp=>by
 obtain ⟨z,hz,rfl⟩:=List.mem_map.mp hp
 have r:=h.rg z hz
 have m0:0≤t * z:=Int.mul_nonneg t0 r.1
 have m1:t * z≤99999999999999999999 * 2 ^ 40:=Int.mul_le_mul t1 (by lia) r.1 (by lia)
 have q0:0≤t * z / c:=Int.ediv_nonneg m0 (by lia)
 have q1:t * z / c≤t * z:=Int.ediv_le_self _ m0
 exact ⟨r.1,by show z≤_; lia,q0,by show t * z / c≤_; lia⟩⟩
inductive Rz where
 | ln (vs:List V)
 | fr (vs:List V)
 | fm (vs:List V)
 | wd (v:V)
def Rz.cls (c:Ad):Rz→Addr
 | .ln _=>c.NoLine
 | .fr _=>c.NoFraction
 | .fm _=>c.NoForm
 | .wd _=>c.NoWidth
def Rz.word:Rz→Str
 | .ln _=>"line"
 | .fr _=>"fraction"
 | .fm _=>"form"
 | .wd _=>"width"
def wordO:Option Rz→Str
 | none=>""
 | some z=>z.word
def Fnd (x:V) (H:Hp):Rz→Prop
 | .wd v=>x = v
 | .ln vs=>∃ t,x = .ref t∧H t = some (.tup vs)
 | .fr vs=>∃ t,x = .ref t∧H t = some (.tup vs)
 | .fm vs=>∃ t,x = .ref t∧H t = some (.tup vs)
def EXP (c:Ad) (z:Rz) (H:Hp) (E:XK):Prop:=∀ d x H',Same H H'→H' d = some (.xd [("found",x)])→Fnd x H' z→E (.ref (z.cls c)) (some d) H'
theorem EXP.same {c:Ad} {z:Rz} {H H1:Hp} {E:XK} (h:EXP c z H E) (s:Same H H1):EXP c z H1 E:=fun d x H' s' f g=>h d x H' (s.trans s') f g
theorem EXP.wd {c:Ad} {v:V} {H:Hp} {E:XK} (h:EXP c (.wd v) H E) {d:Addr} (hd:H d = none):E (.ref c.NoWidth) (some d) (upd H d (.xd [("found",v)])):=h d v _ (same_new hd _) upd_same rfl
theorem EXP.ln {c:Ad} {vs:List V} {H:Hp} {E:XK} (h:EXP c (.ln vs) H E) {t d:Addr} (ht:H t = none) (hd:upd H t (.tup vs) d = none):E (.ref c.NoLine) (some d) (upd (upd H t (.tup vs)) d (.xd [("found",.ref t)])) :=
 h d (.ref t) _ ((same_new ht _).trans (same_new hd _)) upd_same ⟨t,rfl,same_new hd _ _ _ upd_same⟩
theorem EXP.fr {c:Ad} {vs:List V} {H:Hp} {E:XK} (h:EXP c (.fr vs) H E) {t d:Addr} (ht:H t = none) (hd:upd H t (.tup vs) d = none):E (.ref c.NoFraction) (some d) (upd (upd H t (.tup vs)) d (.xd [("found",.ref t)])) :=
 h d (.ref t) _ ((same_new ht _).trans (same_new hd _)) upd_same ⟨t,rfl,same_new hd _ _ _ upd_same⟩
theorem EXP.fm {c:Ad} {vs:List V} {H:Hp} {E:XK} (h:EXP c (.fm vs) H E) {t d:Addr} (ht:H t = none) (hd:upd H t (.tup vs) d = none):E (.ref c.NoForm) (some d) (upd (upd H t (.tup vs)) d (.xd [("found",.ref t)])) :=
 h d (.ref t) _ ((same_new ht _).trans (same_new hd _)) upd_same ⟨t,rfl,same_new hd _ _ _ upd_same⟩
def iv:V→Int
 | .int i=>i
 | _=>0
theorem btw_int {v:V} {lo hi:Int} (h:btw v lo hi = true):∃ i,v = .int i∧lo≤i∧i≤hi:=by
 cases v with
 | int i =>
  have h':(decide (lo≤i) && decide (i≤hi)) = true:=h
  rw [Bool.and_eq_true,decide_eq_true_eq,decide_eq_true_eq] at h'
  exact ⟨i,rfl,h'.1,h'.2⟩
 | _=>cases h
theorem btw_of {i lo hi:Int} (a:lo≤i) (b:i≤hi):btw (.int i) lo hi = true:=by
 show (decide (lo≤i) && decide (i≤hi)) = true
 rw [decide_eq_true a,decide_eq_true b]
 rfl
theorem btw_sub {v:V} {lo hi lo' hi':Int} (h:btw v lo hi = false) (h1:lo≤lo') (h2:hi'≤hi):btw v lo' hi' = false:=by
 cases e:btw v lo' hi' with
 | false=>rfl
 | true =>
  obtain ⟨i,rfl,a,b⟩:=btw_int e
  rw [btw_of (by lia) (by lia)] at h
  cases h
theorem btw_out {i lo hi:Int} (h:i < lo∨hi < i):btw (.int i) lo hi = false:=by
 cases e:btw (.int i) lo hi with
 | false=>rfl
 | true =>
  obtain ⟨j,ej,a,b⟩:=btw_int e
  cases ej
  lia
def sh (v:V):Bool:=btw v (-99999999999999999999) 99999999999999999999
def pw (v:V):Bool:=btw v 1 99999999999999999999
def nw (v:V):Bool:=btw v 0 99999999999999999999
theorem sh_pw {v:V} (h:sh v = false):pw v = false:=btw_sub h (by decide) (by decide)
theorem sh_nw {v:V} (h:sh v = false):nw v = false:=btw_sub h (by decide) (by decide)
def vW (v:V):Option Rz:=if btw v 4 32 = true then none else some (.wd v)
def vLine (n m a b:V):Option Rz:=if (btw n 0 1099511627776 && sh m && sh a && pw b) = true then none else some (.ln [n,m,a,b])
def vFrac (t b:V):Option Rz:=if (sh t && pw b) = true then none else some (.fr [t,b])
def vGr (n m a b t d:V):Option Rz:=match vLine n m a b with
 | some z=>some z
 | none=>vFrac t d
def vForm (f ad tt:V):Option Rz:=if (nw f && nw ad && btw tt 0 64) = true then none else some (.fm [f,ad,tt])
def vProd (w t b f ad tt:V):Option Rz:=match vW w with
 | some z=>some z
 | none=>if (nw t && pw b) = true then vForm f ad tt else some (.fr [t,b])
def vEx (w t b:V):Option Rz:=match vW w with
 | some z=>some z
 | none=>if (btw b 1 (1 * 2 ^ (iv w).toNat - 1) && btw t 0 (iv b)) = true then none else some (.fr [t,b])
def vAsk (door:Int) (x0 x1 x2 x3 x4 x5:V):Option Rz:=if door < 5 then vLine x0 x1 x2 x3 else if door < 7 then vGr x0 x1 x2 x3 x4 x5 else if door < 9 then vProd x0 x1 x2 x3 x4 x5 else vEx x0 x1 x2
theorem vW_ok {v:V} (h:btw v 4 32 = true):vW v = none:=by unfold vW; rw [h]; rfl
theorem vW_bad {v:V} (h:btw v 4 32 = false):vW v = some (.wd v):=by unfold vW; rw [h]; rfl
theorem vW_none {v:V} (h:vW v = none):∃ w,v = .int w∧4≤w∧w≤32:=by
 unfold vW at h
 cases b:btw v 4 32 with
 | false=>rw [b] at h; cases h
 | true=>exact btw_int b
theorem vLine_no {n m a b:V} (h:(btw n 0 1099511627776 && sh m && sh a && pw b) = false):vLine n m a b = some (.ln [n,m,a,b]):=by unfold vLine; rw [h]; rfl
theorem vLine_ok {n m a b:V} (h:(btw n 0 1099511627776 && sh m && sh a && pw b) = true):vLine n m a b = none:=by unfold vLine; rw [h]; rfl
theorem vFrac_no {t b:V} (h:(sh t && pw b) = false):vFrac t b = some (.fr [t,b]):=by unfold vFrac; rw [h]; rfl
theorem vFrac_ok {t b:V} (h:(sh t && pw b) = true):vFrac t b = none:=by unfold vFrac; rw [h]; rfl
theorem vForm_no {f ad tt:V} (h:(nw f && nw ad && btw tt 0 64) = false):vForm f ad tt = some (.fm [f,ad,tt]):=by unfold vForm; rw [h]; rfl
theorem vForm_ok {f ad tt:V} (h:(nw f && nw ad && btw tt 0 64) = true):vForm f ad tt = none:=by unfold vForm; rw [h]; rfl
theorem vLine_none {n m a b:V} (h:vLine n m a b = none):∃ n' m' a' b':Int,n = .int n'∧m = .int m'∧a = .int a'∧b = .int b'∧LnOk n' m' a' b':=by
 cases e:(btw n 0 1099511627776 && sh m && sh a && pw b) with
 | false=>rw [vLine_no e] at h; cases h
 | true =>
  simp only [Bool.and_eq_true] at e
  obtain ⟨⟨⟨e1,e2⟩,e3⟩,e4⟩:=e
  obtain ⟨n',rfl,n0,n1⟩:=btw_int e1
  obtain ⟨m',rfl,m0,m1⟩:=btw_int e2
  obtain ⟨a',rfl,a0,a1⟩:=btw_int e3
  obtain ⟨b',rfl,b0,b1⟩:=btw_int e4
  exact ⟨n',m',a',b',rfl,rfl,rfl,rfl,n0,n1,m0,m1,a0,a1,b0,b1⟩
theorem vFrac_none {t b:V} (h:vFrac t b = none):∃ t' b':Int,t = .int t'∧b = .int b'∧-99999999999999999999≤t'∧t'≤99999999999999999999∧1≤b'∧b'≤99999999999999999999:=by
 cases e:(sh t && pw b) with
 | false=>rw [vFrac_no e] at h; cases h
 | true =>
  simp only [Bool.and_eq_true] at e
  obtain ⟨t',rfl,t0,t1⟩:=btw_int e.1
  obtain ⟨b',rfl,b0,b1⟩:=btw_int e.2
  exact ⟨t',b',rfl,rfl,t0,t1,b0,b1⟩
theorem vGr_1 {n m a b t d:V} {z:Rz} (h:vLine n m a b = some z):vGr n m a b t d = some z:=by unfold vGr; rw [h]
theorem vGr_2 {n m a b t d:V} (h:vLine n m a b = none):vGr n m a b t d = vFrac t d:=by unfold vGr; rw [h]
theorem vProd_1 {w t b f ad tt:V} {z:Rz} (h:vW w = some z):vProd w t b f ad tt = some z:=by unfold vProd; rw [h]
theorem vProd_2 {w t b f ad tt:V} (h:vW w = none) (e:(nw t && pw b) = false):vProd w t b f ad tt = some (.fr [t,b]):=by unfold vProd; rw [h]; show (if (nw t && pw b) = true then _ else _) = _; rw [e]; rfl
theorem vProd_3 {w t b f ad tt:V} (h:vW w = none) (e:(nw t && pw b) = true):vProd w t b f ad tt = vForm f ad tt:=by unfold vProd; rw [h]; show (if (nw t && pw b) = true then _ else _) = _; rw [e]; rfl
theorem vProd_none {w t b f ad tt:V} (h:vProd w t b f ad tt = none):∃ w' t' b' f' a' s':Int,w = .int w'∧t = .int t'∧b = .int b'∧f = .int f'∧ad = .int a'∧tt = .int s'∧PrOk w' t' b' f' a' s':=by
 cases e:vW w with
 | some z=>rw [vProd_1 e] at h; cases h
 | none =>
  cases e2:(nw t && pw b) with
  | false=>rw [vProd_2 e e2] at h; cases h
  | true =>
   rw [vProd_3 e e2] at h
   cases e3:(nw f && nw ad && btw tt 0 64) with
   | false=>rw [vForm_no e3] at h; cases h
   | true =>
    simp only [Bool.and_eq_true] at e2 e3
    obtain ⟨w',rfl,w0,w1⟩:=vW_none e
    obtain ⟨t',rfl,t0,t1⟩:=btw_int e2.1
    obtain ⟨b',rfl,b0,b1⟩:=btw_int e2.2
    obtain ⟨f',rfl,f0,f1⟩:=btw_int e3.1.1
    obtain ⟨a',rfl,a0,a1⟩:=btw_int e3.1.2
    obtain ⟨s',rfl,s0,s1⟩:=btw_int e3.2
    exact ⟨w',t',b',f',a',s',rfl,rfl,rfl,rfl,rfl,rfl,w0,w1,t0,t1,b0,b1,f0,f1,a0,a1,s0,s1⟩
theorem vEx_1 {w t b:V} {z:Rz} (h:vW w = some z):vEx w t b = some z:=by unfold vEx; rw [h]
theorem vEx_2 {w:Int} {t b:V} (h0:4≤w) (h1:w≤32) (e:(btw b 1 (1 * 2 ^ w.toNat - 1) && btw t 0 (iv b)) = false):vEx (.int w) t b = some (.fr [t,b]):=by unfold vEx; rw [vW_ok (btw_of h0 h1)]; show (if (btw b 1 (1 * 2 ^ w.toNat - 1) && btw t 0 (iv b)) = true then _ else _) = _; rw [e]; rfl
theorem vEx_3 {w:Int} {t b:V} (h0:4≤w) (h1:w≤32) (e:(btw b 1 (1 * 2 ^ w.toNat - 1) && btw t 0 (iv b)) = true):vEx (.int w) t b = none:=by unfold vEx; rw [vW_ok (btw_of h0 h1)]; show (if (btw b 1 (1 * 2 ^ w.toNat - 1) && btw t 0 (iv b)) = true then _ else _) = _; rw [e]; rfl
def SPA (c:Ad) (u:Option Rz) (H:Hp) (Q:VK) (E:XK):Prop:=(∀ z,u = some z→EXP c z H E)∧(u = none→∀ v H',Same H H'→Q v H')
def spWh1:Sp:=fun vs H Q _=>∃ i:Int,vs = [.int i]∧Q (.bl true) H
theorem imp_wh1:∀ vs H Q E,spWh1 vs H Q E→spWholeG vs H Q E:=fun _ _ _ _ ⟨i,h1,h2⟩=>⟨.int i,h1,.int i,h2⟩
def spShG:Sp:=fun vs H Q _=>∃ x:V,vs = [x]∧Th H x∧Q (.bl (sh x)) H
def spNW (c:Ad):Sp:=fun vs H Q E=>∃ v:V,vs = [v]∧Th H v∧(∀ z,vW v = some z→EXP c z H E)∧(vW v = none→Q .non H)
def spNL (c:Ad):Sp:=fun vs H Q E=>∃ n m a b:V,vs = [n,m,a,b]∧Th H n∧Th H m∧Th H a∧Th H b∧(∀ z,vLine n m a b = some z→EXP c z H E)∧(vLine n m a b = none→Q .non H)
def spNF (c:Ad):Sp:=fun vs H Q E=>∃ t b:V,vs = [t,b]∧Th H t∧Th H b∧(∀ z,vFrac t b = some z→EXP c z H E)∧(vFrac t b = none→Q .non H)
def spNP (c:Ad):Sp:=fun vs H Q E=>∃ w t b f ad tt:V,vs = [w,t,b,f,ad,tt]∧Th H w∧Th H t∧Th H b∧Th H f∧Th H ad∧Th H tt∧(∀ z,vProd w t b f ad tt = some z→EXP c z H E)∧(vProd w t b f ad tt = none→Q .non H)
def spHt (c:Ad):Sp:=fun vs H Q E=>∃ n m a b:V,vs = [n,m,a,b,.int 0]∧Th H n∧Th H m∧Th H a∧Th H b∧SPA c (vLine n m a b) H Q E
def spL4 (c:Ad):Sp:=fun vs H Q E=>∃ n m a b:V,vs = [n,m,a,b]∧Th H n∧Th H m∧Th H a∧Th H b∧SPA c (vLine n m a b) H Q E
def spIsP (c:Ad):Sp:=fun vs H Q E=>∃ (n m a b:V) (l:Addr),vs = [n,m,a,b,.ref l]∧H l = some (.lst [])∧Th H n∧Th H m∧Th H a∧Th H b∧SPA c (vLine n m a b) H Q E
def spFit6 (c:Ad):Sp:=fun vs H Q E=>∃ w t b f ad tt:V,vs = [w,t,b,f,ad,tt]∧Th H w∧Th H t∧Th H b∧Th H f∧Th H ad∧Th H tt∧SPA c (vProd w t b f ad tt) H Q E
def spExY (c:Ad):Sp:=fun vs H Q E=>∃ w t b:V,vs = [w,t,b]∧Th H w∧Th H t∧Th H b∧SPA c (vEx w t b) H Q E
def spNever:Sp:=fun vs _ _ _=>∃ x:V,vs = [x]∧False
theorem hu2 {A:Around} {k:Nat} (hr:Room k A):A.units + 1 + 1 < cLine:=by have:=hr.un; lia
section
variable {P:Program} {w:World} {K:PySem.W.Frag} {mg:Str→Option Value} {base:Heap} {c:Ad} {cT PT:Addr}
theorem ok_is_whole {f:Addr} {fd:FuncData} (F:Fun K "is_whole" "is_whole" s_is_whole f fd) (T:Txt K mg c) :FnOk P w K mg base CX0 1 f fd ["thing"] spWholeG:=by
 refine F.ok sc_is_whole (fun vs H Q E h=>?_) (fun cdv A outer s H vs Q E hr h=>?_)
 ·obtain ⟨x,rfl,_⟩:=h
  rfl
 obtain ⟨x,rfl,th,q⟩:=h
 refine ⟨_,(pss_one (ps_ret (pe_and (pe_callB call_isinst rfl T.n_isinstance boot_isinstance (pa_cons (pv 0) (pa_cons (pe_ty rfl T.n_int boot_int) pa_nil))) (pe_one (pe_not (pe_callB call_isinst rfl T.n_isinstance boot_isinstance (pa_cons (pv 0) (pa_cons (pe_ty rfl T.n_bool boot_bool) pa_nil)))))))),?_⟩
 cases th with
 | int i =>
  refine ⟨_,rfl,_,_,_,_,_,rfl,rfl,TyOf.int _,kit_int_int _,_,rfl,iteT ?_⟩
  exact ⟨_,rfl,_,_,_,_,_,rfl,rfl,TyOf.int _,kit_int_bool _,_,rfl,q⟩
 | bl b =>
  refine ⟨_,rfl,_,_,_,_,_,rfl,rfl,TyOf.bl _,kit_bl_int _,_,rfl,iteT ?_⟩
  exact ⟨_,rfl,_,_,_,_,_,rfl,rfl,TyOf.bl _,kit_bl_bl _,_,rfl,q⟩
 | str x=>exact ⟨_,rfl,_,_,_,_,_,rfl,rfl,TyOf.str _,kit_str_int _,_,rfl,iteF q⟩
 | non=>exact ⟨_,rfl,_,_,_,_,_,rfl,rfl,TyOf.non,kit_non_int _,_,rfl,iteF q⟩
 | lst h=>exact ⟨_,rfl,_,_,_,_,_,rfl,rfl,TyOf.lst h,kit_lst_int _,_,rfl,iteF q⟩
 | tup h=>exact ⟨_,rfl,_,_,_,_,_,rfl,rfl,TyOf.tup h,kit_tup_int _,_,rfl,iteF q⟩
 | dct h=>exact ⟨_,rfl,_,_,_,_,_,rfl,rfl,TyOf.dK h,kit_dct_int _,_,rfl,iteF q⟩
theorem ok_is_between {f:Addr} {fd:FuncData} (F:Fun K "is_between" "is_between" s_is_between f fd) (T:Txt K mg c) (H_is_whole:Has P w K mg base 1 "is_whole" ["thing"] spWholeG):FnOk P w K mg base CX0 2 f fd ["thing", "low", "high"] spBtwG:=by
 refine F.ok sc_is_between (fun vs H Q E h=>?_) (fun cdv A outer s H vs Q E hr h=>?_)
 ·obtain ⟨x,lo,hi,rfl,_⟩:=h
  rfl
 obtain ⟨x,lo,hi,rfl,th,q⟩:=h
 refine ⟨_,(pss_one (ps_ret (pe_and (pe_fn H_is_whole (hr.mono (by lia)) rfl (pa_cons (pv 0) pa_nil)) (pe_one (pe_chain op_le op_le (pv 1) (pv 0) (pv 2)))))),?_⟩
 refine ⟨_,rfl,x,rfl,th,_,rfl,?_⟩
 cases hi':isI x with
 | false =>
  refine iteF ?_
  rw [btw_not hi'] at q
  exact q
 | true =>
  refine iteT ?_
  cases x with
  | int i =>
   refine ⟨_,rfl,_,rfl,_,_,rfl,rfl,_,rfl,?_⟩
   by_cases c1:lo≤i
   ·refine iteD c1 ⟨_,rfl,_,_,rfl,rfl,?_⟩
    have e:btw (.int i) lo hi = decide (i≤hi):=by show (decide (lo≤i) && decide (i≤hi)) = _; rw [decide_eq_true c1,Bool.true_and]
    rw [e] at q
    exact q
   ·refine iteDN c1 ?_
    have e:btw (.int i) lo hi = false:=by show (decide (lo≤i) && decide (i≤hi)) = _; rw [decide_eq_false c1,Bool.false_and]
    rw [e] at q
    exact q
  | _=>cases hi'
theorem ok_NoLine___init__ {f:Addr} {fd:FuncData} (F:Fun K "__init__" "NoLine.__init__" s_NoLine___init__ f fd) (T:Txt K mg c)  (xc:XCls K c.NoLine f "found"):FnOk P w K mg base CX0 1 f fd ["self", "found"] (spXI "found" c.NoLine):=by
 refine F.ok sc_NoLine___init__ (fun vs H Q E h=>?_) (fun cdv A outer s H vs Q E hr h=>?_)
 ·obtain ⟨e,t,v,rfl,_⟩:=h
  rfl
 obtain ⟨e,t,v,rfl,he,q⟩:=h
 refine ⟨_,(pss_one (ps_xset (pv 0) (pv 1) rfl)),?_⟩
 exact ⟨_,rfl,_,rfl,e,c.NoLine,t,_,rfl,he,xc,fun d hd hne=>q d hd hne⟩
theorem ok_NoFraction___init__ {f:Addr} {fd:FuncData} (F:Fun K "__init__" "NoFraction.__init__" s_NoFraction___init__ f fd) (T:Txt K mg c)  (xc:XCls K c.NoFraction f "found"):FnOk P w K mg base CX0 1 f fd ["self", "found"] (spXI "found" c.NoFraction):=by
 refine F.ok sc_NoFraction___init__ (fun vs H Q E h=>?_) (fun cdv A outer s H vs Q E hr h=>?_)
 ·obtain ⟨e,t,v,rfl,_⟩:=h
  rfl
 obtain ⟨e,t,v,rfl,he,q⟩:=h
 refine ⟨_,(pss_one (ps_xset (pv 0) (pv 1) rfl)),?_⟩
 exact ⟨_,rfl,_,rfl,e,c.NoFraction,t,_,rfl,he,xc,fun d hd hne=>q d hd hne⟩
theorem ok_NoForm___init__ {f:Addr} {fd:FuncData} (F:Fun K "__init__" "NoForm.__init__" s_NoForm___init__ f fd) (T:Txt K mg c)  (xc:XCls K c.NoForm f "found"):FnOk P w K mg base CX0 1 f fd ["self", "found"] (spXI "found" c.NoForm):=by
 refine F.ok sc_NoForm___init__ (fun vs H Q E h=>?_) (fun cdv A outer s H vs Q E hr h=>?_)
 ·obtain ⟨e,t,v,rfl,_⟩:=h
  rfl
 obtain ⟨e,t,v,rfl,he,q⟩:=h
 refine ⟨_,(pss_one (ps_xset (pv 0) (pv 1) rfl)),?_⟩
 exact ⟨_,rfl,_,rfl,e,c.NoForm,t,_,rfl,he,xc,fun d hd hne=>q d hd hne⟩
theorem ok_NoWidth___init__ {f:Addr} {fd:FuncData} (F:Fun K "__init__" "NoWidth.__init__" s_NoWidth___init__ f fd) (T:Txt K mg c)  (xc:XCls K c.NoWidth f "found"):FnOk P w K mg base CX0 1 f fd ["self", "found"] (spXI "found" c.NoWidth):=by
 refine F.ok sc_NoWidth___init__ (fun vs H Q E h=>?_) (fun cdv A outer s H vs Q E hr h=>?_)
 ·obtain ⟨e,t,v,rfl,_⟩:=h
  rfl
 obtain ⟨e,t,v,rfl,he,q⟩:=h
 refine ⟨_,(pss_one (ps_xset (pv 0) (pv 1) rfl)),?_⟩
 exact ⟨_,rfl,_,rfl,e,c.NoWidth,t,_,rfl,he,xc,fun d hd hne=>q d hd hne⟩
theorem ok_is_short {f:Addr} {fd:FuncData} (F:Fun K "is_short" "is_short" s_is_short f fd) (T:Txt K mg c) (H_is_between:Has P w K mg base 2 "is_between" ["thing", "low", "high"] spBtwG):FnOk P w K mg base CX0 3 f fd ["thing"] spShG:=by
 refine F.ok sc_is_short (fun vs H Q E h=>?_) (fun cdv A outer s H vs Q E hr h=>?_)
 ·obtain ⟨x,rfl,_⟩:=h
  rfl
 obtain ⟨x,rfl,th,q⟩:=h
 refine ⟨_,(pss_one (ps_ret (pe_fn H_is_between (hr.mono (by lia)) rfl (pa_cons (pv 0) (pa_cons (pe_op op_sub pe_int (pe_op op_pow pe_int pe_int)) (pa_cons (pe_op op_sub (pe_op op_pow pe_int pe_int) pe_int) pa_nil)))))),?_⟩
 have e:(10:Int) ^ (20:Int).toNat = 100000000000000000000:=by decide
 refine ⟨_,rfl,_,_,rfl,rfl,⟨by decide,by decide,by decide⟩,_,_,rfl,rfl,_,_,rfl,rfl,⟨by decide,by decide,by decide⟩,_,_,rfl,rfl,_,_,_,rfl,th,?_⟩
 have e2:btw x (1 - 10 ^ (20:Int).toNat) (10 ^ (20:Int).toNat - 1) = sh x:=by rw [e]; rfl
 rw [e2]
 exact q
theorem ok_need_width {f:Addr} {fd:FuncData} (F:Fun K "need_width" "need_width" s_need_width f fd) (T:Txt K mg c) (H_is_between:Has P w K mg base 2 "is_between" ["thing", "low", "high"] spBtwG) (X_NoWidth:XHas P w K mg base 1 "NoWidth" c.NoWidth "found"):FnOk P w K mg base (CX2 P w base) 3 f fd ["width"] (spNW c):=by
 refine Fun.okY F sc_need_width (fun vs H Q E h=>?_) (fun cdv A outer s H vs Q E hr h=>?_)
 ·obtain ⟨v,rfl,_⟩:=h
  rfl
 obtain ⟨v,rfl,th,q2,q1⟩:=h
 refine ⟨_,(pss_one (ps_if (pt_not (pt_val (pe_fn H_is_between (hr.mono (by lia)) rfl (pa_cons (pv 0) (pa_cons pe_int (pa_cons pe_int pa_nil))))))
   (pss_one (ps_raise1 X_NoWidth (hr.mono (by lia)) rfl (pa_cons (pv 0) pa_nil)))
   pss_nil)),?_⟩
 refine ⟨_,rfl,_,_,_,rfl,th,?_⟩
 cases e:btw v 4 32 with
 | true=>exact ⟨_,rfl,iteF (q1 (vW_ok e))⟩
 | false=>exact ⟨_,rfl,iteT ⟨_,rfl,_,rfl,fun d hd=>(q2 _ (vW_bad e)).wd hd⟩⟩
theorem ok_need_line {f:Addr} {fd:FuncData} (F:Fun K "need_line" "need_line" s_need_line f fd) (T:Txt K mg c) (H_is_between:Has P w K mg base 2 "is_between" ["thing", "low", "high"] spBtwG) (H_is_short:Has P w K mg base 3 "is_short" ["thing"] spShG) (X_NoLine:XHas P w K mg base 1 "NoLine" c.NoLine "found"):FnOk P w K mg base (CX2 P w base) 4 f fd ["n", "m", "a", "b"] (spNL c):=by
 refine Fun.okY F sc_need_line (fun vs H Q E h=>?_) (fun cdv A outer s H vs Q E hr h=>?_)
 ·obtain ⟨n,m,a,b,rfl,_⟩:=h
  rfl
 obtain ⟨n,m,a,b,rfl,t1,t2,t3,t4,q2,q1⟩:=h
 refine ⟨_,(pss_one (ps_if (PW.pt (pw_or (pt_not (pt_val (pe_fn H_is_between (hr.mono (by lia)) rfl (pa_cons (pv 0) (pa_cons pe_int (pa_cons (pe_op op_pow pe_int pe_int) pa_nil)))))) (pw_or (pt_not (pt_val (pe_fn H_is_short (hr.mono (by lia)) rfl (pa_cons (pv 1) pa_nil)))) (pw_or (pt_not (pt_val (pe_fn H_is_short (hr.mono (by lia)) rfl (pa_cons (pv 2) pa_nil)))) (pw_or (pt_not (pt_val (pe_fn H_is_short (hr.mono (by lia)) rfl (pa_cons (pv 3) pa_nil)))) (pw_or1 (pt_cmpR op_lt (pv 3) pe_int (nomark _))))))))
   (pss_one (ps_raise1 X_NoLine (hr.mono (by lia)) rfl (pa_cons (pe_tup (pa_cons (pv 0) (pa_cons (pv 1) (pa_cons (pv 2) (pa_cons (pv 3) pa_nil))))) pa_nil)))
   pss_nil)),?_⟩
 have e40:(2:Int) ^ (40:Int).toNat = 1099511627776:=by decide
 refine ⟨_,rfl,_,_,rfl,rfl,⟨by decide,by decide,by decide⟩,_,_,_,rfl,t1,?_⟩
 cases e1:btw n 0 (2 ^ (40:Int).toNat) with
 | false =>
  rw [e40] at e1
  exact ⟨_,rfl,iteT ⟨_,rfl,_,rfl,_,rfl,_,rfl,(by show 4≤sizeLine; decide),fun t ht=>⟨_,rfl,fun d hd=>(q2 _ (vLine_no (by rw [e1]; rfl))).ln ht hd⟩⟩⟩
 | true =>
 rw [e40] at e1
 refine ⟨_,rfl,iteF ⟨_,rfl,_,rfl,t2,?_⟩⟩
 cases e2:sh m with
 | false=>exact ⟨_,rfl,iteT ⟨_,rfl,_,rfl,_,rfl,_,rfl,(by show 4≤sizeLine; decide),fun t ht=>⟨_,rfl,fun d hd=>(q2 _ (vLine_no (by rw [e1,e2]; rfl))).ln ht hd⟩⟩⟩
 | true =>
 refine ⟨_,rfl,iteF ⟨_,rfl,_,rfl,t3,?_⟩⟩
 cases e3:sh a with
 | false=>exact ⟨_,rfl,iteT ⟨_,rfl,_,rfl,_,rfl,_,rfl,(by show 4≤sizeLine; decide),fun t ht=>⟨_,rfl,fun d hd=>(q2 _ (vLine_no (by rw [e1,e2,e3]; rfl))).ln ht hd⟩⟩⟩
 | true =>
 refine ⟨_,rfl,iteF ⟨_,rfl,_,rfl,t4,?_⟩⟩
 cases e4:sh b with
 | false=>exact ⟨_,rfl,iteT ⟨_,rfl,_,rfl,_,rfl,_,rfl,(by show 4≤sizeLine; decide),fun t ht=>⟨_,rfl,fun d hd=>(q2 _ (vLine_no (by rw [e1,e2,e3,sh_pw e4]; rfl))).ln ht hd⟩⟩⟩
 | true =>
 obtain ⟨b',rfl,b0,b1⟩:=btw_int e4
 refine ⟨_,rfl,iteF ⟨_,rfl,_,_,rfl,rfl,_,rfl,?_⟩⟩
 by_cases c5:b' < 1
 ·exact iteD c5 ⟨_,rfl,_,rfl,_,rfl,_,rfl,(by show 4≤sizeLine; decide),fun t ht=>⟨_,rfl,fun d hd=>(q2 _ (vLine_no (by rw [e1,e2,e3,show pw (.int b') = false from btw_out (.inl c5)]; rfl))).ln ht hd⟩⟩
 ·exact iteDN c5 (q1 (vLine_ok (by rw [e1,e2,e3,show pw (.int b') = true from btw_of (by lia) b1]; rfl)))
theorem ok_need_fraction {f:Addr} {fd:FuncData} (F:Fun K "need_fraction" "need_fraction" s_need_fraction f fd) (T:Txt K mg c) (H_is_short:Has P w K mg base 3 "is_short" ["thing"] spShG) (X_NoFraction:XHas P w K mg base 1 "NoFraction" c.NoFraction "found"):FnOk P w K mg base (CX2 P w base) 4 f fd ["top", "bottom"] (spNF c):=by
 refine Fun.okY F sc_need_fraction (fun vs H Q E h=>?_) (fun cdv A outer s H vs Q E hr h=>?_)
 ·obtain ⟨t,b,rfl,_⟩:=h
  rfl
 obtain ⟨t,b,rfl,t1,t2,q2,q1⟩:=h
 refine ⟨_,(pss_one (ps_if (PW.pt (pw_or (pt_not (pt_val (pe_fn H_is_short (hr.mono (by lia)) rfl (pa_cons (pv 0) pa_nil)))) (pw_or (pt_not (pt_val (pe_fn H_is_short (hr.mono (by lia)) rfl (pa_cons (pv 1) pa_nil)))) (pw_or1 (pt_cmpR op_lt (pv 1) pe_int (nomark _))))))
   (pss_one (ps_raise1 X_NoFraction (hr.mono (by lia)) rfl (pa_cons (pe_tup (pa_cons (pv 0) (pa_cons (pv 1) pa_nil))) pa_nil)))
   pss_nil)),?_⟩
 refine ⟨_,rfl,_,rfl,t1,?_⟩
 cases e1:sh t with
 | false=>exact ⟨_,rfl,iteT ⟨_,rfl,_,rfl,(by show 2≤sizeLine; decide),fun t ht=>⟨_,rfl,fun d hd=>(q2 _ (vFrac_no (by rw [e1]; rfl))).fr ht hd⟩⟩⟩
 | true =>
 refine ⟨_,rfl,iteF ⟨_,rfl,_,rfl,t2,?_⟩⟩
 cases e4:sh b with
 | false=>exact ⟨_,rfl,iteT ⟨_,rfl,_,rfl,(by show 2≤sizeLine; decide),fun t ht=>⟨_,rfl,fun d hd=>(q2 _ (vFrac_no (by rw [e1,sh_pw e4]; rfl))).fr ht hd⟩⟩⟩
 | true =>
 obtain ⟨b',rfl,b0,b1⟩:=btw_int e4
 refine ⟨_,rfl,iteF ⟨_,rfl,_,_,rfl,rfl,_,rfl,?_⟩⟩
 by_cases c5:b' < 1
 ·exact iteD c5 ⟨_,rfl,_,rfl,(by show 2≤sizeLine; decide),fun t ht=>⟨_,rfl,fun d hd=>(q2 _ (vFrac_no (by rw [e1,show pw (.int b') = false from btw_out (.inl c5)]; rfl))).fr ht hd⟩⟩
 ·exact iteDN c5 (q1 (vFrac_ok (by rw [e1,show pw (.int b') = true from btw_of (by lia) b1]; rfl)))
theorem ok_need_product {f:Addr} {fd:FuncData} (F:Fun K "need_product" "need_product" s_need_product f fd) (T:Txt K mg c) (H_need_width:HasY P w K mg base 3 "need_width" ["width"] (spNW c)) (H_need_fraction:HasY P w K mg base 4 "need_fraction" ["top", "bottom"] (spNF c)) (H_is_short:Has P w K mg base 3 "is_short" ["thing"] spShG) (H_is_between:Has P w K mg base 2 "is_between" ["thing", "low", "high"] spBtwG) (X_NoFraction:XHas P w K mg base 1 "NoFraction" c.NoFraction "found") (X_NoForm:XHas P w K mg base 1 "NoForm" c.NoForm "found"):FnOk P w K mg base (CX2 P w base) 5 f fd ["width", "top", "bottom", "factor", "addend", "total"] (spNP c):=by
 refine Fun.okY F sc_need_product (fun vs H Q E h=>?_) (fun cdv A outer s H vs Q E hr h=>?_)
 ·obtain ⟨w',t,b,f',ad,tt,rfl,_⟩:=h
  rfl
 obtain ⟨w',t,b,f',ad,tt,rfl,t1,t2,t3,t4,t5,t6,q2,q1⟩:=h
 refine ⟨_,(pss_cons (ps_expr (pe_fnYX H_need_width (hr.mono (by lia)) rfl (pa_cons (pv 0) pa_nil)))
  (pss_cons (ps_expr (pe_fnYX H_need_fraction (hr.mono (by lia)) rfl (pa_cons (pv 1) (pa_cons (pv 2) pa_nil))))
  (pss_cons (ps_if (pt_cmpR op_lt (pv 1) pe_int (nomark _))
   (pss_one (ps_raise1 X_NoFraction (hr.mono (by lia)) rfl (pa_cons (pe_tup (pa_cons (pv 1) (pa_cons (pv 2) pa_nil))) pa_nil)))
   pss_nil)
  (pss_one (ps_if (PW.pt (pw_or (pt_not (pt_val (pe_fn H_is_short (hr.mono (by lia)) rfl (pa_cons (pv 3) pa_nil)))) (pw_or (pt_not (pt_val (pe_fn H_is_short (hr.mono (by lia)) rfl (pa_cons (pv 4) pa_nil)))) (pw_or (pt_cmpR op_lt (pv 3) pe_int (nomark _)) (pw_or (pt_cmpR op_lt (pv 4) pe_int (nomark _)) (pw_or1 (pt_not (pt_val (pe_fn H_is_between (hr.mono (by lia)) rfl (pa_cons (pv 5) (pa_cons pe_int (pa_cons pe_int pa_nil))))))))))))
   (pss_one (ps_raise1 X_NoForm (hr.mono (by lia)) rfl (pa_cons (pe_tup (pa_cons (pv 3) (pa_cons (pv 4) (pa_cons (pv 5) pa_nil)))) pa_nil)))
   pss_nil))))),?_⟩
 refine ⟨_,rfl,_,rfl,t1,fun z hz=>q2 z (vProd_1 hz),fun hw=>?_⟩
 have bad:vFrac t b = some (.fr [t,b])→(nw t && pw b) = false:=fun h=>by
  cases e:(sh t && pw b) with
  | true=>rw [vFrac_ok e] at h; cases h
  | false =>
   rw [Bool.and_eq_false_iff] at e ⊢
   exact e.imp sh_nw id
 refine ⟨_,rfl,_,rfl,_,_,rfl,t2,t3,fun z hz=>?_,fun hf=>?_⟩
 ·have hz':z = .fr [t,b]:=by
   unfold vFrac at hz
   split at hz
   ·cases hz
   ·cases hz; rfl
  subst hz'
  exact q2 _ (vProd_2 hw (bad hz))
 obtain ⟨t',b',rfl,rfl,t0,t1',b0,b1⟩:=vFrac_none hf
 have pb:pw (.int b') = true:=btw_of b0 b1
 refine ⟨_,rfl,_,_,rfl,rfl,_,rfl,?_⟩
 by_cases c5:t' < 0
 ·exact iteD c5 ⟨_,rfl,_,rfl,(by show 2≤sizeLine; decide),fun t ht=>⟨_,rfl,fun d hd=>(q2 _ (vProd_2 hw (by rw [show nw (.int t') = false from btw_out (.inl c5)]; rfl))).fr ht hd⟩⟩
 refine iteDN c5 ?_
 have tb:(nw (.int t') && pw (.int b')) = true:=by rw [pb,show nw (.int t') = true from btw_of (by lia) t1']; rfl
 have no:(nw f' && nw ad && btw tt 0 64) = false→EXP c (.fm [f',ad,tt]) H E:=fun h=>q2 _ ((vProd_3 hw tb).trans (vForm_no h))
 refine ⟨_,rfl,_,rfl,t4,?_⟩
 cases e1:sh f' with
 | false=>exact ⟨_,rfl,iteT ⟨_,rfl,_,rfl,_,rfl,(by show 3≤sizeLine; decide),fun t ht=>⟨_,rfl,fun d hd=>(no (by rw [sh_nw e1]; rfl)).fm ht hd⟩⟩⟩
 | true =>
 refine ⟨_,rfl,iteF ⟨_,rfl,_,rfl,t5,?_⟩⟩
 cases e2:sh ad with
 | false=>exact ⟨_,rfl,iteT ⟨_,rfl,_,rfl,_,rfl,(by show 3≤sizeLine; decide),fun t ht=>⟨_,rfl,fun d hd=>(no (by rw [sh_nw e2,Bool.and_false]; rfl)).fm ht hd⟩⟩⟩
 | true =>
 obtain ⟨f1,rfl,f10,f11⟩:=btw_int e1
 obtain ⟨a1,rfl,a10,a11⟩:=btw_int e2
 refine ⟨_,rfl,iteF ⟨_,rfl,_,_,rfl,rfl,_,rfl,?_⟩⟩
 by_cases c6:f1 < 0
 ·exact iteD c6 ⟨_,rfl,_,rfl,_,rfl,(by show 3≤sizeLine; decide),fun t ht=>⟨_,rfl,fun d hd=>(no (by rw [show nw (.int f1) = false from btw_out (.inl c6)]; rfl)).fm ht hd⟩⟩
 refine iteDN c6 ⟨_,rfl,_,_,rfl,rfl,_,rfl,?_⟩
 by_cases c7:a1 < 0
 ·exact iteD c7 ⟨_,rfl,_,rfl,_,rfl,(by show 3≤sizeLine; decide),fun t ht=>⟨_,rfl,fun d hd=>(no (by rw [show nw (.int a1) = false from btw_out (.inl c7),Bool.and_false]; rfl)).fm ht hd⟩⟩
 refine iteDN c7 ⟨_,rfl,_,_,_,rfl,t6,?_⟩
 cases e3:btw tt 0 64 with
 | false=>exact ⟨_,rfl,iteT ⟨_,rfl,_,rfl,_,rfl,(by show 3≤sizeLine; decide),fun t ht=>⟨_,rfl,fun d hd=>(no (by rw [e3,Bool.and_false])).fm ht hd⟩⟩⟩
 | true=>exact ⟨_,rfl,iteF (q1 ((vProd_3 hw tb).trans (vForm_ok (by rw [e3,show nw (.int f1) = true from btw_of (by lia) f11,show nw (.int a1) = true from btw_of (by lia) a11]; rfl))))⟩
abbrev FSt (n m a b:Int) (l:Addr) (x rest step drop far lack:Int) (y1 y2:Option V):L2.St:=[some (.int n),some (.int m),some (.int a),some (.int b),some (.ref l),some (.int x),some (.int rest),some (.int step),some (.int drop),some (.int far),some (.int lack),y1,y2]
def fmu (σ:L2.St):Nat:=match σ[6]?,σ[8]? with | some (some (V.int r)),some (some (V.int d))=>(r + d).toNat | _,_=>0
theorem Eu.bnd {m b step drop far lack rest:Int} (h:Eu m b step drop far lack rest) (d1:0 < drop):step≤b∧far≤b∧lack≤b:=by
 have s1:=h.s1
 have l1:=h.l1
 have f0:=h.f0
 have a:step * 1≤step * lack:=Int.mul_le_mul_of_nonneg_left l1 (by lia)
 have c:far * 1≤far * drop:=Int.mul_le_mul_of_nonneg_left (by lia) f0
 have e:1 * lack≤step * lack:=Int.mul_le_mul_of_nonneg_right s1 (by lia)
 have f:0≤far * drop:=Int.mul_nonneg f0 (by lia)
 have g:=h.det
 lia
theorem ok_fall_rows {f:Addr} {fd:FuncData} (F:Fun K "fall_rows" "fall_rows" s_fall_rows f fd) (T:Txt K mg c) :FnOk P w K mg base CX0 1 f fd ["n", "m", "a", "b"] spFall:=by
 refine F.ok sc_fall_rows (fun vs H Q E h=>?_) (fun cdv A outer s H vs Q E hr h=>?_)
 ·obtain ⟨n,m,a,b,rfl,_⟩:=h
  rfl
 obtain ⟨n,m,a,b,rfl,L,q⟩:=h
 refine ⟨_,(pss_cons (ps_set (i:=4) sc_fall_rows.nd rfl (Or.inl rfl) (pe_lst pa_nil))
  (pss_cons (ps_set (i:=5) sc_fall_rows.nd rfl (Or.inl rfl) pe_int)
  (pss_cons (ps_set (i:=6) sc_fall_rows.nd rfl (Or.inl rfl) (pe_op op_mod (pv 2) (pv 3)))
  (pss_cons (ps_set (i:=7) sc_fall_rows.nd rfl (Or.inl rfl) pe_int)
  (pss_cons (ps_set (i:=8) sc_fall_rows.nd rfl (Or.inl rfl) (pe_op op_mod (pe_un un_neg (pv 1)) (pv 3)))
  (pss_cons (ps_set (i:=9) sc_fall_rows.nd rfl (Or.inl rfl) pe_int)
  (pss_cons (ps_set (i:=10) sc_fall_rows.nd rfl (Or.inl rfl) (pv 3))
  (pss_cons (ps_while PassesOwn.never (PW.pt (pw_and (pt_cmpR op_lt pe_int (pv 8) (nomark _)) (pw_and1 (pt_cmpR op_lt pe_int (pv 6) (nomark _)))))
   (pss_one (ps_if (pt_cmpR op_lt (pv 6) (pv 8) (nomark _))
    (pss_cons (ps_set (i:=9) sc_fall_rows.nd rfl (Or.inl rfl) (pe_op op_add (pv 9) (pe_op op_mulB (pe_op op_fdivB (pv 10) (pv 8)) (pv 7))))
    (pss_cons (ps_set (i:=10) sc_fall_rows.nd rfl (Or.inl rfl) (pe_op op_mod (pv 10) (pv 8)))
    (pss_cons (ps_if (pt_cmpR op_eq (pv 10) pe_int (nomark _))
     (pss_one (ps_ret (pv 4)))
     pss_nil)
    (pss_cons (ps_set (i:=11) sc_fall_rows.nd rfl (Or.inl rfl) (pe_callB (call_min2 rfl) rfl T.n_min boot_min (pa_cons (pe_un un_neg (pe_op op_fdivB (pe_op op_sub (pv 6) (pv 8)) (pv 10))) (pa_cons (pe_op op_fdivB (pe_op op_sub (pv 8) pe_int) (pv 10)) pa_nil))))
    (pss_cons (ps_set (i:=7) sc_fall_rows.nd rfl (Or.inl rfl) (pe_op op_add (pv 7) (pe_op op_mulB (pv 11) (pv 9))))
    (pss_one (ps_set (i:=8) sc_fall_rows.nd rfl (Or.inl rfl) (pe_op op_sub (pv 8) (pe_op op_mulB (pv 11) (pv 10))))))))))
    (pss_cons (ps_set (i:=12) sc_fall_rows.nd rfl (Or.inl rfl) (pe_callB (call_min2 rfl) rfl T.n_min boot_min (pa_cons (pe_op op_fdivB (pv 6) (pv 8)) (pa_cons (pe_op op_fdivB (pe_op op_sub (pv 0) (pv 5)) (pv 7)) pa_nil))))
    (pss_cons (ps_if (pt_cmpR op_eq (pv 12) pe_int (nomark _))
     (pss_one (ps_ret (pv 4)))
     pss_nil)
    (pss_cons (ps_expr (pe_bm PySem.F.plainAttrs_list PySem.F.slot_list_append PySem.F.type_list_append mt_append (pv 4) (pa_cons (pe_tup (pa_cons (pv 7) (pa_cons (pv 8) (pa_cons (pv 12) pa_nil)))) pa_nil)))
    (pss_cons (ps_set (i:=5) sc_fall_rows.nd rfl (Or.inl rfl) (pe_op op_add (pv 5) (pe_op op_mulB (pv 12) (pv 7))))
    (pss_one (ps_set (i:=6) sc_fall_rows.nd rfl (Or.inl rfl) (pe_op op_sub (pv 6) (pe_op op_mulB (pv 12) (pv 8))))))))))))
  (pss_one (ps_ret (pv 4))))))))))),?_⟩
 obtain ⟨n0,n1,m0,m1,a0,a1,b0,b1⟩:=L
 have L1000:(1000:Nat)≤sizeLine:=by decide
 walk_at "o"; intro l hl
 walk_at "o"
 refine while_by (fun σ H2=>∃ (rs:List Row3) (x rest step drop far lack:Int) (y1 y2:Option V),σ = FSt n m a b l x rest step drop far lack y1 y2∧FI m a b n rs x rest step drop far lack∧ALg i3 H2 l rs∧Same H H2) (fun σ _=>fmu σ) ⟨[],0,_,1,_,0,b,_,_,rfl,FI.start b0 n0,⟨[],upd_same,PLg.nil⟩,same_new hl _⟩ ?_ ?_
 ·rintro σ H2 ⟨rs,x,rest,step,drop,far,lack,y1,y2,rfl,fi,al,sm⟩
  have rg:=Rs_rg (m:=m) (a:=a) (b:=b) (x:=x) (by lia)
  rw [← fi.re] at rg
  have db:=fi.eu.db
  have d0:=fi.eu.d0
  refine ⟨_,rfl,_,_,rfl,rfl,_,rfl,?_⟩
  walk_at "c" <;> intro c1
  ·have eb:=fi.eu.bnd c1
   have s1:=fi.eu.s1
   have f0:=fi.eu.f0
   have l1:=fi.eu.l1
   have xn:=fi.xn
   have x0:=fi.x0
   refine ⟨_,rfl,_,_,rfl,rfl,_,rfl,?_⟩
   walk_at "c" <;> intro c2
   ·refine ⟨_,rfl,_,rfl,_,_,rfl,rfl,_,rfl,?_⟩
    walk_at "c" <;> intro c3
    ·have lg:=log_small (m:=drop) (by lia) (by lia)
     have q0:0≤lack / drop:=Int.ediv_nonneg (by lia) (by lia)
     have q1:lack / drop≤lack:=Int.ediv_le_self _ (by lia)
     have t0:=Int.emod_nonneg lack (show drop ≠ 0 by lia)
     have t1:=Int.emod_lt_of_pos lack c1
     walk_at "o"
     walk_at "c" <;> intro c4
     ·exact ⟨_,rfl,q l rs x H2 hl al (fi.end_lack c3 c4) sm⟩
     ·have mE:∀ i j:Int,(if j < i then j else i) = min i j:=fun i j=>by split <;> lia
      have lg2:=log_small (m:=lack % drop) (by lia) (by lia)
      obtain ⟨n1',eu',n3,n4⟩:=fi.eu.next c3 rg.1 c4 rfl
      have nx':=fi.next (by lia) c3 c4 rfl
      have fb:=eu'.bnd (by lia)
      refine ⟨_,rfl,_,rfl,_,_,rfl,rfl,_,rfl,_,_,rfl,rfl,⟨by lia,lg2⟩,_,rfl,_,rfl,_,_,rfl,rfl,_,rfl,_,_,rfl,rfl,⟨by lia,lg2⟩,_,_,rfl,?_⟩
      rw [mE]
      have mb:min (-((rest - drop) / (lack % drop))) ((drop - 1) / (lack % drop))≤drop:=by
       have:=Int.ediv_le_self (a:=drop - 1) (lack % drop) (by lia)
       lia
      have xF:=eu'.f0
      refine ⟨_,rfl,_,rfl,_,rfl,_,_,rfl,rfl,⟨b200 (by lia) (by lia),b200 (by lia) (by lia)⟩,_,_,rfl,rfl,?_⟩
      refine ⟨_,rfl,_,rfl,_,rfl,_,_,rfl,rfl,⟨b200 (by lia) (by lia),b200 (by lia) (by lia)⟩,_,_,rfl,rfl,?_⟩
      refine ⟨⟨rs,x,rest,_,_,_,_,_,_,rfl,nx',al,sm⟩,?_⟩
      show (rest + (drop - _)).toNat < (rest + drop).toNat
      lia
    ·have lg:=log_small (m:=drop) (by lia) (by lia)
     have lg2:=log_small (m:=step) (by lia) (by lia)
     have mE:∀ i j:Int,(if j < i then j else i) = min i j:=fun i j=>by split <;> lia
     refine ⟨_,rfl,_,rfl,_,_,rfl,rfl,⟨c1,lg⟩,_,rfl,_,rfl,_,_,rfl,rfl,_,rfl,_,_,rfl,rfl,⟨by lia,lg2⟩,_,_,rfl,?_⟩
     rw [mE]
     refine ⟨_,rfl,rfl,_,rfl,?_⟩
     walk_at "c" <;> intro c4
     ·exact ⟨_,rfl,q l rs x H2 hl al (fi.end_times c1 (by lia) c4) sm⟩
     ·obtain ⟨fi',t1,t2,t3⟩:=fi.row (by lia) c1 (by lia) rfl c4
      have tb:min (rest / drop) ((n - x) / step)≤rest:=by
       have:=Int.ediv_le_self (a:=rest) drop rg.1
       lia
      obtain ⟨ps,hp,pl⟩:=al
      have pn:=pl.1
      have pw2:rs.length < 1000:=by
       refine Classical.byContradiction fun z=>?_
       have k1:=fi'.ln rs.length (by rw [List.length_append]; rfl)
       have k2:(2:Int) ^ 100≤2 ^ rs.length:=p_mono (by lia)
       lia
      refine ⟨_,rfl,.inl ⟨rfl,_,SqL.of hp⟩,_,rfl,_,rfl,_,rfl,(by show 3≤sizeLine; decide),fun r hr'=>?_⟩
      have sM:=same_new hr' (.tup (i3 (step,drop,min (rest / drop) ((n - x) / step))))
      have ap:=ALg.app pl hp hr' (step,drop,min (rest / drop) ((n - x) / step))
      refine ⟨l,_,_,rfl,rfl,sM _ _ hp,(by rw [List.length_map]; lia),?_⟩
      refine ⟨_,rfl,_,rfl,_,rfl,_,_,rfl,rfl,⟨b200 (by lia) (by lia),b200 (by lia) (by lia)⟩,_,_,rfl,rfl,?_⟩
      refine ⟨_,rfl,_,rfl,_,rfl,_,_,rfl,rfl,⟨b200 (by lia) (by lia),b200 (by lia) (by lia)⟩,_,_,rfl,rfl,?_⟩
      refine ⟨⟨rs ++ [(step,drop,min (rest / drop) ((n - x) / step))],_,_,_,_,_,_,_,_,rfl,fi',ap,Same.updL (sm.trans sM) hl⟩,?_⟩
      show (rest - _ + drop).toNat < (rest + drop).toNat
      lia
   ·exact ⟨_,rfl,q l rs x H2 hl al (fi.end_loop (by lia) (by lia)) sm⟩
  ·exact ⟨_,rfl,q l rs x H2 hl al (fi.end_loop (by lia) (by lia)) sm⟩
 ·rintro σ H2 Q1 Q2 hq ⟨v,e,i,j,e1,e2,c,e3,h⟩
  refine ⟨v,e,i,j,e1,e2,c,e3,?_⟩
  revert h
  cases c with
  | true =>
   rintro ⟨v2,e4,i2,j2,e5,e6,c2,e7,h⟩
   exact ⟨v2,e4,i2,j2,e5,e6,c2,e7,hq _ _ h⟩
  | false=>exact fun h=>hq _ _ h
theorem ok_places_reached {f:Addr} {fd:FuncData} (F:Fun K "places_reached" "places_reached" s_places_reached f fd) (T:Txt K mg c) (H_fall_rows:Has P w K mg base 1 "fall_rows" ["n", "m", "a", "b"] spFall):FnOk P w K mg base CX0 2 f fd ["n", "m", "a", "b"] spPlc:=by
 refine F.ok sc_places_reached (fun vs H Q E h=>?_) (fun cdv A outer s H vs Q E hr h=>?_)
 ·obtain ⟨n,m,a,b,rfl,_⟩:=h
  rfl
 obtain ⟨n,m,a,b,rfl,L,q⟩:=h
 refine ⟨_,(pss_cons (ps_set (i:=4) sc_places_reached.nd rfl (Or.inl rfl) (pe_lst (pa_cons pe_int pa_nil)))
  (pss_cons (ps_for PassesOwn.never rfl (pi_list (pe_fn H_fall_rows (hr.mono (by lia)) rfl (pa_cons (pv 0) (pa_cons (pv 1) (pa_cons (pv 2) (pa_cons (pv 3) pa_nil)))))) (pg_name (i:=5) sc_places_reached.nd rfl (Or.inl rfl))
   (pss_one (ps_expr (pe_bm PySem.F.plainAttrs_list PySem.F.slot_list_append PySem.F.type_list_append mt_append (pv 4) (pa_cons (pe_op op_add (pe_ix ix_list (pv 4) (pe_un un_neg pe_int) (fun _ _=>rfl)) (pe_op op_mulB (pe_ix ix_tup (pv 5) pe_int (fun _ _=>rfl)) (pe_ix ix_tup (pv 5) pe_int (fun _ _=>rfl)))) pa_nil)))))
  (pss_one (ps_ret (pv 4))))),?_⟩
 have L1000:(1000:Nat)≤sizeLine:=by decide
 refine ⟨(by show 1≤sizeLine; decide),fun l hl=>?_⟩
 have hl0:upd H l (.lst [.int 0]) l = some (.lst ((plcs []).map V.int)):=upd_same
 have s0:=same_new hl (.lst [.int 0])
 refine ⟨_,rfl,_,rfl,_,rfl,_,rfl,n,m,a,b,rfl,L,fun lr rs xl H1 lr0 al ff s1=>?_⟩
 obtain ⟨ps,hp,pl⟩:=al
 have nl:lr ≠ l:=fun z=>by rw [z,hl0] at lr0; cases lr0
 have pn:=pl.1
 have rl:=ff.lenB (by have:=L.b1; lia)
 have n1:=L.n1
 refine ⟨lr,rfl,⟨_,SqL.of hp⟩,for_list (xs:=ps.map V.ref) (fun j σ H2=>∃ y:Option V,σ = [some (.int n),some (.int m),some (.int a),some (.int b),some (.ref l),y]∧H2 l = some (.lst ((plcs (rs.take j)).map V.int))∧SameX l H1 H2) ⟨_,rfl,s1 _ _ hl0,fun a v _ h=>h⟩ ?_ ?_ ?_⟩
 ·rintro j σ H2 hj ⟨y,rfl,hl2,sx⟩
  exact SqL.of (sx _ _ nl hp)
 ·rintro j v σ H2 hj ⟨y,rfl,hl2,sx⟩
  rw [List.getElem?_map] at hj
  cases e1:ps[j]? with
  | none=>rw [e1] at hj; cases hj
  | some p =>
   rw [e1] at hj
   cases hj
   obtain ⟨r,er,hr'⟩:=pl.get' e1
   have rb:=ff.row er
   have pne:p ≠ l:=fun z=>by
    have h1:=s1 _ _ hl0
    rw [← z] at h1
    unfold TRg at hr'
    rw [hr'] at h1
    cases h1
   have hp2:H2 p = some (.tup (i3 r)):=sx _ _ pne hr'
   have jl:=(List.getElem?_eq_some_iff.mp er).1
   have tl:(plcs (rs.take j)).length = j + 1:=by rw [plcs_len,List.length_take]; lia
   obtain ⟨u,eu⟩:∃ u,(plcs (rs.take j)).getLast? = some u:=by
    cases e:(plcs (rs.take j)).getLast? with
    | none=>rw [List.getLast?_eq_none_iff] at e; rw [e] at tl; cases tl
    | some u=>exact ⟨u,rfl⟩
   have al1:atI ((plcs (rs.take j)).map V.int) (-1) = some (.int u):=at_last (by rw [← List.getLast?_eq_getElem?]; exact eu)
   refine ⟨_,rfl,.inl ⟨rfl,_,SqL.of hl2⟩,_,rfl,_,rfl,l,_,_,_,rfl,rfl,SqL.of hl2,al1,_,rfl,p,_,_,_,rfl,rfl,SqT.of hp2,rfl,_,rfl,p,_,_,_,rfl,rfl,SqT.of hp2,rfl,_,_,rfl,rfl,⟨b200 (by lia) (by lia),b200 (by lia) (by lia)⟩,_,_,rfl,rfl,l,_,_,rfl,rfl,hl2,(by rw [List.length_map,tl]; lia),_,rfl,?_,fun a' v' n' h'=>?_⟩
   ·rw [upd_same,List.take_add_one,er,Option.toList_some,plcs_snoc,eu,List.map_append]
    rfl
   ·rw [upd_ne n']
    exact sx _ _ n' h'
 ·rintro σ H2 ⟨y,rfl,hl2,sx⟩
  rw [List.length_map,pn,List.take_length] at hl2
  refine ⟨_,rfl,q l rs xl H2 hl hl2 ff fun a' v' h'=>?_⟩
  exact sx _ _ (ne_of_none h' hl) (s1 _ _ (s0 _ _ h'))
theorem ok_corner_points {f:Addr} {fd:FuncData} (F:Fun K "corner_points" "corner_points" s_corner_points f fd) (T:Txt K mg c) (H_places_reached:Has P w K mg base 2 "places_reached" ["n", "m", "a", "b"] spPlc):FnOk P w K mg base CX0 3 f fd ["n", "m", "a", "b"] spCrn:=by
 refine F.ok sc_corner_points (fun vs H Q E h=>?_) (fun cdv A outer s H vs Q E hr h=>?_)
 ·obtain ⟨n,m,a,b,rfl,_⟩:=h
  rfl
 obtain ⟨n,m,a,b,rfl,L,q⟩:=h
 refine ⟨_,(pss_cons (ps_set (i:=4) sc_corner_points.nd rfl (Or.inl rfl) (pe_fn H_places_reached (hr.mono (by lia)) rfl (pa_cons (pv 0) (pa_cons (pv 1) (pa_cons (pv 2) (pa_cons (pv 3) pa_nil))))))
  (pss_cons (ps_compC (i:=5) sc_corner_points.nd rfl (Or.inl rfl) rfl [0] ["n"] rfl (by first | rfl | with_unfolding_all rfl) (by rfl) (by exact (List.forall_mem_cons.mpr ⟨rfl,(fun _ h=>nomatch h)⟩)) (by decide +kernel) rfl (by decide +kernel) rfl (by decide +kernel) (by exact (List.forall_mem_cons.mpr ⟨⟨by first | exact Or.inl rfl | exact Or.inr rfl,rfl⟩,(fun _ h=>nomatch h)⟩)) rfl (by rfl) (pi_list (pe_fn H_places_reached (hr.mono (by lia)) rfl (pa_cons (pv 0) (pa_cons (pe_un un_neg (pv 1)) (pa_cons (pe_op op_add (pe_op op_mulB (pv 1) (pv 0)) (pv 2)) (pa_cons (pv 3) pa_nil)))))) (fun C s2 H2 fp=>(pe_op op_sub (pv 1) (pv 0))))
  (pss_one (ps_ret (pe_compC [1,3,2] ["m", "b", "a"] rfl (by first | rfl | with_unfolding_all rfl) (by rfl) (by exact (List.forall_mem_cons.mpr ⟨rfl,(List.forall_mem_cons.mpr ⟨rfl,(List.forall_mem_cons.mpr ⟨rfl,(fun _ h=>nomatch h)⟩)⟩)⟩)) (by decide +kernel) rfl (by decide +kernel) rfl (by decide +kernel) (by exact (List.forall_mem_cons.mpr ⟨⟨by first | exact Or.inl rfl | exact Or.inr rfl,rfl⟩,(List.forall_mem_cons.mpr ⟨⟨by first | exact Or.inl rfl | exact Or.inr rfl,rfl⟩,(List.forall_mem_cons.mpr ⟨⟨by first | exact Or.inl rfl | exact Or.inr rfl,rfl⟩,(fun _ h=>nomatch h)⟩)⟩)⟩)) rfl (by rfl) (pi_list (pe_callB (call_sorted_setN hr.hd) rfl T.n_sorted boot_sorted (pa_cons (pe_callTy (call_set hr.hd) rfl T.n_set boot_set (pa_cons (pe_op op_addL (pv 4) (pv 5)) pa_nil)) pa_nil))) (fun C s2 H2 fp=>(pe_tup (pa_cons (pv 0) (pa_cons (pe_op op_fdivB (pe_op op_add (pe_op op_mulB (pv 1) (pv 0)) (pv 3)) (pv 2)) pa_nil))))))))),?_⟩
 have L1000:(1000:Nat)≤sizeLine:=by decide
 obtain ⟨n0,n1,m0,m1,a0,a1,b0,b1⟩:=L
 have mn:=mbd m0 m1 n0 n1
 have e140:(2:Int) ^ 100 * 1099511627776 = 2 ^ 140:=by decide
 rw [e140] at mn
 refine ⟨_,rfl,_,rfl,_,rfl,_,rfl,n,m,a,b,rfl,⟨n0,n1,by lia,by lia,by lia,by lia,b0,by lia⟩,fun lf rs xl H1 lf0 hf ff s1=>?_⟩
 have rl:=ff.lenB (by lia)
 refine ⟨_,rfl,_,rfl,_,rfl,_,rfl,_,rfl,_,_,rfl,rfl,⟨b200 (by lia) (by lia),b200 (by lia) (by lia)⟩,_,rfl,_,_,rfl,rfl,_,rfl,n,-m,m * n + a,b,rfl,⟨n0,n1,by lia,by lia,by lia,by lia,b0,by lia⟩,fun lg qs xr H2 lg0 hg fg s2=>?_⟩
 have ql:=fg.lenB (by lia)
 have PL1:=plcs_len rs
 have PL2:=plcs_len qs
 refine ⟨lg,rfl,⟨_,SqL.of hg⟩,fun D hD=>?_⟩
 refine comp_list (xs:=(plcs qs).map V.int) (fun j HJ=>HJ D = some (.lst (((plcs qs).take j).map fun z=>V.int (n - z)))∧Same H2 HJ) ⟨upd_same,same_new hD _⟩ ?_ ?_ ?_
 ·rintro j HJ hj ⟨hy,sJ⟩
  exact SqL.of (sJ _ _ hg)
 ·rintro j v HJ hv ⟨hy,sJ⟩
  rw [List.getElem?_map] at hv
  cases e1:(plcs qs)[j]? with
  | none=>rw [e1] at hv; cases hv
  | some z =>
   rw [e1] at hv
   cases hv
   have jl:=(List.getElem?_eq_some_iff.mp e1).1
   refine ⟨_,rfl,_,rfl,_,_,rfl,rfl,_,hy,(by rw [List.length_map,List.length_take]; lia),((plcs qs).map V.int).length - (j + 1),(by rw [List.length_map]; lia),rfl,(by rw [List.length_map]; lia),?_,Same.updL sJ hD⟩
   rw [upd_same,List.take_add_one,e1,Option.toList_some,List.map_append]
   rfl
 rintro HJ ⟨hy,sJ⟩
 rw [List.length_map,List.take_length] at hy
 have s3:=s1.trans (s2.trans sJ)
 have hf3:=sJ _ _ (s2 _ _ hf)
 obtain ⟨c1,c2,c3,c4⟩:=crn_ch (by lia) ff fg
 refine ⟨_,rfl,_,rfl,lf,D,_,_,rfl,rfl,SqL.of hf3,SqL.of hy,(by rw [List.length_map,List.length_map]; lia),fun p1 hp1=>?_⟩
 have hadd:upd HJ p1 (.lst ((plcs rs).map V.int ++ (plcs qs).map fun z=>V.int (n - z))) p1 = some (.lst ((plcs rs ++ (plcs qs).map fun z=>n - z).map V.int)):=by
  rw [upd_same,List.map_append,List.map_map]
  rfl
 have nl:(plcs rs ++ (plcs qs).map fun z=>n - z).length < 1000:=by rw [List.length_append,List.length_map]; lia
 have s4:=s3.trans (same_new hp1 (.lst ((plcs rs).map V.int ++ (plcs qs).map fun z=>V.int (n - z))))
 refine ⟨p1,_,rfl,SqL.of hadd,(by lia),fun p2 hp2=>?_⟩
 have s5:=s4.trans (same_new hp2 (sI w p2 (plcs rs ++ (plcs qs).map fun z=>n - z)))
 refine ⟨p2,_,rfl,upd_same,by lia,fun p3 zs hp3 srt mem=>?_⟩
 have ez:zs = crn n rs qs:=sorted_unique _ _ srt (Ch.rising _ c1) fun x=>by rw [mem,c4,List.mem_append]
 have s6:=s5.trans (same_new hp3 (.lst (zs.map V.int)))
 have zl:zs.length≤136:=by
  have l1:(crn n rs qs).length≤(plcs rs ++ ((plcs qs).map fun z=>n - z).reverse).length:=by
   unfold crn
   split
   ·rw [List.length_append,List.length_append,List.length_tail]; lia
   ·exact Nat.le_refl _
  rw [List.length_append,List.length_reverse,List.length_map] at l1
  rw [ez]
  lia
 have zb:∀ x ∈ zs,0≤x∧x≤n:=fun x hx=>by
  rcases List.mem_append.mp ((mem x).mp hx) with h | h
  ·exact ff.pos x h
  ·obtain ⟨z,hz,e⟩:=List.mem_map.mp h
   have:=fg.pos z hz
   lia
 have lgb:=log_small (m:=b) (by lia) (by lia)
 have hz3:upd (upd (upd HJ p1 (.lst ((plcs rs).map V.int ++ (plcs qs).map fun z=>V.int (n - z)))) p2 (sI w p2 (plcs rs ++ (plcs qs).map fun z=>n - z))) p3 (.lst (zs.map V.int)) p3 = some (.lst (zs.map V.int)):=upd_same
 refine ⟨p3,rfl,⟨_,SqL.of hz3⟩,fun D2 hD2=>?_⟩
 have D0:H D2 = none:=Same.none s6 hD2
 have nD:p3 ≠ D2:=ne_of_none hz3 hD2
 refine comp_list (xs:=zs.map V.int) (fun j HK=>ALg i2 HK D2 ((zs.take j).map fun x=>(x,hgt m a b x))∧HK p3 = some (.lst (zs.map V.int))∧Same H HK) ⟨⟨[],upd_same,PLg.nil⟩,(by rw [upd_ne nD]; exact hz3),Same.updL s6 D0⟩ ?_ ?_ ?_
 ·rintro j HK hj ⟨hy,h3,sK⟩
  exact SqL.of h3
 ·rintro j v HK hv ⟨⟨ps,hps,pl⟩,h3,sK⟩
  rw [List.getElem?_map] at hv
  cases e1:zs[j]? with
  | none=>rw [e1] at hv; cases hv
  | some z =>
   rw [e1] at hv
   cases hv
   have jl:=(List.getElem?_eq_some_iff.mp e1).1
   obtain ⟨z0,z1⟩:=zb z (List.mem_of_getElem? e1)
   have pn:=pl.1
   rw [List.length_map,List.length_take] at pn
   refine ⟨_,rfl,_,rfl,_,rfl,_,_,rfl,rfl,⟨b200 (by lia) (by lia),b200 (by lia) (by lia)⟩,_,rfl,_,_,rfl,rfl,_,rfl,_,_,rfl,rfl,⟨by lia,lgb⟩,(by show 2≤sizeLine; decide),fun r hr'=>?_⟩
   have sM:=same_new hr' (.tup (i2 (z,hgt m a b z)))
   have ap:=ALg.app pl hps hr' (z,hgt m a b z)
   refine ⟨_,sM _ _ hps,(by rw [List.length_map]; lia),(zs.map V.int).length - (j + 1),(by rw [List.length_map]; lia),rfl,(by rw [List.length_map]; lia),?_,(by rw [upd_ne nD]; exact sM _ _ h3),Same.updL (sK.trans sM) D0⟩
   rw [List.take_add_one,e1,Option.toList_some,List.map_append]
   exact ap
 rintro HK ⟨al,h3,sK⟩
 rw [List.length_map,List.take_length] at al
 refine q D2 zs HK D0 al ⟨by rw [ez]; exact c1,by rw [ez]; exact c2,by rw [ez]; exact c3,by lia⟩ sK
theorem ok_common_divisor {f:Addr} {fd:FuncData} (F:Fun K "common_divisor" "common_divisor" s_common_divisor f fd) (T:Txt K mg c) :FnOk P w K mg base CX0 1 f fd ["a", "b"] spGcd:=by
 refine F.ok sc_common_divisor (fun vs H Q E h=>?_) (fun cdv A outer s H vs Q E hr h=>?_)
 ·obtain ⟨x,y,rfl,_⟩:=h
  rfl
 obtain ⟨x,y,rfl,x0,y0,q⟩:=h
 refine ⟨_,(pss_cons (ps_while PassesOwn.never (pt_cmpR op_ne (pv 1) pe_int (nomark _))
   (pss_cons (ps_set (i:=2) sc_common_divisor.nd rfl (Or.inl rfl) (pe_op op_mod (pv 0) (pv 1)))
   (pss_cons (ps_set (i:=0) sc_common_divisor.nd rfl (Or.inl rfl) (pv 1))
   (pss_one (ps_set (i:=1) sc_common_divisor.nd rfl (Or.inl rfl) (pv 2))))))
  (pss_one (ps_ret (pv 0)))),?_⟩
 refine while_by (fun σ H2=>∃ (u v:Int) (z:Option V),σ = [some (.int u),some (.int v),z]∧H2 = H∧0≤u∧0≤v∧Int.gcd u v = Int.gcd x y) (fun σ _=>match σ with | [_,some (V.int v),_]=>v.toNat | _=>0) ⟨x,y,_,rfl,rfl,x0,y0,rfl⟩ ?_ ?_
 ·rintro σ H2 ⟨u,v,z,rfl,rfl,u0,v0,eg⟩
  refine ⟨_,rfl,rfl,_,rfl,?_⟩
  walk_at "c" <;> intro c1
  ·have r0:=Int.emod_nonneg u (show v ≠ 0 by lia)
   have r1:=Int.emod_lt_of_pos u (show 0 < v by lia)
   refine ⟨_,rfl,_,rfl,_,_,rfl,rfl,(by lia),?_⟩
   walk_at "o"
   refine ⟨⟨v,u % v,_,rfl,rfl,v0,r0,?_⟩,?_⟩
   ·rw [← eg,Int.gcd_comm,gcd_mod]
   ·show (u % v).toNat < v.toNat
    lia
  ·subst c1
   rw [Int.gcd_zero_right] at eg
   refine ⟨_,rfl,?_⟩
   rw [← eg] at q
   rw [show ((u.natAbs:Nat):Int) = u by lia] at q
   exact q
 ·rintro σ H2 Q1 Q2 hq ⟨v,e,e2,c,e3,h⟩
  exact ⟨v,e,e2,c,e3,hq _ _ h⟩
theorem ok_inverse_by {f:Addr} {fd:FuncData} (F:Fun K "inverse_by" "inverse_by" s_inverse_by f fd) (T:Txt K mg c) :FnOk P w K mg base CX0 1 f fd ["number", "bottom"] spInvB:=by
 refine F.ok sc_inverse_by (fun vs H Q E h=>?_) (fun cdv A outer s H vs Q E hr h=>?_)
 ·obtain ⟨N,B,rfl,_⟩:=h
  rfl
 obtain ⟨N,B,rfl,B1,B2,q⟩:=h
 refine ⟨_,(pss_cons (ps_set (i:=2) sc_inverse_by.nd rfl (Or.inl rfl) (pe_op op_mod (pv 0) (pv 1)))
  (pss_cons (ps_set (i:=3) sc_inverse_by.nd rfl (Or.inl rfl) (pv 1))
  (pss_cons (ps_set (i:=4) sc_inverse_by.nd rfl (Or.inl rfl) pe_int)
  (pss_cons (ps_set (i:=5) sc_inverse_by.nd rfl (Or.inl rfl) pe_int)
  (pss_cons (ps_while PassesOwn.never (pt_cmpR op_ne (pv 3) pe_int (nomark _))
   (pss_cons (ps_set (i:=6) sc_inverse_by.nd rfl (Or.inl rfl) (pe_op op_fdivB (pv 2) (pv 3)))
   (pss_cons (ps_set (i:=7) sc_inverse_by.nd rfl (Or.inl rfl) (pe_op op_sub (pv 2) (pe_op op_mulB (pv 6) (pv 3))))
   (pss_cons (ps_set (i:=8) sc_inverse_by.nd rfl (Or.inl rfl) (pe_op op_sub (pv 4) (pe_op op_mulB (pv 6) (pv 5))))
   (pss_cons (ps_set (i:=2) sc_inverse_by.nd rfl (Or.inl rfl) (pv 3))
   (pss_cons (ps_set (i:=4) sc_inverse_by.nd rfl (Or.inl rfl) (pv 5))
   (pss_cons (ps_set (i:=3) sc_inverse_by.nd rfl (Or.inl rfl) (pv 7))
   (pss_one (ps_set (i:=5) sc_inverse_by.nd rfl (Or.inl rfl) (pv 8))))))))))
  (pss_one (ps_ret (pe_op op_mod (pv 4) (pv 1))))))))),?_⟩
 refine ⟨_,rfl,_,rfl,_,_,rfl,rfl,(by lia),?_⟩
 walk_at "o"
 refine while_by (fun σ H2=>∃ (rest later wo lw:Int) (y1 y2 y3:Option V),σ = [some (.int N),some (.int B),some (.int rest),some (.int later),some (.int wo),some (.int lw),y1,y2,y3]∧H2 = H∧Ivs N B rest later wo lw) (fun σ _=>match σ with | [_,_,_,some (V.int v),_,_,_,_,_]=>v.toNat | _=>0) ⟨_,_,_,_,_,_,_,rfl,rfl,Ivs.start B1⟩ ?_ ?_
 ·rintro σ H2 ⟨rest,later,wo,lw,y1,y2,y3,rfl,rfl,iv⟩
  have l0:=iv.l0
  refine ⟨_,rfl,rfl,_,rfl,?_⟩
  walk_at "c" <;> intro c1
  ·obtain ⟨iv',lt⟩:=iv.next c1
   have ⟨r0,_,rB,lB,_,_,_,w0,w1,v0,v1,_⟩:=iv
   have lg:=log_small (m:=later) (by lia) (by lia)
   have q0:0≤rest / later:=Int.ediv_nonneg r0 l0
   have q1:rest / later≤rest:=Int.ediv_le_self _ r0
   refine ⟨_,rfl,_,rfl,_,_,rfl,rfl,⟨by lia,lg⟩,?_⟩
   walk_at "o"
   refine ⟨⟨_,_,_,_,_,_,_,rfl,rfl,iv'⟩,?_⟩
   show (rest - rest / later * later).toNat < later.toNat
   have:=iv'.l0
   lia
  ·subst c1
   refine ⟨_,rfl,_,rfl,_,_,rfl,rfl,(by lia),q _ (Int.emod_nonneg _ (by lia)) (Int.emod_lt_of_pos _ (by lia)) fun g=>iv.done g⟩
 ·rintro σ H2 Q1 Q2 hq ⟨v,e,e2,c,e3,h⟩
  exact ⟨v,e,e2,c,e3,hq _ _ h⟩
theorem ok_side_between {f:Addr} {fd:FuncData} (F:Fun K "side_between" "side_between" s_side_between f fd) (T:Txt K mg c) (H_common_divisor:Has P w K mg base 1 "common_divisor" ["a", "b"] spGcd) (H_inverse_by:Has P w K mg base 1 "inverse_by" ["number", "bottom"] spInvB):FnOk P w K mg base CX0 2 f fd ["one", "other"] spSide:=by
 refine F.ok sc_side_between (fun vs H Q E h=>?_) (fun cdv A outer s H vs Q E hr h=>?_)
 ·obtain ⟨p,p',x0,y0,x1,y1,rfl,_⟩:=h
  rfl
 obtain ⟨p,p',x0,y0,x1,y1,rfl,hp,hp',hx,hB,u0,u1,q⟩:=h
 refine ⟨_,(pss_cons (ps_set (i:=2) sc_side_between.nd rfl (Or.inl rfl) (pe_op op_sub (pe_ix ix_tup (pv 1) pe_int (fun _ _=>rfl)) (pe_ix ix_tup (pv 0) pe_int (fun _ _=>rfl))))
  (pss_cons (ps_set (i:=3) sc_side_between.nd rfl (Or.inl rfl) (pe_op op_sub (pe_ix ix_tup (pv 1) pe_int (fun _ _=>rfl)) (pe_ix ix_tup (pv 0) pe_int (fun _ _=>rfl))))
  (pss_cons (ps_set (i:=4) sc_side_between.nd rfl (Or.inl rfl) (pe_fn H_common_divisor (hr.mono (by lia)) rfl (pa_cons (pv 2) (pa_cons (pe_callB call_abs rfl T.n_abs boot_abs (pa_cons (pv 3) pa_nil)) pa_nil))))
  (pss_cons (ps_set (i:=5) sc_side_between.nd rfl (Or.inl rfl) (pe_op op_fdivB (pv 2) (pv 4)))
  (pss_cons (ps_set (i:=6) sc_side_between.nd rfl (Or.inl rfl) (pe_op op_fdivB (pv 3) (pv 4)))
  (pss_cons (ps_set (i:=7) sc_side_between.nd rfl (Or.inl rfl) (pe_op op_mod (pe_un un_neg (pe_fn H_inverse_by (hr.mono (by lia)) rfl (pa_cons (pv 6) (pa_cons (pv 5) pa_nil)))) (pv 5)))
  (pss_one (ps_ret (pe_tup (pa_consN (pe_ix ix_tup (pv 0) pe_int (fun _ _=>rfl)) (pa_consN (pe_ix ix_tup (pv 0) pe_int (fun _ _=>rfl)) (pa_consN (pv 4) (pa_consN (pv 5) (pa_consN (pv 6) (pa_consN (pv 7) (pa_consN (pe_op op_fdivB (pe_op op_add (pe_op op_mulB (pv 6) (pv 7)) pe_int) (pv 5)) pa_nil)))))))))))))))),?_⟩
 refine ⟨_,rfl,p',_,_,_,rfl,rfl,SqT.of hp',rfl,_,rfl,p,_,_,_,rfl,rfl,SqT.of hp,rfl,_,_,rfl,rfl,?_⟩
 refine ⟨_,rfl,p',_,_,_,rfl,rfl,SqT.of hp',rfl,_,rfl,p,_,_,_,rfl,rfl,SqT.of hp,rfl,_,_,rfl,rfl,?_⟩
 have ab:(if y1 - y0 < 0 then -(y1 - y0) else y1 - y0) = ((y1 - y0).natAbs:Int):=by split <;> lia
 refine ⟨_,rfl,_,rfl,_,rfl,?_⟩
 dsimp only
 rw [ab]
 refine ⟨_,_,rfl,by lia,by lia,?_⟩
 have pr:=side_pre hx (y0:=y0) (y1:=y1) rfl
 have so:=fun r h=>side_ok (r:=r) hx (y0:=y0) (y1:=y1) rfl h
 generalize ((Int.gcd (x1 - x0) ((y1 - y0).natAbs:Int):Nat):Int) = g at pr so ⊢
 obtain ⟨g1,g2,e1,e2,k0,k1,co,_,_⟩:=pr
 have lg:=log_small (m:=g) (by lia) (by lia)
 have le:=log_small (m:=(x1 - x0) / g) (by lia) (by lia)
 refine ⟨_,rfl,_,rfl,_,_,rfl,rfl,⟨by lia,lg⟩,?_⟩
 refine ⟨_,rfl,_,rfl,_,_,rfl,rfl,⟨by lia,lg⟩,?_⟩
 refine ⟨_,rfl,_,rfl,_,_,rfl,e1,by lia,fun r r0 r1 hd=>?_⟩
 have so:=so r hd
 have t0:=Int.emod_nonneg (-r) (show (x1 - x0) / g ≠ 0 by lia)
 have t1:=Int.emod_lt_of_pos (-r) (show 0 < (x1 - x0) / g by lia)
 refine ⟨_,rfl,_,rfl,_,_,rfl,rfl,by lia,?_⟩
 refine ⟨_,rfl,p,_,_,_,rfl,rfl,SqT.of hp,rfl,_,rfl,p,_,_,_,rfl,rfl,SqT.of hp,rfl,?_⟩
 walk_at "o"
 exact fun l hl=>q l _ hl so
theorem ok_height {f:Addr} {fd:FuncData} (F:Fun K "height" "height" s_height f fd) (T:Txt K mg c) (H_need_line:HasY P w K mg base 4 "need_line" ["n", "m", "a", "b"] (spNL c)):FnOk P w K mg base (CX2 P w base) 5 f fd ["n", "m", "a", "b", "x"] (spHt c):=by
 refine Fun.okY F sc_height (fun vs H Q E h=>?_) (fun cdv A outer s H vs Q E hr h=>?_)
 ·obtain ⟨n,m,a,b,rfl,_⟩:=h
  rfl
 obtain ⟨n,m,a,b,rfl,t1,t2,t3,t4,q1,q2⟩:=h
 refine ⟨_,(pss_cons (ps_expr (pe_fnYX H_need_line (hr.mono (by lia)) rfl (pa_cons (pv 0) (pa_cons (pv 1) (pa_cons (pv 2) (pa_cons (pv 3) pa_nil))))))
  (pss_one (ps_ret (pe_op op_fdivB (pe_op op_add (pe_op op_mulB (pv 1) (pv 4)) (pv 2)) (pv 3))))),?_⟩
 refine ⟨_,rfl,_,rfl,_,rfl,_,rfl,_,_,_,_,rfl,t1,t2,t3,t4,q1,fun h=>?_⟩
 obtain ⟨n,m,a,b,rfl,rfl,rfl,rfl,L⟩:=vLine_none h
 obtain ⟨n0,n1,m0,m1,a0,a1,b0,b1⟩:=L
 have lg:=log_small (m:=b) (by lia) (by lia)
 exact ⟨_,rfl,_,rfl,_,_,rfl,rfl,⟨b200 (by lia) (by lia),b200 (by decide) (by decide)⟩,_,rfl,_,_,rfl,rfl,_,rfl,_,_,rfl,rfl,⟨by lia,lg⟩,q2 h _ _ (Same.refl _)⟩
theorem ok_falls {f:Addr} {fd:FuncData} (F:Fun K "falls" "falls" s_falls f fd) (T:Txt K mg c) (H_need_line:HasY P w K mg base 4 "need_line" ["n", "m", "a", "b"] (spNL c)) (H_fall_rows:Has P w K mg base 1 "fall_rows" ["n", "m", "a", "b"] spFall):FnOk P w K mg base (CX2 P w base) 5 f fd ["n", "m", "a", "b"] (spL4 c):=by
 refine Fun.okY F sc_falls (fun vs H Q E h=>?_) (fun cdv A outer s H vs Q E hr h=>?_)
 ·obtain ⟨n,m,a,b,rfl,_⟩:=h
  rfl
 obtain ⟨n,m,a,b,rfl,t1,t2,t3,t4,q1,q2⟩:=h
 refine ⟨_,(pss_cons (ps_expr (pe_fnYX H_need_line (hr.mono (by lia)) rfl (pa_cons (pv 0) (pa_cons (pv 1) (pa_cons (pv 2) (pa_cons (pv 3) pa_nil))))))
  (pss_one (ps_ret (pe_fn H_fall_rows (hr.mono (by lia)) rfl (pa_cons (pv 0) (pa_cons (pv 1) (pa_cons (pv 2) (pa_cons (pv 3) pa_nil)))))))),?_⟩
 refine ⟨_,rfl,_,rfl,_,rfl,_,rfl,_,_,_,_,rfl,t1,t2,t3,t4,q1,fun h=>?_⟩
 obtain ⟨n,m,a,b,rfl,rfl,rfl,rfl,L⟩:=vLine_none h
 obtain ⟨n0,n1,m0,m1,a0,a1,b0,b1⟩:=L
 exact ⟨_,rfl,_,rfl,_,rfl,_,rfl,n,m,a,b,rfl,⟨n0,n1,by lia,by lia,by lia,by lia,b0,b1⟩,fun l rs xl H' _ _ _ s'=>q2 h _ _ s'⟩
theorem ok_corners {f:Addr} {fd:FuncData} (F:Fun K "corners" "corners" s_corners f fd) (T:Txt K mg c) (H_need_line:HasY P w K mg base 4 "need_line" ["n", "m", "a", "b"] (spNL c)) (H_corner_points:Has P w K mg base 3 "corner_points" ["n", "m", "a", "b"] spCrn):FnOk P w K mg base (CX2 P w base) 5 f fd ["n", "m", "a", "b"] (spL4 c):=by
 refine Fun.okY F sc_corners (fun vs H Q E h=>?_) (fun cdv A outer s H vs Q E hr h=>?_)
 ·obtain ⟨n,m,a,b,rfl,_⟩:=h
  rfl
 obtain ⟨n,m,a,b,rfl,t1,t2,t3,t4,q1,q2⟩:=h
 refine ⟨_,(pss_cons (ps_expr (pe_fnYX H_need_line (hr.mono (by lia)) rfl (pa_cons (pv 0) (pa_cons (pv 1) (pa_cons (pv 2) (pa_cons (pv 3) pa_nil))))))
  (pss_one (ps_ret (pe_fn H_corner_points (hr.mono (by lia)) rfl (pa_cons (pv 0) (pa_cons (pv 1) (pa_cons (pv 2) (pa_cons (pv 3) pa_nil)))))))),?_⟩
 refine ⟨_,rfl,_,rfl,_,rfl,_,rfl,_,_,_,_,rfl,t1,t2,t3,t4,q1,fun h=>?_⟩
 obtain ⟨n,m,a,b,rfl,rfl,rfl,rfl,L⟩:=vLine_none h
 obtain ⟨n0,n1,m0,m1,a0,a1,b0,b1⟩:=L
 exact ⟨_,rfl,_,rfl,_,rfl,_,rfl,n,m,a,b,rfl,⟨n0,n1,by lia,by lia,by lia,by lia,b0,b1⟩,fun l zs H' _ _ _ s'=>q2 h _ _ s'⟩
theorem ok_paper {f:Addr} {fd:FuncData} (F:Fun K "paper" "paper" s_paper f fd) (T:Txt K mg c) (H_need_line:HasY P w K mg base 4 "need_line" ["n", "m", "a", "b"] (spNL c)) (H_corner_points:Has P w K mg base 3 "corner_points" ["n", "m", "a", "b"] spCrn) (H_side_between:Has P w K mg base 2 "side_between" ["one", "other"] spSide):FnOk P w K mg base (CX2 P w base) 5 f fd ["n", "m", "a", "b"] (spL4 c):=by
 refine Fun.okY F sc_paper (fun vs H Q E h=>?_) (fun cdv A outer s H vs Q E hr h=>?_)
 ·obtain ⟨n,m,a,b,rfl,_⟩:=h
  rfl
 obtain ⟨n,m,a,b,rfl,t1,t2,t3,t4,q1,q2⟩:=h
 refine ⟨_,(pss_cons (ps_expr (pe_fnYX H_need_line (hr.mono (by lia)) rfl (pa_cons (pv 0) (pa_cons (pv 1) (pa_cons (pv 2) (pa_cons (pv 3) pa_nil))))))
  (pss_cons (ps_set (i:=4) sc_paper.nd rfl (Or.inr rfl) (pe_fn H_corner_points (hr.mono (by lia)) rfl (pa_cons (pv 0) (pa_cons (pv 1) (pa_cons (pv 2) (pa_cons (pv 3) pa_nil))))))
  (pss_one (ps_ret (pe_compC [4] ["points"] rfl (by first | rfl | with_unfolding_all rfl) (by rfl) (by exact (List.forall_mem_cons.mpr ⟨rfl,(fun _ h=>nomatch h)⟩)) (by decide +kernel) rfl (by decide +kernel) rfl (by decide +kernel) (by exact (List.forall_mem_cons.mpr ⟨⟨by first | exact Or.inl rfl | exact Or.inr rfl,rfl⟩,(fun _ h=>nomatch h)⟩)) rfl (by rfl) (pi_range1 rfl T.n_range (pa_cons (pe_op op_sub (pe_callB call_len_seq rfl T.n_len boot_len (pa_cons (pv 4) pa_nil)) pe_int) pa_nil)) (fun C s2 H2 fp=>(pe_fn H_side_between (hr.mono (by lia)) rfl (pa_cons (pe_ix (ix_listK (K:=K) rfl) (pv 1) (pv 0) (fun _ _=>rfl)) (pa_cons (pe_ix (ix_listK (K:=K) rfl) (pv 1) (pe_op op_add (pv 0) pe_int) (fun _ _=>rfl)) pa_nil))))))))),?_⟩
 have L1000:(1000:Nat)≤sizeLine:=by decide
 refine ⟨_,rfl,_,rfl,_,rfl,_,rfl,_,_,_,_,rfl,t1,t2,t3,t4,q1,fun h=>?_⟩
 obtain ⟨n,m,a,b,rfl,rfl,rfl,rfl,L⟩:=vLine_none h
 have q:=q2 h
 have ⟨n0,n1,m0,m1,a0,a1,b0,b1⟩:=L
 refine ⟨_,rfl,_,rfl,_,rfl,_,rfl,n,m,a,b,rfl,⟨n0,n1,by lia,by lia,by lia,by lia,b0,by lia⟩,fun l zs H1 l0 al cr s1=>?_⟩
 obtain ⟨ps,hp,pl⟩:=al
 have pn:=pl.1
 rw [List.length_map] at pn
 have zl:=cr.2.2.2
 have z2:1≤zs.length:=by
  have h0:=cr.2.1
  cases zs with
  | nil=>cases h0
  | cons u t=>rw [List.length_cons]; lia
 refine ⟨_,rfl,l,_,rfl,.inl (SqL.of hp),_,_,rfl,rfl,_,rfl,(by rw [List.length_map]; lia),(by rw [List.length_map]; lia),fun D hD=>?_⟩
 have rl:((((ps.map V.ref).length:Nat):Int) - 1).toNat = zs.length - 1:=by rw [List.length_map]; lia
 rw [rl]
 refine comp_rng (fun j HJ=>∃ qs:List V,HJ D = some (.lst qs)∧qs.length = j∧Same H1 HJ) ⟨[],upd_same,rfl,same_new hD _⟩ ?_ ?_
 ·rintro j HJ hj ⟨qs,hq,dl,sJ⟩
  have hpJ:=sJ _ _ hp
  have get:∀ i:Nat,i < zs.length→∃ z p,zs[i]? = some z∧ps[i]? = some p∧H1 p = some (.tup (i2 (z,hgt m a b z))):=fun i hi=>by
   have e:zs[i]? = some (zs[i]'hi):=List.getElem?_eq_getElem _
   obtain ⟨p,e2,e3⟩:=pl.get (i:=i) (x:=(zs[i]'hi,hgt m a b (zs[i]'hi))) (by rw [List.getElem?_map,e]; rfl)
   exact ⟨_,p,e,e2,e3⟩
  obtain ⟨u,p1,eu,ep1,hp1⟩:=get j (by lia)
  obtain ⟨v,p2,ev,ep2,hp2⟩:=get (j + 1) (by lia)
  have uv:=(cr.1.inc j u v eu ev).1
  have ru:=cr.rg u (List.mem_of_getElem? eu)
  have rv:=cr.rg v (List.mem_of_getElem? ev)
  have hu:=hgt_bd L ru.1 ru.2
  have hv:=hgt_bd L rv.1 rv.2
  have a1:atI (ps.map V.ref) (0 + (j:Int)) = some (.ref p1):=by rw [Int.zero_add]; exact atI_nat (by rw [List.getElem?_map,ep1]; rfl)
  have a2:atI (ps.map V.ref) (0 + (j:Int) + 1) = some (.ref p2):=by rw [Int.zero_add]; exact atI_nat (j:=j + 1) (by rw [List.getElem?_map,ep2]; rfl)
  refine ⟨_,rfl,_,rfl,l,_,_,_,rfl,rfl,SqL.of hpJ,a1,_,rfl,_,rfl,_,_,rfl,rfl,l,_,_,_,rfl,rfl,SqL.of hpJ,a2,?_⟩
  refine ⟨p1,p2,_,_,_,_,rfl,sJ _ _ hp1,sJ _ _ hp2,uv,by lia,by lia,by lia,fun r d hr' sd=>?_⟩
  have sM:=same_new hr' (.tup (sdv d))
  exact ⟨_,sM _ _ hq,(by lia),_,(show zs.length - 1 - (j + 1) < _ by lia),rfl,(by lia),_,upd_same,(by rw [List.length_append,List.length_singleton]; lia),Same.updL (sJ.trans sM) hD⟩
 ·rintro HJ ⟨ds,al,dl,sJ⟩
  exact q _ HJ (s1.trans sJ)
theorem ok_is_seven {f:Addr} {fd:FuncData} (F:Fun K "is_seven" "is_seven" s_is_seven f fd) (T:Txt K mg c) :FnOk P w K mg base CX0 1 f fd ["thing"] spNever:=by
 refine F.ok sc_is_seven (fun vs H Q E h=>?_) (fun cdv A outer s H vs Q E hr h=>?_)
 ·obtain ⟨x,rfl,_⟩:=h
  rfl
 obtain ⟨x,rfl,z⟩:=h
 exact z.elim
theorem ok_is_paper {f:Addr} {fd:FuncData} (F:Fun K "is_paper" "is_paper" s_is_paper f fd) (T:Txt K mg c) (H_need_line:HasY P w K mg base 4 "need_line" ["n", "m", "a", "b"] (spNL c)) (H_is_seven:Has P w K mg base 1 "is_seven" ["thing"] spNever):FnOk P w K mg base (CX2 P w base) 5 f fd ["n", "m", "a", "b", "thing"] (spIsP c):=by
 refine Fun.okY F sc_is_paper (fun vs H Q E h=>?_) (fun cdv A outer s H vs Q E hr h=>?_)
 ·obtain ⟨n,m,a,b,l,rfl,_⟩:=h
  rfl
 obtain ⟨n,m,a,b,l,rfl,hl,t1,t2,t3,t4,q1,q2⟩:=h
 refine ⟨_,(pss_cons (ps_expr (pe_fnYX H_need_line (hr.mono (by lia)) rfl (pa_cons (pv 0) (pa_cons (pv 1) (pa_cons (pv 2) (pa_cons (pv 3) pa_nil)))))) (pss_cons (ps_if (PW.pt (pw_or (pt_not (pt_val (pe_callB call_isinst rfl T.n_isinstance boot_isinstance (pa_cons (pv 4) (pa_cons (pe_ty rfl T.n_list boot_list) pa_nil))))) (pw_or1 (pt_not (pt_val (pe_callB (call_all_bl rfl) rfl T.n_all boot_all (pa_cons (pe_comp0 rfl (by first | rfl | with_unfolding_all rfl) (by decide +kernel) rfl (by decide +kernel) rfl (pi_list (pv 4)) (fun C s2 H2 fp=>(pe_fn H_is_seven (hr.mono (by lia)) rfl (pa_cons (pv 0) pa_nil)))) pa_nil)))))))
   (pss_one (ps_ret pe_bl))
   pss_nil) (pss_cons (ps_if (PW.pt (pw_or (pt_cmpR op_eq (pv 0) pe_int (nomark _)) (pw_or1 (pt_cmpR (op_eq0 (Nat.lt_of_succ_lt (hu_of hr))) (pv 4) (pe_lst pa_nil) (nomark _)))))
   (pss_one (ps_ret (pe_and (pe_cmpR op_eq (pv 0) pe_int (nomark _)) (pe_one (pe_cmpR (op_eq0 (Nat.lt_of_succ_lt (hu_of hr))) (pv 4) (pe_lst pa_nil) (nomark _))))))
   pss_nil) pss_never))),?_⟩
 refine ⟨_,rfl,_,rfl,_,rfl,_,rfl,_,_,_,_,rfl,t1,t2,t3,t4,q1,fun h=>?_⟩
 obtain ⟨n,m,a,b,rfl,rfl,rfl,rfl,L⟩:=vLine_none h
 have q:=q2 h
 refine ⟨_,rfl,_,_,_,_,_,rfl,rfl,TyOf.lst hl,rfl,_,rfl,iteF ?_⟩
 refine ⟨_,rfl,l,rfl,⟨_,SqL.of hl⟩,fun D hD=>?_⟩
 refine comp_list (xs:=[]) (fun j HJ=>HJ D = some (.lst (([]:List Bool).map V.bl))∧Same H HJ) ⟨upd_same,same_new hD _⟩ (fun j HJ hj z=>SqL.of (z.2 _ _ hl)) (fun j v HJ hv z=>by cases hv) ?_
 rintro H1 ⟨hy,s1⟩
 refine ⟨D,_,rfl,SqL.of hy,_,rfl,iteF ?_⟩
 refine ⟨_,rfl,rfl,_,rfl,?_⟩
 walk_at "c" <;> intro c0
 ·refine ⟨_,rfl,rfl,_,rfl,?_⟩
  refine iteD (c:=V.int n = V.int 0) (by rw [c0]) ⟨_,rfl,(by show 0≤sizeLine; decide),fun l0 hl0=>?_⟩
  have s2:=same_new hl0 (.lst [])
  exact ⟨l,l0,[],rfl,rfl,SqL.of ((s1.trans s2) _ _ hl),SqL.of upd_same,q _ _ (s1.trans s2)⟩
 ·refine ⟨_,rfl,(by show 0≤sizeLine; decide),fun l0 hl0=>?_⟩
  have s2:=same_new hl0 (.lst [])
  refine ⟨l,l0,[],rfl,rfl,SqL.of ((s1.trans s2) _ _ hl),SqL.of upd_same,_,rfl,iteT ?_⟩
  exact ⟨_,rfl,rfl,_,rfl,iteDN (c:=V.int n = V.int 0) (fun z=>c0 (by injection z)) (q _ _ (s1.trans s2))⟩
abbrev lm:Expr:=kwlAt s_greatest_miss 0
abbrev lmQ:Str:=("greatest_miss":Str) ++ ".<locals>." ++ "<lambda>"
abbrev clOf (n:Nat):List (Str × Addr):=[("top",n + 1),("bottom",n + 1 + 1)]
abbrev TO (PT:Addr) (H:Hp):Prop:=TabOk PT (lamP lm) lmQ H
def glow (M B:Int):Int:=((Int.gcd M B:Nat):Int)
theorem gl1 {M B:Int} (B1:1≤B):((Int.gcd (if M < 0 then -M else M) (if B < 0 then -B else B):Nat):Int) = glow M B:=by
 rw [if_neg (show ¬ B < 0 by lia)]
 unfold glow
 split
 ·rw [Int.neg_gcd]
 ·rfl
theorem glow_b {M B:Int} (B1:1≤B):1≤glow M B∧glow M B≤B∧glow M B ∣ M∧glow M B ∣ B:=by
 have gp:0 < Int.gcd M B:=Int.gcd_pos_of_ne_zero_right _ (by lia)
 have d:glow M B ∣ B:=Int.gcd_dvd_right ..
 refine ⟨by unfold glow; lia,Int.le_of_dvd (by lia) d,Int.gcd_dvd_left ..,d⟩
def numL (M B:Int):Int:=M / glow M B
def denL (M B:Int):Int:=B / glow M B
def spFr:Sp:=fun vs H Q _=>∃ M B:Int,vs = [.int M,.int B]∧1≤B∧B≤2 ^ 70∧∀ r,H r = none→Q (.ref r) (upd H r (.tup [.int (numL M B),.int (denL M B)]))
theorem ok_fraction {f:Addr} {fd:FuncData} (F:Fun K "fraction" "fraction" s_fraction f fd) (T:Txt K mg c) (H_common_divisor:Has P w K mg base 1 "common_divisor" ["a", "b"] spGcd) (H_is_whole:Has P w K mg base 1 "is_whole" ["thing"] spWh1):FnOk P w K mg base CX0 2 f fd ["top", "bottom"] spFr:=by
 refine F.ok sc_fraction (fun vs H Q E h=>?_) (fun cdv A outer s H vs Q E hr h=>?_)
 ·obtain ⟨M,B,rfl,_⟩:=h
  rfl
 obtain ⟨M,B,rfl,B1,B2,q⟩:=h
 refine ⟨_,(pss_cons (ps_if (PW.pt (pw_or (pt_not (pt_val (pe_fn H_is_whole (hr.mono (by lia)) rfl (pa_cons (pv 0) pa_nil)))) (pw_or (pt_not (pt_val (pe_fn H_is_whole (hr.mono (by lia)) rfl (pa_cons (pv 1) pa_nil)))) (pw_or1 (pt_cmpR op_eq (pv 1) pe_int (nomark _))))))
   (pss_one ps_never)
   pss_nil)
  (pss_cons (ps_set (i:=2) sc_fraction.nd rfl (Or.inl rfl) (pe_fn H_common_divisor (hr.mono (by lia)) rfl (pa_cons (pe_callB call_abs rfl T.n_abs boot_abs (pa_cons (pv 0) pa_nil)) (pa_cons (pe_callB call_abs rfl T.n_abs boot_abs (pa_cons (pv 1) pa_nil)) pa_nil))))
  (pss_cons (ps_if (pt_cmpR op_lt (pv 1) pe_int (nomark _))
   (pss_one (ps_set (i:=2) sc_fraction.nd rfl (Or.inl rfl) (pe_un un_neg (pv 2))))
   pss_nil)
  (pss_one (ps_ret (pe_tup (pa_cons (pe_op op_fdivB (pv 0) (pv 2)) (pa_cons (pe_op op_fdivB (pv 1) (pv 2)) pa_nil)))))))),?_⟩
 have gb:=glow_b (M:=M) B1
 refine ⟨_,rfl,M,rfl,_,rfl,iteF ?_⟩
 refine ⟨_,rfl,B,rfl,_,rfl,iteF ?_⟩
 refine ⟨_,rfl,rfl,_,rfl,iteDN (c:=V.int B = V.int 0) (by intro z; injection z with z; lia) ?_⟩
 refine ⟨_,rfl,_,rfl,_,rfl,_,rfl,?_⟩
 have lg:=log_small (m:=glow M B) (by lia) (by lia)
 refine ⟨_,_,rfl,(by split <;> lia),(by split <;> lia),?_⟩
 rw [gl1 B1]
 refine ⟨_,rfl,_,_,rfl,rfl,_,rfl,iteDN (by lia) ?_⟩
 refine ⟨_,rfl,_,rfl,_,_,rfl,rfl,⟨by lia,lg⟩,_,rfl,_,rfl,_,_,rfl,rfl,⟨by lia,lg⟩,(by show 2≤sizeLine; decide),fun r hr'=>q r hr'⟩
def vOf (t B:Int) (p:Int × Int):Int:=p.2 * B - p.1 * t
structure Bst (ps:List (Int × Int)) (t B M z:Int):Prop where
 ex:∃ (i:Nat) (p:Int × Int),ps[i]? = some p∧p.1 = z∧vOf t B p = M∧∀ (j:Nat) q,ps[j]? = some q→vOf t B q≤M∧(j < i→vOf t B q < M)
structure MissAt (H:Hp) (r:Addr) (M z B:Int):Prop where
 ex:∃ rf,H r = some (.tup [.ref rf,.int z])∧H rf = some (.tup [.int (numL M B),.int (denL M B)])
structure GmOk (n m a b t B:Int):Prop where
 n0:0≤n
 n1:n≤1099511627776
 m0:-99999999999999999999≤m
 m1:m≤99999999999999999999
 a0:-2 ^ 70≤a
 a1:a≤2 ^ 70
 b0:1≤b
 b1:b≤99999999999999999999
 t0:-99999999999999999999≤t
 t1:t≤99999999999999999999
 B0:1≤B
 B1:B≤99999999999999999999
theorem hgt_bd2 {n m a b x t B:Int} (L:GmOk n m a b t B) (x0:0≤x) (xn:x≤n):-(2 ^ 110)≤hgt m a b x∧hgt m a b x≤2 ^ 110:=by
 obtain ⟨n0,n1,m0,m1,a0,a1,b0,b1,_⟩:=L
 have mb:=mbd (B:=99999999999999999999) m0 m1 x0 (Int.le_trans xn n1)
 unfold hgt
 have e1:-(2 ^ 110) * b≤-(2 ^ 110) * 1:=Int.mul_le_mul_of_nonpos_left (by decide) (by lia)
 have e2:(2 ^ 110:Int) * 1≤(2 ^ 110) * b:=Int.mul_le_mul_of_nonneg_left (by lia) (by decide)
 constructor
 ·exact Int.le_ediv_of_mul_le (by lia) (by lia)
 ·exact Int.ediv_le_of_le_mul (by lia) (by lia)
def spGM (PT:Addr):Sp:=fun vs H Q _=>∃ n m a b t B:Int,vs = [.int n,.int m,.int a,.int b,.int t,.int B]∧GmOk n m a b t B∧TO PT H∧∀ (r:Addr) (zs:List Int) (M z:Int) H',H r = none→MissAt H' r M z B→Crn m a b n zs→Bst (pts m a b zs) t B M z→SameX PT H H'→TO PT H'→Q (.ref r) H'
theorem toTup {PT r:Addr} {H H':Hp} {xs:List V} (b:H r = some (.tup xs)) (x:TO PT H) (s:SameX PT H H'):H' r = some (.tup xs):=by
 obtain ⟨ps,e,t,z⟩:=x
 exact s _ _ (fun q=>by rw [q,e] at b; cases b) b
theorem toNone {PT r:Addr} {H H':Hp} (x:TO PT H) (s:SameX PT H H') (x':TO PT H') (n:H' r = none):H r = none:=by
 cases e:H r with
 | none=>rfl
 | some o =>
  by_cases c:r = PT
  ·obtain ⟨ps,e',_⟩:=x'
   rw [c,e'] at n
   cases n
  ·rw [s _ _ c e] at n
   cases n
theorem ok_greatest_miss {f:Addr} {fd:FuncData} (F:Fun K "greatest_miss" "greatest_miss" s_greatest_miss f fd) (T:Txt K mg c) (H_corner_points:Has P w K mg base 3 "corner_points" ["n", "m", "a", "b"] spCrn) (H_fraction:Has P w K mg base 2 "fraction" ["top", "bottom"] spFr) (B:LamBase mg base cT PT) (hcd:fd.code = .ref cT):FnOk P w K mg base CX0 4 f fd ["n", "m", "a", "b", "top", "bottom"] (spGM PT):=by
 refine F.okC hcd sc_greatest_miss (fun vs H Q E h=>?_) (fun A outer s H vs Q E hr h=>?_)
 ·obtain ⟨n,m,a,b,t,B',rfl,_⟩:=h
  rfl
 obtain ⟨n,m,a,b,t,BB,rfl,L,to,q⟩:=h
 have hsub:∀ p ∈ clOf s.heap.objs.size,(cxOf CX0 P w K mg base ["n", "m", "a", "b", "top", "bottom", "best"] "greatest_miss" (defScope s_greatest_miss) f (.ref cT) A outer s H E).nox.env.cells.lookup p.1 = some p.2:=List.forall_mem_cons.mpr ⟨rfl,List.forall_mem_cons.mpr ⟨rfl,fun _ h=>nomatch h⟩⟩
 refine ⟨_,(pss_cons (ps_set (i:=6) sc_greatest_miss.nd rfl (Or.inl rfl) (pe_maxKey (k:=0) (x:="point") (y0:="bottom") (y1:="top") (j0:=5) (j1:=4) (qual:=lmQ) (cl:=clOf s.heap.objs.size) rfl (hr.mono (by lia)) (fun _=>rfl) rfl T.n_max (pe_fn H_corner_points (hr.mono (by lia)) rfl (pa_cons (pv 0) (pa_cons (pv 1) (pa_cons (pv 2) (pa_cons (pv 3) pa_nil))))) (pe_lam (qual:=lmQ) (cl:=clOf s.heap.objs.size) B rfl rfl rfl) rfl rfl rfl rfl ⟨_,rfl⟩ ⟨_,rfl⟩ (fun x c e=>hsub (x,c) (PySem.mem_of_lookup e)) (fun _ _ _ _=>rfl) rfl rfl (by decide +kernel) rfl rfl (by decide +kernel) (free_has (ns:=["top", "bottom"]) rfl (by decide +kernel)) (fun f c' s H=>(pe_op op_sub (pe_op op_mulB (pe_ix (ix_tupK (K:=K) rfl) (pv 0) pe_int (fun _ _=>rfl)) (pv 1)) (pe_op op_mulB (pe_ix (ix_tupK (K:=K) rfl) (pv 0) pe_int (fun _ _=>rfl)) (pv 2))))))
  (pss_one (ps_ret (pe_tup (pa_cons (pe_fn H_fraction (hr.mono (by lia)) rfl (pa_cons (pe_op op_sub (pe_op op_mulB (pe_ix ix_tup (pv 6) pe_int (fun _ _=>rfl)) (pv 5)) (pe_op op_mulB (pe_ix ix_tup (pv 6) pe_int (fun _ _=>rfl)) (pv 4))) (pa_cons (pv 5) pa_nil))) (pa_cons (pe_ix ix_tup (pv 6) pe_int (fun _ _=>rfl)) pa_nil)))))),?_⟩
 have ⟨n0,n1,m0,m1,a0,a1,b0,b1,t0,t1,B0,B1⟩:=L
 refine ⟨_,rfl,_,rfl,_,rfl,_,rfl,n,m,a,b,rfl,⟨n0,n1,by lia,by lia,by lia,by lia,b0,b1⟩,fun l zs H1 l0 al cr s1=>?_⟩
 obtain ⟨ps,hp,pl⟩:=al
 have pn:=pl.1
 rw [List.length_map] at pn
 have z1:0 < zs.length:=by
  have h0:=cr.2.1
  cases zs with
  | nil=>cases h0
  | cons u t=>simp
 let kf:Nat→Int:=fun i=>match zs[i]? with | some z=>vOf t BB (z,hgt m a b z) | none=>0
 have kfE:∀ i z,zs[i]? = some z→kf i = vOf t BB (z,hgt m a b z):=fun i z e=>by show (match zs[i]? with | some z=>_ | none=>_) = _; rw [e]
 have to1:=to.mono s1
 refine ⟨l,ps,kf,.int BB,.int t,rfl,hp,by lia,rfl,rfl,to1,fun H2 sx to2=>?_⟩
 have get:∀ i p,ps[i]? = some p→∃ z,zs[i]? = some z∧H2 p = some (.tup (i2 (z,hgt m a b z))):=fun i p ep=>by
  obtain ⟨zz,ez,hz⟩:=pl.get' ep
  rw [List.getElem?_map] at ez
  cases e:zs[i]? with
  | none=>rw [e] at ez; cases ez
  | some z =>
   rw [e] at ez
   cases ez
   exact ⟨z,e,toTup hz to1 sx⟩
 have bd:∀ i z,zs[i]? = some z→0≤z∧z≤n∧-(2 ^ 110)≤hgt m a b z∧hgt m a b z≤2 ^ 110:=fun i z e=>by
  have r:=cr.rg z (List.mem_of_getElem? e)
  have:=hgt_bd2 L r.1 r.2
  exact ⟨r.1,r.2,this.1,this.2⟩
 refine ⟨fun i p ep Q' hq=>?_,fun i p ep best=>?_⟩
 ·obtain ⟨z,ez,hz⟩:=get i p ep
  obtain ⟨r0,r1,r2,r3⟩:=bd i z ez
  rw [kfE i z ez] at hq
  exact ⟨_,rfl,p,_,_,_,rfl,rfl,SqT.of hz,rfl,_,rfl,_,_,rfl,rfl,⟨b200 (by lia) (by lia),b200 (by lia) (by lia)⟩,_,rfl,p,_,_,_,rfl,rfl,SqT.of hz,rfl,_,rfl,_,_,rfl,rfl,⟨b200 (by lia) (by lia),b200 (by lia) (by lia)⟩,_,_,rfl,rfl,hq⟩
 ·obtain ⟨z,ez,hz⟩:=get i p ep
  obtain ⟨r0,r1,r2,r3⟩:=bd i z ez
  refine ⟨_,rfl,p,_,_,_,rfl,rfl,SqT.of hz,rfl,_,rfl,_,_,rfl,rfl,⟨b200 (by lia) (by lia),b200 (by lia) (by lia)⟩,_,rfl,p,_,_,_,rfl,rfl,SqT.of hz,rfl,_,rfl,_,_,rfl,rfl,⟨b200 (by lia) (by lia),b200 (by lia) (by lia)⟩,_,_,rfl,rfl,_,rfl,?_⟩
  refine ⟨_,BB,rfl,B0,by lia,fun rf hrf=>?_⟩
  have s3:=same_new hrf (.tup [.int (numL (hgt m a b z * BB - z * t) BB),.int (denL (hgt m a b z * BB - z * t) BB)])
  refine ⟨_,rfl,p,_,_,_,rfl,rfl,SqT.of (s3 _ _ hz),rfl,(by show 2≤sizeLine; decide),fun r hr'=>?_⟩
  have s4:=same_new hr' (.tup [.ref rf,.int z])
  have S:SameX PT H _:=((SameX.of s1).trans sx).trans (SameX.of (s3.trans s4))
  refine q r zs (hgt m a b z * BB - z * t) z _ ?_ ⟨rf,upd_same,s4 _ _ upd_same⟩ cr ⟨i,(z,hgt m a b z),?_,rfl,rfl,fun j qq eq=>?_⟩ S (to2.mono (s3.trans s4))
  ·exact toNone to ((SameX.of s1).trans sx) to2 (Same.none s3 hr')
  ·unfold pts; rw [List.getElem?_map,ez]; rfl
  ·unfold pts at eq
   rw [List.getElem?_map] at eq
   cases ej:zs[j]? with
   | none=>rw [ej] at eq; cases eq
   | some z' =>
    rw [ej] at eq
    cases eq
    have jl:=(List.getElem?_eq_some_iff.mp ej).1
    have:=best j (by lia)
    rw [kfE i z ez,kfE j z' ej] at this
    exact this
def npts (m a b:Int) (zs:List Int):List (Int × Int):=zs.map fun x=>(x,-hgt m a b x)
theorem neg_hgt {m a b x:Int} (b0:0 < b):hgt (-m) (b - 1 - a) b x = -hgt m a b x:=by
 unfold hgt
 have e1:=Int.mul_ediv_add_emod (m * x + a) b
 have r0:=Int.emod_nonneg (m * x + a) (show b ≠ 0 by lia)
 have r1:=Int.emod_lt_of_pos (m * x + a) b0
 rw [Int.neg_mul]
 generalize (m * x + a) / b = q at *
 generalize (m * x + a) % b = r at *
 refine ediv_btw b0 ?_ ?_
 ·rw [Int.neg_mul,Int.mul_comm q b]; lia
 ·rw [Int.add_mul,Int.neg_mul,Int.mul_comm q b]; lia
theorem npts_eq {m a b:Int} (b0:0 < b) (zs:List Int):pts (-m) (b - 1 - a) b zs = npts m a b zs:=by
 unfold pts npts
 exact List.map_congr_left fun x _=>by rw [neg_hgt b0]
def spGL (PT:Addr):Sp:=fun vs H Q _=>∃ n m a b t B:Int,vs = [.int n,.int m,.int a,.int b,.int t,.int B]∧GmOk n m a b t B∧-99999999999999999999≤a∧a≤99999999999999999999∧TO PT H∧∀ (r:Addr) (zs:List Int) (M z:Int) H',H r = none→MissAt H' r M z B→Crn (-m) (b - 1 - a) b n zs→Bst (npts m a b zs) (-t) B M z→SameX PT H H'→TO PT H'→Q (.ref r) H'
theorem ok_greatest_lack {f:Addr} {fd:FuncData} (F:Fun K "greatest_lack" "greatest_lack" s_greatest_lack f fd) (T:Txt K mg c) (H_greatest_miss:Has P w K mg base 4 "greatest_miss" ["n", "m", "a", "b", "top", "bottom"] (spGM PT)):FnOk P w K mg base CX0 5 f fd ["n", "m", "a", "b", "top", "bottom"] (spGL PT):=by
 refine F.ok sc_greatest_lack (fun vs H Q E h=>?_) (fun cdv A outer s H vs Q E hr h=>?_)
 ·obtain ⟨n,m,a,b,t,B',rfl,_⟩:=h
  rfl
 obtain ⟨n,m,a,b,t,BB,rfl,L,a2,a3,to,q⟩:=h
 refine ⟨_,(pss_one (ps_ret (pe_fn H_greatest_miss (hr.mono (by lia)) rfl (pa_consN (pv 0) (pa_consN (pe_un un_neg (pv 1)) (pa_consN (pe_op op_sub (pe_op op_sub (pv 3) pe_int) (pv 2)) (pa_consN (pv 3) (pa_consN (pe_un un_neg (pv 4)) (pa_consN (pv 5) pa_nil))))))))),?_⟩
 have ⟨n0,n1,m0,m1,a0,a1,b0,b1,t0,t1,B0,B1⟩:=L
 refine ⟨_,rfl,_,rfl,_,rfl,_,rfl,_,_,rfl,rfl,_,rfl,_,_,rfl,rfl,_,rfl,_,rfl,_,rfl,_,rfl,n,-m,b - 1 - a,b,-t,BB,rfl,⟨n0,n1,by lia,by lia,by lia,by lia,b0,b1,by lia,by lia,B0,B1⟩,to,fun r zs M z H' h1 h2 h3 h4 h5 h6=>?_⟩
 rw [npts_eq (by lia)] at h4
 exact q r zs M z H' h1 h2 h3 h4 h5 h6
theorem PrOk.gm {w t b f ad tt:Int} (h:PrOk w t b f ad tt):GmOk (1 * 2 ^ w.toNat - 1) f ad (1 * 2 ^ tt.toNat) t b:=by
 have ⟨w0,w1,t0,t1,b0,b1,f0,f1,a0,a1,s0,s1⟩:=h
 have W1:=p32 w1
 have W0:=p16 w0
 have P0:=p_pos tt.toNat
 have P1:=p64 s1
 exact ⟨by lia,by lia,by lia,f1,by lia,by lia,by lia,by lia,by lia,t1,b0,b1⟩
def spGrY (c:Ad) (PT:Addr):Sp:=fun vs H Q E=>∃ n m a b t d:V,vs = [n,m,a,b,t,d]∧Th H n∧Th H m∧Th H a∧Th H b∧Th H t∧Th H d∧TO PT H∧(∀ z,vGr n m a b t d = some z→EXP c z H E)∧(vGr n m a b t d = none→∀ v H',SameX PT H H'→TO PT H'→Q v H')
def spMOY (c:Ad) (PT:Addr):Sp:=fun vs H Q E=>∃ w t b f ad tt:V,vs = [w,t,b,f,ad,tt]∧Th H w∧Th H t∧Th H b∧Th H f∧Th H ad∧Th H tt∧TO PT H∧(∀ z,vProd w t b f ad tt = some z→EXP c z H E)∧(vProd w t b f ad tt = none→∀ v H',SameX PT H H'→TO PT H'→Q v H')
theorem gm_of {n m a b t d:Int} (L:LnOk n m a b) (t0:-99999999999999999999≤t) (t1:t≤99999999999999999999) (d0:1≤d) (d1:d≤99999999999999999999):GmOk n m a b t d:=by
 obtain ⟨n0,n1,m0,m1,a0,a1,b0,b1⟩:=L
 exact ⟨n0,n1,m0,m1,by lia,by lia,b0,b1,t0,t1,d0,d1⟩
theorem ok_greatest {f:Addr} {fd:FuncData} (F:Fun K "greatest" "greatest" s_greatest f fd) (T:Txt K mg c) (H_need_line:HasY P w K mg base 4 "need_line" ["n", "m", "a", "b"] (spNL c)) (H_need_fraction:HasY P w K mg base 4 "need_fraction" ["top", "bottom"] (spNF c)) (H_greatest_miss:Has P w K mg base 4 "greatest_miss" ["n", "m", "a", "b", "top", "bottom"] (spGM PT)):FnOk P w K mg base (CX2 P w base) 5 f fd ["n", "m", "a", "b", "top", "bottom"] (spGrY c PT):=by
 refine Fun.okY F sc_greatest (fun vs H Q E h=>?_) (fun cdv A outer s H vs Q E hr h=>?_)
 ·obtain ⟨n,m,a,b,t,d,rfl,_⟩:=h
  rfl
 obtain ⟨n,m,a,b,t,d,rfl,t1,t2,t3,t4,t5,t6,to,q1,q2⟩:=h
 refine ⟨_,(pss_cons (ps_expr (pe_fnYX H_need_line (hr.mono (by lia)) rfl (pa_cons (pv 0) (pa_cons (pv 1) (pa_cons (pv 2) (pa_cons (pv 3) pa_nil))))))
  (pss_cons (ps_expr (pe_fnYX H_need_fraction (hr.mono (by lia)) rfl (pa_cons (pv 4) (pa_cons (pv 5) pa_nil))))
  (pss_one (ps_ret (pe_fn H_greatest_miss (hr.mono (by lia)) rfl (pa_consN (pv 0) (pa_consN (pv 1) (pa_consN (pv 2) (pa_consN (pv 3) (pa_consN (pv 4) (pa_consN (pv 5) pa_nil))))))))))),?_⟩
 refine ⟨_,rfl,_,rfl,_,rfl,_,rfl,_,_,_,_,rfl,t1,t2,t3,t4,fun z hz=>q1 z (vGr_1 hz),fun h1=>?_⟩
 refine ⟨_,rfl,_,rfl,_,_,rfl,t5,t6,fun z hz=>q1 z ((vGr_2 h1).trans hz),fun h2=>?_⟩
 have q:=q2 ((vGr_2 h1).trans h2)
 obtain ⟨n,m,a,b,rfl,rfl,rfl,rfl,L⟩:=vLine_none h1
 obtain ⟨t,d,rfl,rfl,t0,t1',d0,d1⟩:=vFrac_none h2
 exact ⟨_,rfl,_,rfl,_,rfl,_,rfl,_,rfl,_,rfl,n,m,a,b,t,d,rfl,gm_of L t0 t1' d0 d1,to,fun r zs M z H' _ _ _ _ sx to'=>q _ _ sx to'⟩
theorem ok_least {f:Addr} {fd:FuncData} (F:Fun K "least" "least" s_least f fd) (T:Txt K mg c) (H_need_line:HasY P w K mg base 4 "need_line" ["n", "m", "a", "b"] (spNL c)) (H_need_fraction:HasY P w K mg base 4 "need_fraction" ["top", "bottom"] (spNF c)) (H_greatest_lack:Has P w K mg base 5 "greatest_lack" ["n", "m", "a", "b", "top", "bottom"] (spGL PT)):FnOk P w K mg base (CX2 P w base) 6 f fd ["n", "m", "a", "b", "top", "bottom"] (spGrY c PT):=by
 refine Fun.okY F sc_least (fun vs H Q E h=>?_) (fun cdv A outer s H vs Q E hr h=>?_)
 ·obtain ⟨n,m,a,b,t,d,rfl,_⟩:=h
  rfl
 obtain ⟨n,m,a,b,t,d,rfl,t1,t2,t3,t4,t5,t6,to,q1,q2⟩:=h
 refine ⟨_,(pss_cons (ps_expr (pe_fnYX H_need_line (hr.mono (by lia)) rfl (pa_cons (pv 0) (pa_cons (pv 1) (pa_cons (pv 2) (pa_cons (pv 3) pa_nil))))))
  (pss_cons (ps_expr (pe_fnYX H_need_fraction (hr.mono (by lia)) rfl (pa_cons (pv 4) (pa_cons (pv 5) pa_nil))))
  (pss_cons (ps_set (i:=6) sc_least.nd rfl (Or.inl rfl) (pe_fn H_greatest_lack (hr.mono (by lia)) rfl (pa_consN (pv 0) (pa_consN (pv 1) (pa_consN (pv 2) (pa_consN (pv 3) (pa_consN (pv 4) (pa_consN (pv 5) pa_nil))))))))
  (pss_one (ps_ret (pe_tup (pa_cons (pe_tup (pa_cons (pe_un un_neg (pe_ix ix_tup (pe_ix ix_tup (pv 6) pe_int (fun _ _=>rfl)) pe_int (fun _ _=>rfl))) (pa_cons (pe_ix ix_tup (pe_ix ix_tup (pv 6) pe_int (fun _ _=>rfl)) pe_int (fun _ _=>rfl)) pa_nil))) (pa_cons (pe_ix ix_tup (pv 6) pe_int (fun _ _=>rfl)) pa_nil)))))))),?_⟩
 refine ⟨_,rfl,_,rfl,_,rfl,_,rfl,_,_,_,_,rfl,t1,t2,t3,t4,fun z hz=>q1 z (vGr_1 hz),fun h1=>?_⟩
 refine ⟨_,rfl,_,rfl,_,_,rfl,t5,t6,fun z hz=>q1 z ((vGr_2 h1).trans hz),fun h2=>?_⟩
 have q:=q2 ((vGr_2 h1).trans h2)
 obtain ⟨n,m,a,b,rfl,rfl,rfl,rfl,L⟩:=vLine_none h1
 obtain ⟨t,d,rfl,rfl,t0,t1',d0,d1⟩:=vFrac_none h2
 refine ⟨_,rfl,_,rfl,_,rfl,_,rfl,_,rfl,_,rfl,n,m,a,b,t,d,rfl,gm_of L t0 t1' d0 d1,L.a0,L.a1,to,fun r zs M z H1 h1 ⟨rf,h2,h2'⟩ h3 h4 h5 h6=>?_⟩
 refine ⟨_,rfl,r,_,_,_,rfl,rfl,SqT.of h2,rfl,rf,_,_,_,rfl,rfl,SqT.of h2',rfl,_,rfl,_,rfl,r,_,_,_,rfl,rfl,SqT.of h2,rfl,rf,_,_,_,rfl,rfl,SqT.of h2',rfl,(by show 2≤sizeLine; decide),fun r1 hr1=>?_⟩
 have s1:=same_new hr1 (.tup [.int (-numL M d),.int (denL M d)])
 refine ⟨_,rfl,r,_,_,_,rfl,rfl,SqT.of (s1 _ _ h2),rfl,(by show 2≤sizeLine; decide),fun r2 hr2=>?_⟩
 have s2:=same_new hr2 (.tup [.ref r1,.int z])
 exact q _ _ (h5.trans (SameX.of (s1.trans s2))) (h6.mono (s1.trans s2))
theorem ok_miss_of {f:Addr} {fd:FuncData} (F:Fun K "miss_of" "miss_of" s_miss_of f fd) (T:Txt K mg c) (H_need_product:HasY P w K mg base 5 "need_product" ["width", "top", "bottom", "factor", "addend", "total"] (spNP c)) (H_greatest_miss:Has P w K mg base 4 "greatest_miss" ["n", "m", "a", "b", "top", "bottom"] (spGM PT)) (H_greatest_lack:Has P w K mg base 5 "greatest_lack" ["n", "m", "a", "b", "top", "bottom"] (spGL PT)):FnOk P w K mg base (CX2 P w base) 6 f fd ["width", "top", "bottom", "factor", "addend", "total"] (spMOY c PT):=by
 refine Fun.okY F sc_miss_of (fun vs H Q E h=>?_) (fun cdv A outer s H vs Q E hr h=>?_)
 ·obtain ⟨w',t,b,f',ad,tt,rfl,_⟩:=h
  rfl
 obtain ⟨w',t,b,f',ad,tt,rfl,u1,u2,u3,u4,u5,u6,to,q1,q2⟩:=h
 refine ⟨_,(pss_cons (ps_expr (pe_fnYX H_need_product (hr.mono (by lia)) rfl (pa_consN (pv 0) (pa_consN (pv 1) (pa_consN (pv 2) (pa_consN (pv 3) (pa_consN (pv 4) (pa_consN (pv 5) pa_nil))))))))
  (pss_cons (ps_set (i:=6) sc_miss_of.nd rfl (Or.inl rfl) (pe_op op_sub (pe_op op_shlB pe_int (pv 0)) pe_int))
  (pss_cons (ps_set (i:=7) sc_miss_of.nd rfl (Or.inl rfl) (pe_fn H_greatest_miss (hr.mono (by lia)) rfl (pa_consN (pv 6) (pa_consN (pv 3) (pa_consN (pv 4) (pa_consN (pe_op op_shlB pe_int (pv 5)) (pa_consN (pv 1) (pa_consN (pv 2) pa_nil))))))))
  (pss_cons (ps_set (i:=8) sc_miss_of.nd rfl (Or.inl rfl) (pe_fn H_greatest_lack (hr.mono (by lia)) rfl (pa_consN (pv 6) (pa_consN (pv 3) (pa_consN (pv 4) (pa_consN (pe_op op_shlB pe_int (pv 5)) (pa_consN (pv 1) (pa_consN (pv 2) pa_nil))))))))
  (pss_one (ps_ret (pe_tup (pa_cons (pe_ix ix_tup (pv 7) pe_int (fun _ _=>rfl)) (pa_cons (pe_ix ix_tup (pv 7) pe_int (fun _ _=>rfl)) (pa_cons (pe_ix ix_tup (pv 8) pe_int (fun _ _=>rfl)) (pa_cons (pe_ix ix_tup (pv 8) pe_int (fun _ _=>rfl)) pa_nil))))))))))),?_⟩
 refine ⟨_,rfl,_,rfl,_,rfl,_,rfl,_,rfl,_,rfl,_,_,_,_,_,_,rfl,u1,u2,u3,u4,u5,u6,q1,fun h=>?_⟩
 have q:=q2 h
 obtain ⟨w',t,b,f',ad,tt,rfl,rfl,rfl,rfl,rfl,rfl,K1⟩:=vProd_none h
 have ⟨w0,w1,t0,t1,b0,b1,f0,f1,a0,a1,s0,s1⟩:=K1
 have shw:(0≤w'∧w'≤100000∧intBits 1≤100000):=⟨by lia,by lia,b200 (by decide) (by decide)⟩
 have sht:(0≤tt∧tt≤100000∧intBits 1≤100000):=⟨by lia,by lia,b200 (by decide) (by decide)⟩
 refine ⟨_,rfl,_,_,rfl,rfl,shw,_,_,rfl,rfl,?_⟩
 refine ⟨_,rfl,_,rfl,_,rfl,_,rfl,_,_,rfl,rfl,sht,_,rfl,_,rfl,_,_,_,_,_,_,rfl,K1.gm,to,fun r1 zs M1 z1 H1 e1 ⟨rf1,g1,g1'⟩ c1 b1 x1 to1=>?_⟩
 refine ⟨_,rfl,_,rfl,_,rfl,_,rfl,_,_,rfl,rfl,sht,_,rfl,_,rfl,_,_,_,_,_,_,rfl,K1.gm,by lia,a1,to1,fun r2 ws M2 z2 H2 e2 ⟨rf2,g2,g2'⟩ c2 b2 x2 to2=>?_⟩
 have k1:=toTup g1 to1 x2
 refine ⟨_,rfl,r1,_,_,_,rfl,rfl,SqT.of k1,rfl,_,rfl,r1,_,_,_,rfl,rfl,SqT.of k1,rfl,_,rfl,r2,_,_,_,rfl,rfl,SqT.of g2,rfl,_,rfl,r2,_,_,_,rfl,rfl,SqT.of g2,rfl,(by show 4≤sizeLine; decide),fun r hr'=>?_⟩
 have s3:=same_new hr' (.tup [.ref rf1,.int z1,.ref rf2,.int z2])
 exact q _ _ ((x1.trans x2).trans (SameX.of s3)) (to2.mono s3)
theorem ok_quotient_corners {f:Addr} {fd:FuncData} (F:Fun K "quotient_corners" "quotient_corners" s_quotient_corners f fd) (T:Txt K mg c) (H_corner_points:Has P w K mg base 3 "corner_points" ["n", "m", "a", "b"] spCrn):FnOk P w K mg base CX0 4 f fd ["width", "top", "bottom"] spEnds:=by
 refine F.ok sc_quotient_corners (fun vs H Q E h=>?_) (fun cdv A outer s H vs Q E hr h=>?_)
 ·obtain ⟨w',t,b,rfl,_⟩:=h
  rfl
 obtain ⟨w',t,b,rfl,w0,w1,t0,t1,b0,b1,q⟩:=h
 refine ⟨_,(pss_cons (ps_set (i:=3) sc_quotient_corners.nd rfl (Or.inl rfl) (pe_op op_sub (pe_op op_shl pe_int (pv 0)) pe_int))
  (pss_cons (ps_set (i:=4) sc_quotient_corners.nd rfl (Or.inl rfl) (pe_fn H_corner_points (hr.mono (by lia)) rfl (pa_cons (pv 3) (pa_cons (pe_un un_neg (pv 1)) (pa_cons (pe_op op_sub (pv 2) pe_int) (pa_cons (pv 2) pa_nil))))))
  (pss_one (ps_ret (pe_tup (pa_cons (pe_fn H_corner_points (hr.mono (by lia)) rfl (pa_cons (pv 3) (pa_cons (pv 1) (pa_cons pe_int (pa_cons (pv 2) pa_nil))))) (pa_cons (pe_comp0 rfl (by first | rfl | with_unfolding_all rfl) (by decide +kernel) rfl (by decide +kernel) rfl (pi_list (pv 4)) (fun C s2 H2 fp=>(pe_tup (pa_cons (pe_ix (ix_tupK (K:=K) rfl) (pv 0) pe_int (fun _ _=>rfl)) (pa_cons (pe_un un_neg (pe_ix (ix_tupK (K:=K) rfl) (pv 0) pe_int (fun _ _=>rfl))) pa_nil))))) pa_nil))))))),?_⟩
 have W1:=p32 w1
 have W0:=p16 w0
 refine ⟨_,rfl,_,_,rfl,rfl,cpow1 (by lia) (by lia),_,_,rfl,rfl,?_⟩
 refine ⟨_,rfl,_,rfl,_,rfl,_,rfl,_,_,rfl,rfl,_,rfl,_,_,_,_,rfl,⟨by lia,by lia,by lia,by lia,by lia,by lia,b0,b1⟩,fun l2 ws H1 l20 al2 cr2 s1=>?_⟩
 refine ⟨_,rfl,_,rfl,_,rfl,_,_,_,_,rfl,⟨by lia,by lia,by lia,by lia,by lia,by lia,b0,b1⟩,fun l1 zs H2 l10 al1 cr1 s2=>?_⟩
 have e1:=qpt_up t b zs
 unfold pts at e1
 rw [e1] at al1
 have al2:=al2.same s2
 obtain ⟨ps,hp,pl⟩:=al2
 have pn:=pl.1
 rw [List.length_map] at pn
 have zl:=cr2.2.2.2
 have L1000:(1000:Nat)≤sizeLine:=by decide
 refine ⟨_,rfl,l2,rfl,⟨_,SqL.of hp⟩,fun D hD=>?_⟩
 refine comp_list (xs:=ps.map V.ref) (fun j HJ=>ALg i2 HJ D (qpt t b (ws.take j))∧Same H2 HJ) ⟨⟨[],upd_same,PLg.nil⟩,same_new hD _⟩ ?_ ?_ ?_
 ·rintro j HJ hj ⟨hy,sJ⟩
  exact SqL.of (sJ _ _ hp)
 ·rintro j v HJ hv ⟨⟨qs,hq,ql⟩,sJ⟩
  rw [List.getElem?_map] at hv
  cases e1:ps[j]? with
  | none=>rw [e1] at hv; cases hv
  | some p =>
   rw [e1] at hv
   cases hv
   obtain ⟨zz,ez,hz⟩:=pl.get' e1
   rw [List.getElem?_map] at ez
   cases e2:ws[j]? with
   | none=>rw [e2] at ez; cases ez
   | some z =>
    rw [e2] at ez
    cases ez
    have jl:=(List.getElem?_eq_some_iff.mp e2).1
    have hzJ:=sJ _ _ hz
    have qn:=ql.1
    unfold qpt at qn
    rw [List.length_map,List.length_take] at qn
    refine ⟨_,rfl,p,_,_,_,rfl,rfl,SqT.of hzJ,rfl,_,rfl,p,_,_,_,rfl,rfl,SqT.of hzJ,rfl,_,rfl,(by show 2≤sizeLine; decide),fun r hr'=>?_⟩
    have ey:=low_hgt (m:=t) (b:=b) (x:=z) (by lia)
    have sM:=same_new hr' (.tup (i2 (z,-hgt (-t) (b - 1) b z)))
    have ap:=ALg.app ql hq hr' (z,-hgt (-t) (b - 1) b z)
    refine ⟨_,sM _ _ hq,(by rw [List.length_map]; lia),(ps.map V.ref).length - (j + 1),(by rw [List.length_map]; lia),rfl,(by rw [List.length_map]; lia),?_,Same.updL (sJ.trans sM) hD⟩
    have key:qpt t b (ws.take (j + 1)) = qpt t b (ws.take j) ++ [(z,-hgt (-t) (b - 1) b z)]:=by
     unfold qpt
     rw [List.take_add_one,e2,Option.toList_some,List.map_append,ey]
     rfl
    rw [key]
    exact ap
 rintro HJ ⟨al,sJ⟩
 rw [List.length_map,pn,List.take_length] at al
 refine ⟨(by show 2≤sizeLine; decide),fun r hr'=>?_⟩
 have sM:=same_new hr' (.tup [.ref l1,.ref D])
 have S:=s1.trans (s2.trans sJ)
 exact q r l1 D zs ws _ (Same.none S hr') upd_same ((al1.same sJ).same sM) (al.same sM) ⟨cr1,cr2⟩ (S.trans sM)
theorem ok_misfit {f:Addr} {fd:FuncData} (F:Fun K "misfit" "misfit" s_misfit f fd) (T:Txt K mg c) :FnOk P w K mg base CX0 1 f fd ["ends", "row"] spMis:=by
 refine F.ok sc_misfit (fun vs H Q E h=>?_) (fun cdv A outer s H vs Q E hr h=>?_)
 ·obtain ⟨e,r,l1,l2,ps,qs,f',ad,tt,rfl,_⟩:=h
  rfl
 obtain ⟨e,r,l1,l2,ps,qs,f',ad,tt,rfl,he,⟨as,ha,pa⟩,⟨bs,hb,pb⟩,B1,B2,hr0,f0,f1,s0,s1,q⟩:=h
 refine ⟨_,(pss_cons (ps_for PassesOwn.never rfl (pi_list (pe_ix ix_tup (pv 0) pe_int (fun _ _=>rfl))) (pg_name (i:=2) sc_misfit.nd rfl (Or.inl rfl))
   (pss_one (ps_if (pt_cmpR op_gt (pe_op op_sub (pe_op op_shlB (pe_ix ix_tup (pv 2) pe_int (fun _ _=>rfl)) (pe_ix ix_tup (pv 1) pe_int (fun _ _=>rfl))) (pe_op op_mulB (pe_ix ix_tup (pv 1) pe_int (fun _ _=>rfl)) (pe_ix ix_tup (pv 2) pe_int (fun _ _=>rfl)))) (pe_ix ix_tup (pv 1) pe_int (fun _ _=>rfl)) (nomark _))
    (pss_one (ps_ret (pe_ix ix_tup (pv 2) pe_int (fun _ _=>rfl))))
    pss_nil)))
  (pss_cons (ps_for PassesOwn.never rfl (pi_list (pe_ix ix_tup (pv 0) pe_int (fun _ _=>rfl))) (pg_name (i:=2) sc_misfit.nd rfl (Or.inl rfl))
   (pss_one (ps_if (pt_cmpR op_le (pe_op op_sub (pe_op op_shlB (pe_ix ix_tup (pv 2) pe_int (fun _ _=>rfl)) (pe_ix ix_tup (pv 1) pe_int (fun _ _=>rfl))) (pe_op op_mulB (pe_ix ix_tup (pv 1) pe_int (fun _ _=>rfl)) (pe_ix ix_tup (pv 2) pe_int (fun _ _=>rfl)))) (pe_op op_sub (pe_ix ix_tup (pv 1) pe_int (fun _ _=>rfl)) (pe_op op_shlB pe_int (pe_ix ix_tup (pv 1) pe_int (fun _ _=>rfl)))) (nomark _))
    (pss_one (ps_ret (pe_ix ix_tup (pv 2) pe_int (fun _ _=>rfl))))
    pss_nil)))
  (pss_one (ps_ret pe_non)))),?_⟩
 have P0:=p_pos tt.toNat
 have P1:=p64 s1
 have sh:∀ x:Int,0≤x→x≤2 ^ 110→(0≤tt∧tt≤100000∧intBits x≤100000):=fun x h1 h2=>⟨s0,by lia,b200 (by lia) (by lia)⟩
 refine ⟨_,rfl,e,_,_,_,rfl,rfl,SqT.of he,rfl,l1,rfl,⟨_,SqL.of ha⟩,for_list (xs:=as.map V.ref) (fun j σ H2=>∃ y:Option V,σ = [some (.ref e),some (.ref r),y]∧H2 = H∧∀ (i:Nat) p,i < j→ps[i]? = some p→¬ hi2 f' ad tt p) ⟨_,rfl,rfl,fun i p h _=>absurd h (by lia)⟩ ?_ ?_ ?_⟩
 ·rintro j σ H2 hj ⟨y,rfl,rfl,no⟩
  exact SqL.of ha
 ·rintro j v σ H2 hj ⟨y,rfl,rfl,no⟩
  rw [List.getElem?_map] at hj
  cases e1:as[j]? with
  | none=>rw [e1] at hj; cases hj
  | some p =>
   rw [e1] at hj
   cases hj
   obtain ⟨z,ez,hz⟩:=pa.get' e1
   unfold TRg at hz
   obtain ⟨x0,x1,y0,y1⟩:=B1.bd z (List.mem_of_getElem? ez)
   refine ⟨_,rfl,p,_,_,_,rfl,rfl,SqT.of hz,rfl,_,rfl,r,_,_,_,rfl,rfl,SqT.of hr0,rfl,_,_,rfl,rfl,sh _ y0 y1,?_⟩
   refine ⟨_,rfl,r,_,_,_,rfl,rfl,SqT.of hr0,rfl,_,rfl,p,_,_,_,rfl,rfl,SqT.of hz,rfl,_,_,rfl,rfl,⟨b200 (by lia) (by lia),b200 (by lia) (by lia)⟩,_,_,rfl,rfl,?_⟩
   refine ⟨_,rfl,r,_,_,_,rfl,rfl,SqT.of hr0,rfl,_,_,rfl,rfl,_,rfl,?_⟩
   walk_at "c" <;> intro c1
   ·refine ⟨_,rfl,p,_,_,_,rfl,rfl,SqT.of hz,rfl,q _ (.inl ⟨z,List.mem_of_getElem? ez,c1,rfl⟩)⟩
   ·refine ⟨_,rfl,rfl,fun i p' hi ep=>?_⟩
    by_cases c2:i < j
    ·exact no i p' c2 ep
    ·have:i = j:=by lia
     subst this
     rw [ez] at ep
     cases ep
     exact c1
 rintro σ H2 ⟨y,rfl,rfl,no⟩
 have no1:∀ p ∈ ps,¬ hi2 f' ad tt p:=fun p hp=>by
  obtain ⟨i,hi⟩:=List.getElem?_of_mem hp
  refine no i p ?_ hi
  have:=(List.getElem?_eq_some_iff.mp hi).1
  rw [List.length_map,pa.1]
  exact this
 refine ⟨_,rfl,e,_,_,_,rfl,rfl,SqT.of he,rfl,l2,rfl,⟨_,SqL.of hb⟩,for_list (xs:=bs.map V.ref) (fun j σ H3=>∃ y:Option V,σ = [some (.ref e),some (.ref r),y]∧H3 = H2∧∀ (i:Nat) p,i < j→qs[i]? = some p→¬ lo2 f' ad tt p) ⟨_,rfl,rfl,fun i p h _=>absurd h (by lia)⟩ ?_ ?_ ?_⟩
 ·rintro j σ H3 hj ⟨y,rfl,rfl,no⟩
  exact SqL.of hb
 ·rintro j v σ H3 hj ⟨y,rfl,rfl,no⟩
  rw [List.getElem?_map] at hj
  cases e1:bs[j]? with
  | none=>rw [e1] at hj; cases hj
  | some p =>
   rw [e1] at hj
   cases hj
   obtain ⟨z,ez,hz⟩:=pb.get' e1
   unfold TRg at hz
   obtain ⟨x0,x1,y0,y1⟩:=B2.bd z (List.mem_of_getElem? ez)
   refine ⟨_,rfl,p,_,_,_,rfl,rfl,SqT.of hz,rfl,_,rfl,r,_,_,_,rfl,rfl,SqT.of hr0,rfl,_,_,rfl,rfl,sh _ y0 y1,?_⟩
   refine ⟨_,rfl,r,_,_,_,rfl,rfl,SqT.of hr0,rfl,_,rfl,p,_,_,_,rfl,rfl,SqT.of hz,rfl,_,_,rfl,rfl,⟨b200 (by lia) (by lia),b200 (by lia) (by lia)⟩,_,_,rfl,rfl,?_⟩
   refine ⟨_,rfl,r,_,_,_,rfl,rfl,SqT.of hr0,rfl,_,rfl,r,_,_,_,rfl,rfl,SqT.of hr0,rfl,_,_,rfl,rfl,sh 1 (by decide) (by decide),_,_,rfl,rfl,_,_,rfl,rfl,_,rfl,?_⟩
   walk_at "c" <;> intro c1
   ·refine ⟨_,rfl,p,_,_,_,rfl,rfl,SqT.of hz,rfl,q _ (.inr (.inl ⟨z,List.mem_of_getElem? ez,c1,rfl⟩))⟩
   ·refine ⟨_,rfl,rfl,fun i p' hi ep=>?_⟩
    by_cases c2:i < j
    ·exact no i p' c2 ep
    ·have:i = j:=by lia
     subst this
     rw [ez] at ep
     cases ep
     exact c1
 rintro σ H3 ⟨y,rfl,rfl,no2⟩
 refine q .non (.inr (.inr ⟨no1,fun p hp=>?_,rfl⟩))
 obtain ⟨i,hi⟩:=List.getElem?_of_mem hp
 refine no2 i p ?_ hi
 have:=(List.getElem?_eq_some_iff.mp hi).1
 rw [List.length_map,pb.1]
 exact this
theorem ok_fits {f:Addr} {fd:FuncData} (F:Fun K "fits" "fits" s_fits f fd) (T:Txt K mg c) (H_need_product:HasY P w K mg base 5 "need_product" ["width", "top", "bottom", "factor", "addend", "total"] (spNP c)) (H_misfit:Has P w K mg base 1 "misfit" ["ends", "row"] spMis) (H_quotient_corners:Has P w K mg base 4 "quotient_corners" ["width", "top", "bottom"] spEnds):FnOk P w K mg base (CX2 P w base) 6 f fd ["width", "top", "bottom", "factor", "addend", "total"] (spFit6 c):=by
 refine Fun.okY F sc_fits (fun vs H Q E h=>?_) (fun cdv A outer s H vs Q E hr h=>?_)
 ·obtain ⟨w',t,b,f',ad,tt,rfl,_⟩:=h
  rfl
 obtain ⟨w',t,b,f',ad,tt,rfl,u1,u2,u3,u4,u5,u6,q1,q2⟩:=h
 refine ⟨_,(pss_cons (ps_expr (pe_fnYX H_need_product (hr.mono (by lia)) rfl (pa_consN (pv 0) (pa_consN (pv 1) (pa_consN (pv 2) (pa_consN (pv 3) (pa_consN (pv 4) (pa_consN (pv 5) pa_nil))))))))
  (pss_one (ps_ret (pe_fn H_misfit (hr.mono (by lia)) rfl (pa_cons (pe_fn H_quotient_corners (hr.mono (by lia)) rfl (pa_cons (pv 0) (pa_cons (pv 1) (pa_cons (pv 2) pa_nil)))) (pa_cons (pe_tup (pa_cons (pv 3) (pa_cons (pv 4) (pa_cons (pv 5) pa_nil)))) pa_nil)))))),?_⟩
 refine ⟨_,rfl,_,rfl,_,rfl,_,rfl,_,rfl,_,rfl,_,_,_,_,_,_,rfl,u1,u2,u3,u4,u5,u6,q1,fun h=>?_⟩
 have q:=q2 h
 obtain ⟨w',t,b,f',ad,tt,rfl,rfl,rfl,rfl,rfl,rfl,K1⟩:=vProd_none h
 have ⟨w0,w1,t0,t1,b0,b1,f0,f1,a0,a1,s0,s1⟩:=K1
 have W1:=p32 w1
 refine ⟨_,rfl,_,rfl,_,rfl,_,_,_,rfl,w0,w1,t0,t1,b0,b1,fun r l1 l2 zs ws H1 r0 hr1 al1 al2 en sm=>?_⟩
 refine ⟨_,rfl,_,rfl,_,rfl,(by show 3≤sizeLine; decide),fun rr hrr=>?_⟩
 have sM:=same_new hrr (.tup [.int f',.int ad,.int tt])
 exact ⟨r,rr,l1,l2,_,_,f',ad,tt,rfl,sM _ _ hr1,al1.same sM,al2.same sM,qpt_bd en.up (by lia) t0 t1 b0,qpt_bd en.lo (by lia) t0 t1 b0,upd_same,f0,by lia,s0,s1,fun v hv=>q v _ (sm.trans sM)⟩
def upR (t b tt:Int):Int:=-(-t * 2 ^ tt.toNat / b)
def dnR (t b tt:Int):Int:=t * 2 ^ tt.toNat / b
def rowsAt (w t b tt:Int):List Row3:=(if upR t b tt < 1 * 2 ^ w.toNat then [(upR t b tt,0,tt)] else []) ++ (if dnR t b tt < 1 * 2 ^ w.toNat then [(dnR t b tt,dnR t b tt,tt)] else [])
def rowsT (w t b:Int):Nat→List Row3
 | 0=>[]
 | j + 1=>rowsT w t b j ++ rowsAt w t b (w + (j:Int))
theorem rowsAt_len (w t b tt:Int):(rowsAt w t b tt).length≤2:=by
 unfold rowsAt
 split <;> split <;> exact Nat.le_of_ble_eq_true rfl
theorem rowsT_len (w t b:Int):∀ N,(rowsT w t b N).length≤2 * N
 | 0=>Nat.le_refl _
 | N + 1=>by
  have:=rowsT_len w t b N
  have:=rowsAt_len w t b (w + (N:Int))
  show (rowsT w t b N ++ _).length≤_
  rw [List.length_append]
  lia
theorem upR_eq {t b tt:Int} (b0:0 < b):upR t b tt = t * 2 ^ tt.toNat / b + (if 0 < t * 2 ^ tt.toNat % b then 1 else 0):=by
 unfold upR
 rw [Int.neg_mul]
 generalize t * 2 ^ tt.toNat = T
 have e:=Int.mul_ediv_add_emod T b
 have a0:=Int.emod_nonneg T (show b ≠ 0 by lia)
 have a1:=Int.emod_lt_of_pos T b0
 by_cases c:0 < T % b
 ·rw [if_pos c,ediv_btw (y:=-(T / b) - 1) b0]
  ·lia
  ·rw [Int.sub_mul,Int.neg_mul,Int.mul_comm (T / b)]; lia
  ·rw [show -(T / b) - 1 + 1 = -(T / b) by lia,Int.neg_mul,Int.mul_comm (T / b)]; lia
 ·rw [if_neg c,ediv_btw (y:=-(T / b)) b0]
  ·lia
  ·rw [Int.neg_mul,Int.mul_comm (T / b)]; lia
  ·rw [Int.add_mul,Int.neg_mul,Int.mul_comm (T / b)]; lia
structure WtOk (w t b:Int):Prop where
 w0:4≤w
 w1:w≤32
 t0:0≤t
 tb:t≤b
 b0:1≤b
 b1:b≤1 * 2 ^ w.toNat - 1
theorem WtOk.b2 {w t b:Int} (h:WtOk w t b):b≤4294967295:=by
 have:=p32 h.w1
 have:=h.b1
 lia
structure RwOk (w:Int) (r:Row3):Prop where
 f0:0≤r.1
 f1:r.1≤4294967296
 a0:0≤r.2.1
 a1:r.2.1≤4294967296
 s0:0≤r.2.2
 s1:r.2.2≤64
theorem rowsAt_ok {w t b tt:Int} (h:WtOk w t b) (h0:0≤tt) (h1:tt≤64):∀ r ∈ rowsAt w t b tt,RwOk w r:=by
 have W1:=p32 h.w1
 have b0:=h.b0
 have P0:=p_pos tt.toNat
 have T0:0≤t * 2 ^ tt.toNat:=Int.mul_nonneg h.t0 (by lia)
 have d0:0≤dnR t b tt:=Int.ediv_nonneg T0 (by lia)
 have u0:0≤upR t b tt:=by
  rw [upR_eq (by lia)]
  unfold dnR at d0
  split <;> lia
 intro r hr
 unfold rowsAt at hr
 rcases List.mem_append.mp hr with z | z
 ·split at z
  ·rw [List.mem_singleton.mp z]
   exact ⟨u0,by show upR t b tt≤_; lia,by show (0:Int)≤0; lia,by show (0:Int)≤_; lia,h0,h1⟩
  ·cases z
 ·split at z
  ·rw [List.mem_singleton.mp z]
   exact ⟨d0,by show dnR t b tt≤_; lia,d0,by show dnR t b tt≤_; lia,h0,h1⟩
  ·cases z
theorem rowsT_ok {w t b:Int} (h:WtOk w t b):∀ N:Nat,(N:Int)≤33→∀ r ∈ rowsT w t b N,RwOk w r
 | 0,_=>fun r hr=>by cases hr
 | N + 1,hN=>fun r hr=>by
  rcases List.mem_append.mp (show r ∈ rowsT w t b N ++ rowsAt w t b (w + (N:Int)) from hr) with z | z
  ·exact rowsT_ok h N (by lia) r z
  ·exact rowsAt_ok h (by have:=h.w0; lia) (by have:=h.w1; lia) r z
def RowsW (w t b:Int):List Row3:=rowsT w t b (w + 1).toNat
def spTry:Sp:=fun vs H Q _=>∃ w t b:Int,vs = [.int w,.int t,.int b]∧WtOk w t b∧∀ l H',H l = none→ALg i3 H' l (RowsW w t b)→Same H H'→Q (.ref l) H'
theorem ok_rows_to_try {f:Addr} {fd:FuncData} (F:Fun K "rows_to_try" "rows_to_try" s_rows_to_try f fd) (T:Txt K mg c) :FnOk P w K mg base CX0 1 f fd ["width", "top", "bottom"] spTry:=by
 refine F.ok sc_rows_to_try (fun vs H Q E h=>?_) (fun cdv A outer s H vs Q E hr h=>?_)
 ·obtain ⟨w',t,b,rfl,_⟩:=h
  rfl
 obtain ⟨w',t,b,rfl,K1,q⟩:=h
 refine ⟨_,(pss_cons (ps_set (i:=3) sc_rows_to_try.nd rfl (Or.inl rfl) (pe_lst pa_nil))
  (pss_cons (ps_for PassesOwn.never rfl (pi_range2 rfl T.n_range (pa_cons (pv 0) (pa_cons (pe_op op_add (pe_op op_mulB pe_int (pv 0)) pe_int) pa_nil))) (pg_name (i:=4) sc_rows_to_try.nd rfl (Or.inl rfl))
   (pss_cons (ps_set (i:=5) sc_rows_to_try.nd rfl (Or.inl rfl) (pe_op op_fdivB (pe_op op_shlB (pv 1) (pv 4)) (pv 2)))
   (pss_cons (ps_set (i:=6) sc_rows_to_try.nd rfl (Or.inl rfl) (pe_un un_neg (pe_op op_fdivB (pe_op op_shlB (pe_un un_neg (pv 1)) (pv 4)) (pv 2))))
   (pss_join (ps_if (pt_cmpR op_lt (pv 6) (pe_op op_shlB pe_int (pv 0)) (nomark _))
    (pss_one (ps_expr (pe_bm PySem.F.plainAttrs_list PySem.F.slot_list_append PySem.F.type_list_append mt_append (pv 3) (pa_cons (pe_tup (pa_cons (pv 6) (pa_cons pe_int (pa_cons (pv 4) pa_nil)))) pa_nil))))
    pss_nil)
   (pss_one (ps_if (pt_cmpR op_lt (pv 5) (pe_op op_shlB pe_int (pv 0)) (nomark _))
    (pss_one (ps_expr (pe_bm PySem.F.plainAttrs_list PySem.F.slot_list_append PySem.F.type_list_append mt_append (pv 3) (pa_cons (pe_tup (pa_cons (pv 5) (pa_cons (pv 5) (pa_cons (pv 4) pa_nil)))) pa_nil))))
    pss_nil))))))
  (pss_one (ps_ret (pv 3))))),?_⟩
 have ⟨w0,w1,t0,tb,b0,_⟩:=K1
 have b1:=K1.b2
 have lg:=log_small (m:=b) (by lia) (by lia)
 have L1000:(1000:Nat)≤sizeLine:=by decide
 refine ⟨(by show 0≤sizeLine; decide),fun l hl=>?_⟩
 refine ⟨_,rfl,_,rfl,_,_,rfl,rfl,⟨b200 (by lia) (by lia),b200 (by lia) (by lia)⟩,_,_,rfl,rfl,?_⟩
 refine ⟨_,_,rfl,⟨by lia,by lia,by lia,by lia⟩,?_⟩
 have rE:(2 * w' + 1 - w').toNat = (w' + 1).toNat:=by lia
 rw [rE]
 refine for_range (fun j σ H2=>∃ y1 y2 y3:Option V,σ = [some (.int w'),some (.int t),some (.int b),some (.ref l),y1,y2,y3]∧ALg i3 H2 l (rowsT w' t b j)∧Same H H2) ⟨_,_,_,rfl,⟨[],upd_same,PLg.nil⟩,same_new hl _⟩ ?_ ?_
 ·rintro j σ H2 hj ⟨y1,y2,y3,rfl,al,sm⟩
  have jb:(j:Int)≤32:=by lia
  have sh:∀ x:Int,-(2 ^ 100)≤x→x≤2 ^ 100→(0≤w' + (j:Int)∧w' + (j:Int)≤100000∧intBits x≤100000):=fun x h1 h2=>⟨by lia,by lia,b200 (by lia) (by lia)⟩
  have shw:(0≤w'∧w'≤100000∧intBits 1≤100000):=⟨by lia,by lia,b200 (by decide) (by decide)⟩
  have rl:=rowsT_len w' t b j
  refine ⟨_,rfl,_,rfl,_,_,rfl,rfl,sh _ (by lia) (by lia),_,rfl,_,_,rfl,rfl,⟨by lia,lg⟩,?_⟩
  refine ⟨_,rfl,_,rfl,_,rfl,_,_,rfl,rfl,sh _ (by lia) (by lia),_,rfl,_,_,rfl,rfl,⟨by lia,lg⟩,_,rfl,?_⟩
  refine ⟨fun σ HZ=>σ = [some (.int w'),some (.int t),some (.int b),some (.ref l),some (.int (w' + (j:Int))),some (.int (dnR t b (w' + (j:Int)))),some (.int (upR t b (w' + (j:Int))))]∧ALg i3 HZ l (rowsT w' t b j ++ (if upR t b (w' + (j:Int)) < 1 * 2 ^ w'.toNat then [(upR t b (w' + (j:Int)),0,w' + (j:Int))] else []))∧Same H HZ,?_,?_⟩
  ·refine ⟨_,rfl,_,rfl,_,_,rfl,rfl,shw,_,_,rfl,rfl,_,rfl,?_⟩
   walk_at "c" <;> intro c0
   ·rw [if_pos (show upR t b (w' + (j:Int)) < 1 * 2 ^ w'.toNat from c0)]
    obtain ⟨ps,hp,pl⟩:=al
    have pn:=pl.1
    refine ⟨_,rfl,.inl ⟨rfl,_,SqL.of hp⟩,_,rfl,_,rfl,(by show 3≤sizeLine; decide),fun r hr'=>?_⟩
    have sM:=same_new hr' (.tup (i3 (upR t b (w' + (j:Int)),0,w' + (j:Int))))
    have ap:=ALg.app pl hp hr' (upR t b (w' + (j:Int)),0,w' + (j:Int))
    exact ⟨l,_,_,rfl,rfl,sM _ _ hp,(by rw [List.length_map]; lia),rfl,ap,Same.updL (sm.trans sM) hl⟩
   ·rw [if_neg (show ¬ upR t b (w' + (j:Int)) < 1 * 2 ^ w'.toNat from c0),List.append_nil]
    exact ⟨rfl,al,sm⟩
  rintro σ HZ ⟨rfl,al2,smZ⟩
  have rl2:(rowsT w' t b j ++ (if upR t b (w' + (j:Int)) < 1 * 2 ^ w'.toNat then [(upR t b (w' + (j:Int)),0,w' + (j:Int))] else [])).length≤2 * j + 1:=by
   rw [List.length_append]
   split
   ·rw [List.length_singleton]; lia
   ·rw [List.length_nil]; lia
  refine ⟨_,rfl,_,rfl,_,_,rfl,rfl,shw,_,_,rfl,rfl,_,rfl,?_⟩
  have key:rowsT w' t b (j + 1) = (rowsT w' t b j ++ (if upR t b (w' + (j:Int)) < 1 * 2 ^ w'.toNat then [(upR t b (w' + (j:Int)),0,w' + (j:Int))] else [])) ++ (if dnR t b (w' + (j:Int)) < 1 * 2 ^ w'.toNat then [(dnR t b (w' + (j:Int)),dnR t b (w' + (j:Int)),w' + (j:Int))] else []):=by
   rw [List.append_assoc]
   rfl
  walk_at "c" <;> intro c0
  ·rw [if_pos (show dnR t b (w' + (j:Int)) < 1 * 2 ^ w'.toNat from c0)] at key
   obtain ⟨ps,hp,pl⟩:=al2
   have pn:=pl.1
   refine ⟨_,rfl,.inl ⟨rfl,_,SqL.of hp⟩,_,rfl,_,rfl,_,rfl,(by show 3≤sizeLine; decide),fun r hr'=>?_⟩
   have sM:=same_new hr' (.tup (i3 (dnR t b (w' + (j:Int)),dnR t b (w' + (j:Int)),w' + (j:Int))))
   have ap:=ALg.app pl hp hr' (dnR t b (w' + (j:Int)),dnR t b (w' + (j:Int)),w' + (j:Int))
   refine ⟨l,_,_,rfl,rfl,sM _ _ hp,(by rw [List.length_map]; lia),_,_,_,rfl,?_,Same.updL (smZ.trans sM) hl⟩
   rw [key]
   exact ap
  ·rw [if_neg (show ¬ dnR t b (w' + (j:Int)) < 1 * 2 ^ w'.toNat from c0),List.append_nil] at key
   refine ⟨_,_,_,rfl,?_,smZ⟩
   rw [key]
   exact al2
 ·rintro σ H2 ⟨y1,y2,y3,rfl,al,sm⟩
  exact ⟨_,rfl,q l H2 hl al sm⟩
theorem ok_exact_form {f:Addr} {fd:FuncData} (F:Fun K "exact_form" "exact_form" s_exact_form f fd) (T:Txt K mg c) (H_need_width:HasY P w K mg base 3 "need_width" ["width"] (spNW c)) (H_quotient_corners:Has P w K mg base 4 "quotient_corners" ["width", "top", "bottom"] spEnds) (H_rows_to_try:Has P w K mg base 1 "rows_to_try" ["width", "top", "bottom"] spTry) (H_is_between:Has P w K mg base 2 "is_between" ["thing", "low", "high"] spBtwG) (H_misfit:Has P w K mg base 1 "misfit" ["ends", "row"] spMis) (X_NoFraction:XHas P w K mg base 1 "NoFraction" c.NoFraction "found"):FnOk P w K mg base (CX2 P w base) 5 f fd ["width", "top", "bottom"] (spExY c):=by
 refine Fun.okY F sc_exact_form (fun vs H Q E h=>?_) (fun cdv A outer s H vs Q E hr h=>?_)
 ·obtain ⟨w',t,b,rfl,_⟩:=h
  rfl
 obtain ⟨w',t,b,rfl,u1,u2,u3,q1,q2⟩:=h
 refine ⟨_,(pss_cons (ps_expr (pe_fnYX H_need_width (hr.mono (by lia)) rfl (pa_cons (pv 0) pa_nil)))
  (pss_cons (ps_if (PW.pt (pw_or (pt_not (pt_val (pe_fn H_is_between (hr.mono (by lia)) rfl (pa_cons (pv 2) (pa_cons pe_int (pa_cons (pe_op op_sub (pe_op op_shlB pe_int (pv 0)) pe_int) pa_nil)))))) (pw_or1 (pt_not (pt_val (pe_fn H_is_between (hr.mono (by lia)) rfl (pa_cons (pv 1) (pa_cons pe_int (pa_cons (pv 2) pa_nil)))))))))
   (pss_one (ps_raise1 X_NoFraction (hr.mono (by lia)) rfl (pa_cons (pe_tup (pa_cons (pv 1) (pa_cons (pv 2) pa_nil))) pa_nil)))
   pss_nil)
  (pss_cons (ps_set (i:=3) sc_exact_form.nd rfl (Or.inl rfl) (pe_fn H_quotient_corners (hr.mono (by lia)) rfl (pa_cons (pv 0) (pa_cons (pv 1) (pa_cons (pv 2) pa_nil)))))
  (pss_cons (ps_for PassesOwn.leaving rfl (pi_list (pe_fn H_rows_to_try (hr.mono (by lia)) rfl (pa_cons (pv 0) (pa_cons (pv 1) (pa_cons (pv 2) pa_nil))))) (pg_name (i:=4) sc_exact_form.nd rfl (Or.inl rfl))
   (pss_one (ps_if (pt_cmpR op_isN (pe_fn H_misfit (hr.mono (by lia)) rfl (pa_cons (pv 3) (pa_cons (pv 4) pa_nil))) pe_non (nomark _))
    (pss_one (ps_ret (pv 4)))
    pss_nil)))
  (pss_one (ps_ret pe_non)))))),?_⟩
 refine ⟨_,rfl,_,rfl,u1,fun z hz=>q1 z (vEx_1 hz),fun hw=>?_⟩
 obtain ⟨w',rfl,w0,w1⟩:=vW_none hw
 have W1:=p32 w1
 have shw:(0≤w'∧w'≤100000∧intBits 1≤100000):=⟨by lia,by lia,b200 (by decide) (by decide)⟩
 refine ⟨_,rfl,_,rfl,_,_,rfl,rfl,shw,_,_,rfl,rfl,_,_,_,rfl,u3,?_⟩
 cases e1:btw b 1 (1 * 2 ^ w'.toNat - 1) with
 | false=>exact ⟨_,rfl,iteT ⟨_,rfl,_,rfl,(by show 2≤sizeLine; decide),fun t ht=>⟨_,rfl,fun d hd=>(q1 _ (vEx_2 w0 w1 (by rw [e1]; rfl))).fr ht hd⟩⟩⟩
 | true =>
 obtain ⟨b,rfl,b0,b1⟩:=btw_int e1
 refine ⟨_,rfl,iteF ⟨_,rfl,_,rfl,_,_,_,rfl,u2,?_⟩⟩
 cases e2:btw t 0 b with
 | false=>exact ⟨_,rfl,iteT ⟨_,rfl,_,rfl,(by show 2≤sizeLine; decide),fun t ht=>⟨_,rfl,fun d hd=>(q1 _ (vEx_2 w0 w1 (by rw [e1]; exact e2))).fr ht hd⟩⟩⟩
 | true =>
 have q:=q2 (vEx_3 w0 w1 (by rw [e1]; exact e2))
 obtain ⟨t,rfl,t0,tb⟩:=btw_int e2
 have K1:WtOk w' t b:=⟨w0,w1,t0,tb,b0,b1⟩
 refine ⟨_,rfl,iteF ⟨_,rfl,_,rfl,_,rfl,_,_,_,rfl,w0,w1,t0,by lia,b0,by lia,fun e l1 l2 zs ws H1 e0 he al1 al2 en s1=>?_⟩⟩
 refine ⟨_,rfl,_,rfl,_,rfl,w',t,b,rfl,K1,fun l H2 l0 al s2=>?_⟩
 have rok:=rowsT_ok K1 (w' + 1).toNat (by lia)
 obtain ⟨ps,hp,pl⟩:=al
 refine ⟨l,rfl,⟨_,SqL.of hp⟩,for_list (xs:=ps.map V.ref) (fun j σ H3=>∃ y:Option V,σ = [some (.int w'),some (.int t),some (.int b),some (.ref e),y]∧H3 = H2) ⟨_,rfl,rfl⟩ ?_ ?_ ?_⟩
 ·rintro j σ H3 hj ⟨y,rfl,rfl⟩
  exact SqL.of hp
 ·rintro j v σ H3 hj ⟨y,rfl,rfl⟩
  rw [List.getElem?_map] at hj
  cases e1:ps[j]? with
  | none=>rw [e1] at hj; cases hj
  | some p =>
   rw [e1] at hj
   cases hj
   obtain ⟨rw',er,hrw⟩:=pl.get' e1
   unfold TRg at hrw
   have ro:=rok rw' (List.mem_of_getElem? er)
   have ⟨f0,f1,a0,a1,c0,c1⟩:=ro
   refine ⟨_,rfl,_,rfl,e,p,l1,l2,_,_,rw'.1,rw'.2.1,rw'.2.2,rfl,s2 _ _ he,al1.same s2,al2.same s2,qpt_bd en.up (by lia) t0 (by lia) b0,qpt_bd en.lo (by lia) t0 (by lia) b0,hrw,f0,by lia,c0,c1,fun v hv=>?_⟩
   have wrong:(∃ x:Int,v = .int x)∨v = .non:=by
    rcases hv with ⟨p,hp,h1,rfl⟩ | ⟨p,hp,h1,rfl⟩ | ⟨h1,h2,rfl⟩
    ·exact .inl ⟨_,rfl⟩
    ·exact .inl ⟨_,rfl⟩
    ·exact .inr rfl
   rcases wrong with ⟨x,rfl⟩ | rfl
   ·exact ⟨rfl,_,rfl,iteDN (by intro z; cases z) ⟨_,rfl,rfl⟩⟩
   ·exact ⟨rfl,_,rfl,iteD rfl ⟨_,rfl,q _ _ (s1.trans s2)⟩⟩
 ·rintro σ H3 ⟨y,rfl,rfl⟩
  exact q _ _ (s1.trans s2)
def SameN (L:List Addr) (H H':Hp):Prop:=∀ a v,a ∉ L→H a = some v→H' a = some v
theorem SameN.of {L:List Addr} {H H':Hp} (s:Same H H'):SameN L H H':=fun a v _ h=>s a v h
theorem SameN.trans {L:List Addr} {H H' H'':Hp} (s:SameN L H H') (t:SameN L H' H''):SameN L H H'':=fun a v n h=>t a v n (s a v n h)
theorem SameN.upd {L:List Addr} {H:Hp} {p:Addr} {o:HO} (h:p ∈ L):SameN L H (upd H p o):=fun a v n e=>by rw [upd_ne (fun z:a = p=>n (by rw [z]; exact h))]; exact e
def PoolAt (H:Hp) (p c:Addr):Prop:=∃ (k:Int) (cs:List Int),H p = some (.lst [.ref c,.int k])∧H c = some (.lst (cs.map V.int))∧cs ≠ []∧cs.length≤63∧0≤k
theorem PoolAt.ne {H:Hp} {p c:Addr} (h:PoolAt H p c):p ≠ c:=fun z=>by
 obtain ⟨k,cs,h1,h2,_⟩:=h
 rw [z,h2] at h1
 cases cs with
 | nil=>cases h1
 | cons a t=>cases t <;> cases h1
theorem PoolAt.same {H H':Hp} {p c:Addr} (h:PoolAt H p c) (s:Same H H'):PoolAt H' p c:=by
 obtain ⟨k,cs,h1,h2,r⟩:=h
 exact ⟨k,cs,s _ _ h1,s _ _ h2,r⟩
theorem PoolAt.sameN {H H':Hp} {p c:Addr} {L:List Addr} (h:PoolAt H p c) (s:SameN L H H') (n1:p ∉ L) (n2:c ∉ L):PoolAt H' p c:=by
 obtain ⟨k,cs,h1,h2,r⟩:=h
 exact ⟨k,cs,s _ _ n1 h1,s _ _ n2 h2,r⟩
def spMix:Sp:=fun vs H Q _=>∃ c k:Int,vs = [.int c,.int k]∧∀ r:Int,0≤r→Q (.int r) H
def spTk:Sp:=fun vs H Q _=>∃ (p c:Addr) (m:Int),vs = [.ref p,.int m]∧PoolAt H p c∧1≤m∧m < 2 ^ 80∧∀ (r:Int) H',0≤r→r < m→PoolAt H' p c→SameN [p,c] H H'→Q (.int r) H'
theorem ixN_in {n:Nat} {k:Int} (h0:0≤k) (h1:k < n):ixN n k = some k.toNat:=by
 unfold ixN
 rw [if_pos h0,if_pos h1]
theorem atI_in {xs:List Int} {k:Int} (h0:0≤k) (h1:k < xs.length):∃ c,xs[k.toNat]? = some c∧atI (xs.map V.int) k = some (.int c):=by
 have e:xs[k.toNat]? = some (xs[k.toNat]'(by lia)):=List.getElem?_eq_getElem _
 refine ⟨_,e,?_⟩
 have h:=getI xs k.toNat (by lia)
 rw [show ((k.toNat:Nat):Int) = k by lia] at h
 exact h
theorem ok__law_mixed {f:Addr} {fd:FuncData} (F:Fun K "_law_mixed" "_law_mixed" s__law_mixed f fd) (T:Txt K mg c) :FnOk P w K mg base CX0 1 f fd ["_law_cell", "_law_k"] spMix:=by
 refine F.ok sc__law_mixed (fun vs H Q E h=>?_) (fun cdv A outer s H vs Q E hr h=>?_)
 ·obtain ⟨c,k,rfl,_⟩:=h
  rfl
 obtain ⟨c,k,rfl,q⟩:=h
 refine ⟨_,(pss_cons (ps_set (i:=2) sc__law_mixed.nd rfl (Or.inl rfl) (pe_op op_mod (pe_op op_add (pe_op op_add (pe_op op_mul (pe_op op_mod (pv 0) pe_int) pe_int) (pe_op op_mul (pv 1) pe_int)) pe_int) pe_int))
  (pss_cons (ps_set (i:=2) sc__law_mixed.nd rfl (Or.inl rfl) (pe_op op_mod (pe_op op_add (pe_op op_mul (pv 2) (pv 2)) (pe_op op_mul pe_int (pv 1))) pe_int))
  (pss_cons (ps_set (i:=3) sc__law_mixed.nd rfl (Or.inl rfl) (pe_op op_mod (pe_op op_add (pe_op op_add (pe_op op_mul (pv 2) pe_int) (pe_op op_mul (pv 1) pe_int)) pe_int) pe_int))
  (pss_one (ps_ret (pe_op op_fdiv (pe_op op_mod (pe_op op_mul (pv 3) (pv 3)) pe_int) pe_int)))))),?_⟩
 walk_at "o"
 exact q _ (Int.ediv_nonneg (Int.emod_nonneg _ (by decide)) (by decide))
theorem ok__law_take {f:Addr} {fd:FuncData} (F:Fun K "_law_take" "_law_take" s__law_take f fd) (T:Txt K mg c) (H__law_mixed:Has P w K mg base 1 "_law_mixed" ["_law_cell", "_law_k"] spMix):FnOk P w K mg base CX0 2 f fd ["_law_pool", "_law_most"] spTk:=by
 refine F.ok sc__law_take (fun vs H Q E h=>?_) (fun cdv A outer s H vs Q E hr h=>?_)
 ·obtain ⟨p,c,m,rfl,_⟩:=h
  rfl
 obtain ⟨p,c,m,rfl,pa,m1,m2,q⟩:=h
 refine ⟨_,(pss_cons (ps_set (i:=2) sc__law_take.nd rfl (Or.inl rfl) (pe_ix ix_list (pv 0) pe_int (fun _ _=>rfl)))
  (pss_cons (ps_set (i:=3) sc__law_take.nd rfl (Or.inl rfl) (pe_op op_mod (pe_ix ix_list (pv 0) pe_int (fun _ _=>rfl)) (pe_callB call_len_seq rfl T.n_len boot_len (pa_cons (pv 2) pa_nil))))
  (pss_cons (ps_asg (pe_op op_add (pe_ix ix_list (pv 0) pe_int (fun _ _=>rfl)) pe_int) (pg_sub (pv 0) pe_int set_list))
  (pss_cons (ps_set (i:=4) sc__law_take.nd rfl (Or.inl rfl) (pe_ix ix_list (pv 2) (pv 3) (fun _ _=>rfl)))
  (pss_cons (ps_if (pt_cmpR op_ge (pv 4) (pe_op op_pow pe_int pe_int) (nomark _))
   (pss_cons (ps_asg (pe_op op_fdivB (pv 4) (pv 1)) (pg_sub (pv 2) (pv 3) set_list))
   (pss_one (ps_ret (pe_op op_mod (pv 4) (pv 1)))))
   pss_nil)
  (pss_cons (ps_set (i:=5) sc__law_take.nd rfl (Or.inl rfl) pe_int)
  (pss_cons (ps_set (i:=6) sc__law_take.nd rfl (Or.inl rfl) pe_int)
  (pss_cons (ps_while PassesOwn.never (pt_cmpR op_lt (pv 6) (pv 1) (nomark _))
   (pss_cons (ps_set (i:=5) sc__law_take.nd rfl (Or.inl rfl) (pe_op op_add (pe_op op_mul (pv 5) (pe_op op_pow pe_int pe_int)) (pe_op op_mod (pe_fn H__law_mixed (hr.mono (by lia)) rfl (pa_cons (pv 4) (pa_cons (pe_op op_add (pe_op op_mul pe_int (pe_ix ix_list (pv 0) pe_int (fun _ _=>rfl))) (pe_op op_mod (pv 6) pe_int)) pa_nil))) (pe_op op_pow pe_int pe_int))))
   (pss_one (ps_set (i:=6) sc__law_take.nd rfl (Or.inl rfl) (pe_op op_mul (pv 6) (pe_op op_pow pe_int pe_int))))))
  (pss_one (ps_ret (pe_op op_mod (pv 5) (pv 1)))))))))))),?_⟩
 have npc:=pa.ne
 obtain ⟨k,cs,hp,hc,ne,cl,k0⟩:=pa
 have cl0:0 < cs.length:=List.length_pos_iff.mpr ne
 have lm:(cs.map V.int).length = cs.length:=List.length_map _
 have j0:=Int.emod_nonneg k (show (((cs.map V.int).length:Nat):Int) ≠ 0 by lia)
 have j1:=Int.emod_lt_of_pos k (show 0 < (((cs.map V.int).length:Nat):Int) by lia)
 have hp1:upd H p (.lst [.ref c,.int (k + 1)]) p = some (.lst [.ref c,.int (k + 1)]):=upd_same
 have hc1:upd H p (.lst [.ref c,.int (k + 1)]) c = some (.lst (cs.map V.int)):=by rw [upd_ne (Ne.symm npc)]; exact hc
 have x1:SameN [p,c] H (upd H p (.lst [.ref c,.int (k + 1)])):=SameN.upd (by simp)
 obtain ⟨cell,ec,ac⟩:=atI_in (xs:=cs) j0 (by lia)
 walk_at "o"
 refine ⟨c,_,_,_,rfl,rfl,SqL.of hc1,ac,?_⟩
 have lgm:=log_small (m:=m) (by lia) (by lia)
 refine ⟨_,rfl,_,_,rfl,rfl,⟨by decide,by decide,by decide⟩,_,_,rfl,rfl,_,rfl,?_⟩
 walk_at "c" <;> intro c0
 ·have ix:=ixN_in (n:=(cs.map V.int).length) j0 j1
  refine ⟨_,rfl,_,rfl,_,_,rfl,rfl,⟨by lia,lgm⟩,_,rfl,_,rfl,c,_,_,_,rfl,rfl,hc1,ix,?_⟩
  refine ⟨_,rfl,_,rfl,_,_,rfl,rfl,(by lia),?_⟩
  refine q _ _ (Int.emod_nonneg _ (by lia)) (Int.emod_lt_of_pos _ (by lia)) ⟨k + 1,cs.set (k % (((cs.map V.int).length:Nat):Int)).toNat (cell / m),?_,?_,?_,?_,by lia⟩ (x1.trans (SameN.upd (by simp)))
  ·rw [upd_ne npc]; exact hp1
  ·rw [upd_same,List.map_set]
  ·intro z
   have:=congrArg List.length z
   rw [List.length_set] at this
   exact absurd this (by show ¬ cs.length = 0; lia)
  ·rw [List.length_set]; exact cl
 ·refine while_by (fun σ H2=>∃ (nm room:Int),σ = [some (.ref p),some (.int m),some (.ref c),some (.int (k % (((cs.map V.int).length:Nat):Int))),some (.int cell),some (.int nm),some (.int room)]∧H2 = upd H p (.lst [.ref c,.int (k + 1)])∧0≤nm∧1≤room) (fun σ _=>match σ with | [_,_,_,_,_,_,some (V.int r)]=>(m - r).toNat | _=>0) ⟨0,1,rfl,rfl,by lia,by lia⟩ ?_ ?_
  ·rintro σ H2 ⟨nm,room,rfl,rfl,n0,r1⟩
   refine ⟨_,rfl,_,rfl,_,_,rfl,rfl,_,rfl,?_⟩
   walk_at "c" <;> intro c1
   ·refine ⟨_,rfl,_,_,rfl,rfl,⟨by decide,by decide,by decide⟩,_,_,rfl,rfl,.inr ⟨by decide,by decide⟩,?_⟩
    refine ⟨_,rfl,_,rfl,p,_,_,_,rfl,rfl,SqL.of hp1,rfl,_,_,rfl,rfl,.inl ⟨by decide,by decide⟩,_,rfl,_,_,rfl,rfl,(by show (0:Int) < 63; decide),_,_,rfl,rfl,cell,_,rfl,fun r r0=>?_⟩
    have e8:(10:Int) ^ (8:Int).toNat = 100000000:=by decide
    have re:=Int.emod_nonneg r (show (10:Int) ^ (8:Int).toNat ≠ 0 by rw [e8]; decide)
    refine ⟨_,_,rfl,rfl,⟨by decide,by decide,by decide⟩,_,_,rfl,rfl,(by show (0:Int) < 10 ^ (8:Int).toNat; rw [e8]; decide),_,_,rfl,rfl,?_⟩
    refine ⟨_,rfl,_,_,rfl,rfl,⟨by decide,by decide,by decide⟩,_,_,rfl,rfl,.inr ⟨by decide,by decide⟩,?_⟩
    refine ⟨⟨_,_,rfl,rfl,?_,?_⟩,?_⟩
    ·rw [e8] at re ⊢
     lia
    ·rw [e8]
     lia
    ·show (m - room * 10 ^ (8:Int).toNat).toNat < (m - room).toNat
     rw [e8]
     lia
   ·exact ⟨_,rfl,_,rfl,_,_,rfl,rfl,(by lia),q _ _ (Int.emod_nonneg _ (by lia)) (Int.emod_lt_of_pos _ (by lia)) ⟨k + 1,cs,hp1,hc1,ne,cl,by lia⟩ x1⟩
  ·rintro σ H2 Q1 Q2 hq ⟨v,e,v2,e2,i,j,e3,e4,b,e5,h⟩
   exact ⟨v,e,v2,e2,i,j,e3,e4,b,e5,hq _ _ h⟩
theorem PoolAt.news {H H':Hp} {p c:Addr} {r:Addr} (h:PoolAt H' p c) (s:SameN [p,c] H H') (n:H' r = none):H r = none:=by
 obtain ⟨k,cs,h1,h2,_⟩:=h
 cases e:H r with
 | none=>rfl
 | some o =>
  exfalso
  by_cases z1:r = p
  ·rw [z1,h1] at n; cases n
  ·by_cases z2:r = c
   ·rw [z2,h2] at n; cases n
   ·rw [s r o (by simp [z1,z2]) e] at n; cases n
theorem PoolAt.no {H:Hp} {p c l:Addr} (h:PoolAt H p c) (n:H l = none):l ∉ [p,c]:=by
 obtain ⟨k,cs,h1,h2,_⟩:=h
 intro z
 rcases List.mem_cons.mp z with z | z
 ·rw [z,h1] at n; cases n
 ·rw [List.mem_singleton.mp z,h2] at n; cases n
def tDisp1I (tk tv:TE):TE:=fun σ H Q=>∀ p,H p = none→tk σ (upd H p (.dK [])) fun kx H1=>tv σ H1 fun y H2=>∃ i,kx = .int i∧H2 p = some (.dK [])∧Q (.ref p) (upd H2 p (.dK [(.inl i,y)]))
theorem pe_disp1I {X:Cx} {pos:Pos} {k v:Expr} {tk tv:TE} (hk:PE X k tk) (hv:PE X v tv):PE X (.Dict [some k] [v] pos) (tDisp1I tk tv):=by
 intro pins s σ H Q I q
 have hn:=I.hok.fresh (Nat.le_refl s.heap.objs.size)
 have I1:=I.laid (a:=s.heap.objs.size) (o:=.dK []) (h':=s.heap.push { cls:=.type "dict",data:=.dict #[] }) (t':=s.toks) (fun _ _ q=>Heap.get?_push_of_some _ q) (Nat.le_refl _) (dk_none s.heap (inv_big I))
 refine wpAny_Dict_walk (knd:=mixKind X.prog X.w) rfl rfl nofun (by show 1≤15; decide) (pairTrees_cons_walk (thn (hk pins _ σ _ _ I1 (q _ hn)) fun u s1 ⟨kx,H1,I2,rk,q1⟩=>thn (hv pins s1 σ H1 _ I2 q1) fun w2 s2 ⟨y,H2,I3,ry,x,ek,e,q2⟩=>pairTrees_nil_walk ?_))
 subst ek
 obtain ⟨t,rfl⟩:=rk
 obtain ⟨z,hd,vs0,r0,dd⟩:=dk_at I3 e
 cases r0
 refine ⟨[(.inl x,w2)],⟨mixKind_int _ _ x t,rfl,True.intro⟩,dd,fun h' dd' hs=>⟨.ref s.heap.objs.size,_,?_,rfl,q2⟩⟩
 have he:∃ q,h'.get? s.heap.objs.size = some q:=let ⟨q,_,_,hq,_⟩:=dd'; ⟨q,hq⟩
 exact I3.write (x:=s.heap.objs.size) (e:=s.heap.objs.size) (by rw [e]; exact True.intro) (.inl rfl) (fun b q hb z=>(hs.2 b hb).trans z) he ⟨(by show 1≤sizeLine; decide),hd,[(.inl x,w2)],.cons ⟨rfl,ry⟩ .nil,dd'⟩
theorem pe_tupS {X:Cx} {es:List Expr} {t:TA} {pos:Pos} {x1:Nat} (h:Sl (PA X es t)):Sl (PE X (.Tuple es x1 pos) (tTup t)):=⟨pe_tup h.out⟩
theorem pa_consSS {X:Cx} {e:Expr} {es:List Expr} {te:TE} {t:TA} (ha:Sl (PE X e te)) (hr:Sl (PA X es t)) (hn:noStar e = true:=by rfl):Sl (PA X (e :: es) (tCons te t)):=⟨pa_consN ha.out hr.out hn⟩
theorem newO {H:Hp} {p:Addr} (h:H p = none) (o:HO):∃ G,upd H p o = G∧Same H G∧G p = some o:=⟨_,rfl,same_new h _,upd_same⟩
theorem newD {H:Hp} {p:Addr} (h:H p = none) (o o':HO):∃ G,upd (upd H p o) p o' = G∧Same H G∧G p = some o':=⟨_,rfl,fun b c e=>by have:=ne_of_none e h; rw [upd_ne this,upd_ne this]; exact e,upd_same⟩
theorem tp_cut {K:PySem.W.Frag} {H:Hp} {p:Addr} {xs:List V} (ys:List V) {lo hi:Option Int} {Q:V→Hp→Prop} (h:H p = some (.tup xs)) (nw:¬ (HT.sIx xs.length 0 lo = 0∧HT.sIx xs.length xs.length hi = xs.length)) (e:cutV xs lo hi = ys) (q:∀ t G,Same H G→G t = some (.tup ys)→Q (.ref t) G):rSlT K (.ref p) lo hi H Q :=
 ⟨p,xs,rfl,SqT.of h,nw,fun t ht=>q t _ (same_new ht _) (by rw [← e]; exact upd_same)⟩
theorem tp_cutN {K:PySem.W.Frag} {σ:L2.St} {H:Hp} {p:Addr} {xs:List V} (ys:List V) {lo:Option Int} {Q:V→Hp→Prop} (h:H p = some (.tup xs)) (nw:¬ (HT.sIx xs.length 0 lo = 0∧HT.sIx xs.length xs.length none = xs.length)) (e:cutV xs lo none = ys) (q:∀ t G,Same H G→G t = some (.tup ys)→Q (.ref t) G):tNoPart σ H (fun u H3=>rSlT K (.ref p) lo u H3 Q):=tp_cut ys h nw e q
theorem toPool {PT p c:Addr} {H H':Hp} (x:TO PT H) (pa:PoolAt H p c) (s:SameN [p,c] H H'):TO PT H':=by
 obtain ⟨k,cs,h1,h2,_⟩:=pa
 have np:∀ a o,H a = some o→(∀ as,o ≠ .lst as)→a ∉ [p,c]:=fun a o e n z=>by
  rcases List.mem_cons.mp z with z | z
  ·rw [z,h1] at e; cases e; exact n _ rfl
  ·rw [List.mem_singleton.mp z,h2] at e; cases e; exact n _ rfl
 obtain ⟨ps,e,t,z⟩:=x
 refine ⟨ps,s _ _ (np _ _ e nofun) e,t,?_⟩
 rcases z with z | ⟨c',z1,z2⟩
 ·exact .inl z
 ·exact .inr ⟨c',z1,s _ _ (np _ _ z2 nofun) z2⟩
theorem toLst {PT r:Addr} {H H':Hp} {xs:List V} (b:H r = some (.lst xs)) (x:TO PT H) (s:SameX PT H H'):H' r = some (.lst xs):=by
 obtain ⟨ps,e,t,z⟩:=x
 exact s _ _ (fun q=>by rw [q,e] at b; cases b) b
def spLaw (K:PySem.W.Frag) (PT:Addr):Sp:=fun vs H Q _=>∃ (a:Addr) (ns:List Int),vs = [.ref a]∧SqL K H a (ns.map V.int)∧ns.length≤63∧TO PT H∧∀ H',Q (.bl true) H'
theorem pickV {xs:List V} {k:Int} (h0:0≤k) (h1:k < xs.length) {Pr:V→Prop} (ha:∀ x ∈ xs,Pr x):∃ v,Pr v∧atI xs k = some v:=by
 have hk:k.toNat < xs.length:=by lia
 refine ⟨xs[k.toNat]'hk,ha _ (List.getElem_mem hk),?_⟩
 have:=atI_nat (List.getElem?_eq_getElem hk)
 rw [show ((k.toNat:Nat):Int) = k by lia] at this
 exact this
def AllV (Pr:V→Prop):List V→Prop
 | []=>True
 | x :: t=>Pr x∧AllV Pr t
theorem allV {Pr:V→Prop}:∀ {xs:List V},AllV Pr xs→∀ x ∈ xs,Pr x
 | [],_,_,h=>nomatch h
 | _ :: _,⟨a,b⟩,x,h=>(List.mem_cons.mp h).elim (fun e=>e ▸ a) (allV b x)
inductive OddO:HO→Prop where
 | l3:OddO (.lst [.int 3])
 | l0:OddO (.lst [])
 | t:OddO (.tup [.int 2,.int 3])
 | d0:OddO (.dK [])
 | d1:OddO (.dK [(.inl 1,.int 2)])
inductive ON (H H':Hp):V→Prop where
 | int (i:Int):ON H H' (.int i)
 | bl (b:Bool):ON H H' (.bl b)
 | str (x:Str):ON H H' (.str x)
 | non:ON H H' .non
 | ref {a:Addr} {o:HO} (n:H a = none) (h:H' a = some o) (k:OddO o):ON H H' (.ref a)
inductive OT (S:List Addr) (H:Hp):V→Prop where
 | int (i:Int):OT S H (.int i)
 | bl (b:Bool):OT S H (.bl b)
 | str (x:Str):OT S H (.str x)
 | non:OT S H .non
 | ref {a:Addr} {o:HO} (n:a ∉ S) (h:H a = some o) (k:OddO o):OT S H (.ref a)
theorem ON.ot {S:List Addr} {H H':Hp} {v:V} (t:ON H H' v) (h:∀ a ∈ S,∃ o,H a = some o):OT S H' v:=by
 cases t with
 | int i=>exact .int i
 | bl b=>exact .bl b
 | str x=>exact .str x
 | non=>exact .non
 | ref n e k=>exact .ref (fun z=>by obtain ⟨o,e'⟩:=h _ z; rw [n] at e'; cases e') e k
theorem OT.sameN {S:List Addr} {H H':Hp} {v:V} (t:OT S H v) (s:SameN S H H'):OT S H' v:=by
 cases t with
 | int i=>exact .int i
 | bl b=>exact .bl b
 | str x=>exact .str x
 | non=>exact .non
 | ref n e k=>exact .ref n (s _ _ n e) k
structure Gd (H:Hp) (v:V):Prop where
 th:Th H v
 sm:Sm1 H v
theorem OT.gd {S:List Addr} {H:Hp} {v:V} (t:OT S H v):Gd H v:=by
 cases t with
 | int i=>exact ⟨.int i,fun _ _ z=>nomatch z⟩
 | bl b=>exact ⟨.bl b,fun _ _ z=>nomatch z⟩
 | str x=>exact ⟨.str x,fun _ _ z=>nomatch z⟩
 | non=>exact ⟨.non,fun _ _ z=>nomatch z⟩
 | ref n e k =>
  refine ⟨?_,fun a kvs z h=>?_⟩
  ·cases k with
   | l3=>exact .lst e
   | l0=>exact .lst e
   | t=>exact .tup e
   | d0=>exact .dct e
   | d1=>exact .dct e
  ·cases z
   rw [e] at h
   cases h
   cases k <;> exact Nat.le_of_ble_eq_true rfl
theorem Gd.same {H H':Hp} {v:V} (g:Gd H v) (s:Same H H'):Gd H' v:=by
 obtain ⟨t,m⟩:=g
 refine ⟨t.same s,fun a kvs z h=>?_⟩
 subst z
 cases t with
 | lst e=>rw [s _ _ e] at h; cases h
 | tup e=>rw [s _ _ e] at h; cases h
 | dct e =>
  have:=s _ _ e
  rw [h] at this
  cases this
  exact m _ _ rfl e
theorem th_bool {K:PySem.W.Frag} {H:Hp} {v:V} (t:Th H v):∃ ty b,TyOf K H v ty∧PySem.W.kitOne K ty (.type "bool") = some b:=by
 cases t with
 | int i=>exact ⟨_,_,TyOf.int _,kit_int_bool _⟩
 | bl b=>exact ⟨_,_,TyOf.bl _,kit_bl_bl _⟩
 | str x=>exact ⟨_,false,TyOf.str _,by with_unfolding_all rfl⟩
 | non=>exact ⟨_,false,TyOf.non,by with_unfolding_all rfl⟩
 | lst h=>exact ⟨_,false,TyOf.lst h,by with_unfolding_all rfl⟩
 | tup h=>exact ⟨_,false,TyOf.tup h,by with_unfolding_all rfl⟩
 | dct h=>exact ⟨_,false,TyOf.dK h,by with_unfolding_all rfl⟩
def spOdd:Sp:=fun vs H Q _=>∃ k:Int,vs = [.int k]∧∀ v H',Same H H'→ON H H' v→Q v H'
theorem ok__law_odd {f:Addr} {fd:FuncData} (F:Fun K "_law_odd" "_law_odd" s__law_odd f fd) (T:Txt K mg c) :FnOk P w K mg base CX0 1 f fd ["_law_k"] spOdd:=by
 refine F.ok sc__law_odd (fun vs H Q E h=>?_) (fun cdv A outer s H vs Q E hr h=>?_)
 ·obtain ⟨k,rfl,_⟩:=h
  rfl
 obtain ⟨k,rfl,q⟩:=h
 refine slE ⟨_,(pss_consS (ps_setS (i:=1) sc__law_odd.nd rfl (Or.inl rfl) (pe_lstS (pa_consS pe_non (pa_consS pe_str (pa_consS pe_str (pa_consS pe_bl (pa_consS pe_bl (pa_consSS (pe_lstS (pa_consS pe_int pa_nilS)) (pa_consSS (pe_lstS pa_nilS) (pa_consSS (pe_tupS (pa_consS pe_int (pa_consS pe_int pa_nilS))) (pa_consS pe_dnewK (pa_consS (pe_disp1I pe_int pe_int) (pa_consS (pe_op op_pow pe_int pe_int) (pa_consS (pe_op op_sub pe_int (pe_op op_pow pe_int pe_int)) (pa_consS (pe_op op_pow pe_int pe_int) pa_nilS)))))))))))))))
  (pss_one (ps_ret (pe_ix ix_list (pv 1) (pe_op op_mod (pv 0) pe_int) (fun _ _=>rfl))))),?_⟩
 refine ⟨(by show 1≤sizeLine; decide),fun a1 h1=>?_⟩
 obtain ⟨G1,w1,s1,f1⟩:=newO h1 (.lst [.int 3])
 rw [w1]
 refine ⟨(by show 0≤sizeLine; decide),fun a2 h2=>?_⟩
 obtain ⟨G2,w2,s2,f2⟩:=newO h2 (.lst [])
 rw [w2]
 refine ⟨(by show 2≤sizeLine; decide),fun a3 h3=>?_⟩
 obtain ⟨G3,w3,s3,f3⟩:=newO h3 (.tup [.int 2,.int 3])
 rw [w3]
 refine fun a4 h4=>?_
 obtain ⟨G4,w4,s4,f4⟩:=newO h4 (.dK [])
 rw [w4]
 refine fun a5 h5=>⟨_,rfl,upd_same,?_⟩
 obtain ⟨G5,w5,s5,f5⟩:=newD h5 (.dK []) (.dK [(.inl 1,.int 2)])
 rw [w5]
 refine ⟨_,_,rfl,rfl,⟨by decide,by decide,by decide⟩,_,_,rfl,rfl,⟨by decide,by decide,by decide⟩,_,_,rfl,rfl,_,_,rfl,rfl,⟨by decide,by decide,by decide⟩,?_⟩
 refine ⟨(by show 13≤sizeLine; decide),fun l hl=>?_⟩
 have s6:=same_new hl (.lst [.non,.str (Str.ofString "7"),.str (Str.ofString ""),.bl true,.bl false,.ref a1,.ref a2,.ref a3,.ref a4,.ref a5,.int (10 ^ (20:Int).toNat),.int (0 - 10 ^ (20:Int).toNat),.int (10 ^ (30:Int).toNat)])
 have z5:=s5.trans s6
 have z4:=s4.trans z5
 have z3:=s3.trans z4
 have z2:=s2.trans z3
 have j0:=Int.emod_nonneg k (show (13:Int) ≠ 0 by decide)
 have j1:=Int.emod_lt_of_pos k (show (0:Int) < 13 by decide)
 have y2:=s1.trans s2
 have y3:=y2.trans s3
 have y4:=y3.trans s4
 obtain ⟨v,hv,ev⟩:=pickV (xs:=[.non,.str (Str.ofString "7"),.str (Str.ofString ""),.bl true,.bl false,.ref a1,.ref a2,.ref a3,.ref a4,.ref a5,.int (10 ^ (20:Int).toNat),.int (0 - 10 ^ (20:Int).toNat),.int (10 ^ (30:Int).toNat)]) (Pr:=ON H _) j0 j1 (allV ⟨.non,.str _,.str _,.bl _,.bl _,.ref h1 (z2 _ _ f1) .l3,.ref (Same.none s1 h2) (z3 _ _ f2) .l0,.ref (Same.none y2 h3) (z4 _ _ f3) .t,.ref (Same.none y3 h4) (z5 _ _ f4) .d0,.ref (Same.none y4 h5) (s6 _ _ f5) .d1,.int _,.int _,.int _,trivial⟩)
 exact ⟨_,rfl,_,rfl,_,_,rfl,rfl,(show (0:Int) < 13 by decide),l,_,_,_,rfl,rfl,SqL.of upd_same,ev,q _ _ (s1.trans z2) hv⟩
def spSame:Sp:=fun vs H Q _=>∃ (p q:Addr) (xs:List V),vs = [.ref p,.ref q]∧H p = some (.tup xs)∧H q = some (.tup xs)∧(∀ x ∈ xs,Gd H x)∧xs.length≤10∧Q (.bl true) H
theorem ok__law_same {f:Addr} {fd:FuncData} (F:Fun K "_law_same" "_law_same" s__law_same f fd) (T:Txt K mg c) :FnOkR P w K mg base (fun _=>CX0) true 1 f fd ["_law_found", "_law_due"] spSame:=by
 refine Fun.okR0 F sc__law_same (fun vs H Q E h=>?_) (fun cdv A outer s H vs Q E hr hh h=>?_)
 ·obtain ⟨p,q,xs,rfl,_⟩:=h
  rfl
 obtain ⟨p,q,xs,rfl,hp,hq,gd,ln,k⟩:=h
 refine ⟨_,(pss_cons (ps_if (PW.pt (pw_or (pt_not (pt_val (pe_callB call_isinst rfl T.n_isinstance boot_isinstance (pa_cons (pv 0) (pa_cons (pe_ty rfl T.n_tuple boot_tuple) pa_nil))))) (pw_or1 (pt_cmpR op_ne (pe_callB call_len_seq rfl T.n_len boot_len (pa_cons (pv 0) pa_nil)) (pe_callB call_len_seq rfl T.n_len boot_len (pa_cons (pv 1) pa_nil)) (nomark _)))))
   (pss_one (ps_ret pe_bl))
   pss_nil)
  (pss_cons (ps_forR PassesOwn.never (hd_wish (hd_in (hh rfl))) rfl T.n_range (pa_cons (pe_callB call_len_seq rfl T.n_len boot_len (pa_cons (pv 1) pa_nil)) pa_nil) (pg_name (i:=2) sc__law_same.nd rfl (Or.inl rfl))
   (pss_one (ps_if (PW.pt (pw_or (pt_cmpR op_ne (pe_callB call_isinst rfl T.n_isinstance boot_isinstance (pa_cons (pe_ix ix_tup (pv 0) (pv 2) (fun _ _=>rfl)) (pa_cons (pe_ty rfl T.n_bool boot_bool) pa_nil))) (pe_callB call_isinst rfl T.n_isinstance boot_isinstance (pa_cons (pe_ix ix_tup (pv 1) (pv 2) (fun _ _=>rfl)) (pa_cons (pe_ty rfl T.n_bool boot_bool) pa_nil))) (nomark _)) (pw_or1 (pt_cmpR (op_neM (by have:=(Nat.lt_of_succ_lt (hu_of hr)); exact this)) (pe_ix ix_tup (pv 0) (pv 2) (fun _ _=>rfl)) (pe_ix ix_tup (pv 1) (pv 2) (fun _ _=>rfl)) (nomark _)))))
    (pss_one (ps_ret pe_bl))
    pss_nil)))
  (pss_one (ps_ret pe_bl)))),?_⟩
 have L1000:(1000:Nat)≤sizeLine:=by decide
 refine ⟨_,rfl,_,_,_,_,_,rfl,rfl,TyOf.tup hp,rfl,_,rfl,iteF ?_⟩
 refine ⟨_,rfl,p,_,rfl,.inr (SqT.of hp),_,rfl,q,_,rfl,.inr (SqT.of hq),rfl,_,rfl,iteNS rfl ?_⟩
 refine ⟨_,rfl,q,_,rfl,.inr (SqT.of hq),_,rfl,(by lia),(by lia),for_range (n:=xs.length) (fun j σ G=>∃ y:Option V,σ = [some (.ref p),some (.ref q),y]∧G = H) ⟨_,rfl,rfl⟩ ?_ ?_⟩
 ·rintro j σ G hj ⟨y,rfl,rfl⟩
  have jl:j < xs.length:=by lia
  have ix:atI xs (0 + (j:Int)) = some xs[j]:=by rw [Int.zero_add]; exact atI_nat (List.getElem?_eq_getElem jl)
  obtain ⟨th,sm⟩:=gd _ (List.getElem_mem jl)
  obtain ⟨ty,b,e1,e2⟩:=th_bool (K:=K) th
  refine ⟨_,rfl,_,rfl,p,_,_,_,rfl,rfl,SqT.of hp,ix,_,_,_,_,_,rfl,rfl,e1,e2,?_⟩
  refine ⟨_,rfl,_,rfl,q,_,_,_,rfl,rfl,SqT.of hq,ix,_,_,_,_,_,rfl,rfl,e1,e2,rfl,_,rfl,iteNS rfl ?_⟩
  exact ⟨_,rfl,_,rfl,p,_,_,_,rfl,rfl,SqT.of hp,ix,_,rfl,_,rfl,q,_,_,_,rfl,rfl,SqT.of hq,ix,rfl,th,sm,_,rfl,iteF ⟨_,rfl,rfl⟩⟩
 ·rintro σ G ⟨y,rfl,rfl⟩
  exact k
def spAsk (c:Ad) (PT:Addr):Sp:=fun vs H Q E=>∃ (door:Int) (t:Addr) (x0 x1 x2 x3 x4 x5:V),vs = [.int door,.ref t]∧H t = some (.tup [x0,x1,x2,x3,x4,x5])∧0≤door∧door < 10∧Th H x0∧Th H x1∧Th H x2∧Th H x3∧Th H x4∧Th H x5∧TO PT H∧(∀ z,vAsk door x0 x1 x2 x3 x4 x5 = some z→EXP c z H E)∧(vAsk door x0 x1 x2 x3 x4 x5 = none→∀ v H',SameX PT H H'→TO PT H'→Q v H')
theorem va1 {d:Int} {x0 x1 x2 x3 x4 x5:V} (h:d < 5):vAsk d x0 x1 x2 x3 x4 x5 = vLine x0 x1 x2 x3:=by unfold vAsk; rw [if_pos h]
theorem va2 {d:Int} {x0 x1 x2 x3 x4 x5:V} (h:5≤d) (h2:d < 7):vAsk d x0 x1 x2 x3 x4 x5 = vGr x0 x1 x2 x3 x4 x5:=by unfold vAsk; rw [if_neg (by lia),if_pos h2]
theorem va3 {d:Int} {x0 x1 x2 x3 x4 x5:V} (h:7≤d) (h2:d < 9):vAsk d x0 x1 x2 x3 x4 x5 = vProd x0 x1 x2 x3 x4 x5:=by unfold vAsk; rw [if_neg (by lia),if_neg (by lia),if_pos h2]
theorem va4 {d:Int} {x0 x1 x2 x3 x4 x5:V} (h:9≤d):vAsk d x0 x1 x2 x3 x4 x5 = vEx x0 x1 x2:=by unfold vAsk; rw [if_neg (by lia),if_neg (by lia),if_neg (by lia)]
theorem ok__law_asked {f:Addr} {fd:FuncData} (F:Fun K "_law_asked" "_law_asked" s__law_asked f fd) (T:Txt K mg c) (H_exact_form:HasY P w K mg base 5 "exact_form" ["width", "top", "bottom"] (spExY c)) (H_least:HasY P w K mg base 6 "least" ["n", "m", "a", "b", "top", "bottom"] (spGrY c PT)) (H_fits:HasY P w K mg base 6 "fits" ["width", "top", "bottom", "factor", "addend", "total"] (spFit6 c)) (H_miss_of:HasY P w K mg base 6 "miss_of" ["width", "top", "bottom", "factor", "addend", "total"] (spMOY c PT)) (H_height:HasY P w K mg base 5 "height" ["n", "m", "a", "b", "x"] (spHt c)) (H_corners:HasY P w K mg base 5 "corners" ["n", "m", "a", "b"] (spL4 c)) (H_falls:HasY P w K mg base 5 "falls" ["n", "m", "a", "b"] (spL4 c)) (H_paper:HasY P w K mg base 5 "paper" ["n", "m", "a", "b"] (spL4 c)) (H_is_paper:HasY P w K mg base 5 "is_paper" ["n", "m", "a", "b", "thing"] (spIsP c)) (H_greatest:HasY P w K mg base 5 "greatest" ["n", "m", "a", "b", "top", "bottom"] (spGrY c PT)):FnOk P w K mg base (CX2 P w base) 7 f fd ["_law_door", "_law_things"] (spAsk c PT):=by
 refine Fun.okY F sc__law_asked (fun vs H Q E h=>?_) (fun cdv A outer s H vs Q E hr h=>?_)
 ·obtain ⟨d,t,x0,x1,x2,x3,x4,x5,rfl,_⟩:=h
  rfl
 obtain ⟨d,t,x0,x1,x2,x3,x4,x5,rfl,ht,d0,d1,t0,t1,t2,t3,t4,t5,to,q1,q2⟩:=h
 refine ⟨_,(pss_cons (ps_if (pt_cmpR op_lt (pv 0) pe_int (nomark _))
   (pss_cons (ps_asg (pv 1) (pg_tup rfl (pgs_cons (pg_name (i:=2) sc__law_asked.nd rfl (Or.inl rfl)) (pgs_cons (pg_name (i:=3) sc__law_asked.nd rfl (Or.inl rfl)) (pgs_cons (pg_name (i:=4) sc__law_asked.nd rfl (Or.inl rfl)) (pgs_cons (pg_name (i:=5) sc__law_asked.nd rfl (Or.inl rfl)) (pgs_cons (pg_name (i:=6) sc__law_asked.nd rfl (Or.inl rfl)) (pgs_cons (pg_name (i:=7) sc__law_asked.nd rfl (Or.inl rfl)) pgs_nil))))))))
   (pss_cons (ps_if (pt_cmpR op_eq (pv 0) pe_int (nomark _))
    (pss_one (ps_ret (pe_fnYX H_height (hr.mono (by lia)) rfl (pa_cons (pv 2) (pa_cons (pv 3) (pa_cons (pv 4) (pa_cons (pv 5) (pa_cons pe_int pa_nil))))))))
    pss_nil)
   (pss_cons (ps_if (pt_cmpR op_eq (pv 0) pe_int (nomark _))
    (pss_one (ps_ret (pe_fnYX H_corners (hr.mono (by lia)) rfl (pa_cons (pv 2) (pa_cons (pv 3) (pa_cons (pv 4) (pa_cons (pv 5) pa_nil)))))))
    pss_nil)
   (pss_cons (ps_if (pt_cmpR op_eq (pv 0) pe_int (nomark _))
    (pss_one (ps_ret (pe_fnYX H_falls (hr.mono (by lia)) rfl (pa_cons (pv 2) (pa_cons (pv 3) (pa_cons (pv 4) (pa_cons (pv 5) pa_nil)))))))
    pss_nil)
   (pss_cons (ps_if (pt_cmpR op_eq (pv 0) pe_int (nomark _))
    (pss_one (ps_ret (pe_fnYX H_paper (hr.mono (by lia)) rfl (pa_cons (pv 2) (pa_cons (pv 3) (pa_cons (pv 4) (pa_cons (pv 5) pa_nil)))))))
    pss_nil)
   (pss_cons (ps_if (pt_cmpR op_eq (pv 0) pe_int (nomark _))
    (pss_one (ps_ret (pe_fnYX H_is_paper (hr.mono (by lia)) rfl (pa_cons (pv 2) (pa_cons (pv 3) (pa_cons (pv 4) (pa_cons (pv 5) (pa_cons (pe_lst pa_nil) pa_nil))))))))
    pss_nil)
   (pss_cons (ps_if (pt_cmpR op_eq (pv 0) pe_int (nomark _))
    (pss_one (ps_ret (pe_fnYX H_greatest (hr.mono (by lia)) rfl (pa_consN (pv 2) (pa_consN (pv 3) (pa_consN (pv 4) (pa_consN (pv 5) (pa_consN (pv 6) (pa_consN (pv 7) pa_nil)))))))))
    pss_nil)
   (pss_one (ps_ret (pe_fnYX H_least (hr.mono (by lia)) rfl (pa_consN (pv 2) (pa_consN (pv 3) (pa_consN (pv 4) (pa_consN (pv 5) (pa_consN (pv 6) (pa_consN (pv 7) pa_nil))))))))))))))))
   pss_nil)
  (pss_cons (ps_asg (pv 1) (pg_tup rfl (pgs_cons (pg_name (i:=8) sc__law_asked.nd rfl (Or.inl rfl)) (pgs_cons (pg_name (i:=6) sc__law_asked.nd rfl (Or.inl rfl)) (pgs_cons (pg_name (i:=7) sc__law_asked.nd rfl (Or.inl rfl)) (pgs_cons (pg_name (i:=9) sc__law_asked.nd rfl (Or.inl rfl)) (pgs_cons (pg_name (i:=10) sc__law_asked.nd rfl (Or.inl rfl)) (pgs_cons (pg_name (i:=11) sc__law_asked.nd rfl (Or.inl rfl)) pgs_nil))))))))
  (pss_cons (ps_if (pt_cmpR op_eq (pv 0) pe_int (nomark _))
   (pss_one (ps_ret (pe_fnYX H_fits (hr.mono (by lia)) rfl (pa_consN (pv 8) (pa_consN (pv 6) (pa_consN (pv 7) (pa_consN (pv 9) (pa_consN (pv 10) (pa_consN (pv 11) pa_nil)))))))))
   pss_nil)
  (pss_cons (ps_if (pt_cmpR op_eq (pv 0) pe_int (nomark _))
   (pss_one (ps_ret (pe_fnYX H_miss_of (hr.mono (by lia)) rfl (pa_consN (pv 8) (pa_consN (pv 6) (pa_consN (pv 7) (pa_consN (pv 9) (pa_consN (pv 10) (pa_consN (pv 11) pa_nil)))))))))
   pss_nil)
  (pss_one (ps_ret (pe_fnYX H_exact_form (hr.mono (by lia)) rfl (pa_cons (pv 8) (pa_cons (pv 6) (pa_cons (pv 7) pa_nil)))))))))),?_⟩
 have fin:vAsk d x0 x1 x2 x3 x4 x5 = none→∀ v H',Same H H'→Q v H':=fun h v H' s=>q2 h v H' (SameX.of s) (to.mono s)
 refine ⟨_,rfl,_,_,rfl,rfl,_,rfl,?_⟩
 walk_at "c" <;> intro c7
 ·refine ⟨_,rfl,t,_,rfl,SqT.of ht,rfl,_,_,rfl,_,_,rfl,_,_,rfl,_,_,rfl,_,_,rfl,_,_,rfl,rfl,?_⟩
  refine ⟨_,rfl,rfl,_,rfl,?_⟩
  walk_at "c" <;> intro c0
  ·rw [va1 (by lia)] at q1 q2 fin
   exact ⟨_,rfl,_,rfl,_,rfl,_,rfl,_,_,_,_,rfl,t0,t1,t2,t3,q1,fin⟩
  refine ⟨_,rfl,rfl,_,rfl,?_⟩
  walk_at "c" <;> intro c1
  ·rw [va1 (by lia)] at q1 q2 fin
   exact ⟨_,rfl,_,rfl,_,rfl,_,rfl,_,_,_,_,rfl,t0,t1,t2,t3,q1,fin⟩
  refine ⟨_,rfl,rfl,_,rfl,?_⟩
  walk_at "c" <;> intro c2
  ·rw [va1 (by lia)] at q1 q2 fin
   exact ⟨_,rfl,_,rfl,_,rfl,_,rfl,_,_,_,_,rfl,t0,t1,t2,t3,q1,fin⟩
  refine ⟨_,rfl,rfl,_,rfl,?_⟩
  walk_at "c" <;> intro c3
  ·rw [va1 (by lia)] at q1 q2 fin
   exact ⟨_,rfl,_,rfl,_,rfl,_,rfl,_,_,_,_,rfl,t0,t1,t2,t3,q1,fin⟩
  refine ⟨_,rfl,rfl,_,rfl,?_⟩
  walk_at "c" <;> intro c4
  ·rw [va1 (by lia)] at q1 q2 fin
   refine ⟨_,rfl,_,rfl,_,rfl,_,rfl,(by show 0≤sizeLine; decide),fun l hl=>?_⟩
   have sl:=same_new hl (.lst [])
   exact ⟨_,_,_,_,l,rfl,upd_same,t0.same sl,t1.same sl,t2.same sl,t3.same sl,fun z hz=>(q1 z hz).same sl,fun h v H' s=>fin h v H' (sl.trans s)⟩
  refine ⟨_,rfl,rfl,_,rfl,?_⟩
  rw [va2 (by lia) (by lia)] at q1 q2 fin
  walk_at "c" <;> intro c5
  ·exact ⟨_,rfl,_,rfl,_,rfl,_,rfl,_,rfl,_,rfl,_,_,_,_,_,_,rfl,t0,t1,t2,t3,t4,t5,to,q1,q2⟩
  ·exact ⟨_,rfl,_,rfl,_,rfl,_,rfl,_,rfl,_,rfl,_,_,_,_,_,_,rfl,t0,t1,t2,t3,t4,t5,to,q1,q2⟩
 ·refine ⟨_,rfl,t,_,rfl,SqT.of ht,rfl,_,_,rfl,_,_,rfl,_,_,rfl,_,_,rfl,_,_,rfl,_,_,rfl,rfl,?_⟩
  refine ⟨_,rfl,rfl,_,rfl,?_⟩
  walk_at "c" <;> intro c8
  ·rw [va3 (by lia) (by lia)] at q1 q2 fin
   exact ⟨_,rfl,_,rfl,_,rfl,_,rfl,_,rfl,_,rfl,_,_,_,_,_,_,rfl,t0,t1,t2,t3,t4,t5,q1,fin⟩
  refine ⟨_,rfl,rfl,_,rfl,?_⟩
  walk_at "c" <;> intro c9
  ·rw [va3 (by lia) (by lia)] at q1 q2 fin
   exact ⟨_,rfl,_,rfl,_,rfl,_,rfl,_,rfl,_,rfl,_,_,_,_,_,_,rfl,t0,t1,t2,t3,t4,t5,to,q1,q2⟩
  ·rw [va4 (by lia)] at q1 q2 fin
   exact ⟨_,rfl,_,rfl,_,rfl,_,_,_,rfl,t0,t1,t2,q1,fin⟩
theorem boot_ValueError:bootBuiltins "ValueError" = some (.type "ValueError"):=PyProof.Rows.Boot.«ValueError»
theorem Txt.exf {K:PySem.W.Frag} {mg:Str→Option Value} {c:Ad} (T:Txt K mg c) (z:Rz):ExF K (z.cls c)∧PySem.W.kitOne K (.ref (z.cls c)) (.ref c.WiseError) = some true∧PySem.W.kitOne K (.ref (z.cls c)) (.type "ValueError") = some true∧PySem.W.hasDictIn K (z.cls c) = true∧PySem.W.findIn K (.ref (z.cls c)) "found" = some none:=by
 cases z with
 | ln v=>exact ⟨⟨T.kf_ga_NoLine,T.kf_gn_NoLine,T.kf_gc_NoLine,T.kf_mo_NoLine,T.kf_mb_NoLine⟩,kit_of T.kf_if__WiseError T.kf_tf_WiseError T.kf_mw_NoLine,kit_base rfl T.kf_mv_NoLine,T.kf_hd_NoLine,T.kf_nf_NoLine⟩
 | fr v=>exact ⟨⟨T.kf_ga_NoFraction,T.kf_gn_NoFraction,T.kf_gc_NoFraction,T.kf_mo_NoFraction,T.kf_mb_NoFraction⟩,kit_of T.kf_if__WiseError T.kf_tf_WiseError T.kf_mw_NoFraction,kit_base rfl T.kf_mv_NoFraction,T.kf_hd_NoFraction,T.kf_nf_NoFraction⟩
 | fm v=>exact ⟨⟨T.kf_ga_NoForm,T.kf_gn_NoForm,T.kf_gc_NoForm,T.kf_mo_NoForm,T.kf_mb_NoForm⟩,kit_of T.kf_if__WiseError T.kf_tf_WiseError T.kf_mw_NoForm,kit_base rfl T.kf_mv_NoForm,T.kf_hd_NoForm,T.kf_nf_NoForm⟩
 | wd v=>exact ⟨⟨T.kf_ga_NoWidth,T.kf_gn_NoWidth,T.kf_gc_NoWidth,T.kf_mo_NoWidth,T.kf_mb_NoWidth⟩,kit_of T.kf_if__WiseError T.kf_tf_WiseError T.kf_mw_NoWidth,kit_base rfl T.kf_mv_NoWidth,T.kf_hd_NoWidth,T.kf_nf_NoWidth⟩
theorem eqB {K:PySem.W.Frag} {H:Hp} {p q:Addr} {bs:List Bool} (hp:H p = some (.lst (bs.map V.bl))) (hq:H q = some (.lst (bs.map V.bl))):∃ as cs,SqL K H p as∧SqL K H q cs∧as.length = cs.length∧(∀ j,j < as.length→EqD K H 1 (as.getD j .non) (cs.getD j .non) true):=by
 refine ⟨_,_,SqL.of hp,SqL.of hq,rfl,fun j hj=>?_⟩
 rw [List.length_map] at hj
 have e:(bs.map V.bl).getD j .non = .bl bs[j]:=by rw [List.getD_eq_getElem?_getD,List.getElem?_map,List.getElem?_eq_getElem hj]; rfl
 rw [e]
 have:=EqD.flat (K:=K) (H:=H) (d:=1) (x:=.bl bs[j]) (y:=.bl bs[j]) rfl rfl
 rwa [show eqV (.bl bs[j]) (.bl bs[j]) = true by simp [eqV]] at this
def spAlone (c:Ad) (a:Addr) (cls:Value):Sp:=fun vs H Q _=>∃ z:Rz,vs = [.ref a,.str z.word]∧cls = .ref (z.cls c)∧∀ H',Same H H'→Q (.bl true) H'
theorem aT {n:Nat}:(List.range n).all (fun _=>true) = true:=by rw [List.all_eq_true]; intro _ _; rfl
theorem ok__law_alone {f:Addr} {fd:FuncData} (F:Fun K "_law_alone" "_law_alone" s__law_alone f fd) (T:Txt K mg c)  {xa:Addr} {xc:Value}:FnOkE P w K mg base xa xc 1 f fd ["_law_e", "_law_word"] ((spAlone c) xa xc):=by
 refine Fun.okE F sc__law_alone (fun vs H Q E h=>?_) (fun cdv A outer s H vs Q E hr hz h=>?_)
 ·obtain ⟨z,rfl,_⟩:=h
  rfl
 obtain ⟨z,rfl,rfl,q⟩:=h
 refine ⟨_,(pss_cons (ps_set (i:=2) sc__law_alone.nd rfl (Or.inl rfl) (pe_lst (pa_cons (pe_callB (call_isinstE (hde_in hz)) rfl T.n_isinstance boot_isinstance (pa_cons (pv 0) (pa_cons (pe_cls rfl T.g_NoLine) pa_nil))) (pa_cons (pe_callB (call_isinstE (hde_in hz)) rfl T.n_isinstance boot_isinstance (pa_cons (pv 0) (pa_cons (pe_cls rfl T.g_NoFraction) pa_nil))) (pa_cons (pe_callB (call_isinstE (hde_in hz)) rfl T.n_isinstance boot_isinstance (pa_cons (pv 0) (pa_cons (pe_cls rfl T.g_NoForm) pa_nil))) (pa_cons (pe_callB (call_isinstE (hde_in hz)) rfl T.n_isinstance boot_isinstance (pa_cons (pv 0) (pa_cons (pe_cls rfl T.g_NoWidth) pa_nil))) pa_nil))))))
  (pss_cons (ps_set (i:=3) sc__law_alone.nd rfl (Or.inl rfl) (pe_lst (pa_cons (pe_cmpR op_eq (pv 1) pe_str (nomark _)) (pa_cons (pe_cmpR op_eq (pv 1) pe_str (nomark _)) (pa_cons (pe_cmpR op_eq (pv 1) pe_str (nomark _)) (pa_cons (pe_cmpR op_eq (pv 1) pe_str (nomark _)) pa_nil))))))
  (pss_one (ps_ret (pe_and (pe_cmpR (op_eqLD (d:=1) (by have:=hu2 hr; exact this)) (pv 2) (pv 3) (nomark _)) (pe_and (pe_callB (call_isinstE (hde_in hz)) rfl T.n_isinstance boot_isinstance (pa_cons (pv 0) (pa_cons (pe_ty rfl T.n_ValueError boot_ValueError) pa_nil))) (pe_one (pe_callB (call_isinstE (hde_in hz)) rfl T.n_isinstance boot_isinstance (pa_cons (pv 0) (pa_cons (pe_cls rfl T.g_WiseError) pa_nil)))))))))),?_⟩
 obtain ⟨exf,kw,kv,_,_⟩:=T.exf z
 cases z with
 | ln v =>
  refine ⟨_,rfl,_,_,_,_,rfl,rfl,exf,rfl,kit_of T.kf_if__NoLine T.kf_tf_NoLine T.kf_mf_NoLine,?_⟩
  refine ⟨_,rfl,_,_,_,_,rfl,rfl,exf,rfl,kit_apart T.kf_if__NoFraction T.kf_tf_NoFraction T.kf_m_NoLine_NoFraction T.kf_mf_NoFraction,?_⟩
  refine ⟨_,rfl,_,_,_,_,rfl,rfl,exf,rfl,kit_apart T.kf_if__NoForm T.kf_tf_NoForm T.kf_m_NoLine_NoForm T.kf_mf_NoForm,?_⟩
  refine ⟨_,rfl,_,_,_,_,rfl,rfl,exf,rfl,kit_apart T.kf_if__NoWidth T.kf_tf_NoWidth T.kf_m_NoLine_NoWidth T.kf_mf_NoWidth,?_⟩
  refine ⟨(by show 4≤sizeLine; decide),fun l1 h1=>?_⟩
  refine ⟨_,rfl,rfl,_,rfl,rfl,_,rfl,rfl,_,rfl,rfl,(by show 4≤sizeLine; decide),fun l2 h2=>?_⟩
  have e_line:decide (V.str (Rz.word (.ln v)) = V.str (Str.ofString "line")) = true:=by show decide (V.str (Str.ofString "line") = V.str (Str.ofString "line")) = true; decide +kernel
  have e_fraction:decide (V.str (Rz.word (.ln v)) = V.str (Str.ofString "fraction")) = false:=by show decide (V.str (Str.ofString "line") = V.str (Str.ofString "fraction")) = false; decide +kernel
  have e_form:decide (V.str (Rz.word (.ln v)) = V.str (Str.ofString "form")) = false:=by show decide (V.str (Str.ofString "line") = V.str (Str.ofString "form")) = false; decide +kernel
  have e_width:decide (V.str (Rz.word (.ln v)) = V.str (Str.ofString "width")) = false:=by show decide (V.str (Str.ofString "line") = V.str (Str.ofString "width")) = false; decide +kernel
  rw [e_line,e_fraction,e_form,e_width]
  obtain ⟨as,cs,qa,qc,ln,eq⟩:=eqB (K:=K) (H:=upd (upd H l1 (.lst [.bl true,.bl false,.bl false,.bl false])) l2 (.lst [.bl true,.bl false,.bl false,.bl false])) (p:=l1) (q:=l2) (bs:=[true,false,false,false]) (same_new h2 _ _ _ upd_same) upd_same
  refine ⟨_,rfl,_,rfl,l1,l2,as,cs,fun _=>true,rfl,rfl,qa,qc,ln,eq,?_⟩
  rw [aT]
  refine ⟨_,rfl,iteT ?_⟩
  refine ⟨_,rfl,_,_,_,_,rfl,rfl,exf,rfl,kv,_,rfl,iteT ?_⟩
  exact ⟨_,rfl,_,_,_,_,rfl,rfl,exf,rfl,kw,q _ ((same_new h1 _).trans (same_new h2 _))⟩
 | fr v =>
  refine ⟨_,rfl,_,_,_,_,rfl,rfl,exf,rfl,kit_apart T.kf_if__NoLine T.kf_tf_NoLine T.kf_m_NoFraction_NoLine T.kf_mf_NoLine,?_⟩
  refine ⟨_,rfl,_,_,_,_,rfl,rfl,exf,rfl,kit_of T.kf_if__NoFraction T.kf_tf_NoFraction T.kf_mf_NoFraction,?_⟩
  refine ⟨_,rfl,_,_,_,_,rfl,rfl,exf,rfl,kit_apart T.kf_if__NoForm T.kf_tf_NoForm T.kf_m_NoFraction_NoForm T.kf_mf_NoForm,?_⟩
  refine ⟨_,rfl,_,_,_,_,rfl,rfl,exf,rfl,kit_apart T.kf_if__NoWidth T.kf_tf_NoWidth T.kf_m_NoFraction_NoWidth T.kf_mf_NoWidth,?_⟩
  refine ⟨(by show 4≤sizeLine; decide),fun l1 h1=>?_⟩
  refine ⟨_,rfl,rfl,_,rfl,rfl,_,rfl,rfl,_,rfl,rfl,(by show 4≤sizeLine; decide),fun l2 h2=>?_⟩
  have e_line:decide (V.str (Rz.word (.fr v)) = V.str (Str.ofString "line")) = false:=by show decide (V.str (Str.ofString "fraction") = V.str (Str.ofString "line")) = false; decide +kernel
  have e_fraction:decide (V.str (Rz.word (.fr v)) = V.str (Str.ofString "fraction")) = true:=by show decide (V.str (Str.ofString "fraction") = V.str (Str.ofString "fraction")) = true; decide +kernel
  have e_form:decide (V.str (Rz.word (.fr v)) = V.str (Str.ofString "form")) = false:=by show decide (V.str (Str.ofString "fraction") = V.str (Str.ofString "form")) = false; decide +kernel
  have e_width:decide (V.str (Rz.word (.fr v)) = V.str (Str.ofString "width")) = false:=by show decide (V.str (Str.ofString "fraction") = V.str (Str.ofString "width")) = false; decide +kernel
  rw [e_line,e_fraction,e_form,e_width]
  obtain ⟨as,cs,qa,qc,ln,eq⟩:=eqB (K:=K) (H:=upd (upd H l1 (.lst [.bl false,.bl true,.bl false,.bl false])) l2 (.lst [.bl false,.bl true,.bl false,.bl false])) (p:=l1) (q:=l2) (bs:=[false,true,false,false]) (same_new h2 _ _ _ upd_same) upd_same
  refine ⟨_,rfl,_,rfl,l1,l2,as,cs,fun _=>true,rfl,rfl,qa,qc,ln,eq,?_⟩
  rw [aT]
  refine ⟨_,rfl,iteT ?_⟩
  refine ⟨_,rfl,_,_,_,_,rfl,rfl,exf,rfl,kv,_,rfl,iteT ?_⟩
  exact ⟨_,rfl,_,_,_,_,rfl,rfl,exf,rfl,kw,q _ ((same_new h1 _).trans (same_new h2 _))⟩
 | fm v =>
  refine ⟨_,rfl,_,_,_,_,rfl,rfl,exf,rfl,kit_apart T.kf_if__NoLine T.kf_tf_NoLine T.kf_m_NoForm_NoLine T.kf_mf_NoLine,?_⟩
  refine ⟨_,rfl,_,_,_,_,rfl,rfl,exf,rfl,kit_apart T.kf_if__NoFraction T.kf_tf_NoFraction T.kf_m_NoForm_NoFraction T.kf_mf_NoFraction,?_⟩
  refine ⟨_,rfl,_,_,_,_,rfl,rfl,exf,rfl,kit_of T.kf_if__NoForm T.kf_tf_NoForm T.kf_mf_NoForm,?_⟩
  refine ⟨_,rfl,_,_,_,_,rfl,rfl,exf,rfl,kit_apart T.kf_if__NoWidth T.kf_tf_NoWidth T.kf_m_NoForm_NoWidth T.kf_mf_NoWidth,?_⟩
  refine ⟨(by show 4≤sizeLine; decide),fun l1 h1=>?_⟩
  refine ⟨_,rfl,rfl,_,rfl,rfl,_,rfl,rfl,_,rfl,rfl,(by show 4≤sizeLine; decide),fun l2 h2=>?_⟩
  have e_line:decide (V.str (Rz.word (.fm v)) = V.str (Str.ofString "line")) = false:=by show decide (V.str (Str.ofString "form") = V.str (Str.ofString "line")) = false; decide +kernel
  have e_fraction:decide (V.str (Rz.word (.fm v)) = V.str (Str.ofString "fraction")) = false:=by show decide (V.str (Str.ofString "form") = V.str (Str.ofString "fraction")) = false; decide +kernel
  have e_form:decide (V.str (Rz.word (.fm v)) = V.str (Str.ofString "form")) = true:=by show decide (V.str (Str.ofString "form") = V.str (Str.ofString "form")) = true; decide +kernel
  have e_width:decide (V.str (Rz.word (.fm v)) = V.str (Str.ofString "width")) = false:=by show decide (V.str (Str.ofString "form") = V.str (Str.ofString "width")) = false; decide +kernel
  rw [e_line,e_fraction,e_form,e_width]
  obtain ⟨as,cs,qa,qc,ln,eq⟩:=eqB (K:=K) (H:=upd (upd H l1 (.lst [.bl false,.bl false,.bl true,.bl false])) l2 (.lst [.bl false,.bl false,.bl true,.bl false])) (p:=l1) (q:=l2) (bs:=[false,false,true,false]) (same_new h2 _ _ _ upd_same) upd_same
  refine ⟨_,rfl,_,rfl,l1,l2,as,cs,fun _=>true,rfl,rfl,qa,qc,ln,eq,?_⟩
  rw [aT]
  refine ⟨_,rfl,iteT ?_⟩
  refine ⟨_,rfl,_,_,_,_,rfl,rfl,exf,rfl,kv,_,rfl,iteT ?_⟩
  exact ⟨_,rfl,_,_,_,_,rfl,rfl,exf,rfl,kw,q _ ((same_new h1 _).trans (same_new h2 _))⟩
 | wd v =>
  refine ⟨_,rfl,_,_,_,_,rfl,rfl,exf,rfl,kit_apart T.kf_if__NoLine T.kf_tf_NoLine T.kf_m_NoWidth_NoLine T.kf_mf_NoLine,?_⟩
  refine ⟨_,rfl,_,_,_,_,rfl,rfl,exf,rfl,kit_apart T.kf_if__NoFraction T.kf_tf_NoFraction T.kf_m_NoWidth_NoFraction T.kf_mf_NoFraction,?_⟩
  refine ⟨_,rfl,_,_,_,_,rfl,rfl,exf,rfl,kit_apart T.kf_if__NoForm T.kf_tf_NoForm T.kf_m_NoWidth_NoForm T.kf_mf_NoForm,?_⟩
  refine ⟨_,rfl,_,_,_,_,rfl,rfl,exf,rfl,kit_of T.kf_if__NoWidth T.kf_tf_NoWidth T.kf_mf_NoWidth,?_⟩
  refine ⟨(by show 4≤sizeLine; decide),fun l1 h1=>?_⟩
  refine ⟨_,rfl,rfl,_,rfl,rfl,_,rfl,rfl,_,rfl,rfl,(by show 4≤sizeLine; decide),fun l2 h2=>?_⟩
  have e_line:decide (V.str (Rz.word (.wd v)) = V.str (Str.ofString "line")) = false:=by show decide (V.str (Str.ofString "width") = V.str (Str.ofString "line")) = false; decide +kernel
  have e_fraction:decide (V.str (Rz.word (.wd v)) = V.str (Str.ofString "fraction")) = false:=by show decide (V.str (Str.ofString "width") = V.str (Str.ofString "fraction")) = false; decide +kernel
  have e_form:decide (V.str (Rz.word (.wd v)) = V.str (Str.ofString "form")) = false:=by show decide (V.str (Str.ofString "width") = V.str (Str.ofString "form")) = false; decide +kernel
  have e_width:decide (V.str (Rz.word (.wd v)) = V.str (Str.ofString "width")) = true:=by show decide (V.str (Str.ofString "width") = V.str (Str.ofString "width")) = true; decide +kernel
  rw [e_line,e_fraction,e_form,e_width]
  obtain ⟨as,cs,qa,qc,ln,eq⟩:=eqB (K:=K) (H:=upd (upd H l1 (.lst [.bl false,.bl false,.bl false,.bl true])) l2 (.lst [.bl false,.bl false,.bl false,.bl true])) (p:=l1) (q:=l2) (bs:=[false,false,false,true]) (same_new h2 _ _ _ upd_same) upd_same
  refine ⟨_,rfl,_,rfl,l1,l2,as,cs,fun _=>true,rfl,rfl,qa,qc,ln,eq,?_⟩
  rw [aT]
  refine ⟨_,rfl,iteT ?_⟩
  refine ⟨_,rfl,_,_,_,_,rfl,rfl,exf,rfl,kv,_,rfl,iteT ?_⟩
  exact ⟨_,rfl,_,_,_,_,rfl,rfl,exf,rfl,kw,q _ ((same_new h1 _).trans (same_new h2 _))⟩
theorem vAsk_shape {d:Int} {x0 x1 x2 x3 x4 x5:V} {z:Rz} (h:vAsk d x0 x1 x2 x3 x4 x5 = some z):z = .ln [x0,x1,x2,x3]∨(d≤6∧z = .fr [x4,x5])∨(6 < d∧z = .fr [x1,x2])∨z = .fm [x3,x4,x5]∨z = .wd x0:=by
 have line:∀ {z},vLine x0 x1 x2 x3 = some z→z = .ln [x0,x1,x2,x3]:=fun h=>by
  unfold vLine at h
  split at h
  ·cases h
  ·cases h; rfl
 have wid:∀ {z},vW x0 = some z→z = .wd x0:=fun h=>by
  unfold vW at h
  split at h
  ·cases h
  ·cases h; rfl
 by_cases c1:d < 5
 ·rw [va1 c1] at h
  exact .inl (line h)
 by_cases c2:d < 7
 ·rw [va2 (by lia) c2] at h
  cases e:vLine x0 x1 x2 x3 with
  | some z'=>rw [vGr_1 e] at h; cases h; exact .inl (line e)
  | none =>
   rw [vGr_2 e] at h
   unfold vFrac at h
   split at h
   ·cases h
   ·cases h; exact .inr (.inl ⟨by lia,rfl⟩)
 by_cases c3:d < 9
 ·rw [va3 (by lia) c3] at h
  cases e:vW x0 with
  | some z'=>rw [vProd_1 e] at h; cases h; exact .inr (.inr (.inr (.inr (wid e))))
  | none =>
   cases e2:(nw x1 && pw x2) with
   | false=>rw [vProd_2 e e2] at h; cases h; exact .inr (.inr (.inl ⟨by lia,rfl⟩))
   | true =>
    rw [vProd_3 e e2] at h
    unfold vForm at h
    split at h
    ·cases h
    ·cases h; exact .inr (.inr (.inr (.inl rfl)))
 ·rw [va4 (by lia)] at h
  cases e:vW x0 with
  | some z'=>rw [vEx_1 e] at h; cases h; exact .inr (.inr (.inr (.inr (wid e))))
  | none =>
   obtain ⟨w',rfl,w0,w1⟩:=vW_none e
   cases e2:(btw x2 1 (1 * 2 ^ w'.toNat - 1) && btw x1 0 (iv x2)) with
   | false=>rw [vEx_2 w0 w1 e2] at h; cases h; exact .inr (.inr (.inl ⟨by lia,rfl⟩))
   | true=>rw [vEx_3 w0 w1 e2] at h; cases h
def spAns (PT:Addr):Sp:=fun vs H Q _=>∃ (d:Int) (t:Addr) (x0 x1 x2 x3 x4 x5:V),vs = [.int d,.ref t]∧H t = some (.tup [x0,x1,x2,x3,x4,x5])∧0≤d∧d < 10∧(∀ x ∈ [x0,x1,x2,x3,x4,x5],Gd H x)∧TO PT H∧∀ l H',H' l = some (.lst [.str (wordO (vAsk d x0 x1 x2 x3 x4 x5)),.bl true])→SameX PT H H'→TO PT H'→Q (.ref l) H'
theorem ok__law_answer {f:Addr} {fd:FuncData} (F:Fun K "_law_answer" "_law_answer" s__law_answer f fd) (T:Txt K mg c) (H__law_asked:HasY P w K mg base 7 "_law_asked" ["_law_door", "_law_things"] (spAsk c PT)) (H__law_alone:HasE P w K mg base 1 "_law_alone" ["_law_e", "_law_word"] (spAlone c)) (H__law_same:HasR P w K mg base (fun _=>CX0) true 1 "_law_same" ["_law_found", "_law_due"] spSame):FnOk P w K mg base CX0 8 f fd ["_law_door", "_law_things"] (spAns PT):=by
 refine F.ok sc__law_answer (fun vs H Q E h=>?_) (fun cdv A outer s H vs Q E hr h=>?_)
 ·obtain ⟨d,t,x0,x1,x2,x3,x4,x5,rfl,_⟩:=h
  rfl
 obtain ⟨d,t,x0,x1,x2,x3,x4,x5,rfl,ht,d0,d1,gd,to,q⟩:=h
 refine ⟨_,(pss_cons (ps_tryYL (j:=2) (fun pins E=>(pss_one (ps_expr (pe_fnYT H__law_asked (hr.mono (by lia)) rfl (pa_cons (pv 0) (pa_cons (pv 1) pa_nil)))))) sc__law_answer.nd rfl rfl (.cons rfl T.g_NoLine (fun a oe hc=>(pss_one (ps_ret (pe_lst (pa_cons pe_str (pa_cons (pe_and (pe_fnE H__law_alone (room_any (hr.mono (by lia)) rfl rfl rfl) rfl (pa_cons (pv 2) (pa_cons pe_str pa_nil))) (pe_one (pe_fnG H__law_same (room_any (hr.mono (by lia)) rfl rfl rfl) (fun _=>(hd_caught hc rfl rfl)) rfl pat0 (pa_cons (pe_xf (a:=a) (oe:=oe) (List.mem_cons_self ..) (pv 2) rfl) (pa_cons (pe_slice sl_tup (pv 1) po_none (po_some pe_int)) pa_nil))))) pa_nil)))))) (.cons rfl T.g_NoFraction (fun a oe hc=>(pss_cons (ps_set (i:=3) sc__law_answer.nd rfl (Or.inl rfl) (pe_slice sl_tup (pv 1) (po_some pe_int) po_none))
    (pss_cons (ps_if (pt_cmpR op_gt (pv 0) pe_int (nomark _))
     (pss_one (ps_set (i:=3) sc__law_answer.nd rfl (Or.inl rfl) (pe_slice sl_tup (pv 1) (po_some pe_int) (po_some pe_int))))
     pss_nil)
    (pss_one (ps_ret (pe_lst (pa_cons pe_str (pa_cons (pe_and (pe_fnE H__law_alone (room_any (hr.mono (by lia)) rfl rfl rfl) rfl (pa_cons (pv 2) (pa_cons pe_str pa_nil))) (pe_one (pe_fnG H__law_same (room_any (hr.mono (by lia)) rfl rfl rfl) (fun _=>(hd_caught hc rfl rfl)) rfl pat0 (pa_cons (pe_xf (a:=a) (oe:=oe) (List.mem_cons_self ..) (pv 2) rfl) (pa_cons (pv 3) pa_nil))))) pa_nil)))))))) (.cons rfl T.g_NoForm (fun a oe hc=>(pss_one (ps_ret (pe_lst (pa_cons pe_str (pa_cons (pe_and (pe_fnE H__law_alone (room_any (hr.mono (by lia)) rfl rfl rfl) rfl (pa_cons (pv 2) (pa_cons pe_str pa_nil))) (pe_one (pe_fnG H__law_same (room_any (hr.mono (by lia)) rfl rfl rfl) (fun _=>(hd_caught hc rfl rfl)) rfl pat0 (pa_cons (pe_xf (a:=a) (oe:=oe) (List.mem_cons_self ..) (pv 2) rfl) (pa_cons (pe_slice sl_tup (pv 1) (po_some pe_int) po_none) pa_nil))))) pa_nil)))))) (.cons rfl T.g_NoWidth (fun a oe hc=>(pss_one (ps_ret (pe_lst (pa_cons pe_str (pa_cons (pe_and (pe_fnE H__law_alone (room_any (hr.mono (by lia)) rfl rfl rfl) rfl (pa_cons (pv 2) (pa_cons pe_str pa_nil))) (pe_one (pe_fnG H__law_same (room_any (hr.mono (by lia)) rfl rfl rfl) (fun _=>(hd_caught hc rfl rfl)) rfl pat0 (pa_cons (pe_tup (pa_cons (pe_xf (a:=a) (oe:=oe) (List.mem_cons_self ..) (pv 2) rfl) pa_nil)) (pa_cons (pe_slice sl_tup (pv 1) po_none (po_some pe_int)) pa_nil))))) pa_nil)))))) .nil)))))
  (pss_one (ps_ret (pe_lst (pa_cons pe_str (pa_cons pe_bl pa_nil)))))),?_⟩
 have g0:=gd x0 (by simp)
 have g1:=gd x1 (by simp)
 have g2:=gd x2 (by simp)
 have g3:=gd x3 (by simp)
 have g4:=gd x4 (by simp)
 have g5:=gd x5 (by simp)
 refine ⟨_,rfl,_,rfl,d,t,x0,x1,x2,x3,x4,x5,rfl,ht,d0,d1,g0.th,g1.th,g2.th,g3.th,g4.th,g5.th,to,fun z hz=>?_,fun hn v H1 sx to1=>?_⟩
 ·have ww:wordO (vAsk d x0 x1 x2 x3 x4 x5) = z.word:=by rw [hz]; rfl
  rw [ww] at q
  intro d' x H1 s1 hx fn
  obtain ⟨exf,_,_,hd,nf⟩:=T.exf z
  have ht1:=s1 _ _ ht
  rcases vAsk_shape hz with rfl | ⟨dd,rfl⟩ | ⟨dd,rfl⟩ | rfl | rfl
  ·obtain ⟨t',rfl,hf⟩:=fn
   refine Or.inl ⟨exm_of T.kf_if__NoLine T.kf_tf_NoLine T.kf_mf_NoLine T.kf_wb_NoLine,fun a oe hcl hdi hnc ha=>?_⟩
   refine ⟨_,rfl,.ln [x0,x1,x2,x3],rfl,hcl,fun H2 s2=>⟨_,rfl,iteT ?_⟩⟩
   refine ⟨_,rfl,_,d',_,_,rfl,hcl,hdi,hnc,exf,hd,nf,s2 _ _ hx,rfl,_,rfl,_,rfl,tp_cut [x0,x1,x2,x3] (s2 _ _ ht1) (by show ¬ (0 = 0∧min 4 6 = 6); decide) rfl fun t2 G2 s3 f3=>?_⟩
   have z3:=(s1.trans s2).trans s3
   refine ⟨t',t2,_,rfl,(s2.trans s3) _ _ hf,f3,(fun y hy=>(gd y (List.mem_of_mem_take (i:=4) (l:=[x0,x1,x2,x3,x4,x5]) hy)).same z3),(by show 4≤10; decide),?_⟩
   refine ⟨(by show 2≤sizeLine; decide),fun l hl=>?_⟩
   exact q l _ upd_same (SameX.of (z3.trans (same_new hl _))) (to.mono (z3.trans (same_new hl _)))
  ·obtain ⟨t',rfl,hf⟩:=fn
   refine Or.inr ⟨exm_apart T.kf_if__NoLine T.kf_tf_NoLine T.kf_m_NoFraction_NoLine T.kf_wb_NoLine,Or.inl ⟨exm_of T.kf_if__NoFraction T.kf_tf_NoFraction T.kf_mf_NoFraction T.kf_wb_NoFraction,fun a oe hcl hdi hnc ha=>?_⟩⟩
   refine ⟨_,rfl,_,rfl,tp_cutN [x4,x5] ht1 (by show ¬ (min 4 6 = 0∧6 = 6); decide) rfl fun t2 G2 s2 f2=>?_⟩
   refine ⟨_,rfl,_,_,rfl,rfl,_,rfl,iteDN (by lia) ?_⟩
   refine ⟨_,rfl,.fr [x4,x5],rfl,hcl,fun H2 s3=>⟨_,rfl,iteT ?_⟩⟩
   have z3:=(s1.trans s2).trans s3
   refine ⟨_,rfl,_,d',_,_,rfl,hcl,hdi,hnc,exf,hd,nf,(s2.trans s3) _ _ hx,rfl,_,rfl,t',t2,_,rfl,(s2.trans s3) _ _ hf,s3 _ _ f2,(fun y hy=>(gd y (List.mem_of_mem_drop (i:=4) (l:=[x0,x1,x2,x3,x4,x5]) hy)).same z3),(by show 2≤10; decide),?_⟩
   refine ⟨(by show 2≤sizeLine; decide),fun l hl=>?_⟩
   exact q l _ upd_same (SameX.of (z3.trans (same_new hl _))) (to.mono (z3.trans (same_new hl _)))
  ·obtain ⟨t',rfl,hf⟩:=fn
   refine Or.inr ⟨exm_apart T.kf_if__NoLine T.kf_tf_NoLine T.kf_m_NoFraction_NoLine T.kf_wb_NoLine,Or.inl ⟨exm_of T.kf_if__NoFraction T.kf_tf_NoFraction T.kf_mf_NoFraction T.kf_wb_NoFraction,fun a oe hcl hdi hnc ha=>?_⟩⟩
   refine ⟨_,rfl,_,rfl,tp_cutN [x4,x5] ht1 (by show ¬ (min 4 6 = 0∧6 = 6); decide) rfl fun t0 G0 s0 f0=>?_⟩
   refine ⟨_,rfl,_,_,rfl,rfl,_,rfl,iteD (by lia) ?_⟩
   refine ⟨_,rfl,_,rfl,_,rfl,tp_cut [x1,x2] (s0 _ _ ht1) (by show ¬ (min 1 6 = 0∧min 3 6 = 6); decide) rfl fun t2 G2 s2' f2=>?_⟩
   have s2:=s0.trans s2'
   refine ⟨_,rfl,.fr [x1,x2],rfl,hcl,fun H2 s3=>⟨_,rfl,iteT ?_⟩⟩
   have z3:=(s1.trans s2).trans s3
   refine ⟨_,rfl,_,d',_,_,rfl,hcl,hdi,hnc,exf,hd,nf,(s2.trans s3) _ _ hx,rfl,_,rfl,t',t2,_,rfl,(s2.trans s3) _ _ hf,s3 _ _ f2,(fun y hy=>(gd y (List.mem_of_mem_take (i:=3) (l:=[x0,x1,x2,x3,x4,x5]) (List.mem_of_mem_drop (i:=1) (l:=[x0,x1,x2]) hy))).same z3),(by show 2≤10; decide),?_⟩
   refine ⟨(by show 2≤sizeLine; decide),fun l hl=>?_⟩
   exact q l _ upd_same (SameX.of (z3.trans (same_new hl _))) (to.mono (z3.trans (same_new hl _)))
  ·obtain ⟨t',rfl,hf⟩:=fn
   refine Or.inr ⟨exm_apart T.kf_if__NoLine T.kf_tf_NoLine T.kf_m_NoForm_NoLine T.kf_wb_NoLine,Or.inr ⟨exm_apart T.kf_if__NoFraction T.kf_tf_NoFraction T.kf_m_NoForm_NoFraction T.kf_wb_NoFraction,Or.inl ⟨exm_of T.kf_if__NoForm T.kf_tf_NoForm T.kf_mf_NoForm T.kf_wb_NoForm,fun a oe hcl hdi hnc ha=>?_⟩⟩⟩
   refine ⟨_,rfl,.fm [x3,x4,x5],rfl,hcl,fun H2 s2=>⟨_,rfl,iteT ?_⟩⟩
   refine ⟨_,rfl,_,d',_,_,rfl,hcl,hdi,hnc,exf,hd,nf,s2 _ _ hx,rfl,_,rfl,_,rfl,tp_cutN [x3,x4,x5] (s2 _ _ ht1) (by show ¬ (min 3 6 = 0∧6 = 6); decide) rfl fun t2 G2 s3 f3=>?_⟩
   have z3:=(s1.trans s2).trans s3
   refine ⟨t',t2,_,rfl,(s2.trans s3) _ _ hf,f3,(fun y hy=>(gd y (List.mem_of_mem_drop (i:=3) (l:=[x0,x1,x2,x3,x4,x5]) hy)).same z3),(by show 3≤10; decide),?_⟩
   refine ⟨(by show 2≤sizeLine; decide),fun l hl=>?_⟩
   exact q l _ upd_same (SameX.of (z3.trans (same_new hl _))) (to.mono (z3.trans (same_new hl _)))
  ·obtain rfl:x = x0:=fn
   refine Or.inr ⟨exm_apart T.kf_if__NoLine T.kf_tf_NoLine T.kf_m_NoWidth_NoLine T.kf_wb_NoLine,Or.inr ⟨exm_apart T.kf_if__NoFraction T.kf_tf_NoFraction T.kf_m_NoWidth_NoFraction T.kf_wb_NoFraction,Or.inr ⟨exm_apart T.kf_if__NoForm T.kf_tf_NoForm T.kf_m_NoWidth_NoForm T.kf_wb_NoForm,Or.inl ⟨exm_of T.kf_if__NoWidth T.kf_tf_NoWidth T.kf_mf_NoWidth T.kf_wb_NoWidth,fun a oe hcl hdi hnc ha=>?_⟩⟩⟩⟩
   refine ⟨_,rfl,.wd x,rfl,hcl,fun H2 s2=>⟨_,rfl,iteT ?_⟩⟩
   refine ⟨_,rfl,_,d',_,_,rfl,hcl,hdi,hnc,exf,hd,nf,s2 _ _ hx,rfl,(by show 1≤sizeLine; decide),fun t3 h3=>?_⟩
   obtain ⟨G3,w3,s3,f3⟩:=newO h3 (.tup [x])
   rw [w3]
   refine ⟨_,rfl,_,rfl,tp_cut [x] ((s2.trans s3) _ _ ht1) (by show ¬ (0 = 0∧min 1 6 = 6); decide) rfl fun t2 G2 s4 f4=>?_⟩
   have z3:=((s1.trans s2).trans s3).trans s4
   refine ⟨t3,t2,_,rfl,s4 _ _ f3,f4,(fun y hy=>by rw [List.mem_singleton.mp hy]; exact g0.same z3),(by show 1≤10; decide),?_⟩
   refine ⟨(by show 2≤sizeLine; decide),fun l hl=>?_⟩
   exact q l _ upd_same (SameX.of (z3.trans (same_new hl _))) (to.mono (z3.trans (same_new hl _)))
 ·rw [hn] at q
  refine ⟨(by show 2≤sizeLine; decide),fun l hl=>?_⟩
  exact q l _ upd_same (sx.trans (SameX.of (same_new hl _))) (to1.mono (same_new hl _))
theorem ok__law_number {f:Addr} {fd:FuncData} (F:Fun K "_law_number" "_law_number" s__law_number f fd) (T:Txt K mg c) :FnOk P w K mg base CX0 1 f fd ["_law_thing", "_law_low", "_law_high"] spBtwG:=by
 refine F.ok sc__law_number (fun vs H Q E h=>?_) (fun cdv A outer s H vs Q E hr h=>?_)
 ·obtain ⟨x,lo,hi,rfl,_⟩:=h
  rfl
 obtain ⟨x,lo,hi,rfl,th,q⟩:=h
 refine ⟨_,(pss_one (ps_ret (pe_and (pe_callB call_isinst rfl T.n_isinstance boot_isinstance (pa_cons (pv 0) (pa_cons (pe_ty rfl T.n_int boot_int) pa_nil))) (pe_and (pe_not (pe_callB call_isinst rfl T.n_isinstance boot_isinstance (pa_cons (pv 0) (pa_cons (pe_ty rfl T.n_bool boot_bool) pa_nil)))) (pe_one (pe_chain op_le op_le (pv 1) (pv 0) (pv 2))))))),?_⟩
 cases th with
 | int i =>
  refine ⟨_,rfl,_,_,_,_,_,rfl,rfl,TyOf.int _,kit_int_int _,_,rfl,iteT ?_⟩
  refine ⟨_,rfl,_,_,_,_,_,rfl,rfl,TyOf.int _,kit_int_bool _,_,rfl,_,rfl,iteT ?_⟩
  refine ⟨_,rfl,_,rfl,_,_,rfl,rfl,_,rfl,?_⟩
  by_cases c1:lo≤i
  ·refine iteD c1 ⟨_,rfl,_,_,rfl,rfl,?_⟩
   have e:btw (.int i) lo hi = decide (i≤hi):=by show (decide (lo≤i) && decide (i≤hi)) = _; rw [decide_eq_true c1,Bool.true_and]
   rw [e] at q
   exact q
  ·refine iteDN c1 ?_
   have e:btw (.int i) lo hi = false:=by show (decide (lo≤i) && decide (i≤hi)) = _; rw [decide_eq_false c1,Bool.false_and]
   rw [e] at q
   exact q
 | bl b =>
  refine ⟨_,rfl,_,_,_,_,_,rfl,rfl,TyOf.bl _,kit_bl_int _,_,rfl,iteT ?_⟩
  exact ⟨_,rfl,_,_,_,_,_,rfl,rfl,TyOf.bl _,kit_bl_bl _,_,rfl,_,rfl,iteF q⟩
 | str x=>exact ⟨_,rfl,_,_,_,_,_,rfl,rfl,TyOf.str _,kit_str_int _,_,rfl,iteF q⟩
 | non=>exact ⟨_,rfl,_,_,_,_,_,rfl,rfl,TyOf.non,kit_non_int _,_,rfl,iteF q⟩
 | lst h=>exact ⟨_,rfl,_,_,_,_,_,rfl,rfl,TyOf.lst h,kit_lst_int _,_,rfl,iteF q⟩
 | tup h=>exact ⟨_,rfl,_,_,_,_,_,rfl,rfl,TyOf.tup h,kit_tup_int _,_,rfl,iteF q⟩
 | dct h=>exact ⟨_,rfl,_,_,_,_,_,rfl,rfl,TyOf.dK h,kit_dct_int _,_,rfl,iteF q⟩
theorem eFar:(10:Int) ^ (20:Int).toNat - 1 = 99999999999999999999:=by decide
def spDueL:Sp:=fun vs H Q _=>∃ (d:Int) (t:Addr) (x0 x1 x2 x3 x4 x5:V),vs = [.int d,.ref t]∧H t = some (.tup [x0,x1,x2,x3,x4,x5])∧0≤d∧d < 7∧(∀ x ∈ [x0,x1,x2,x3,x4,x5],Gd H x)∧Q (.str (wordO (vAsk d x0 x1 x2 x3 x4 x5))) H
def spDueR:Sp:=fun vs H Q _=>∃ (d:Int) (t:Addr) (x0 x1 x2 x3 x4 x5:V),vs = [.int d,.ref t]∧H t = some (.tup [x0,x1,x2,x3,x4,x5])∧7≤d∧d < 10∧(∀ x ∈ [x0,x1,x2,x3,x4,x5],Gd H x)∧Q (.str (wordO (vAsk d x0 x1 x2 x3 x4 x5))) H
theorem vl_line {d:Int} {x0 x1 x2 x3 x4 x5:V} (h:vLine x0 x1 x2 x3 = some (.ln [x0,x1,x2,x3])) (d7:d < 7):wordO (vAsk d x0 x1 x2 x3 x4 x5) = "line":=by
 by_cases c:d < 5
 ·rw [va1 c,h]; rfl
 ·rw [va2 (by lia) d7,vGr_1 h]; rfl
theorem ok__law_due_of_line {f:Addr} {fd:FuncData} (F:Fun K "_law_due_of_line" "_law_due_of_line" s__law_due_of_line f fd) (T:Txt K mg c) (H__law_number:Has P w K mg base 1 "_law_number" ["_law_thing", "_law_low", "_law_high"] spBtwG):FnOk P w K mg base CX0 2 f fd ["_law_door", "_law_things"] spDueL:=by
 refine F.ok sc__law_due_of_line (fun vs H Q E h=>?_) (fun cdv A outer s H vs Q E hr h=>?_)
 ·obtain ⟨d,t,x0,x1,x2,x3,x4,x5,rfl,_⟩:=h
  rfl
 obtain ⟨d,t,x0,x1,x2,x3,x4,x5,rfl,ht,d0,d1,gd,q⟩:=h
 refine ⟨_,(pss_cons (ps_set (i:=2) sc__law_due_of_line.nd rfl (Or.inl rfl) (pe_op op_sub (pe_op op_pow pe_int pe_int) pe_int))
  (pss_cons (ps_asg (pv 1) (pg_tup rfl (pgs_cons (pg_name (i:=3) sc__law_due_of_line.nd rfl (Or.inl rfl)) (pgs_cons (pg_name (i:=4) sc__law_due_of_line.nd rfl (Or.inl rfl)) (pgs_cons (pg_name (i:=5) sc__law_due_of_line.nd rfl (Or.inl rfl)) (pgs_cons (pg_name (i:=6) sc__law_due_of_line.nd rfl (Or.inl rfl)) (pgs_cons (pg_name (i:=7) sc__law_due_of_line.nd rfl (Or.inl rfl)) (pgs_cons (pg_name (i:=8) sc__law_due_of_line.nd rfl (Or.inl rfl)) pgs_nil))))))))
  (pss_cons (ps_if (PW.pt (pw_or (pt_not (pt_val (pe_fn H__law_number (hr.mono (by lia)) rfl (pa_cons (pv 3) (pa_cons pe_int (pa_cons (pe_op op_pow pe_int pe_int) pa_nil)))))) (pw_or1 (pt_not (pt_val (pe_fn H__law_number (hr.mono (by lia)) rfl (pa_cons (pv 4) (pa_cons (pe_op op_sub pe_int (pv 2)) (pa_cons (pv 2) pa_nil)))))))))
   (pss_one (ps_ret pe_str))
   pss_nil)
  (pss_cons (ps_if (PW.pt (pw_or (pt_not (pt_val (pe_fn H__law_number (hr.mono (by lia)) rfl (pa_cons (pv 5) (pa_cons (pe_op op_sub pe_int (pv 2)) (pa_cons (pv 2) pa_nil)))))) (pw_or1 (pt_not (pt_val (pe_fn H__law_number (hr.mono (by lia)) rfl (pa_cons (pv 6) (pa_cons pe_int (pa_cons (pv 2) pa_nil)))))))))
   (pss_one (ps_ret pe_str))
   pss_nil)
  (pss_cons (ps_if (PW.pt (pw_and (pt_cmpR op_gt (pv 0) pe_int (nomark _)) (pw_and1 (pt_not (PW.pt (pw_and (pt_val (pe_fn H__law_number (hr.mono (by lia)) rfl (pa_cons (pv 7) (pa_cons (pe_op op_sub pe_int (pv 2)) (pa_cons (pv 2) pa_nil))))) (pw_and1 (pt_val (pe_fn H__law_number (hr.mono (by lia)) rfl (pa_cons (pv 8) (pa_cons pe_int (pa_cons (pv 2) pa_nil))))))))))))
   (pss_one (ps_ret pe_str))
   pss_nil)
  (pss_one (ps_ret pe_str))))))),?_⟩
 have t0:=(gd x0 (by simp)).th
 have t1:=(gd x1 (by simp)).th
 have t2:=(gd x2 (by simp)).th
 have t3:=(gd x3 (by simp)).th
 have t4:=(gd x4 (by simp)).th
 have t5:=(gd x5 (by simp)).th
 have e40:(2:Int) ^ (40:Int).toNat = 1099511627776:=by decide
 have eN:(0:Int) - 99999999999999999999 = -99999999999999999999:=by decide
 refine ⟨_,_,rfl,rfl,⟨by decide,by decide,by decide⟩,_,_,rfl,rfl,?_⟩
 refine ⟨_,rfl,t,_,rfl,SqT.of ht,rfl,_,_,rfl,_,_,rfl,_,_,rfl,_,_,rfl,_,_,rfl,_,_,rfl,rfl,?_⟩
 refine ⟨_,rfl,_,_,rfl,rfl,⟨by decide,by decide,by decide⟩,_,_,_,rfl,t0,?_⟩
 rw [e40]
 cases e0:btw x0 0 1099511627776 with
 | false =>
  rw [vl_line (vLine_no (by rw [e0]; rfl)) d1] at q
  exact ⟨_,rfl,iteT q⟩
 | true =>
 refine ⟨_,rfl,iteF ⟨_,rfl,_,rfl,_,_,rfl,rfl,_,rfl,_,_,_,rfl,t1,?_⟩⟩
 rw [show btw x1 (0 - (10 ^ (20:Int).toNat - 1)) (10 ^ (20:Int).toNat - 1) = btw x1 (-99999999999999999999) 99999999999999999999 from by rw [eFar]; rfl] 
 cases e1:btw x1 (-99999999999999999999) 99999999999999999999 with
 | false =>
  rw [vl_line (vLine_no (by rw [e0,show sh x1 = false from e1]; rfl)) d1] at q
  exact ⟨_,rfl,iteT q⟩
 | true =>
 refine ⟨_,rfl,iteF ⟨_,rfl,_,rfl,_,_,rfl,rfl,_,rfl,_,_,_,rfl,t2,?_⟩⟩
 rw [show btw x2 (0 - (10 ^ (20:Int).toNat - 1)) (10 ^ (20:Int).toNat - 1) = btw x2 (-99999999999999999999) 99999999999999999999 from by rw [eFar]; rfl] 
 cases e2:btw x2 (-99999999999999999999) 99999999999999999999 with
 | false =>
  rw [vl_line (vLine_no (by rw [e0,show sh x1 = true from e1,show sh x2 = false from e2]; rfl)) d1] at q
  exact ⟨_,rfl,iteT q⟩
 | true =>
 refine ⟨_,rfl,iteF ⟨_,rfl,_,rfl,_,_,_,rfl,t3,?_⟩⟩
 rw [show btw x3 1 (10 ^ (20:Int).toNat - 1) = btw x3 1 99999999999999999999 from by rw [eFar]] 
 cases e3:btw x3 1 99999999999999999999 with
 | false =>
  rw [vl_line (vLine_no (by rw [e0,show sh x1 = true from e1,show sh x2 = true from e2,show pw x3 = false from e3]; rfl)) d1] at q
  exact ⟨_,rfl,iteT q⟩
 | true =>
 have L:vLine x0 x1 x2 x3 = none:=vLine_ok (by rw [e0,show sh x1 = true from e1,show sh x2 = true from e2,show pw x3 = true from e3]; rfl)
 refine ⟨_,rfl,iteF ⟨_,rfl,_,_,rfl,rfl,_,rfl,?_⟩⟩
 walk_at "c" <;> intro c5
 ·rw [va2 (by lia) d1,vGr_2 L] at q
  refine ⟨_,rfl,_,rfl,_,_,rfl,rfl,_,rfl,_,_,_,rfl,t4,?_⟩
  rw [show btw x4 (0 - (10 ^ (20:Int).toNat - 1)) (10 ^ (20:Int).toNat - 1) = btw x4 (-99999999999999999999) 99999999999999999999 from by rw [eFar]; rfl] 
  cases e4:btw x4 (-99999999999999999999) 99999999999999999999 with
  | false =>
   rw [vFrac_no (by rw [show sh x4 = false from e4]; rfl)] at q
   exact ⟨_,rfl,iteF (iteT q)⟩
  | true =>
  refine ⟨_,rfl,iteT ⟨_,rfl,_,rfl,_,_,_,rfl,t5,?_⟩⟩
  rw [show btw x5 1 (10 ^ (20:Int).toNat - 1) = btw x5 1 99999999999999999999 from by rw [eFar]] 
  cases e5:btw x5 1 99999999999999999999 with
  | false =>
   rw [vFrac_no (by rw [show sh x4 = true from e4,show pw x5 = false from e5]; rfl)] at q
   exact ⟨_,rfl,q⟩
  | true =>
   rw [vFrac_ok (by rw [show sh x4 = true from e4,show pw x5 = true from e5]; rfl)] at q
   exact ⟨_,rfl,q⟩
 ·rw [va1 (by lia),L] at q
  exact q
theorem vp_word {d:Int} {x0 x1 x2 x3 x4 x5:V} {z:Rz} (d0:7≤d) (h:vW x0 = some z):wordO (vAsk d x0 x1 x2 x3 x4 x5) = z.word:=by
 by_cases c:d < 9
 ·rw [va3 d0 c,vProd_1 h]; rfl
 ·rw [va4 (by lia),vEx_1 h]; rfl
theorem far_bad {w:Int} {t b:V} (w1:w≤32) (h:(nw t && pw b) = false):(btw b 1 (1 * 2 ^ w.toNat - 1) && btw t 0 (iv b)) = false:=by
 have W:=p32 w1
 rw [Bool.and_eq_false_iff] at h ⊢
 rcases h with h | h
 ·cases e:btw b 1 (1 * 2 ^ w.toNat - 1) with
  | false=>exact .inl rfl
  | true =>
   obtain ⟨b',rfl,b0,b1⟩:=btw_int e
   exact .inr (btw_sub h (Int.le_refl 0) (by show b'≤_; lia))
 ·exact .inl (btw_sub h (Int.le_refl 1) (by lia))
theorem ok__law_due_of_row {f:Addr} {fd:FuncData} (F:Fun K "_law_due_of_row" "_law_due_of_row" s__law_due_of_row f fd) (T:Txt K mg c) (H__law_number:Has P w K mg base 1 "_law_number" ["_law_thing", "_law_low", "_law_high"] spBtwG):FnOk P w K mg base CX0 2 f fd ["_law_door", "_law_things"] spDueR:=by
 refine F.ok sc__law_due_of_row (fun vs H Q E h=>?_) (fun cdv A outer s H vs Q E hr h=>?_)
 ·obtain ⟨d,t,x0,x1,x2,x3,x4,x5,rfl,_⟩:=h
  rfl
 obtain ⟨d,t,x0,x1,x2,x3,x4,x5,rfl,ht,d0,d1,gd,q⟩:=h
 refine ⟨_,(pss_cons (ps_set (i:=2) sc__law_due_of_row.nd rfl (Or.inl rfl) (pe_op op_sub (pe_op op_pow pe_int pe_int) pe_int))
  (pss_cons (ps_asg (pv 1) (pg_tup rfl (pgs_cons (pg_name (i:=3) sc__law_due_of_row.nd rfl (Or.inl rfl)) (pgs_cons (pg_name (i:=4) sc__law_due_of_row.nd rfl (Or.inl rfl)) (pgs_cons (pg_name (i:=5) sc__law_due_of_row.nd rfl (Or.inl rfl)) (pgs_cons (pg_name (i:=6) sc__law_due_of_row.nd rfl (Or.inl rfl)) (pgs_cons (pg_name (i:=7) sc__law_due_of_row.nd rfl (Or.inl rfl)) (pgs_cons (pg_name (i:=8) sc__law_due_of_row.nd rfl (Or.inl rfl)) pgs_nil))))))))
  (pss_cons (ps_if (pt_not (pt_val (pe_fn H__law_number (hr.mono (by lia)) rfl (pa_cons (pv 3) (pa_cons pe_int (pa_cons pe_int pa_nil))))))
   (pss_one (ps_ret pe_str))
   pss_nil)
  (pss_cons (ps_if (PW.pt (pw_or (pt_not (pt_val (pe_fn H__law_number (hr.mono (by lia)) rfl (pa_cons (pv 4) (pa_cons pe_int (pa_cons (pv 2) pa_nil)))))) (pw_or1 (pt_not (pt_val (pe_fn H__law_number (hr.mono (by lia)) rfl (pa_cons (pv 5) (pa_cons pe_int (pa_cons (pv 2) pa_nil)))))))))
   (pss_one (ps_ret pe_str))
   pss_nil)
  (pss_cons (ps_if (PW.pt (pw_and (pt_cmpR op_eq (pv 0) pe_int (nomark _)) (pw_and1 (PW.pt (pw_or (pt_cmpR op_gt (pv 4) (pv 5) (nomark _)) (pw_or1 (pt_cmpR op_gt (pv 5) (pe_op op_sub (pe_op op_shlB pe_int (pv 3)) pe_int) (nomark _))))))))
   (pss_one (ps_ret pe_str))
   pss_nil)
  (pss_cons (ps_if (PW.pt (pw_and (pt_cmpR op_lt (pv 0) pe_int (nomark _)) (pw_and1 (pt_not (PW.pt (pw_and (pt_val (pe_fn H__law_number (hr.mono (by lia)) rfl (pa_cons (pv 6) (pa_cons pe_int (pa_cons (pv 2) pa_nil))))) (pw_and1 (pt_val (pe_fn H__law_number (hr.mono (by lia)) rfl (pa_cons (pv 7) (pa_cons pe_int (pa_cons (pv 2) pa_nil))))))))))))
   (pss_one (ps_ret pe_str))
   pss_nil)
  (pss_cons (ps_if (PW.pt (pw_and (pt_cmpR op_lt (pv 0) pe_int (nomark _)) (pw_and1 (pt_not (pt_val (pe_fn H__law_number (hr.mono (by lia)) rfl (pa_cons (pv 8) (pa_cons pe_int (pa_cons pe_int pa_nil)))))))))
   (pss_one (ps_ret pe_str))
   pss_nil)
  (pss_one (ps_ret pe_str))))))))),?_⟩
 have t0:=(gd x0 (by simp)).th
 have t1:=(gd x1 (by simp)).th
 have t2:=(gd x2 (by simp)).th
 have t3:=(gd x3 (by simp)).th
 have t4:=(gd x4 (by simp)).th
 have t5:=(gd x5 (by simp)).th
 refine ⟨_,_,rfl,rfl,⟨by decide,by decide,by decide⟩,_,_,rfl,rfl,?_⟩
 refine ⟨_,rfl,t,_,rfl,SqT.of ht,rfl,_,_,rfl,_,_,rfl,_,_,rfl,_,_,rfl,_,_,rfl,_,_,rfl,rfl,?_⟩
 refine ⟨_,rfl,_,_,_,rfl,t0,?_⟩
 cases e0:btw x0 4 32 with
 | false =>
  rw [vp_word d0 (vW_bad e0)] at q
  exact ⟨_,rfl,iteT q⟩
 | true =>
 have hw:=vW_ok e0
 obtain ⟨w',rfl,w0,w1⟩:=btw_int e0
 have W1:=p32 w1
 have bad:(nw x1 && pw x2) = false→wordO (vAsk d (.int w') x1 x2 x3 x4 x5) = "fraction":=fun h=>by
  by_cases c:d < 9
  ·rw [va3 d0 c,vProd_2 hw h]; rfl
  ·rw [va4 (by lia),vEx_2 w0 w1 (far_bad w1 h)]; rfl
 refine ⟨_,rfl,iteF ⟨_,rfl,_,rfl,_,_,_,rfl,t1,?_⟩⟩
 rw [show btw x1 0 (10 ^ (20:Int).toNat - 1) = btw x1 0 99999999999999999999 from by rw [eFar]] 
 cases e1:btw x1 0 99999999999999999999 with
 | false =>
  rw [bad (by rw [show nw x1 = false from e1]; rfl)] at q
  exact ⟨_,rfl,iteT q⟩
 | true =>
 refine ⟨_,rfl,iteF ⟨_,rfl,_,rfl,_,_,_,rfl,t2,?_⟩⟩
 rw [show btw x2 1 (10 ^ (20:Int).toNat - 1) = btw x2 1 99999999999999999999 from by rw [eFar]] 
 cases e2:btw x2 1 99999999999999999999 with
 | false =>
  rw [bad (by rw [show pw x2 = false from e2,Bool.and_false])] at q
  exact ⟨_,rfl,iteT q⟩
 | true =>
 have tb:(nw x1 && pw x2) = true:=by rw [show nw x1 = true from e1,show pw x2 = true from e2]; rfl
 obtain ⟨t',rfl,u0,u1⟩:=btw_int e1
 obtain ⟨b',rfl,b0,b1⟩:=btw_int e2
 have shw:(0≤w'∧w'≤100000∧intBits 1≤100000):=⟨by lia,by lia,b200 (by decide) (by decide)⟩
 refine ⟨_,rfl,iteF ⟨_,rfl,rfl,_,rfl,?_⟩⟩
 by_cases c9:d = 9
 ·subst c9
  refine iteD rfl ?_
  have vx:wordO (vAsk 9 (.int w') (.int t') (.int b') x3 x4 x5) = if t'≤b'∧b'≤1 * 2 ^ w'.toNat - 1 then "" else "fraction":=by
   rw [va4 (by lia)]
   split
   ·next h=>rw [vEx_3 w0 w1 (by rw [btw_of b0 h.2]; exact btw_of u0 h.1)]; rfl
   ·next h =>
    rw [vEx_2 w0 w1 (by
     rw [Bool.and_eq_false_iff]
     by_cases c:b'≤1 * 2 ^ w'.toNat - 1
     ·exact .inr (btw_out (.inr (by show b' < t'; lia)))
     ·exact .inl (btw_out (.inr (by lia))))]; rfl
  rw [vx] at q
  refine ⟨_,rfl,_,rfl,_,_,rfl,rfl,_,rfl,?_⟩
  by_cases c1:b' < t'
  ·rw [if_neg (by lia)] at q
   exact iteD c1 q
  refine iteDN c1 ⟨_,rfl,_,rfl,_,_,rfl,rfl,shw,_,_,rfl,rfl,_,_,rfl,rfl,_,rfl,?_⟩
  by_cases c2:1 * 2 ^ w'.toNat - 1 < b'
  ·rw [if_neg (by lia)] at q
   exact iteD c2 q
  rw [if_pos ⟨by lia,by lia⟩] at q
  refine iteDN c2 ?_
  refine ⟨_,rfl,_,_,rfl,rfl,_,rfl,iteDN (by decide) ?_⟩
  exact ⟨_,rfl,_,_,rfl,rfl,_,rfl,iteDN (by decide) q⟩
 ·refine iteDN (c:=V.int d = V.int 9) (fun z=>c9 (by injection z)) ?_
  rw [va3 d0 (by lia),vProd_3 hw tb] at q
  refine ⟨_,rfl,_,_,rfl,rfl,_,rfl,iteD (by lia) ?_⟩
  refine ⟨_,rfl,_,rfl,_,_,_,rfl,t3,?_⟩
  rw [show btw x3 0 (10 ^ (20:Int).toNat - 1) = btw x3 0 99999999999999999999 from by rw [eFar]] 
  cases e3:btw x3 0 99999999999999999999 with
  | false =>
   rw [vForm_no (by rw [show nw x3 = false from e3]; rfl)] at q
   exact ⟨_,rfl,iteF (iteT q)⟩
  | true =>
  refine ⟨_,rfl,iteT ⟨_,rfl,_,rfl,_,_,_,rfl,t4,?_⟩⟩
  rw [show btw x4 0 (10 ^ (20:Int).toNat - 1) = btw x4 0 99999999999999999999 from by rw [eFar]] 
  cases e4:btw x4 0 99999999999999999999 with
  | false =>
   rw [vForm_no (by rw [show nw x4 = false from e4,Bool.and_false]; rfl)] at q
   exact ⟨_,rfl,q⟩
  | true =>
  refine ⟨_,rfl,?_⟩
  refine ⟨_,rfl,_,_,rfl,rfl,_,rfl,iteD (by lia) ?_⟩
  refine ⟨_,rfl,_,_,_,rfl,t5,?_⟩
  cases e5:btw x5 0 64 with
  | false =>
   rw [vForm_no (by rw [e5,Bool.and_false])] at q
   exact ⟨_,rfl,q⟩
  | true =>
   rw [vForm_ok (by rw [show nw x3 = true from e3,show nw x4 = true from e4,e5]; rfl)] at q
   exact ⟨_,rfl,q⟩
theorem SameN.mono {L M:List Addr} {H G:Hp} (s:SameN L H G) (h:∀ a,a ∉ M→a ∉ L):SameN M H G:=fun a v n e=>s a v (h a n) e
structure Bz (H G:Hp) (p c T:Addr) (xs:List V):Prop where
 at_:G T = some (.lst xs)
 pa:PoolAt G p c
 s:SameN [p,c] H G
 n:T ∉ [p,c]
 f:H T = none
 ot:∀ x ∈ xs,OT [p,c,T] G x
theorem n3 {p c T a:Addr} (h:a ∉ [p,c,T]):a ∉ [p,c]:=fun z=>h (by
 rcases List.mem_cons.mp z with z | z
 ·rw [z]; exact List.mem_cons_self ..
 ·rw [List.mem_singleton.mp z]; exact List.mem_cons_of_mem _ (List.mem_cons_self ..))
theorem Bz.on {H G G':Hp} {p c T:Addr} {xs:List V} (b:Bz H G p c T xs) (x:SameN [p,c] G G') (pa:PoolAt G' p c):Bz H G' p c T xs :=
 ⟨x _ _ b.n b.at_,pa,b.s.trans x,b.n,b.f,fun y hy=>(b.ot y hy).sameN (x.mono fun _=>n3)⟩
theorem Bz.new {H G G':Hp} {p c T:Addr} {xs:List V} (b:Bz H G p c T xs) (s:Same G G'):Bz H G' p c T xs:=b.on (SameN.of s) (b.pa.same s)
theorem Bz.upd {H G:Hp} {p c T:Addr} {xs ys:List V} (b:Bz H G p c T xs) (h:∀ y ∈ ys,OT [p,c,T] G y):Bz H (upd G T (.lst ys)) p c T ys :=
 ⟨upd_same,b.pa.sameN (L:=[T]) (SameN.upd (List.mem_singleton.mpr rfl)) (fun z=>b.n (by rw [← List.mem_singleton.mp z]; exact List.mem_cons_self ..)) (fun z=>b.n (by rw [← List.mem_singleton.mp z]; exact List.mem_cons_of_mem _ (List.mem_cons_self ..))),
  fun a v n e=>by rw [upd_ne (ne_of_none e b.f)]; exact b.s a v n e,b.n,b.f,fun y hy=>(h y hy).sameN (SameN.upd (List.mem_cons_of_mem _ (List.mem_cons_of_mem _ (List.mem_cons_self ..))))⟩
theorem Bz.push {H G:Hp} {p c T:Addr} {xs:List V} (b:Bz H G p c T xs) (i:Int):Bz H (L2.upd G T (.lst (xs ++ [.int i]))) p c T (xs ++ [.int i]):=b.upd fun y hy=>by
 rcases List.mem_append.mp hy with hy | hy
 ·exact b.ot y hy
 ·rw [List.mem_singleton.mp hy]; exact .int i
theorem Bz.set {H G:Hp} {p c T:Addr} {xs:List V} (b:Bz H G p c T xs) {v:V} (h:OT [p,c,T] G v) (k:Nat):Bz H (L2.upd G T (.lst (xs.set k v))) p c T (xs.set k v):=b.upd fun y hy=>by
 rcases List.mem_or_eq_of_mem_set hy with hy | hy
 ·exact b.ot y hy
 ·rw [hy]; exact h
theorem Bz.odd {H G G':Hp} {p c T:Addr} {xs:List V} (b:Bz H G p c T xs) {v:V} (on:ON G G' v):OT [p,c,T] G' v:=on.ot fun a ha=>by
 obtain ⟨k,cs,h1,h2,_⟩:=b.pa
 rcases List.mem_cons.mp ha with rfl | ha
 ·exact ⟨_,h1⟩
 rcases List.mem_cons.mp ha with rfl | ha
 ·exact ⟨_,h2⟩
 ·rw [List.mem_singleton.mp ha]; exact ⟨_,b.at_⟩
def isInt (v:V):Prop:=∃ i:Int,v = .int i
def spThL:Sp:=fun vs H Q _=>∃ (p c:Addr),vs = [.ref p]∧PoolAt H p c∧∀ (t:Addr) (x0 x1 x2 x3 x4 x5:V) H',H' t = some (.tup [x0,x1,x2,x3,x4,x5])→(∀ x ∈ [x0,x1,x2,x3,x4,x5],Gd H' x)→SameN [p,c] H H'→PoolAt H' p c→Q (.ref t) H'
def spThR:Sp:=spThL
theorem six {xs:List V} (h:xs.length = 6):∃ x0 x1 x2 x3 x4 x5,xs = [x0,x1,x2,x3,x4,x5]:=by
 match xs,h with
 | [a,b,c,d,e,f],_=>exact ⟨a,b,c,d,e,f,rfl⟩
theorem Bz.end_ {H G:Hp} {p c T:Addr} {xs:List V} (b:Bz H G p c T xs) (l6:xs.length = 6) {Q:VK} (q:∀ (t:Addr) (x0 x1 x2 x3 x4 x5:V) H',H' t = some (.tup [x0,x1,x2,x3,x4,x5])→(∀ x ∈ [x0,x1,x2,x3,x4,x5],Gd H' x)→SameN [p,c] H H'→PoolAt H' p c→Q (.ref t) H') (t:Addr) (ht:G t = none):Q (.ref t) (L2.upd G t (.tup xs)):=by
 have s:=same_new ht (.tup xs)
 obtain ⟨x0,x1,x2,x3,x4,x5,rfl⟩:=six l6
 exact q t x0 x1 x2 x3 x4 x5 _ upd_same (fun x hx=>(b.ot x hx).gd.same s) (b.s.trans (SameN.of s)) (b.pa.same s)
abbrev sL (p:Addr) (T:Addr) (y3 y4 y5:Option V):L2.St:=[some (.ref p),some (.int (10 ^ (20:Int).toNat - 1)),some (.ref T),y3,y4,y5]
def JT (H:Hp) (p c T:Addr) (N:Nat):L2.St→Hp→Prop:=fun σ G=>∃ xs,σ = sL p T none none none∧Bz H G p c T xs∧xs.length = N
theorem ok__law_line_things {f:Addr} {fd:FuncData} (F:Fun K "_law_line_things" "_law_line_things" s__law_line_things f fd) (T:Txt K mg c) (H__law_take:Has P w K mg base 2 "_law_take" ["_law_pool", "_law_most"] spTk) (H__law_odd:Has P w K mg base 1 "_law_odd" ["_law_k"] spOdd):FnOk P w K mg base CX0 3 f fd ["_law_pool"] spThL:=by
 refine F.ok sc__law_line_things (fun vs H Q E h=>?_) (fun cdv A outer s H vs Q E hr h=>?_)
 ·obtain ⟨p,c,rfl,_⟩:=h
  rfl
 obtain ⟨p,c,rfl,pa,q⟩:=h
 refine slE ⟨_,(pss_consZ (slIn (ps_set (i:=1) sc__law_line_things.nd rfl (Or.inl rfl) (pe_op op_sub (pe_op op_pow pe_int pe_int) pe_int)))
  (pss_consZ (ps_setS (i:=2) sc__law_line_things.nd rfl (Or.inl rfl) (pe_lstS (pa_consZ (pe_ixS ix_list (pe_lstS (pa_consS pe_int (pa_consS pe_int (pa_consS pe_int (pa_consS (pe_op op_pow pe_int pe_int) pa_nilS))))) (pe_fn H__law_take (hr.mono (by lia)) rfl (pa_consN (pv 0) (pa_consN pe_int pa_nil))) (fun _ _=>rfl)) pa_nilS)))
  (pss_joinZ (ps_exprZ (pe_bmZ PySem.F.plainAttrs_list PySem.F.slot_list_append PySem.F.type_list_append mt_append (pv 2) (pa_consZ (pe_ixS ix_list (pe_lstS (pa_consS pe_int (pa_consS pe_int (pa_consS (pe_op op_sub pe_int pe_int) (pa_consS (pv 1) (pa_consS (pe_op op_sub pe_int (pv 1)) pa_nilS)))))) (pe_fn H__law_take (hr.mono (by lia)) rfl (pa_consN (pv 0) (pa_consN pe_int pa_nil))) (fun _ _=>rfl)) pa_nilS)))
  (pss_joinZ (ps_exprZ (pe_bmZ PySem.F.plainAttrs_list PySem.F.slot_list_append PySem.F.type_list_append mt_append (pv 2) (pa_consZ (pe_ixS ix_list (pe_lstS (pa_consS pe_int (pa_consS pe_int (pa_consS (pe_op op_sub pe_int pe_int) (pa_consS (pv 1) (pa_consS (pe_op op_sub pe_int (pv 1)) pa_nilS)))))) (pe_fn H__law_take (hr.mono (by lia)) rfl (pa_consN (pv 0) (pa_consN pe_int pa_nil))) (fun _ _=>rfl)) pa_nilS)))
  (pss_joinZ (ps_exprZ (pe_bmZ PySem.F.plainAttrs_list PySem.F.slot_list_append PySem.F.type_list_append mt_append (pv 2) (pa_consZ (pe_ixS ix_list (pe_lstS (pa_consS pe_int (pa_consS pe_int (pa_consS pe_int (pa_consS (pv 1) pa_nilS))))) (pe_fn H__law_take (hr.mono (by lia)) rfl (pa_consN (pv 0) (pa_consN pe_int pa_nil))) (fun _ _=>rfl)) pa_nilS)))
  (pss_joinZ (ps_exprZ (pe_bmZ PySem.F.plainAttrs_list PySem.F.slot_list_append PySem.F.type_list_append mt_append (pv 2) (pa_consZ (pe_ixS ix_list (pe_lstS (pa_consS pe_int (pa_consS pe_int (pa_consS (pe_op op_sub pe_int pe_int) (pa_consS (pv 1) (pa_consS (pe_op op_sub pe_int (pv 1)) pa_nilS)))))) (pe_fn H__law_take (hr.mono (by lia)) rfl (pa_consN (pv 0) (pa_consN pe_int pa_nil))) (fun _ _=>rfl)) pa_nilS)))
  (pss_joinZ (ps_exprZ (pe_bmZ PySem.F.plainAttrs_list PySem.F.slot_list_append PySem.F.type_list_append mt_append (pv 2) (pa_consZ (pe_ixS ix_list (pe_lstS (pa_consS pe_int (pa_consS pe_int (pa_consS (pv 1) pa_nilS)))) (pe_fn H__law_take (hr.mono (by lia)) rfl (pa_consN (pv 0) (pa_consN pe_int pa_nil))) (fun _ _=>rfl)) pa_nilS)))
  (pss_consZ (ps_forZ PassesOwn.never rfl (pi_range1 rfl T.n_range (pa_consN (pe_fn H__law_take (hr.mono (by lia)) rfl (pa_consN (pv 0) (pa_consN pe_int pa_nil))) pa_nil)) (pg_name (i:=3) sc__law_line_things.nd rfl (Or.inl rfl))
   (pss_consZ (slIn (ps_set (i:=4) sc__law_line_things.nd rfl (Or.inl rfl) (pe_fn H__law_take (hr.mono (by lia)) rfl (pa_consN (pv 0) (pa_consN pe_int pa_nil)))))
   (pss_joinZ (slIn (ps_asg (pe_fn H__law_odd (hr.mono (by lia)) rfl (pa_consN (pe_fn H__law_take (hr.mono (by lia)) rfl (pa_consN (pv 0) (pa_consN pe_int pa_nil))) pa_nil)) (pg_sub (pv 2) (pv 4) set_list)))
   (pss_oneZ (ps_ifZ (pt_cmpR op_eq (pe_fn H__law_take (hr.mono (by lia)) rfl (pa_consN (pv 0) (pa_consN pe_int pa_nil))) pe_int (nomark _))
    (pss_consZ (ps_setS (i:=5) sc__law_line_things.nd rfl (Or.inl rfl) (pe_ixS ix_list (pe_lstS (pa_consZ (pe_lstS (pa_consS (pe_op op_sub pe_int pe_int) (pa_consS (pe_op op_add (pe_op op_pow pe_int pe_int) pe_int) pa_nilS))) (pa_consZ (pe_lstS (pa_consS (pe_op op_add (pv 1) pe_int) pa_nilS)) (pa_consZ (pe_lstS (pa_consS (pe_op op_sub (pe_op op_sub pe_int (pv 1)) pe_int) pa_nilS)) (pa_consZ (pe_lstS (pa_consS pe_int (pa_consS (pe_op op_sub pe_int pe_int) pa_nilS))) (pa_consZ (pe_lstS (pa_consS (pe_op op_add (pv 1) pe_int) pa_nilS)) (pa_consZ (pe_lstS (pa_consS pe_int (pa_consS (pe_op op_sub pe_int pe_int) pa_nilS))) pa_nilS))))))) (pv 4) (fun _ _=>rfl)))
    (pss_oneZ (slIn (ps_asg (pe_ix ix_list (pv 5) (pe_fn H__law_take (hr.mono (by lia)) rfl (pa_consN (pv 0) (pa_consN (pe_callB call_len_seq rfl T.n_len boot_len (pa_consN (pv 5) pa_nil)) pa_nil))) (fun _ _=>rfl)) (pg_sub (pv 2) (pv 4) set_list)))))
    pss_nilZ)))))
  (pss_oneZ (slIn (ps_ret (pe_callTy call_tuple_of rfl T.n_tuple boot_tuple (pa_consN (pv 2) pa_nil))))))))))))),?_⟩
 have L1000:(1000:Nat)≤sizeLine:=by decide
 refine ⟨_,_,rfl,rfl,⟨by decide,by decide,by decide⟩,_,_,rfl,rfl,?_⟩
 refine ⟨_,_,rfl,rfl,⟨by decide,by decide,by decide⟩,(by show 4≤sizeLine; decide),fun l hl=>?_⟩
 obtain ⟨G0,w0,s0,f0⟩:=newO hl (.lst [.int 0,.int 1,.int 5,.int (2 ^ (40:Int).toNat)])
 rw [w0]
 refine ⟨_,rfl,p,c,_,rfl,pa.same s0,by decide,by decide,fun k H2 k0 k1 pa2 x2=>?_⟩
 obtain ⟨v,⟨i,rfl⟩,ev⟩:=pickV (xs:=[.int 0,.int 1,.int 5,.int (2 ^ (40:Int).toNat)]) (Pr:=isInt) k0 k1 (allV ⟨⟨_,rfl⟩,⟨_,rfl⟩,⟨_,rfl⟩,⟨_,rfl⟩,trivial⟩)
 refine ⟨l,_,_,_,rfl,rfl,SqL.of (x2 _ _ (pa.no hl) f0),ev,(by show 1≤sizeLine; decide),fun T hT=>?_⟩
 have s3:=same_new hT (.lst [.int i])
 have X2:SameN [p,c] H H2:=(SameN.of s0).trans x2
 have B0:Bz H (upd H2 T (.lst [.int i])) p c T [.int i]:=⟨upd_same,pa2.same s3,X2.trans (SameN.of s3),pa2.no hT,pa2.news X2 hT,fun x hx=>by rw [List.mem_singleton.mp hx]; exact .int i⟩
 generalize upd H2 T (.lst [.int i]) = G at B0 ⊢
 clear s3 X2 ev x2 pa2 f0 w0 s0 hT
 refine ⟨JT H p c T 2,?_,?_⟩
 ·refine ⟨_,rfl,.inl ⟨rfl,_,SqL.of B0.at_⟩,_,_,rfl,rfl,_,rfl,_,rfl,_,_,rfl,rfl,(by show 5≤sizeLine; decide),fun l hl=>?_⟩
  obtain ⟨G0,w0,s0,f0⟩:=newO hl (.lst [.int (0),.int (3),.int (0 - 7),.int ((10 ^ (20:Int).toNat - 1)),.int (0 - (10 ^ (20:Int).toNat - 1))])
  rw [w0]
  refine ⟨_,rfl,p,c,_,rfl,(B0.new s0).pa,by decide,by decide,fun k H2 k0 k1 pa2 x2=>?_⟩
  obtain ⟨v,⟨i',rfl⟩,ev⟩:=pickV (xs:=[.int (0),.int (3),.int (0 - 7),.int ((10 ^ (20:Int).toNat - 1)),.int (0 - (10 ^ (20:Int).toNat - 1))]) (Pr:=isInt) k0 k1 (allV ⟨⟨_,rfl⟩,⟨_,rfl⟩,⟨_,rfl⟩,⟨_,rfl⟩,⟨_,rfl⟩,trivial⟩)
  have B2:=(B0.new s0).on x2 pa2
  refine ⟨l,_,_,_,rfl,rfl,SqL.of (x2 _ _ (B0.pa.no hl) f0),ev,T,_,_,rfl,rfl,B2.at_,(by show 1 < _; lia),?_⟩
  exact ⟨_,rfl,B2.push i',by rw [List.length_append,(show [V.int i].length = 1 from rfl)]; rfl⟩
 clear B0 G
 rintro _ G ⟨xs,rfl,B,ln⟩
 refine ⟨JT H p c T 3,?_,?_⟩
 ·refine ⟨_,rfl,.inl ⟨rfl,_,SqL.of B.at_⟩,_,_,rfl,rfl,_,rfl,_,rfl,_,_,rfl,rfl,(by show 5≤sizeLine; decide),fun l hl=>?_⟩
  obtain ⟨G0,w0,s0,f0⟩:=newO hl (.lst [.int (0),.int (2),.int (0 - 9),.int ((10 ^ (20:Int).toNat - 1)),.int (0 - (10 ^ (20:Int).toNat - 1))])
  rw [w0]
  refine ⟨_,rfl,p,c,_,rfl,(B.new s0).pa,by decide,by decide,fun k H2 k0 k1 pa2 x2=>?_⟩
  obtain ⟨v,⟨i',rfl⟩,ev⟩:=pickV (xs:=[.int (0),.int (2),.int (0 - 9),.int ((10 ^ (20:Int).toNat - 1)),.int (0 - (10 ^ (20:Int).toNat - 1))]) (Pr:=isInt) k0 k1 (allV ⟨⟨_,rfl⟩,⟨_,rfl⟩,⟨_,rfl⟩,⟨_,rfl⟩,⟨_,rfl⟩,trivial⟩)
  have B2:=(B.new s0).on x2 pa2
  refine ⟨l,_,_,_,rfl,rfl,SqL.of (x2 _ _ (B.pa.no hl) f0),ev,T,_,_,rfl,rfl,B2.at_,(by lia),?_⟩
  exact ⟨_,rfl,B2.push i',by rw [List.length_append,ln]; rfl⟩
 rintro _ G ⟨xs,rfl,B,ln⟩
 refine ⟨JT H p c T 4,?_,?_⟩
 ·refine ⟨_,rfl,.inl ⟨rfl,_,SqL.of B.at_⟩,_,rfl,(by show 4≤sizeLine; decide),fun l hl=>?_⟩
  obtain ⟨G0,w0,s0,f0⟩:=newO hl (.lst [.int (1),.int (2),.int (11),.int ((10 ^ (20:Int).toNat - 1))])
  rw [w0]
  refine ⟨_,rfl,p,c,_,rfl,(B.new s0).pa,by decide,by decide,fun k H2 k0 k1 pa2 x2=>?_⟩
  obtain ⟨v,⟨i',rfl⟩,ev⟩:=pickV (xs:=[.int (1),.int (2),.int (11),.int ((10 ^ (20:Int).toNat - 1))]) (Pr:=isInt) k0 k1 (allV ⟨⟨_,rfl⟩,⟨_,rfl⟩,⟨_,rfl⟩,⟨_,rfl⟩,trivial⟩)
  have B2:=(B.new s0).on x2 pa2
  refine ⟨l,_,_,_,rfl,rfl,SqL.of (x2 _ _ (B.pa.no hl) f0),ev,T,_,_,rfl,rfl,B2.at_,(by lia),?_⟩
  exact ⟨_,rfl,B2.push i',by rw [List.length_append,ln]; rfl⟩
 rintro _ G ⟨xs,rfl,B,ln⟩
 refine ⟨JT H p c T 5,?_,?_⟩
 ·refine ⟨_,rfl,.inl ⟨rfl,_,SqL.of B.at_⟩,_,_,rfl,rfl,_,rfl,_,rfl,_,_,rfl,rfl,(by show 5≤sizeLine; decide),fun l hl=>?_⟩
  obtain ⟨G0,w0,s0,f0⟩:=newO hl (.lst [.int (0),.int (1),.int (0 - 4),.int ((10 ^ (20:Int).toNat - 1)),.int (0 - (10 ^ (20:Int).toNat - 1))])
  rw [w0]
  refine ⟨_,rfl,p,c,_,rfl,(B.new s0).pa,by decide,by decide,fun k H2 k0 k1 pa2 x2=>?_⟩
  obtain ⟨v,⟨i',rfl⟩,ev⟩:=pickV (xs:=[.int (0),.int (1),.int (0 - 4),.int ((10 ^ (20:Int).toNat - 1)),.int (0 - (10 ^ (20:Int).toNat - 1))]) (Pr:=isInt) k0 k1 (allV ⟨⟨_,rfl⟩,⟨_,rfl⟩,⟨_,rfl⟩,⟨_,rfl⟩,⟨_,rfl⟩,trivial⟩)
  have B2:=(B.new s0).on x2 pa2
  refine ⟨l,_,_,_,rfl,rfl,SqL.of (x2 _ _ (B.pa.no hl) f0),ev,T,_,_,rfl,rfl,B2.at_,(by lia),?_⟩
  exact ⟨_,rfl,B2.push i',by rw [List.length_append,ln]; rfl⟩
 rintro _ G ⟨xs,rfl,B,ln⟩
 refine ⟨JT H p c T 6,?_,?_⟩
 ·refine ⟨_,rfl,.inl ⟨rfl,_,SqL.of B.at_⟩,_,rfl,(by show 3≤sizeLine; decide),fun l hl=>?_⟩
  obtain ⟨G0,w0,s0,f0⟩:=newO hl (.lst [.int (1),.int (6),.int ((10 ^ (20:Int).toNat - 1))])
  rw [w0]
  refine ⟨_,rfl,p,c,_,rfl,(B.new s0).pa,by decide,by decide,fun k H2 k0 k1 pa2 x2=>?_⟩
  obtain ⟨v,⟨i',rfl⟩,ev⟩:=pickV (xs:=[.int (1),.int (6),.int ((10 ^ (20:Int).toNat - 1))]) (Pr:=isInt) k0 k1 (allV ⟨⟨_,rfl⟩,⟨_,rfl⟩,⟨_,rfl⟩,trivial⟩)
  have B2:=(B.new s0).on x2 pa2
  refine ⟨l,_,_,_,rfl,rfl,SqL.of (x2 _ _ (B.pa.no hl) f0),ev,T,_,_,rfl,rfl,B2.at_,(by lia),?_⟩
  exact ⟨_,rfl,B2.push i',by rw [List.length_append,ln]; rfl⟩
 rintro _ G ⟨xs,rfl,B,ln⟩
 refine ⟨_,rfl,p,c,_,rfl,B.pa,by decide,by decide,fun r G1 r0 r1 pa1 x1=>⟨_,rfl,by lia,by lia,for_range (n:=r.toNat) (fun j σ G=>∃ (y3 y4 y5:Option V) (xs:List V),σ = sL p T y3 y4 y5∧Bz H G p c T xs∧xs.length = 6) ⟨_,_,_,_,rfl,B.on x1 pa1,ln⟩ ?_ ?_⟩⟩
 ·clear B ln x1 pa1
  rintro j σ G hj ⟨y3,y4,y5,xs,rfl,B,ln⟩
  refine ⟨_,rfl,p,c,_,rfl,B.pa,by decide,by decide,fun at' G1 a0 a1 pa1 x1=>?_⟩
  have B1:=B.on x1 pa1
  refine ⟨fun σ G=>∃ ys:List V,σ = sL p T (some (.int (0 + (j:Int)))) (some (.int at')) y5∧Bz H G p c T ys∧ys.length = 6,?_,?_⟩
  ·refine ⟨_,rfl,p,c,_,rfl,pa1,by decide,by decide,fun k G2 k0 k1 pa2 x2=>⟨k,rfl,fun v G3 s3 on=>?_⟩⟩
   have B2:=B1.on x2 pa2
   have B3:=B2.new s3
   refine ⟨_,rfl,_,rfl,T,_,_,_,rfl,rfl,B3.at_,ixN_in (n:=xs.length) a0 (by lia),?_⟩
   exact ⟨_,rfl,B3.set (B2.odd on) at'.toNat,by rw [List.length_set]; exact ln⟩
  clear B B1 x1 pa1 ln
  rintro _ G4 ⟨ys,rfl,B4,l4⟩
  refine ⟨_,rfl,p,c,_,rfl,B4.pa,by decide,by decide,fun b G5 b0 b1 pa5 x5=>⟨rfl,_,rfl,?_⟩⟩
  have B5:=B4.on x5 pa5
  clear B4 x5 pa5
  walk_at "c" <;> intro cb
  rotate_left
  ·exact ⟨_,_,_,ys,rfl,B5,l4⟩
  refine ⟨_,_,rfl,rfl,_,_,rfl,rfl,⟨by decide,by decide,by decide⟩,_,_,rfl,rfl,(by show 2≤sizeLine; decide),fun m1 h1=>?_⟩
  obtain ⟨G6,w6,s6,f6⟩:=newO h1 (.lst [.int (0 - 1),.int (2 ^ (40:Int).toNat + 1)])
  rw [w6]
  refine ⟨_,rfl,_,_,rfl,rfl,(by show 1≤sizeLine; decide),fun m2 h2=>?_⟩
  obtain ⟨G7,w7,s7,f7⟩:=newO h2 (.lst [.int ((10 ^ (20:Int).toNat - 1) + 1)])
  rw [w7]
  refine ⟨_,rfl,_,_,rfl,rfl,_,_,rfl,rfl,(by show 1≤sizeLine; decide),fun m3 h3=>?_⟩
  obtain ⟨G8,w8,s8,f8⟩:=newO h3 (.lst [.int (0 - (10 ^ (20:Int).toNat - 1) - 1)])
  rw [w8]
  refine ⟨_,_,rfl,rfl,(by show 2≤sizeLine; decide),fun m4 h4=>?_⟩
  obtain ⟨G9,w9,s9,f9⟩:=newO h4 (.lst [.int 0,.int (0 - 3)])
  rw [w9]
  refine ⟨_,rfl,_,_,rfl,rfl,(by show 1≤sizeLine; decide),fun m5 h5=>?_⟩
  obtain ⟨G10,w10,s10,f10⟩:=newO h5 (.lst [.int ((10 ^ (20:Int).toNat - 1) + 1)])
  rw [w10]
  refine ⟨_,_,rfl,rfl,(by show 2≤sizeLine; decide),fun m6 h6=>?_⟩
  obtain ⟨G11,w11,s11,f11⟩:=newO h6 (.lst [.int 0,.int (0 - 1)])
  rw [w11]
  refine ⟨(by show 6≤sizeLine; decide),fun M hM=>?_⟩
  obtain ⟨G12,w12,s12,f12⟩:=newO hM (.lst [.ref m1,.ref m2,.ref m3,.ref m4,.ref m5,.ref m6])
  rw [w12]
  have z11:=s11.trans s12
  have z10:=s10.trans z11
  have z9:=s9.trans z10
  have z8:=s8.trans z9
  have z7:=s7.trans z8
  have y7:=s6.trans s7
  have y8:=y7.trans s8
  have y9:=y8.trans s9
  have y10:=y9.trans s10
  obtain ⟨v,⟨m,us,rfl,hm0,hm,u1,u2,ui⟩,ev⟩:=pickV (xs:=[.ref m1,.ref m2,.ref m3,.ref m4,.ref m5,.ref m6]) (Pr:=fun v=>∃ m us,v = .ref m∧G5 m = none∧G12 m = some (.lst us)∧1≤us.length∧us.length≤2∧∀ x ∈ us,isInt x) a0 a1 (allV ⟨⟨m1,_,rfl,h1,z7 _ _ f6,by decide,by decide,allV ⟨⟨_,rfl⟩,⟨_,rfl⟩,trivial⟩⟩,⟨m2,_,rfl,Same.none s6 h2,z8 _ _ f7,by decide,by decide,allV ⟨⟨_,rfl⟩,trivial⟩⟩,⟨m3,_,rfl,Same.none y7 h3,z9 _ _ f8,by decide,by decide,allV ⟨⟨_,rfl⟩,trivial⟩⟩,⟨m4,_,rfl,Same.none y8 h4,z10 _ _ f9,by decide,by decide,allV ⟨⟨_,rfl⟩,⟨_,rfl⟩,trivial⟩⟩,⟨m5,_,rfl,Same.none y9 h5,z11 _ _ f10,by decide,by decide,allV ⟨⟨_,rfl⟩,trivial⟩⟩,⟨m6,_,rfl,Same.none y10 h6,s12 _ _ f11,by decide,by decide,allV ⟨⟨_,rfl⟩,⟨_,rfl⟩,trivial⟩⟩,trivial⟩)
  refine ⟨_,rfl,M,_,_,_,rfl,rfl,SqL.of f12,ev,?_⟩
  have B6:=B5.new (s6.trans z7)
  clear s6 s7 s8 s9 s10 s11 s12 z7 z8 z9 z10 z11 y7 y8 y9 y10 w6 w7 w8 w9 w10 w11 w12 f6 f7 f8 f9 f10 f11 f12 h1 h2 h3 h4 h5 h6 ev
  have B5pa:=B5.pa
  refine ⟨_,rfl,_,rfl,_,rfl,m,_,rfl,.inl (SqL.of hm),p,c,_,rfl,B6.pa,(by lia),(by lia),fun r G13 r0 r1 pa13 x13=>?_⟩
  obtain ⟨v,⟨i,rfl⟩,ev⟩:=pickV (xs:=us) (Pr:=isInt) r0 r1 ui
  refine ⟨m,_,_,_,rfl,rfl,SqL.of (x13 _ _ (B5pa.no hm0) hm),ev,?_⟩
  have B7:=B6.on x13 pa13
  refine ⟨_,rfl,_,rfl,T,_,_,_,rfl,rfl,B7.at_,ixN_in (n:=ys.length) a0 (by lia),?_⟩
  exact ⟨_,_,_,_,rfl,B7.set (.int i) at'.toNat,by rw [List.length_set]; exact l4⟩
 ·rintro σ G' ⟨y3,y4,y5,xs',rfl,B',ln'⟩
  exact ⟨_,rfl,T,xs',rfl,.inl ⟨SqL.of B'.at_,fun t ht=>B'.end_ ln' q t ht⟩⟩
abbrev sR (p:Addr) (w b:Int) (T:Addr) (y5 y6:Option V):L2.St:=[some (.ref p),some (.int (10 ^ (20:Int).toNat - 1)),some (.int w),some (.int b),some (.ref T),y5,y6]
theorem ok__law_row_things {f:Addr} {fd:FuncData} (F:Fun K "_law_row_things" "_law_row_things" s__law_row_things f fd) (T:Txt K mg c) (H__law_take:Has P w K mg base 2 "_law_take" ["_law_pool", "_law_most"] spTk) (H__law_odd:Has P w K mg base 1 "_law_odd" ["_law_k"] spOdd):FnOk P w K mg base CX0 3 f fd ["_law_pool"] spThR:=by
 refine F.ok sc__law_row_things (fun vs H Q E h=>?_) (fun cdv A outer s H vs Q E hr h=>?_)
 ·obtain ⟨p,c,rfl,_⟩:=h
  rfl
 obtain ⟨p,c,rfl,pa,q⟩:=h
 refine slE ⟨_,(pss_consZ (slIn (ps_set (i:=1) sc__law_row_things.nd rfl (Or.inl rfl) (pe_op op_sub (pe_op op_pow pe_int pe_int) pe_int)))
  (pss_consZ (slIn (ps_set (i:=2) sc__law_row_things.nd rfl (Or.inl rfl) (pe_op op_add pe_int (pe_fn H__law_take (hr.mono (by lia)) rfl (pa_consN (pv 0) (pa_consN pe_int pa_nil))))))
  (pss_consZ (ps_setS (i:=3) sc__law_row_things.nd rfl (Or.inl rfl) (pe_ixS ix_list (pe_lstS (pa_consS pe_int (pa_consS pe_int (pa_consS (pe_op op_sub (pe_op op_shlB pe_int (pv 2)) pe_int) (pa_consS (pe_op op_shlB pe_int (pv 2)) (pa_consS (pv 1) pa_nilS)))))) (pe_fn H__law_take (hr.mono (by lia)) rfl (pa_consN (pv 0) (pa_consN pe_int pa_nil))) (fun _ _=>rfl)))
  (pss_joinZ (ps_setS (i:=4) sc__law_row_things.nd rfl (Or.inl rfl) (pe_lstS (pa_consS (pv 2) (pa_consZ (pe_ixS ix_list (pe_lstS (pa_consS pe_int (pa_consS pe_int (pa_consS (pv 3) (pa_consS (pe_callB (call_min2 rfl) rfl T.n_min boot_min (pa_consN (pe_op op_add (pv 3) pe_int) (pa_consN (pv 1) pa_nil))) (pa_consS (pv 1) pa_nilS)))))) (pe_fn H__law_take (hr.mono (by lia)) rfl (pa_consN (pv 0) (pa_consN pe_int pa_nil))) (fun _ _=>rfl)) (pa_consS (pv 3) pa_nilS)))))
  (pss_joinZ (ps_setS (i:=4) sc__law_row_things.nd rfl (Or.inl rfl) (pe_opZ op_addL (slIn (pv 4)) (pe_lstS (pa_consZ (pe_ixS ix_list (pe_lstS (pa_consS pe_int (pa_consS pe_int (pa_consS (pv 1) pa_nilS)))) (pe_fn H__law_take (hr.mono (by lia)) rfl (pa_consN (pv 0) (pa_consN pe_int pa_nil))) (fun _ _=>rfl)) (pa_consZ (pe_ixS ix_list (pe_lstS (pa_consS pe_int (pa_consS pe_int (pa_consS (pv 1) pa_nilS)))) (pe_fn H__law_take (hr.mono (by lia)) rfl (pa_consN (pv 0) (pa_consN pe_int pa_nil))) (fun _ _=>rfl)) (pa_consZ (pe_ixS ix_list (pe_lstS (pa_consS pe_int (pa_consS pe_int (pa_consS pe_int pa_nilS)))) (pe_fn H__law_take (hr.mono (by lia)) rfl (pa_consN (pv 0) (pa_consN pe_int pa_nil))) (fun _ _=>rfl)) pa_nilS))))))
  (pss_consZ (ps_forZ PassesOwn.never rfl (pi_range1 rfl T.n_range (pa_consN (pe_fn H__law_take (hr.mono (by lia)) rfl (pa_consN (pv 0) (pa_consN pe_int pa_nil))) pa_nil)) (pg_name (i:=5) sc__law_row_things.nd rfl (Or.inl rfl))
   (pss_consZ (slIn (ps_set (i:=6) sc__law_row_things.nd rfl (Or.inl rfl) (pe_fn H__law_take (hr.mono (by lia)) rfl (pa_consN (pv 0) (pa_consN pe_int pa_nil)))))
   (pss_joinZ (slIn (ps_asg (pe_fn H__law_odd (hr.mono (by lia)) rfl (pa_consN (pe_fn H__law_take (hr.mono (by lia)) rfl (pa_consN (pv 0) (pa_consN pe_int pa_nil))) pa_nil)) (pg_sub (pv 4) (pv 6) set_list)))
   (pss_oneZ (ps_ifZ (pt_cmpR op_eq (pe_fn H__law_take (hr.mono (by lia)) rfl (pa_consN (pv 0) (pa_consN pe_int pa_nil))) pe_int (nomark _))
    (pss_oneZ (ps_asgZ (pe_ixS ix_list (pe_lstS (pa_consS (pe_op op_add pe_int (pe_op op_mulB pe_int (pe_fn H__law_take (hr.mono (by lia)) rfl (pa_consN (pv 0) (pa_consN pe_int pa_nil))))) (pa_consS (pe_op op_sub pe_int pe_int) (pa_consS pe_int (pa_consS (pe_op op_sub pe_int pe_int) (pa_consS (pe_op op_add (pv 1) pe_int) (pa_consS pe_int pa_nilS))))))) (pv 6) (fun _ _=>rfl)) (pg_sub (pv 4) (pv 6) set_list)))
    pss_nilZ)))))
  (pss_oneZ (slIn (ps_ret (pe_callTy call_tuple_of rfl T.n_tuple boot_tuple (pa_consN (pv 4) pa_nil))))))))))),?_⟩
 have L1000:(1000:Nat)≤sizeLine:=by decide
 refine ⟨_,_,rfl,rfl,⟨by decide,by decide,by decide⟩,_,_,rfl,rfl,?_⟩
 refine ⟨_,rfl,p,c,_,rfl,pa,by decide,by decide,fun kw H1 kw0 kw1 pa1 x1=>⟨_,_,rfl,rfl,?_⟩⟩
 have shw:(0≤4 + kw∧4 + kw≤100000∧intBits 1≤100000):=⟨by lia,by lia,b200 (by decide) (by decide)⟩
 refine ⟨_,rfl,_,_,rfl,rfl,shw,_,_,rfl,rfl,_,rfl,_,_,rfl,rfl,shw,_,rfl,(by show 5≤sizeLine; decide),fun l hl=>?_⟩
 obtain ⟨G0,w0,s0,f0⟩:=newO hl (.lst [.int 1,.int 3,.int (1 * 2 ^ (4 + kw).toNat - 1),.int (1 * 2 ^ (4 + kw).toNat),.int (10 ^ (20:Int).toNat - 1)])
 rw [w0]
 refine ⟨_,rfl,p,c,_,rfl,pa1.same s0,by decide,by decide,fun k H2 k0 k1 pa2 x2=>?_⟩
 obtain ⟨v,⟨b,rfl⟩,ev⟩:=pickV (xs:=[.int 1,.int 3,.int (1 * 2 ^ (4 + kw).toNat - 1),.int (1 * 2 ^ (4 + kw).toNat),.int (10 ^ (20:Int).toNat - 1)]) (Pr:=isInt) k0 k1 (allV ⟨⟨_,rfl⟩,⟨_,rfl⟩,⟨_,rfl⟩,⟨_,rfl⟩,⟨_,rfl⟩,trivial⟩)
 refine ⟨l,_,_,_,rfl,rfl,SqL.of (x2 _ _ (pa1.no hl) f0),ev,?_⟩
 have X2:SameN [p,c] H H2:=(x1.trans (SameN.of s0)).trans x2
 clear s0 f0 w0 ev x1 x2 pa1 hl
 refine ⟨fun σ G=>∃ (T0:Addr) (i1:Int),σ = [some (.ref p),some (.int (10 ^ (20:Int).toNat - 1)),some (.int (4 + kw)),some (.int b),some (.ref T0),none,none]∧G T0 = some (.lst [.int (4 + kw),.int i1,.int b])∧T0 ∉ [p,c]∧PoolAt G p c∧SameN [p,c] H G,?_,?_⟩
 ·refine ⟨_,rfl,_,rfl,_,rfl,_,_,rfl,rfl,_,rfl,_,_,rfl,_,rfl,(by show 5≤sizeLine; decide),fun l hl=>?_⟩
  obtain ⟨G0,w0,s0,f0⟩:=newO hl (.lst [.int 0,.int 1,.int b,.int (if 10 ^ (20:Int).toNat - 1 < b + 1 then 10 ^ (20:Int).toNat - 1 else b + 1),.int (10 ^ (20:Int).toNat - 1)])
  rw [w0]
  refine ⟨_,rfl,p,c,_,rfl,pa2.same s0,by decide,by decide,fun k H3 k0 k1 pa3 x3=>?_⟩
  obtain ⟨v,⟨i1,rfl⟩,ev⟩:=pickV (xs:=[.int 0,.int 1,.int b,.int (if 10 ^ (20:Int).toNat - 1 < b + 1 then 10 ^ (20:Int).toNat - 1 else b + 1),.int (10 ^ (20:Int).toNat - 1)]) (Pr:=isInt) k0 k1 (allV ⟨⟨_,rfl⟩,⟨_,rfl⟩,⟨_,rfl⟩,⟨_,rfl⟩,⟨_,rfl⟩,trivial⟩)
  refine ⟨l,_,_,_,rfl,rfl,SqL.of (x3 _ _ (pa2.no hl) f0),ev,_,rfl,(by show 3≤sizeLine; decide),fun T0 hT0=>?_⟩
  have X3:SameN [p,c] H H3:=(X2.trans (SameN.of s0)).trans x3
  have s4:=same_new hT0 (.lst [.int (4 + kw),.int i1,.int b])
  exact ⟨T0,i1,rfl,upd_same,pa3.no hT0,pa3.same s4,X3.trans (SameN.of s4)⟩
 clear X2 pa2
 rintro _ G4 ⟨T0,i1,rfl,f4,nT0,pa4,X4⟩
 refine ⟨fun σ G=>∃ (T:Addr) (xs:List V),σ = sR p (4 + kw) b T none none∧Bz H G p c T xs∧xs.length = 6,?_,?_⟩
 ·refine ⟨_,rfl,_,rfl,(by show 3≤sizeLine; decide),fun l hl=>?_⟩
  obtain ⟨G0,w0,s0,f0⟩:=newO hl (.lst [.int 0,.int 5,.int (10 ^ (20:Int).toNat - 1)])
  rw [w0]
  refine ⟨_,rfl,p,c,_,rfl,pa4.same s0,by decide,by decide,fun k H5 k0 k1 pa5 x5=>?_⟩
  obtain ⟨v,⟨i3,rfl⟩,ev⟩:=pickV (xs:=[.int 0,.int 5,.int (10 ^ (20:Int).toNat - 1)]) (Pr:=isInt) k0 k1 (allV ⟨⟨_,rfl⟩,⟨_,rfl⟩,⟨_,rfl⟩,trivial⟩)
  refine ⟨l,_,_,_,rfl,rfl,SqL.of (x5 _ _ (pa4.no hl) f0),ev,?_⟩
  have Y5:SameN [p,c] G4 H5:=(SameN.of s0).trans x5
  clear s0 f0 w0 ev x5 hl
  refine ⟨_,rfl,(by show 3≤sizeLine; decide),fun l hl=>?_⟩
  obtain ⟨G0,w0,s0,f0⟩:=newO hl (.lst [.int 0,.int 5,.int (10 ^ (20:Int).toNat - 1)])
  rw [w0]
  refine ⟨_,rfl,p,c,_,rfl,pa5.same s0,by decide,by decide,fun k H6 k0 k1 pa6 x6=>?_⟩
  obtain ⟨v,⟨i4,rfl⟩,ev⟩:=pickV (xs:=[.int 0,.int 5,.int (10 ^ (20:Int).toNat - 1)]) (Pr:=isInt) k0 k1 (allV ⟨⟨_,rfl⟩,⟨_,rfl⟩,⟨_,rfl⟩,trivial⟩)
  refine ⟨l,_,_,_,rfl,rfl,SqL.of (x6 _ _ (pa5.no hl) f0),ev,?_⟩
  have Y6:SameN [p,c] G4 H6:=(Y5.trans (SameN.of s0)).trans x6
  clear s0 f0 w0 ev x6 hl Y5 pa5
  refine ⟨(by show 3≤sizeLine; decide),fun l hl=>?_⟩
  obtain ⟨G0,w0,s0,f0⟩:=newO hl (.lst [.int 0,.int 9,.int 64])
  rw [w0]
  refine ⟨_,rfl,p,c,_,rfl,pa6.same s0,by decide,by decide,fun k H7 k0 k1 pa7 x7=>?_⟩
  obtain ⟨v,⟨i5,rfl⟩,ev⟩:=pickV (xs:=[.int 0,.int 9,.int 64]) (Pr:=isInt) k0 k1 (allV ⟨⟨_,rfl⟩,⟨_,rfl⟩,⟨_,rfl⟩,trivial⟩)
  refine ⟨l,_,_,_,rfl,rfl,SqL.of (x7 _ _ (pa6.no hl) f0),ev,(by show 3≤sizeLine; decide),fun R hR=>?_⟩
  have Y7:SameN [p,c] G4 H7:=(Y6.trans (SameN.of s0)).trans x7
  clear s0 f0 w0 ev x7 hl Y6 pa6
  obtain ⟨G8,w8,s8,f8⟩:=newO hR (.lst [.int i3,.int i4,.int i5])
  rw [w8]
  refine ⟨T0,R,_,_,rfl,rfl,SqL.of (s8 _ _ (Y7 _ _ nT0 f4)),SqL.of f8,(by show 3 + 3≤sizeLine; decide),fun T hT=>?_⟩
  have s9:=same_new hT (.lst ([.int (4 + kw),.int i1,.int b] ++ [.int i3,.int i4,.int i5]))
  have X8:SameN [p,c] H G8:=X4.trans (Y7.trans (SameN.of s8))
  have pa8:=pa7.same s8
  have B:Bz H (upd G8 T (.lst ([.int (4 + kw),.int i1,.int b] ++ [.int i3,.int i4,.int i5]))) p c T ([.int (4 + kw),.int i1,.int b] ++ [.int i3,.int i4,.int i5]):=⟨upd_same,pa8.same s9,X8.trans (SameN.of s9),pa8.no hT,pa8.news X8 hT,allV ⟨.int _,.int _,.int _,.int _,.int _,.int _,trivial⟩⟩
  exact ⟨T,_,rfl,B,rfl⟩
 clear X4 pa4 f4 nT0
 rintro _ G ⟨T,xs,rfl,B,ln⟩
 refine ⟨_,rfl,p,c,_,rfl,B.pa,by decide,by decide,fun r G1 r0 r1 pa1 x1=>⟨_,rfl,by lia,by lia,for_range (n:=r.toNat) (fun j σ G=>∃ (y3 y4:Option V) (xs:List V),σ = sR p (4 + kw) b T y3 y4∧Bz H G p c T xs∧xs.length = 6) ⟨_,_,_,rfl,B.on x1 pa1,ln⟩ ?_ ?_⟩⟩
 ·clear B ln x1 pa1
  rintro j σ G hj ⟨y3,y4,xs,rfl,B,ln⟩
  refine ⟨_,rfl,p,c,_,rfl,B.pa,by decide,by decide,fun at' G1 a0 a1 pa1 x1=>?_⟩
  have B1:=B.on x1 pa1
  refine ⟨fun σ G=>∃ ys:List V,σ = sR p (4 + kw) b T (some (.int (0 + (j:Int)))) (some (.int at'))∧Bz H G p c T ys∧ys.length = 6,?_,?_⟩
  ·refine ⟨_,rfl,p,c,_,rfl,pa1,by decide,by decide,fun k G2 k0 k1 pa2 x2=>⟨k,rfl,fun v G3 s3 on=>?_⟩⟩
   have B2:=B1.on x2 pa2
   have B3:=B2.new s3
   refine ⟨_,rfl,_,rfl,T,_,_,_,rfl,rfl,B3.at_,ixN_in (n:=xs.length) a0 (by lia),?_⟩
   exact ⟨_,rfl,B3.set (B2.odd on) at'.toNat,by rw [List.length_set]; exact ln⟩
  clear B B1 x1 pa1 ln
  rintro _ G4 ⟨ys,rfl,B4,l4⟩
  refine ⟨_,rfl,p,c,_,rfl,B4.pa,by decide,by decide,fun b' G5 b0 b1 pa5 x5=>⟨rfl,_,rfl,?_⟩⟩
  have B5:=B4.on x5 pa5
  clear B4 x5 pa5
  walk_at "c" <;> intro cb
  rotate_left
  ·exact ⟨_,_,ys,rfl,B5,l4⟩
  refine ⟨_,rfl,p,c,_,rfl,B5.pa,by decide,by decide,fun r' G6 r0' r1' pa6 x6=>?_⟩
  have B6:=B5.on x6 pa6
  refine ⟨_,_,rfl,rfl,⟨b200 (by decide) (by decide),b200 (by lia) (by lia)⟩,_,_,rfl,rfl,_,_,rfl,rfl,_,_,rfl,rfl,_,rfl,_,_,rfl,rfl,(by show 6≤sizeLine; decide),fun l hl=>?_⟩
  obtain ⟨G7,w7,s7,f7⟩:=newO hl (.lst [.int (3 + 30 * r'),.int (0 - 1),.int 0,.int (0 - 1),.int (10 ^ (20:Int).toNat - 1 + 1),.int 65])
  rw [w7]
  obtain ⟨v,⟨i,rfl⟩,ev⟩:=pickV (xs:=[.int (3 + 30 * r'),.int (0 - 1),.int 0,.int (0 - 1),.int (10 ^ (20:Int).toNat - 1 + 1),.int 65]) (Pr:=isInt) a0 a1 (allV ⟨⟨_,rfl⟩,⟨_,rfl⟩,⟨_,rfl⟩,⟨_,rfl⟩,⟨_,rfl⟩,⟨_,rfl⟩,trivial⟩)
  refine ⟨_,rfl,l,_,_,_,rfl,rfl,SqL.of f7,ev,?_⟩
  have B7:=B6.new s7
  refine ⟨_,rfl,_,rfl,T,_,_,_,rfl,rfl,B7.at_,ixN_in (n:=ys.length) a0 (by lia),?_⟩
  exact ⟨_,_,_,rfl,B7.set (.int i) at'.toNat,by rw [List.length_set]; exact l4⟩
 ·rintro σ G' ⟨y3,y4,xs',rfl,B',ln'⟩
  exact ⟨_,rfl,T,xs',rfl,.inl ⟨SqL.of B'.at_,fun t ht=>B'.end_ ln' q t ht⟩⟩
theorem eqSB {K:PySem.W.Frag} {H:Hp} {x:Str}:∀ j,j < [V.str x,V.bl true].length→EqD K H 1 ([V.str x,V.bl true].getD j .non) ([V.str x,V.bl true].getD j .non) true:=fun j hj=>by
 have f1:=EqD.flat (K:=K) (H:=H) (d:=1) (x:=.str x) (y:=.str x) rfl rfl
 have f2:=EqD.flat (K:=K) (H:=H) (d:=1) (x:=.bl true) (y:=.bl true) rfl rfl
 rw [show eqV (.str x) (.str x) = true by simp [eqV]] at f1
 rw [show eqV (.bl true) (.bl true) = true by simp [eqV]] at f2
 have:j < 2:=hj
 rcases (by lia:j = 0∨j = 1) with rfl | rfl
 ·exact f1
 ·exact f2
theorem cut_ints {ns:List Int} {lo hi:Option Int}:∀ v ∈ cutV (ns.map V.int) lo hi ++ [.int 0],∃ i:Int,v = .int i:=fun v hv=>by
 rcases List.mem_append.mp hv with hv | hv
 ·unfold cutV at hv
  obtain ⟨i,_,e⟩:=List.mem_map.mp (List.mem_of_mem_drop (List.mem_of_mem_take hv))
  exact ⟨i,e.symm⟩
 ·exact ⟨0,List.mem_singleton.mp hv⟩
theorem cut_len {ns:List Int} {lo hi:Option Int} (h:ns.length≤63):(cutV (ns.map V.int) lo hi).length≤63:=by
 unfold cutV
 rw [List.length_take,List.length_drop,List.length_map]
 lia
theorem ok_law {f:Addr} {fd:FuncData} (F:Fun K "law" "law" s_law f fd) (T:Txt K mg c) (H__law_take:Has P w K mg base 2 "_law_take" ["_law_pool", "_law_most"] spTk) (H__law_line_things:Has P w K mg base 3 "_law_line_things" ["_law_pool"] spThL) (H__law_due_of_line:Has P w K mg base 2 "_law_due_of_line" ["_law_door", "_law_things"] spDueL) (H__law_row_things:Has P w K mg base 3 "_law_row_things" ["_law_pool"] spThR) (H__law_due_of_row:Has P w K mg base 2 "_law_due_of_row" ["_law_door", "_law_things"] spDueR) (H__law_answer:Has P w K mg base 8 "_law_answer" ["_law_door", "_law_things"] (spAns PT)):FnOk P w K mg base CX0 9 f fd ["_law_script"] (spLaw K PT):=by
 refine F.ok sc_law (fun vs H Q E h=>?_) (fun cdv A outer s H vs Q E hr h=>?_)
 ·obtain ⟨a,ns,rfl,_⟩:=h
  rfl
 obtain ⟨a,ns,rfl,hS,hlen,to,q⟩:=h
 refine ⟨_,(pss_cons (ps_for PassesOwn.never rfl (pi_list (pe_op op_addL (pe_slice sl_list (pv 0) po_none (po_some pe_int)) (pe_lst (pa_cons pe_int pa_nil)))) (pg_name (i:=1) sc_law.nd rfl (Or.inl rfl))
   (pss_cons (ps_set (i:=2) sc_law.nd rfl (Or.inl rfl) (pe_lst (pa_cons (pe_lst (pa_cons (pv 1) pa_nil)) (pa_cons pe_int pa_nil))))
   (pss_cons (ps_set (i:=3) sc_law.nd rfl (Or.inl rfl) (pe_fn H__law_take (hr.mono (by lia)) rfl (pa_cons (pv 2) (pa_cons pe_int pa_nil))))
   (pss_join (ps_if (pt_cmpR op_lt (pv 3) pe_int (nomark _))
    (pss_cons (ps_set (i:=4) sc_law.nd rfl (Or.inl rfl) (pe_fn H__law_line_things (hr.mono (by lia)) rfl (pa_cons (pv 2) pa_nil)))
    (pss_one (ps_set (i:=5) sc_law.nd rfl (Or.inl rfl) (pe_fn H__law_due_of_line (hr.mono (by lia)) rfl (pa_cons (pv 3) (pa_cons (pv 4) pa_nil))))))
    (pss_cons (ps_set (i:=4) sc_law.nd rfl (Or.inl rfl) (pe_fn H__law_row_things (hr.mono (by lia)) rfl (pa_cons (pv 2) pa_nil)))
    (pss_one (ps_set (i:=5) sc_law.nd rfl (Or.inl rfl) (pe_fn H__law_due_of_row (hr.mono (by lia)) rfl (pa_cons (pv 3) (pa_cons (pv 4) pa_nil)))))))
   (pss_one (ps_if (pt_cmpR (op_neLD (d:=1) (hu2 hr)) (pe_fn H__law_answer (hr.mono (by lia)) rfl (pa_cons (pv 3) (pa_cons (pv 4) pa_nil))) (pe_lst (pa_cons (pv 5) (pa_cons pe_bl pa_nil))) (nomark _))
    (pss_one (ps_ret pe_bl))
    pss_nil))))))
  (pss_one (ps_ret pe_bl))),?_⟩
 have L1000:(1000:Nat)≤sizeLine:=by decide
 refine ⟨_,rfl,_,rfl,a,_,rfl,hS,fun l1 h1=>?_⟩
 have s1:=same_new h1 (.lst (cutV (ns.map V.int) none (some 24)))
 refine ⟨(by show 1≤sizeLine; decide),fun l2 h2=>?_⟩
 have s2:=same_new h2 (.lst [.int 0])
 have cl:=cut_len (lo:=none) (hi:=some 24) hlen
 refine ⟨l1,l2,_,_,rfl,rfl,SqL.of (s2 _ _ upd_same),SqL.of upd_same,(by show _ + 1≤_; lia),fun l3 h3=>?_⟩
 have s3:=same_new h3 (.lst (cutV (ns.map V.int) none (some 24) ++ [.int 0]))
 refine ⟨l3,rfl,⟨_,SqL.of upd_same⟩,for_list (xs:=cutV (ns.map V.int) none (some 24) ++ [.int 0]) (fun j σ G=>∃ (y1 y2 y3 y4 y5:Option V),σ = [some (.ref a),y1,y2,y3,y4,y5]∧G l3 = some (.lst (cutV (ns.map V.int) none (some 24) ++ [.int 0]))∧TO PT G) ⟨_,_,_,_,_,rfl,upd_same,to.mono ((s1.trans s2).trans s3)⟩ ?_ ?_ ?_⟩
 ·rintro j σ G hj ⟨y1,y2,y3,y4,y5,rfl,hl,to⟩
  exact SqL.of hl
 ·clear s1 s2 s3 h1 h2 h3 hS to
  rintro j v σ G hj ⟨y1,y2,y3,y4,y5,rfl,hl,to⟩
  obtain ⟨cell,rfl⟩:=cut_ints v (List.mem_of_getElem? hj)
  generalize cutV (ns.map V.int) none (some 24) ++ [.int 0] = xs at hl hj ⊢
  refine ⟨_,rfl,(by show 1≤sizeLine; decide),fun c' hc=>?_⟩
  have s1:=same_new hc (.lst [.int cell])
  refine ⟨(by show 2≤sizeLine; decide),fun p hp=>?_⟩
  have s2:=same_new hp (.lst [.ref c',.int 0])
  have pa:PoolAt (upd (upd G c' (.lst [.int cell])) p (.lst [.ref c',.int 0])) p c':=⟨0,[cell],upd_same,s2 _ _ upd_same,(fun z=>by cases z),(by show 1≤63; decide),by decide⟩
  have hl2:=(s1.trans s2) _ _ hl
  have to2:=to.mono (s1.trans s2)
  have nl:l3 ∉ [p,c']:=fun z=>by
   rcases List.mem_cons.mp z with z | z
   ·rw [← z] at hp
    rw [s1 _ _ hl] at hp
    cases hp
   ·rw [← List.mem_singleton.mp z] at hc
    rw [hl] at hc
    cases hc
  generalize upd (upd G c' (.lst [.int cell])) p (.lst [.ref c',.int 0]) = G1 at pa hl2 to2 ⊢
  refine ⟨_,rfl,p,c',_,rfl,pa,by decide,by decide,fun d G2 d0 d1 pa2 x2=>?_⟩
  have to3:=toPool to2 pa x2
  have hl3:=x2 _ _ nl hl2
  clear s1 s2 hc hp to2 hl2 pa x2 to hl
  refine ⟨fun σ G=>∃ (t:Addr) (x0 x1 x2 x3 x4 x5:V),σ = [some (.ref a),some (.int cell),some (.ref p),some (.int d),some (.ref t),some (.str (wordO (vAsk d x0 x1 x2 x3 x4 x5)))]∧G t = some (.tup [x0,x1,x2,x3,x4,x5])∧(∀ x ∈ [x0,x1,x2,x3,x4,x5],Gd G x)∧G l3 = some (.lst xs)∧TO PT G,?_,?_⟩
  ·refine ⟨_,rfl,_,_,rfl,rfl,_,rfl,?_⟩
   walk_at "c" <;> intro c7
   ·refine ⟨_,rfl,p,c',rfl,pa2,fun t x0 x1 x2 x3 x4 x5 G3 ht gd y3 pa3=>?_⟩
    exact ⟨_,rfl,_,rfl,d,t,x0,x1,x2,x3,x4,x5,rfl,ht,d0,c7,gd,t,x0,x1,x2,x3,x4,x5,rfl,ht,gd,y3 _ _ nl hl3,toPool to3 pa2 y3⟩
   ·refine ⟨_,rfl,p,c',rfl,pa2,fun t x0 x1 x2 x3 x4 x5 G3 ht gd y3 pa3=>?_⟩
    exact ⟨_,rfl,_,rfl,d,t,x0,x1,x2,x3,x4,x5,rfl,ht,by lia,d1,gd,t,x0,x1,x2,x3,x4,x5,rfl,ht,gd,y3 _ _ nl hl3,toPool to3 pa2 y3⟩
  ·clear to3 hl3 pa2
   rintro σ G3 ⟨t,x0,x1,x2,x3,x4,x5,rfl,ht,gd,hl4,to4⟩
   refine ⟨_,rfl,_,rfl,d,t,x0,x1,x2,x3,x4,x5,rfl,ht,d0,d1,gd,to4,fun l G4 hl5 sx to5=>?_⟩
   refine ⟨_,rfl,(by show 2≤sizeLine; decide),fun l' hl'=>?_⟩
   have s6:=same_new hl' (.lst [.str (wordO (vAsk d x0 x1 x2 x3 x4 x5)),.bl true])
   refine ⟨l,l',_,_,fun _=>true,rfl,rfl,SqL.of (s6 _ _ hl5),SqL.of upd_same,rfl,eqSB,?_⟩
   rw [aT]
   exact ⟨_,rfl,iteF ⟨_,_,_,_,_,rfl,s6 _ _ (toLst hl4 to4 sx),to5.mono s6⟩⟩
 ·rintro σ G ⟨y1,y2,y3,y4,y5,rfl,hl,to⟩
  exact q G
end
theorem all_mk {l:PySem.W.OpenLaw} {w:World} {K:PySem.W.Frag} {h:Heap} {mg:Str→Option Value} {fa f1 f2 f3 f4 f5 f6 f7 f8 f9 f10 f11 f12 f13 f14 f15 f16 f17 f18 f19 f20 f21 f22 f23 f24 f25 f26 f27 f28 f29 f30 f31 f32 f33 f34 f35 f36 f37 f38 f39 f40 f41 f42 f43 f44 f45 f46 f47 c_NoLine c_NoFraction c_NoForm c_NoWidth c_WiseError:Addr} (X:K.In h) (G:h.Ns mainGlobals mg) (hfa:mg "law" = some (.ref fa))
  {od1 an1 od2 an2 od3 an3 od4 an4 od5 an5 od6 an6 od7 an7 od8 an8 od9 an9 od10 an10 od11 an11 od12 an12 od13 an13 od14 an14 od15 an15 od16 an16 od17 an17 od18 an18 od19 an19 od20 an20 od21 an21 od22 an22 od23 an23 od24 an24 od25 an25 od26 an26 od27 an27 od28 an28 od29 an29 od30 an30 od31 an31 od32 an32 od33 an33 od34 an34 od35 an35 od36 an36 od37 an37 od38 an38 od39 an39 od40 an40 od41 an41 od42 an42 od43 an43 od44 an44 od45 an45 od46 an46 od47 an47:Option Addr} {sl1 sl2 sl3 sl4 sl5 sl6 sl7 sl8 sl9 sl10 sl11 sl12 sl13 sl14 sl15 sl16 sl17 sl18 sl19 sl20 sl21 sl22 sl23 sl24 sl25 sl26 sl27 sl28 sl29 sl30 sl31 sl32 sl33 sl34 sl35 sl36 sl37 sl38 sl39 sl40 sl41 sl42 sl43 sl44 sl45 sl46 sl47:Array (Option Value)} {oc1 kV1 dc1 pm1 cd1 ct1 oc2 kV2 dc2 pm2 cd2 ct2 oc3 kV3 dc3 pm3 cd3 ct3 oc4 kV4 dc4 pm4 cd4 ct4 oc5 kV5 dc5 pm5 cd5 ct5 oc6 kV6 dc6 pm6 cd6 ct6 oc7 kV7 dc7 pm7 cd7 ct7 oc8 kV8 dc8 pm8 cd8 ct8 oc9 kV9 dc9 pm9 cd9 ct9 oc10 kV10 dc10 pm10 cd10 ct10 oc11 kV11 dc11 pm11 cd11 ct11 oc12 kV12 dc12 pm12 cd12 ct12 oc13 kV13 dc13 pm13 cd13 ct13 oc14 kV14 dc14 pm14 cd14 ct14 oc15 kV15 dc15 pm15 cd15 ct15 oc16 kV16 dc16 pm16 cd16 ct16 oc17 kV17 dc17 pm17 cd17 ct17 oc18 kV18 dc18 pm18 cd18 ct18 oc19 kV19 dc19 pm19 cd19 ct19 oc20 kV20 dc20 pm20 cd20 ct20 oc21 kV21 dc21 pm21 cd21 ct21 oc22 kV22 dc22 pm22 cd22 ct22 oc23 kV23 dc23 pm23 cd23 ct23 oc24 kV24 dc24 pm24 cd24 ct24 oc25 kV25 dc25 pm25 cd25 ct25 oc26 kV26 dc26 pm26 cd26 ct26 oc27 kV27 dc27 pm27 cd27 ct27 oc28 kV28 dc28 pm28 cd28 ct28 oc29 kV29 dc29 pm29 cd29 ct29 oc30 kV30 dc30 pm30 cd30 ct30 oc31 kV31 dc31 pm31 cd31 ct31 oc32 kV32 dc32 pm32 cd32 ct32 oc33 kV33 dc33 pm33 cd33 ct33 oc34 kV34 dc34 pm34 cd34 ct34 oc35 kV35 dc35 pm35 cd35 ct35 oc36 kV36 dc36 pm36 cd36 ct36 oc37 kV37 dc37 pm37 cd37 ct37 oc38 kV38 dc38 pm38 cd38 ct38 oc39 kV39 dc39 pm39 cd39 ct39 oc40 kV40 dc40 pm40 cd40 ct40 oc41 kV41 dc41 pm41 cd41 ct41 oc42 kV42 dc42 pm42 cd42 ct42 oc43 kV43 dc43 pm43 cd43 ct43 oc44 kV44 dc44 pm44 cd44 ct44 oc45 kV45 dc45 pm45 cd45 ct45 oc46 kV46 dc46 pm46 cd46 ct46 oc47 kV47 dc47 pm47 cd47 ct47:Value}
  (a1:PySem.W.findIn K (.ref c_NoWidth) "__init__" = some (some (.ref f1))) (i1:PySem.W.isFn K (.ref f1) = true)
  (l1:K.lookup f1 = some ⟨oc1,od1,.func (PySem.W.fnOf "__init__" "NoWidth.__init__" (defArgs s_NoWidth___init__) (defBody s_NoWidth___init__) (defScope s_NoWidth___init__) .none kV1 dc1 pm1 an1 cd1 ct1),sl1⟩) (c1:PySem.W.codeIn K cd1 "NoWidth.__init__" = true) (k1:PySem.W.keepIn K (.ref f1) = true)
  (a2:PySem.W.findIn K (.ref c_NoFraction) "__init__" = some (some (.ref f2))) (i2:PySem.W.isFn K (.ref f2) = true)
  (l2:K.lookup f2 = some ⟨oc2,od2,.func (PySem.W.fnOf "__init__" "NoFraction.__init__" (defArgs s_NoFraction___init__) (defBody s_NoFraction___init__) (defScope s_NoFraction___init__) .none kV2 dc2 pm2 an2 cd2 ct2),sl2⟩) (c2:PySem.W.codeIn K cd2 "NoFraction.__init__" = true) (k2:PySem.W.keepIn K (.ref f2) = true)
  (a3:PySem.W.findIn K (.ref c_NoForm) "__init__" = some (some (.ref f3))) (i3:PySem.W.isFn K (.ref f3) = true)
  (l3:K.lookup f3 = some ⟨oc3,od3,.func (PySem.W.fnOf "__init__" "NoForm.__init__" (defArgs s_NoForm___init__) (defBody s_NoForm___init__) (defScope s_NoForm___init__) .none kV3 dc3 pm3 an3 cd3 ct3),sl3⟩) (c3:PySem.W.codeIn K cd3 "NoForm.__init__" = true) (k3:PySem.W.keepIn K (.ref f3) = true)
  (a4:PySem.W.findIn K (.ref c_NoLine) "__init__" = some (some (.ref f4))) (i4:PySem.W.isFn K (.ref f4) = true)
  (l4:K.lookup f4 = some ⟨oc4,od4,.func (PySem.W.fnOf "__init__" "NoLine.__init__" (defArgs s_NoLine___init__) (defBody s_NoLine___init__) (defScope s_NoLine___init__) .none kV4 dc4 pm4 an4 cd4 ct4),sl4⟩) (c4:PySem.W.codeIn K cd4 "NoLine.__init__" = true) (k4:PySem.W.keepIn K (.ref f4) = true)
  (a5:PySem.W.nsIn K mainGlobals "is_whole" = some (some (.ref f5)))
  (l5:K.lookup f5 = some ⟨oc5,od5,.func (PySem.W.fnOf "is_whole" "is_whole" (defArgs s_is_whole) (defBody s_is_whole) (defScope s_is_whole) .none kV5 dc5 pm5 an5 cd5 ct5),sl5⟩) (c5:PySem.W.codeIn K cd5 "is_whole" = true) (k5:PySem.W.keepIn K (.ref f5) = true)
  (a6:PySem.W.nsIn K mainGlobals "is_between" = some (some (.ref f6)))
  (l6:K.lookup f6 = some ⟨oc6,od6,.func (PySem.W.fnOf "is_between" "is_between" (defArgs s_is_between) (defBody s_is_between) (defScope s_is_between) .none kV6 dc6 pm6 an6 cd6 ct6),sl6⟩) (c6:PySem.W.codeIn K cd6 "is_between" = true) (k6:PySem.W.keepIn K (.ref f6) = true)
  (a7:PySem.W.nsIn K mainGlobals "need_width" = some (some (.ref f7)))
  (l7:K.lookup f7 = some ⟨oc7,od7,.func (PySem.W.fnOf "need_width" "need_width" (defArgs s_need_width) (defBody s_need_width) (defScope s_need_width) .none kV7 dc7 pm7 an7 cd7 ct7),sl7⟩) (c7:PySem.W.codeIn K cd7 "need_width" = true) (k7:PySem.W.keepIn K (.ref f7) = true)
  (a8:PySem.W.nsIn K mainGlobals "common_divisor" = some (some (.ref f8)))
  (l8:K.lookup f8 = some ⟨oc8,od8,.func (PySem.W.fnOf "common_divisor" "common_divisor" (defArgs s_common_divisor) (defBody s_common_divisor) (defScope s_common_divisor) .none kV8 dc8 pm8 an8 cd8 ct8),sl8⟩) (c8:PySem.W.codeIn K cd8 "common_divisor" = true) (k8:PySem.W.keepIn K (.ref f8) = true)
  (a9:PySem.W.nsIn K mainGlobals "fraction" = some (some (.ref f9)))
  (l9:K.lookup f9 = some ⟨oc9,od9,.func (PySem.W.fnOf "fraction" "fraction" (defArgs s_fraction) (defBody s_fraction) (defScope s_fraction) .none kV9 dc9 pm9 an9 cd9 ct9),sl9⟩) (c9:PySem.W.codeIn K cd9 "fraction" = true) (k9:PySem.W.keepIn K (.ref f9) = true)
  (a10:PySem.W.nsIn K mainGlobals "is_short" = some (some (.ref f10)))
  (l10:K.lookup f10 = some ⟨oc10,od10,.func (PySem.W.fnOf "is_short" "is_short" (defArgs s_is_short) (defBody s_is_short) (defScope s_is_short) .none kV10 dc10 pm10 an10 cd10 ct10),sl10⟩) (c10:PySem.W.codeIn K cd10 "is_short" = true) (k10:PySem.W.keepIn K (.ref f10) = true)
  (a11:PySem.W.nsIn K mainGlobals "need_line" = some (some (.ref f11)))
  (l11:K.lookup f11 = some ⟨oc11,od11,.func (PySem.W.fnOf "need_line" "need_line" (defArgs s_need_line) (defBody s_need_line) (defScope s_need_line) .none kV11 dc11 pm11 an11 cd11 ct11),sl11⟩) (c11:PySem.W.codeIn K cd11 "need_line" = true) (k11:PySem.W.keepIn K (.ref f11) = true)
  (a12:PySem.W.nsIn K mainGlobals "height" = some (some (.ref f12)))
  (l12:K.lookup f12 = some ⟨oc12,od12,.func (PySem.W.fnOf "height" "height" (defArgs s_height) (defBody s_height) (defScope s_height) .none kV12 dc12 pm12 an12 cd12 ct12),sl12⟩) (c12:PySem.W.codeIn K cd12 "height" = true) (k12:PySem.W.keepIn K (.ref f12) = true)
  (a13:PySem.W.nsIn K mainGlobals "fall_rows" = some (some (.ref f13)))
  (l13:K.lookup f13 = some ⟨oc13,od13,.func (PySem.W.fnOf "fall_rows" "fall_rows" (defArgs s_fall_rows) (defBody s_fall_rows) (defScope s_fall_rows) .none kV13 dc13 pm13 an13 cd13 ct13),sl13⟩) (c13:PySem.W.codeIn K cd13 "fall_rows" = true) (k13:PySem.W.keepIn K (.ref f13) = true)
  (a14:PySem.W.nsIn K mainGlobals "falls" = some (some (.ref f14)))
  (l14:K.lookup f14 = some ⟨oc14,od14,.func (PySem.W.fnOf "falls" "falls" (defArgs s_falls) (defBody s_falls) (defScope s_falls) .none kV14 dc14 pm14 an14 cd14 ct14),sl14⟩) (c14:PySem.W.codeIn K cd14 "falls" = true) (k14:PySem.W.keepIn K (.ref f14) = true)
  (a15:PySem.W.nsIn K mainGlobals "places_reached" = some (some (.ref f15)))
  (l15:K.lookup f15 = some ⟨oc15,od15,.func (PySem.W.fnOf "places_reached" "places_reached" (defArgs s_places_reached) (defBody s_places_reached) (defScope s_places_reached) .none kV15 dc15 pm15 an15 cd15 ct15),sl15⟩) (c15:PySem.W.codeIn K cd15 "places_reached" = true) (k15:PySem.W.keepIn K (.ref f15) = true)
  (a16:PySem.W.nsIn K mainGlobals "corner_points" = some (some (.ref f16)))
  (l16:K.lookup f16 = some ⟨oc16,od16,.func (PySem.W.fnOf "corner_points" "corner_points" (defArgs s_corner_points) (defBody s_corner_points) (defScope s_corner_points) .none kV16 dc16 pm16 an16 cd16 ct16),sl16⟩) (c16:PySem.W.codeIn K cd16 "corner_points" = true) (k16:PySem.W.keepIn K (.ref f16) = true)
  (a17:PySem.W.nsIn K mainGlobals "corners" = some (some (.ref f17)))
  (l17:K.lookup f17 = some ⟨oc17,od17,.func (PySem.W.fnOf "corners" "corners" (defArgs s_corners) (defBody s_corners) (defScope s_corners) .none kV17 dc17 pm17 an17 cd17 ct17),sl17⟩) (c17:PySem.W.codeIn K cd17 "corners" = true) (k17:PySem.W.keepIn K (.ref f17) = true)
  (a18:PySem.W.nsIn K mainGlobals "inverse_by" = some (some (.ref f18)))
  (l18:K.lookup f18 = some ⟨oc18,od18,.func (PySem.W.fnOf "inverse_by" "inverse_by" (defArgs s_inverse_by) (defBody s_inverse_by) (defScope s_inverse_by) .none kV18 dc18 pm18 an18 cd18 ct18),sl18⟩) (c18:PySem.W.codeIn K cd18 "inverse_by" = true) (k18:PySem.W.keepIn K (.ref f18) = true)
  (a19:PySem.W.nsIn K mainGlobals "side_between" = some (some (.ref f19)))
  (l19:K.lookup f19 = some ⟨oc19,od19,.func (PySem.W.fnOf "side_between" "side_between" (defArgs s_side_between) (defBody s_side_between) (defScope s_side_between) .none kV19 dc19 pm19 an19 cd19 ct19),sl19⟩) (c19:PySem.W.codeIn K cd19 "side_between" = true) (k19:PySem.W.keepIn K (.ref f19) = true)
  (a20:PySem.W.nsIn K mainGlobals "paper" = some (some (.ref f20)))
  (l20:K.lookup f20 = some ⟨oc20,od20,.func (PySem.W.fnOf "paper" "paper" (defArgs s_paper) (defBody s_paper) (defScope s_paper) .none kV20 dc20 pm20 an20 cd20 ct20),sl20⟩) (c20:PySem.W.codeIn K cd20 "paper" = true) (k20:PySem.W.keepIn K (.ref f20) = true)
  (a21:PySem.W.nsIn K mainGlobals "is_seven" = some (some (.ref f21)))
  (l21:K.lookup f21 = some ⟨oc21,od21,.func (PySem.W.fnOf "is_seven" "is_seven" (defArgs s_is_seven) (defBody s_is_seven) (defScope s_is_seven) .none kV21 dc21 pm21 an21 cd21 ct21),sl21⟩) (c21:PySem.W.codeIn K cd21 "is_seven" = true) (k21:PySem.W.keepIn K (.ref f21) = true)
  (a22:PySem.W.nsIn K mainGlobals "is_paper" = some (some (.ref f22)))
  (l22:K.lookup f22 = some ⟨oc22,od22,.func (PySem.W.fnOf "is_paper" "is_paper" (defArgs s_is_paper) (defBody s_is_paper) (defScope s_is_paper) .none kV22 dc22 pm22 an22 cd22 ct22),sl22⟩) (c22:PySem.W.codeIn K cd22 "is_paper" = true) (k22:PySem.W.keepIn K (.ref f22) = true)
  (a23:PySem.W.nsIn K mainGlobals "need_fraction" = some (some (.ref f23)))
  (l23:K.lookup f23 = some ⟨oc23,od23,.func (PySem.W.fnOf "need_fraction" "need_fraction" (defArgs s_need_fraction) (defBody s_need_fraction) (defScope s_need_fraction) .none kV23 dc23 pm23 an23 cd23 ct23),sl23⟩) (c23:PySem.W.codeIn K cd23 "need_fraction" = true) (k23:PySem.W.keepIn K (.ref f23) = true)
  (a24:PySem.W.nsIn K mainGlobals "need_product" = some (some (.ref f24)))
  (l24:K.lookup f24 = some ⟨oc24,od24,.func (PySem.W.fnOf "need_product" "need_product" (defArgs s_need_product) (defBody s_need_product) (defScope s_need_product) .none kV24 dc24 pm24 an24 cd24 ct24),sl24⟩) (c24:PySem.W.codeIn K cd24 "need_product" = true) (k24:PySem.W.keepIn K (.ref f24) = true)
  (a25:PySem.W.nsIn K mainGlobals "greatest_miss" = some (some (.ref f25)))
  (l25:K.lookup f25 = some ⟨oc25,od25,.func (PySem.W.fnOf "greatest_miss" "greatest_miss" (defArgs s_greatest_miss) (defBody s_greatest_miss) (defScope s_greatest_miss) .none kV25 dc25 pm25 an25 cd25 ct25),sl25⟩) (c25:PySem.W.codeIn K cd25 "greatest_miss" = true) (k25:PySem.W.keepIn K (.ref f25) = true)
  (a26:PySem.W.nsIn K mainGlobals "greatest_lack" = some (some (.ref f26)))
  (l26:K.lookup f26 = some ⟨oc26,od26,.func (PySem.W.fnOf "greatest_lack" "greatest_lack" (defArgs s_greatest_lack) (defBody s_greatest_lack) (defScope s_greatest_lack) .none kV26 dc26 pm26 an26 cd26 ct26),sl26⟩) (c26:PySem.W.codeIn K cd26 "greatest_lack" = true) (k26:PySem.W.keepIn K (.ref f26) = true)
  (a27:PySem.W.nsIn K mainGlobals "greatest" = some (some (.ref f27)))
  (l27:K.lookup f27 = some ⟨oc27,od27,.func (PySem.W.fnOf "greatest" "greatest" (defArgs s_greatest) (defBody s_greatest) (defScope s_greatest) .none kV27 dc27 pm27 an27 cd27 ct27),sl27⟩) (c27:PySem.W.codeIn K cd27 "greatest" = true) (k27:PySem.W.keepIn K (.ref f27) = true)
  (a28:PySem.W.nsIn K mainGlobals "least" = some (some (.ref f28)))
  (l28:K.lookup f28 = some ⟨oc28,od28,.func (PySem.W.fnOf "least" "least" (defArgs s_least) (defBody s_least) (defScope s_least) .none kV28 dc28 pm28 an28 cd28 ct28),sl28⟩) (c28:PySem.W.codeIn K cd28 "least" = true) (k28:PySem.W.keepIn K (.ref f28) = true)
  (a29:PySem.W.nsIn K mainGlobals "miss_of" = some (some (.ref f29)))
  (l29:K.lookup f29 = some ⟨oc29,od29,.func (PySem.W.fnOf "miss_of" "miss_of" (defArgs s_miss_of) (defBody s_miss_of) (defScope s_miss_of) .none kV29 dc29 pm29 an29 cd29 ct29),sl29⟩) (c29:PySem.W.codeIn K cd29 "miss_of" = true) (k29:PySem.W.keepIn K (.ref f29) = true)
  (a30:PySem.W.nsIn K mainGlobals "quotient_corners" = some (some (.ref f30)))
  (l30:K.lookup f30 = some ⟨oc30,od30,.func (PySem.W.fnOf "quotient_corners" "quotient_corners" (defArgs s_quotient_corners) (defBody s_quotient_corners) (defScope s_quotient_corners) .none kV30 dc30 pm30 an30 cd30 ct30),sl30⟩) (c30:PySem.W.codeIn K cd30 "quotient_corners" = true) (k30:PySem.W.keepIn K (.ref f30) = true)
  (a31:PySem.W.nsIn K mainGlobals "misfit" = some (some (.ref f31)))
  (l31:K.lookup f31 = some ⟨oc31,od31,.func (PySem.W.fnOf "misfit" "misfit" (defArgs s_misfit) (defBody s_misfit) (defScope s_misfit) .none kV31 dc31 pm31 an31 cd31 ct31),sl31⟩) (c31:PySem.W.codeIn K cd31 "misfit" = true) (k31:PySem.W.keepIn K (.ref f31) = true)
  (a32:PySem.W.nsIn K mainGlobals "fits" = some (some (.ref f32)))
  (l32:K.lookup f32 = some ⟨oc32,od32,.func (PySem.W.fnOf "fits" "fits" (defArgs s_fits) (defBody s_fits) (defScope s_fits) .none kV32 dc32 pm32 an32 cd32 ct32),sl32⟩) (c32:PySem.W.codeIn K cd32 "fits" = true) (k32:PySem.W.keepIn K (.ref f32) = true)
  (a33:PySem.W.nsIn K mainGlobals "rows_to_try" = some (some (.ref f33)))
  (l33:K.lookup f33 = some ⟨oc33,od33,.func (PySem.W.fnOf "rows_to_try" "rows_to_try" (defArgs s_rows_to_try) (defBody s_rows_to_try) (defScope s_rows_to_try) .none kV33 dc33 pm33 an33 cd33 ct33),sl33⟩) (c33:PySem.W.codeIn K cd33 "rows_to_try" = true) (k33:PySem.W.keepIn K (.ref f33) = true)
  (a34:PySem.W.nsIn K mainGlobals "exact_form" = some (some (.ref f34)))
  (l34:K.lookup f34 = some ⟨oc34,od34,.func (PySem.W.fnOf "exact_form" "exact_form" (defArgs s_exact_form) (defBody s_exact_form) (defScope s_exact_form) .none kV34 dc34 pm34 an34 cd34 ct34),sl34⟩) (c34:PySem.W.codeIn K cd34 "exact_form" = true) (k34:PySem.W.keepIn K (.ref f34) = true)
  (a35:PySem.W.nsIn K mainGlobals "_law_mixed" = some (some (.ref f35)))
  (l35:K.lookup f35 = some ⟨oc35,od35,.func (PySem.W.fnOf "_law_mixed" "_law_mixed" (defArgs s__law_mixed) (defBody s__law_mixed) (defScope s__law_mixed) .none kV35 dc35 pm35 an35 cd35 ct35),sl35⟩) (c35:PySem.W.codeIn K cd35 "_law_mixed" = true) (k35:PySem.W.keepIn K (.ref f35) = true)
  (a36:PySem.W.nsIn K mainGlobals "_law_take" = some (some (.ref f36)))
  (l36:K.lookup f36 = some ⟨oc36,od36,.func (PySem.W.fnOf "_law_take" "_law_take" (defArgs s__law_take) (defBody s__law_take) (defScope s__law_take) .none kV36 dc36 pm36 an36 cd36 ct36),sl36⟩) (c36:PySem.W.codeIn K cd36 "_law_take" = true) (k36:PySem.W.keepIn K (.ref f36) = true)
  (a37:PySem.W.nsIn K mainGlobals "_law_odd" = some (some (.ref f37)))
  (l37:K.lookup f37 = some ⟨oc37,od37,.func (PySem.W.fnOf "_law_odd" "_law_odd" (defArgs s__law_odd) (defBody s__law_odd) (defScope s__law_odd) .none kV37 dc37 pm37 an37 cd37 ct37),sl37⟩) (c37:PySem.W.codeIn K cd37 "_law_odd" = true) (k37:PySem.W.keepIn K (.ref f37) = true)
  (a38:PySem.W.nsIn K mainGlobals "_law_same" = some (some (.ref f38)))
  (l38:K.lookup f38 = some ⟨oc38,od38,.func (PySem.W.fnOf "_law_same" "_law_same" (defArgs s__law_same) (defBody s__law_same) (defScope s__law_same) .none kV38 dc38 pm38 an38 cd38 ct38),sl38⟩) (c38:PySem.W.codeIn K cd38 "_law_same" = true) (k38:PySem.W.keepIn K (.ref f38) = true)
  (a39:PySem.W.nsIn K mainGlobals "_law_asked" = some (some (.ref f39)))
  (l39:K.lookup f39 = some ⟨oc39,od39,.func (PySem.W.fnOf "_law_asked" "_law_asked" (defArgs s__law_asked) (defBody s__law_asked) (defScope s__law_asked) .none kV39 dc39 pm39 an39 cd39 ct39),sl39⟩) (c39:PySem.W.codeIn K cd39 "_law_asked" = true) (k39:PySem.W.keepIn K (.ref f39) = true)
  (a40:PySem.W.nsIn K mainGlobals "_law_alone" = some (some (.ref f40)))
  (l40:K.lookup f40 = some ⟨oc40,od40,.func (PySem.W.fnOf "_law_alone" "_law_alone" (defArgs s__law_alone) (defBody s__law_alone) (defScope s__law_alone) .none kV40 dc40 pm40 an40 cd40 ct40),sl40⟩) (c40:PySem.W.codeIn K cd40 "_law_alone" = true) (k40:PySem.W.keepIn K (.ref f40) = true)
  (a41:PySem.W.nsIn K mainGlobals "_law_answer" = some (some (.ref f41)))
  (l41:K.lookup f41 = some ⟨oc41,od41,.func (PySem.W.fnOf "_law_answer" "_law_answer" (defArgs s__law_answer) (defBody s__law_answer) (defScope s__law_answer) .none kV41 dc41 pm41 an41 cd41 ct41),sl41⟩) (c41:PySem.W.codeIn K cd41 "_law_answer" = true) (k41:PySem.W.keepIn K (.ref f41) = true)
  (a42:PySem.W.nsIn K mainGlobals "_law_number" = some (some (.ref f42)))
  (l42:K.lookup f42 = some ⟨oc42,od42,.func (PySem.W.fnOf "_law_number" "_law_number" (defArgs s__law_number) (defBody s__law_number) (defScope s__law_number) .none kV42 dc42 pm42 an42 cd42 ct42),sl42⟩) (c42:PySem.W.codeIn K cd42 "_law_number" = true) (k42:PySem.W.keepIn K (.ref f42) = true)
  (a43:PySem.W.nsIn K mainGlobals "_law_due_of_line" = some (some (.ref f43)))
  (l43:K.lookup f43 = some ⟨oc43,od43,.func (PySem.W.fnOf "_law_due_of_line" "_law_due_of_line" (defArgs s__law_due_of_line) (defBody s__law_due_of_line) (defScope s__law_due_of_line) .none kV43 dc43 pm43 an43 cd43 ct43),sl43⟩) (c43:PySem.W.codeIn K cd43 "_law_due_of_line" = true) (k43:PySem.W.keepIn K (.ref f43) = true)
  (a44:PySem.W.nsIn K mainGlobals "_law_due_of_row" = some (some (.ref f44)))
  (l44:K.lookup f44 = some ⟨oc44,od44,.func (PySem.W.fnOf "_law_due_of_row" "_law_due_of_row" (defArgs s__law_due_of_row) (defBody s__law_due_of_row) (defScope s__law_due_of_row) .none kV44 dc44 pm44 an44 cd44 ct44),sl44⟩) (c44:PySem.W.codeIn K cd44 "_law_due_of_row" = true) (k44:PySem.W.keepIn K (.ref f44) = true)
  (a45:PySem.W.nsIn K mainGlobals "_law_line_things" = some (some (.ref f45)))
  (l45:K.lookup f45 = some ⟨oc45,od45,.func (PySem.W.fnOf "_law_line_things" "_law_line_things" (defArgs s__law_line_things) (defBody s__law_line_things) (defScope s__law_line_things) .none kV45 dc45 pm45 an45 cd45 ct45),sl45⟩) (c45:PySem.W.codeIn K cd45 "_law_line_things" = true) (k45:PySem.W.keepIn K (.ref f45) = true)
  (a46:PySem.W.nsIn K mainGlobals "_law_row_things" = some (some (.ref f46)))
  (l46:K.lookup f46 = some ⟨oc46,od46,.func (PySem.W.fnOf "_law_row_things" "_law_row_things" (defArgs s__law_row_things) (defBody s__law_row_things) (defScope s__law_row_things) .none kV46 dc46 pm46 an46 cd46 ct46),sl46⟩) (c46:PySem.W.codeIn K cd46 "_law_row_things" = true) (k46:PySem.W.keepIn K (.ref f46) = true)
  (a47:PySem.W.nsIn K mainGlobals "law" = some (some (.ref f47)))
  (l47:K.lookup f47 = some ⟨oc47,od47,.func (PySem.W.fnOf "law" "law" (defArgs s_law) (defBody s_law) (defScope s_law) .none kV47 dc47 pm47 an47 cd47 ct47),sl47⟩) (c47:PySem.W.codeIn K cd47 "law" = true) (k47:PySem.W.keepIn K (.ref f47) = true)
  (aC_NoLine:PySem.W.nsIn K mainGlobals "NoLine" = some (some (.ref c_NoLine)))
  (aC_NoFraction:PySem.W.nsIn K mainGlobals "NoFraction" = some (some (.ref c_NoFraction)))
  (aC_NoForm:PySem.W.nsIn K mainGlobals "NoForm" = some (some (.ref c_NoForm)))
  (aC_NoWidth:PySem.W.nsIn K mainGlobals "NoWidth" = some (some (.ref c_NoWidth)))
  (aC_WiseError:PySem.W.nsIn K mainGlobals "WiseError" = some (some (.ref c_WiseError)))
  (xe_NoLine:excFn K c_NoLine f4 = true) (xs_NoLine:PySem.W.findIn K (.ref c_NoLine) "__setattr__" = some (some (.builtin "object.__setattr__"))) (xm_NoLine:PySem.W.mroIn K c_NoLine (.type "object") = some true) (xn_NoLine:PySem.W.findIn K (.ref c_NoLine) "found" = some none) (xf_NoLine:PySem.W.typeIn K (.ref f4) = some (.type "function")) (xk_NoLine:PySem.W.keepIn K (.ref c_NoLine) = true)
  (xe_NoFraction:excFn K c_NoFraction f2 = true) (xs_NoFraction:PySem.W.findIn K (.ref c_NoFraction) "__setattr__" = some (some (.builtin "object.__setattr__"))) (xm_NoFraction:PySem.W.mroIn K c_NoFraction (.type "object") = some true) (xn_NoFraction:PySem.W.findIn K (.ref c_NoFraction) "found" = some none) (xf_NoFraction:PySem.W.typeIn K (.ref f2) = some (.type "function")) (xk_NoFraction:PySem.W.keepIn K (.ref c_NoFraction) = true)
  (xe_NoForm:excFn K c_NoForm f3 = true) (xs_NoForm:PySem.W.findIn K (.ref c_NoForm) "__setattr__" = some (some (.builtin "object.__setattr__"))) (xm_NoForm:PySem.W.mroIn K c_NoForm (.type "object") = some true) (xn_NoForm:PySem.W.findIn K (.ref c_NoForm) "found" = some none) (xf_NoForm:PySem.W.typeIn K (.ref f3) = some (.type "function")) (xk_NoForm:PySem.W.keepIn K (.ref c_NoForm) = true)
  (xe_NoWidth:excFn K c_NoWidth f1 = true) (xs_NoWidth:PySem.W.findIn K (.ref c_NoWidth) "__setattr__" = some (some (.builtin "object.__setattr__"))) (xm_NoWidth:PySem.W.mroIn K c_NoWidth (.type "object") = some true) (xn_NoWidth:PySem.W.findIn K (.ref c_NoWidth) "found" = some none) (xf_NoWidth:PySem.W.typeIn K (.ref f1) = some (.type "function")) (xk_NoWidth:PySem.W.keepIn K (.ref c_NoWidth) = true)
  (kf_if__NoLine:PySem.W.isClsIn K c_NoLine = true)
  (kf_tf_NoLine:PySem.W.typeIn K (.ref c_NoLine) = some (.type "type"))
  (kf_mf_NoLine:PySem.W.mroIn K c_NoLine (.ref c_NoLine) = some true)
  (kf_wb_NoLine:PySem.W.mroIn K c_NoLine (.type "BaseException") = some true)
  (kf_ga_NoLine:PySem.W.findIn K (.ref c_NoLine) "__getattribute__" = some (some (.builtin "BaseException.__getattribute__")))
  (kf_gn_NoLine:PySem.W.findIn K (.ref c_NoLine) "__getattr__" = some none)
  (kf_gc_NoLine:PySem.W.findIn K (.ref c_NoLine) "__class__" = some (some (.builtin "object.__class__")))
  (kf_mo_NoLine:PySem.W.mroIn K c_NoLine (.type "object") = some true)
  (kf_mb_NoLine:PySem.W.mroIn K c_NoLine (.type "BaseException") = some true)
  (kf_hd_NoLine:PySem.W.hasDictIn K c_NoLine = true)
  (kf_nf_NoLine:PySem.W.findIn K (.ref c_NoLine) "found" = some none)
  (kf_mw_NoLine:PySem.W.mroIn K c_NoLine (.ref c_WiseError) = some true)
  (kf_mv_NoLine:PySem.W.mroIn K c_NoLine (.type "ValueError") = some true)
  (kf_m_NoLine_NoFraction:PySem.W.mroIn K c_NoLine (.ref c_NoFraction) = some false)
  (kf_m_NoLine_NoForm:PySem.W.mroIn K c_NoLine (.ref c_NoForm) = some false)
  (kf_m_NoLine_NoWidth:PySem.W.mroIn K c_NoLine (.ref c_NoWidth) = some false)
  (kf_if__NoFraction:PySem.W.isClsIn K c_NoFraction = true)
  (kf_tf_NoFraction:PySem.W.typeIn K (.ref c_NoFraction) = some (.type "type"))
  (kf_mf_NoFraction:PySem.W.mroIn K c_NoFraction (.ref c_NoFraction) = some true)
  (kf_wb_NoFraction:PySem.W.mroIn K c_NoFraction (.type "BaseException") = some true)
  (kf_ga_NoFraction:PySem.W.findIn K (.ref c_NoFraction) "__getattribute__" = some (some (.builtin "BaseException.__getattribute__")))
  (kf_gn_NoFraction:PySem.W.findIn K (.ref c_NoFraction) "__getattr__" = some none)
  (kf_gc_NoFraction:PySem.W.findIn K (.ref c_NoFraction) "__class__" = some (some (.builtin "object.__class__")))
  (kf_mo_NoFraction:PySem.W.mroIn K c_NoFraction (.type "object") = some true)
  (kf_mb_NoFraction:PySem.W.mroIn K c_NoFraction (.type "BaseException") = some true)
  (kf_hd_NoFraction:PySem.W.hasDictIn K c_NoFraction = true)
  (kf_nf_NoFraction:PySem.W.findIn K (.ref c_NoFraction) "found" = some none)
  (kf_mw_NoFraction:PySem.W.mroIn K c_NoFraction (.ref c_WiseError) = some true)
  (kf_mv_NoFraction:PySem.W.mroIn K c_NoFraction (.type "ValueError") = some true)
  (kf_m_NoFraction_NoLine:PySem.W.mroIn K c_NoFraction (.ref c_NoLine) = some false)
  (kf_m_NoFraction_NoForm:PySem.W.mroIn K c_NoFraction (.ref c_NoForm) = some false)
  (kf_m_NoFraction_NoWidth:PySem.W.mroIn K c_NoFraction (.ref c_NoWidth) = some false)
  (kf_if__NoForm:PySem.W.isClsIn K c_NoForm = true)
  (kf_tf_NoForm:PySem.W.typeIn K (.ref c_NoForm) = some (.type "type"))
  (kf_mf_NoForm:PySem.W.mroIn K c_NoForm (.ref c_NoForm) = some true)
  (kf_wb_NoForm:PySem.W.mroIn K c_NoForm (.type "BaseException") = some true)
  (kf_ga_NoForm:PySem.W.findIn K (.ref c_NoForm) "__getattribute__" = some (some (.builtin "BaseException.__getattribute__")))
  (kf_gn_NoForm:PySem.W.findIn K (.ref c_NoForm) "__getattr__" = some none)
  (kf_gc_NoForm:PySem.W.findIn K (.ref c_NoForm) "__class__" = some (some (.builtin "object.__class__")))
  (kf_mo_NoForm:PySem.W.mroIn K c_NoForm (.type "object") = some true)
  (kf_mb_NoForm:PySem.W.mroIn K c_NoForm (.type "BaseException") = some true)
  (kf_hd_NoForm:PySem.W.hasDictIn K c_NoForm = true)
  (kf_nf_NoForm:PySem.W.findIn K (.ref c_NoForm) "found" = some none)
  (kf_mw_NoForm:PySem.W.mroIn K c_NoForm (.ref c_WiseError) = some true)
  (kf_mv_NoForm:PySem.W.mroIn K c_NoForm (.type "ValueError") = some true)
  (kf_m_NoForm_NoLine:PySem.W.mroIn K c_NoForm (.ref c_NoLine) = some false)
  (kf_m_NoForm_NoFraction:PySem.W.mroIn K c_NoForm (.ref c_NoFraction) = some false)
  (kf_m_NoForm_NoWidth:PySem.W.mroIn K c_NoForm (.ref c_NoWidth) = some false)
  (kf_if__NoWidth:PySem.W.isClsIn K c_NoWidth = true)
  (kf_tf_NoWidth:PySem.W.typeIn K (.ref c_NoWidth) = some (.type "type"))
  (kf_mf_NoWidth:PySem.W.mroIn K c_NoWidth (.ref c_NoWidth) = some true)
  (kf_wb_NoWidth:PySem.W.mroIn K c_NoWidth (.type "BaseException") = some true)
  (kf_ga_NoWidth:PySem.W.findIn K (.ref c_NoWidth) "__getattribute__" = some (some (.builtin "BaseException.__getattribute__")))
  (kf_gn_NoWidth:PySem.W.findIn K (.ref c_NoWidth) "__getattr__" = some none)
  (kf_gc_NoWidth:PySem.W.findIn K (.ref c_NoWidth) "__class__" = some (some (.builtin "object.__class__")))
  (kf_mo_NoWidth:PySem.W.mroIn K c_NoWidth (.type "object") = some true)
  (kf_mb_NoWidth:PySem.W.mroIn K c_NoWidth (.type "BaseException") = some true)
  (kf_hd_NoWidth:PySem.W.hasDictIn K c_NoWidth = true)
  (kf_nf_NoWidth:PySem.W.findIn K (.ref c_NoWidth) "found" = some none)
  (kf_mw_NoWidth:PySem.W.mroIn K c_NoWidth (.ref c_WiseError) = some true)
  (kf_mv_NoWidth:PySem.W.mroIn K c_NoWidth (.type "ValueError") = some true)
  (kf_m_NoWidth_NoLine:PySem.W.mroIn K c_NoWidth (.ref c_NoLine) = some false)
  (kf_m_NoWidth_NoFraction:PySem.W.mroIn K c_NoWidth (.ref c_NoFraction) = some false)
  (kf_m_NoWidth_NoForm:PySem.W.mroIn K c_NoWidth (.ref c_NoForm) = some false)
  (kf_if__WiseError:PySem.W.isClsIn K c_WiseError = true)
  (kf_tf_WiseError:PySem.W.typeIn K (.ref c_WiseError) = some (.type "type"))
  (kf_wb_WiseError:PySem.W.mroIn K c_WiseError (.type "BaseException") = some true)
  {cT PT:Addr} (hcT:cd25 = .ref cT)
  (z_isinstance:PySem.W.nsIn K mainGlobals "isinstance" = some none) (z_int:PySem.W.nsIn K mainGlobals "int" = some none) (z_bool:PySem.W.nsIn K mainGlobals "bool" = some none) (z_list:PySem.W.nsIn K mainGlobals "list" = some none) (z_tuple:PySem.W.nsIn K mainGlobals "tuple" = some none) (z_len:PySem.W.nsIn K mainGlobals "len" = some none) (z_max:PySem.W.nsIn K mainGlobals "max" = some none) (z_min:PySem.W.nsIn K mainGlobals "min" = some none) (z_range:PySem.W.nsIn K mainGlobals "range" = some none) (z_sorted:PySem.W.nsIn K mainGlobals "sorted" = some none) (z_set:PySem.W.nsIn K mainGlobals "set" = some none) (z_abs:PySem.W.nsIn K mainGlobals "abs" = some none) (z_all:PySem.W.nsIn K mainGlobals "all" = some none) (z_ValueError:PySem.W.nsIn K mainGlobals "ValueError" = some none) :
  ∃ fd:FuncData,(∀ (s:Shared) (v:Value),BindsTo s fd ⟨[v],[]⟩ [("_law_script",v)])∧∀ base:Heap,K.In base→base.Ns mainGlobals mg→(∀ t ∈ [(cT,PT)],LamBase mg base t.1 t.2)→FnOk l.prog w K mg base CX0 9 fa fd ["_law_script"] ((spLaw K PT)):=by
 have e:=hfa.symm.trans (PySem.W.mg_of X G a47)
 cases e
 have T:Txt K mg ⟨c_NoLine,c_NoFraction,c_NoForm,c_NoWidth,c_WiseError⟩:=⟨PySem.W.mg_none_of X G z_isinstance,PySem.W.mg_none_of X G z_int,PySem.W.mg_none_of X G z_bool,PySem.W.mg_none_of X G z_list,PySem.W.mg_none_of X G z_tuple,PySem.W.mg_none_of X G z_len,PySem.W.mg_none_of X G z_max,PySem.W.mg_none_of X G z_min,PySem.W.mg_none_of X G z_range,PySem.W.mg_none_of X G z_sorted,PySem.W.mg_none_of X G z_set,PySem.W.mg_none_of X G z_abs,PySem.W.mg_none_of X G z_all,PySem.W.mg_none_of X G z_ValueError,PySem.W.mg_of X G aC_NoLine,PySem.W.mg_of X G aC_NoFraction,PySem.W.mg_of X G aC_NoForm,PySem.W.mg_of X G aC_NoWidth,PySem.W.mg_of X G aC_WiseError,kf_if__NoLine,kf_tf_NoLine,kf_mf_NoLine,kf_wb_NoLine,kf_ga_NoLine,kf_gn_NoLine,kf_gc_NoLine,kf_mo_NoLine,kf_mb_NoLine,kf_hd_NoLine,kf_nf_NoLine,kf_mw_NoLine,kf_mv_NoLine,kf_m_NoLine_NoFraction,kf_m_NoLine_NoForm,kf_m_NoLine_NoWidth,kf_if__NoFraction,kf_tf_NoFraction,kf_mf_NoFraction,kf_wb_NoFraction,kf_ga_NoFraction,kf_gn_NoFraction,kf_gc_NoFraction,kf_mo_NoFraction,kf_mb_NoFraction,kf_hd_NoFraction,kf_nf_NoFraction,kf_mw_NoFraction,kf_mv_NoFraction,kf_m_NoFraction_NoLine,kf_m_NoFraction_NoForm,kf_m_NoFraction_NoWidth,kf_if__NoForm,kf_tf_NoForm,kf_mf_NoForm,kf_wb_NoForm,kf_ga_NoForm,kf_gn_NoForm,kf_gc_NoForm,kf_mo_NoForm,kf_mb_NoForm,kf_hd_NoForm,kf_nf_NoForm,kf_mw_NoForm,kf_mv_NoForm,kf_m_NoForm_NoLine,kf_m_NoForm_NoFraction,kf_m_NoForm_NoWidth,kf_if__NoWidth,kf_tf_NoWidth,kf_mf_NoWidth,kf_wb_NoWidth,kf_ga_NoWidth,kf_gn_NoWidth,kf_gc_NoWidth,kf_mo_NoWidth,kf_mb_NoWidth,kf_hd_NoWidth,kf_nf_NoWidth,kf_mw_NoWidth,kf_mv_NoWidth,kf_m_NoWidth_NoLine,kf_m_NoWidth_NoFraction,kf_m_NoWidth_NoForm,kf_if__WiseError,kf_tf_WiseError,kf_wb_WiseError⟩
 have F1:=fun_mk (st:=s_NoWidth___init__) l1 c1 k1
 have b1:=F1.binds (ps:=["self", "found"]) fun _ _ _ _ _ _ us hl=>match us,hl with | [_,_],_=>rfl
 have F2:=fun_mk (st:=s_NoFraction___init__) l2 c2 k2
 have b2:=F2.binds (ps:=["self", "found"]) fun _ _ _ _ _ _ us hl=>match us,hl with | [_,_],_=>rfl
 have F3:=fun_mk (st:=s_NoForm___init__) l3 c3 k3
 have b3:=F3.binds (ps:=["self", "found"]) fun _ _ _ _ _ _ us hl=>match us,hl with | [_,_],_=>rfl
 have F4:=fun_mk (st:=s_NoLine___init__) l4 c4 k4
 have b4:=F4.binds (ps:=["self", "found"]) fun _ _ _ _ _ _ us hl=>match us,hl with | [_,_],_=>rfl
 have F5:=fun_mk (st:=s_is_whole) l5 c5 k5
 have b5:=F5.binds (ps:=["thing"]) fun _ _ _ _ _ _ us hl=>match us,hl with | [_],_=>rfl
 have F6:=fun_mk (st:=s_is_between) l6 c6 k6
 have b6:=F6.binds (ps:=["thing", "low", "high"]) fun _ _ _ _ _ _ us hl=>match us,hl with | [_,_,_],_=>rfl
 have F7:=fun_mk (st:=s_need_width) l7 c7 k7
 have b7:=F7.binds (ps:=["width"]) fun _ _ _ _ _ _ us hl=>match us,hl with | [_],_=>rfl
 have F8:=fun_mk (st:=s_common_divisor) l8 c8 k8
 have b8:=F8.binds (ps:=["a", "b"]) fun _ _ _ _ _ _ us hl=>match us,hl with | [_,_],_=>rfl
 have F9:=fun_mk (st:=s_fraction) l9 c9 k9
 have b9:=F9.binds (ps:=["top", "bottom"]) fun _ _ _ _ _ _ us hl=>match us,hl with | [_,_],_=>rfl
 have F10:=fun_mk (st:=s_is_short) l10 c10 k10
 have b10:=F10.binds (ps:=["thing"]) fun _ _ _ _ _ _ us hl=>match us,hl with | [_],_=>rfl
 have F11:=fun_mk (st:=s_need_line) l11 c11 k11
 have b11:=F11.binds (ps:=["n", "m", "a", "b"]) fun _ _ _ _ _ _ us hl=>match us,hl with | [_,_,_,_],_=>rfl
 have F12:=fun_mk (st:=s_height) l12 c12 k12
 have b12:=F12.binds (ps:=["n", "m", "a", "b", "x"]) fun _ _ _ _ _ _ us hl=>match us,hl with | [_,_,_,_,_],_=>rfl
 have F13:=fun_mk (st:=s_fall_rows) l13 c13 k13
 have b13:=F13.binds (ps:=["n", "m", "a", "b"]) fun _ _ _ _ _ _ us hl=>match us,hl with | [_,_,_,_],_=>rfl
 have F14:=fun_mk (st:=s_falls) l14 c14 k14
 have b14:=F14.binds (ps:=["n", "m", "a", "b"]) fun _ _ _ _ _ _ us hl=>match us,hl with | [_,_,_,_],_=>rfl
 have F15:=fun_mk (st:=s_places_reached) l15 c15 k15
 have b15:=F15.binds (ps:=["n", "m", "a", "b"]) fun _ _ _ _ _ _ us hl=>match us,hl with | [_,_,_,_],_=>rfl
 have F16:=fun_mk (st:=s_corner_points) l16 c16 k16
 have b16:=F16.binds (ps:=["n", "m", "a", "b"]) fun _ _ _ _ _ _ us hl=>match us,hl with | [_,_,_,_],_=>rfl
 have F17:=fun_mk (st:=s_corners) l17 c17 k17
 have b17:=F17.binds (ps:=["n", "m", "a", "b"]) fun _ _ _ _ _ _ us hl=>match us,hl with | [_,_,_,_],_=>rfl
 have F18:=fun_mk (st:=s_inverse_by) l18 c18 k18
 have b18:=F18.binds (ps:=["number", "bottom"]) fun _ _ _ _ _ _ us hl=>match us,hl with | [_,_],_=>rfl
 have F19:=fun_mk (st:=s_side_between) l19 c19 k19
 have b19:=F19.binds (ps:=["one", "other"]) fun _ _ _ _ _ _ us hl=>match us,hl with | [_,_],_=>rfl
 have F20:=fun_mk (st:=s_paper) l20 c20 k20
 have b20:=F20.binds (ps:=["n", "m", "a", "b"]) fun _ _ _ _ _ _ us hl=>match us,hl with | [_,_,_,_],_=>rfl
 have F21:=fun_mk (st:=s_is_seven) l21 c21 k21
 have b21:=F21.binds (ps:=["thing"]) fun _ _ _ _ _ _ us hl=>match us,hl with | [_],_=>rfl
 have F22:=fun_mk (st:=s_is_paper) l22 c22 k22
 have b22:=F22.binds (ps:=["n", "m", "a", "b", "thing"]) fun _ _ _ _ _ _ us hl=>match us,hl with | [_,_,_,_,_],_=>rfl
 have F23:=fun_mk (st:=s_need_fraction) l23 c23 k23
 have b23:=F23.binds (ps:=["top", "bottom"]) fun _ _ _ _ _ _ us hl=>match us,hl with | [_,_],_=>rfl
 have F24:=fun_mk (st:=s_need_product) l24 c24 k24
 have b24:=F24.binds (ps:=["width", "top", "bottom", "factor", "addend", "total"]) fun _ _ _ _ _ _ us hl=>match us,hl with | [_,_,_,_,_,_],_=>rfl
 have F25:=fun_mk (st:=s_greatest_miss) l25 c25 k25
 have b25:=F25.binds (ps:=["n", "m", "a", "b", "top", "bottom"]) fun _ _ _ _ _ _ us hl=>match us,hl with | [_,_,_,_,_,_],_=>rfl
 have F26:=fun_mk (st:=s_greatest_lack) l26 c26 k26
 have b26:=F26.binds (ps:=["n", "m", "a", "b", "top", "bottom"]) fun _ _ _ _ _ _ us hl=>match us,hl with | [_,_,_,_,_,_],_=>rfl
 have F27:=fun_mk (st:=s_greatest) l27 c27 k27
 have b27:=F27.binds (ps:=["n", "m", "a", "b", "top", "bottom"]) fun _ _ _ _ _ _ us hl=>match us,hl with | [_,_,_,_,_,_],_=>rfl
 have F28:=fun_mk (st:=s_least) l28 c28 k28
 have b28:=F28.binds (ps:=["n", "m", "a", "b", "top", "bottom"]) fun _ _ _ _ _ _ us hl=>match us,hl with | [_,_,_,_,_,_],_=>rfl
 have F29:=fun_mk (st:=s_miss_of) l29 c29 k29
 have b29:=F29.binds (ps:=["width", "top", "bottom", "factor", "addend", "total"]) fun _ _ _ _ _ _ us hl=>match us,hl with | [_,_,_,_,_,_],_=>rfl
 have F30:=fun_mk (st:=s_quotient_corners) l30 c30 k30
 have b30:=F30.binds (ps:=["width", "top", "bottom"]) fun _ _ _ _ _ _ us hl=>match us,hl with | [_,_,_],_=>rfl
 have F31:=fun_mk (st:=s_misfit) l31 c31 k31
 have b31:=F31.binds (ps:=["ends", "row"]) fun _ _ _ _ _ _ us hl=>match us,hl with | [_,_],_=>rfl
 have F32:=fun_mk (st:=s_fits) l32 c32 k32
 have b32:=F32.binds (ps:=["width", "top", "bottom", "factor", "addend", "total"]) fun _ _ _ _ _ _ us hl=>match us,hl with | [_,_,_,_,_,_],_=>rfl
 have F33:=fun_mk (st:=s_rows_to_try) l33 c33 k33
 have b33:=F33.binds (ps:=["width", "top", "bottom"]) fun _ _ _ _ _ _ us hl=>match us,hl with | [_,_,_],_=>rfl
 have F34:=fun_mk (st:=s_exact_form) l34 c34 k34
 have b34:=F34.binds (ps:=["width", "top", "bottom"]) fun _ _ _ _ _ _ us hl=>match us,hl with | [_,_,_],_=>rfl
 have F35:=fun_mk (st:=s__law_mixed) l35 c35 k35
 have b35:=F35.binds (ps:=["_law_cell", "_law_k"]) fun _ _ _ _ _ _ us hl=>match us,hl with | [_,_],_=>rfl
 have F36:=fun_mk (st:=s__law_take) l36 c36 k36
 have b36:=F36.binds (ps:=["_law_pool", "_law_most"]) fun _ _ _ _ _ _ us hl=>match us,hl with | [_,_],_=>rfl
 have F37:=fun_mk (st:=s__law_odd) l37 c37 k37
 have b37:=F37.binds (ps:=["_law_k"]) fun _ _ _ _ _ _ us hl=>match us,hl with | [_],_=>rfl
 have F38:=fun_mk (st:=s__law_same) l38 c38 k38
 have b38:=F38.binds (ps:=["_law_found", "_law_due"]) fun _ _ _ _ _ _ us hl=>match us,hl with | [_,_],_=>rfl
 have F39:=fun_mk (st:=s__law_asked) l39 c39 k39
 have b39:=F39.binds (ps:=["_law_door", "_law_things"]) fun _ _ _ _ _ _ us hl=>match us,hl with | [_,_],_=>rfl
 have F40:=fun_mk (st:=s__law_alone) l40 c40 k40
 have b40:=F40.binds (ps:=["_law_e", "_law_word"]) fun _ _ _ _ _ _ us hl=>match us,hl with | [_,_],_=>rfl
 have F41:=fun_mk (st:=s__law_answer) l41 c41 k41
 have b41:=F41.binds (ps:=["_law_door", "_law_things"]) fun _ _ _ _ _ _ us hl=>match us,hl with | [_,_],_=>rfl
 have F42:=fun_mk (st:=s__law_number) l42 c42 k42
 have b42:=F42.binds (ps:=["_law_thing", "_law_low", "_law_high"]) fun _ _ _ _ _ _ us hl=>match us,hl with | [_,_,_],_=>rfl
 have F43:=fun_mk (st:=s__law_due_of_line) l43 c43 k43
 have b43:=F43.binds (ps:=["_law_door", "_law_things"]) fun _ _ _ _ _ _ us hl=>match us,hl with | [_,_],_=>rfl
 have F44:=fun_mk (st:=s__law_due_of_row) l44 c44 k44
 have b44:=F44.binds (ps:=["_law_door", "_law_things"]) fun _ _ _ _ _ _ us hl=>match us,hl with | [_,_],_=>rfl
 have F45:=fun_mk (st:=s__law_line_things) l45 c45 k45
 have b45:=F45.binds (ps:=["_law_pool"]) fun _ _ _ _ _ _ us hl=>match us,hl with | [_],_=>rfl
 have F46:=fun_mk (st:=s__law_row_things) l46 c46 k46
 have b46:=F46.binds (ps:=["_law_pool"]) fun _ _ _ _ _ _ us hl=>match us,hl with | [_],_=>rfl
 have F47:=fun_mk (st:=s_law) l47 c47 k47
 refine ⟨PySem.W.fnOf "law" "law" (defArgs s_law) (defBody s_law) (defScope s_law) .none kV47 dc47 pm47 an47 cd47 ct47,fun s v=>.of_eq rfl,fun base _ _ LB=>?_⟩
 have B:LamBase mg base cT PT:=LB _ (List.mem_singleton.mpr rfl)
 have Q_NoWidth:XCls K c_NoWidth f1 "found":=⟨xe_NoWidth,xs_NoWidth,xm_NoWidth,xn_NoWidth,xf_NoWidth,xk_NoWidth⟩
 have X_NoWidth:XHas l.prog w K mg base 1 "NoWidth" c_NoWidth "found":=⟨_,_,_,_,ok_NoWidth___init__ F1 T Q_NoWidth,b1,Q_NoWidth,PySem.W.mg_of X G aC_NoWidth⟩
 have Q_NoFraction:XCls K c_NoFraction f2 "found":=⟨xe_NoFraction,xs_NoFraction,xm_NoFraction,xn_NoFraction,xf_NoFraction,xk_NoFraction⟩
 have X_NoFraction:XHas l.prog w K mg base 1 "NoFraction" c_NoFraction "found":=⟨_,_,_,_,ok_NoFraction___init__ F2 T Q_NoFraction,b2,Q_NoFraction,PySem.W.mg_of X G aC_NoFraction⟩
 have Q_NoForm:XCls K c_NoForm f3 "found":=⟨xe_NoForm,xs_NoForm,xm_NoForm,xn_NoForm,xf_NoForm,xk_NoForm⟩
 have X_NoForm:XHas l.prog w K mg base 1 "NoForm" c_NoForm "found":=⟨_,_,_,_,ok_NoForm___init__ F3 T Q_NoForm,b3,Q_NoForm,PySem.W.mg_of X G aC_NoForm⟩
 have Q_NoLine:XCls K c_NoLine f4 "found":=⟨xe_NoLine,xs_NoLine,xm_NoLine,xn_NoLine,xf_NoLine,xk_NoLine⟩
 have X_NoLine:XHas l.prog w K mg base 1 "NoLine" c_NoLine "found":=⟨_,_,_,_,ok_NoLine___init__ F4 T Q_NoLine,b4,Q_NoLine,PySem.W.mg_of X G aC_NoLine⟩
 have H__law_mixed:Has l.prog w K mg base 1 "_law_mixed" ["_law_cell", "_law_k"] spMix:=⟨_,_,ok__law_mixed F35 T ,b35,k35,PySem.W.mg_of X G a35⟩
 have H__law_take:Has l.prog w K mg base 2 "_law_take" ["_law_pool", "_law_most"] spTk:=⟨_,_,ok__law_take F36 T H__law_mixed,b36,k36,PySem.W.mg_of X G a36⟩
 have H__law_odd:Has l.prog w K mg base 1 "_law_odd" ["_law_k"] spOdd:=⟨_,_,ok__law_odd F37 T ,b37,k37,PySem.W.mg_of X G a37⟩
 have H__law_line_things:Has l.prog w K mg base 3 "_law_line_things" ["_law_pool"] spThL:=⟨_,_,ok__law_line_things F45 T H__law_take H__law_odd,b45,k45,PySem.W.mg_of X G a45⟩
 have H__law_number:Has l.prog w K mg base 1 "_law_number" ["_law_thing", "_law_low", "_law_high"] spBtwG:=⟨_,_,ok__law_number F42 T ,b42,k42,PySem.W.mg_of X G a42⟩
 have H__law_due_of_line:Has l.prog w K mg base 2 "_law_due_of_line" ["_law_door", "_law_things"] spDueL:=⟨_,_,ok__law_due_of_line F43 T H__law_number,b43,k43,PySem.W.mg_of X G a43⟩
 have H__law_row_things:Has l.prog w K mg base 3 "_law_row_things" ["_law_pool"] spThR:=⟨_,_,ok__law_row_things F46 T H__law_take H__law_odd,b46,k46,PySem.W.mg_of X G a46⟩
 have H__law_due_of_row:Has l.prog w K mg base 2 "_law_due_of_row" ["_law_door", "_law_things"] spDueR:=⟨_,_,ok__law_due_of_row F44 T H__law_number,b44,k44,PySem.W.mg_of X G a44⟩
 have H_is_whole:Has l.prog w K mg base 1 "is_whole" ["thing"] spWholeG:=⟨_,_,ok_is_whole F5 T ,b5,k5,PySem.W.mg_of X G a5⟩
 have W_is_whole:Has l.prog w K mg base 1 "is_whole" ["thing"] spWh1:=H_is_whole.imp imp_wh1
 have H_is_between:Has l.prog w K mg base 2 "is_between" ["thing", "low", "high"] spBtwG:=⟨_,_,ok_is_between F6 T H_is_whole,b6,k6,PySem.W.mg_of X G a6⟩
 have H_need_width:HasY l.prog w K mg base 3 "need_width" ["width"] (spNW ⟨c_NoLine,c_NoFraction,c_NoForm,c_NoWidth,c_WiseError⟩):=⟨_,_,ok_need_width F7 T H_is_between X_NoWidth,b7,k7,PySem.W.mg_of X G a7⟩
 have H_fall_rows:Has l.prog w K mg base 1 "fall_rows" ["n", "m", "a", "b"] spFall:=⟨_,_,ok_fall_rows F13 T ,b13,k13,PySem.W.mg_of X G a13⟩
 have H_places_reached:Has l.prog w K mg base 2 "places_reached" ["n", "m", "a", "b"] spPlc:=⟨_,_,ok_places_reached F15 T H_fall_rows,b15,k15,PySem.W.mg_of X G a15⟩
 have H_corner_points:Has l.prog w K mg base 3 "corner_points" ["n", "m", "a", "b"] spCrn:=⟨_,_,ok_corner_points F16 T H_places_reached,b16,k16,PySem.W.mg_of X G a16⟩
 have H_quotient_corners:Has l.prog w K mg base 4 "quotient_corners" ["width", "top", "bottom"] spEnds:=⟨_,_,ok_quotient_corners F30 T H_corner_points,b30,k30,PySem.W.mg_of X G a30⟩
 have H_rows_to_try:Has l.prog w K mg base 1 "rows_to_try" ["width", "top", "bottom"] spTry:=⟨_,_,ok_rows_to_try F33 T ,b33,k33,PySem.W.mg_of X G a33⟩
 have H_misfit:Has l.prog w K mg base 1 "misfit" ["ends", "row"] spMis:=⟨_,_,ok_misfit F31 T ,b31,k31,PySem.W.mg_of X G a31⟩
 have H_exact_form:HasY l.prog w K mg base 5 "exact_form" ["width", "top", "bottom"] (spExY ⟨c_NoLine,c_NoFraction,c_NoForm,c_NoWidth,c_WiseError⟩):=⟨_,_,ok_exact_form F34 T H_need_width H_quotient_corners H_rows_to_try H_is_between H_misfit X_NoFraction,b34,k34,PySem.W.mg_of X G a34⟩
 have H_is_short:Has l.prog w K mg base 3 "is_short" ["thing"] spShG:=⟨_,_,ok_is_short F10 T H_is_between,b10,k10,PySem.W.mg_of X G a10⟩
 have H_need_line:HasY l.prog w K mg base 4 "need_line" ["n", "m", "a", "b"] (spNL ⟨c_NoLine,c_NoFraction,c_NoForm,c_NoWidth,c_WiseError⟩):=⟨_,_,ok_need_line F11 T H_is_between H_is_short X_NoLine,b11,k11,PySem.W.mg_of X G a11⟩
 have H_need_fraction:HasY l.prog w K mg base 4 "need_fraction" ["top", "bottom"] (spNF ⟨c_NoLine,c_NoFraction,c_NoForm,c_NoWidth,c_WiseError⟩):=⟨_,_,ok_need_fraction F23 T H_is_short X_NoFraction,b23,k23,PySem.W.mg_of X G a23⟩
 have H_common_divisor:Has l.prog w K mg base 1 "common_divisor" ["a", "b"] spGcd:=⟨_,_,ok_common_divisor F8 T ,b8,k8,PySem.W.mg_of X G a8⟩
 have H_fraction:Has l.prog w K mg base 2 "fraction" ["top", "bottom"] spFr:=⟨_,_,ok_fraction F9 T H_common_divisor W_is_whole,b9,k9,PySem.W.mg_of X G a9⟩
 have H_greatest_miss:Has l.prog w K mg base 4 "greatest_miss" ["n", "m", "a", "b", "top", "bottom"] (spGM PT):=⟨_,_,ok_greatest_miss F25 T H_corner_points H_fraction B hcT,b25,k25,PySem.W.mg_of X G a25⟩
 have H_greatest_lack:Has l.prog w K mg base 5 "greatest_lack" ["n", "m", "a", "b", "top", "bottom"] (spGL PT):=⟨_,_,ok_greatest_lack F26 T H_greatest_miss,b26,k26,PySem.W.mg_of X G a26⟩
 have H_least:HasY l.prog w K mg base 6 "least" ["n", "m", "a", "b", "top", "bottom"] (spGrY ⟨c_NoLine,c_NoFraction,c_NoForm,c_NoWidth,c_WiseError⟩ PT):=⟨_,_,ok_least F28 T H_need_line H_need_fraction H_greatest_lack,b28,k28,PySem.W.mg_of X G a28⟩
 have H_need_product:HasY l.prog w K mg base 5 "need_product" ["width", "top", "bottom", "factor", "addend", "total"] (spNP ⟨c_NoLine,c_NoFraction,c_NoForm,c_NoWidth,c_WiseError⟩):=⟨_,_,ok_need_product F24 T H_need_width H_need_fraction H_is_short H_is_between X_NoFraction X_NoForm,b24,k24,PySem.W.mg_of X G a24⟩
 have H_fits:HasY l.prog w K mg base 6 "fits" ["width", "top", "bottom", "factor", "addend", "total"] (spFit6 ⟨c_NoLine,c_NoFraction,c_NoForm,c_NoWidth,c_WiseError⟩):=⟨_,_,ok_fits F32 T H_need_product H_misfit H_quotient_corners,b32,k32,PySem.W.mg_of X G a32⟩
 have H_miss_of:HasY l.prog w K mg base 6 "miss_of" ["width", "top", "bottom", "factor", "addend", "total"] (spMOY ⟨c_NoLine,c_NoFraction,c_NoForm,c_NoWidth,c_WiseError⟩ PT):=⟨_,_,ok_miss_of F29 T H_need_product H_greatest_miss H_greatest_lack,b29,k29,PySem.W.mg_of X G a29⟩
 have H_height:HasY l.prog w K mg base 5 "height" ["n", "m", "a", "b", "x"] (spHt ⟨c_NoLine,c_NoFraction,c_NoForm,c_NoWidth,c_WiseError⟩):=⟨_,_,ok_height F12 T H_need_line,b12,k12,PySem.W.mg_of X G a12⟩
 have H_corners:HasY l.prog w K mg base 5 "corners" ["n", "m", "a", "b"] (spL4 ⟨c_NoLine,c_NoFraction,c_NoForm,c_NoWidth,c_WiseError⟩):=⟨_,_,ok_corners F17 T H_need_line H_corner_points,b17,k17,PySem.W.mg_of X G a17⟩
 have H_falls:HasY l.prog w K mg base 5 "falls" ["n", "m", "a", "b"] (spL4 ⟨c_NoLine,c_NoFraction,c_NoForm,c_NoWidth,c_WiseError⟩):=⟨_,_,ok_falls F14 T H_need_line H_fall_rows,b14,k14,PySem.W.mg_of X G a14⟩
 have H_inverse_by:Has l.prog w K mg base 1 "inverse_by" ["number", "bottom"] spInvB:=⟨_,_,ok_inverse_by F18 T ,b18,k18,PySem.W.mg_of X G a18⟩
 have H_side_between:Has l.prog w K mg base 2 "side_between" ["one", "other"] spSide:=⟨_,_,ok_side_between F19 T H_common_divisor H_inverse_by,b19,k19,PySem.W.mg_of X G a19⟩
 have H_paper:HasY l.prog w K mg base 5 "paper" ["n", "m", "a", "b"] (spL4 ⟨c_NoLine,c_NoFraction,c_NoForm,c_NoWidth,c_WiseError⟩):=⟨_,_,ok_paper F20 T H_need_line H_corner_points H_side_between,b20,k20,PySem.W.mg_of X G a20⟩
 have H_is_seven:Has l.prog w K mg base 1 "is_seven" ["thing"] spNever:=⟨_,_,ok_is_seven F21 T ,b21,k21,PySem.W.mg_of X G a21⟩
 have H_is_paper:HasY l.prog w K mg base 5 "is_paper" ["n", "m", "a", "b", "thing"] (spIsP ⟨c_NoLine,c_NoFraction,c_NoForm,c_NoWidth,c_WiseError⟩):=⟨_,_,ok_is_paper F22 T H_need_line H_is_seven,b22,k22,PySem.W.mg_of X G a22⟩
 have H_greatest:HasY l.prog w K mg base 5 "greatest" ["n", "m", "a", "b", "top", "bottom"] (spGrY ⟨c_NoLine,c_NoFraction,c_NoForm,c_NoWidth,c_WiseError⟩ PT):=⟨_,_,ok_greatest F27 T H_need_line H_need_fraction H_greatest_miss,b27,k27,PySem.W.mg_of X G a27⟩
 have H__law_asked:HasY l.prog w K mg base 7 "_law_asked" ["_law_door", "_law_things"] (spAsk ⟨c_NoLine,c_NoFraction,c_NoForm,c_NoWidth,c_WiseError⟩ PT):=⟨_,_,ok__law_asked F39 T H_exact_form H_least H_fits H_miss_of H_height H_corners H_falls H_paper H_is_paper H_greatest,b39,k39,PySem.W.mg_of X G a39⟩
 have H__law_alone:HasE l.prog w K mg base 1 "_law_alone" ["_law_e", "_law_word"] (spAlone ⟨c_NoLine,c_NoFraction,c_NoForm,c_NoWidth,c_WiseError⟩):=⟨_,_,fun _ _=>ok__law_alone F40 T ,b40,k40,PySem.W.mg_of X G a40⟩
 have H__law_same:HasR l.prog w K mg base (fun _=>CX0) true 1 "_law_same" ["_law_found", "_law_due"] spSame:=⟨_,_,ok__law_same F38 T ,b38,k38,PySem.W.mg_of X G a38⟩
 have H__law_answer:Has l.prog w K mg base 8 "_law_answer" ["_law_door", "_law_things"] (spAns PT):=⟨_,_,ok__law_answer F41 T H__law_asked H__law_alone H__law_same,b41,k41,PySem.W.mg_of X G a41⟩
 exact ok_law F47 T H__law_take H__law_line_things H__law_due_of_line H__law_row_things H__law_due_of_row H__law_answer
theorem walk {l:PySem.W.OpenLaw} {q:Program} {loose:List Str} {XP:(Str→Option Value)→Heap→Prop} {YP:World→Heap→Prop} {d:DefRec} {K:Params→PySem.W.Frag} {cT PT:Addr} (hn:l.most = some 63) (hdf:d.params.defaults = [])
  (hY:∀ (w:World) (h:Heap),YP w h→(K w.params).In h)
  (hT:∀ (w:World) (lo:List Str) (mean:ExcName→Option Value) (mg mb:Str→Option Value) (h:Heap),Top q lo mean mg mb h→(K w.params).In h→PySem.W.CodeHd h cT PT∧h.get? PT = some (PySem.W.tabObj #[]))
  (hTK:∀ w:World,(K w.params).lookup PT = none)
  (F:∀ (w:World) (mg:Str→Option Value) (fa:Addr) (h:Heap),(K w.params).In h→h.Ns mainGlobals mg→mg d.name = some (.ref fa) →
   ∃ fd:FuncData,(∀ (s:Shared) (u:Value),BindsTo s fd ⟨[u],[]⟩ [("_law_script",u)])∧∀ base:Heap,(K w.params).In base→base.Ns mainGlobals mg→(∀ t ∈ [(cT,PT)],LamBase mg base t.1 t.2)→FnOk l.prog w (K w.params) mg base CX0 9 fa fd ["_law_script"] (spLaw (K w.params) PT)) :
  PySem.W.WalkO q loose XP YP l.row.toRowW d [] (fun f vs=>PySem.call f vs) :=
 L2.walk_ofT (n:=63) (k:=9) (x:="_law_script") (CX:=fun _=>CX0) (sp:=fun w=>spLaw (K w.params) PT) [(cT,PT)] hn (by decide) hdf ⟨rfl,by decide,by decide,rfl⟩ hY (fun w lo mean mg mb h T X=>List.forall_mem_singleton.mpr (hT w lo mean mg mb h T X)) (fun w=>List.forall_mem_singleton.mpr (hTK w)) F (fun _ _ a ns hl hT hS=>⟨a,ns,rfl,hS,hl,⟨#[],hT _ (List.mem_singleton.mpr rfl),trivial,.inl rfl⟩,fun _=>rfl⟩) fun _ _ _ _ _ z=>z
end Ow
open PySem PySem.W PyProof.Rows
def PySem.W.Fast.tw13262383660192976310:Nat:=0
def PySem.W.Fast.tw2842409632787444903:Nat:=0
def PySem.W.Fast.tw9920153538268387762:Nat:=0
def PySem.W.Fast.tw4439159776486735452:Nat:=0
def PySem.W.Fast.tw127009724935005562:Nat:=0
def PySem.W.Fast.tw970896684346594534:Nat:=0
def PySem.W.Fast.tw11346315999343506560:Nat:=0
def PySem.W.Fast.tw9898425369066786422:Nat:=0
def PySem.W.Fast.tw14674297997453343688:Nat:=0
def PySem.W.Fast.tw10094081532241390459:Nat:=0
def PySem.W.Fast.tw7179858889042846847:Nat:=0
def PySem.W.Fast.tw7787118735775044957:Nat:=0
def PySem.W.Fast.tw585176391438895429:Nat:=0
def PySem.W.Fast.tw8850532895839253884:Nat:=0
def PySem.W.Fast.tw434391322139521400:Nat:=0
def PySem.W.Fast.tw1118143606328578844:Nat:=0
def PySem.W.Fast.tw14335998924890765261:Nat:=0
def PySem.W.Fast.tw10317426136306764321:Nat:=0
def PySem.W.Fast.tw11584652025284252832:Nat:=0
def PySem.W.Fast.tw11494938335468817821:Nat:=0
def PySem.W.Fast.tw7285185363258846060:Nat:=0
def PySem.W.Fast.tw15701112091508659790:Nat:=0
def PySem.W.Fast.tw13061546419483275891:Nat:=0
def PySem.W.Fast.tw5065598854773934414:Nat:=0
set_option maxRecDepth 100000 in
set_option maxHeartbeats 0 in
theorem PySem.Challenge.cw_overwise_k49_lines_and_rows_refused_holds : PySem.Challenge.rw_overwise_k49_lines_and_rows_refused.Holds := by
 w_on; o_law; k_head; (case hw=>w_witness2)
 k_fill
 refine Ow.walk (l:=PySem.Challenge.rw_overwise_k49_lines_and_rows_refused) (cT:=269) (PT:=265) rfl rfl (fun w h Y=>PySem.W.km_in_of Y) (fun w lo mean mg mb h T X=>PySem.W.tab_of (x:=PySem.Str.ofString "greatest_miss") T X rfl (by kernel_rfl)) (fun w=>by kernel_rfl) ?F
 case F =>
  intro w mg fa h KX G hmg
  refine' Ow.all_mk KX G hmg ?a1 ?i1 ?l1 ?c1 ?k1 ?a2 ?i2 ?l2 ?c2 ?k2 ?a3 ?i3 ?l3 ?c3 ?k3 ?a4 ?i4 ?l4 ?c4 ?k4 ?a5 ?l5 ?c5 ?k5 ?a6 ?l6 ?c6 ?k6 ?a7 ?l7 ?c7 ?k7 ?a8 ?l8 ?c8 ?k8 ?a9 ?l9 ?c9 ?k9 ?a10 ?l10 ?c10 ?k10 ?a11 ?l11 ?c11 ?k11 ?a12 ?l12 ?c12 ?k12 ?a13 ?l13 ?c13 ?k13 ?a14 ?l14 ?c14 ?k14 ?a15 ?l15 ?c15 ?k15 ?a16 ?l16 ?c16 ?k16 ?a17 ?l17 ?c17 ?k17 ?a18 ?l18 ?c18 ?k18 ?a19 ?l19 ?c19 ?k19 ?a20 ?l20 ?c20 ?k20 ?a21 ?l21 ?c21 ?k21 ?a22 ?l22 ?c22 ?k22 ?a23 ?l23 ?c23 ?k23 ?a24 ?l24 ?c24 ?k24 ?a25 ?l25 ?c25 ?k25 ?a26 ?l26 ?c26 ?k26 ?a27 ?l27 ?c27 ?k27 ?a28 ?l28 ?c28 ?k28 ?a29 ?l29 ?c29 ?k29 ?a30 ?l30 ?c30 ?k30 ?a31 ?l31 ?c31 ?k31 ?a32 ?l32 ?c32 ?k32 ?a33 ?l33 ?c33 ?k33 ?a34 ?l34 ?c34 ?k34 ?a35 ?l35 ?c35 ?k35 ?a36 ?l36 ?c36 ?k36 ?a37 ?l37 ?c37 ?k37 ?a38 ?l38 ?c38 ?k38 ?a39 ?l39 ?c39 ?k39 ?a40 ?l40 ?c40 ?k40 ?a41 ?l41 ?c41 ?k41 ?a42 ?l42 ?c42 ?k42 ?a43 ?l43 ?c43 ?k43 ?a44 ?l44 ?c44 ?k44 ?a45 ?l45 ?c45 ?k45 ?a46 ?l46 ?c46 ?k46 ?a47 ?l47 ?c47 ?k47  ?aC_NoLine ?aC_NoFraction ?aC_NoForm ?aC_NoWidth ?aC_WiseError ?xe_NoLine ?xs_NoLine ?xm_NoLine ?xn_NoLine ?xf_NoLine ?xk_NoLine ?xe_NoFraction ?xs_NoFraction ?xm_NoFraction ?xn_NoFraction ?xf_NoFraction ?xk_NoFraction ?xe_NoForm ?xs_NoForm ?xm_NoForm ?xn_NoForm ?xf_NoForm ?xk_NoForm ?xe_NoWidth ?xs_NoWidth ?xm_NoWidth ?xn_NoWidth ?xf_NoWidth ?xk_NoWidth    ?kf_if__NoLine ?kf_tf_NoLine ?kf_mf_NoLine ?kf_wb_NoLine ?kf_ga_NoLine ?kf_gn_NoLine ?kf_gc_NoLine ?kf_mo_NoLine ?kf_mb_NoLine ?kf_hd_NoLine ?kf_nf_NoLine ?kf_mw_NoLine ?kf_mv_NoLine ?kf_m_NoLine_NoFraction ?kf_m_NoLine_NoForm ?kf_m_NoLine_NoWidth ?kf_if__NoFraction ?kf_tf_NoFraction ?kf_mf_NoFraction ?kf_wb_NoFraction ?kf_ga_NoFraction ?kf_gn_NoFraction ?kf_gc_NoFraction ?kf_mo_NoFraction ?kf_mb_NoFraction ?kf_hd_NoFraction ?kf_nf_NoFraction ?kf_mw_NoFraction ?kf_mv_NoFraction ?kf_m_NoFraction_NoLine ?kf_m_NoFraction_NoForm ?kf_m_NoFraction_NoWidth ?kf_if__NoForm ?kf_tf_NoForm ?kf_mf_NoForm ?kf_wb_NoForm ?kf_ga_NoForm ?kf_gn_NoForm ?kf_gc_NoForm ?kf_mo_NoForm ?kf_mb_NoForm ?kf_hd_NoForm ?kf_nf_NoForm ?kf_mw_NoForm ?kf_mv_NoForm ?kf_m_NoForm_NoLine ?kf_m_NoForm_NoFraction ?kf_m_NoForm_NoWidth ?kf_if__NoWidth ?kf_tf_NoWidth ?kf_mf_NoWidth ?kf_wb_NoWidth ?kf_ga_NoWidth ?kf_gn_NoWidth ?kf_gc_NoWidth ?kf_mo_NoWidth ?kf_mb_NoWidth ?kf_hd_NoWidth ?kf_nf_NoWidth ?kf_mw_NoWidth ?kf_mv_NoWidth ?kf_m_NoWidth_NoLine ?kf_m_NoWidth_NoFraction ?kf_m_NoWidth_NoForm ?kf_if__WiseError ?kf_tf_WiseError ?kf_wb_WiseError ?hcT ?z_isinstance ?z_int ?z_bool ?z_list ?z_tuple ?z_len ?z_max ?z_min ?z_range ?z_sorted ?z_set ?z_abs ?z_all ?z_ValueError
  (case aC_NoLine=>k_is)
  (case aC_NoFraction=>k_is)
  (case aC_NoForm=>k_is)
  (case aC_NoWidth=>k_is)
  (case aC_WiseError=>k_is)
  (case a1=>k_is); (case i1=>k_is); (case l1=>k_is); (case c1=>k_is); (case k1=>k_is)
  (case a2=>k_is); (case i2=>k_is); (case l2=>k_is); (case c2=>k_is); (case k2=>k_is)
  (case a3=>k_is); (case i3=>k_is); (case l3=>k_is); (case c3=>k_is); (case k3=>k_is)
  (case a4=>k_is); (case i4=>k_is); (case l4=>k_is); (case c4=>k_is); (case k4=>k_is)
  (case a5=>k_is); (case l5=>k_is); (case c5=>k_is); (case k5=>k_is)
  (case a6=>k_is); (case l6=>k_is); (case c6=>k_is); (case k6=>k_is)
  (case a7=>k_is); (case l7=>k_is); (case c7=>k_is); (case k7=>k_is)
  (case a8=>k_is); (case l8=>k_is); (case c8=>k_is); (case k8=>k_is)
  (case a9=>k_is); (case l9=>k_is); (case c9=>k_is); (case k9=>k_is)
  (case a10=>k_is); (case l10=>k_is); (case c10=>k_is); (case k10=>k_is)
  (case a11=>k_is); (case l11=>k_is); (case c11=>k_is); (case k11=>k_is)
  (case a12=>k_is); (case l12=>k_is); (case c12=>k_is); (case k12=>k_is)
  (case a13=>k_is); (case l13=>k_is); (case c13=>k_is); (case k13=>k_is)
  (case a14=>k_is); (case l14=>k_is); (case c14=>k_is); (case k14=>k_is)
  (case a15=>k_is); (case l15=>k_is); (case c15=>k_is); (case k15=>k_is)
  (case a16=>k_is); (case l16=>k_is); (case c16=>k_is); (case k16=>k_is)
  (case a17=>k_is); (case l17=>k_is); (case c17=>k_is); (case k17=>k_is)
  (case a18=>k_is); (case l18=>k_is); (case c18=>k_is); (case k18=>k_is)
  (case a19=>k_is); (case l19=>k_is); (case c19=>k_is); (case k19=>k_is)
  (case a20=>k_is); (case l20=>k_is); (case c20=>k_is); (case k20=>k_is)
  (case a21=>k_is); (case l21=>k_is); (case c21=>k_is); (case k21=>k_is)
  (case a22=>k_is); (case l22=>k_is); (case c22=>k_is); (case k22=>k_is)
  (case a23=>k_is); (case l23=>k_is); (case c23=>k_is); (case k23=>k_is)
  (case a24=>k_is); (case l24=>k_is); (case c24=>k_is); (case k24=>k_is)
  (case a25=>k_is); (case l25=>k_is); (case c25=>k_is); (case k25=>k_is)
  (case a26=>k_is); (case l26=>k_is); (case c26=>k_is); (case k26=>k_is)
  (case a27=>k_is); (case l27=>k_is); (case c27=>k_is); (case k27=>k_is)
  (case a28=>k_is); (case l28=>k_is); (case c28=>k_is); (case k28=>k_is)
  (case a29=>k_is); (case l29=>k_is); (case c29=>k_is); (case k29=>k_is)
  (case a30=>k_is); (case l30=>k_is); (case c30=>k_is); (case k30=>k_is)
  (case a31=>k_is); (case l31=>k_is); (case c31=>k_is); (case k31=>k_is)
  (case a32=>k_is); (case l32=>k_is); (case c32=>k_is); (case k32=>k_is)
  (case a33=>k_is); (case l33=>k_is); (case c33=>k_is); (case k33=>k_is)
  (case a34=>k_is); (case l34=>k_is); (case c34=>k_is); (case k34=>k_is)
  (case a35=>k_is); (case l35=>k_is); (case c35=>k_is); (case k35=>k_is)
  (case a36=>k_is); (case l36=>k_is); (case c36=>k_is); (case k36=>k_is)
  (case a37=>k_is); (case l37=>k_is); (case c37=>k_is); (case k37=>k_is)
  (case a38=>k_is); (case l38=>k_is); (case c38=>k_is); (case k38=>k_is)
  (case a39=>k_is); (case l39=>k_is); (case c39=>k_is); (case k39=>k_is)
  (case a40=>k_is); (case l40=>k_is); (case c40=>k_is); (case k40=>k_is)
  (case a41=>k_is); (case l41=>k_is); (case c41=>k_is); (case k41=>k_is)
  (case a42=>k_is); (case l42=>k_is); (case c42=>k_is); (case k42=>k_is)
  (case a43=>k_is); (case l43=>k_is); (case c43=>k_is); (case k43=>k_is)
  (case a44=>k_is); (case l44=>k_is); (case c44=>k_is); (case k44=>k_is)
  (case a45=>k_is); (case l45=>k_is); (case c45=>k_is); (case k45=>k_is)
  (case a46=>k_is); (case l46=>k_is); (case c46=>k_is); (case k46=>k_is)
  (case a47=>k_is); (case l47=>k_is); (case c47=>k_is); (case k47=>k_is)
  (case xe_NoLine=>kernel_rfl); (case xs_NoLine=>k_is); (case xm_NoLine=>k_is); (case xn_NoLine=>k_is); (case xf_NoLine=>k_is); (case xk_NoLine=>k_is)
  (case xe_NoFraction=>kernel_rfl); (case xs_NoFraction=>k_is); (case xm_NoFraction=>k_is); (case xn_NoFraction=>k_is); (case xf_NoFraction=>k_is); (case xk_NoFraction=>k_is)
  (case xe_NoForm=>kernel_rfl); (case xs_NoForm=>k_is); (case xm_NoForm=>k_is); (case xn_NoForm=>k_is); (case xf_NoForm=>k_is); (case xk_NoForm=>k_is)
  (case xe_NoWidth=>kernel_rfl); (case xs_NoWidth=>k_is); (case xm_NoWidth=>k_is); (case xn_NoWidth=>k_is); (case xf_NoWidth=>k_is); (case xk_NoWidth=>k_is)
  (case kf_if__NoLine=>k_is)
  (case kf_tf_NoLine=>k_is)
  (case kf_mf_NoLine=>k_is)
  (case kf_wb_NoLine=>k_is)
  (case kf_ga_NoLine=>k_is)
  (case kf_gn_NoLine=>k_is)
  (case kf_gc_NoLine=>k_is)
  (case kf_mo_NoLine=>k_is)
  (case kf_mb_NoLine=>k_is)
  (case kf_hd_NoLine=>k_is)
  (case kf_nf_NoLine=>k_is)
  (case kf_mw_NoLine=>k_is)
  (case kf_mv_NoLine=>k_is)
  (case kf_m_NoLine_NoFraction=>k_is)
  (case kf_m_NoLine_NoForm=>k_is)
  (case kf_m_NoLine_NoWidth=>k_is)
  (case kf_if__NoFraction=>k_is)
  (case kf_tf_NoFraction=>k_is)
  (case kf_mf_NoFraction=>k_is)
  (case kf_wb_NoFraction=>k_is)
  (case kf_ga_NoFraction=>k_is)
  (case kf_gn_NoFraction=>k_is)
  (case kf_gc_NoFraction=>k_is)
  (case kf_mo_NoFraction=>k_is)
  (case kf_mb_NoFraction=>k_is)
  (case kf_hd_NoFraction=>k_is)
  (case kf_nf_NoFraction=>k_is)
  (case kf_mw_NoFraction=>k_is)
  (case kf_mv_NoFraction=>k_is)
  (case kf_m_NoFraction_NoLine=>k_is)
  (case kf_m_NoFraction_NoForm=>k_is)
  (case kf_m_NoFraction_NoWidth=>k_is)
  (case kf_if__NoForm=>k_is)
  (case kf_tf_NoForm=>k_is)
  (case kf_mf_NoForm=>k_is)
  (case kf_wb_NoForm=>k_is)
  (case kf_ga_NoForm=>k_is)
  (case kf_gn_NoForm=>k_is)
  (case kf_gc_NoForm=>k_is)
  (case kf_mo_NoForm=>k_is)
  (case kf_mb_NoForm=>k_is)
  (case kf_hd_NoForm=>k_is)
  (case kf_nf_NoForm=>k_is)
  (case kf_mw_NoForm=>k_is)
  (case kf_mv_NoForm=>k_is)
  (case kf_m_NoForm_NoLine=>k_is)
  (case kf_m_NoForm_NoFraction=>k_is)
  (case kf_m_NoForm_NoWidth=>k_is)
  (case kf_if__NoWidth=>k_is)
  (case kf_tf_NoWidth=>k_is)
  (case kf_mf_NoWidth=>k_is)
  (case kf_wb_NoWidth=>k_is)
  (case kf_ga_NoWidth=>k_is)
  (case kf_gn_NoWidth=>k_is)
  (case kf_gc_NoWidth=>k_is)
  (case kf_mo_NoWidth=>k_is)
  (case kf_mb_NoWidth=>k_is)
  (case kf_hd_NoWidth=>k_is)
  (case kf_nf_NoWidth=>k_is)
  (case kf_mw_NoWidth=>k_is)
  (case kf_mv_NoWidth=>k_is)
  (case kf_m_NoWidth_NoLine=>k_is)
  (case kf_m_NoWidth_NoFraction=>k_is)
  (case kf_m_NoWidth_NoForm=>k_is)
  (case kf_if__WiseError=>k_is)
  (case kf_tf_WiseError=>k_is)
  (case kf_wb_WiseError=>k_is)
  (case hcT=>exact rfl)
  (case z_isinstance=>k_is)
  (case z_int=>k_is)
  (case z_bool=>k_is)
  (case z_list=>k_is)
  (case z_tuple=>k_is)
  (case z_len=>k_is)
  (case z_max=>k_is)
  (case z_min=>k_is)
  (case z_range=>k_is)
  (case z_sorted=>k_is)
  (case z_set=>k_is)
  (case z_abs=>k_is)
  (case z_all=>k_is)
  (case z_ValueError=>k_is)
